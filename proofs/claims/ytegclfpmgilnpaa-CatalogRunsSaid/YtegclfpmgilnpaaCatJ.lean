/-
  Catalogs: the law's Own.
-/
import Derived.Test.YtegclfpmgilnpaaCatI
namespace Go.Proofs.Ytegclfpmgilnpaa
open Go.RowKit Go.Lac

/-- What owns its row keeps it where another row, of another type, grows. -/
theorem own_other {w w' : World} {b b' : Nat} {e e' : TypeId} {s s' : Nat} {v v' : Value} {n n' : Nat} {xs xs' : List Value} (ho : w.ownsRow b e s v n xs) (hr : w.ownsRow b' e' s' v' n' xs') (hne : e' ≠ e) (hg : w.grownBy w' v'.ownBlock) : w'.ownsRow b e s v n xs := by
  rcases hr.2 with ⟨rfl, _⟩ | ⟨g, cap, cur, rfl, _, hh, _⟩
  · refine ho.kept hg ?_
    cases hv : v.ownBlock with
    | none => exact .inl rfl
    | some k => exact .inr (by simp [Value.ownBlock])
  · exact ho.kept hg (.inr fun e => own_ne ho hh hne _ e rfl)
def OwnsPost (l : List Rl) (w : World) (e : Ending) (w' : World) : Prop :=
  ∃ v, e = .returned v ∧ Ext w w' ∧ ∃ cs, RlC (OwnP w.heap.size w') l cs ∧ w'.ownsRow w.heap.size 39 5 v l.length cs
set_option maxRecDepth 20000 in
set_option maxHeartbeats 2000000 in
theorem owns_any (v : Value) (l : List Rl) (w : World) (h : RlS (ColS w) w v l) (hl : l.length ≤ 1000000) (hc : ∀ r ∈ l, r.cols.length ≤ 5864062014805) :
    Calls Try.prog 28 #[v] w (OwnsPost l w) := by
  have HR := Lib.hid h; have HCL := Lib.hid hc
  obtain ⟨ao, cap, rfl, hlc, hcm⟩ := h.shape
  obtain ⟨ci, chi, _, chs, _⟩ := info_parts infoQlZ
  have CHI := Lib.hid chi; have CHS := Lib.hid chs
  obtain ⟨i, hi1, hz, hs, hby⟩ := info_parts infoRlZ
  have HI := Lib.hid hi1; have HZ1 := Lib.hid hz; have HSZ := Lib.hid hs; have HBY := Lib.hid hby
  clear h hlc hcm chi chs hi1 hz hs hby hc
  generalize hn : l.length = n at *
  have HN := Lib.hid hn; clear hn
  go_enter Try.func28, Try.ntmps28
  go_wp2
  go_loopw [3, 4] (fun vb ix wr => ∃ k : Nat, k ≤ n ∧ ix = .int .i64 k ∧ Hid (Ext w wr) ∧ Hid (∃ cs, RlC (OwnP w.heap.size wr) (l.take k) cs ∧ wr.ownsRow w.heap.size 39 5 vb k cs)) (fun _ ix _ => n - (intOf ix).toNat)
  case atStart => exact ⟨0, Nat.zero_le _, rfl, Lib.hid (Ch.refl _ _), Lib.hid ⟨[], by simp [RlC], World.ownsRow_nil _ _ _ _⟩⟩
  case round =>
    obtain ⟨k, hk, rfl, HX, HO⟩ := hrel
    obtain ⟨cs, hcs, hown⟩ := HO.out
    obtain ⟨vo, vc, rfl⟩ := owns_shape hown
    have HCS := Lib.hid hcs; have HOW := Lib.hid hown
    clear hcs hown
    by_cases hlt : k < n
    · have hkl : k < l.length := by have := HN.out; omega
      obtain ⟨b, o, cv, rfl, hra0, hcv⟩ := rlS_at HR.out hkl
      have hra : wr.rangeAt b (o + k * 5) (relv l[k] cv).toList := fun j u hu => HX.out.cell (p := ⟨b, o + k * 5 + j, none⟩) (fun f => f) _ (hra0 j u hu)
      have HTK : Hid (l.take (k + 1) = l.take k ++ [l[k]]) := Lib.hid (List.take_succ_eq_append_getElem hkl)
      have h16 := HCL.out l[k] (List.getElem_mem hkl)
      generalize l[k] = x at *
      have hidx := run_indexSl wr Try.underlying22 CHI.out CHS.out b o n cap k hlt
      have q0 : wr.cell? ⟨b, o + k * 5, none⟩ = some (.int .u32 (x.oid : Nat)) := by have := hra 0 _ rfl; simpa using this
      have q1 : wr.cell? ⟨b, o + k * 5 + 1, none⟩ = some (.int .u32 (x.ver : Nat)) := hra 1 _ rfl
      have q2 : wr.cell? ⟨b, o + k * 5 + 2, none⟩ = some (.string ⟨x.name.toArray⟩) := hra 2 _ rfl
      have q3 : wr.cell? ⟨b, o + k * 5 + 3, none⟩ = some (.int .u8 (x.ident : Nat)) := hra 3 _ rfl
      have q4 : wr.cell? ⟨b, o + k * 5 + 4, none⟩ = some cv := hra 4 _ rfl
      obtain ⟨co, cc, rfl, _⟩ := id hcv
      have HOX := Lib.hid (relOwn_any x (.slice co x.cols.length cc) wr (ColS.ext hcv HX.out) (by omega))
      have HLT := Lib.hid hlt
      clear hra0 hra hcv hkl h16
      unfold relv strV at HOX
      go_wp2_with fail
      refine HOX.out.mono ?_
      rintro e w2 ⟨c, rfl, hx2, ho⟩
      have HX2 := Lib.hid (HX.out.trans hx2)
      have HOC := Lib.hid (ownsRow_down ho HX.out.size)
      obtain ⟨fo, fc, rfl⟩ := owns_shape ho
      have hone := fun w => oneRl w (x.oid : Nat) (x.ver : Nat) ⟨x.name.toArray⟩ (x.ident : Nat) fo x.cols.length fc
      have HCS2 := Lib.hid (HCS.out.imp (Q := OwnP w.heap.size w2) (OwnP.ext hx2))
      have HOW2 := Lib.hid (HOW.out.ext hx2)
      obtain ⟨w3, hw3⟩ : ∃ w3, w3 = w2.alloc (.cells (relv x (.slice fo x.cols.length fc)) 39) := ⟨_, rfl⟩
      have hx3 : Ext w2 w3 := by rw [hw3]; exact (Ch.refl _ _).alloc _
      have HR3 : Hid (w3.heap[w2.heap.size]? = some (.cells (relv x (.slice fo x.cols.length fc)) 39 (0, 0))) := Lib.hid (by rw [hw3]; exact heap_alloc_new w2 _)
      have HOW3 := Lib.hid (HOW2.out.ext hx3); have HCS3 := Lib.hid (HCS2.out.imp (Q := OwnP w.heap.size w3) (OwnP.ext hx3)); have HOC3 := Lib.hid (HOC.out.ext hx3)
      have HX3 := Lib.hid (HX2.out.trans hx3); have HW3 := Lib.hid hw3
      clear hx2 ho hx3 hw3 q0 q1 q2 q3 q4 hidx HOX HCS HOW HCS2 HOW2 HOC
      unfold relv strV at *
      go_wp2_with (at_builtin; rw [← HW3.out]; refine wpList_append_sl _ rfl _ _ 62 rfl w.heap.size 39 i (.agg #[.int .u32 0, .int .u32 0, .string ⟨#[]⟩, .int .u8 0, .slice none 0 0]) 5 56 Try.underlying62 HI.out HZ1.out HSZ.out HBY.out rfl (by decide) _ _ _ rfl HOW3.out _ 1 _ rfl (sl_row HR3.out) rfl (fun u hu => RlC.oneC (base := w.heap.size) (w := w3) (RlC.one (r := x) HOC3.out) u hu) (by omega) (by unfold maxLen; omega) HX3.out.size ?_)
      intro v5 w5 hown5 hgrow
      have HX5 : Hid (Ext w w5) := Lib.hid (HX3.out.grown hgrow fun j hj => .inr (HOW3.out.lt j hj).1)
      have HO5 : Hid (∃ cs, RlC (OwnP w.heap.size w5) (l.take (k + 1)) cs ∧ w5.ownsRow w.heap.size 39 5 v5 (k + 1) cs) := Lib.hid (by
        rw [HTK.out]
        refine ⟨_, (HCS3.out.imp fun v c h => own_other h HOW3.out (by decide) hgrow).append (RlC.one (own_other HOC3.out HOW3.out (by decide) hgrow)), hown5⟩)
      clear hown5 hgrow HCS3 HOW3 HOC3 HTK hone
      go_wp2
      go_roundw
      case rel => exact ⟨k + 1, HLT.out, by simp, HX5, HO5⟩
      case measure => simp [intOf]; have := HLT.out; omega
    · obtain rfl : k = n := by omega
      have HF : Hid (RlC (OwnP w.heap.size wr) l cs) := Lib.hid (by have := HCS.out; rwa [← HN.out, List.take_length] at this)
      go_wp2
      go_ret
      exact ⟨_, rfl, HX.out, cs, HF.out, by rw [HN.out]; exact HOW.out⟩
end Go.Proofs.Ytegclfpmgilnpaa
