/-
  CatalogOwn: the walk. MADE BY mkCatOwn.py
-/
import Derived.Test.YtegclfpmgilnpaaCatS
import Derived.Test.YtegclfpmgilnpaaCatR
import Derived.Test.YtegclfpmgilnpaaCatQ
namespace Go.Proofs.Ytegclfpmgilnpaa
open Go.RowKit Go.Lac

theorem fieldRl_3o (w : World) (b o : Nat) : (Instr.fieldAt 39 (.pointer (some ⟨b, o, none⟩)) 3).run Try.prog w = .ok (.pointer (some ⟨b, o + 4, none⟩)) w := by kernel_rfl
theorem fieldCo_0o (w : World) (b o : Nat) : (Instr.fieldAt 69 (.pointer (some ⟨b, o, none⟩)) 0).run Try.prog w = .ok (.pointer (some ⟨b, o, none⟩)) w := by kernel_rfl
theorem fieldCo_1o (w : World) (b o : Nat) : (Instr.fieldAt 69 (.pointer (some ⟨b, o, none⟩)) 1).run Try.prog w = .ok (.pointer (some ⟨b, o + 1, none⟩)) w := by kernel_rfl
/-- So many columns lie there, to be written. -/
def ColV (M : Nat → Prop) (w : World) (cv : Value) (n : Nat) : Prop :=
  ∃ ao cap, cv = .slice ao n cap ∧ n ≤ 1000000 ∧ (0 < n → ∃ g cur, ao = some ⟨g, 0, none⟩ ∧ M g ∧ w.heap[g]? = some (.cells cur 69 (0, 0)) ∧ n * 3 ≤ cur.size)
theorem ColV.of {M : Nat → Prop} {base : Nat} {w : World} {cv : Value} {n : Nat} {xs : List Value} (h : w.ownsRow base 69 3 cv n xs) (hn : n ≤ 1000000) (hM : ∀ g, base ≤ g → g < w.heap.size → M g) : ColV M w cv n := by
  rcases h.2 with ⟨rfl, rfl⟩ | ⟨g, cap, cur, rfl, hb, hh, hc, _, hs, _⟩
  · exact ⟨none, 0, rfl, hn, fun h => absurd h (Nat.lt_irrefl _)⟩
  · exact ⟨some ⟨g, 0, none⟩, cap, rfl, hn, fun _ => ⟨g, cur, rfl, hM g hb (Array.getElem?_eq_some_iff.1 hh).1, hh, by omega⟩⟩
theorem ColV.ext {M : Nat → Prop} {w w' : World} {cv : Value} {n : Nat} (h : ColV M w cv n) (hx : Ext w w') : ColV M w' cv n := by
  obtain ⟨ao, cap, h1, h2, h3⟩ := h
  exact ⟨ao, cap, h1, h2, fun hn => by obtain ⟨g, cur, k1, k2, k3, k4⟩ := h3 hn; exact ⟨g, cur, k1, k2, heap_ext hx k3, k4⟩⟩
theorem ColV.set {M : Nat → Prop} {w : World} {cv : Value} {n : Nat} (h : ColV M w cv n) {g' i : Nat} {cur' : Array Value} (hg : w.heap[g']? = some (.cells cur' 69 (0, 0))) (u : Value) : ColV M (w.setCell ⟨g', i, none⟩ u) cv n := by
  obtain ⟨ao, cap, h1, h2, h3⟩ := h
  refine ⟨ao, cap, h1, h2, fun hn => ?_⟩
  obtain ⟨g, cur, k1, k2, k3, k4⟩ := h3 hn
  by_cases e : g' = g
  · subst e
    rw [hg] at k3
    cases k3
    exact ⟨g', _, k1, k2, heap_setCell_same w g' i _ _ u hg, by simpa using k4⟩
  · exact ⟨g, cur, k1, k2, by rw [(gby_setCell w ⟨g', i, none⟩ u).block g (Array.getElem?_eq_some_iff.1 k3).1 (fun h => e (Option.some.inj h).symm)]; exact k3, k4⟩
theorem CatS.low {base : Nat} {w w' : World} {p : Value} {l : List Rl} (h : CatS base w p l) (hx : Ch (fun j => j < base) w w') : CatS base w' p l := by
  obtain ⟨g, v, rfl, hb, hh, cs, hcs, how⟩ := h
  exact ⟨g, v, rfl, hb, (hx.block g (Array.getElem?_eq_some_iff.1 hh).1 (by omega)).trans hh, cs, hcs.imp fun u c h => own_chK h hx fun k hk => by have := (h.lt k hk).1; omega, own_chK how hx fun k hk => by have := (how.lt k hk).1; omega⟩
theorem catOf_get {l : List Rl} (h : (catOf [] 0 l).2.2 = 0) {x : Rl} (hx : x ∈ l) : catGet (catOf [] 0 l).1 (rf x) = some x := by
  obtain ⟨p1, _⟩ := catOf_perm l [] 0 h
  have ho := (catOf_ok l [] 0 CatOk.nil).order
  rw [List.append_nil] at p1
  have hm : x ∈ (catOf [] 0 l).1 := p1.mem_iff.2 (List.mem_reverse.2 hx)
  obtain ⟨j, hj, rfl⟩ := List.mem_iff_getElem.1 hm
  unfold catGet
  refine List.find?_eq_some_iff_getElem.2 ⟨by simp, j, hj, rfl, fun i hi => ?_⟩
  have := (List.pairwise_iff_getElem.1 ho i j (by omega) hj hi).ne
  simpa using this
def coT (g11 b o n u2c k : Nat) (co : Option Addr) (cc : Nat) (xo : Option Addr) (xc nx : Nat) : Tmp → Kn
  | 55 => .is (.bool true)
  | 56 => .is (.bool false)
  | 57 => .is (.bool false)
  | 58 => .is (.pointer (some ⟨g11, 4, none⟩))
  | 59 => .is (.slice co nx cc)
  | 60 => .is (.int .i64 (nx : Nat))
  | 61 => .is (.slice (some ⟨b, o, none⟩) n u2c)
  | 62 => .is (.int .i64 (k : Nat))
  | 63 => .is (.pointer (some ⟨b, o + k * 5, none⟩))
  | 64 => .is (.pointer (some ⟨b, o + k * 5 + 4, none⟩))
  | 65 => .is (.slice xo nx xc)
  | 66 => .is (.int .i64 (nx : Nat))
  | 67 => .is (.bool false)
  | 68 => .is (.bool false)
  | _ => .any
set_option maxRecDepth 20000 in
set_option maxHeartbeats 4000000 in
theorem catalogOwn_walk (v : Value) (l : List Rl) (w : World) (h : RlS (ColS w) w v l) (hok : ∀ r ∈ l, r.ok ∧ r.fits) :
    Calls Try.prog 6 #[v] w fun e w' => e = .returned (.bool true) ∧ Ext w w' := by
  have HOF := Lib.hid (rOf_any v l w h fun r hr => (hok r hr).2)
  have HR := Lib.hid h; have HF := Lib.hid fun r hr => (hok r hr).2
  obtain ⟨ao, cap, rfl, hlc, hcm⟩ := h.shape
  obtain ⟨ci, chi, cz, chs, cby⟩ := info_parts infoQlZ
  have CHI := Lib.hid chi; have CHS := Lib.hid chs; have CHZ := Lib.hid cz; have CBY := Lib.hid cby
  have hm63 : l.length ≤ 9223372036854775807 := by unfold maxLen at hcm; omega
  clear h hok hlc chi cz chs cby hcm
  generalize hn : l.length = n at *
  have HN := Lib.hid hn; clear hn
  go_enter Try.func6, Try.ntmps6
  go_wp2_with fail
  refine HOF.out.mono ?_
  rintro e w1 ⟨hx1, v1, rfl, hs1⟩
  have HX1 := Lib.hid hx1; have HS1 := Lib.hid hs1
  obtain ⟨so, sc, rfl, _⟩ := hs1.shape
  clear hx1 hs1 HOF
  by_cases h60 : 60 < n
  · generalize (catOf [] 0 l).2.1 = a1 at *
    generalize (catOf [] 0 l).2.2 = a2 at *
    go_wp2
    go_ret
    exact ⟨rfl, HX1.out⟩
  by_cases he : (catOf [] 0 l).2.2 = 0
  case neg =>
    have en : ((((catOf [] 0 l).2.2 : Nat) : Int) != 0) = true := by simp; omega
    clear he
    generalize (catOf [] 0 l).2.1 = a1 at *
    generalize (catOf [] 0 l).2.2 = a2 at *
    go_wp2
    go_ret
    exact ⟨rfl, HX1.out⟩
  rw [he]
  have HE := Lib.hid he
  have HZ := Lib.hid ((catOf_zero l [] 0).1 he)
  have HC6 : Hid (∀ r ∈ l, r.cols.length ≤ 1000000) := Lib.hid fun r hr => by have := (rlErr_zero (HZ.out.1 r hr)).2.2.2.2.2.1; omega
  clear he
  generalize (catOf [] 0 l).2.1 = a1 at *
  generalize hL : (catOf [] 0 l).1 = L at *
  have HL := Lib.hid hL
  have HLK : Hid (CatOk L) := Lib.hid (by rw [← hL]; exact catOf_ok l [] 0 CatOk.nil)
  clear hL
  generalize L.length = m at *
  have hl60 : l.length ≤ 1000000 := by have := HN.out; omega
  have HOW := Lib.hid (owns_any (.slice ao l.length cap) l w1 (by have := HR.out.ext (Q := ColS w1) HX1.out fun v c h => ColS.ext h HX1.out; rwa [← HN.out] at this) hl60 fun r hr => Nat.le_trans (HC6.out r hr) (by decide))
  rw [HN.out] at HOW
  clear hl60
  go_wp2_with fail
  refine HOW.out.mono ?_
  rintro e w2 ⟨u2, rfl, hx2, cs2, hcs2, how2⟩
  have HX2 := Lib.hid (HX1.out.trans hx2)
  have HX12 := Lib.hid hx2
  have HOF2 := Lib.hid (ofC_any u2 l w2 ⟨cs2, hcs2.imp fun u c h => Sl.ofOwns h, Sl.ofOwns how2⟩ HF.out)
  rw [HN.out] at how2
  obtain ⟨u2o, u2c, rfl⟩ := owns_shape how2
  have HCS2 := Lib.hid hcs2; have HOW2 := Lib.hid how2
  clear hx2 hcs2 how2 HOW
  go_wp2_with fail
  refine HOF2.out.mono ?_
  rintro e w3 ⟨hx3, (⟨-, p3, rfl, hct3⟩ | ⟨hne, -⟩)⟩
  case inr => exact absurd HE.out hne
  rw [HL.out] at hct3
  rw [HN.out]
  have HX3 := Lib.hid (HX2.out.trans hx3); have HC3 := Lib.hid hct3
  obtain ⟨g3, v3, rfl, _⟩ := id hct3
  obtain ⟨M, hM⟩ : ∃ M : Nat → Prop, M = fun g => w1.heap.size ≤ g ∧ (g < w2.heap.size ∨ w3.heap.size ≤ g) := ⟨_, rfl⟩
  have HME := Lib.hid hM
  have HCV : Hid (RlC (fun u c => ColV M w3 u c.length) l cs2) := Lib.hid (by
    have h2 : ∀ (l' : List Rl) (cs : List Value), (∀ r ∈ l', r.cols.length ≤ 1000000) → RlC (OwnP w1.heap.size w2) l' cs → RlC (fun u c => ColV M w3 u c.length) l' cs := by
      intro l'
      induction l' with
      | nil => intro cs _ h; exact h
      | cons r l' ih =>
        rintro cs hr ⟨cv, t, e, k1, k2⟩
        exact ⟨cv, t, e, (ColV.of k1 (hr r List.mem_cons_self) fun g h1 h2 => by rw [hM]; exact ⟨h1, .inl h2⟩).ext hx3, ih t (fun q hq => hr q (List.mem_cons_of_mem _ hq)) k2⟩
    exact h2 l cs2 HC6.out HCS2.out)
  have HOW3 := Lib.hid (HOW2.out.ext hx3)
  have HX13 := Lib.hid (HX12.out.trans hx3)
  obtain ⟨ci2, chi2, _, chs2, _⟩ := info_parts infoRlZ
  have CHI2 := Lib.hid chi2; have CHS2 := Lib.hid chs2
  obtain ⟨ci3, chi3, _, chs3, _⟩ := info_parts infoCoZ
  have CHI3 := Lib.hid chi3; have CHS3 := Lib.hid chs3
  clear hx3 hct3 HOF2 hM chi2 chs2 chi3 chs3
  go_wp2
  go_loopw [10] (fun ix wr => ∃ k : Nat, k ≤ n ∧ ix = .int .i64 k ∧ Hid (Ext w1 wr ∧ Ch (fun j => j < w2.heap.size) w3 wr) ∧ Hid (RlC (fun u c => ColV M wr u c.length) l cs2 ∧ wr.ownsRow w1.heap.size 39 5 (.slice u2o n u2c) n cs2)) (fun ix _ => n - (intOf ix).toNat)
  case atStart => exact ⟨0, Nat.zero_le _, rfl, Lib.hid ⟨HX13.out, Ch.refl _ _⟩, Lib.hid ⟨HCV.out, HOW3.out⟩⟩
  case round =>
    obtain ⟨k, hk, rfl, HX, HI⟩ := hrel
    have HCT := Lib.hid (HC3.out.low HX.out.2)
    by_cases hlt : k < n
    · have hkl : k < l.length := by have := HN.out; omega
      have hrs : RlS (fun u c => ColV M wr u c.length) wr (.slice u2o l.length u2c) l := ⟨cs2, HI.out.1, by have := Sl.ofOwns HI.out.2; rw [HN.out]; exact this⟩
      obtain ⟨b, o, xv, hu2, hra, hxv⟩ := rlS_at hrs hkl
      subst hu2
      have hget := catOf_get HE.out (List.getElem_mem hkl)
      rw [HL.out] at hget
      have hxk := List.getElem?_eq_getElem hkl
      generalize l[k] = x at *
      have HXK := Lib.hid hxk
      clear hxk
      have HGT := Lib.hid (get_any w2.heap.size (.pointer (some ⟨g3, 0, none⟩)) L (rf x) wr HCT.out HLK.out)
      rw [hget] at HGT
      obtain ⟨xo, xc, hxe, hx6, _⟩ := id hxv
      subst hxe
      have hidx := run_indexSl wr Try.underlying62 CHI2.out CHS2.out b o n u2c k hlt
      have q0 : wr.cell? ⟨b, o + k * 5, none⟩ = some (.int .u32 (x.oid : Nat)) := by have := hra 0 _ rfl; simpa using this
      have q1 : wr.cell? ⟨b, o + k * 5 + 1, none⟩ = some (.int .u32 (x.ver : Nat)) := hra 1 _ rfl
      have HRA := Lib.hid hra; have HLT := Lib.hid hlt
      clear hget hra hxv hkl hrs
      unfold refv rf at HGT
      go_wp2_with fail
      refine HGT.out.mono ?_
      rintro e w4 ⟨hx4, c, rfl, hc⟩
      have eR : (some x).getD Rl.zero = x := rfl
      rw [eR] at hc ⊢
      rw [Option.isSome_some]
      have HCV4 : Hid (ColV M w4 c x.cols.length) := Lib.hid (ColV.of hc hx6 fun g h1 h2 => by
        rw [HME.out]
        have h3 := HX.out.2.size
        have h4 := HX13.out.size
        exact ⟨by omega, .inr (by omega)⟩)
      obtain ⟨co, cc, rfl⟩ := owns_shape hc
      have HX4 : Hid (Ext w1 w4 ∧ Ch (fun j => j < w2.heap.size) w3 w4) := Lib.hid ⟨HX.out.1.trans hx4, HX.out.2.trans (Ext.ch hx4)⟩
      have HI4 : Hid (RlC (fun u c => ColV M w4 u c.length) l cs2 ∧ w4.ownsRow w1.heap.size 39 5 (.slice (some ⟨b, o, none⟩) n u2c) n cs2) := Lib.hid ⟨HI.out.1.imp fun u c h => h.ext hx4, HI.out.2.ext hx4⟩
      have HQ44 : Hid (w4.cell? ⟨b, o + k * 5 + 4, none⟩ = some (.slice xo x.cols.length xc)) := Lib.hid (hx4.cell (p := ⟨b, o + k * 5 + 4, none⟩) (fun f => f) _ (HRA.out 4 _ rfl))
      obtain ⟨w5, hw5⟩ : ∃ w5, w5 = w4.alloc (.cells (relv x (.slice co x.cols.length cc)) 39) := ⟨_, rfl⟩
      have hx5 : Ext w4 w5 := by rw [hw5]; exact (Ch.refl _ _).alloc _
      obtain ⟨g11, hg11⟩ : ∃ g, g = w4.heap.size := ⟨_, rfl⟩
      have HG11 : Hid (w5.heap[g11]? = some (.cells (relv x (.slice co x.cols.length cc)) 39 (0, 0))) := Lib.hid (by rw [hw5, hg11]; exact heap_alloc_new w4 _)
      have HX5 : Hid (Ext w1 w5 ∧ Ch (fun j => j < w2.heap.size) w3 w5) := Lib.hid ⟨HX4.out.1.trans hx5, HX4.out.2.trans (Ext.ch hx5)⟩
      have HI5 : Hid (RlC (fun u c => ColV M w5 u c.length) l cs2 ∧ w5.ownsRow w1.heap.size 39 5 (.slice (some ⟨b, o, none⟩) n u2c) n cs2) := Lib.hid ⟨HI4.out.1.imp fun u c h => h.ext hx5, HI4.out.2.ext hx5⟩
      have HCV5 := Lib.hid (HCV4.out.ext hx5)
      have HQ4 : Hid (w5.cell? ⟨b, o + k * 5 + 4, none⟩ = some (.slice xo x.cols.length xc)) := Lib.hid (hx5.cell (p := ⟨b, o + k * 5 + 4, none⟩) (fun f => f) _ HQ44.out)
      have HW5 := Lib.hid hw5; have HGE := Lib.hid hg11; have HX6 := Lib.hid hx6
      clear hx4 hc hx5 hw5 hg11 q0 q1 hidx HGT eR hx6
      generalize hnx : x.cols.length = nx at *
      have HNX := Lib.hid hnx
      clear hnx
      unfold relv strV at HW5 ⊢
      go_wp2
      rw [← HGE.out, ← HW5.out]
      refine wp_region_ext (coT g11 b o n u2c k co cc xo xc nx) mixedV (by rfl) (by rfl) ?all ?fin
      case all =>
          refine ⟨?_, ?_, ?_, ?_, ?_, ?_, ?_, ?_, ?_, ?_, ?_, ?_, ?_, ?_, trivial⟩
          · -- 0: slot 55 := Op.move t12
            refine StepOK.plain (kn_stable _) rfl fun ρ w hρ hw hf => ?_
            have h12 : ρ (.tmp 12) = (.bool true) := (hf 12).2 rfl rfl
            exact Exec.kmove rfl rfl h12
          · -- 1: slot 56 := Op.unOp UnOp.not 4 t55
            refine StepOK.plain (kn_stable _) rfl fun ρ w hρ hw hf => ?_
            have h55 : ρ (.tmp 55) = (.bool true) := (hf 55).1 rfl
            exact Exec.same (v := .bool false) rfl (by simp [go_sem, hρ.const, h55]) rfl
          · -- 2: slot 57 := Op.move t56
            refine StepOK.plain (kn_stable _) rfl fun ρ w hρ hw hf => ?_
            have h56 : ρ (.tmp 56) = (.bool false) := (hf 56).1 rfl
            exact Exec.kmove rfl rfl h56
          · -- 3: slot 58 := Op.fieldAddr 39 t11 3
            refine StepOK.guarded (kn_stable _) 2 false 57 rfl rfl (fun ρ w _ _ hf => (hf 57).1 rfl) fun ρ w hρ hw hf => ?_
            have h11 : ρ (.tmp 11) = (.pointer (some ⟨g11, 0, none⟩)) := (hf 11).2 rfl rfl
            exact Exec.kfield rfl rfl h11 (fieldRl_3o w _ 0) rfl
          · -- 4: slot 59 := Op.load 37 t58
            refine StepOK.guarded (kn_stable _) 2 false 57 rfl rfl (fun ρ w _ _ hf => (hf 57).1 rfl) fun ρ w hρ hw hf => ?_
            have h58 : ρ (.tmp 58) = (.pointer (some ⟨g11, 4, none⟩)) := (hf 58).1 rfl
            have hc : w.cell? ⟨g11, 4, none⟩ = some (.slice co nx cc) := by rw [cell_of_row _ _ _ _ _ _ (heap_ext hw HG11.out)]; rfl
            exact Exec.same (v := (.slice co nx cc)) rfl (by simp [go_sem, hρ.const, h58, hc]) rfl
          · -- 5: slot 60 := Op.call { builtin len, args := #[t59], argTypes := #[37] }
            refine StepOK.guarded (kn_stable _) 2 false 57 rfl rfl (fun ρ w _ _ hf => (hf 57).1 rfl) fun ρ w hρ hw hf => ?_
            have h59 : ρ (.tmp 59) = (.slice co nx cc) := (hf 59).1 rfl
            exact Exec.same (v := .int .i64 (nx : Nat)) rfl (by simp [go_sem, hρ.const, h59]) rfl
          · -- 6: slot 61 := Op.move t6
            refine StepOK.guarded (kn_stable _) 2 false 57 rfl rfl (fun ρ w _ _ hf => (hf 57).1 rfl) fun ρ w hρ hw hf => ?_
            have h6 : ρ (.tmp 6) = (.slice (some ⟨b, o, none⟩) n u2c) := (hf 6).2 rfl rfl
            exact Exec.kmove rfl rfl h6
          · -- 7: slot 62 := Op.move t10
            refine StepOK.guarded (kn_stable _) 2 false 57 rfl rfl (fun ρ w _ _ hf => (hf 57).1 rfl) fun ρ w hρ hw hf => ?_
            have h10 : ρ (.tmp 10) = (.int .i64 (k : Nat)) := (hf 10).2 rfl rfl
            exact Exec.kmove rfl rfl h10
          · -- 8: slot 63 := Op.indexAddr 62 t61 t62
            refine StepOK.guarded (kn_stable _) 2 false 57 rfl rfl (fun ρ w _ _ hf => (hf 57).1 rfl) fun ρ w hρ hw hf => ?_
            have h61 : ρ (.tmp 61) = (.slice (some ⟨b, o, none⟩) n u2c) := (hf 61).1 rfl
            have h62 : ρ (.tmp 62) = (.int .i64 (k : Nat)) := (hf 62).1 rfl
            exact Exec.kindex rfl rfl Try.underlying62 CHI2.out CHS2.out h61 h62 HLT.out rfl
          · -- 9: slot 64 := Op.fieldAddr 39 t63 3
            refine StepOK.guarded (kn_stable _) 2 false 57 rfl rfl (fun ρ w _ _ hf => (hf 57).1 rfl) fun ρ w hρ hw hf => ?_
            have h63 : ρ (.tmp 63) = (.pointer (some ⟨b, o + k * 5, none⟩)) := (hf 63).1 rfl
            exact Exec.kfield rfl rfl h63 (fieldRl_3o w _ _) rfl
          · -- 10: slot 65 := Op.load 37 t64
            refine StepOK.guarded (kn_stable _) 2 false 57 rfl rfl (fun ρ w _ _ hf => (hf 57).1 rfl) fun ρ w hρ hw hf => ?_
            have h64 : ρ (.tmp 64) = (.pointer (some ⟨b, o + k * 5 + 4, none⟩)) := (hf 64).1 rfl
            have hc : w.cell? ⟨b, o + k * 5 + 4, none⟩ = some (.slice xo nx xc) := hw.cell (p := ⟨b, o + k * 5 + 4, none⟩) (fun f => f) _ HQ4.out
            exact Exec.same (v := (.slice xo nx xc)) rfl (by simp [go_sem, hρ.const, h64, hc]) rfl
          · -- 11: slot 66 := Op.call { builtin len, args := #[t65], argTypes := #[37] }
            refine StepOK.guarded (kn_stable _) 2 false 57 rfl rfl (fun ρ w _ _ hf => (hf 57).1 rfl) fun ρ w hρ hw hf => ?_
            have h65 : ρ (.tmp 65) = (.slice xo nx xc) := (hf 65).1 rfl
            exact Exec.same (v := .int .i64 (nx : Nat)) rfl (by simp [go_sem, hρ.const, h65]) rfl
          · -- 12: slot 67 := Op.binOp BinOp.neq 3 t60 t66 3
            refine StepOK.guarded (kn_stable _) 2 false 57 rfl rfl (fun ρ w _ _ hf => (hf 57).1 rfl) fun ρ w hρ hw hf => ?_
            have h60 : ρ (.tmp 60) = (.int .i64 (nx : Nat)) := (hf 60).1 rfl
            have h66 : ρ (.tmp 66) = (.int .i64 (nx : Nat)) := (hf 66).1 rfl
            exact Exec.same (v := .bool false) rfl (by simp [go_sem, hρ.const, h60, h66]) rfl
          · -- 13: slot 68 := Op.pick t57 (const (Value.bool true)) t67
            refine StepOK.plain (kn_stable _) rfl fun ρ w hρ hw hf => ?_
            have h57 : ρ (.tmp 57) = (.bool false) := (hf 57).1 rfl
            have h67 : ρ (.tmp 67) = (.bool false) := (hf 67).1 rfl
            exact Exec.kpickF rfl rfl h57 h67
      case fin =>
        intro ν w9 hfin hx9
        have e0 : ν 68 = .bool false := hfin 13 68 rfl
        simp only [Exit.then, ended, List.foldl_cons, List.foldl_nil, List.setIfInBounds_toArray, List.set_cons_succ, List.set_cons_zero, e0]
        have HX9 : Hid (Ext w1 w9 ∧ Ch (fun j => j < w2.heap.size) w3 w9) := Lib.hid ⟨HX5.out.1.trans hx9, HX5.out.2.trans (Ext.ch hx9)⟩
        have HI9 : Hid (RlC (fun u c => ColV M w9 u c.length) l cs2 ∧ w9.ownsRow w1.heap.size 39 5 (.slice (some ⟨b, o, none⟩) n u2c) n cs2) := Lib.hid ⟨HI5.out.1.imp fun u c h => h.ext hx9, HI5.out.2.ext hx9⟩
        have HR9 : Hid (ColV M w9 (.slice co nx cc) nx ∧ w9.heap[g11]? = some (.cells (relv x (.slice co nx cc)) 39 (0, 0))) := Lib.hid ⟨HCV5.out.ext hx9, heap_ext hx9 HG11.out⟩
        clear hfin hx9 e0
        go_wp2
        go_loopw [13] (fun ix ws => ∃ q : Nat, q ≤ nx ∧ ix = .int .i64 q ∧ Hid (Ext w1 ws ∧ Ch (fun j => j < w2.heap.size) w3 ws) ∧ Hid (RlC (fun u c => ColV M ws u c.length) l cs2 ∧ ws.ownsRow w1.heap.size 39 5 (.slice (some ⟨b, o, none⟩) n u2c) n cs2) ∧ Hid (ColV M ws (.slice co nx cc) nx ∧ ws.heap[g11]? = some (.cells (relv x (.slice co nx cc)) 39 (0, 0)))) (fun ix _ => nx - (intOf ix).toNat)
        case atStart => exact ⟨0, Nat.zero_le _, rfl, HX9, HI9, HR9⟩
        case round =>
          obtain ⟨q, hq, rfl, HXs, HIs, HRs⟩ := hrel
          have HOFS : Hid (wr.ownsRow w1.heap.size 39 5 (.slice (some ⟨b, o, none⟩) n u2c) n cs2) := Lib.hid HIs.out.2
          have hrs' : RlS (fun u c => ColV M wr u c.length) wr (.slice (some ⟨b, o, none⟩) l.length u2c) l := ⟨cs2, HIs.out.1, by have := Sl.ofOwns HIs.out.2; rw [HN.out]; exact this⟩
          obtain ⟨b', o', xv', hbo, hra', hxv'⟩ := rlS_at hrs' (show k < l.length by have := HN.out; have := HLT.out; omega)
          obtain ⟨rfl, rfl⟩ : b' = b ∧ o' = o := by
            have e := Option.some.inj hbo
            exact ⟨(congrArg Addr.block e).symm, (congrArg Addr.off e).symm⟩
          have hq4 : wr.cell? ⟨b', o' + k * 5 + 4, none⟩ = some xv' := hra' 4 _ rfl
          have hidx := run_indexSl wr Try.underlying62 CHI2.out CHS2.out b' o' n u2c k HLT.out
          have hkl' : k < l.length := by have := HN.out; have := HLT.out; omega
          have hxx : l[k] = x := by have := HXK.out; rw [List.getElem?_eq_getElem hkl'] at this; exact Option.some.inj this
          rw [hxx, HNX.out] at hxv'
          obtain ⟨xo', xc', hxe', _, hxb'⟩ := hxv'
          subst hxe'
          clear hxx hkl' hrs' hbo hra'
          have HGS := Lib.hid HRs.out
          obtain ⟨d0, d1, d2, d3, d4⟩ := row5 HRs.out.2
          have HIo := Lib.hid HIs.out; have HRo := Lib.hid HRs.out
          by_cases hqx : q < nx
          · obtain ⟨gx, curx, hxo, hMx, hhx, hsx⟩ := hxb' (by omega)
            subst hxo
            obtain ⟨_, _, hce, _, hcb⟩ := HRs.out.1
            cases hce
            obtain ⟨gr, curr, hro, hMr, hhr, hsr⟩ := hcb (by omega)
            subst hro
            have hidxx := run_indexSl wr Try.underlying37 CHI3.out CHS3.out gx 0 nx xc' q hqx
            rw [Nat.zero_add] at hidxx
            have o1 : ∃ u, wr.cell? ⟨gx, q * 3, none⟩ = some u := by rw [cell_of_row _ _ _ _ _ _ hhx]; exact ⟨_, Array.getElem?_eq_getElem (by omega)⟩
            obtain ⟨u1, o1⟩ := o1
            have f1 := frozen_of_row wr gx (q * 3) _ _ hhx
            obtain ⟨W1, hW1⟩ : ∃ W1, W1 = wr.setCell ⟨gx, q * 3, none⟩ (.string ⟨#[122]⟩) := ⟨_, rfl⟩
            have hcr1 : ∃ curr', W1.heap[gr]? = some (.cells curr' 69 (0, 0)) ∧ nx * 3 ≤ curr'.size := by
              rw [hW1]
              by_cases e : gx = gr
              · subst e
                refine ⟨_, heap_setCell_same wr gx _ _ _ _ hhr, by simpa using hsr⟩
              · exact ⟨curr, by rw [(gby_setCell wr ⟨gx, q * 3, none⟩ (.string ⟨#[122]⟩)).block gr (Array.getElem?_eq_some_iff.1 hhr).1 (fun h => e (Option.some.inj h).symm)]; exact hhr, hsr⟩
            obtain ⟨curr', hr1, hs1⟩ := hcr1
            have hg1 : W1.heap[g11]? = some (.cells (relv x (.slice (some ⟨gr, 0, none⟩) nx cc)) 39 (0, 0)) := by
              rw [hW1, (gby_setCell wr ⟨gx, q * 3, none⟩ (.string ⟨#[122]⟩)).block g11 (Array.getElem?_eq_some_iff.1 HRo.out.2).1 (fun h => by
                have e := Option.some.inj h
                simp only at e
                have h2 := HRo.out.2
                rw [e, hhx] at h2
                cases h2)]
              exact HRo.out.2
            obtain ⟨e0, e1, e2, e3, e4⟩ := row5 hg1
            have hidxr := run_indexSl W1 Try.underlying37 CHI3.out CHS3.out gr 0 nx cc q hqx
            rw [Nat.zero_add] at hidxr
            have o2 : ∃ u, W1.cell? ⟨gr, q * 3 + 1, none⟩ = some u := by rw [cell_of_row _ _ _ _ _ _ hr1]; exact ⟨_, Array.getElem?_eq_getElem (by omega)⟩
            obtain ⟨u2', o2⟩ := o2
            have f2 := frozen_of_row W1 gr (q * 3 + 1) _ _ hr1
            have HXn : Hid (Ext w1 (W1.setCell ⟨gr, q * 3 + 1, none⟩ (.int .u8 9)) ∧ Ch (fun j => j < w2.heap.size) w3 (W1.setCell ⟨gr, q * 3 + 1, none⟩ (.int .u8 9))) := Lib.hid (by
              rw [HME.out] at hMx hMr
              have hs13 := HX13.out.size
              rw [hW1]
              exact ⟨(HXs.out.1.setCell (p := ⟨gx, q * 3, none⟩) (.inr hMx.1) _).setCell (p := ⟨gr, q * 3 + 1, none⟩) (.inr hMr.1) _, (HXs.out.2.setCell (p := ⟨gx, q * 3, none⟩) hMx.2 _).setCell (p := ⟨gr, q * 3 + 1, none⟩) hMr.2 _⟩)
            have HIn : Hid (RlC (fun u c => ColV M (W1.setCell ⟨gr, q * 3 + 1, none⟩ (.int .u8 9)) u c.length) l cs2 ∧ (W1.setCell ⟨gr, q * 3 + 1, none⟩ (.int .u8 9)).ownsRow w1.heap.size 39 5 (.slice (some ⟨b', o', none⟩) n u2c) n cs2) := Lib.hid (by
              refine ⟨HIo.out.1.imp fun u c h => ColV.set (by rw [hW1]; exact h.set hhx _) hr1 _, ?_⟩
              have k1 : W1.ownsRow w1.heap.size 39 5 (.slice (some ⟨b', o', none⟩) n u2c) n cs2 := by
                rw [hW1]
                exact HIo.out.2.kept (gby_setCell _ _ _) (.inr fun e => own_ne HIo.out.2 hhx (by decide) _ e rfl)
              exact k1.kept (gby_setCell _ _ _) (.inr fun e => own_ne k1 hr1 (by decide) _ e rfl))
            have HRn : Hid (ColV M (W1.setCell ⟨gr, q * 3 + 1, none⟩ (.int .u8 9)) (.slice (some ⟨gr, 0, none⟩) nx cc) nx ∧ (W1.setCell ⟨gr, q * 3 + 1, none⟩ (.int .u8 9)).heap[g11]? = some (.cells (relv x (.slice (some ⟨gr, 0, none⟩) nx cc)) 39 (0, 0))) := Lib.hid (by
              refine ⟨ColV.set (by rw [hW1]; exact HRo.out.1.set hhx _) hr1 _, ?_⟩
              rw [(gby_setCell W1 ⟨gr, q * 3 + 1, none⟩ (.int .u8 9)).block g11 (Array.getElem?_eq_some_iff.1 hg1).1 (fun h => by
                have e := Option.some.inj h
                simp only at e
                rw [e, hr1] at hg1
                cases hg1)]
              exact hg1)
            have HQX := Lib.hid hqx
            have HWW := Lib.hid hW1
            rw [hW1] at hidxr o2 f2 e4
            clear hxb' hMx hhx hsx hcb hMr hhr hsr hr1 hs1 hg1 e0 e1 e2 e3 d0 d1 d2 d3 hW1
            go_wp2
            rw [← HWW.out]
            go_roundw
            case rel => exact ⟨q + 1, HQX.out, by simp, HXn, HIn, HRn⟩
            case measure => simp [intOf]; have := HQX.out; omega
          · obtain rfl : q = nx := by omega
            clear d0 d1 d2 d3
            go_wp2
            go_roundw
            case rel => exact ⟨k + 1, HLT.out, by simp, HXs, HIs⟩
            case measure => simp [intOf]; have := HLT.out; omega
    · obtain rfl : k = n := by omega
      have HBC := Lib.hid (back9_any w2.heap.size (.pointer (some ⟨g3, 0, none⟩)) L wr HCT.out HLK.out fun r hr => by have := (rlErr_zero (HLK.out.right r hr)).2.2.2.2.2.1; omega)
      go_wp2_with fail
      refine HBC.out.mono ?_
      rintro e w6 ⟨hx6, v6, rfl, hs6⟩
      have HX6 := Lib.hid (HX1.out.trans (HX.out.1.trans hx6))
      have hx16 := HX.out.1.trans hx6
      obtain ⟨v6o, v6c, rfl, _⟩ := hs6.shape
      have HSM := Lib.hid (rSame9_any (.slice v6o L.length v6c) (.slice so m sc) L L w6 hs6 (HS1.out.ext (Q := ColS w6) hx16 fun v c h => ColS.ext h hx16))
      rw [decide_eq_true rfl] at HSM
      generalize L.length = m2 at *
      clear hx6 hx16 hs6 HBC
      go_wp2_with fail
      refine HSM.out.mono ?_
      rintro e w9 ⟨rfl, hx9⟩
      have HX9 := Lib.hid (HX6.out.trans hx9)
      clear hx9 HSM
      go_wp2_with fail
      refine (awake9_any w9).mono ?_
      rintro e w10 ⟨rfl, hx10⟩
      have HX10 := Lib.hid (HX9.out.trans hx10)
      clear hx10
      go_wp2
      go_ret
      exact ⟨rfl, HX10.out⟩
end Go.Proofs.Ytegclfpmgilnpaa
