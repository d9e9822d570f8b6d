/-
  XRelR, XRelS in one text. MADE BY mergeSeat.py
-/
import Derived.Test.YtcejjckhhdgdnaaGRelC
import Derived.Test.YtcejjckhhdgdnaaGRelA
namespace Go.Proofs.Ytcejjckhhdgdnaa
open Go.RowKit Go.Lac

/-- While a relation is taken: only the reader of what was there has changed; the two boxes. -/
structure TkS (TD : TypeId) (w wr : World) (r g2 g3 : Nat) (s : RS) (q : Rl) (v z : Value) : Prop where
  only : Only r w wr
  isr : IsR wr r s
  res : wr.heap[g2]? = some (.cells (relv .zero z) TD (0, 0))
  box : wr.heap[g3]? = some (.cells (relv q v) TD (0, 0))
section
variable {TD : TypeId} {w wr w' : World} {r g2 g3 : Nat} {s s' : RS} {q : Rl} {v z : Value}
theorem heap_only {o : Obj} {g : Nat} (k : Only r wr w') (hne : g ≠ r) (h : wr.heap[g]? = some o) : w'.heap[g]? = some o := by
  rw [k.block g (Array.getElem?_eq_some_iff.1 h).1 hne]; exact h
theorem TkS.call (h : TkS TD w wr r g2 g3 s q v z) (k : Only r wr w') (hi : IsR w' r s') (h2 : g2 ≠ r) (h3 : g3 ≠ r) : TkS TD w w' r g2 g3 s' q v z :=
  ⟨h.only.trans k, hi, heap_only k h2 h.res, heap_only k h3 h.box⟩
theorem TkS.ext (h : TkS TD w wr r g2 g3 s q v z) (k : Ext wr w') : TkS TD w w' r g2 g3 s q v z :=
  ⟨h.only.trans k.ch, h.isr.ext k, heap_ext k h.res, heap_ext k h.box⟩
theorem TkS.set {q' : Rl} {v' : Value} (h : TkS TD w wr r g2 g3 s q v z) (i : Nat) (u : Value) (hr : r < w.heap.size) (h3 : w.heap.size ≤ g3) (h23 : g2 ≠ g3) (he : (relv q v).setIfInBounds i u = relv q' v') : TkS TD w (wr.setCell ⟨g3, i, none⟩ u) r g2 g3 s q' v' z := by
  refine ⟨h.only.setCell (.inr h3) _, h.isr.above ((Ch.refl _ _).setCell (.inl (show r < g3 by omega)) _), ?_, ?_⟩
  · rw [(gby_setCell wr ⟨g3, i, none⟩ u).block g2 (Array.getElem?_eq_some_iff.1 h.res).1 (fun e => h23 (Option.some.inj e))]; exact h.res
  · have := heap_setCell_same wr g3 i _ _ u h.box
    rwa [he] at this
theorem TkS.cells (h : TkS TD w wr r g2 g3 s q v z) : wr.cell? ⟨g3, 0, none⟩ = some (.int .u32 (q.oid : Nat)) ∧ wr.cell? ⟨g3, 1, none⟩ = some (.int .u32 (q.ver : Nat)) ∧ wr.cell? ⟨g3, 2, none⟩ = some (.string ⟨q.name.toArray⟩) ∧
    wr.cell? ⟨g3, 3, none⟩ = some (.int .u8 (q.ident : Nat)) ∧ wr.cell? ⟨g3, 4, none⟩ = some v := row_cells h.box
theorem TkS.fz (h : TkS TD w wr r g2 g3 s q v z) (i : Nat) : wr.frozen? ⟨g3, i, none⟩ = false := frozen_of_row wr g3 i _ _ h.box
end
/-- What take answers. -/
def RlTake (T : TypeId) (r : Nat) (q : Rl) (s : RS) (w : World) (e : Ending) (w' : World) : Prop :=
  ∃ cv, e = .returned (.agg (relv q cv)) ∧ Only r w w' ∧ IsR w' r s ∧ w'.ownsRow w.heap.size T 3 cv q.cols.length (colC q.cols)
def tkT (T : TypeId) (base r g3 : Nat) (v' : Value) (c : Col) (k : Nat) (l : List Col) : Nat → Tmp → Kn
  | 0 => fun d => match d with
    | 24 => .is (.pointer (some ⟨g3, 4, none⟩))
    | 25 => .is v'
    | 26 => .is (RPtr r)
    | _ => .any
  | 1 => fun d => match d with
    | 24 => .is (.pointer (some ⟨g3, 4, none⟩))
    | 25 => .is v'
    | 27 => .is (pcol c)
    | 28 => Kn.colS [c]
    | _ => .any
  | 2 => fun d => match d with
    | 29 => Kn.ownC base T (k + 1) (l ++ [c])
    | 30 => .is (.pointer (some ⟨g3, 4, none⟩))
    | _ => .any
  | _ => fun _ => .any
def tkF (TD T : TypeId) (w : World) (r g2 g3 : Nat) (s s' : RS) (q : Rl) (v' z : Value) (k : Nat) (l : List Col) (c : Col) : Nat → World → Prop
  | 0 => fun w2 => TkS TD w w2 r g2 g3 s q v' z ∧ w2.ownsRow w.heap.size T 3 v' k (colC l)
  | 1 => fun w2 => TkS TD w w2 r g2 g3 s' q v' z ∧ w2.ownsRow w.heap.size T 3 v' k (colC l)
  | 2 => fun w2 => TkS TD w w2 r g2 g3 s' q v' z
  | _ => fun w2 => ∃ vn, TkS TD w w2 r g2 g3 s' q vn z ∧ w2.ownsRow w.heap.size T 3 vn (k + 1) (colC (l ++ [c]))
theorem tkF_ext {TD T : TypeId} {w : World} {r g2 g3 : Nat} {s s' : RS} {q : Rl} {v' z : Value} {k : Nat} {l : List Col} {c : Col} : ∀ p w2 w3, tkF TD T w r g2 g3 s s' q v' z k l c p w2 → Ext w2 w3 → tkF TD T w r g2 g3 s s' q v' z k l c p w3
  | 0, _, _, h, hx => ⟨h.1.ext hx, h.2.ext hx⟩
  | 1, _, _, h, hx => ⟨h.1.ext hx, h.2.ext hx⟩
  | 2, _, _, h, hx => TkS.ext h hx
  | _ + 3, _, _, ⟨vn, h1, h2⟩, hx => ⟨vn, h1.ext hx, h2.ext hx⟩
theorem own_only {w w' : World} {base r : Nat} {e : TypeId} {size : Nat} {v : Value} {n : Nat} {xs : List Value} (h : w.ownsRow base e size v n xs) (hr : r < base) (k : Only r w w') : w'.ownsRow base e size v n xs := by
  refine ⟨h.1, ?_⟩
  rcases h.2 with h1 | ⟨g, cap, cur, h1, h2, h3, h4⟩
  · exact .inl h1
  · exact .inr ⟨g, cap, cur, h1, h2, heap_only k (by omega) h3, h4⟩
set_option maxRecDepth 20000 in
set_option maxHeartbeats 4000000 in
theorem relTake_any (r : Nat) (s : RS) (w : World) (h : IsR w r s) :
    Calls Try.prog 59 #[RPtr r] w (RlTake 49 r (rlR s).1 (rlR s).2 w) := by
  have hlt := h.lt
  obtain ⟨W, hW⟩ : ∃ W, W = (w.alloc (.cells (relv .zero (.slice none 0 0)) 32)).alloc (.cells (relv .zero (.slice none 0 0)) 32) := ⟨_, rfl⟩
  have hx : Ext w W := by rw [hW]; exact ((Ch.refl _ _).alloc _).alloc _
  have h0 : TkS 32 w W r w.heap.size (w.heap.size + 1) s .zero (.slice none 0 0) (.slice none 0 0) := ⟨hx.ch, h.ext hx, by rw [hW]; exact heap_alloc2_old _ _ _, by rw [hW]; exact heap_alloc2_new _ _ _⟩
  have HW : Hid (W = (w.alloc (.cells #[.int .u32 0, .int .u32 0, .string ⟨#[]⟩, .int .u8 0, .slice none 0 0] 32)).alloc (.cells #[.int .u32 0, .int .u32 0, .string ⟨#[]⟩, .int .u8 0, .slice none 0 0] 32)) := Lib.hid hW
  have H0 := Lib.hid h0; have HLT0 := Lib.hid hlt
  have HN1 : w.heap.size ≠ r := by omega
  have HN2 : w.heap.size + 1 ≠ r := by omega
  rcases hr1 : rl1 s with ⟨x1, s1⟩
  rcases hr2 : rl1 s1 with ⟨x2, s2⟩
  rcases hr3 : textR 31 s2 with ⟨x3, s3⟩
  rcases hr4 : byteR s3 with ⟨x4, s4⟩
  rcases hr5 : uintR 16 s4 with ⟨x5, s5⟩
  rcases hr6 : colsR x5 s5 with ⟨x6, s6⟩
  have hR : rlR s = (⟨x1, x2, x3, x4, x6⟩, s6) := by unfold rlR; simp only [hr1, hr2, hr3, hr4, hr5, hr6]
  have l1 : x1 ≤ 4294967295 := by have := uintR_le 4294967295 s; rw [show uintR 4294967295 s = (x1, s1) from hr1] at this; exact this
  have l2 : x2 ≤ 4294967295 := by have := uintR_le 4294967295 s1; rw [show uintR 4294967295 s1 = (x2, s2) from hr2] at this; exact this
  have l5 : x5 ≤ 16 := by have := uintR_le 16 s4; rw [hr5] at this; exact this
  have hv1 : IntKind.u32.wrap (x1 : Int) = (x1 : Int) := by rw [IntKind.wrap_u32]; omega
  have hv2 : IntKind.u32.wrap (x2 : Int) = (x2 : Int) := by rw [IntKind.wrap_u32]; omega
  have C1 : Hid (∀ w, IsR w r s → Calls Try.prog 83 #[RPtr r, .int .u64 4294967295] w (RPost r (.int .u64 x1) s1 w)) := Lib.hid fun w h => by have := uint_any r s 4294967295 w h; rw [show uintR 4294967295 s = (x1, s1) from hr1] at this; exact this
  have C2 : Hid (∀ w, IsR w r s1 → Calls Try.prog 83 #[RPtr r, .int .u64 4294967295] w (RPost r (.int .u64 x2) s2 w)) := Lib.hid fun w h => by have := uint_any r s1 4294967295 w h; rw [show uintR 4294967295 s1 = (x2, s2) from hr2] at this; exact this
  have C3 : Hid (∀ w, IsR w r s2 → Calls Try.prog 84 #[RPtr r, .int .i64 31] w (RPost r (strV x3) s3 w)) := Lib.hid fun w h => by have := text_any r s2 31 w h (by omega); rw [show ((31 : Int)).toNat = 31 from rfl, hr3] at this; exact this
  have C4 : Hid (∀ w, IsR w r s3 → Calls Try.prog 85 #[RPtr r] w (RPost r (.int .u8 x4) s4 w)) := Lib.hid fun w h => by have := byte_any r s3 w h; rw [hr4] at this; exact this
  have C5 : Hid (∀ w, IsR w r s4 → Calls Try.prog 83 #[RPtr r, .int .u64 16] w (RPost r (.int .u64 x5) s5 w)) := Lib.hid fun w h => by have := uint_any r s4 16 w h; rw [hr5] at this; exact this
  have H6 := Lib.hid hr6
  rw [hR]
  clear h hx h0 hlt hr1 hr2 hr3 hr4 hr5 hr6 hR hW l1 l2
  unfold RPtr at *
  go_enter Try.func59, Try.ntmps59
  go_wp2_with fail
  rw [← HW.out]
  refine (C1.out _ H0.out.isr).mono ?_
  rintro e w1 ⟨rfl, k1, k2⟩
  have T1 := Lib.hid (H0.out.call k1 k2 HN1 HN2)
  clear k1 k2 C1
  have z0 := T1.out.cells.1
  have f0 := T1.out.fz 0
  go_wp2_with fail
  have T1b := Lib.hid (T1.out.set (q' := ⟨x1, 0, [], 0, []⟩) (v' := .slice none 0 0) 0 (.int .u32 (x1 : Nat)) HLT0.out (by omega) (by omega) rfl)
  refine (C2.out _ T1b.out.isr).mono ?_
  rintro e w2 ⟨rfl, k1, k2⟩
  have T2 := Lib.hid (T1b.out.call k1 k2 HN1 HN2)
  clear k1 k2 C2 z0 f0
  have z0 := T2.out.cells.2.1
  have f0 := T2.out.fz 1
  go_wp2_with fail
  have T2b := Lib.hid (T2.out.set (q' := ⟨x1, x2, [], 0, []⟩) (v' := .slice none 0 0) 1 (.int .u32 (x2 : Nat)) HLT0.out (by omega) (by omega) rfl)
  refine (C3.out _ T2b.out.isr).mono ?_
  rintro e w3 ⟨rfl, k1, k2⟩
  have T3 := Lib.hid (T2b.out.call k1 k2 HN1 HN2)
  clear k1 k2 C3 z0 f0
  have z0 := T3.out.cells.2.2.1
  have f0 := T3.out.fz 2
  unfold strV
  go_wp2_with fail
  have T3b := Lib.hid (T3.out.set (q' := ⟨x1, x2, x3, 0, []⟩) (v' := .slice none 0 0) 2 (.string ⟨x3.toArray⟩) HLT0.out (by omega) (by omega) rfl)
  refine (C4.out _ T3b.out.isr).mono ?_
  rintro e w4 ⟨rfl, k1, k2⟩
  have T4 := Lib.hid (T3b.out.call k1 k2 HN1 HN2)
  clear k1 k2 C4 z0 f0
  have z0 := T4.out.cells.2.2.2.1
  have f0 := T4.out.fz 3
  go_wp2_with fail
  have T4b := Lib.hid (T4.out.set (q' := ⟨x1, x2, x3, x4, []⟩) (v' := .slice none 0 0) 3 (.int .u8 (x4 : Nat)) HLT0.out (by omega) (by omega) rfl)
  refine (C5.out _ T4b.out.isr).mono ?_
  rintro e w5 ⟨rfl, k1, k2⟩
  have T5 := Lib.hid (T4b.out.call k1 k2 HN1 HN2)
  clear k1 k2 C5 z0 f0
  go_wp2
  have QI : ∃ q, q = (⟨x1, x2, x3, x4, []⟩ : Rl) := ⟨_, rfl⟩
  obtain ⟨q, hq⟩ := QI
  rw [← hq] at T5
  have HQE := Lib.hid hq
  obtain ⟨di, dxi, dz, dxs, db⟩ := info_parts infoCoZ
  have CDI := Lib.hid dxi; have CDZ := Lib.hid dz; have CDS := Lib.hid dxs; have CDB := Lib.hid db
  clear hq dxi dz dxs db T1 T1b T2 T2b T3 T3b T4 T4b
  go_loopw [22] (fun ix wr => ∃ (k : Nat) (l : List Col) (v' : Value) (sk : RS), k ≤ x5 ∧ ix = .int .u64 k ∧ Hid (l.length = k) ∧ Hid ((l ++ (colsR (x5 - k) sk).1, (colsR (x5 - k) sk).2) = (x6, s6)) ∧
    Hid (TkS 32 w wr r w.heap.size (w.heap.size + 1) sk q v' (.slice none 0 0)) ∧ Hid (wr.ownsRow w.heap.size 49 3 v' k (colC l))) (fun ix _ => x5 - (intOf ix).toNat)
  case atStart => exact ⟨0, [], .slice none 0 0, s5, Nat.zero_le _, rfl, Lib.hid rfl, Lib.hid (by simp [H6.out]), T5, Lib.hid (World.ownsRow_nil _ _ _ _)⟩
  case round =>
    obtain ⟨k, l, v', sk, hk, rfl, HLL, HCR, TK, HOW⟩ := hrel
    by_cases hlt : k < x5
    · rcases hcr : colR sk with ⟨c, sk'⟩
      have HTC : Hid (∀ w, IsR w r sk → Calls Try.prog 86 #[.pointer (some ⟨r, 0, none⟩)] w (RPost r (pcol c) sk' w)) := Lib.hid fun w h => by have := takeColumn_any r sk w h; rw [hcr] at this; exact this
      have HNX : Hid (((l ++ [c]) ++ (colsR (x5 - (k + 1)) sk').1, (colsR (x5 - (k + 1)) sk').2) = (x6, s6)) := Lib.hid (by
        have := HCR.out
        rw [show x5 - k = (x5 - (k + 1)) + 1 by omega, colsR, hcr] at this
        simpa using this)
      have HLT := Lib.hid hlt
      have hFs := fun p w2 w3 => tkF_ext (TD := 32) (T := 49) (w := w) (r := r) (g2 := w.heap.size) (g3 := w.heap.size + 1) (s := sk) (s' := sk') (q := q) (v' := v') (z := .slice none 0 0) (k := k) (l := l) (c := c) p w2 w3
      obtain ⟨av, cvv, hsv⟩ := owns_shape HOW.out
      have HSV := Lib.hid hsv
      have HK16 : Hid (k < 16) := Lib.hid (by omega)
      clear hcr HCR hsv
      go_wp2
      refine wp_region_ph [3, 5, 7] (tkT 49 w.heap.size r (w.heap.size + 1) v' c k l) (tkF 32 49 w r w.heap.size (w.heap.size + 1) sk sk' q v' (.slice none 0 0) k l c) mixedV (by rfl) (by rfl) (by decide) ⟨TK.out.ext (Ch.drew (Ch.refl _ _)), HOW.out.ext (Ch.drew (Ch.refl _ _))⟩ ?all ?fin
      case all =>
        refine ⟨?_, ?_, ?_, ?_, ?_, ?_, ?_, ?_, trivial⟩
        · refine StepG.phPlain 0 1 (by decide) (by decide) (by rfl) rfl rfl hFs fun p hlo hhi ρ w2 hρ hF hf => ?_
          have h : ρ (.tmp 3) = .pointer (some ⟨w.heap.size + 1, 0, none⟩) := (hf 3).2 rfl rfl
          obtain rfl | rfl : p = 0 ∨ p = 1 := by omega
          · exact Exec.kfield rfl rfl h (fieldRl_3 w2 _) rfl
          · exact Exec.kfield rfl rfl h (fieldRl_3 w2 _) rfl
        · refine StepG.phPlain 0 1 (by decide) (by decide) (by rfl) rfl rfl hFs fun p hlo hhi ρ w2 hρ hF hf => ?_
          obtain rfl | rfl : p = 0 ∨ p = 1 := by omega
          · have h : ρ (.tmp 24) = .pointer (some ⟨w.heap.size + 1, 4, none⟩) := (hf 24).1 rfl
            have hF' : TkS 32 w w2 r w.heap.size (w.heap.size + 1) sk q v' (.slice none 0 0) := hF.1
            have hc := hF'.cells.2.2.2.2
            exact Exec.same (v := v') rfl (by simp [go_sem, hρ.const, h, hc]) rfl
          · have h : ρ (.tmp 24) = .pointer (some ⟨w.heap.size + 1, 4, none⟩) := (hf 24).1 rfl
            have hF' : TkS 32 w w2 r w.heap.size (w.heap.size + 1) sk' q v' (.slice none 0 0) := hF.1
            have hc := hF'.cells.2.2.2.2
            exact Exec.same (v := v') rfl (by simp [go_sem, hρ.const, h, hc]) rfl
        · refine StepG.phPlain 0 0 (by decide) (by decide) (by rfl) rfl rfl hFs fun p hlo hhi ρ w2 hρ hF hf => ?_
          obtain rfl : p = 0 := by omega
          have h : ρ (.tmp 0) = .pointer (some ⟨r, 0, none⟩) := (hf 0).2 rfl rfl
          exact Exec.kmove rfl rfl h
        · refine StepG.phWrite [24, 25, 26] (by rfl) 0 (by decide) (by decide) (by rfl) rfl rfl fun ρ w2 hρ hF hf => ?_
          have h : ρ (.tmp 26) = .pointer (some ⟨r, 0, none⟩) := (hf 26).1 rfl
          have hF' : TkS 32 w w2 r w.heap.size (w.heap.size + 1) sk q v' (.slice none 0 0) := hF.1
          refine Exec.call #[.pointer (some ⟨r, 0, none⟩)] hρ rfl (by simp [h]) Try.func86 (by rfl) (by rfl) ((HTC.out w2 hF'.isr).mono ?_)
          rintro e w3 ⟨rfl, k1, k2⟩
          refine ⟨_, rfl, fun d hd => by cases hd; rfl, fun d v hd hv => ?_, hF'.call k1 k2 HN1 HN2, own_only hF.2 HLT0.out k1⟩
          simp only [List.mem_cons, List.not_mem_nil, or_false] at hd
          rcases hd with rfl | rfl | rfl
          · exact hv
          · exact hv
          · trivial
        · refine StepG.phPlain 1 1 (by decide) (by decide) (by rfl) rfl rfl hFs fun p hlo hhi ρ w2 hρ hF hf => ?_
          obtain rfl : p = 1 := by omega
          have h1 : ρ (.tmp 27) = pcol c := (hf 27).1 rfl
          refine Exec.kalloc (v := .slice (some ⟨w2.heap.size, 0, none⟩) 1 1) (ob := .cells (colv c) 49) rfl ?_ (colS_heap (l := [c]) (T := 49) (heap_alloc_new w2 _) (by unfold maxLen; simp))
          unfold execOp; simp only [List.map_toArray, List.map_cons, List.map_nil, h1, Sem.run_bind, Result.andThen_ok, Sem.run_pure]
          rw [show pcol c = .agg #[.string ⟨c.name.toArray⟩, .int .u8 (c.ty : Nat), .bool c.key] from rfl, one_co]
          rfl
        · refine StepG.phWrite [24, 25, 26, 27, 28] (by rfl) 1 (by decide) (by decide) (by rfl) rfl rfl fun ρ w2 hρ hF hf => ?_
          have h1 : ρ (.tmp 25) = v' := (hf 25).1 rfl
          have h2 : ColS w2 (ρ (.tmp 28)) [c] := (hf 28).1 rfl
          have hF' : TkS 32 w w2 r w.heap.size (w.heap.size + 1) sk' q v' (.slice none 0 0) := hF.1
          have ho : w2.ownsRow w.heap.size 49 3 v' k (colC l) := hF.2
          refine (Exec.kappend (m := 1) rfl w.heap.size Try.underlying30 CDI.out CDZ.out CDS.out CDB.out rfl (by decide) h1 ho h2 (by rfl) (colC_one _) (by have := HK16.out; omega) (by have := HK16.out; unfold maxLen; omega) hF'.only.size).mono ?_
          rintro v2 w3 ⟨r1, r2⟩
          have hne2 := own_ne ho hF'.res (by decide)
          have hne3 := own_ne ho hF'.box (by decide)
          refine ⟨fun d hd => ?_, fun d v hd hv => ?_, hF'.only.grown r2 (fun kk hk => .inr (ho.lt kk hk).1), hF'.isr.above ((Ch.refl _ _).grown r2 fun kk hk => .inl (by have := (ho.lt kk hk).1; have := HLT0.out; omega)), gby_heap r2 hF'.res (fun e => hne2 _ e rfl), gby_heap r2 hF'.box (fun e => hne3 _ e rfl)⟩
          · cases hd
            rw [← colC_append] at r1
            exact r1
          · simp only [List.mem_cons, List.not_mem_nil, or_false] at hd
            rcases hd with rfl | rfl | rfl | rfl | rfl <;> trivial
        · refine StepG.phPlain 2 2 (by decide) (by decide) (by rfl) rfl rfl hFs fun p hlo hhi ρ w2 hρ hF hf => ?_
          obtain rfl : p = 2 := by omega
          have h : ρ (.tmp 3) = .pointer (some ⟨w.heap.size + 1, 0, none⟩) := (hf 3).2 rfl rfl
          exact Exec.kfield rfl rfl h (fieldRl_3 w2 _) rfl
        · refine StepG.phWrite [24, 25, 26, 27, 28, 29, 30] (by rfl) 2 (by decide) (by decide) (by rfl) rfl rfl fun ρ w2 hρ hF hf => ?_
          have h1 : w2.ownsRow w.heap.size 49 3 (ρ (.tmp 29)) (k + 1) (colC (l ++ [c])) := (hf 29).1 rfl
          have h2 : ρ (.tmp 30) = .pointer (some ⟨w.heap.size + 1, 4, none⟩) := (hf 30).1 rfl
          have hF' : TkS 32 w w2 r w.heap.size (w.heap.size + 1) sk' q v' (.slice none 0 0) := hF
          obtain ⟨vv, hvv⟩ : ∃ vv, vv = ρ (.tmp 29) := ⟨_, rfl⟩
          rw [← hvv] at h1
          have hne3 := own_ne h1 hF'.box (by decide)
          obtain ⟨g', cap', rfl⟩ := ownsRow_succ' h1
          have hc4 := hF'.cells.2.2.2.2
          have hfz := hF'.fz 4
          refine Exec.skip (w' := w2.setCell ⟨w.heap.size + 1, 4, none⟩ (.slice (some ⟨g', 0, none⟩) (k + 1) cap')) ?_ ⟨(fun d hd => by cases hd), (fun d v _ _ => trivial), .slice (some ⟨g', 0, none⟩) (k + 1) cap', hF'.set 4 _ HLT0.out (by omega) (by omega) rfl, ?_⟩
          · rw [HSV.out] at hc4
            simp only [go_sem, hρ.const, h2, ← hvv]
            simp [go_sem, hc4, hfz]
          · exact h1.kept (gby_setCell w2 ⟨w.heap.size + 1, 4, none⟩ _) (.inr (fun e => hne3 g' rfl (Option.some.inj e)))
      case fin =>
        intro ν w8 _ hF
        obtain ⟨vn, f1, f2⟩ := hF
        simp only [Exit.then, ended, List.foldl_cons, List.foldl_nil, List.setIfInBounds_toArray, List.set_cons_succ, List.set_cons_zero]
        have F1 := Lib.hid f1; have F2 := Lib.hid f2
        have hk16 := HK16.out
        clear f1 f2 hFs
        have hw64 : IntKind.u64.wrap ((k : Int) + 1) = ((k + 1 : Nat) : Int) := by rw [IntKind.wrap_u64]; omega
        go_wp2
        exact ⟨⟨k + 1, l ++ [c], vn, sk', HLT.out, rfl, Lib.hid (by simp [HLL.out]), HNX, F1, F2⟩, by simp only [intOf]; have := HLT.out; omega⟩
    · obtain rfl : k = x5 := by omega
      obtain ⟨av, cv', rfl⟩ := owns_shape HOW.out
      have hxx := HCR.out
      rw [Nat.sub_self, colsR] at hxx
      simp only [List.append_nil, Prod.mk.injEq] at hxx
      obtain ⟨rfl, rfl⟩ := hxx
      obtain ⟨d0, d1, d2, d3, d4⟩ := TK.out.cells
      go_wp2_with (refine wpList_store_rowTo rfl _ _ _ rfl rfl w.heap.size (relv q (.slice av k cv')) rfl rfl _ _ TK.out.res infoOw rfl (relv_one _ _ _ _) ?_)
      refine bodyPost_ret (results_cell_row rfl _ _ w.heap.size _ (relv q (.slice av k cv')) _ _ rfl (setRow_heap _ _ _ _ _ _ TK.out.res) Try.underlying32 rfl infoOw) rfl ?_
      refine ⟨.slice av k cv', by rw [HQE.out]; rfl, TK.out.only.setRow (.inr (Nat.le_refl _)) _, TK.out.isr.above ((Ch.refl _ _).setRow (.inl (by have := HLT0.out; omega)) _), ?_⟩
      have := HOW.out.kept (gby_setRow wr w.heap.size (relv q (.slice av k cv'))) (.inr (fun e => own_ne HOW.out TK.out.res (by decide) _ e rfl))
      show World.ownsRow _ _ _ 3 _ l.length (colC l)
      rw [HLL.out]
      exact this
end Go.Proofs.Ytcejjckhhdgdnaa
namespace Go.Proofs.Ytcejjckhhdgdnaa
open Go.RowKit Go.Lac

theorem results_row_tmp {P : Program} {fn : Func} {p a : Tmp} {ty : TypeId} (h : fn.results = #[.cell p ty, .tmp a]) (tmps : Array Value) (w : World) (g : Nat) (t : TypeId) (cs : Array Value) (fr : Nat × Nat) (d : TypeDesc)
    (hp : tmps.getD p undef = .pointer (some ⟨g, 0, none⟩)) (hg : w.heap[g]? = some (.cells cs t fr))
    (hu : P.underlying ty = some d) (hd : (match d with | .struct _ | .array _ _ => true | _ => false) = true) (hi : (P.info? ty).map (·.size) = some cs.size) :
    (results fn tmps).run P w = .ok (.tuple #[.agg cs, tmps.getD a undef]) w := by
  have hp' : tmps[p]?.getD undef = .pointer (some ⟨g, 0, none⟩) := by simpa using hp
  simp [results, h, hp', asAddr, run_loadVar_row w g t ty cs fr d hg hu hd hi]
theorem colsR_fits : ∀ (n : Nat) (s : RS), ∀ c ∈ (colsR n s).1, c.name.length ≤ 31
  | 0, _, c, hc => by cases hc
  | n + 1, s, c, hc => by
    unfold colsR at hc
    rcases List.mem_cons.1 hc with rfl | hc
    · exact textR_length 31 s
    · exact colsR_fits n _ c hc
theorem rlR_fits (s : RS) : (rlR s).1.fits := by
  refine ⟨?_, fun c hc => ?_⟩
  · have := textR_length 31 (rl1 (rl1 s).2).2
    show (textR 31 (rl1 (rl1 s).2).2).1.length ≤ _
    omega
  · have := colsR_fits _ _ c hc
    omega
def DecPost (T : TypeId) (q : Rl) (er : Int) (w : World) (e : Ending) (w' : World) : Prop :=
  ∃ cv, e = .returned (.tuple #[.agg (relv q cv), .int .i64 er]) ∧ Ext w w' ∧ ColS w' cv q.cols
theorem build_rl0 (w : World) : (Instr.build 32 #[]).run Try.prog w = .ok (.agg #[.int .u32 0, .int .u32 0, .string ⟨#[]⟩, .int .u8 0, .slice none 0 0]) w := by kernel_rfl
theorem colS_nil (w : World) : ColS w (.slice none 0 0) [] := ⟨none, 0, rfl, Nat.le_refl _, Nat.zero_le _, fun _ => rfl, fun x hx => by cases hx⟩

set_option maxRecDepth 20000 in
set_option maxHeartbeats 4000000 in
theorem relDec_any (vb : Value) (b : List UInt8) (w : World) (hb : Rd w vb b) (hl : b.length ≤ 2 ^ 47) :
    Calls Try.prog 23 #[vb] w (DecPost 32 (rlDec b).1 (rlDec b).2 w) := by
  obtain ⟨ao, cap, rfl⟩ := hb.shape
  have hg := heap_alloc_new w (.cells (relv .zero (.slice none 0 0)) 32)
  obtain ⟨W, hW⟩ : ∃ W, W = w.alloc (.cells (relv .zero (.slice none 0 0)) 32) := ⟨_, rfl⟩
  have hx : Ext w W := by rw [hW]; exact (Ch.refl _ _).alloc _
  rw [← hW] at hg
  have HW : Hid (W = w.alloc (.cells #[.int .u32 0, .int .u32 0, .string ⟨#[]⟩, .int .u8 0, .slice none 0 0] 32)) := Lib.hid hW
  have HG := Lib.hid hg; have HX := Lib.hid hx
  have HRD := Lib.hid (read_any (.slice ao b.length cap) b W (hb.ext hx) hl)
  have HD : Hid ((endR (rlR (b, 0)).2 ≠ 0 → rlDec b = (Rl.zero, endR (rlR (b, 0)).2)) ∧ (endR (rlR (b, 0)).2 = 0 → rlErr (rlR (b, 0)).1 ≠ 0 → rlDec b = (Rl.zero, ((rlErr (rlR (b, 0)).1 : Nat) : Int))) ∧ (endR (rlR (b, 0)).2 = 0 → rlErr (rlR (b, 0)).1 = 0 → rlDec b = ((rlR (b, 0)).1, 0))) := Lib.hid (by
    unfold rlDec
    refine ⟨fun h => by rw [if_pos h], fun h h' => by rw [if_neg (by simpa using h), if_pos h'], fun h h' => by rw [if_neg (by simpa using h), if_neg (by simpa using h')]⟩)
  have HTK := Lib.hid (fun r w h => relTake_any r (b, 0) w h)
  have HFT := Lib.hid (rlR_fits (b, 0))
  generalize rlDec b = DD at *
  rcases hR : rlR (b, 0) with ⟨q, s⟩
  rw [hR] at HD HTK HFT
  simp only at HD HTK HFT
  clear hR hg hx hb hl hW
  generalize b.length = n at *
  go_enter Try.func23, Try.ntmps23
  go_wp2_with fail
  rw [← HW.out]
  refine HRD.out.mono ?_
  rintro e w1 ⟨r, rfl, hx1, hi, hr⟩
  have HI := Lib.hid hi
  have HX1 := Lib.hid (HX.out.trans hx1); have HG1 := Lib.hid (heap_ext hx1 HG.out)
  have HGR : Hid (w.heap.size < r) := Lib.hid (by have := (Array.getElem?_eq_some_iff.1 HG.out).1; omega)
  clear hx1 hi hr HRD
  unfold RPtr at *
  go_wp2_with fail
  refine (HTK.out r w1 HI.out).mono ?_
  rintro e w2 ⟨cv, rfl, k1, k2, k3⟩
  have HI2 := Lib.hid k2; have HO2 := Lib.hid k3
  have HX2 : Hid (Ext w w2) := Lib.hid (HX1.out.transOnly k1 (by have := HGR.out; omega))
  have HG2 := Lib.hid (heap_only k1 (by have := HGR.out; omega) HG1.out)
  obtain ⟨av, cc, rfl⟩ := owns_shape k3
  have hg3 := heap_alloc_new w2 (.cells (relv q (.slice av q.cols.length cc)) 32)
  obtain ⟨W3, hW3⟩ : ∃ W3, W3 = w2.alloc (.cells (relv q (.slice av q.cols.length cc)) 32) := ⟨_, rfl⟩
  have hx3 : Ext w2 W3 := by rw [hW3]; exact (Ch.refl _ _).alloc _
  rw [← hW3] at hg3
  have HW3 : Hid (W3 = w2.alloc (.cells #[.int .u32 (q.oid : Nat), .int .u32 (q.ver : Nat), .string ⟨q.name.toArray⟩, .int .u8 (q.ident : Nat), .slice av q.cols.length cc] 32)) := Lib.hid hW3
  have HG3 := Lib.hid hg3; have HX3 := Lib.hid (HX2.out.trans hx3); have HGR3 := Lib.hid (heap_ext hx3 HG2.out)
  have HI3 := Lib.hid (HI2.out.ext hx3)
  have HC3 := Lib.hid (ColS.ext (Sl.ofOwns k3) hx3)
  have HEN := Lib.hid (end_any r s W3 HI3.out)
  have HRT := Lib.hid (relRight_any q (.slice av q.cols.length cc) W3 HC3.out HFT.out)
  have HO3 := Lib.hid (HO2.out.ext hx3)
  clear k1 k2 k3 hg3 hx3 hW3 HTK HO2 HI2
  unfold RPtr at *
  unfold relv strV
  unfold relv strV at HRT
  go_wp2_with (go_at_call 60; rw [← HW3.out]; refine HEN.out.mono ?_)
  rintro e w4 ⟨rfl, rfl⟩
  by_cases he : endR s = 0
  case neg =>
    have en : (endR s != 0) = true := by simpa using he
    have HDE := Lib.hid (HD.out.1 he)
    clear HD he HRT HEN
    generalize endR s = E at *
    have b0 := fun w => build_rl0 w
    go_wp2_with (refine wpList_store_rowTo rfl _ _ _ rfl rfl w.heap.size (relv .zero (.slice none 0 0)) rfl rfl _ _ HGR3.out infoOw rfl (relv_one _ _ _ _) ?_)
    refine bodyPost_ret (results_row_tmp rfl _ _ w.heap.size _ (relv .zero (.slice none 0 0)) _ _ rfl (setRow_heap _ _ _ _ _ _ HGR3.out) Try.underlying32 rfl infoOw) rfl ?_
    rw [HDE.out]
    exact ⟨.slice none 0 0, rfl, HX3.out.setRow (.inr (Nat.le_refl _)) _, colS_nil _⟩
  have HDD := Lib.hid (And.intro (HD.out.2.1 he) (HD.out.2.2 he))
  rw [he]
  clear HD HEN he
  obtain ⟨d0, d1, d2, d3, d4⟩ := (⟨by rw [cell_of_row _ _ _ _ _ _ HG3.out]; rfl, by rw [cell_of_row _ _ _ _ _ _ HG3.out]; rfl, by rw [cell_of_row _ _ _ _ _ _ HG3.out]; rfl, by rw [cell_of_row _ _ _ _ _ _ HG3.out]; rfl, by rw [cell_of_row _ _ _ _ _ _ HG3.out]; rfl⟩ :
    W3.cell? ⟨w2.heap.size, 0, none⟩ = some (.int .u32 (q.oid : Nat)) ∧ W3.cell? ⟨w2.heap.size, 1, none⟩ = some (.int .u32 (q.ver : Nat)) ∧ W3.cell? ⟨w2.heap.size, 2, none⟩ = some (.string ⟨q.name.toArray⟩) ∧ W3.cell? ⟨w2.heap.size, 3, none⟩ = some (.int .u8 (q.ident : Nat)) ∧ W3.cell? ⟨w2.heap.size, 4, none⟩ = some (.slice av q.cols.length cc))
  go_wp2_with fail
  refine HRT.out.mono ?_
  rintro e w5 ⟨rfl, hx5⟩
  have HX5 := Lib.hid (HX3.out.trans hx5); have HG5 := Lib.hid (heap_ext hx5 HGR3.out); have HQ5 := Lib.hid (heap_ext hx5 HG3.out); have HC5 := Lib.hid (ColS.ext HC3.out hx5)
  have HO5 := Lib.hid (HO3.out.ext hx5)
  clear hx5 d0 d1 d2 d3 d4 HRT
  by_cases he2 : rlErr q = 0
  case neg =>
    have en : (((rlErr q : Nat) : Int) != 0) = true := by simp; omega
    have HDE := Lib.hid (HDD.out.1 he2)
    clear HDD he2
    generalize rlErr q = E at *
    have b0 := fun w => build_rl0 w
    go_wp2_with (refine wpList_store_rowTo rfl _ _ _ rfl rfl w.heap.size (relv .zero (.slice none 0 0)) rfl rfl _ _ HG5.out infoOw rfl (relv_one _ _ _ _) ?_)
    refine bodyPost_ret (results_row_tmp rfl _ _ w.heap.size _ (relv .zero (.slice none 0 0)) _ _ rfl (setRow_heap _ _ _ _ _ _ HG5.out) Try.underlying32 rfl infoOw) rfl ?_
    rw [HDE.out]
    exact ⟨.slice none 0 0, rfl, HX5.out.setRow (.inr (Nat.le_refl _)) _, colS_nil _⟩
  have HDE := Lib.hid (HDD.out.2 he2)
  rw [he2, Int.natCast_zero]
  clear HDD he2
  obtain ⟨d0, d1, d2, d3, d4⟩ := (⟨by rw [cell_of_row _ _ _ _ _ _ HQ5.out]; rfl, by rw [cell_of_row _ _ _ _ _ _ HQ5.out]; rfl, by rw [cell_of_row _ _ _ _ _ _ HQ5.out]; rfl, by rw [cell_of_row _ _ _ _ _ _ HQ5.out]; rfl, by rw [cell_of_row _ _ _ _ _ _ HQ5.out]; rfl⟩ :
    w5.cell? ⟨w2.heap.size, 0, none⟩ = some (.int .u32 (q.oid : Nat)) ∧ w5.cell? ⟨w2.heap.size, 1, none⟩ = some (.int .u32 (q.ver : Nat)) ∧ w5.cell? ⟨w2.heap.size, 2, none⟩ = some (.string ⟨q.name.toArray⟩) ∧ w5.cell? ⟨w2.heap.size, 3, none⟩ = some (.int .u8 (q.ident : Nat)) ∧ w5.cell? ⟨w2.heap.size, 4, none⟩ = some (.slice av q.cols.length cc))
  go_wp2_with (refine wpList_store_rowTo rfl _ _ _ rfl rfl w.heap.size (relv q (.slice av q.cols.length cc)) rfl rfl _ _ HG5.out infoOw rfl (relv_one _ _ _ _) ?_)
  refine bodyPost_ret (results_row_tmp rfl _ _ w.heap.size _ (relv q (.slice av q.cols.length cc)) _ _ rfl (setRow_heap _ _ _ _ _ _ HG5.out) Try.underlying32 rfl infoOw) rfl ?_
  rw [HDE.out]
  refine ⟨_, rfl, HX5.out.setRow (.inr (Nat.le_refl _)) _, ?_⟩
  exact Sl.ofOwns (HO5.out.kept (gby_setRow w5 w.heap.size _) (.inr (fun e => own_ne HO5.out HG5.out (by decide) _ e rfl)))
end Go.Proofs.Ytcejjckhhdgdnaa
