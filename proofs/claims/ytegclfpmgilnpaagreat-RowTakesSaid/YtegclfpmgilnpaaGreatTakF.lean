import Derived.Test.YtegclfpmgilnpaaGreatTakD
import Derived.Test.YtegclfpmgilnpaaGreatValF
import Derived.Test.YtegclfpmgilnpaaGreatGVal
namespace Go.Proofs.YtegclfpmgilnpaaGreat
open Go.RowKit Go.Lac
theorem IsQ.aboveT {w w' : World} {q : Nat} {s : RS} (h : IsQ w q s) (k : Ch (fun i => q < i) w w') : IsQ w' q s := by
  have hlt := h.lt
  obtain ⟨lv, bs, a, h1, ⟨h2, h5⟩, h3⟩ := h
  refine ⟨lv, bs, a, by rw [k.block q hlt (fun f => by omega)]; exact h1, ⟨?_, h5⟩, h3⟩
  obtain ⟨ao, cap, g1, g2, g3, g4, g5⟩ := h2
  refine ⟨ao, cap, g1, g2, g3, g4, fun x hx j c hc => ?_⟩
  obtain ⟨b, off, rfl, g6⟩ := g5 x hx j c hc
  refine ⟨b, off, rfl, k.cell (p := ⟨b, off + j, none⟩) ?_ c g6⟩
  have hne : bs ≠ [] := fun e => by subst e; simp [cellsB] at hc
  have := h5.2 hne ⟨b, off, none⟩ bs.length cap (by rw [g1, hx])
  show ¬ q < b
  simp only at this
  omega
def TqPost (q : Nat) (v : Val) (s : RS) (w : World) (e : Ending) (w' : World) : Prop := e = .returned (rv v) ∧ Only q w w' ∧ IsQ w' q s
set_option maxRecDepth 20000 in
set_option maxHeartbeats 3000000 in
theorem qtake_1v1 (q : Nat) (s : RS) (ver k : Nat) (w : World) (h : IsQ w q s) (hk : k = 1) (hv : ver = 1) :
    Calls Tryz.prog 85 #[QPtr q, .int .u8 (k : Nat), .int .u8 (ver : Nat)] w (TqPost q (vTake ver k s).1 (vTake ver k s).2 w) := by
  have HQL := Lib.hid h.lt
  have hg6 : ((w.alloc (.cells #[.int .u8 0, .int .i64 0, .int .u64 0, .int .u64 0, .string ⟨#[]⟩] 74)).alloc (.cells #[.int .u8 0, .int .i64 0, .int .u64 0, .int .u64 0, .string ⟨#[]⟩] 74)).heap[w.heap.size]? = _ := heap_alloc2_old w _ _
  have hq : ((w.alloc (.cells #[.int .u8 0, .int .i64 0, .int .u64 0, .int .u64 0, .string ⟨#[]⟩] 74)).alloc (.cells #[.int .u8 0, .int .i64 0, .int .u64 0, .int .u64 0, .string ⟨#[]⟩] 74)).heap[(w.heap.size + 1)]? = _ := heap_alloc2_new w _ _
  have HQ := Lib.hid hq
  obtain ⟨W3, hW3⟩ : ∃ W3, W3 = ((w.alloc (.cells #[.int .u8 0, .int .i64 0, .int .u64 0, .int .u64 0, .string ⟨#[]⟩] 74)).alloc (.cells #[.int .u8 0, .int .i64 0, .int .u64 0, .int .u64 0, .string ⟨#[]⟩] 74)).setRow (w.heap.size + 1) #[.int .u8 (k : Nat), .int .i64 0, .int .u64 0, .int .u64 0, .string ⟨#[]⟩] := ⟨_, rfl⟩
  have hx3 : Ext w W3 := by rw [hW3]; exact (((Ch.refl _ _).alloc _).alloc _).setRow (.inr (by omega)) _
  have HZ3 : Hid (W3.heap[w.heap.size]? = some (.cells #[.int .u8 0, .int .i64 0, .int .u64 0, .int .u64 0, .string ⟨#[]⟩] 74 (0, 0))) := Lib.hid (by rw [hW3, setRow_other _ _ _ _ (by omega)]; exact hg6)
  have HR3 : Hid (W3.heap[(w.heap.size + 1)]? = some (.cells #[.int .u8 (k : Nat), .int .i64 0, .int .u64 0, .int .u64 0, .string ⟨#[]⟩] 74 (0, 0))) := Lib.hid (by rw [hW3]; exact setRow_heap _ _ _ _ _ _ hq)
  have HX3 : Hid (Only q w W3) := Lib.hid hx3.ch
  have HI3 := Lib.hid (h.ext hx3)
  have HW3 := Lib.hid hW3
  clear hq hx3 hg6 hW3 h
  have hraw : rawR ver k s = (⟨k, ((byteR s).1 : Int), 0, 0, []⟩, (byteR s).2) := by unfold rawR;  rw [if_pos hk]
  obtain ⟨E, hEE⟩ : ∃ E, E = vErr ⟨k, ((byteR s).1 : Int), 0, 0, []⟩ := ⟨_, rfl⟩
  have hvt : vTake ver k s = (if (failR ((byteR s).2) (E : Nat)).2 ≠ 0 then .zero else ⟨k, ((byteR s).1 : Int), 0, 0, []⟩, failR ((byteR s).2) (E : Nat)) := by
    unfold vTake
    rw [if_neg (by omega), hraw]
    simp only
    rw [← hEE]
    split <;> rfl
  rw [hvt]
  obtain ⟨PO, hPO⟩ : ∃ PO, PO = TqPost q (if (failR ((byteR s).2) (E : Nat)).2 ≠ 0 then Val.zero else ⟨k, ((byteR s).1 : Int), 0, 0, []⟩) (failR ((byteR s).2) (E : Nat)) w := ⟨_, rfl⟩
  have HPZ : Hid (((E = 0 ∧ ((byteR s).2).2 ≠ 0) ∨ E ≠ 0) → ∀ w', Only q w w' → IsQ w' q (failR ((byteR s).2) (E : Nat)) → PO (.returned (rv Val.zero)) w') := Lib.hid fun h1 w' h2 h3 => by
    rw [hPO]
    refine ⟨?_, h2, h3⟩
    rw [if_pos]
    rcases h1 with ⟨h1, h4⟩ | h1
    · rw [h1, show (((0 : Nat) : Int)) = 0 by rfl, failR_zero]; exact h4
    · exact failR_ne _ _ (by omega)
  have HPV : Hid (E = 0 → ((byteR s).2).2 = 0 → ∀ w', Only q w w' → IsQ w' q ((byteR s).2) → PO (.returned (rv ⟨k, ((byteR s).1 : Int), 0, 0, []⟩)) w') := Lib.hid fun h1 h4 w' h2 h3 => by
    have hf : failR ((byteR s).2) (E : Nat) = (byteR s).2 := by rw [h1]; exact failR_zero _
    rw [hPO, hf]
    refine ⟨?_, h2, h3⟩
    rw [if_neg (by rw [h4]; decide)]
  have HF0 : Hid (E = 0 → failR ((byteR s).2) (E : Nat) = (byteR s).2) := Lib.hid fun h1 => by rw [h1]; exact failR_zero _
  rw [← hPO]
  have HEE := Lib.hid hEE
  clear hraw hvt hPO hEE
  have HC := Lib.hid (fun w h => qbyte_any q s w h)
  have hbl := byteR_lt s
  generalize (byteR s).1 = u at *
  generalize (byteR s).2 = s1 at *
  have hwr : IntKind.i64.wrap (u : Int) = (u : Int) := by rw [IntKind.wrap_i64]; omega
  have e1 : (((k : Nat) : Int) == 1) = true := by rw [hk]; rfl
  clear hk
  subst hv
  unfold QPtr at *
  go_enter Tryz.func85, Tryz.ntmps85
  go_wp2_with (first
    | (refine wpList_store_rowTo rfl _ _ _ rfl rfl (w.heap.size + 1) #[.int .u8 (k : Nat), .int .i64 0, .int .u64 0, .int .u64 0, .string ⟨#[]⟩] rfl rfl _ _ HQ.out info54 rfl (rrow_one _ _ _ _ _) ?_; rw [← HW3.out])
    | (go_at_call 83; refine (HC.out _ HI3.out).mono ?_))
  rintro e W4 ⟨rfl, k1, k2⟩
  have HX4 : Hid (Only q w W4) := Lib.hid (HX3.out.trans k1); have HI4 := Lib.hid k2
  have HZ4 : Hid (W4.heap[w.heap.size]? = some (.cells #[.int .u8 0, .int .i64 0, .int .u64 0, .int .u64 0, .string ⟨#[]⟩] 74 (0, 0))) := Lib.hid (heap_of_only k1 (by have := HQL.out; omega) HZ3.out)
  have HR4 : Hid (W4.heap[(w.heap.size + 1)]? = some (.cells #[.int .u8 (k : Nat), .int .i64 0, .int .u64 0, .int .u64 0, .string ⟨#[]⟩] 74 (0, 0))) := Lib.hid (heap_of_only k1 (by have := HQL.out; omega) HR3.out)
  clear k1 k2
  have d5 : W4.cell? ⟨(w.heap.size + 1), 1, none⟩ = some (.int .i64 0) := by rw [cell_of_row _ _ _ _ _ _ HR4.out]; rfl
  have f5 := frozen_of_row W4 (w.heap.size + 1) 1 _ _ HR4.out
  obtain ⟨W5, hW5⟩ : ∃ Wz, Wz = W4.setCell ⟨(w.heap.size + 1), 1, none⟩ (.int .i64 (u : Nat)) := ⟨_, rfl⟩
  have HR5 : Hid (W5.heap[(w.heap.size + 1)]? = some (.cells #[.int .u8 (k : Nat), .int .i64 (u : Nat), .int .u64 0, .int .u64 0, .string ⟨#[]⟩] 74 (0, 0))) := Lib.hid (by rw [hW5]; exact heap_setCell_same W4 (w.heap.size + 1) 1 _ _ _ HR4.out)
  have HZ5 : Hid (W5.heap[w.heap.size]? = some (.cells #[.int .u8 0, .int .i64 0, .int .u64 0, .int .u64 0, .string ⟨#[]⟩] 74 (0, 0))) := Lib.hid (by rw [hW5, heap_setCell_other W4 ⟨(w.heap.size + 1), 1, none⟩ w.heap.size (.int .i64 (u : Nat)) (by simp)]; exact HZ4.out)
  have HI5 : Hid (IsQ W5 q s1) := Lib.hid (by rw [hW5]; exact HI4.out.setElse d5 (noByte_i64 _) (by have := HQL.out; simp <;> omega) _)
  have HX5 : Hid (Only q w W5) := Lib.hid (by rw [hW5]; exact HX4.out.setCell (.inr (by simp <;> omega)) _)
  have HW5 := Lib.hid hW5
  clear hW5
  have HRI : Hid (∀ w, Calls Tryz.prog 61 #[.agg #[.int .u8 (k : Nat), .int .i64 (u : Nat), .int .u64 0, .int .u64 0, .string ⟨#[]⟩]] w fun e w' => e = .returned (.int .i64 (E : Nat)) ∧ Ext w w') := Lib.hid (by rw [HEE.out]; exact rright_any ⟨k, (u : Int), 0, 0, []⟩)
  go_wp2_with (first
    | (refine wpList_load_row rfl _ _ rfl (w.heap.size + 1) rfl _ _ _ _ HR5.out Tryz.underlying74 rfl info54 ?_)
    | (rw [← HW5.out]; refine wpList_load_row rfl _ _ rfl (w.heap.size + 1) rfl _ _ _ _ HR5.out Tryz.underlying74 rfl info54 ?_)
    | (go_at_call 61; refine (HRI.out _).mono ?_))
  rintro e WR ⟨rfl, hx⟩
  have HXR : Hid (Only q w WR) := Lib.hid (HX5.out.trans hx.ch); have HIR := Lib.hid (HI5.out.ext hx)
  have HZR := Lib.hid (heap_of_ext hx HZ5.out); have HRR := Lib.hid (heap_of_ext hx HR5.out)
  clear hx
  by_cases he : E = 0
  · have hE : (((E : Nat) : Int) != 0) = false := by simp [he]
    have HE0 := Lib.hid he
    clear he
    obtain ⟨bs', a', ao', cap', _, _, hc2, _⟩ := HIR.out.cells
    by_cases hb : (s1).2 = 0
    · have hb2 : ((s1).2 != 0) = false := by simp [hb]
      have HB := Lib.hid hb
      clear hb
      go_wp2_with (first
        | (refine wpList_load_row rfl _ _ rfl (w.heap.size + 1) rfl _ _ _ _ HRR.out Tryz.underlying74 rfl info54 ?_)
        | (refine wpList_store_rowTo rfl _ _ _ rfl rfl w.heap.size #[.int .u8 (k : Nat), .int .i64 (u : Nat), .int .u64 0, .int .u64 0, .string ⟨#[]⟩] rfl rfl _ _ HZR.out info54 rfl (rrow_one _ _ _ _ _) ?_))
      refine bodyPost_ret (results_cell_row rfl _ _ w.heap.size _ #[.int .u8 (k : Nat), .int .i64 (u : Nat), .int .u64 0, .int .u64 0, .string ⟨#[]⟩] _ _ rfl (setRow_heap _ _ _ _ _ _ HZR.out) Tryz.underlying74 rfl info54) rfl ?_
      exact HPV.out HE0.out HB.out _ (HXR.out.setRow (.inr (Nat.le_refl _)) _) (HIR.out.aboveT ((Ch.refl _ _).setRow (.inl (by have := HQL.out; omega)) _))
    · have hb2 : ((s1).2 != 0) = true := by simpa using hb
      have HB := Lib.hid hb
      clear hb
      go_wp2_with (first
        | (refine wpList_store_rowTo rfl _ _ _ rfl rfl w.heap.size #[.int .u8 0, .int .i64 0, .int .u64 0, .int .u64 0, .string ⟨#[]⟩] rfl rfl _ _ HZR.out info54 rfl (rrow_one _ _ _ _ _) ?_))
      refine bodyPost_ret (results_cell_row rfl _ _ w.heap.size _ #[.int .u8 0, .int .i64 0, .int .u64 0, .int .u64 0, .string ⟨#[]⟩] _ _ rfl (setRow_heap _ _ _ _ _ _ HZR.out) Tryz.underlying74 rfl info54) rfl ?_
      exact HPZ.out (.inl ⟨HE0.out, HB.out⟩) _ (HXR.out.setRow (.inr (Nat.le_refl _)) _) (by rw [HF0.out HE0.out]; exact HIR.out.aboveT ((Ch.refl _ _).setRow (.inl (by have := HQL.out; omega)) _))
  · have hE : (((E : Nat) : Int) != 0) = true := by simp; omega
    have HGU := Lib.hid (fun w h => giveUp_any q (s1) (E : Nat) w h)
    have HE0 := Lib.hid he
    clear he
    unfold QPtr at HGU
    go_wp2_with (go_at_call 32; refine (HGU.out _ HIR.out).mono ?_)
    rintro e WG ⟨rfl, k1, k2⟩
    have HXG : Hid (Only q w WG) := Lib.hid (HXR.out.trans k1); have HIG := Lib.hid k2
    have HZG := Lib.hid (heap_of_only k1 (by have := HQL.out; omega) HZR.out)
    have hb2 : ((failR (s1) (E : Nat)).2 != 0) = true := by simpa using failR_ne _ _ (by have := HE0.out; omega)
    obtain ⟨bs', a', ao', cap', _, _, hc2, _⟩ := HIG.out.cells
    clear k1 k2
    go_wp2_with (first
      | (refine wpList_store_rowTo rfl _ _ _ rfl rfl w.heap.size #[.int .u8 0, .int .i64 0, .int .u64 0, .int .u64 0, .string ⟨#[]⟩] rfl rfl _ _ HZG.out info54 rfl (rrow_one _ _ _ _ _) ?_))
    refine bodyPost_ret (results_cell_row rfl _ _ w.heap.size _ #[.int .u8 0, .int .i64 0, .int .u64 0, .int .u64 0, .string ⟨#[]⟩] _ _ rfl (setRow_heap _ _ _ _ _ _ HZG.out) Tryz.underlying74 rfl info54) rfl ?_
    exact HPZ.out (.inr HE0.out) _ (HXG.out.setRow (.inr (Nat.le_refl _)) _) (HIG.out.aboveT ((Ch.refl _ _).setRow (.inl (by have := HQL.out; omega)) _))
set_option maxRecDepth 20000 in
set_option maxHeartbeats 3000000 in
theorem qtake_1v2 (q : Nat) (s : RS) (ver k : Nat) (w : World) (h : IsQ w q s) (hk : k = 1) (hv : ver = 2) :
    Calls Tryz.prog 85 #[QPtr q, .int .u8 (k : Nat), .int .u8 (ver : Nat)] w (TqPost q (vTake ver k s).1 (vTake ver k s).2 w) := by
  have HQL := Lib.hid h.lt
  have hg6 : ((w.alloc (.cells #[.int .u8 0, .int .i64 0, .int .u64 0, .int .u64 0, .string ⟨#[]⟩] 74)).alloc (.cells #[.int .u8 0, .int .i64 0, .int .u64 0, .int .u64 0, .string ⟨#[]⟩] 74)).heap[w.heap.size]? = _ := heap_alloc2_old w _ _
  have hq : ((w.alloc (.cells #[.int .u8 0, .int .i64 0, .int .u64 0, .int .u64 0, .string ⟨#[]⟩] 74)).alloc (.cells #[.int .u8 0, .int .i64 0, .int .u64 0, .int .u64 0, .string ⟨#[]⟩] 74)).heap[(w.heap.size + 1)]? = _ := heap_alloc2_new w _ _
  have HQ := Lib.hid hq
  obtain ⟨W3, hW3⟩ : ∃ W3, W3 = ((w.alloc (.cells #[.int .u8 0, .int .i64 0, .int .u64 0, .int .u64 0, .string ⟨#[]⟩] 74)).alloc (.cells #[.int .u8 0, .int .i64 0, .int .u64 0, .int .u64 0, .string ⟨#[]⟩] 74)).setRow (w.heap.size + 1) #[.int .u8 (k : Nat), .int .i64 0, .int .u64 0, .int .u64 0, .string ⟨#[]⟩] := ⟨_, rfl⟩
  have hx3 : Ext w W3 := by rw [hW3]; exact (((Ch.refl _ _).alloc _).alloc _).setRow (.inr (by omega)) _
  have HZ3 : Hid (W3.heap[w.heap.size]? = some (.cells #[.int .u8 0, .int .i64 0, .int .u64 0, .int .u64 0, .string ⟨#[]⟩] 74 (0, 0))) := Lib.hid (by rw [hW3, setRow_other _ _ _ _ (by omega)]; exact hg6)
  have HR3 : Hid (W3.heap[(w.heap.size + 1)]? = some (.cells #[.int .u8 (k : Nat), .int .i64 0, .int .u64 0, .int .u64 0, .string ⟨#[]⟩] 74 (0, 0))) := Lib.hid (by rw [hW3]; exact setRow_heap _ _ _ _ _ _ hq)
  have HX3 : Hid (Only q w W3) := Lib.hid hx3.ch
  have HI3 := Lib.hid (h.ext hx3)
  have HW3 := Lib.hid hW3
  clear hq hx3 hg6 hW3 h
  have hraw : rawR ver k s = (⟨k, ((byteR s).1 : Int), 0, 0, []⟩, (byteR s).2) := by unfold rawR;  rw [if_pos hk]
  obtain ⟨E, hEE⟩ : ∃ E, E = vErr ⟨k, ((byteR s).1 : Int), 0, 0, []⟩ := ⟨_, rfl⟩
  have hvt : vTake ver k s = (if (failR ((byteR s).2) (E : Nat)).2 ≠ 0 then .zero else ⟨k, ((byteR s).1 : Int), 0, 0, []⟩, failR ((byteR s).2) (E : Nat)) := by
    unfold vTake
    rw [if_neg (by omega), hraw]
    simp only
    rw [← hEE]
    split <;> rfl
  rw [hvt]
  obtain ⟨PO, hPO⟩ : ∃ PO, PO = TqPost q (if (failR ((byteR s).2) (E : Nat)).2 ≠ 0 then Val.zero else ⟨k, ((byteR s).1 : Int), 0, 0, []⟩) (failR ((byteR s).2) (E : Nat)) w := ⟨_, rfl⟩
  have HPZ : Hid (((E = 0 ∧ ((byteR s).2).2 ≠ 0) ∨ E ≠ 0) → ∀ w', Only q w w' → IsQ w' q (failR ((byteR s).2) (E : Nat)) → PO (.returned (rv Val.zero)) w') := Lib.hid fun h1 w' h2 h3 => by
    rw [hPO]
    refine ⟨?_, h2, h3⟩
    rw [if_pos]
    rcases h1 with ⟨h1, h4⟩ | h1
    · rw [h1, show (((0 : Nat) : Int)) = 0 by rfl, failR_zero]; exact h4
    · exact failR_ne _ _ (by omega)
  have HPV : Hid (E = 0 → ((byteR s).2).2 = 0 → ∀ w', Only q w w' → IsQ w' q ((byteR s).2) → PO (.returned (rv ⟨k, ((byteR s).1 : Int), 0, 0, []⟩)) w') := Lib.hid fun h1 h4 w' h2 h3 => by
    have hf : failR ((byteR s).2) (E : Nat) = (byteR s).2 := by rw [h1]; exact failR_zero _
    rw [hPO, hf]
    refine ⟨?_, h2, h3⟩
    rw [if_neg (by rw [h4]; decide)]
  have HF0 : Hid (E = 0 → failR ((byteR s).2) (E : Nat) = (byteR s).2) := Lib.hid fun h1 => by rw [h1]; exact failR_zero _
  rw [← hPO]
  have HEE := Lib.hid hEE
  clear hraw hvt hPO hEE
  have HC := Lib.hid (fun w h => qbyte_any q s w h)
  have hbl := byteR_lt s
  generalize (byteR s).1 = u at *
  generalize (byteR s).2 = s1 at *
  have hwr : IntKind.i64.wrap (u : Int) = (u : Int) := by rw [IntKind.wrap_i64]; omega
  have e1 : (((k : Nat) : Int) == 1) = true := by rw [hk]; rfl
  clear hk
  subst hv
  unfold QPtr at *
  go_enter Tryz.func85, Tryz.ntmps85
  go_wp2_with (first
    | (refine wpList_store_rowTo rfl _ _ _ rfl rfl (w.heap.size + 1) #[.int .u8 (k : Nat), .int .i64 0, .int .u64 0, .int .u64 0, .string ⟨#[]⟩] rfl rfl _ _ HQ.out info54 rfl (rrow_one _ _ _ _ _) ?_; rw [← HW3.out])
    | (go_at_call 83; refine (HC.out _ HI3.out).mono ?_))
  rintro e W4 ⟨rfl, k1, k2⟩
  have HX4 : Hid (Only q w W4) := Lib.hid (HX3.out.trans k1); have HI4 := Lib.hid k2
  have HZ4 : Hid (W4.heap[w.heap.size]? = some (.cells #[.int .u8 0, .int .i64 0, .int .u64 0, .int .u64 0, .string ⟨#[]⟩] 74 (0, 0))) := Lib.hid (heap_of_only k1 (by have := HQL.out; omega) HZ3.out)
  have HR4 : Hid (W4.heap[(w.heap.size + 1)]? = some (.cells #[.int .u8 (k : Nat), .int .i64 0, .int .u64 0, .int .u64 0, .string ⟨#[]⟩] 74 (0, 0))) := Lib.hid (heap_of_only k1 (by have := HQL.out; omega) HR3.out)
  clear k1 k2
  have d5 : W4.cell? ⟨(w.heap.size + 1), 1, none⟩ = some (.int .i64 0) := by rw [cell_of_row _ _ _ _ _ _ HR4.out]; rfl
  have f5 := frozen_of_row W4 (w.heap.size + 1) 1 _ _ HR4.out
  obtain ⟨W5, hW5⟩ : ∃ Wz, Wz = W4.setCell ⟨(w.heap.size + 1), 1, none⟩ (.int .i64 (u : Nat)) := ⟨_, rfl⟩
  have HR5 : Hid (W5.heap[(w.heap.size + 1)]? = some (.cells #[.int .u8 (k : Nat), .int .i64 (u : Nat), .int .u64 0, .int .u64 0, .string ⟨#[]⟩] 74 (0, 0))) := Lib.hid (by rw [hW5]; exact heap_setCell_same W4 (w.heap.size + 1) 1 _ _ _ HR4.out)
  have HZ5 : Hid (W5.heap[w.heap.size]? = some (.cells #[.int .u8 0, .int .i64 0, .int .u64 0, .int .u64 0, .string ⟨#[]⟩] 74 (0, 0))) := Lib.hid (by rw [hW5, heap_setCell_other W4 ⟨(w.heap.size + 1), 1, none⟩ w.heap.size (.int .i64 (u : Nat)) (by simp)]; exact HZ4.out)
  have HI5 : Hid (IsQ W5 q s1) := Lib.hid (by rw [hW5]; exact HI4.out.setElse d5 (noByte_i64 _) (by have := HQL.out; simp <;> omega) _)
  have HX5 : Hid (Only q w W5) := Lib.hid (by rw [hW5]; exact HX4.out.setCell (.inr (by simp <;> omega)) _)
  have HW5 := Lib.hid hW5
  clear hW5
  have HRI : Hid (∀ w, Calls Tryz.prog 61 #[.agg #[.int .u8 (k : Nat), .int .i64 (u : Nat), .int .u64 0, .int .u64 0, .string ⟨#[]⟩]] w fun e w' => e = .returned (.int .i64 (E : Nat)) ∧ Ext w w') := Lib.hid (by rw [HEE.out]; exact rright_any ⟨k, (u : Int), 0, 0, []⟩)
  go_wp2_with (first
    | (refine wpList_load_row rfl _ _ rfl (w.heap.size + 1) rfl _ _ _ _ HR5.out Tryz.underlying74 rfl info54 ?_)
    | (rw [← HW5.out]; refine wpList_load_row rfl _ _ rfl (w.heap.size + 1) rfl _ _ _ _ HR5.out Tryz.underlying74 rfl info54 ?_)
    | (go_at_call 61; refine (HRI.out _).mono ?_))
  rintro e WR ⟨rfl, hx⟩
  have HXR : Hid (Only q w WR) := Lib.hid (HX5.out.trans hx.ch); have HIR := Lib.hid (HI5.out.ext hx)
  have HZR := Lib.hid (heap_of_ext hx HZ5.out); have HRR := Lib.hid (heap_of_ext hx HR5.out)
  clear hx
  by_cases he : E = 0
  · have hE : (((E : Nat) : Int) != 0) = false := by simp [he]
    have HE0 := Lib.hid he
    clear he
    obtain ⟨bs', a', ao', cap', _, _, hc2, _⟩ := HIR.out.cells
    by_cases hb : (s1).2 = 0
    · have hb2 : ((s1).2 != 0) = false := by simp [hb]
      have HB := Lib.hid hb
      clear hb
      go_wp2_with (first
        | (refine wpList_load_row rfl _ _ rfl (w.heap.size + 1) rfl _ _ _ _ HRR.out Tryz.underlying74 rfl info54 ?_)
        | (refine wpList_store_rowTo rfl _ _ _ rfl rfl w.heap.size #[.int .u8 (k : Nat), .int .i64 (u : Nat), .int .u64 0, .int .u64 0, .string ⟨#[]⟩] rfl rfl _ _ HZR.out info54 rfl (rrow_one _ _ _ _ _) ?_))
      refine bodyPost_ret (results_cell_row rfl _ _ w.heap.size _ #[.int .u8 (k : Nat), .int .i64 (u : Nat), .int .u64 0, .int .u64 0, .string ⟨#[]⟩] _ _ rfl (setRow_heap _ _ _ _ _ _ HZR.out) Tryz.underlying74 rfl info54) rfl ?_
      exact HPV.out HE0.out HB.out _ (HXR.out.setRow (.inr (Nat.le_refl _)) _) (HIR.out.aboveT ((Ch.refl _ _).setRow (.inl (by have := HQL.out; omega)) _))
    · have hb2 : ((s1).2 != 0) = true := by simpa using hb
      have HB := Lib.hid hb
      clear hb
      go_wp2_with (first
        | (refine wpList_store_rowTo rfl _ _ _ rfl rfl w.heap.size #[.int .u8 0, .int .i64 0, .int .u64 0, .int .u64 0, .string ⟨#[]⟩] rfl rfl _ _ HZR.out info54 rfl (rrow_one _ _ _ _ _) ?_))
      refine bodyPost_ret (results_cell_row rfl _ _ w.heap.size _ #[.int .u8 0, .int .i64 0, .int .u64 0, .int .u64 0, .string ⟨#[]⟩] _ _ rfl (setRow_heap _ _ _ _ _ _ HZR.out) Tryz.underlying74 rfl info54) rfl ?_
      exact HPZ.out (.inl ⟨HE0.out, HB.out⟩) _ (HXR.out.setRow (.inr (Nat.le_refl _)) _) (by rw [HF0.out HE0.out]; exact HIR.out.aboveT ((Ch.refl _ _).setRow (.inl (by have := HQL.out; omega)) _))
  · have hE : (((E : Nat) : Int) != 0) = true := by simp; omega
    have HGU := Lib.hid (fun w h => giveUp_any q (s1) (E : Nat) w h)
    have HE0 := Lib.hid he
    clear he
    unfold QPtr at HGU
    go_wp2_with (go_at_call 32; refine (HGU.out _ HIR.out).mono ?_)
    rintro e WG ⟨rfl, k1, k2⟩
    have HXG : Hid (Only q w WG) := Lib.hid (HXR.out.trans k1); have HIG := Lib.hid k2
    have HZG := Lib.hid (heap_of_only k1 (by have := HQL.out; omega) HZR.out)
    have hb2 : ((failR (s1) (E : Nat)).2 != 0) = true := by simpa using failR_ne _ _ (by have := HE0.out; omega)
    obtain ⟨bs', a', ao', cap', _, _, hc2, _⟩ := HIG.out.cells
    clear k1 k2
    go_wp2_with (first
      | (refine wpList_store_rowTo rfl _ _ _ rfl rfl w.heap.size #[.int .u8 0, .int .i64 0, .int .u64 0, .int .u64 0, .string ⟨#[]⟩] rfl rfl _ _ HZG.out info54 rfl (rrow_one _ _ _ _ _) ?_))
    refine bodyPost_ret (results_cell_row rfl _ _ w.heap.size _ #[.int .u8 0, .int .i64 0, .int .u64 0, .int .u64 0, .string ⟨#[]⟩] _ _ rfl (setRow_heap _ _ _ _ _ _ HZG.out) Tryz.underlying74 rfl info54) rfl ?_
    exact HPZ.out (.inr HE0.out) _ (HXG.out.setRow (.inr (Nat.le_refl _)) _) (HIG.out.aboveT ((Ch.refl _ _).setRow (.inl (by have := HQL.out; omega)) _))
set_option maxRecDepth 20000 in
set_option maxHeartbeats 3000000 in
theorem qtake_2v1 (q : Nat) (s : RS) (ver k : Nat) (w : World) (h : IsQ w q s) (hk : k = 2) (hv : ver = 1) :
    Calls Tryz.prog 85 #[QPtr q, .int .u8 (k : Nat), .int .u8 (ver : Nat)] w (TqPost q (vTake ver k s).1 (vTake ver k s).2 w) := by
  have HQL := Lib.hid h.lt
  have hg6 : ((w.alloc (.cells #[.int .u8 0, .int .i64 0, .int .u64 0, .int .u64 0, .string ⟨#[]⟩] 74)).alloc (.cells #[.int .u8 0, .int .i64 0, .int .u64 0, .int .u64 0, .string ⟨#[]⟩] 74)).heap[w.heap.size]? = _ := heap_alloc2_old w _ _
  have hq : ((w.alloc (.cells #[.int .u8 0, .int .i64 0, .int .u64 0, .int .u64 0, .string ⟨#[]⟩] 74)).alloc (.cells #[.int .u8 0, .int .i64 0, .int .u64 0, .int .u64 0, .string ⟨#[]⟩] 74)).heap[(w.heap.size + 1)]? = _ := heap_alloc2_new w _ _
  have HQ := Lib.hid hq
  obtain ⟨W3, hW3⟩ : ∃ W3, W3 = ((w.alloc (.cells #[.int .u8 0, .int .i64 0, .int .u64 0, .int .u64 0, .string ⟨#[]⟩] 74)).alloc (.cells #[.int .u8 0, .int .i64 0, .int .u64 0, .int .u64 0, .string ⟨#[]⟩] 74)).setRow (w.heap.size + 1) #[.int .u8 (k : Nat), .int .i64 0, .int .u64 0, .int .u64 0, .string ⟨#[]⟩] := ⟨_, rfl⟩
  have hx3 : Ext w W3 := by rw [hW3]; exact (((Ch.refl _ _).alloc _).alloc _).setRow (.inr (by omega)) _
  have HZ3 : Hid (W3.heap[w.heap.size]? = some (.cells #[.int .u8 0, .int .i64 0, .int .u64 0, .int .u64 0, .string ⟨#[]⟩] 74 (0, 0))) := Lib.hid (by rw [hW3, setRow_other _ _ _ _ (by omega)]; exact hg6)
  have HR3 : Hid (W3.heap[(w.heap.size + 1)]? = some (.cells #[.int .u8 (k : Nat), .int .i64 0, .int .u64 0, .int .u64 0, .string ⟨#[]⟩] 74 (0, 0))) := Lib.hid (by rw [hW3]; exact setRow_heap _ _ _ _ _ _ hq)
  have HX3 : Hid (Only q w W3) := Lib.hid hx3.ch
  have HI3 := Lib.hid (h.ext hx3)
  have HW3 := Lib.hid hW3
  clear hq hx3 hg6 hW3 h
  have hraw : rawR ver k s = (⟨k, u64i (wordR s).1, 0, 0, []⟩, (wordR s).2) := by unfold rawR; rw [if_neg (by omega)]; rw [if_pos hk]; rw [if_pos hv]
  obtain ⟨E, hEE⟩ : ∃ E, E = vErr ⟨k, u64i (wordR s).1, 0, 0, []⟩ := ⟨_, rfl⟩
  have hvt : vTake ver k s = (if (failR ((wordR s).2) (E : Nat)).2 ≠ 0 then .zero else ⟨k, u64i (wordR s).1, 0, 0, []⟩, failR ((wordR s).2) (E : Nat)) := by
    unfold vTake
    rw [if_neg (by omega), hraw]
    simp only
    rw [← hEE]
    split <;> rfl
  rw [hvt]
  obtain ⟨PO, hPO⟩ : ∃ PO, PO = TqPost q (if (failR ((wordR s).2) (E : Nat)).2 ≠ 0 then Val.zero else ⟨k, u64i (wordR s).1, 0, 0, []⟩) (failR ((wordR s).2) (E : Nat)) w := ⟨_, rfl⟩
  have HPZ : Hid (((E = 0 ∧ ((wordR s).2).2 ≠ 0) ∨ E ≠ 0) → ∀ w', Only q w w' → IsQ w' q (failR ((wordR s).2) (E : Nat)) → PO (.returned (rv Val.zero)) w') := Lib.hid fun h1 w' h2 h3 => by
    rw [hPO]
    refine ⟨?_, h2, h3⟩
    rw [if_pos]
    rcases h1 with ⟨h1, h4⟩ | h1
    · rw [h1, show (((0 : Nat) : Int)) = 0 by rfl, failR_zero]; exact h4
    · exact failR_ne _ _ (by omega)
  have HPV : Hid (E = 0 → ((wordR s).2).2 = 0 → ∀ w', Only q w w' → IsQ w' q ((wordR s).2) → PO (.returned (rv ⟨k, u64i (wordR s).1, 0, 0, []⟩)) w') := Lib.hid fun h1 h4 w' h2 h3 => by
    have hf : failR ((wordR s).2) (E : Nat) = (wordR s).2 := by rw [h1]; exact failR_zero _
    rw [hPO, hf]
    refine ⟨?_, h2, h3⟩
    rw [if_neg (by rw [h4]; decide)]
  have HF0 : Hid (E = 0 → failR ((wordR s).2) (E : Nat) = (wordR s).2) := Lib.hid fun h1 => by rw [h1]; exact failR_zero _
  rw [← hPO]
  have HEE := Lib.hid hEE
  clear hraw hvt hPO hEE
  have HC := Lib.hid (fun w h => qword_any q s w h)
  have hwr := u64i_wrap (wordR_lt s)
  generalize (wordR s).1 = u0 at *
  generalize (wordR s).2 = s1 at *
  generalize u64i u0 = u at *
  have e1 : (((k : Nat) : Int) == 1) = false := by rw [hk]; rfl
  have e2 : (((k : Nat) : Int) == 2) = true := by rw [hk]; rfl
  clear hk
  subst hv
  unfold QPtr at *
  go_enter Tryz.func85, Tryz.ntmps85
  go_wp2_with (first
    | (refine wpList_store_rowTo rfl _ _ _ rfl rfl (w.heap.size + 1) #[.int .u8 (k : Nat), .int .i64 0, .int .u64 0, .int .u64 0, .string ⟨#[]⟩] rfl rfl _ _ HQ.out info54 rfl (rrow_one _ _ _ _ _) ?_; rw [← HW3.out])
    | (go_at_call 111; refine (HC.out _ HI3.out).mono ?_))
  rintro e W4 ⟨rfl, k1, k2⟩
  have HX4 : Hid (Only q w W4) := Lib.hid (HX3.out.trans k1); have HI4 := Lib.hid k2
  have HZ4 : Hid (W4.heap[w.heap.size]? = some (.cells #[.int .u8 0, .int .i64 0, .int .u64 0, .int .u64 0, .string ⟨#[]⟩] 74 (0, 0))) := Lib.hid (heap_of_only k1 (by have := HQL.out; omega) HZ3.out)
  have HR4 : Hid (W4.heap[(w.heap.size + 1)]? = some (.cells #[.int .u8 (k : Nat), .int .i64 0, .int .u64 0, .int .u64 0, .string ⟨#[]⟩] 74 (0, 0))) := Lib.hid (heap_of_only k1 (by have := HQL.out; omega) HR3.out)
  clear k1 k2
  have d5 : W4.cell? ⟨(w.heap.size + 1), 1, none⟩ = some (.int .i64 0) := by rw [cell_of_row _ _ _ _ _ _ HR4.out]; rfl
  have f5 := frozen_of_row W4 (w.heap.size + 1) 1 _ _ HR4.out
  obtain ⟨W5, hW5⟩ : ∃ Wz, Wz = W4.setCell ⟨(w.heap.size + 1), 1, none⟩ (.int .i64 u) := ⟨_, rfl⟩
  have HR5 : Hid (W5.heap[(w.heap.size + 1)]? = some (.cells #[.int .u8 (k : Nat), .int .i64 u, .int .u64 0, .int .u64 0, .string ⟨#[]⟩] 74 (0, 0))) := Lib.hid (by rw [hW5]; exact heap_setCell_same W4 (w.heap.size + 1) 1 _ _ _ HR4.out)
  have HZ5 : Hid (W5.heap[w.heap.size]? = some (.cells #[.int .u8 0, .int .i64 0, .int .u64 0, .int .u64 0, .string ⟨#[]⟩] 74 (0, 0))) := Lib.hid (by rw [hW5, heap_setCell_other W4 ⟨(w.heap.size + 1), 1, none⟩ w.heap.size (.int .i64 u) (by simp)]; exact HZ4.out)
  have HI5 : Hid (IsQ W5 q s1) := Lib.hid (by rw [hW5]; exact HI4.out.setElse d5 (noByte_i64 _) (by have := HQL.out; simp <;> omega) _)
  have HX5 : Hid (Only q w W5) := Lib.hid (by rw [hW5]; exact HX4.out.setCell (.inr (by simp <;> omega)) _)
  have HW5 := Lib.hid hW5
  clear hW5
  have HRI : Hid (∀ w, Calls Tryz.prog 61 #[.agg #[.int .u8 (k : Nat), .int .i64 u, .int .u64 0, .int .u64 0, .string ⟨#[]⟩]] w fun e w' => e = .returned (.int .i64 (E : Nat)) ∧ Ext w w') := Lib.hid (by rw [HEE.out]; exact rright_any ⟨k, u, 0, 0, []⟩)
  go_wp2_with (first
    | (refine wpList_load_row rfl _ _ rfl (w.heap.size + 1) rfl _ _ _ _ HR5.out Tryz.underlying74 rfl info54 ?_)
    | (rw [← HW5.out]; refine wpList_load_row rfl _ _ rfl (w.heap.size + 1) rfl _ _ _ _ HR5.out Tryz.underlying74 rfl info54 ?_)
    | (go_at_call 61; refine (HRI.out _).mono ?_))
  rintro e WR ⟨rfl, hx⟩
  have HXR : Hid (Only q w WR) := Lib.hid (HX5.out.trans hx.ch); have HIR := Lib.hid (HI5.out.ext hx)
  have HZR := Lib.hid (heap_of_ext hx HZ5.out); have HRR := Lib.hid (heap_of_ext hx HR5.out)
  clear hx
  by_cases he : E = 0
  · have hE : (((E : Nat) : Int) != 0) = false := by simp [he]
    have HE0 := Lib.hid he
    clear he
    obtain ⟨bs', a', ao', cap', _, _, hc2, _⟩ := HIR.out.cells
    by_cases hb : (s1).2 = 0
    · have hb2 : ((s1).2 != 0) = false := by simp [hb]
      have HB := Lib.hid hb
      clear hb
      go_wp2_with (first
        | (refine wpList_load_row rfl _ _ rfl (w.heap.size + 1) rfl _ _ _ _ HRR.out Tryz.underlying74 rfl info54 ?_)
        | (refine wpList_store_rowTo rfl _ _ _ rfl rfl w.heap.size #[.int .u8 (k : Nat), .int .i64 u, .int .u64 0, .int .u64 0, .string ⟨#[]⟩] rfl rfl _ _ HZR.out info54 rfl (rrow_one _ _ _ _ _) ?_))
      refine bodyPost_ret (results_cell_row rfl _ _ w.heap.size _ #[.int .u8 (k : Nat), .int .i64 u, .int .u64 0, .int .u64 0, .string ⟨#[]⟩] _ _ rfl (setRow_heap _ _ _ _ _ _ HZR.out) Tryz.underlying74 rfl info54) rfl ?_
      exact HPV.out HE0.out HB.out _ (HXR.out.setRow (.inr (Nat.le_refl _)) _) (HIR.out.aboveT ((Ch.refl _ _).setRow (.inl (by have := HQL.out; omega)) _))
    · have hb2 : ((s1).2 != 0) = true := by simpa using hb
      have HB := Lib.hid hb
      clear hb
      go_wp2_with (first
        | (refine wpList_store_rowTo rfl _ _ _ rfl rfl w.heap.size #[.int .u8 0, .int .i64 0, .int .u64 0, .int .u64 0, .string ⟨#[]⟩] rfl rfl _ _ HZR.out info54 rfl (rrow_one _ _ _ _ _) ?_))
      refine bodyPost_ret (results_cell_row rfl _ _ w.heap.size _ #[.int .u8 0, .int .i64 0, .int .u64 0, .int .u64 0, .string ⟨#[]⟩] _ _ rfl (setRow_heap _ _ _ _ _ _ HZR.out) Tryz.underlying74 rfl info54) rfl ?_
      exact HPZ.out (.inl ⟨HE0.out, HB.out⟩) _ (HXR.out.setRow (.inr (Nat.le_refl _)) _) (by rw [HF0.out HE0.out]; exact HIR.out.aboveT ((Ch.refl _ _).setRow (.inl (by have := HQL.out; omega)) _))
  · have hE : (((E : Nat) : Int) != 0) = true := by simp; omega
    have HGU := Lib.hid (fun w h => giveUp_any q (s1) (E : Nat) w h)
    have HE0 := Lib.hid he
    clear he
    unfold QPtr at HGU
    go_wp2_with (go_at_call 32; refine (HGU.out _ HIR.out).mono ?_)
    rintro e WG ⟨rfl, k1, k2⟩
    have HXG : Hid (Only q w WG) := Lib.hid (HXR.out.trans k1); have HIG := Lib.hid k2
    have HZG := Lib.hid (heap_of_only k1 (by have := HQL.out; omega) HZR.out)
    have hb2 : ((failR (s1) (E : Nat)).2 != 0) = true := by simpa using failR_ne _ _ (by have := HE0.out; omega)
    obtain ⟨bs', a', ao', cap', _, _, hc2, _⟩ := HIG.out.cells
    clear k1 k2
    go_wp2_with (first
      | (refine wpList_store_rowTo rfl _ _ _ rfl rfl w.heap.size #[.int .u8 0, .int .i64 0, .int .u64 0, .int .u64 0, .string ⟨#[]⟩] rfl rfl _ _ HZG.out info54 rfl (rrow_one _ _ _ _ _) ?_))
    refine bodyPost_ret (results_cell_row rfl _ _ w.heap.size _ #[.int .u8 0, .int .i64 0, .int .u64 0, .int .u64 0, .string ⟨#[]⟩] _ _ rfl (setRow_heap _ _ _ _ _ _ HZG.out) Tryz.underlying74 rfl info54) rfl ?_
    exact HPZ.out (.inr HE0.out) _ (HXG.out.setRow (.inr (Nat.le_refl _)) _) (HIG.out.aboveT ((Ch.refl _ _).setRow (.inl (by have := HQL.out; omega)) _))
set_option maxRecDepth 20000 in
set_option maxHeartbeats 3000000 in
theorem qtake_2v2 (q : Nat) (s : RS) (ver k : Nat) (w : World) (h : IsQ w q s) (hk : k = 2) (hv : ver = 2) :
    Calls Tryz.prog 85 #[QPtr q, .int .u8 (k : Nat), .int .u8 (ver : Nat)] w (TqPost q (vTake ver k s).1 (vTake ver k s).2 w) := by
  have HQL := Lib.hid h.lt
  have hg6 : ((w.alloc (.cells #[.int .u8 0, .int .i64 0, .int .u64 0, .int .u64 0, .string ⟨#[]⟩] 74)).alloc (.cells #[.int .u8 0, .int .i64 0, .int .u64 0, .int .u64 0, .string ⟨#[]⟩] 74)).heap[w.heap.size]? = _ := heap_alloc2_old w _ _
  have hq : ((w.alloc (.cells #[.int .u8 0, .int .i64 0, .int .u64 0, .int .u64 0, .string ⟨#[]⟩] 74)).alloc (.cells #[.int .u8 0, .int .i64 0, .int .u64 0, .int .u64 0, .string ⟨#[]⟩] 74)).heap[(w.heap.size + 1)]? = _ := heap_alloc2_new w _ _
  have HQ := Lib.hid hq
  obtain ⟨W3, hW3⟩ : ∃ W3, W3 = ((w.alloc (.cells #[.int .u8 0, .int .i64 0, .int .u64 0, .int .u64 0, .string ⟨#[]⟩] 74)).alloc (.cells #[.int .u8 0, .int .i64 0, .int .u64 0, .int .u64 0, .string ⟨#[]⟩] 74)).setRow (w.heap.size + 1) #[.int .u8 (k : Nat), .int .i64 0, .int .u64 0, .int .u64 0, .string ⟨#[]⟩] := ⟨_, rfl⟩
  have hx3 : Ext w W3 := by rw [hW3]; exact (((Ch.refl _ _).alloc _).alloc _).setRow (.inr (by omega)) _
  have HZ3 : Hid (W3.heap[w.heap.size]? = some (.cells #[.int .u8 0, .int .i64 0, .int .u64 0, .int .u64 0, .string ⟨#[]⟩] 74 (0, 0))) := Lib.hid (by rw [hW3, setRow_other _ _ _ _ (by omega)]; exact hg6)
  have HR3 : Hid (W3.heap[(w.heap.size + 1)]? = some (.cells #[.int .u8 (k : Nat), .int .i64 0, .int .u64 0, .int .u64 0, .string ⟨#[]⟩] 74 (0, 0))) := Lib.hid (by rw [hW3]; exact setRow_heap _ _ _ _ _ _ hq)
  have HX3 : Hid (Only q w W3) := Lib.hid hx3.ch
  have HI3 := Lib.hid (h.ext hx3)
  have HW3 := Lib.hid hW3
  clear hq hx3 hg6 hW3 h
  have hraw : rawR ver k s = (⟨k, (intR s).1, 0, 0, []⟩, (intR s).2) := by unfold rawR; rw [if_neg (by omega)]; rw [if_pos hk]; rw [if_neg (by omega)]
  obtain ⟨E, hEE⟩ : ∃ E, E = vErr ⟨k, (intR s).1, 0, 0, []⟩ := ⟨_, rfl⟩
  have hvt : vTake ver k s = (if (failR ((intR s).2) (E : Nat)).2 ≠ 0 then .zero else ⟨k, (intR s).1, 0, 0, []⟩, failR ((intR s).2) (E : Nat)) := by
    unfold vTake
    rw [if_neg (by omega), hraw]
    simp only
    rw [← hEE]
    split <;> rfl
  rw [hvt]
  obtain ⟨PO, hPO⟩ : ∃ PO, PO = TqPost q (if (failR ((intR s).2) (E : Nat)).2 ≠ 0 then Val.zero else ⟨k, (intR s).1, 0, 0, []⟩) (failR ((intR s).2) (E : Nat)) w := ⟨_, rfl⟩
  have HPZ : Hid (((E = 0 ∧ ((intR s).2).2 ≠ 0) ∨ E ≠ 0) → ∀ w', Only q w w' → IsQ w' q (failR ((intR s).2) (E : Nat)) → PO (.returned (rv Val.zero)) w') := Lib.hid fun h1 w' h2 h3 => by
    rw [hPO]
    refine ⟨?_, h2, h3⟩
    rw [if_pos]
    rcases h1 with ⟨h1, h4⟩ | h1
    · rw [h1, show (((0 : Nat) : Int)) = 0 by rfl, failR_zero]; exact h4
    · exact failR_ne _ _ (by omega)
  have HPV : Hid (E = 0 → ((intR s).2).2 = 0 → ∀ w', Only q w w' → IsQ w' q ((intR s).2) → PO (.returned (rv ⟨k, (intR s).1, 0, 0, []⟩)) w') := Lib.hid fun h1 h4 w' h2 h3 => by
    have hf : failR ((intR s).2) (E : Nat) = (intR s).2 := by rw [h1]; exact failR_zero _
    rw [hPO, hf]
    refine ⟨?_, h2, h3⟩
    rw [if_neg (by rw [h4]; decide)]
  have HF0 : Hid (E = 0 → failR ((intR s).2) (E : Nat) = (intR s).2) := Lib.hid fun h1 => by rw [h1]; exact failR_zero _
  rw [← hPO]
  have HEE := Lib.hid hEE
  clear hraw hvt hPO hEE
  have HC := Lib.hid (fun w h => qint_any q s w h)
  generalize (intR s).1 = u at *
  generalize (intR s).2 = s1 at *
  have e1 : (((k : Nat) : Int) == 1) = false := by rw [hk]; rfl
  have e2 : (((k : Nat) : Int) == 2) = true := by rw [hk]; rfl
  clear hk
  subst hv
  unfold QPtr at *
  go_enter Tryz.func85, Tryz.ntmps85
  go_wp2_with (first
    | (refine wpList_store_rowTo rfl _ _ _ rfl rfl (w.heap.size + 1) #[.int .u8 (k : Nat), .int .i64 0, .int .u64 0, .int .u64 0, .string ⟨#[]⟩] rfl rfl _ _ HQ.out info54 rfl (rrow_one _ _ _ _ _) ?_; rw [← HW3.out])
    | (go_at_call 112; refine (HC.out _ HI3.out).mono ?_))
  rintro e W4 ⟨rfl, k1, k2⟩
  have HX4 : Hid (Only q w W4) := Lib.hid (HX3.out.trans k1); have HI4 := Lib.hid k2
  have HZ4 : Hid (W4.heap[w.heap.size]? = some (.cells #[.int .u8 0, .int .i64 0, .int .u64 0, .int .u64 0, .string ⟨#[]⟩] 74 (0, 0))) := Lib.hid (heap_of_only k1 (by have := HQL.out; omega) HZ3.out)
  have HR4 : Hid (W4.heap[(w.heap.size + 1)]? = some (.cells #[.int .u8 (k : Nat), .int .i64 0, .int .u64 0, .int .u64 0, .string ⟨#[]⟩] 74 (0, 0))) := Lib.hid (heap_of_only k1 (by have := HQL.out; omega) HR3.out)
  clear k1 k2
  have d5 : W4.cell? ⟨(w.heap.size + 1), 1, none⟩ = some (.int .i64 0) := by rw [cell_of_row _ _ _ _ _ _ HR4.out]; rfl
  have f5 := frozen_of_row W4 (w.heap.size + 1) 1 _ _ HR4.out
  obtain ⟨W5, hW5⟩ : ∃ Wz, Wz = W4.setCell ⟨(w.heap.size + 1), 1, none⟩ (.int .i64 u) := ⟨_, rfl⟩
  have HR5 : Hid (W5.heap[(w.heap.size + 1)]? = some (.cells #[.int .u8 (k : Nat), .int .i64 u, .int .u64 0, .int .u64 0, .string ⟨#[]⟩] 74 (0, 0))) := Lib.hid (by rw [hW5]; exact heap_setCell_same W4 (w.heap.size + 1) 1 _ _ _ HR4.out)
  have HZ5 : Hid (W5.heap[w.heap.size]? = some (.cells #[.int .u8 0, .int .i64 0, .int .u64 0, .int .u64 0, .string ⟨#[]⟩] 74 (0, 0))) := Lib.hid (by rw [hW5, heap_setCell_other W4 ⟨(w.heap.size + 1), 1, none⟩ w.heap.size (.int .i64 u) (by simp)]; exact HZ4.out)
  have HI5 : Hid (IsQ W5 q s1) := Lib.hid (by rw [hW5]; exact HI4.out.setElse d5 (noByte_i64 _) (by have := HQL.out; simp <;> omega) _)
  have HX5 : Hid (Only q w W5) := Lib.hid (by rw [hW5]; exact HX4.out.setCell (.inr (by simp <;> omega)) _)
  have HW5 := Lib.hid hW5
  clear hW5
  have HRI : Hid (∀ w, Calls Tryz.prog 61 #[.agg #[.int .u8 (k : Nat), .int .i64 u, .int .u64 0, .int .u64 0, .string ⟨#[]⟩]] w fun e w' => e = .returned (.int .i64 (E : Nat)) ∧ Ext w w') := Lib.hid (by rw [HEE.out]; exact rright_any ⟨k, u, 0, 0, []⟩)
  go_wp2_with (first
    | (refine wpList_load_row rfl _ _ rfl (w.heap.size + 1) rfl _ _ _ _ HR5.out Tryz.underlying74 rfl info54 ?_)
    | (rw [← HW5.out]; refine wpList_load_row rfl _ _ rfl (w.heap.size + 1) rfl _ _ _ _ HR5.out Tryz.underlying74 rfl info54 ?_)
    | (go_at_call 61; refine (HRI.out _).mono ?_))
  rintro e WR ⟨rfl, hx⟩
  have HXR : Hid (Only q w WR) := Lib.hid (HX5.out.trans hx.ch); have HIR := Lib.hid (HI5.out.ext hx)
  have HZR := Lib.hid (heap_of_ext hx HZ5.out); have HRR := Lib.hid (heap_of_ext hx HR5.out)
  clear hx
  by_cases he : E = 0
  · have hE : (((E : Nat) : Int) != 0) = false := by simp [he]
    have HE0 := Lib.hid he
    clear he
    obtain ⟨bs', a', ao', cap', _, _, hc2, _⟩ := HIR.out.cells
    by_cases hb : (s1).2 = 0
    · have hb2 : ((s1).2 != 0) = false := by simp [hb]
      have HB := Lib.hid hb
      clear hb
      go_wp2_with (first
        | (refine wpList_load_row rfl _ _ rfl (w.heap.size + 1) rfl _ _ _ _ HRR.out Tryz.underlying74 rfl info54 ?_)
        | (refine wpList_store_rowTo rfl _ _ _ rfl rfl w.heap.size #[.int .u8 (k : Nat), .int .i64 u, .int .u64 0, .int .u64 0, .string ⟨#[]⟩] rfl rfl _ _ HZR.out info54 rfl (rrow_one _ _ _ _ _) ?_))
      refine bodyPost_ret (results_cell_row rfl _ _ w.heap.size _ #[.int .u8 (k : Nat), .int .i64 u, .int .u64 0, .int .u64 0, .string ⟨#[]⟩] _ _ rfl (setRow_heap _ _ _ _ _ _ HZR.out) Tryz.underlying74 rfl info54) rfl ?_
      exact HPV.out HE0.out HB.out _ (HXR.out.setRow (.inr (Nat.le_refl _)) _) (HIR.out.aboveT ((Ch.refl _ _).setRow (.inl (by have := HQL.out; omega)) _))
    · have hb2 : ((s1).2 != 0) = true := by simpa using hb
      have HB := Lib.hid hb
      clear hb
      go_wp2_with (first
        | (refine wpList_store_rowTo rfl _ _ _ rfl rfl w.heap.size #[.int .u8 0, .int .i64 0, .int .u64 0, .int .u64 0, .string ⟨#[]⟩] rfl rfl _ _ HZR.out info54 rfl (rrow_one _ _ _ _ _) ?_))
      refine bodyPost_ret (results_cell_row rfl _ _ w.heap.size _ #[.int .u8 0, .int .i64 0, .int .u64 0, .int .u64 0, .string ⟨#[]⟩] _ _ rfl (setRow_heap _ _ _ _ _ _ HZR.out) Tryz.underlying74 rfl info54) rfl ?_
      exact HPZ.out (.inl ⟨HE0.out, HB.out⟩) _ (HXR.out.setRow (.inr (Nat.le_refl _)) _) (by rw [HF0.out HE0.out]; exact HIR.out.aboveT ((Ch.refl _ _).setRow (.inl (by have := HQL.out; omega)) _))
  · have hE : (((E : Nat) : Int) != 0) = true := by simp; omega
    have HGU := Lib.hid (fun w h => giveUp_any q (s1) (E : Nat) w h)
    have HE0 := Lib.hid he
    clear he
    unfold QPtr at HGU
    go_wp2_with (go_at_call 32; refine (HGU.out _ HIR.out).mono ?_)
    rintro e WG ⟨rfl, k1, k2⟩
    have HXG : Hid (Only q w WG) := Lib.hid (HXR.out.trans k1); have HIG := Lib.hid k2
    have HZG := Lib.hid (heap_of_only k1 (by have := HQL.out; omega) HZR.out)
    have hb2 : ((failR (s1) (E : Nat)).2 != 0) = true := by simpa using failR_ne _ _ (by have := HE0.out; omega)
    obtain ⟨bs', a', ao', cap', _, _, hc2, _⟩ := HIG.out.cells
    clear k1 k2
    go_wp2_with (first
      | (refine wpList_store_rowTo rfl _ _ _ rfl rfl w.heap.size #[.int .u8 0, .int .i64 0, .int .u64 0, .int .u64 0, .string ⟨#[]⟩] rfl rfl _ _ HZG.out info54 rfl (rrow_one _ _ _ _ _) ?_))
    refine bodyPost_ret (results_cell_row rfl _ _ w.heap.size _ #[.int .u8 0, .int .i64 0, .int .u64 0, .int .u64 0, .string ⟨#[]⟩] _ _ rfl (setRow_heap _ _ _ _ _ _ HZG.out) Tryz.underlying74 rfl info54) rfl ?_
    exact HPZ.out (.inr HE0.out) _ (HXG.out.setRow (.inr (Nat.le_refl _)) _) (HIG.out.aboveT ((Ch.refl _ _).setRow (.inl (by have := HQL.out; omega)) _))
set_option maxRecDepth 20000 in
set_option maxHeartbeats 3000000 in
theorem qtake_3v1 (q : Nat) (s : RS) (ver k : Nat) (w : World) (h : IsQ w q s) (hk : k = 3) (hv : ver = 1) :
    Calls Tryz.prog 85 #[QPtr q, .int .u8 (k : Nat), .int .u8 (ver : Nat)] w (TqPost q (vTake ver k s).1 (vTake ver k s).2 w) := by
  have HQL := Lib.hid h.lt
  have hg6 : ((w.alloc (.cells #[.int .u8 0, .int .i64 0, .int .u64 0, .int .u64 0, .string ⟨#[]⟩] 74)).alloc (.cells #[.int .u8 0, .int .i64 0, .int .u64 0, .int .u64 0, .string ⟨#[]⟩] 74)).heap[w.heap.size]? = _ := heap_alloc2_old w _ _
  have hq : ((w.alloc (.cells #[.int .u8 0, .int .i64 0, .int .u64 0, .int .u64 0, .string ⟨#[]⟩] 74)).alloc (.cells #[.int .u8 0, .int .i64 0, .int .u64 0, .int .u64 0, .string ⟨#[]⟩] 74)).heap[(w.heap.size + 1)]? = _ := heap_alloc2_new w _ _
  have HQ := Lib.hid hq
  obtain ⟨W3, hW3⟩ : ∃ W3, W3 = ((w.alloc (.cells #[.int .u8 0, .int .i64 0, .int .u64 0, .int .u64 0, .string ⟨#[]⟩] 74)).alloc (.cells #[.int .u8 0, .int .i64 0, .int .u64 0, .int .u64 0, .string ⟨#[]⟩] 74)).setRow (w.heap.size + 1) #[.int .u8 (k : Nat), .int .i64 0, .int .u64 0, .int .u64 0, .string ⟨#[]⟩] := ⟨_, rfl⟩
  have hx3 : Ext w W3 := by rw [hW3]; exact (((Ch.refl _ _).alloc _).alloc _).setRow (.inr (by omega)) _
  have HZ3 : Hid (W3.heap[w.heap.size]? = some (.cells #[.int .u8 0, .int .i64 0, .int .u64 0, .int .u64 0, .string ⟨#[]⟩] 74 (0, 0))) := Lib.hid (by rw [hW3, setRow_other _ _ _ _ (by omega)]; exact hg6)
  have HR3 : Hid (W3.heap[(w.heap.size + 1)]? = some (.cells #[.int .u8 (k : Nat), .int .i64 0, .int .u64 0, .int .u64 0, .string ⟨#[]⟩] 74 (0, 0))) := Lib.hid (by rw [hW3]; exact setRow_heap _ _ _ _ _ _ hq)
  have HX3 : Hid (Only q w W3) := Lib.hid hx3.ch
  have HI3 := Lib.hid (h.ext hx3)
  have HW3 := Lib.hid hW3
  clear hq hx3 hg6 hW3 h
  have hraw : rawR ver k s = (⟨k, 0, (fltR ver s).1, 0, []⟩, (fltR ver s).2) := by unfold rawR; rw [if_neg (by omega)]; rw [if_neg (by omega)]; rw [if_pos hk]
  obtain ⟨E, hEE⟩ : ∃ E, E = vErr ⟨k, 0, (fltR ver s).1, 0, []⟩ := ⟨_, rfl⟩
  have hvt : vTake ver k s = (if (failR ((fltR ver s).2) (E : Nat)).2 ≠ 0 then .zero else ⟨k, 0, (fltR ver s).1, 0, []⟩, failR ((fltR ver s).2) (E : Nat)) := by
    unfold vTake
    rw [if_neg (by omega), hraw]
    simp only
    rw [← hEE]
    split <;> rfl
  rw [hvt]
  obtain ⟨PO, hPO⟩ : ∃ PO, PO = TqPost q (if (failR ((fltR ver s).2) (E : Nat)).2 ≠ 0 then Val.zero else ⟨k, 0, (fltR ver s).1, 0, []⟩) (failR ((fltR ver s).2) (E : Nat)) w := ⟨_, rfl⟩
  have HPZ : Hid (((E = 0 ∧ ((fltR ver s).2).2 ≠ 0) ∨ E ≠ 0) → ∀ w', Only q w w' → IsQ w' q (failR ((fltR ver s).2) (E : Nat)) → PO (.returned (rv Val.zero)) w') := Lib.hid fun h1 w' h2 h3 => by
    rw [hPO]
    refine ⟨?_, h2, h3⟩
    rw [if_pos]
    rcases h1 with ⟨h1, h4⟩ | h1
    · rw [h1, show (((0 : Nat) : Int)) = 0 by rfl, failR_zero]; exact h4
    · exact failR_ne _ _ (by omega)
  have HPV : Hid (E = 0 → ((fltR ver s).2).2 = 0 → ∀ w', Only q w w' → IsQ w' q ((fltR ver s).2) → PO (.returned (rv ⟨k, 0, (fltR ver s).1, 0, []⟩)) w') := Lib.hid fun h1 h4 w' h2 h3 => by
    have hf : failR ((fltR ver s).2) (E : Nat) = (fltR ver s).2 := by rw [h1]; exact failR_zero _
    rw [hPO, hf]
    refine ⟨?_, h2, h3⟩
    rw [if_neg (by rw [h4]; decide)]
  have HF0 : Hid (E = 0 → failR ((fltR ver s).2) (E : Nat) = (fltR ver s).2) := Lib.hid fun h1 => by rw [h1]; exact failR_zero _
  rw [← hPO]
  have HEE := Lib.hid hEE
  clear hraw hvt hPO hEE
  have HC := Lib.hid (fun w h => qtakeFloat_any q s ver w h)
  generalize (fltR ver s).1 = u at *
  generalize (fltR ver s).2 = s1 at *
  have e1 : (((k : Nat) : Int) == 1) = false := by rw [hk]; rfl
  have e2 : (((k : Nat) : Int) == 2) = false := by rw [hk]; rfl
  have e3 : (((k : Nat) : Int) == 3) = true := by rw [hk]; rfl
  clear hk
  subst hv
  unfold QPtr at *
  go_enter Tryz.func85, Tryz.ntmps85
  go_wp2_with (first
    | (refine wpList_store_rowTo rfl _ _ _ rfl rfl (w.heap.size + 1) #[.int .u8 (k : Nat), .int .i64 0, .int .u64 0, .int .u64 0, .string ⟨#[]⟩] rfl rfl _ _ HQ.out info54 rfl (rrow_one _ _ _ _ _) ?_; rw [← HW3.out])
    | (go_at_call 113; refine (HC.out _ HI3.out).mono ?_))
  rintro e W4 ⟨rfl, k1, k2⟩
  have HX4 : Hid (Only q w W4) := Lib.hid (HX3.out.trans k1); have HI4 := Lib.hid k2
  have HZ4 : Hid (W4.heap[w.heap.size]? = some (.cells #[.int .u8 0, .int .i64 0, .int .u64 0, .int .u64 0, .string ⟨#[]⟩] 74 (0, 0))) := Lib.hid (heap_of_only k1 (by have := HQL.out; omega) HZ3.out)
  have HR4 : Hid (W4.heap[(w.heap.size + 1)]? = some (.cells #[.int .u8 (k : Nat), .int .i64 0, .int .u64 0, .int .u64 0, .string ⟨#[]⟩] 74 (0, 0))) := Lib.hid (heap_of_only k1 (by have := HQL.out; omega) HR3.out)
  clear k1 k2
  have d5 : W4.cell? ⟨(w.heap.size + 1), 2, none⟩ = some (.int .u64 0) := by rw [cell_of_row _ _ _ _ _ _ HR4.out]; rfl
  have f5 := frozen_of_row W4 (w.heap.size + 1) 2 _ _ HR4.out
  obtain ⟨W5, hW5⟩ : ∃ Wz, Wz = W4.setCell ⟨(w.heap.size + 1), 2, none⟩ (.int .u64 (u : Nat)) := ⟨_, rfl⟩
  have HR5 : Hid (W5.heap[(w.heap.size + 1)]? = some (.cells #[.int .u8 (k : Nat), .int .i64 0, .int .u64 (u : Nat), .int .u64 0, .string ⟨#[]⟩] 74 (0, 0))) := Lib.hid (by rw [hW5]; exact heap_setCell_same W4 (w.heap.size + 1) 2 _ _ _ HR4.out)
  have HZ5 : Hid (W5.heap[w.heap.size]? = some (.cells #[.int .u8 0, .int .i64 0, .int .u64 0, .int .u64 0, .string ⟨#[]⟩] 74 (0, 0))) := Lib.hid (by rw [hW5, heap_setCell_other W4 ⟨(w.heap.size + 1), 2, none⟩ w.heap.size (.int .u64 (u : Nat)) (by simp)]; exact HZ4.out)
  have HI5 : Hid (IsQ W5 q s1) := Lib.hid (by rw [hW5]; exact HI4.out.setElse d5 (noByte_u64 _) (by have := HQL.out; simp <;> omega) _)
  have HX5 : Hid (Only q w W5) := Lib.hid (by rw [hW5]; exact HX4.out.setCell (.inr (by simp <;> omega)) _)
  have HW5 := Lib.hid hW5
  clear hW5
  have HRI : Hid (∀ w, Calls Tryz.prog 61 #[.agg #[.int .u8 (k : Nat), .int .i64 0, .int .u64 (u : Nat), .int .u64 0, .string ⟨#[]⟩]] w fun e w' => e = .returned (.int .i64 (E : Nat)) ∧ Ext w w') := Lib.hid (by rw [HEE.out]; exact rright_any ⟨k, 0, u, 0, []⟩)
  go_wp2_with (first
    | (refine wpList_load_row rfl _ _ rfl (w.heap.size + 1) rfl _ _ _ _ HR5.out Tryz.underlying74 rfl info54 ?_)
    | (rw [← HW5.out]; refine wpList_load_row rfl _ _ rfl (w.heap.size + 1) rfl _ _ _ _ HR5.out Tryz.underlying74 rfl info54 ?_)
    | (go_at_call 61; refine (HRI.out _).mono ?_))
  rintro e WR ⟨rfl, hx⟩
  have HXR : Hid (Only q w WR) := Lib.hid (HX5.out.trans hx.ch); have HIR := Lib.hid (HI5.out.ext hx)
  have HZR := Lib.hid (heap_of_ext hx HZ5.out); have HRR := Lib.hid (heap_of_ext hx HR5.out)
  clear hx
  by_cases he : E = 0
  · have hE : (((E : Nat) : Int) != 0) = false := by simp [he]
    have HE0 := Lib.hid he
    clear he
    obtain ⟨bs', a', ao', cap', _, _, hc2, _⟩ := HIR.out.cells
    by_cases hb : (s1).2 = 0
    · have hb2 : ((s1).2 != 0) = false := by simp [hb]
      have HB := Lib.hid hb
      clear hb
      go_wp2_with (first
        | (refine wpList_load_row rfl _ _ rfl (w.heap.size + 1) rfl _ _ _ _ HRR.out Tryz.underlying74 rfl info54 ?_)
        | (refine wpList_store_rowTo rfl _ _ _ rfl rfl w.heap.size #[.int .u8 (k : Nat), .int .i64 0, .int .u64 (u : Nat), .int .u64 0, .string ⟨#[]⟩] rfl rfl _ _ HZR.out info54 rfl (rrow_one _ _ _ _ _) ?_))
      refine bodyPost_ret (results_cell_row rfl _ _ w.heap.size _ #[.int .u8 (k : Nat), .int .i64 0, .int .u64 (u : Nat), .int .u64 0, .string ⟨#[]⟩] _ _ rfl (setRow_heap _ _ _ _ _ _ HZR.out) Tryz.underlying74 rfl info54) rfl ?_
      exact HPV.out HE0.out HB.out _ (HXR.out.setRow (.inr (Nat.le_refl _)) _) (HIR.out.aboveT ((Ch.refl _ _).setRow (.inl (by have := HQL.out; omega)) _))
    · have hb2 : ((s1).2 != 0) = true := by simpa using hb
      have HB := Lib.hid hb
      clear hb
      go_wp2_with (first
        | (refine wpList_store_rowTo rfl _ _ _ rfl rfl w.heap.size #[.int .u8 0, .int .i64 0, .int .u64 0, .int .u64 0, .string ⟨#[]⟩] rfl rfl _ _ HZR.out info54 rfl (rrow_one _ _ _ _ _) ?_))
      refine bodyPost_ret (results_cell_row rfl _ _ w.heap.size _ #[.int .u8 0, .int .i64 0, .int .u64 0, .int .u64 0, .string ⟨#[]⟩] _ _ rfl (setRow_heap _ _ _ _ _ _ HZR.out) Tryz.underlying74 rfl info54) rfl ?_
      exact HPZ.out (.inl ⟨HE0.out, HB.out⟩) _ (HXR.out.setRow (.inr (Nat.le_refl _)) _) (by rw [HF0.out HE0.out]; exact HIR.out.aboveT ((Ch.refl _ _).setRow (.inl (by have := HQL.out; omega)) _))
  · have hE : (((E : Nat) : Int) != 0) = true := by simp; omega
    have HGU := Lib.hid (fun w h => giveUp_any q (s1) (E : Nat) w h)
    have HE0 := Lib.hid he
    clear he
    unfold QPtr at HGU
    go_wp2_with (go_at_call 32; refine (HGU.out _ HIR.out).mono ?_)
    rintro e WG ⟨rfl, k1, k2⟩
    have HXG : Hid (Only q w WG) := Lib.hid (HXR.out.trans k1); have HIG := Lib.hid k2
    have HZG := Lib.hid (heap_of_only k1 (by have := HQL.out; omega) HZR.out)
    have hb2 : ((failR (s1) (E : Nat)).2 != 0) = true := by simpa using failR_ne _ _ (by have := HE0.out; omega)
    obtain ⟨bs', a', ao', cap', _, _, hc2, _⟩ := HIG.out.cells
    clear k1 k2
    go_wp2_with (first
      | (refine wpList_store_rowTo rfl _ _ _ rfl rfl w.heap.size #[.int .u8 0, .int .i64 0, .int .u64 0, .int .u64 0, .string ⟨#[]⟩] rfl rfl _ _ HZG.out info54 rfl (rrow_one _ _ _ _ _) ?_))
    refine bodyPost_ret (results_cell_row rfl _ _ w.heap.size _ #[.int .u8 0, .int .i64 0, .int .u64 0, .int .u64 0, .string ⟨#[]⟩] _ _ rfl (setRow_heap _ _ _ _ _ _ HZG.out) Tryz.underlying74 rfl info54) rfl ?_
    exact HPZ.out (.inr HE0.out) _ (HXG.out.setRow (.inr (Nat.le_refl _)) _) (HIG.out.aboveT ((Ch.refl _ _).setRow (.inl (by have := HQL.out; omega)) _))
set_option maxRecDepth 20000 in
set_option maxHeartbeats 3000000 in
theorem qtake_3v2 (q : Nat) (s : RS) (ver k : Nat) (w : World) (h : IsQ w q s) (hk : k = 3) (hv : ver = 2) :
    Calls Tryz.prog 85 #[QPtr q, .int .u8 (k : Nat), .int .u8 (ver : Nat)] w (TqPost q (vTake ver k s).1 (vTake ver k s).2 w) := by
  have HQL := Lib.hid h.lt
  have hg6 : ((w.alloc (.cells #[.int .u8 0, .int .i64 0, .int .u64 0, .int .u64 0, .string ⟨#[]⟩] 74)).alloc (.cells #[.int .u8 0, .int .i64 0, .int .u64 0, .int .u64 0, .string ⟨#[]⟩] 74)).heap[w.heap.size]? = _ := heap_alloc2_old w _ _
  have hq : ((w.alloc (.cells #[.int .u8 0, .int .i64 0, .int .u64 0, .int .u64 0, .string ⟨#[]⟩] 74)).alloc (.cells #[.int .u8 0, .int .i64 0, .int .u64 0, .int .u64 0, .string ⟨#[]⟩] 74)).heap[(w.heap.size + 1)]? = _ := heap_alloc2_new w _ _
  have HQ := Lib.hid hq
  obtain ⟨W3, hW3⟩ : ∃ W3, W3 = ((w.alloc (.cells #[.int .u8 0, .int .i64 0, .int .u64 0, .int .u64 0, .string ⟨#[]⟩] 74)).alloc (.cells #[.int .u8 0, .int .i64 0, .int .u64 0, .int .u64 0, .string ⟨#[]⟩] 74)).setRow (w.heap.size + 1) #[.int .u8 (k : Nat), .int .i64 0, .int .u64 0, .int .u64 0, .string ⟨#[]⟩] := ⟨_, rfl⟩
  have hx3 : Ext w W3 := by rw [hW3]; exact (((Ch.refl _ _).alloc _).alloc _).setRow (.inr (by omega)) _
  have HZ3 : Hid (W3.heap[w.heap.size]? = some (.cells #[.int .u8 0, .int .i64 0, .int .u64 0, .int .u64 0, .string ⟨#[]⟩] 74 (0, 0))) := Lib.hid (by rw [hW3, setRow_other _ _ _ _ (by omega)]; exact hg6)
  have HR3 : Hid (W3.heap[(w.heap.size + 1)]? = some (.cells #[.int .u8 (k : Nat), .int .i64 0, .int .u64 0, .int .u64 0, .string ⟨#[]⟩] 74 (0, 0))) := Lib.hid (by rw [hW3]; exact setRow_heap _ _ _ _ _ _ hq)
  have HX3 : Hid (Only q w W3) := Lib.hid hx3.ch
  have HI3 := Lib.hid (h.ext hx3)
  have HW3 := Lib.hid hW3
  clear hq hx3 hg6 hW3 h
  have hraw : rawR ver k s = (⟨k, 0, (fltR ver s).1, 0, []⟩, (fltR ver s).2) := by unfold rawR; rw [if_neg (by omega)]; rw [if_neg (by omega)]; rw [if_pos hk]
  obtain ⟨E, hEE⟩ : ∃ E, E = vErr ⟨k, 0, (fltR ver s).1, 0, []⟩ := ⟨_, rfl⟩
  have hvt : vTake ver k s = (if (failR ((fltR ver s).2) (E : Nat)).2 ≠ 0 then .zero else ⟨k, 0, (fltR ver s).1, 0, []⟩, failR ((fltR ver s).2) (E : Nat)) := by
    unfold vTake
    rw [if_neg (by omega), hraw]
    simp only
    rw [← hEE]
    split <;> rfl
  rw [hvt]
  obtain ⟨PO, hPO⟩ : ∃ PO, PO = TqPost q (if (failR ((fltR ver s).2) (E : Nat)).2 ≠ 0 then Val.zero else ⟨k, 0, (fltR ver s).1, 0, []⟩) (failR ((fltR ver s).2) (E : Nat)) w := ⟨_, rfl⟩
  have HPZ : Hid (((E = 0 ∧ ((fltR ver s).2).2 ≠ 0) ∨ E ≠ 0) → ∀ w', Only q w w' → IsQ w' q (failR ((fltR ver s).2) (E : Nat)) → PO (.returned (rv Val.zero)) w') := Lib.hid fun h1 w' h2 h3 => by
    rw [hPO]
    refine ⟨?_, h2, h3⟩
    rw [if_pos]
    rcases h1 with ⟨h1, h4⟩ | h1
    · rw [h1, show (((0 : Nat) : Int)) = 0 by rfl, failR_zero]; exact h4
    · exact failR_ne _ _ (by omega)
  have HPV : Hid (E = 0 → ((fltR ver s).2).2 = 0 → ∀ w', Only q w w' → IsQ w' q ((fltR ver s).2) → PO (.returned (rv ⟨k, 0, (fltR ver s).1, 0, []⟩)) w') := Lib.hid fun h1 h4 w' h2 h3 => by
    have hf : failR ((fltR ver s).2) (E : Nat) = (fltR ver s).2 := by rw [h1]; exact failR_zero _
    rw [hPO, hf]
    refine ⟨?_, h2, h3⟩
    rw [if_neg (by rw [h4]; decide)]
  have HF0 : Hid (E = 0 → failR ((fltR ver s).2) (E : Nat) = (fltR ver s).2) := Lib.hid fun h1 => by rw [h1]; exact failR_zero _
  rw [← hPO]
  have HEE := Lib.hid hEE
  clear hraw hvt hPO hEE
  have HC := Lib.hid (fun w h => qtakeFloat_any q s ver w h)
  generalize (fltR ver s).1 = u at *
  generalize (fltR ver s).2 = s1 at *
  have e1 : (((k : Nat) : Int) == 1) = false := by rw [hk]; rfl
  have e2 : (((k : Nat) : Int) == 2) = false := by rw [hk]; rfl
  have e3 : (((k : Nat) : Int) == 3) = true := by rw [hk]; rfl
  clear hk
  subst hv
  unfold QPtr at *
  go_enter Tryz.func85, Tryz.ntmps85
  go_wp2_with (first
    | (refine wpList_store_rowTo rfl _ _ _ rfl rfl (w.heap.size + 1) #[.int .u8 (k : Nat), .int .i64 0, .int .u64 0, .int .u64 0, .string ⟨#[]⟩] rfl rfl _ _ HQ.out info54 rfl (rrow_one _ _ _ _ _) ?_; rw [← HW3.out])
    | (go_at_call 113; refine (HC.out _ HI3.out).mono ?_))
  rintro e W4 ⟨rfl, k1, k2⟩
  have HX4 : Hid (Only q w W4) := Lib.hid (HX3.out.trans k1); have HI4 := Lib.hid k2
  have HZ4 : Hid (W4.heap[w.heap.size]? = some (.cells #[.int .u8 0, .int .i64 0, .int .u64 0, .int .u64 0, .string ⟨#[]⟩] 74 (0, 0))) := Lib.hid (heap_of_only k1 (by have := HQL.out; omega) HZ3.out)
  have HR4 : Hid (W4.heap[(w.heap.size + 1)]? = some (.cells #[.int .u8 (k : Nat), .int .i64 0, .int .u64 0, .int .u64 0, .string ⟨#[]⟩] 74 (0, 0))) := Lib.hid (heap_of_only k1 (by have := HQL.out; omega) HR3.out)
  clear k1 k2
  have d5 : W4.cell? ⟨(w.heap.size + 1), 2, none⟩ = some (.int .u64 0) := by rw [cell_of_row _ _ _ _ _ _ HR4.out]; rfl
  have f5 := frozen_of_row W4 (w.heap.size + 1) 2 _ _ HR4.out
  obtain ⟨W5, hW5⟩ : ∃ Wz, Wz = W4.setCell ⟨(w.heap.size + 1), 2, none⟩ (.int .u64 (u : Nat)) := ⟨_, rfl⟩
  have HR5 : Hid (W5.heap[(w.heap.size + 1)]? = some (.cells #[.int .u8 (k : Nat), .int .i64 0, .int .u64 (u : Nat), .int .u64 0, .string ⟨#[]⟩] 74 (0, 0))) := Lib.hid (by rw [hW5]; exact heap_setCell_same W4 (w.heap.size + 1) 2 _ _ _ HR4.out)
  have HZ5 : Hid (W5.heap[w.heap.size]? = some (.cells #[.int .u8 0, .int .i64 0, .int .u64 0, .int .u64 0, .string ⟨#[]⟩] 74 (0, 0))) := Lib.hid (by rw [hW5, heap_setCell_other W4 ⟨(w.heap.size + 1), 2, none⟩ w.heap.size (.int .u64 (u : Nat)) (by simp)]; exact HZ4.out)
  have HI5 : Hid (IsQ W5 q s1) := Lib.hid (by rw [hW5]; exact HI4.out.setElse d5 (noByte_u64 _) (by have := HQL.out; simp <;> omega) _)
  have HX5 : Hid (Only q w W5) := Lib.hid (by rw [hW5]; exact HX4.out.setCell (.inr (by simp <;> omega)) _)
  have HW5 := Lib.hid hW5
  clear hW5
  have HRI : Hid (∀ w, Calls Tryz.prog 61 #[.agg #[.int .u8 (k : Nat), .int .i64 0, .int .u64 (u : Nat), .int .u64 0, .string ⟨#[]⟩]] w fun e w' => e = .returned (.int .i64 (E : Nat)) ∧ Ext w w') := Lib.hid (by rw [HEE.out]; exact rright_any ⟨k, 0, u, 0, []⟩)
  go_wp2_with (first
    | (refine wpList_load_row rfl _ _ rfl (w.heap.size + 1) rfl _ _ _ _ HR5.out Tryz.underlying74 rfl info54 ?_)
    | (rw [← HW5.out]; refine wpList_load_row rfl _ _ rfl (w.heap.size + 1) rfl _ _ _ _ HR5.out Tryz.underlying74 rfl info54 ?_)
    | (go_at_call 61; refine (HRI.out _).mono ?_))
  rintro e WR ⟨rfl, hx⟩
  have HXR : Hid (Only q w WR) := Lib.hid (HX5.out.trans hx.ch); have HIR := Lib.hid (HI5.out.ext hx)
  have HZR := Lib.hid (heap_of_ext hx HZ5.out); have HRR := Lib.hid (heap_of_ext hx HR5.out)
  clear hx
  by_cases he : E = 0
  · have hE : (((E : Nat) : Int) != 0) = false := by simp [he]
    have HE0 := Lib.hid he
    clear he
    obtain ⟨bs', a', ao', cap', _, _, hc2, _⟩ := HIR.out.cells
    by_cases hb : (s1).2 = 0
    · have hb2 : ((s1).2 != 0) = false := by simp [hb]
      have HB := Lib.hid hb
      clear hb
      go_wp2_with (first
        | (refine wpList_load_row rfl _ _ rfl (w.heap.size + 1) rfl _ _ _ _ HRR.out Tryz.underlying74 rfl info54 ?_)
        | (refine wpList_store_rowTo rfl _ _ _ rfl rfl w.heap.size #[.int .u8 (k : Nat), .int .i64 0, .int .u64 (u : Nat), .int .u64 0, .string ⟨#[]⟩] rfl rfl _ _ HZR.out info54 rfl (rrow_one _ _ _ _ _) ?_))
      refine bodyPost_ret (results_cell_row rfl _ _ w.heap.size _ #[.int .u8 (k : Nat), .int .i64 0, .int .u64 (u : Nat), .int .u64 0, .string ⟨#[]⟩] _ _ rfl (setRow_heap _ _ _ _ _ _ HZR.out) Tryz.underlying74 rfl info54) rfl ?_
      exact HPV.out HE0.out HB.out _ (HXR.out.setRow (.inr (Nat.le_refl _)) _) (HIR.out.aboveT ((Ch.refl _ _).setRow (.inl (by have := HQL.out; omega)) _))
    · have hb2 : ((s1).2 != 0) = true := by simpa using hb
      have HB := Lib.hid hb
      clear hb
      go_wp2_with (first
        | (refine wpList_store_rowTo rfl _ _ _ rfl rfl w.heap.size #[.int .u8 0, .int .i64 0, .int .u64 0, .int .u64 0, .string ⟨#[]⟩] rfl rfl _ _ HZR.out info54 rfl (rrow_one _ _ _ _ _) ?_))
      refine bodyPost_ret (results_cell_row rfl _ _ w.heap.size _ #[.int .u8 0, .int .i64 0, .int .u64 0, .int .u64 0, .string ⟨#[]⟩] _ _ rfl (setRow_heap _ _ _ _ _ _ HZR.out) Tryz.underlying74 rfl info54) rfl ?_
      exact HPZ.out (.inl ⟨HE0.out, HB.out⟩) _ (HXR.out.setRow (.inr (Nat.le_refl _)) _) (by rw [HF0.out HE0.out]; exact HIR.out.aboveT ((Ch.refl _ _).setRow (.inl (by have := HQL.out; omega)) _))
  · have hE : (((E : Nat) : Int) != 0) = true := by simp; omega
    have HGU := Lib.hid (fun w h => giveUp_any q (s1) (E : Nat) w h)
    have HE0 := Lib.hid he
    clear he
    unfold QPtr at HGU
    go_wp2_with (go_at_call 32; refine (HGU.out _ HIR.out).mono ?_)
    rintro e WG ⟨rfl, k1, k2⟩
    have HXG : Hid (Only q w WG) := Lib.hid (HXR.out.trans k1); have HIG := Lib.hid k2
    have HZG := Lib.hid (heap_of_only k1 (by have := HQL.out; omega) HZR.out)
    have hb2 : ((failR (s1) (E : Nat)).2 != 0) = true := by simpa using failR_ne _ _ (by have := HE0.out; omega)
    obtain ⟨bs', a', ao', cap', _, _, hc2, _⟩ := HIG.out.cells
    clear k1 k2
    go_wp2_with (first
      | (refine wpList_store_rowTo rfl _ _ _ rfl rfl w.heap.size #[.int .u8 0, .int .i64 0, .int .u64 0, .int .u64 0, .string ⟨#[]⟩] rfl rfl _ _ HZG.out info54 rfl (rrow_one _ _ _ _ _) ?_))
    refine bodyPost_ret (results_cell_row rfl _ _ w.heap.size _ #[.int .u8 0, .int .i64 0, .int .u64 0, .int .u64 0, .string ⟨#[]⟩] _ _ rfl (setRow_heap _ _ _ _ _ _ HZG.out) Tryz.underlying74 rfl info54) rfl ?_
    exact HPZ.out (.inr HE0.out) _ (HXG.out.setRow (.inr (Nat.le_refl _)) _) (HIG.out.aboveT ((Ch.refl _ _).setRow (.inl (by have := HQL.out; omega)) _))
set_option maxRecDepth 20000 in
set_option maxHeartbeats 3000000 in
theorem qtake_4v1 (q : Nat) (s : RS) (ver k : Nat) (w : World) (h : IsQ w q s) (hk : k = 4) (hv : ver = 1) :
    Calls Tryz.prog 85 #[QPtr q, .int .u8 (k : Nat), .int .u8 (ver : Nat)] w (TqPost q (vTake ver k s).1 (vTake ver k s).2 w) := by
  have HQL := Lib.hid h.lt
  have hg6 : ((w.alloc (.cells #[.int .u8 0, .int .i64 0, .int .u64 0, .int .u64 0, .string ⟨#[]⟩] 74)).alloc (.cells #[.int .u8 0, .int .i64 0, .int .u64 0, .int .u64 0, .string ⟨#[]⟩] 74)).heap[w.heap.size]? = _ := heap_alloc2_old w _ _
  have hq : ((w.alloc (.cells #[.int .u8 0, .int .i64 0, .int .u64 0, .int .u64 0, .string ⟨#[]⟩] 74)).alloc (.cells #[.int .u8 0, .int .i64 0, .int .u64 0, .int .u64 0, .string ⟨#[]⟩] 74)).heap[(w.heap.size + 1)]? = _ := heap_alloc2_new w _ _
  have HQ := Lib.hid hq
  obtain ⟨W3, hW3⟩ : ∃ W3, W3 = ((w.alloc (.cells #[.int .u8 0, .int .i64 0, .int .u64 0, .int .u64 0, .string ⟨#[]⟩] 74)).alloc (.cells #[.int .u8 0, .int .i64 0, .int .u64 0, .int .u64 0, .string ⟨#[]⟩] 74)).setRow (w.heap.size + 1) #[.int .u8 (k : Nat), .int .i64 0, .int .u64 0, .int .u64 0, .string ⟨#[]⟩] := ⟨_, rfl⟩
  have hx3 : Ext w W3 := by rw [hW3]; exact (((Ch.refl _ _).alloc _).alloc _).setRow (.inr (by omega)) _
  have HZ3 : Hid (W3.heap[w.heap.size]? = some (.cells #[.int .u8 0, .int .i64 0, .int .u64 0, .int .u64 0, .string ⟨#[]⟩] 74 (0, 0))) := Lib.hid (by rw [hW3, setRow_other _ _ _ _ (by omega)]; exact hg6)
  have HR3 : Hid (W3.heap[(w.heap.size + 1)]? = some (.cells #[.int .u8 (k : Nat), .int .i64 0, .int .u64 0, .int .u64 0, .string ⟨#[]⟩] 74 (0, 0))) := Lib.hid (by rw [hW3]; exact setRow_heap _ _ _ _ _ _ hq)
  have HX3 : Hid (Only q w W3) := Lib.hid hx3.ch
  have HI3 := Lib.hid (h.ext hx3)
  have HW3 := Lib.hid hW3
  clear hq hx3 hg6 hW3 h
  have hraw : rawR ver k s = (⟨k, 0, (wordR s).1, (wordR (wordR s).2).1, []⟩, (wordR (wordR s).2).2) := by unfold rawR; rw [if_neg (by omega)]; rw [if_neg (by omega)]; rw [if_neg (by omega)]; rw [if_pos hk]; rw [if_pos hv]
  obtain ⟨E, hEE⟩ : ∃ E, E = vErr ⟨k, 0, (wordR s).1, (wordR (wordR s).2).1, []⟩ := ⟨_, rfl⟩
  have hvt : vTake ver k s = (if (failR ((wordR (wordR s).2).2) (E : Nat)).2 ≠ 0 then .zero else ⟨k, 0, (wordR s).1, (wordR (wordR s).2).1, []⟩, failR ((wordR (wordR s).2).2) (E : Nat)) := by
    unfold vTake
    rw [if_neg (by omega), hraw]
    simp only
    rw [← hEE]
    split <;> rfl
  rw [hvt]
  obtain ⟨PO, hPO⟩ : ∃ PO, PO = TqPost q (if (failR ((wordR (wordR s).2).2) (E : Nat)).2 ≠ 0 then Val.zero else ⟨k, 0, (wordR s).1, (wordR (wordR s).2).1, []⟩) (failR ((wordR (wordR s).2).2) (E : Nat)) w := ⟨_, rfl⟩
  have HPZ : Hid (((E = 0 ∧ ((wordR (wordR s).2).2).2 ≠ 0) ∨ E ≠ 0) → ∀ w', Only q w w' → IsQ w' q (failR ((wordR (wordR s).2).2) (E : Nat)) → PO (.returned (rv Val.zero)) w') := Lib.hid fun h1 w' h2 h3 => by
    rw [hPO]
    refine ⟨?_, h2, h3⟩
    rw [if_pos]
    rcases h1 with ⟨h1, h4⟩ | h1
    · rw [h1, show (((0 : Nat) : Int)) = 0 by rfl, failR_zero]; exact h4
    · exact failR_ne _ _ (by omega)
  have HPV : Hid (E = 0 → ((wordR (wordR s).2).2).2 = 0 → ∀ w', Only q w w' → IsQ w' q ((wordR (wordR s).2).2) → PO (.returned (rv ⟨k, 0, (wordR s).1, (wordR (wordR s).2).1, []⟩)) w') := Lib.hid fun h1 h4 w' h2 h3 => by
    have hf : failR ((wordR (wordR s).2).2) (E : Nat) = (wordR (wordR s).2).2 := by rw [h1]; exact failR_zero _
    rw [hPO, hf]
    refine ⟨?_, h2, h3⟩
    rw [if_neg (by rw [h4]; decide)]
  have HF0 : Hid (E = 0 → failR ((wordR (wordR s).2).2) (E : Nat) = (wordR (wordR s).2).2) := Lib.hid fun h1 => by rw [h1]; exact failR_zero _
  rw [← hPO]
  have HEE := Lib.hid hEE
  clear hraw hvt hPO hEE
  have HC := Lib.hid (fun w h => qword_any q s w h)
  have HC2 := Lib.hid (fun w h => qword_any q (wordR s).2 w h)
  generalize (wordR (wordR s).2).1 = u2 at *
  generalize (wordR (wordR s).2).2 = s2 at *
  generalize (wordR s).1 = u1 at *
  generalize (wordR s).2 = s1 at *
  have e1 : (((k : Nat) : Int) == 1) = false := by rw [hk]; rfl
  have e2 : (((k : Nat) : Int) == 2) = false := by rw [hk]; rfl
  have e3 : (((k : Nat) : Int) == 3) = false := by rw [hk]; rfl
  have e4 : (((k : Nat) : Int) == 4) = true := by rw [hk]; rfl
  clear hk
  subst hv
  unfold QPtr at *
  go_enter Tryz.func85, Tryz.ntmps85
  go_wp2_with (first
    | (refine wpList_store_rowTo rfl _ _ _ rfl rfl (w.heap.size + 1) #[.int .u8 (k : Nat), .int .i64 0, .int .u64 0, .int .u64 0, .string ⟨#[]⟩] rfl rfl _ _ HQ.out info54 rfl (rrow_one _ _ _ _ _) ?_; rw [← HW3.out])
    | (go_at_call 111; refine (HC.out _ HI3.out).mono ?_))
  rintro e W4 ⟨rfl, k1, k2⟩
  have HX4 : Hid (Only q w W4) := Lib.hid (HX3.out.trans k1); have HI4 := Lib.hid k2
  have HZ4 : Hid (W4.heap[w.heap.size]? = some (.cells #[.int .u8 0, .int .i64 0, .int .u64 0, .int .u64 0, .string ⟨#[]⟩] 74 (0, 0))) := Lib.hid (heap_of_only k1 (by have := HQL.out; omega) HZ3.out)
  have HR4 : Hid (W4.heap[(w.heap.size + 1)]? = some (.cells #[.int .u8 (k : Nat), .int .i64 0, .int .u64 0, .int .u64 0, .string ⟨#[]⟩] 74 (0, 0))) := Lib.hid (heap_of_only k1 (by have := HQL.out; omega) HR3.out)
  clear k1 k2
  have d5 : W4.cell? ⟨(w.heap.size + 1), 2, none⟩ = some (.int .u64 0) := by rw [cell_of_row _ _ _ _ _ _ HR4.out]; rfl
  have f5 := frozen_of_row W4 (w.heap.size + 1) 2 _ _ HR4.out
  obtain ⟨W5, hW5⟩ : ∃ Wz, Wz = W4.setCell ⟨(w.heap.size + 1), 2, none⟩ (.int .u64 (u1 : Nat)) := ⟨_, rfl⟩
  have HR5 : Hid (W5.heap[(w.heap.size + 1)]? = some (.cells #[.int .u8 (k : Nat), .int .i64 0, .int .u64 (u1 : Nat), .int .u64 0, .string ⟨#[]⟩] 74 (0, 0))) := Lib.hid (by rw [hW5]; exact heap_setCell_same W4 (w.heap.size + 1) 2 _ _ _ HR4.out)
  have HZ5 : Hid (W5.heap[w.heap.size]? = some (.cells #[.int .u8 0, .int .i64 0, .int .u64 0, .int .u64 0, .string ⟨#[]⟩] 74 (0, 0))) := Lib.hid (by rw [hW5, heap_setCell_other W4 ⟨(w.heap.size + 1), 2, none⟩ w.heap.size (.int .u64 (u1 : Nat)) (by simp)]; exact HZ4.out)
  have HI5 : Hid (IsQ W5 q s1) := Lib.hid (by rw [hW5]; exact HI4.out.setElse d5 (noByte_u64 _) (by have := HQL.out; simp <;> omega) _)
  have HX5 : Hid (Only q w W5) := Lib.hid (by rw [hW5]; exact HX4.out.setCell (.inr (by simp <;> omega)) _)
  have HW5 := Lib.hid hW5
  clear hW5
  go_wp2_with (first
    | (go_at_call 111; rw [← HW5.out]; refine (HC2.out _ HI5.out).mono ?_))
  rintro e W6 ⟨rfl, k1, k2⟩
  have HX6 : Hid (Only q w W6) := Lib.hid (HX5.out.trans k1); have HI6 := Lib.hid k2
  have HZ6 : Hid (W6.heap[w.heap.size]? = some (.cells #[.int .u8 0, .int .i64 0, .int .u64 0, .int .u64 0, .string ⟨#[]⟩] 74 (0, 0))) := Lib.hid (heap_of_only k1 (by have := HQL.out; omega) HZ5.out)
  have HR6 : Hid (W6.heap[(w.heap.size + 1)]? = some (.cells #[.int .u8 (k : Nat), .int .i64 0, .int .u64 (u1 : Nat), .int .u64 0, .string ⟨#[]⟩] 74 (0, 0))) := Lib.hid (heap_of_only k1 (by have := HQL.out; omega) HR5.out)
  clear k1 k2
  clear d5 f5
  have d7 : W6.cell? ⟨(w.heap.size + 1), 3, none⟩ = some (.int .u64 0) := by rw [cell_of_row _ _ _ _ _ _ HR6.out]; rfl
  have f7 := frozen_of_row W6 (w.heap.size + 1) 3 _ _ HR6.out
  obtain ⟨W7, hW7⟩ : ∃ Wz, Wz = W6.setCell ⟨(w.heap.size + 1), 3, none⟩ (.int .u64 (u2 : Nat)) := ⟨_, rfl⟩
  have HR7 : Hid (W7.heap[(w.heap.size + 1)]? = some (.cells #[.int .u8 (k : Nat), .int .i64 0, .int .u64 (u1 : Nat), .int .u64 (u2 : Nat), .string ⟨#[]⟩] 74 (0, 0))) := Lib.hid (by rw [hW7]; exact heap_setCell_same W6 (w.heap.size + 1) 3 _ _ _ HR6.out)
  have HZ7 : Hid (W7.heap[w.heap.size]? = some (.cells #[.int .u8 0, .int .i64 0, .int .u64 0, .int .u64 0, .string ⟨#[]⟩] 74 (0, 0))) := Lib.hid (by rw [hW7, heap_setCell_other W6 ⟨(w.heap.size + 1), 3, none⟩ w.heap.size (.int .u64 (u2 : Nat)) (by simp)]; exact HZ6.out)
  have HI7 : Hid (IsQ W7 q s2) := Lib.hid (by rw [hW7]; exact HI6.out.setElse d7 (noByte_u64 _) (by have := HQL.out; simp <;> omega) _)
  have HX7 : Hid (Only q w W7) := Lib.hid (by rw [hW7]; exact HX6.out.setCell (.inr (by simp <;> omega)) _)
  have HW7 := Lib.hid hW7
  clear hW7
  have HRI : Hid (∀ w, Calls Tryz.prog 61 #[.agg #[.int .u8 (k : Nat), .int .i64 0, .int .u64 (u1 : Nat), .int .u64 (u2 : Nat), .string ⟨#[]⟩]] w fun e w' => e = .returned (.int .i64 (E : Nat)) ∧ Ext w w') := Lib.hid (by rw [HEE.out]; exact rright_any ⟨k, 0, u1, u2, []⟩)
  go_wp2_with (first
    | (refine wpList_load_row rfl _ _ rfl (w.heap.size + 1) rfl _ _ _ _ HR7.out Tryz.underlying74 rfl info54 ?_)
    | (rw [← HW7.out]; refine wpList_load_row rfl _ _ rfl (w.heap.size + 1) rfl _ _ _ _ HR7.out Tryz.underlying74 rfl info54 ?_)
    | (go_at_call 61; refine (HRI.out _).mono ?_))
  rintro e WR ⟨rfl, hx⟩
  have HXR : Hid (Only q w WR) := Lib.hid (HX7.out.trans hx.ch); have HIR := Lib.hid (HI7.out.ext hx)
  have HZR := Lib.hid (heap_of_ext hx HZ7.out); have HRR := Lib.hid (heap_of_ext hx HR7.out)
  clear hx
  by_cases he : E = 0
  · have hE : (((E : Nat) : Int) != 0) = false := by simp [he]
    have HE0 := Lib.hid he
    clear he
    obtain ⟨bs', a', ao', cap', _, _, hc2, _⟩ := HIR.out.cells
    by_cases hb : (s2).2 = 0
    · have hb2 : ((s2).2 != 0) = false := by simp [hb]
      have HB := Lib.hid hb
      clear hb
      go_wp2_with (first
        | (refine wpList_load_row rfl _ _ rfl (w.heap.size + 1) rfl _ _ _ _ HRR.out Tryz.underlying74 rfl info54 ?_)
        | (refine wpList_store_rowTo rfl _ _ _ rfl rfl w.heap.size #[.int .u8 (k : Nat), .int .i64 0, .int .u64 (u1 : Nat), .int .u64 (u2 : Nat), .string ⟨#[]⟩] rfl rfl _ _ HZR.out info54 rfl (rrow_one _ _ _ _ _) ?_))
      refine bodyPost_ret (results_cell_row rfl _ _ w.heap.size _ #[.int .u8 (k : Nat), .int .i64 0, .int .u64 (u1 : Nat), .int .u64 (u2 : Nat), .string ⟨#[]⟩] _ _ rfl (setRow_heap _ _ _ _ _ _ HZR.out) Tryz.underlying74 rfl info54) rfl ?_
      exact HPV.out HE0.out HB.out _ (HXR.out.setRow (.inr (Nat.le_refl _)) _) (HIR.out.aboveT ((Ch.refl _ _).setRow (.inl (by have := HQL.out; omega)) _))
    · have hb2 : ((s2).2 != 0) = true := by simpa using hb
      have HB := Lib.hid hb
      clear hb
      go_wp2_with (first
        | (refine wpList_store_rowTo rfl _ _ _ rfl rfl w.heap.size #[.int .u8 0, .int .i64 0, .int .u64 0, .int .u64 0, .string ⟨#[]⟩] rfl rfl _ _ HZR.out info54 rfl (rrow_one _ _ _ _ _) ?_))
      refine bodyPost_ret (results_cell_row rfl _ _ w.heap.size _ #[.int .u8 0, .int .i64 0, .int .u64 0, .int .u64 0, .string ⟨#[]⟩] _ _ rfl (setRow_heap _ _ _ _ _ _ HZR.out) Tryz.underlying74 rfl info54) rfl ?_
      exact HPZ.out (.inl ⟨HE0.out, HB.out⟩) _ (HXR.out.setRow (.inr (Nat.le_refl _)) _) (by rw [HF0.out HE0.out]; exact HIR.out.aboveT ((Ch.refl _ _).setRow (.inl (by have := HQL.out; omega)) _))
  · have hE : (((E : Nat) : Int) != 0) = true := by simp; omega
    have HGU := Lib.hid (fun w h => giveUp_any q (s2) (E : Nat) w h)
    have HE0 := Lib.hid he
    clear he
    unfold QPtr at HGU
    go_wp2_with (go_at_call 32; refine (HGU.out _ HIR.out).mono ?_)
    rintro e WG ⟨rfl, k1, k2⟩
    have HXG : Hid (Only q w WG) := Lib.hid (HXR.out.trans k1); have HIG := Lib.hid k2
    have HZG := Lib.hid (heap_of_only k1 (by have := HQL.out; omega) HZR.out)
    have hb2 : ((failR (s2) (E : Nat)).2 != 0) = true := by simpa using failR_ne _ _ (by have := HE0.out; omega)
    obtain ⟨bs', a', ao', cap', _, _, hc2, _⟩ := HIG.out.cells
    clear k1 k2
    go_wp2_with (first
      | (refine wpList_store_rowTo rfl _ _ _ rfl rfl w.heap.size #[.int .u8 0, .int .i64 0, .int .u64 0, .int .u64 0, .string ⟨#[]⟩] rfl rfl _ _ HZG.out info54 rfl (rrow_one _ _ _ _ _) ?_))
    refine bodyPost_ret (results_cell_row rfl _ _ w.heap.size _ #[.int .u8 0, .int .i64 0, .int .u64 0, .int .u64 0, .string ⟨#[]⟩] _ _ rfl (setRow_heap _ _ _ _ _ _ HZG.out) Tryz.underlying74 rfl info54) rfl ?_
    exact HPZ.out (.inr HE0.out) _ (HXG.out.setRow (.inr (Nat.le_refl _)) _) (HIG.out.aboveT ((Ch.refl _ _).setRow (.inl (by have := HQL.out; omega)) _))
set_option maxRecDepth 20000 in
set_option maxHeartbeats 3000000 in
theorem qtake_4v2s (q : Nat) (s : RS) (ver k : Nat) (w : World) (h : IsQ w q s) (hk : k = 4) (hv : ver = 2) (hm : ¬ 3 < (byteR s).1) :
    Calls Tryz.prog 85 #[QPtr q, .int .u8 (k : Nat), .int .u8 (ver : Nat)] w (TqPost q (vTake ver k s).1 (vTake ver k s).2 w) := by
  have HQL := Lib.hid h.lt
  have hg6 : ((w.alloc (.cells #[.int .u8 0, .int .i64 0, .int .u64 0, .int .u64 0, .string ⟨#[]⟩] 74)).alloc (.cells #[.int .u8 0, .int .i64 0, .int .u64 0, .int .u64 0, .string ⟨#[]⟩] 74)).heap[w.heap.size]? = _ := heap_alloc2_old w _ _
  have hq : ((w.alloc (.cells #[.int .u8 0, .int .i64 0, .int .u64 0, .int .u64 0, .string ⟨#[]⟩] 74)).alloc (.cells #[.int .u8 0, .int .i64 0, .int .u64 0, .int .u64 0, .string ⟨#[]⟩] 74)).heap[(w.heap.size + 1)]? = _ := heap_alloc2_new w _ _
  have HQ := Lib.hid hq
  obtain ⟨W3, hW3⟩ : ∃ W3, W3 = ((w.alloc (.cells #[.int .u8 0, .int .i64 0, .int .u64 0, .int .u64 0, .string ⟨#[]⟩] 74)).alloc (.cells #[.int .u8 0, .int .i64 0, .int .u64 0, .int .u64 0, .string ⟨#[]⟩] 74)).setRow (w.heap.size + 1) #[.int .u8 (k : Nat), .int .i64 0, .int .u64 0, .int .u64 0, .string ⟨#[]⟩] := ⟨_, rfl⟩
  have hx3 : Ext w W3 := by rw [hW3]; exact (((Ch.refl _ _).alloc _).alloc _).setRow (.inr (by omega)) _
  have HZ3 : Hid (W3.heap[w.heap.size]? = some (.cells #[.int .u8 0, .int .i64 0, .int .u64 0, .int .u64 0, .string ⟨#[]⟩] 74 (0, 0))) := Lib.hid (by rw [hW3, setRow_other _ _ _ _ (by omega)]; exact hg6)
  have HR3 : Hid (W3.heap[(w.heap.size + 1)]? = some (.cells #[.int .u8 (k : Nat), .int .i64 0, .int .u64 0, .int .u64 0, .string ⟨#[]⟩] 74 (0, 0))) := Lib.hid (by rw [hW3]; exact setRow_heap _ _ _ _ _ _ hq)
  have HX3 : Hid (Only q w W3) := Lib.hid hx3.ch
  have HI3 := Lib.hid (h.ext hx3)
  have HW3 := Lib.hid hW3
  clear hq hx3 hg6 hW3 h
  have hraw : rawR ver k s = (⟨k, 0, (partR (decide ((byteR s).1 % 2 = 1)) (byteR s).2).1, (partR (decide ((byteR s).1 / 2 % 2 = 1)) (partR (decide ((byteR s).1 % 2 = 1)) (byteR s).2).2).1, []⟩, (partR (decide ((byteR s).1 / 2 % 2 = 1)) (partR (decide ((byteR s).1 % 2 = 1)) (byteR s).2).2).2) := by unfold rawR; rw [if_neg (by omega)]; rw [if_neg (by omega)]; rw [if_neg (by omega)]; rw [if_pos hk]; rw [if_neg (by omega)]; unfold cplxR; simp only; rw [if_neg hm]
  obtain ⟨E, hEE⟩ : ∃ E, E = vErr ⟨k, 0, (partR (decide ((byteR s).1 % 2 = 1)) (byteR s).2).1, (partR (decide ((byteR s).1 / 2 % 2 = 1)) (partR (decide ((byteR s).1 % 2 = 1)) (byteR s).2).2).1, []⟩ := ⟨_, rfl⟩
  have hvt : vTake ver k s = (if (failR ((partR (decide ((byteR s).1 / 2 % 2 = 1)) (partR (decide ((byteR s).1 % 2 = 1)) (byteR s).2).2).2) (E : Nat)).2 ≠ 0 then .zero else ⟨k, 0, (partR (decide ((byteR s).1 % 2 = 1)) (byteR s).2).1, (partR (decide ((byteR s).1 / 2 % 2 = 1)) (partR (decide ((byteR s).1 % 2 = 1)) (byteR s).2).2).1, []⟩, failR ((partR (decide ((byteR s).1 / 2 % 2 = 1)) (partR (decide ((byteR s).1 % 2 = 1)) (byteR s).2).2).2) (E : Nat)) := by
    unfold vTake
    rw [if_neg (by omega), hraw]
    simp only
    rw [← hEE]
    split <;> rfl
  rw [hvt]
  obtain ⟨PO, hPO⟩ : ∃ PO, PO = TqPost q (if (failR ((partR (decide ((byteR s).1 / 2 % 2 = 1)) (partR (decide ((byteR s).1 % 2 = 1)) (byteR s).2).2).2) (E : Nat)).2 ≠ 0 then Val.zero else ⟨k, 0, (partR (decide ((byteR s).1 % 2 = 1)) (byteR s).2).1, (partR (decide ((byteR s).1 / 2 % 2 = 1)) (partR (decide ((byteR s).1 % 2 = 1)) (byteR s).2).2).1, []⟩) (failR ((partR (decide ((byteR s).1 / 2 % 2 = 1)) (partR (decide ((byteR s).1 % 2 = 1)) (byteR s).2).2).2) (E : Nat)) w := ⟨_, rfl⟩
  have HPZ : Hid (((E = 0 ∧ ((partR (decide ((byteR s).1 / 2 % 2 = 1)) (partR (decide ((byteR s).1 % 2 = 1)) (byteR s).2).2).2).2 ≠ 0) ∨ E ≠ 0) → ∀ w', Only q w w' → IsQ w' q (failR ((partR (decide ((byteR s).1 / 2 % 2 = 1)) (partR (decide ((byteR s).1 % 2 = 1)) (byteR s).2).2).2) (E : Nat)) → PO (.returned (rv Val.zero)) w') := Lib.hid fun h1 w' h2 h3 => by
    rw [hPO]
    refine ⟨?_, h2, h3⟩
    rw [if_pos]
    rcases h1 with ⟨h1, h4⟩ | h1
    · rw [h1, show (((0 : Nat) : Int)) = 0 by rfl, failR_zero]; exact h4
    · exact failR_ne _ _ (by omega)
  have HPV : Hid (E = 0 → ((partR (decide ((byteR s).1 / 2 % 2 = 1)) (partR (decide ((byteR s).1 % 2 = 1)) (byteR s).2).2).2).2 = 0 → ∀ w', Only q w w' → IsQ w' q ((partR (decide ((byteR s).1 / 2 % 2 = 1)) (partR (decide ((byteR s).1 % 2 = 1)) (byteR s).2).2).2) → PO (.returned (rv ⟨k, 0, (partR (decide ((byteR s).1 % 2 = 1)) (byteR s).2).1, (partR (decide ((byteR s).1 / 2 % 2 = 1)) (partR (decide ((byteR s).1 % 2 = 1)) (byteR s).2).2).1, []⟩)) w') := Lib.hid fun h1 h4 w' h2 h3 => by
    have hf : failR ((partR (decide ((byteR s).1 / 2 % 2 = 1)) (partR (decide ((byteR s).1 % 2 = 1)) (byteR s).2).2).2) (E : Nat) = (partR (decide ((byteR s).1 / 2 % 2 = 1)) (partR (decide ((byteR s).1 % 2 = 1)) (byteR s).2).2).2 := by rw [h1]; exact failR_zero _
    rw [hPO, hf]
    refine ⟨?_, h2, h3⟩
    rw [if_neg (by rw [h4]; decide)]
  have HF0 : Hid (E = 0 → failR ((partR (decide ((byteR s).1 / 2 % 2 = 1)) (partR (decide ((byteR s).1 % 2 = 1)) (byteR s).2).2).2) (E : Nat) = (partR (decide ((byteR s).1 / 2 % 2 = 1)) (partR (decide ((byteR s).1 % 2 = 1)) (byteR s).2).2).2) := Lib.hid fun h1 => by rw [h1]; exact failR_zero _
  rw [← hPO]
  have HEE := Lib.hid hEE
  clear hraw hvt hPO hEE
  have HC := Lib.hid (fun w h => qbyte_any q s w h)
  have hbl := byteR_lt s
  have HP1 := Lib.hid (fun w h => qpart_any q (byteR s).2 (decide ((byteR s).1 % 2 = 1)) w h)
  have HP2 := Lib.hid (fun w h => qpart_any q (partR (decide ((byteR s).1 % 2 = 1)) (byteR s).2).2 (decide ((byteR s).1 / 2 % 2 = 1)) w h)
  generalize (partR (decide ((byteR s).1 / 2 % 2 = 1)) (partR (decide ((byteR s).1 % 2 = 1)) (byteR s).2).2).1 = u2 at *
  generalize (partR (decide ((byteR s).1 / 2 % 2 = 1)) (partR (decide ((byteR s).1 % 2 = 1)) (byteR s).2).2).2 = s3 at *
  generalize (partR (decide ((byteR s).1 % 2 = 1)) (byteR s).2).1 = u1 at *
  generalize (partR (decide ((byteR s).1 % 2 = 1)) (byteR s).2).2 = s2 at *
  generalize (byteR s).2 = s1 at *
  generalize (byteR s).1 = m at *
  have t1 : (m : Int).tmod 2 = ((m % 2 : Nat) : Int) := by rw [Int.tmod_eq_emod_of_nonneg (by omega)]; simp
  have t1' : (m : Int) % 2 = ((m % 2 : Nat) : Int) := by simp
  have t2 : (m : Int).tdiv 2 = ((m / 2 : Nat) : Int) := by rw [Int.tdiv_eq_ediv_of_nonneg (by omega)]; simp
  have t2' : (m : Int) / 2 = ((m / 2 : Nat) : Int) := by simp
  have t3 : ((m / 2 : Nat) : Int).tmod 2 = ((m / 2 % 2 : Nat) : Int) := by rw [Int.tmod_eq_emod_of_nonneg (by omega)]; simp
  have t3' : ((m / 2 : Nat) : Int) % 2 = ((m / 2 % 2 : Nat) : Int) := by simp
  have b1 : ((((m % 2 : Nat) : Int)) == 1) = decide (m % 2 = 1) := by rw [Bool.eq_iff_iff]; simp; omega
  have b2 : ((((m / 2 % 2 : Nat) : Int)) == 1) = decide (m / 2 % 2 = 1) := by rw [Bool.eq_iff_iff]; simp; omega
  have w1 : IntKind.u8.wrap ((m / 2 : Nat) : Int) = ((m / 2 : Nat) : Int) := by rw [IntKind.wrap_u8]; omega
  generalize decide (m % 2 = 1) = th1 at *
  generalize decide (m / 2 % 2 = 1) = th2 at *
  generalize m / 2 % 2 = m2 at *
  generalize m / 2 = m1 at *
  generalize m % 2 = m0 at *
  have e1 : (((k : Nat) : Int) == 1) = false := by rw [hk]; rfl
  have e2 : (((k : Nat) : Int) == 2) = false := by rw [hk]; rfl
  have e3 : (((k : Nat) : Int) == 3) = false := by rw [hk]; rfl
  have e4 : (((k : Nat) : Int) == 4) = true := by rw [hk]; rfl
  clear hk
  subst hv
  unfold QPtr at *
  go_enter Tryz.func85, Tryz.ntmps85
  go_wp2_with (first
    | (refine wpList_store_rowTo rfl _ _ _ rfl rfl (w.heap.size + 1) #[.int .u8 (k : Nat), .int .i64 0, .int .u64 0, .int .u64 0, .string ⟨#[]⟩] rfl rfl _ _ HQ.out info54 rfl (rrow_one _ _ _ _ _) ?_; rw [← HW3.out])
    | (go_at_call 83; refine (HC.out _ HI3.out).mono ?_))
  rintro e W4 ⟨rfl, k1, k2⟩
  have HX4 : Hid (Only q w W4) := Lib.hid (HX3.out.trans k1); have HI4 := Lib.hid k2
  have HZ4 : Hid (W4.heap[w.heap.size]? = some (.cells #[.int .u8 0, .int .i64 0, .int .u64 0, .int .u64 0, .string ⟨#[]⟩] 74 (0, 0))) := Lib.hid (heap_of_only k1 (by have := HQL.out; omega) HZ3.out)
  have HR4 : Hid (W4.heap[(w.heap.size + 1)]? = some (.cells #[.int .u8 (k : Nat), .int .i64 0, .int .u64 0, .int .u64 0, .string ⟨#[]⟩] 74 (0, 0))) := Lib.hid (heap_of_only k1 (by have := HQL.out; omega) HR3.out)
  clear k1 k2
  have hm' : m ≤ 3 := by omega
  clear hm
  go_wp2_with (first
    | (go_at_call 114; refine (HP1.out _ HI4.out).mono ?_))
  rintro e W5 ⟨rfl, k1, k2⟩
  have HX5 : Hid (Only q w W5) := Lib.hid (HX4.out.trans k1); have HI5 := Lib.hid k2
  have HZ5 : Hid (W5.heap[w.heap.size]? = some (.cells #[.int .u8 0, .int .i64 0, .int .u64 0, .int .u64 0, .string ⟨#[]⟩] 74 (0, 0))) := Lib.hid (heap_of_only k1 (by have := HQL.out; omega) HZ4.out)
  have HR5 : Hid (W5.heap[(w.heap.size + 1)]? = some (.cells #[.int .u8 (k : Nat), .int .i64 0, .int .u64 0, .int .u64 0, .string ⟨#[]⟩] 74 (0, 0))) := Lib.hid (heap_of_only k1 (by have := HQL.out; omega) HR4.out)
  clear k1 k2
  have d6 : W5.cell? ⟨(w.heap.size + 1), 2, none⟩ = some (.int .u64 0) := by rw [cell_of_row _ _ _ _ _ _ HR5.out]; rfl
  have f6 := frozen_of_row W5 (w.heap.size + 1) 2 _ _ HR5.out
  obtain ⟨W6, hW6⟩ : ∃ Wz, Wz = W5.setCell ⟨(w.heap.size + 1), 2, none⟩ (.int .u64 (u1 : Nat)) := ⟨_, rfl⟩
  have HR6 : Hid (W6.heap[(w.heap.size + 1)]? = some (.cells #[.int .u8 (k : Nat), .int .i64 0, .int .u64 (u1 : Nat), .int .u64 0, .string ⟨#[]⟩] 74 (0, 0))) := Lib.hid (by rw [hW6]; exact heap_setCell_same W5 (w.heap.size + 1) 2 _ _ _ HR5.out)
  have HZ6 : Hid (W6.heap[w.heap.size]? = some (.cells #[.int .u8 0, .int .i64 0, .int .u64 0, .int .u64 0, .string ⟨#[]⟩] 74 (0, 0))) := Lib.hid (by rw [hW6, heap_setCell_other W5 ⟨(w.heap.size + 1), 2, none⟩ w.heap.size (.int .u64 (u1 : Nat)) (by simp)]; exact HZ5.out)
  have HI6 : Hid (IsQ W6 q s2) := Lib.hid (by rw [hW6]; exact HI5.out.setElse d6 (noByte_u64 _) (by have := HQL.out; simp <;> omega) _)
  have HX6 : Hid (Only q w W6) := Lib.hid (by rw [hW6]; exact HX5.out.setCell (.inr (by simp <;> omega)) _)
  have HW6 := Lib.hid hW6
  clear hW6
  go_wp2_with (first
    | (go_at_call 114; rw [← HW6.out]; refine (HP2.out _ HI6.out).mono ?_))
  rintro e W7 ⟨rfl, k1, k2⟩
  have HX7 : Hid (Only q w W7) := Lib.hid (HX6.out.trans k1); have HI7 := Lib.hid k2
  have HZ7 : Hid (W7.heap[w.heap.size]? = some (.cells #[.int .u8 0, .int .i64 0, .int .u64 0, .int .u64 0, .string ⟨#[]⟩] 74 (0, 0))) := Lib.hid (heap_of_only k1 (by have := HQL.out; omega) HZ6.out)
  have HR7 : Hid (W7.heap[(w.heap.size + 1)]? = some (.cells #[.int .u8 (k : Nat), .int .i64 0, .int .u64 (u1 : Nat), .int .u64 0, .string ⟨#[]⟩] 74 (0, 0))) := Lib.hid (heap_of_only k1 (by have := HQL.out; omega) HR6.out)
  clear k1 k2
  clear d6 f6
  have d8 : W7.cell? ⟨(w.heap.size + 1), 3, none⟩ = some (.int .u64 0) := by rw [cell_of_row _ _ _ _ _ _ HR7.out]; rfl
  have f8 := frozen_of_row W7 (w.heap.size + 1) 3 _ _ HR7.out
  obtain ⟨W8, hW8⟩ : ∃ Wz, Wz = W7.setCell ⟨(w.heap.size + 1), 3, none⟩ (.int .u64 (u2 : Nat)) := ⟨_, rfl⟩
  have HR8 : Hid (W8.heap[(w.heap.size + 1)]? = some (.cells #[.int .u8 (k : Nat), .int .i64 0, .int .u64 (u1 : Nat), .int .u64 (u2 : Nat), .string ⟨#[]⟩] 74 (0, 0))) := Lib.hid (by rw [hW8]; exact heap_setCell_same W7 (w.heap.size + 1) 3 _ _ _ HR7.out)
  have HZ8 : Hid (W8.heap[w.heap.size]? = some (.cells #[.int .u8 0, .int .i64 0, .int .u64 0, .int .u64 0, .string ⟨#[]⟩] 74 (0, 0))) := Lib.hid (by rw [hW8, heap_setCell_other W7 ⟨(w.heap.size + 1), 3, none⟩ w.heap.size (.int .u64 (u2 : Nat)) (by simp)]; exact HZ7.out)
  have HI8 : Hid (IsQ W8 q s3) := Lib.hid (by rw [hW8]; exact HI7.out.setElse d8 (noByte_u64 _) (by have := HQL.out; simp <;> omega) _)
  have HX8 : Hid (Only q w W8) := Lib.hid (by rw [hW8]; exact HX7.out.setCell (.inr (by simp <;> omega)) _)
  have HW8 := Lib.hid hW8
  clear hW8
  have HRI : Hid (∀ w, Calls Tryz.prog 61 #[.agg #[.int .u8 (k : Nat), .int .i64 0, .int .u64 (u1 : Nat), .int .u64 (u2 : Nat), .string ⟨#[]⟩]] w fun e w' => e = .returned (.int .i64 (E : Nat)) ∧ Ext w w') := Lib.hid (by rw [HEE.out]; exact rright_any ⟨k, 0, u1, u2, []⟩)
  go_wp2_with (first
    | (refine wpList_load_row rfl _ _ rfl (w.heap.size + 1) rfl _ _ _ _ HR8.out Tryz.underlying74 rfl info54 ?_)
    | (rw [← HW8.out]; refine wpList_load_row rfl _ _ rfl (w.heap.size + 1) rfl _ _ _ _ HR8.out Tryz.underlying74 rfl info54 ?_)
    | (go_at_call 61; refine (HRI.out _).mono ?_))
  rintro e WR ⟨rfl, hx⟩
  have HXR : Hid (Only q w WR) := Lib.hid (HX8.out.trans hx.ch); have HIR := Lib.hid (HI8.out.ext hx)
  have HZR := Lib.hid (heap_of_ext hx HZ8.out); have HRR := Lib.hid (heap_of_ext hx HR8.out)
  clear hx
  by_cases he : E = 0
  · have hE : (((E : Nat) : Int) != 0) = false := by simp [he]
    have HE0 := Lib.hid he
    clear he
    obtain ⟨bs', a', ao', cap', _, _, hc2, _⟩ := HIR.out.cells
    by_cases hb : (s3).2 = 0
    · have hb2 : ((s3).2 != 0) = false := by simp [hb]
      have HB := Lib.hid hb
      clear hb
      go_wp2_with (first
        | (refine wpList_load_row rfl _ _ rfl (w.heap.size + 1) rfl _ _ _ _ HRR.out Tryz.underlying74 rfl info54 ?_)
        | (refine wpList_store_rowTo rfl _ _ _ rfl rfl w.heap.size #[.int .u8 (k : Nat), .int .i64 0, .int .u64 (u1 : Nat), .int .u64 (u2 : Nat), .string ⟨#[]⟩] rfl rfl _ _ HZR.out info54 rfl (rrow_one _ _ _ _ _) ?_))
      refine bodyPost_ret (results_cell_row rfl _ _ w.heap.size _ #[.int .u8 (k : Nat), .int .i64 0, .int .u64 (u1 : Nat), .int .u64 (u2 : Nat), .string ⟨#[]⟩] _ _ rfl (setRow_heap _ _ _ _ _ _ HZR.out) Tryz.underlying74 rfl info54) rfl ?_
      exact HPV.out HE0.out HB.out _ (HXR.out.setRow (.inr (Nat.le_refl _)) _) (HIR.out.aboveT ((Ch.refl _ _).setRow (.inl (by have := HQL.out; omega)) _))
    · have hb2 : ((s3).2 != 0) = true := by simpa using hb
      have HB := Lib.hid hb
      clear hb
      go_wp2_with (first
        | (refine wpList_store_rowTo rfl _ _ _ rfl rfl w.heap.size #[.int .u8 0, .int .i64 0, .int .u64 0, .int .u64 0, .string ⟨#[]⟩] rfl rfl _ _ HZR.out info54 rfl (rrow_one _ _ _ _ _) ?_))
      refine bodyPost_ret (results_cell_row rfl _ _ w.heap.size _ #[.int .u8 0, .int .i64 0, .int .u64 0, .int .u64 0, .string ⟨#[]⟩] _ _ rfl (setRow_heap _ _ _ _ _ _ HZR.out) Tryz.underlying74 rfl info54) rfl ?_
      exact HPZ.out (.inl ⟨HE0.out, HB.out⟩) _ (HXR.out.setRow (.inr (Nat.le_refl _)) _) (by rw [HF0.out HE0.out]; exact HIR.out.aboveT ((Ch.refl _ _).setRow (.inl (by have := HQL.out; omega)) _))
  · have hE : (((E : Nat) : Int) != 0) = true := by simp; omega
    have HGU := Lib.hid (fun w h => giveUp_any q (s3) (E : Nat) w h)
    have HE0 := Lib.hid he
    clear he
    unfold QPtr at HGU
    go_wp2_with (go_at_call 32; refine (HGU.out _ HIR.out).mono ?_)
    rintro e WG ⟨rfl, k1, k2⟩
    have HXG : Hid (Only q w WG) := Lib.hid (HXR.out.trans k1); have HIG := Lib.hid k2
    have HZG := Lib.hid (heap_of_only k1 (by have := HQL.out; omega) HZR.out)
    have hb2 : ((failR (s3) (E : Nat)).2 != 0) = true := by simpa using failR_ne _ _ (by have := HE0.out; omega)
    obtain ⟨bs', a', ao', cap', _, _, hc2, _⟩ := HIG.out.cells
    clear k1 k2
    go_wp2_with (first
      | (refine wpList_store_rowTo rfl _ _ _ rfl rfl w.heap.size #[.int .u8 0, .int .i64 0, .int .u64 0, .int .u64 0, .string ⟨#[]⟩] rfl rfl _ _ HZG.out info54 rfl (rrow_one _ _ _ _ _) ?_))
    refine bodyPost_ret (results_cell_row rfl _ _ w.heap.size _ #[.int .u8 0, .int .i64 0, .int .u64 0, .int .u64 0, .string ⟨#[]⟩] _ _ rfl (setRow_heap _ _ _ _ _ _ HZG.out) Tryz.underlying74 rfl info54) rfl ?_
    exact HPZ.out (.inr HE0.out) _ (HXG.out.setRow (.inr (Nat.le_refl _)) _) (HIG.out.aboveT ((Ch.refl _ _).setRow (.inl (by have := HQL.out; omega)) _))
set_option maxRecDepth 20000 in
set_option maxHeartbeats 3000000 in
theorem qtake_4v2b (q : Nat) (s : RS) (ver k : Nat) (w : World) (h : IsQ w q s) (hk : k = 4) (hv : ver = 2) (hm : 3 < (byteR s).1) :
    Calls Tryz.prog 85 #[QPtr q, .int .u8 (k : Nat), .int .u8 (ver : Nat)] w (TqPost q (vTake ver k s).1 (vTake ver k s).2 w) := by
  have HQL := Lib.hid h.lt
  have hg6 : ((w.alloc (.cells #[.int .u8 0, .int .i64 0, .int .u64 0, .int .u64 0, .string ⟨#[]⟩] 74)).alloc (.cells #[.int .u8 0, .int .i64 0, .int .u64 0, .int .u64 0, .string ⟨#[]⟩] 74)).heap[w.heap.size]? = _ := heap_alloc2_old w _ _
  have hq : ((w.alloc (.cells #[.int .u8 0, .int .i64 0, .int .u64 0, .int .u64 0, .string ⟨#[]⟩] 74)).alloc (.cells #[.int .u8 0, .int .i64 0, .int .u64 0, .int .u64 0, .string ⟨#[]⟩] 74)).heap[(w.heap.size + 1)]? = _ := heap_alloc2_new w _ _
  have HQ := Lib.hid hq
  obtain ⟨W3, hW3⟩ : ∃ W3, W3 = ((w.alloc (.cells #[.int .u8 0, .int .i64 0, .int .u64 0, .int .u64 0, .string ⟨#[]⟩] 74)).alloc (.cells #[.int .u8 0, .int .i64 0, .int .u64 0, .int .u64 0, .string ⟨#[]⟩] 74)).setRow (w.heap.size + 1) #[.int .u8 (k : Nat), .int .i64 0, .int .u64 0, .int .u64 0, .string ⟨#[]⟩] := ⟨_, rfl⟩
  have hx3 : Ext w W3 := by rw [hW3]; exact (((Ch.refl _ _).alloc _).alloc _).setRow (.inr (by omega)) _
  have HZ3 : Hid (W3.heap[w.heap.size]? = some (.cells #[.int .u8 0, .int .i64 0, .int .u64 0, .int .u64 0, .string ⟨#[]⟩] 74 (0, 0))) := Lib.hid (by rw [hW3, setRow_other _ _ _ _ (by omega)]; exact hg6)
  have HR3 : Hid (W3.heap[(w.heap.size + 1)]? = some (.cells #[.int .u8 (k : Nat), .int .i64 0, .int .u64 0, .int .u64 0, .string ⟨#[]⟩] 74 (0, 0))) := Lib.hid (by rw [hW3]; exact setRow_heap _ _ _ _ _ _ hq)
  have HX3 : Hid (Only q w W3) := Lib.hid hx3.ch
  have HI3 := Lib.hid (h.ext hx3)
  have HW3 := Lib.hid hW3
  clear hq hx3 hg6 hW3 h
  have hraw : rawR ver k s = (⟨k, 0, (partR (decide ((byteR s).1 % 2 = 1)) (failR (byteR s).2 4)).1, (partR (decide ((byteR s).1 / 2 % 2 = 1)) (partR (decide ((byteR s).1 % 2 = 1)) (failR (byteR s).2 4)).2).1, []⟩, (partR (decide ((byteR s).1 / 2 % 2 = 1)) (partR (decide ((byteR s).1 % 2 = 1)) (failR (byteR s).2 4)).2).2) := by unfold rawR; rw [if_neg (by omega)]; rw [if_neg (by omega)]; rw [if_neg (by omega)]; rw [if_pos hk]; rw [if_neg (by omega)]; unfold cplxR; simp only; rw [if_pos hm]
  obtain ⟨E, hEE⟩ : ∃ E, E = vErr ⟨k, 0, (partR (decide ((byteR s).1 % 2 = 1)) (failR (byteR s).2 4)).1, (partR (decide ((byteR s).1 / 2 % 2 = 1)) (partR (decide ((byteR s).1 % 2 = 1)) (failR (byteR s).2 4)).2).1, []⟩ := ⟨_, rfl⟩
  have hvt : vTake ver k s = (if (failR ((partR (decide ((byteR s).1 / 2 % 2 = 1)) (partR (decide ((byteR s).1 % 2 = 1)) (failR (byteR s).2 4)).2).2) (E : Nat)).2 ≠ 0 then .zero else ⟨k, 0, (partR (decide ((byteR s).1 % 2 = 1)) (failR (byteR s).2 4)).1, (partR (decide ((byteR s).1 / 2 % 2 = 1)) (partR (decide ((byteR s).1 % 2 = 1)) (failR (byteR s).2 4)).2).1, []⟩, failR ((partR (decide ((byteR s).1 / 2 % 2 = 1)) (partR (decide ((byteR s).1 % 2 = 1)) (failR (byteR s).2 4)).2).2) (E : Nat)) := by
    unfold vTake
    rw [if_neg (by omega), hraw]
    simp only
    rw [← hEE]
    split <;> rfl
  rw [hvt]
  obtain ⟨PO, hPO⟩ : ∃ PO, PO = TqPost q (if (failR ((partR (decide ((byteR s).1 / 2 % 2 = 1)) (partR (decide ((byteR s).1 % 2 = 1)) (failR (byteR s).2 4)).2).2) (E : Nat)).2 ≠ 0 then Val.zero else ⟨k, 0, (partR (decide ((byteR s).1 % 2 = 1)) (failR (byteR s).2 4)).1, (partR (decide ((byteR s).1 / 2 % 2 = 1)) (partR (decide ((byteR s).1 % 2 = 1)) (failR (byteR s).2 4)).2).1, []⟩) (failR ((partR (decide ((byteR s).1 / 2 % 2 = 1)) (partR (decide ((byteR s).1 % 2 = 1)) (failR (byteR s).2 4)).2).2) (E : Nat)) w := ⟨_, rfl⟩
  have HPZ : Hid (((E = 0 ∧ ((partR (decide ((byteR s).1 / 2 % 2 = 1)) (partR (decide ((byteR s).1 % 2 = 1)) (failR (byteR s).2 4)).2).2).2 ≠ 0) ∨ E ≠ 0) → ∀ w', Only q w w' → IsQ w' q (failR ((partR (decide ((byteR s).1 / 2 % 2 = 1)) (partR (decide ((byteR s).1 % 2 = 1)) (failR (byteR s).2 4)).2).2) (E : Nat)) → PO (.returned (rv Val.zero)) w') := Lib.hid fun h1 w' h2 h3 => by
    rw [hPO]
    refine ⟨?_, h2, h3⟩
    rw [if_pos]
    rcases h1 with ⟨h1, h4⟩ | h1
    · rw [h1, show (((0 : Nat) : Int)) = 0 by rfl, failR_zero]; exact h4
    · exact failR_ne _ _ (by omega)
  have HPV : Hid (E = 0 → ((partR (decide ((byteR s).1 / 2 % 2 = 1)) (partR (decide ((byteR s).1 % 2 = 1)) (failR (byteR s).2 4)).2).2).2 = 0 → ∀ w', Only q w w' → IsQ w' q ((partR (decide ((byteR s).1 / 2 % 2 = 1)) (partR (decide ((byteR s).1 % 2 = 1)) (failR (byteR s).2 4)).2).2) → PO (.returned (rv ⟨k, 0, (partR (decide ((byteR s).1 % 2 = 1)) (failR (byteR s).2 4)).1, (partR (decide ((byteR s).1 / 2 % 2 = 1)) (partR (decide ((byteR s).1 % 2 = 1)) (failR (byteR s).2 4)).2).1, []⟩)) w') := Lib.hid fun h1 h4 w' h2 h3 => by
    have hf : failR ((partR (decide ((byteR s).1 / 2 % 2 = 1)) (partR (decide ((byteR s).1 % 2 = 1)) (failR (byteR s).2 4)).2).2) (E : Nat) = (partR (decide ((byteR s).1 / 2 % 2 = 1)) (partR (decide ((byteR s).1 % 2 = 1)) (failR (byteR s).2 4)).2).2 := by rw [h1]; exact failR_zero _
    rw [hPO, hf]
    refine ⟨?_, h2, h3⟩
    rw [if_neg (by rw [h4]; decide)]
  have HF0 : Hid (E = 0 → failR ((partR (decide ((byteR s).1 / 2 % 2 = 1)) (partR (decide ((byteR s).1 % 2 = 1)) (failR (byteR s).2 4)).2).2) (E : Nat) = (partR (decide ((byteR s).1 / 2 % 2 = 1)) (partR (decide ((byteR s).1 % 2 = 1)) (failR (byteR s).2 4)).2).2) := Lib.hid fun h1 => by rw [h1]; exact failR_zero _
  rw [← hPO]
  have HEE := Lib.hid hEE
  clear hraw hvt hPO hEE
  have HC := Lib.hid (fun w h => qbyte_any q s w h)
  have hbl := byteR_lt s
  have HG := Lib.hid (fun w h => giveUp_any q (byteR s).2 4 w h)
  have HP1 := Lib.hid (fun w h => qpart_any q (failR (byteR s).2 4) (decide ((byteR s).1 % 2 = 1)) w h)
  have HP2 := Lib.hid (fun w h => qpart_any q (partR (decide ((byteR s).1 % 2 = 1)) (failR (byteR s).2 4)).2 (decide ((byteR s).1 / 2 % 2 = 1)) w h)
  generalize (partR (decide ((byteR s).1 / 2 % 2 = 1)) (partR (decide ((byteR s).1 % 2 = 1)) (failR (byteR s).2 4)).2).1 = u2 at *
  generalize (partR (decide ((byteR s).1 / 2 % 2 = 1)) (partR (decide ((byteR s).1 % 2 = 1)) (failR (byteR s).2 4)).2).2 = s3 at *
  generalize (partR (decide ((byteR s).1 % 2 = 1)) (failR (byteR s).2 4)).1 = u1 at *
  generalize (partR (decide ((byteR s).1 % 2 = 1)) (failR (byteR s).2 4)).2 = s2 at *
  generalize (failR (byteR s).2 4) = s1 at *
  generalize (byteR s).2 = s0 at *
  generalize (byteR s).1 = m at *
  have t1 : (m : Int).tmod 2 = ((m % 2 : Nat) : Int) := by rw [Int.tmod_eq_emod_of_nonneg (by omega)]; simp
  have t1' : (m : Int) % 2 = ((m % 2 : Nat) : Int) := by simp
  have t2 : (m : Int).tdiv 2 = ((m / 2 : Nat) : Int) := by rw [Int.tdiv_eq_ediv_of_nonneg (by omega)]; simp
  have t2' : (m : Int) / 2 = ((m / 2 : Nat) : Int) := by simp
  have t3 : ((m / 2 : Nat) : Int).tmod 2 = ((m / 2 % 2 : Nat) : Int) := by rw [Int.tmod_eq_emod_of_nonneg (by omega)]; simp
  have t3' : ((m / 2 : Nat) : Int) % 2 = ((m / 2 % 2 : Nat) : Int) := by simp
  have b1 : ((((m % 2 : Nat) : Int)) == 1) = decide (m % 2 = 1) := by rw [Bool.eq_iff_iff]; simp; omega
  have b2 : ((((m / 2 % 2 : Nat) : Int)) == 1) = decide (m / 2 % 2 = 1) := by rw [Bool.eq_iff_iff]; simp; omega
  have w1 : IntKind.u8.wrap ((m / 2 : Nat) : Int) = ((m / 2 : Nat) : Int) := by rw [IntKind.wrap_u8]; omega
  generalize decide (m % 2 = 1) = th1 at *
  generalize decide (m / 2 % 2 = 1) = th2 at *
  generalize m / 2 % 2 = m2 at *
  generalize m / 2 = m1 at *
  generalize m % 2 = m0 at *
  have e1 : (((k : Nat) : Int) == 1) = false := by rw [hk]; rfl
  have e2 : (((k : Nat) : Int) == 2) = false := by rw [hk]; rfl
  have e3 : (((k : Nat) : Int) == 3) = false := by rw [hk]; rfl
  have e4 : (((k : Nat) : Int) == 4) = true := by rw [hk]; rfl
  clear hk
  subst hv
  unfold QPtr at *
  go_enter Tryz.func85, Tryz.ntmps85
  go_wp2_with (first
    | (refine wpList_store_rowTo rfl _ _ _ rfl rfl (w.heap.size + 1) #[.int .u8 (k : Nat), .int .i64 0, .int .u64 0, .int .u64 0, .string ⟨#[]⟩] rfl rfl _ _ HQ.out info54 rfl (rrow_one _ _ _ _ _) ?_; rw [← HW3.out])
    | (go_at_call 83; refine (HC.out _ HI3.out).mono ?_))
  rintro e W4 ⟨rfl, k1, k2⟩
  have HX4 : Hid (Only q w W4) := Lib.hid (HX3.out.trans k1); have HI4 := Lib.hid k2
  have HZ4 : Hid (W4.heap[w.heap.size]? = some (.cells #[.int .u8 0, .int .i64 0, .int .u64 0, .int .u64 0, .string ⟨#[]⟩] 74 (0, 0))) := Lib.hid (heap_of_only k1 (by have := HQL.out; omega) HZ3.out)
  have HR4 : Hid (W4.heap[(w.heap.size + 1)]? = some (.cells #[.int .u8 (k : Nat), .int .i64 0, .int .u64 0, .int .u64 0, .string ⟨#[]⟩] 74 (0, 0))) := Lib.hid (heap_of_only k1 (by have := HQL.out; omega) HR3.out)
  clear k1 k2
  go_wp2_with (first
    | (go_at_call 32; refine (HG.out _ HI4.out).mono ?_))
  rintro e W44 ⟨rfl, k1, k2⟩
  have HX44 : Hid (Only q w W44) := Lib.hid (HX4.out.trans k1); have HI44 := Lib.hid k2
  have HZ44 : Hid (W44.heap[w.heap.size]? = some (.cells #[.int .u8 0, .int .i64 0, .int .u64 0, .int .u64 0, .string ⟨#[]⟩] 74 (0, 0))) := Lib.hid (heap_of_only k1 (by have := HQL.out; omega) HZ4.out)
  have HR44 : Hid (W44.heap[(w.heap.size + 1)]? = some (.cells #[.int .u8 (k : Nat), .int .i64 0, .int .u64 0, .int .u64 0, .string ⟨#[]⟩] 74 (0, 0))) := Lib.hid (heap_of_only k1 (by have := HQL.out; omega) HR4.out)
  clear k1 k2
  go_wp2_with (first
    | (go_at_call 114; refine (HP1.out _ HI44.out).mono ?_))
  rintro e W5 ⟨rfl, k1, k2⟩
  have HX5 : Hid (Only q w W5) := Lib.hid (HX44.out.trans k1); have HI5 := Lib.hid k2
  have HZ5 : Hid (W5.heap[w.heap.size]? = some (.cells #[.int .u8 0, .int .i64 0, .int .u64 0, .int .u64 0, .string ⟨#[]⟩] 74 (0, 0))) := Lib.hid (heap_of_only k1 (by have := HQL.out; omega) HZ44.out)
  have HR5 : Hid (W5.heap[(w.heap.size + 1)]? = some (.cells #[.int .u8 (k : Nat), .int .i64 0, .int .u64 0, .int .u64 0, .string ⟨#[]⟩] 74 (0, 0))) := Lib.hid (heap_of_only k1 (by have := HQL.out; omega) HR44.out)
  clear k1 k2
  have d6 : W5.cell? ⟨(w.heap.size + 1), 2, none⟩ = some (.int .u64 0) := by rw [cell_of_row _ _ _ _ _ _ HR5.out]; rfl
  have f6 := frozen_of_row W5 (w.heap.size + 1) 2 _ _ HR5.out
  obtain ⟨W6, hW6⟩ : ∃ Wz, Wz = W5.setCell ⟨(w.heap.size + 1), 2, none⟩ (.int .u64 (u1 : Nat)) := ⟨_, rfl⟩
  have HR6 : Hid (W6.heap[(w.heap.size + 1)]? = some (.cells #[.int .u8 (k : Nat), .int .i64 0, .int .u64 (u1 : Nat), .int .u64 0, .string ⟨#[]⟩] 74 (0, 0))) := Lib.hid (by rw [hW6]; exact heap_setCell_same W5 (w.heap.size + 1) 2 _ _ _ HR5.out)
  have HZ6 : Hid (W6.heap[w.heap.size]? = some (.cells #[.int .u8 0, .int .i64 0, .int .u64 0, .int .u64 0, .string ⟨#[]⟩] 74 (0, 0))) := Lib.hid (by rw [hW6, heap_setCell_other W5 ⟨(w.heap.size + 1), 2, none⟩ w.heap.size (.int .u64 (u1 : Nat)) (by simp)]; exact HZ5.out)
  have HI6 : Hid (IsQ W6 q s2) := Lib.hid (by rw [hW6]; exact HI5.out.setElse d6 (noByte_u64 _) (by have := HQL.out; simp <;> omega) _)
  have HX6 : Hid (Only q w W6) := Lib.hid (by rw [hW6]; exact HX5.out.setCell (.inr (by simp <;> omega)) _)
  have HW6 := Lib.hid hW6
  clear hW6
  go_wp2_with (first
    | (go_at_call 114; rw [← HW6.out]; refine (HP2.out _ HI6.out).mono ?_))
  rintro e W7 ⟨rfl, k1, k2⟩
  have HX7 : Hid (Only q w W7) := Lib.hid (HX6.out.trans k1); have HI7 := Lib.hid k2
  have HZ7 : Hid (W7.heap[w.heap.size]? = some (.cells #[.int .u8 0, .int .i64 0, .int .u64 0, .int .u64 0, .string ⟨#[]⟩] 74 (0, 0))) := Lib.hid (heap_of_only k1 (by have := HQL.out; omega) HZ6.out)
  have HR7 : Hid (W7.heap[(w.heap.size + 1)]? = some (.cells #[.int .u8 (k : Nat), .int .i64 0, .int .u64 (u1 : Nat), .int .u64 0, .string ⟨#[]⟩] 74 (0, 0))) := Lib.hid (heap_of_only k1 (by have := HQL.out; omega) HR6.out)
  clear k1 k2
  clear d6 f6
  have d8 : W7.cell? ⟨(w.heap.size + 1), 3, none⟩ = some (.int .u64 0) := by rw [cell_of_row _ _ _ _ _ _ HR7.out]; rfl
  have f8 := frozen_of_row W7 (w.heap.size + 1) 3 _ _ HR7.out
  obtain ⟨W8, hW8⟩ : ∃ Wz, Wz = W7.setCell ⟨(w.heap.size + 1), 3, none⟩ (.int .u64 (u2 : Nat)) := ⟨_, rfl⟩
  have HR8 : Hid (W8.heap[(w.heap.size + 1)]? = some (.cells #[.int .u8 (k : Nat), .int .i64 0, .int .u64 (u1 : Nat), .int .u64 (u2 : Nat), .string ⟨#[]⟩] 74 (0, 0))) := Lib.hid (by rw [hW8]; exact heap_setCell_same W7 (w.heap.size + 1) 3 _ _ _ HR7.out)
  have HZ8 : Hid (W8.heap[w.heap.size]? = some (.cells #[.int .u8 0, .int .i64 0, .int .u64 0, .int .u64 0, .string ⟨#[]⟩] 74 (0, 0))) := Lib.hid (by rw [hW8, heap_setCell_other W7 ⟨(w.heap.size + 1), 3, none⟩ w.heap.size (.int .u64 (u2 : Nat)) (by simp)]; exact HZ7.out)
  have HI8 : Hid (IsQ W8 q s3) := Lib.hid (by rw [hW8]; exact HI7.out.setElse d8 (noByte_u64 _) (by have := HQL.out; simp <;> omega) _)
  have HX8 : Hid (Only q w W8) := Lib.hid (by rw [hW8]; exact HX7.out.setCell (.inr (by simp <;> omega)) _)
  have HW8 := Lib.hid hW8
  clear hW8
  have HRI : Hid (∀ w, Calls Tryz.prog 61 #[.agg #[.int .u8 (k : Nat), .int .i64 0, .int .u64 (u1 : Nat), .int .u64 (u2 : Nat), .string ⟨#[]⟩]] w fun e w' => e = .returned (.int .i64 (E : Nat)) ∧ Ext w w') := Lib.hid (by rw [HEE.out]; exact rright_any ⟨k, 0, u1, u2, []⟩)
  go_wp2_with (first
    | (refine wpList_load_row rfl _ _ rfl (w.heap.size + 1) rfl _ _ _ _ HR8.out Tryz.underlying74 rfl info54 ?_)
    | (rw [← HW8.out]; refine wpList_load_row rfl _ _ rfl (w.heap.size + 1) rfl _ _ _ _ HR8.out Tryz.underlying74 rfl info54 ?_)
    | (go_at_call 61; refine (HRI.out _).mono ?_))
  rintro e WR ⟨rfl, hx⟩
  have HXR : Hid (Only q w WR) := Lib.hid (HX8.out.trans hx.ch); have HIR := Lib.hid (HI8.out.ext hx)
  have HZR := Lib.hid (heap_of_ext hx HZ8.out); have HRR := Lib.hid (heap_of_ext hx HR8.out)
  clear hx
  by_cases he : E = 0
  · have hE : (((E : Nat) : Int) != 0) = false := by simp [he]
    have HE0 := Lib.hid he
    clear he
    obtain ⟨bs', a', ao', cap', _, _, hc2, _⟩ := HIR.out.cells
    by_cases hb : (s3).2 = 0
    · have hb2 : ((s3).2 != 0) = false := by simp [hb]
      have HB := Lib.hid hb
      clear hb
      go_wp2_with (first
        | (refine wpList_load_row rfl _ _ rfl (w.heap.size + 1) rfl _ _ _ _ HRR.out Tryz.underlying74 rfl info54 ?_)
        | (refine wpList_store_rowTo rfl _ _ _ rfl rfl w.heap.size #[.int .u8 (k : Nat), .int .i64 0, .int .u64 (u1 : Nat), .int .u64 (u2 : Nat), .string ⟨#[]⟩] rfl rfl _ _ HZR.out info54 rfl (rrow_one _ _ _ _ _) ?_))
      refine bodyPost_ret (results_cell_row rfl _ _ w.heap.size _ #[.int .u8 (k : Nat), .int .i64 0, .int .u64 (u1 : Nat), .int .u64 (u2 : Nat), .string ⟨#[]⟩] _ _ rfl (setRow_heap _ _ _ _ _ _ HZR.out) Tryz.underlying74 rfl info54) rfl ?_
      exact HPV.out HE0.out HB.out _ (HXR.out.setRow (.inr (Nat.le_refl _)) _) (HIR.out.aboveT ((Ch.refl _ _).setRow (.inl (by have := HQL.out; omega)) _))
    · have hb2 : ((s3).2 != 0) = true := by simpa using hb
      have HB := Lib.hid hb
      clear hb
      go_wp2_with (first
        | (refine wpList_store_rowTo rfl _ _ _ rfl rfl w.heap.size #[.int .u8 0, .int .i64 0, .int .u64 0, .int .u64 0, .string ⟨#[]⟩] rfl rfl _ _ HZR.out info54 rfl (rrow_one _ _ _ _ _) ?_))
      refine bodyPost_ret (results_cell_row rfl _ _ w.heap.size _ #[.int .u8 0, .int .i64 0, .int .u64 0, .int .u64 0, .string ⟨#[]⟩] _ _ rfl (setRow_heap _ _ _ _ _ _ HZR.out) Tryz.underlying74 rfl info54) rfl ?_
      exact HPZ.out (.inl ⟨HE0.out, HB.out⟩) _ (HXR.out.setRow (.inr (Nat.le_refl _)) _) (by rw [HF0.out HE0.out]; exact HIR.out.aboveT ((Ch.refl _ _).setRow (.inl (by have := HQL.out; omega)) _))
  · have hE : (((E : Nat) : Int) != 0) = true := by simp; omega
    have HGU := Lib.hid (fun w h => giveUp_any q (s3) (E : Nat) w h)
    have HE0 := Lib.hid he
    clear he
    unfold QPtr at HGU
    go_wp2_with (go_at_call 32; refine (HGU.out _ HIR.out).mono ?_)
    rintro e WG ⟨rfl, k1, k2⟩
    have HXG : Hid (Only q w WG) := Lib.hid (HXR.out.trans k1); have HIG := Lib.hid k2
    have HZG := Lib.hid (heap_of_only k1 (by have := HQL.out; omega) HZR.out)
    have hb2 : ((failR (s3) (E : Nat)).2 != 0) = true := by simpa using failR_ne _ _ (by have := HE0.out; omega)
    obtain ⟨bs', a', ao', cap', _, _, hc2, _⟩ := HIG.out.cells
    clear k1 k2
    go_wp2_with (first
      | (refine wpList_store_rowTo rfl _ _ _ rfl rfl w.heap.size #[.int .u8 0, .int .i64 0, .int .u64 0, .int .u64 0, .string ⟨#[]⟩] rfl rfl _ _ HZG.out info54 rfl (rrow_one _ _ _ _ _) ?_))
    refine bodyPost_ret (results_cell_row rfl _ _ w.heap.size _ #[.int .u8 0, .int .i64 0, .int .u64 0, .int .u64 0, .string ⟨#[]⟩] _ _ rfl (setRow_heap _ _ _ _ _ _ HZG.out) Tryz.underlying74 rfl info54) rfl ?_
    exact HPZ.out (.inr HE0.out) _ (HXG.out.setRow (.inr (Nat.le_refl _)) _) (HIG.out.aboveT ((Ch.refl _ _).setRow (.inl (by have := HQL.out; omega)) _))
set_option maxRecDepth 20000 in
set_option maxHeartbeats 3000000 in
theorem qtake_5v1 (q : Nat) (s : RS) (ver k : Nat) (w : World) (h : IsQ w q s) (hk : k = 5) (hv : ver = 1) :
    Calls Tryz.prog 85 #[QPtr q, .int .u8 (k : Nat), .int .u8 (ver : Nat)] w (TqPost q (vTake ver k s).1 (vTake ver k s).2 w) := by
  have HQL := Lib.hid h.lt
  have hg6 : ((w.alloc (.cells #[.int .u8 0, .int .i64 0, .int .u64 0, .int .u64 0, .string ⟨#[]⟩] 74)).alloc (.cells #[.int .u8 0, .int .i64 0, .int .u64 0, .int .u64 0, .string ⟨#[]⟩] 74)).heap[w.heap.size]? = _ := heap_alloc2_old w _ _
  have hq : ((w.alloc (.cells #[.int .u8 0, .int .i64 0, .int .u64 0, .int .u64 0, .string ⟨#[]⟩] 74)).alloc (.cells #[.int .u8 0, .int .i64 0, .int .u64 0, .int .u64 0, .string ⟨#[]⟩] 74)).heap[(w.heap.size + 1)]? = _ := heap_alloc2_new w _ _
  have HQ := Lib.hid hq
  obtain ⟨W3, hW3⟩ : ∃ W3, W3 = ((w.alloc (.cells #[.int .u8 0, .int .i64 0, .int .u64 0, .int .u64 0, .string ⟨#[]⟩] 74)).alloc (.cells #[.int .u8 0, .int .i64 0, .int .u64 0, .int .u64 0, .string ⟨#[]⟩] 74)).setRow (w.heap.size + 1) #[.int .u8 (k : Nat), .int .i64 0, .int .u64 0, .int .u64 0, .string ⟨#[]⟩] := ⟨_, rfl⟩
  have hx3 : Ext w W3 := by rw [hW3]; exact (((Ch.refl _ _).alloc _).alloc _).setRow (.inr (by omega)) _
  have HZ3 : Hid (W3.heap[w.heap.size]? = some (.cells #[.int .u8 0, .int .i64 0, .int .u64 0, .int .u64 0, .string ⟨#[]⟩] 74 (0, 0))) := Lib.hid (by rw [hW3, setRow_other _ _ _ _ (by omega)]; exact hg6)
  have HR3 : Hid (W3.heap[(w.heap.size + 1)]? = some (.cells #[.int .u8 (k : Nat), .int .i64 0, .int .u64 0, .int .u64 0, .string ⟨#[]⟩] 74 (0, 0))) := Lib.hid (by rw [hW3]; exact setRow_heap _ _ _ _ _ _ hq)
  have HX3 : Hid (Only q w W3) := Lib.hid hx3.ch
  have HI3 := Lib.hid (h.ext hx3)
  have HW3 := Lib.hid hW3
  clear hq hx3 hg6 hW3 h
  have hraw : rawR ver k s = (⟨k, 0, 0, 0, (textR 2048 s).1⟩, (textR 2048 s).2) := by unfold rawR; rw [if_neg (by omega)]; rw [if_neg (by omega)]; rw [if_neg (by omega)]; rw [if_neg (by omega)]; rw [if_pos (by omega)]
  obtain ⟨E, hEE⟩ : ∃ E, E = vErr ⟨k, 0, 0, 0, (textR 2048 s).1⟩ := ⟨_, rfl⟩
  have hvt : vTake ver k s = (if (failR ((textR 2048 s).2) (E : Nat)).2 ≠ 0 then .zero else ⟨k, 0, 0, 0, (textR 2048 s).1⟩, failR ((textR 2048 s).2) (E : Nat)) := by
    unfold vTake
    rw [if_neg (by omega), hraw]
    simp only
    rw [← hEE]
    split <;> rfl
  rw [hvt]
  obtain ⟨PO, hPO⟩ : ∃ PO, PO = TqPost q (if (failR ((textR 2048 s).2) (E : Nat)).2 ≠ 0 then Val.zero else ⟨k, 0, 0, 0, (textR 2048 s).1⟩) (failR ((textR 2048 s).2) (E : Nat)) w := ⟨_, rfl⟩
  have HPZ : Hid (((E = 0 ∧ ((textR 2048 s).2).2 ≠ 0) ∨ E ≠ 0) → ∀ w', Only q w w' → IsQ w' q (failR ((textR 2048 s).2) (E : Nat)) → PO (.returned (rv Val.zero)) w') := Lib.hid fun h1 w' h2 h3 => by
    rw [hPO]
    refine ⟨?_, h2, h3⟩
    rw [if_pos]
    rcases h1 with ⟨h1, h4⟩ | h1
    · rw [h1, show (((0 : Nat) : Int)) = 0 by rfl, failR_zero]; exact h4
    · exact failR_ne _ _ (by omega)
  have HPV : Hid (E = 0 → ((textR 2048 s).2).2 = 0 → ∀ w', Only q w w' → IsQ w' q ((textR 2048 s).2) → PO (.returned (rv ⟨k, 0, 0, 0, (textR 2048 s).1⟩)) w') := Lib.hid fun h1 h4 w' h2 h3 => by
    have hf : failR ((textR 2048 s).2) (E : Nat) = (textR 2048 s).2 := by rw [h1]; exact failR_zero _
    rw [hPO, hf]
    refine ⟨?_, h2, h3⟩
    rw [if_neg (by rw [h4]; decide)]
  have HF0 : Hid (E = 0 → failR ((textR 2048 s).2) (E : Nat) = (textR 2048 s).2) := Lib.hid fun h1 => by rw [h1]; exact failR_zero _
  rw [← hPO]
  have HEE := Lib.hid hEE
  clear hraw hvt hPO hEE
  have hc := fun w h => qtext_any q s 2048 w h (by omega)
  rw [show (2048 : Int).toNat = 2048 by rfl] at hc
  unfold strV at hc
  have HC := Lib.hid hc
  clear hc
  generalize (textR 2048 s).1 = u at *
  generalize (textR 2048 s).2 = s1 at *
  have e1 : (((k : Nat) : Int) == 1) = false := by rw [hk]; rfl
  have e2 : (((k : Nat) : Int) == 2) = false := by rw [hk]; rfl
  have e3 : (((k : Nat) : Int) == 3) = false := by rw [hk]; rfl
  have e4 : (((k : Nat) : Int) == 4) = false := by rw [hk]; rfl
  have e5 : (((k : Nat) : Int) == 5) = true := by rw [hk]; rfl
  clear hk
  subst hv
  unfold QPtr at *
  go_enter Tryz.func85, Tryz.ntmps85
  go_wp2_with (first
    | (refine wpList_store_rowTo rfl _ _ _ rfl rfl (w.heap.size + 1) #[.int .u8 (k : Nat), .int .i64 0, .int .u64 0, .int .u64 0, .string ⟨#[]⟩] rfl rfl _ _ HQ.out info54 rfl (rrow_one _ _ _ _ _) ?_; rw [← HW3.out])
    | (go_at_call 86; refine (HC.out _ HI3.out).mono ?_))
  rintro e W4 ⟨rfl, k1, k2⟩
  have HX4 : Hid (Only q w W4) := Lib.hid (HX3.out.trans k1); have HI4 := Lib.hid k2
  have HZ4 : Hid (W4.heap[w.heap.size]? = some (.cells #[.int .u8 0, .int .i64 0, .int .u64 0, .int .u64 0, .string ⟨#[]⟩] 74 (0, 0))) := Lib.hid (heap_of_only k1 (by have := HQL.out; omega) HZ3.out)
  have HR4 : Hid (W4.heap[(w.heap.size + 1)]? = some (.cells #[.int .u8 (k : Nat), .int .i64 0, .int .u64 0, .int .u64 0, .string ⟨#[]⟩] 74 (0, 0))) := Lib.hid (heap_of_only k1 (by have := HQL.out; omega) HR3.out)
  clear k1 k2
  have d5 : W4.cell? ⟨(w.heap.size + 1), 4, none⟩ = some (.string ⟨#[]⟩) := by rw [cell_of_row _ _ _ _ _ _ HR4.out]; rfl
  have f5 := frozen_of_row W4 (w.heap.size + 1) 4 _ _ HR4.out
  obtain ⟨W5, hW5⟩ : ∃ Wz, Wz = W4.setCell ⟨(w.heap.size + 1), 4, none⟩ (.string ⟨u.toArray⟩) := ⟨_, rfl⟩
  have HR5 : Hid (W5.heap[(w.heap.size + 1)]? = some (.cells #[.int .u8 (k : Nat), .int .i64 0, .int .u64 0, .int .u64 0, .string ⟨u.toArray⟩] 74 (0, 0))) := Lib.hid (by rw [hW5]; exact heap_setCell_same W4 (w.heap.size + 1) 4 _ _ _ HR4.out)
  have HZ5 : Hid (W5.heap[w.heap.size]? = some (.cells #[.int .u8 0, .int .i64 0, .int .u64 0, .int .u64 0, .string ⟨#[]⟩] 74 (0, 0))) := Lib.hid (by rw [hW5, heap_setCell_other W4 ⟨(w.heap.size + 1), 4, none⟩ w.heap.size (.string ⟨u.toArray⟩) (by simp)]; exact HZ4.out)
  have HI5 : Hid (IsQ W5 q s1) := Lib.hid (by rw [hW5]; exact HI4.out.setElse d5 (noByte_string _) (by have := HQL.out; simp <;> omega) _)
  have HX5 : Hid (Only q w W5) := Lib.hid (by rw [hW5]; exact HX4.out.setCell (.inr (by simp <;> omega)) _)
  have HW5 := Lib.hid hW5
  clear hW5
  have HRI : Hid (∀ w, Calls Tryz.prog 61 #[.agg #[.int .u8 (k : Nat), .int .i64 0, .int .u64 0, .int .u64 0, .string ⟨u.toArray⟩]] w fun e w' => e = .returned (.int .i64 (E : Nat)) ∧ Ext w w') := Lib.hid (by rw [HEE.out]; exact rright_any ⟨k, 0, 0, 0, u⟩)
  go_wp2_with (first
    | (refine wpList_load_row rfl _ _ rfl (w.heap.size + 1) rfl _ _ _ _ HR5.out Tryz.underlying74 rfl info54 ?_)
    | (rw [← HW5.out]; refine wpList_load_row rfl _ _ rfl (w.heap.size + 1) rfl _ _ _ _ HR5.out Tryz.underlying74 rfl info54 ?_)
    | (go_at_call 61; refine (HRI.out _).mono ?_))
  rintro e WR ⟨rfl, hx⟩
  have HXR : Hid (Only q w WR) := Lib.hid (HX5.out.trans hx.ch); have HIR := Lib.hid (HI5.out.ext hx)
  have HZR := Lib.hid (heap_of_ext hx HZ5.out); have HRR := Lib.hid (heap_of_ext hx HR5.out)
  clear hx
  by_cases he : E = 0
  · have hE : (((E : Nat) : Int) != 0) = false := by simp [he]
    have HE0 := Lib.hid he
    clear he
    obtain ⟨bs', a', ao', cap', _, _, hc2, _⟩ := HIR.out.cells
    by_cases hb : (s1).2 = 0
    · have hb2 : ((s1).2 != 0) = false := by simp [hb]
      have HB := Lib.hid hb
      clear hb
      go_wp2_with (first
        | (refine wpList_load_row rfl _ _ rfl (w.heap.size + 1) rfl _ _ _ _ HRR.out Tryz.underlying74 rfl info54 ?_)
        | (refine wpList_store_rowTo rfl _ _ _ rfl rfl w.heap.size #[.int .u8 (k : Nat), .int .i64 0, .int .u64 0, .int .u64 0, .string ⟨u.toArray⟩] rfl rfl _ _ HZR.out info54 rfl (rrow_one _ _ _ _ _) ?_))
      refine bodyPost_ret (results_cell_row rfl _ _ w.heap.size _ #[.int .u8 (k : Nat), .int .i64 0, .int .u64 0, .int .u64 0, .string ⟨u.toArray⟩] _ _ rfl (setRow_heap _ _ _ _ _ _ HZR.out) Tryz.underlying74 rfl info54) rfl ?_
      exact HPV.out HE0.out HB.out _ (HXR.out.setRow (.inr (Nat.le_refl _)) _) (HIR.out.aboveT ((Ch.refl _ _).setRow (.inl (by have := HQL.out; omega)) _))
    · have hb2 : ((s1).2 != 0) = true := by simpa using hb
      have HB := Lib.hid hb
      clear hb
      go_wp2_with (first
        | (refine wpList_store_rowTo rfl _ _ _ rfl rfl w.heap.size #[.int .u8 0, .int .i64 0, .int .u64 0, .int .u64 0, .string ⟨#[]⟩] rfl rfl _ _ HZR.out info54 rfl (rrow_one _ _ _ _ _) ?_))
      refine bodyPost_ret (results_cell_row rfl _ _ w.heap.size _ #[.int .u8 0, .int .i64 0, .int .u64 0, .int .u64 0, .string ⟨#[]⟩] _ _ rfl (setRow_heap _ _ _ _ _ _ HZR.out) Tryz.underlying74 rfl info54) rfl ?_
      exact HPZ.out (.inl ⟨HE0.out, HB.out⟩) _ (HXR.out.setRow (.inr (Nat.le_refl _)) _) (by rw [HF0.out HE0.out]; exact HIR.out.aboveT ((Ch.refl _ _).setRow (.inl (by have := HQL.out; omega)) _))
  · have hE : (((E : Nat) : Int) != 0) = true := by simp; omega
    have HGU := Lib.hid (fun w h => giveUp_any q (s1) (E : Nat) w h)
    have HE0 := Lib.hid he
    clear he
    unfold QPtr at HGU
    go_wp2_with (go_at_call 32; refine (HGU.out _ HIR.out).mono ?_)
    rintro e WG ⟨rfl, k1, k2⟩
    have HXG : Hid (Only q w WG) := Lib.hid (HXR.out.trans k1); have HIG := Lib.hid k2
    have HZG := Lib.hid (heap_of_only k1 (by have := HQL.out; omega) HZR.out)
    have hb2 : ((failR (s1) (E : Nat)).2 != 0) = true := by simpa using failR_ne _ _ (by have := HE0.out; omega)
    obtain ⟨bs', a', ao', cap', _, _, hc2, _⟩ := HIG.out.cells
    clear k1 k2
    go_wp2_with (first
      | (refine wpList_store_rowTo rfl _ _ _ rfl rfl w.heap.size #[.int .u8 0, .int .i64 0, .int .u64 0, .int .u64 0, .string ⟨#[]⟩] rfl rfl _ _ HZG.out info54 rfl (rrow_one _ _ _ _ _) ?_))
    refine bodyPost_ret (results_cell_row rfl _ _ w.heap.size _ #[.int .u8 0, .int .i64 0, .int .u64 0, .int .u64 0, .string ⟨#[]⟩] _ _ rfl (setRow_heap _ _ _ _ _ _ HZG.out) Tryz.underlying74 rfl info54) rfl ?_
    exact HPZ.out (.inr HE0.out) _ (HXG.out.setRow (.inr (Nat.le_refl _)) _) (HIG.out.aboveT ((Ch.refl _ _).setRow (.inl (by have := HQL.out; omega)) _))
set_option maxRecDepth 20000 in
set_option maxHeartbeats 3000000 in
theorem qtake_5v2 (q : Nat) (s : RS) (ver k : Nat) (w : World) (h : IsQ w q s) (hk : k = 5) (hv : ver = 2) :
    Calls Tryz.prog 85 #[QPtr q, .int .u8 (k : Nat), .int .u8 (ver : Nat)] w (TqPost q (vTake ver k s).1 (vTake ver k s).2 w) := by
  have HQL := Lib.hid h.lt
  have hg6 : ((w.alloc (.cells #[.int .u8 0, .int .i64 0, .int .u64 0, .int .u64 0, .string ⟨#[]⟩] 74)).alloc (.cells #[.int .u8 0, .int .i64 0, .int .u64 0, .int .u64 0, .string ⟨#[]⟩] 74)).heap[w.heap.size]? = _ := heap_alloc2_old w _ _
  have hq : ((w.alloc (.cells #[.int .u8 0, .int .i64 0, .int .u64 0, .int .u64 0, .string ⟨#[]⟩] 74)).alloc (.cells #[.int .u8 0, .int .i64 0, .int .u64 0, .int .u64 0, .string ⟨#[]⟩] 74)).heap[(w.heap.size + 1)]? = _ := heap_alloc2_new w _ _
  have HQ := Lib.hid hq
  obtain ⟨W3, hW3⟩ : ∃ W3, W3 = ((w.alloc (.cells #[.int .u8 0, .int .i64 0, .int .u64 0, .int .u64 0, .string ⟨#[]⟩] 74)).alloc (.cells #[.int .u8 0, .int .i64 0, .int .u64 0, .int .u64 0, .string ⟨#[]⟩] 74)).setRow (w.heap.size + 1) #[.int .u8 (k : Nat), .int .i64 0, .int .u64 0, .int .u64 0, .string ⟨#[]⟩] := ⟨_, rfl⟩
  have hx3 : Ext w W3 := by rw [hW3]; exact (((Ch.refl _ _).alloc _).alloc _).setRow (.inr (by omega)) _
  have HZ3 : Hid (W3.heap[w.heap.size]? = some (.cells #[.int .u8 0, .int .i64 0, .int .u64 0, .int .u64 0, .string ⟨#[]⟩] 74 (0, 0))) := Lib.hid (by rw [hW3, setRow_other _ _ _ _ (by omega)]; exact hg6)
  have HR3 : Hid (W3.heap[(w.heap.size + 1)]? = some (.cells #[.int .u8 (k : Nat), .int .i64 0, .int .u64 0, .int .u64 0, .string ⟨#[]⟩] 74 (0, 0))) := Lib.hid (by rw [hW3]; exact setRow_heap _ _ _ _ _ _ hq)
  have HX3 : Hid (Only q w W3) := Lib.hid hx3.ch
  have HI3 := Lib.hid (h.ext hx3)
  have HW3 := Lib.hid hW3
  clear hq hx3 hg6 hW3 h
  have hraw : rawR ver k s = (⟨k, 0, 0, 0, (textR 2048 s).1⟩, (textR 2048 s).2) := by unfold rawR; rw [if_neg (by omega)]; rw [if_neg (by omega)]; rw [if_neg (by omega)]; rw [if_neg (by omega)]; rw [if_pos (by omega)]
  obtain ⟨E, hEE⟩ : ∃ E, E = vErr ⟨k, 0, 0, 0, (textR 2048 s).1⟩ := ⟨_, rfl⟩
  have hvt : vTake ver k s = (if (failR ((textR 2048 s).2) (E : Nat)).2 ≠ 0 then .zero else ⟨k, 0, 0, 0, (textR 2048 s).1⟩, failR ((textR 2048 s).2) (E : Nat)) := by
    unfold vTake
    rw [if_neg (by omega), hraw]
    simp only
    rw [← hEE]
    split <;> rfl
  rw [hvt]
  obtain ⟨PO, hPO⟩ : ∃ PO, PO = TqPost q (if (failR ((textR 2048 s).2) (E : Nat)).2 ≠ 0 then Val.zero else ⟨k, 0, 0, 0, (textR 2048 s).1⟩) (failR ((textR 2048 s).2) (E : Nat)) w := ⟨_, rfl⟩
  have HPZ : Hid (((E = 0 ∧ ((textR 2048 s).2).2 ≠ 0) ∨ E ≠ 0) → ∀ w', Only q w w' → IsQ w' q (failR ((textR 2048 s).2) (E : Nat)) → PO (.returned (rv Val.zero)) w') := Lib.hid fun h1 w' h2 h3 => by
    rw [hPO]
    refine ⟨?_, h2, h3⟩
    rw [if_pos]
    rcases h1 with ⟨h1, h4⟩ | h1
    · rw [h1, show (((0 : Nat) : Int)) = 0 by rfl, failR_zero]; exact h4
    · exact failR_ne _ _ (by omega)
  have HPV : Hid (E = 0 → ((textR 2048 s).2).2 = 0 → ∀ w', Only q w w' → IsQ w' q ((textR 2048 s).2) → PO (.returned (rv ⟨k, 0, 0, 0, (textR 2048 s).1⟩)) w') := Lib.hid fun h1 h4 w' h2 h3 => by
    have hf : failR ((textR 2048 s).2) (E : Nat) = (textR 2048 s).2 := by rw [h1]; exact failR_zero _
    rw [hPO, hf]
    refine ⟨?_, h2, h3⟩
    rw [if_neg (by rw [h4]; decide)]
  have HF0 : Hid (E = 0 → failR ((textR 2048 s).2) (E : Nat) = (textR 2048 s).2) := Lib.hid fun h1 => by rw [h1]; exact failR_zero _
  rw [← hPO]
  have HEE := Lib.hid hEE
  clear hraw hvt hPO hEE
  have hc := fun w h => qtext_any q s 2048 w h (by omega)
  rw [show (2048 : Int).toNat = 2048 by rfl] at hc
  unfold strV at hc
  have HC := Lib.hid hc
  clear hc
  generalize (textR 2048 s).1 = u at *
  generalize (textR 2048 s).2 = s1 at *
  have e1 : (((k : Nat) : Int) == 1) = false := by rw [hk]; rfl
  have e2 : (((k : Nat) : Int) == 2) = false := by rw [hk]; rfl
  have e3 : (((k : Nat) : Int) == 3) = false := by rw [hk]; rfl
  have e4 : (((k : Nat) : Int) == 4) = false := by rw [hk]; rfl
  have e5 : (((k : Nat) : Int) == 5) = true := by rw [hk]; rfl
  clear hk
  subst hv
  unfold QPtr at *
  go_enter Tryz.func85, Tryz.ntmps85
  go_wp2_with (first
    | (refine wpList_store_rowTo rfl _ _ _ rfl rfl (w.heap.size + 1) #[.int .u8 (k : Nat), .int .i64 0, .int .u64 0, .int .u64 0, .string ⟨#[]⟩] rfl rfl _ _ HQ.out info54 rfl (rrow_one _ _ _ _ _) ?_; rw [← HW3.out])
    | (go_at_call 86; refine (HC.out _ HI3.out).mono ?_))
  rintro e W4 ⟨rfl, k1, k2⟩
  have HX4 : Hid (Only q w W4) := Lib.hid (HX3.out.trans k1); have HI4 := Lib.hid k2
  have HZ4 : Hid (W4.heap[w.heap.size]? = some (.cells #[.int .u8 0, .int .i64 0, .int .u64 0, .int .u64 0, .string ⟨#[]⟩] 74 (0, 0))) := Lib.hid (heap_of_only k1 (by have := HQL.out; omega) HZ3.out)
  have HR4 : Hid (W4.heap[(w.heap.size + 1)]? = some (.cells #[.int .u8 (k : Nat), .int .i64 0, .int .u64 0, .int .u64 0, .string ⟨#[]⟩] 74 (0, 0))) := Lib.hid (heap_of_only k1 (by have := HQL.out; omega) HR3.out)
  clear k1 k2
  have d5 : W4.cell? ⟨(w.heap.size + 1), 4, none⟩ = some (.string ⟨#[]⟩) := by rw [cell_of_row _ _ _ _ _ _ HR4.out]; rfl
  have f5 := frozen_of_row W4 (w.heap.size + 1) 4 _ _ HR4.out
  obtain ⟨W5, hW5⟩ : ∃ Wz, Wz = W4.setCell ⟨(w.heap.size + 1), 4, none⟩ (.string ⟨u.toArray⟩) := ⟨_, rfl⟩
  have HR5 : Hid (W5.heap[(w.heap.size + 1)]? = some (.cells #[.int .u8 (k : Nat), .int .i64 0, .int .u64 0, .int .u64 0, .string ⟨u.toArray⟩] 74 (0, 0))) := Lib.hid (by rw [hW5]; exact heap_setCell_same W4 (w.heap.size + 1) 4 _ _ _ HR4.out)
  have HZ5 : Hid (W5.heap[w.heap.size]? = some (.cells #[.int .u8 0, .int .i64 0, .int .u64 0, .int .u64 0, .string ⟨#[]⟩] 74 (0, 0))) := Lib.hid (by rw [hW5, heap_setCell_other W4 ⟨(w.heap.size + 1), 4, none⟩ w.heap.size (.string ⟨u.toArray⟩) (by simp)]; exact HZ4.out)
  have HI5 : Hid (IsQ W5 q s1) := Lib.hid (by rw [hW5]; exact HI4.out.setElse d5 (noByte_string _) (by have := HQL.out; simp <;> omega) _)
  have HX5 : Hid (Only q w W5) := Lib.hid (by rw [hW5]; exact HX4.out.setCell (.inr (by simp <;> omega)) _)
  have HW5 := Lib.hid hW5
  clear hW5
  have HRI : Hid (∀ w, Calls Tryz.prog 61 #[.agg #[.int .u8 (k : Nat), .int .i64 0, .int .u64 0, .int .u64 0, .string ⟨u.toArray⟩]] w fun e w' => e = .returned (.int .i64 (E : Nat)) ∧ Ext w w') := Lib.hid (by rw [HEE.out]; exact rright_any ⟨k, 0, 0, 0, u⟩)
  go_wp2_with (first
    | (refine wpList_load_row rfl _ _ rfl (w.heap.size + 1) rfl _ _ _ _ HR5.out Tryz.underlying74 rfl info54 ?_)
    | (rw [← HW5.out]; refine wpList_load_row rfl _ _ rfl (w.heap.size + 1) rfl _ _ _ _ HR5.out Tryz.underlying74 rfl info54 ?_)
    | (go_at_call 61; refine (HRI.out _).mono ?_))
  rintro e WR ⟨rfl, hx⟩
  have HXR : Hid (Only q w WR) := Lib.hid (HX5.out.trans hx.ch); have HIR := Lib.hid (HI5.out.ext hx)
  have HZR := Lib.hid (heap_of_ext hx HZ5.out); have HRR := Lib.hid (heap_of_ext hx HR5.out)
  clear hx
  by_cases he : E = 0
  · have hE : (((E : Nat) : Int) != 0) = false := by simp [he]
    have HE0 := Lib.hid he
    clear he
    obtain ⟨bs', a', ao', cap', _, _, hc2, _⟩ := HIR.out.cells
    by_cases hb : (s1).2 = 0
    · have hb2 : ((s1).2 != 0) = false := by simp [hb]
      have HB := Lib.hid hb
      clear hb
      go_wp2_with (first
        | (refine wpList_load_row rfl _ _ rfl (w.heap.size + 1) rfl _ _ _ _ HRR.out Tryz.underlying74 rfl info54 ?_)
        | (refine wpList_store_rowTo rfl _ _ _ rfl rfl w.heap.size #[.int .u8 (k : Nat), .int .i64 0, .int .u64 0, .int .u64 0, .string ⟨u.toArray⟩] rfl rfl _ _ HZR.out info54 rfl (rrow_one _ _ _ _ _) ?_))
      refine bodyPost_ret (results_cell_row rfl _ _ w.heap.size _ #[.int .u8 (k : Nat), .int .i64 0, .int .u64 0, .int .u64 0, .string ⟨u.toArray⟩] _ _ rfl (setRow_heap _ _ _ _ _ _ HZR.out) Tryz.underlying74 rfl info54) rfl ?_
      exact HPV.out HE0.out HB.out _ (HXR.out.setRow (.inr (Nat.le_refl _)) _) (HIR.out.aboveT ((Ch.refl _ _).setRow (.inl (by have := HQL.out; omega)) _))
    · have hb2 : ((s1).2 != 0) = true := by simpa using hb
      have HB := Lib.hid hb
      clear hb
      go_wp2_with (first
        | (refine wpList_store_rowTo rfl _ _ _ rfl rfl w.heap.size #[.int .u8 0, .int .i64 0, .int .u64 0, .int .u64 0, .string ⟨#[]⟩] rfl rfl _ _ HZR.out info54 rfl (rrow_one _ _ _ _ _) ?_))
      refine bodyPost_ret (results_cell_row rfl _ _ w.heap.size _ #[.int .u8 0, .int .i64 0, .int .u64 0, .int .u64 0, .string ⟨#[]⟩] _ _ rfl (setRow_heap _ _ _ _ _ _ HZR.out) Tryz.underlying74 rfl info54) rfl ?_
      exact HPZ.out (.inl ⟨HE0.out, HB.out⟩) _ (HXR.out.setRow (.inr (Nat.le_refl _)) _) (by rw [HF0.out HE0.out]; exact HIR.out.aboveT ((Ch.refl _ _).setRow (.inl (by have := HQL.out; omega)) _))
  · have hE : (((E : Nat) : Int) != 0) = true := by simp; omega
    have HGU := Lib.hid (fun w h => giveUp_any q (s1) (E : Nat) w h)
    have HE0 := Lib.hid he
    clear he
    unfold QPtr at HGU
    go_wp2_with (go_at_call 32; refine (HGU.out _ HIR.out).mono ?_)
    rintro e WG ⟨rfl, k1, k2⟩
    have HXG : Hid (Only q w WG) := Lib.hid (HXR.out.trans k1); have HIG := Lib.hid k2
    have HZG := Lib.hid (heap_of_only k1 (by have := HQL.out; omega) HZR.out)
    have hb2 : ((failR (s1) (E : Nat)).2 != 0) = true := by simpa using failR_ne _ _ (by have := HE0.out; omega)
    obtain ⟨bs', a', ao', cap', _, _, hc2, _⟩ := HIG.out.cells
    clear k1 k2
    go_wp2_with (first
      | (refine wpList_store_rowTo rfl _ _ _ rfl rfl w.heap.size #[.int .u8 0, .int .i64 0, .int .u64 0, .int .u64 0, .string ⟨#[]⟩] rfl rfl _ _ HZG.out info54 rfl (rrow_one _ _ _ _ _) ?_))
    refine bodyPost_ret (results_cell_row rfl _ _ w.heap.size _ #[.int .u8 0, .int .i64 0, .int .u64 0, .int .u64 0, .string ⟨#[]⟩] _ _ rfl (setRow_heap _ _ _ _ _ _ HZG.out) Tryz.underlying74 rfl info54) rfl ?_
    exact HPZ.out (.inr HE0.out) _ (HXG.out.setRow (.inr (Nat.le_refl _)) _) (HIG.out.aboveT ((Ch.refl _ _).setRow (.inl (by have := HQL.out; omega)) _))
set_option maxRecDepth 20000 in
set_option maxHeartbeats 3000000 in
theorem qtake_6v1 (q : Nat) (s : RS) (ver k : Nat) (w : World) (h : IsQ w q s) (hk : k = 6) (hv : ver = 1) :
    Calls Tryz.prog 85 #[QPtr q, .int .u8 (k : Nat), .int .u8 (ver : Nat)] w (TqPost q (vTake ver k s).1 (vTake ver k s).2 w) := by
  have HQL := Lib.hid h.lt
  have hg6 : ((w.alloc (.cells #[.int .u8 0, .int .i64 0, .int .u64 0, .int .u64 0, .string ⟨#[]⟩] 74)).alloc (.cells #[.int .u8 0, .int .i64 0, .int .u64 0, .int .u64 0, .string ⟨#[]⟩] 74)).heap[w.heap.size]? = _ := heap_alloc2_old w _ _
  have hq : ((w.alloc (.cells #[.int .u8 0, .int .i64 0, .int .u64 0, .int .u64 0, .string ⟨#[]⟩] 74)).alloc (.cells #[.int .u8 0, .int .i64 0, .int .u64 0, .int .u64 0, .string ⟨#[]⟩] 74)).heap[(w.heap.size + 1)]? = _ := heap_alloc2_new w _ _
  have HQ := Lib.hid hq
  obtain ⟨W3, hW3⟩ : ∃ W3, W3 = ((w.alloc (.cells #[.int .u8 0, .int .i64 0, .int .u64 0, .int .u64 0, .string ⟨#[]⟩] 74)).alloc (.cells #[.int .u8 0, .int .i64 0, .int .u64 0, .int .u64 0, .string ⟨#[]⟩] 74)).setRow (w.heap.size + 1) #[.int .u8 (k : Nat), .int .i64 0, .int .u64 0, .int .u64 0, .string ⟨#[]⟩] := ⟨_, rfl⟩
  have hx3 : Ext w W3 := by rw [hW3]; exact (((Ch.refl _ _).alloc _).alloc _).setRow (.inr (by omega)) _
  have HZ3 : Hid (W3.heap[w.heap.size]? = some (.cells #[.int .u8 0, .int .i64 0, .int .u64 0, .int .u64 0, .string ⟨#[]⟩] 74 (0, 0))) := Lib.hid (by rw [hW3, setRow_other _ _ _ _ (by omega)]; exact hg6)
  have HR3 : Hid (W3.heap[(w.heap.size + 1)]? = some (.cells #[.int .u8 (k : Nat), .int .i64 0, .int .u64 0, .int .u64 0, .string ⟨#[]⟩] 74 (0, 0))) := Lib.hid (by rw [hW3]; exact setRow_heap _ _ _ _ _ _ hq)
  have HX3 : Hid (Only q w W3) := Lib.hid hx3.ch
  have HI3 := Lib.hid (h.ext hx3)
  have HW3 := Lib.hid hW3
  clear hq hx3 hg6 hW3 h
  have hraw : rawR ver k s = (⟨k, 0, 0, 0, (textR 2048 s).1⟩, (textR 2048 s).2) := by unfold rawR; rw [if_neg (by omega)]; rw [if_neg (by omega)]; rw [if_neg (by omega)]; rw [if_neg (by omega)]; rw [if_pos (by omega)]
  obtain ⟨E, hEE⟩ : ∃ E, E = vErr ⟨k, 0, 0, 0, (textR 2048 s).1⟩ := ⟨_, rfl⟩
  have hvt : vTake ver k s = (if (failR ((textR 2048 s).2) (E : Nat)).2 ≠ 0 then .zero else ⟨k, 0, 0, 0, (textR 2048 s).1⟩, failR ((textR 2048 s).2) (E : Nat)) := by
    unfold vTake
    rw [if_neg (by omega), hraw]
    simp only
    rw [← hEE]
    split <;> rfl
  rw [hvt]
  obtain ⟨PO, hPO⟩ : ∃ PO, PO = TqPost q (if (failR ((textR 2048 s).2) (E : Nat)).2 ≠ 0 then Val.zero else ⟨k, 0, 0, 0, (textR 2048 s).1⟩) (failR ((textR 2048 s).2) (E : Nat)) w := ⟨_, rfl⟩
  have HPZ : Hid (((E = 0 ∧ ((textR 2048 s).2).2 ≠ 0) ∨ E ≠ 0) → ∀ w', Only q w w' → IsQ w' q (failR ((textR 2048 s).2) (E : Nat)) → PO (.returned (rv Val.zero)) w') := Lib.hid fun h1 w' h2 h3 => by
    rw [hPO]
    refine ⟨?_, h2, h3⟩
    rw [if_pos]
    rcases h1 with ⟨h1, h4⟩ | h1
    · rw [h1, show (((0 : Nat) : Int)) = 0 by rfl, failR_zero]; exact h4
    · exact failR_ne _ _ (by omega)
  have HPV : Hid (E = 0 → ((textR 2048 s).2).2 = 0 → ∀ w', Only q w w' → IsQ w' q ((textR 2048 s).2) → PO (.returned (rv ⟨k, 0, 0, 0, (textR 2048 s).1⟩)) w') := Lib.hid fun h1 h4 w' h2 h3 => by
    have hf : failR ((textR 2048 s).2) (E : Nat) = (textR 2048 s).2 := by rw [h1]; exact failR_zero _
    rw [hPO, hf]
    refine ⟨?_, h2, h3⟩
    rw [if_neg (by rw [h4]; decide)]
  have HF0 : Hid (E = 0 → failR ((textR 2048 s).2) (E : Nat) = (textR 2048 s).2) := Lib.hid fun h1 => by rw [h1]; exact failR_zero _
  rw [← hPO]
  have HEE := Lib.hid hEE
  clear hraw hvt hPO hEE
  have hc := fun w h => qtext_any q s 2048 w h (by omega)
  rw [show (2048 : Int).toNat = 2048 by rfl] at hc
  unfold strV at hc
  have HC := Lib.hid hc
  clear hc
  generalize (textR 2048 s).1 = u at *
  generalize (textR 2048 s).2 = s1 at *
  have e1 : (((k : Nat) : Int) == 1) = false := by rw [hk]; rfl
  have e2 : (((k : Nat) : Int) == 2) = false := by rw [hk]; rfl
  have e3 : (((k : Nat) : Int) == 3) = false := by rw [hk]; rfl
  have e4 : (((k : Nat) : Int) == 4) = false := by rw [hk]; rfl
  have e5 : (((k : Nat) : Int) == 5) = false := by rw [hk]; rfl
  have e6 : (((k : Nat) : Int) == 6) = true := by rw [hk]; rfl
  clear hk
  subst hv
  unfold QPtr at *
  go_enter Tryz.func85, Tryz.ntmps85
  go_wp2_with (first
    | (refine wpList_store_rowTo rfl _ _ _ rfl rfl (w.heap.size + 1) #[.int .u8 (k : Nat), .int .i64 0, .int .u64 0, .int .u64 0, .string ⟨#[]⟩] rfl rfl _ _ HQ.out info54 rfl (rrow_one _ _ _ _ _) ?_; rw [← HW3.out])
    | (go_at_call 86; refine (HC.out _ HI3.out).mono ?_))
  rintro e W4 ⟨rfl, k1, k2⟩
  have HX4 : Hid (Only q w W4) := Lib.hid (HX3.out.trans k1); have HI4 := Lib.hid k2
  have HZ4 : Hid (W4.heap[w.heap.size]? = some (.cells #[.int .u8 0, .int .i64 0, .int .u64 0, .int .u64 0, .string ⟨#[]⟩] 74 (0, 0))) := Lib.hid (heap_of_only k1 (by have := HQL.out; omega) HZ3.out)
  have HR4 : Hid (W4.heap[(w.heap.size + 1)]? = some (.cells #[.int .u8 (k : Nat), .int .i64 0, .int .u64 0, .int .u64 0, .string ⟨#[]⟩] 74 (0, 0))) := Lib.hid (heap_of_only k1 (by have := HQL.out; omega) HR3.out)
  clear k1 k2
  have d5 : W4.cell? ⟨(w.heap.size + 1), 4, none⟩ = some (.string ⟨#[]⟩) := by rw [cell_of_row _ _ _ _ _ _ HR4.out]; rfl
  have f5 := frozen_of_row W4 (w.heap.size + 1) 4 _ _ HR4.out
  obtain ⟨W5, hW5⟩ : ∃ Wz, Wz = W4.setCell ⟨(w.heap.size + 1), 4, none⟩ (.string ⟨u.toArray⟩) := ⟨_, rfl⟩
  have HR5 : Hid (W5.heap[(w.heap.size + 1)]? = some (.cells #[.int .u8 (k : Nat), .int .i64 0, .int .u64 0, .int .u64 0, .string ⟨u.toArray⟩] 74 (0, 0))) := Lib.hid (by rw [hW5]; exact heap_setCell_same W4 (w.heap.size + 1) 4 _ _ _ HR4.out)
  have HZ5 : Hid (W5.heap[w.heap.size]? = some (.cells #[.int .u8 0, .int .i64 0, .int .u64 0, .int .u64 0, .string ⟨#[]⟩] 74 (0, 0))) := Lib.hid (by rw [hW5, heap_setCell_other W4 ⟨(w.heap.size + 1), 4, none⟩ w.heap.size (.string ⟨u.toArray⟩) (by simp)]; exact HZ4.out)
  have HI5 : Hid (IsQ W5 q s1) := Lib.hid (by rw [hW5]; exact HI4.out.setElse d5 (noByte_string _) (by have := HQL.out; simp <;> omega) _)
  have HX5 : Hid (Only q w W5) := Lib.hid (by rw [hW5]; exact HX4.out.setCell (.inr (by simp <;> omega)) _)
  have HW5 := Lib.hid hW5
  clear hW5
  have HRI : Hid (∀ w, Calls Tryz.prog 61 #[.agg #[.int .u8 (k : Nat), .int .i64 0, .int .u64 0, .int .u64 0, .string ⟨u.toArray⟩]] w fun e w' => e = .returned (.int .i64 (E : Nat)) ∧ Ext w w') := Lib.hid (by rw [HEE.out]; exact rright_any ⟨k, 0, 0, 0, u⟩)
  go_wp2_with (first
    | (refine wpList_load_row rfl _ _ rfl (w.heap.size + 1) rfl _ _ _ _ HR5.out Tryz.underlying74 rfl info54 ?_)
    | (rw [← HW5.out]; refine wpList_load_row rfl _ _ rfl (w.heap.size + 1) rfl _ _ _ _ HR5.out Tryz.underlying74 rfl info54 ?_)
    | (go_at_call 61; refine (HRI.out _).mono ?_))
  rintro e WR ⟨rfl, hx⟩
  have HXR : Hid (Only q w WR) := Lib.hid (HX5.out.trans hx.ch); have HIR := Lib.hid (HI5.out.ext hx)
  have HZR := Lib.hid (heap_of_ext hx HZ5.out); have HRR := Lib.hid (heap_of_ext hx HR5.out)
  clear hx
  by_cases he : E = 0
  · have hE : (((E : Nat) : Int) != 0) = false := by simp [he]
    have HE0 := Lib.hid he
    clear he
    obtain ⟨bs', a', ao', cap', _, _, hc2, _⟩ := HIR.out.cells
    by_cases hb : (s1).2 = 0
    · have hb2 : ((s1).2 != 0) = false := by simp [hb]
      have HB := Lib.hid hb
      clear hb
      go_wp2_with (first
        | (refine wpList_load_row rfl _ _ rfl (w.heap.size + 1) rfl _ _ _ _ HRR.out Tryz.underlying74 rfl info54 ?_)
        | (refine wpList_store_rowTo rfl _ _ _ rfl rfl w.heap.size #[.int .u8 (k : Nat), .int .i64 0, .int .u64 0, .int .u64 0, .string ⟨u.toArray⟩] rfl rfl _ _ HZR.out info54 rfl (rrow_one _ _ _ _ _) ?_))
      refine bodyPost_ret (results_cell_row rfl _ _ w.heap.size _ #[.int .u8 (k : Nat), .int .i64 0, .int .u64 0, .int .u64 0, .string ⟨u.toArray⟩] _ _ rfl (setRow_heap _ _ _ _ _ _ HZR.out) Tryz.underlying74 rfl info54) rfl ?_
      exact HPV.out HE0.out HB.out _ (HXR.out.setRow (.inr (Nat.le_refl _)) _) (HIR.out.aboveT ((Ch.refl _ _).setRow (.inl (by have := HQL.out; omega)) _))
    · have hb2 : ((s1).2 != 0) = true := by simpa using hb
      have HB := Lib.hid hb
      clear hb
      go_wp2_with (first
        | (refine wpList_store_rowTo rfl _ _ _ rfl rfl w.heap.size #[.int .u8 0, .int .i64 0, .int .u64 0, .int .u64 0, .string ⟨#[]⟩] rfl rfl _ _ HZR.out info54 rfl (rrow_one _ _ _ _ _) ?_))
      refine bodyPost_ret (results_cell_row rfl _ _ w.heap.size _ #[.int .u8 0, .int .i64 0, .int .u64 0, .int .u64 0, .string ⟨#[]⟩] _ _ rfl (setRow_heap _ _ _ _ _ _ HZR.out) Tryz.underlying74 rfl info54) rfl ?_
      exact HPZ.out (.inl ⟨HE0.out, HB.out⟩) _ (HXR.out.setRow (.inr (Nat.le_refl _)) _) (by rw [HF0.out HE0.out]; exact HIR.out.aboveT ((Ch.refl _ _).setRow (.inl (by have := HQL.out; omega)) _))
  · have hE : (((E : Nat) : Int) != 0) = true := by simp; omega
    have HGU := Lib.hid (fun w h => giveUp_any q (s1) (E : Nat) w h)
    have HE0 := Lib.hid he
    clear he
    unfold QPtr at HGU
    go_wp2_with (go_at_call 32; refine (HGU.out _ HIR.out).mono ?_)
    rintro e WG ⟨rfl, k1, k2⟩
    have HXG : Hid (Only q w WG) := Lib.hid (HXR.out.trans k1); have HIG := Lib.hid k2
    have HZG := Lib.hid (heap_of_only k1 (by have := HQL.out; omega) HZR.out)
    have hb2 : ((failR (s1) (E : Nat)).2 != 0) = true := by simpa using failR_ne _ _ (by have := HE0.out; omega)
    obtain ⟨bs', a', ao', cap', _, _, hc2, _⟩ := HIG.out.cells
    clear k1 k2
    go_wp2_with (first
      | (refine wpList_store_rowTo rfl _ _ _ rfl rfl w.heap.size #[.int .u8 0, .int .i64 0, .int .u64 0, .int .u64 0, .string ⟨#[]⟩] rfl rfl _ _ HZG.out info54 rfl (rrow_one _ _ _ _ _) ?_))
    refine bodyPost_ret (results_cell_row rfl _ _ w.heap.size _ #[.int .u8 0, .int .i64 0, .int .u64 0, .int .u64 0, .string ⟨#[]⟩] _ _ rfl (setRow_heap _ _ _ _ _ _ HZG.out) Tryz.underlying74 rfl info54) rfl ?_
    exact HPZ.out (.inr HE0.out) _ (HXG.out.setRow (.inr (Nat.le_refl _)) _) (HIG.out.aboveT ((Ch.refl _ _).setRow (.inl (by have := HQL.out; omega)) _))
set_option maxRecDepth 20000 in
set_option maxHeartbeats 3000000 in
theorem qtake_6v2 (q : Nat) (s : RS) (ver k : Nat) (w : World) (h : IsQ w q s) (hk : k = 6) (hv : ver = 2) :
    Calls Tryz.prog 85 #[QPtr q, .int .u8 (k : Nat), .int .u8 (ver : Nat)] w (TqPost q (vTake ver k s).1 (vTake ver k s).2 w) := by
  have HQL := Lib.hid h.lt
  have hg6 : ((w.alloc (.cells #[.int .u8 0, .int .i64 0, .int .u64 0, .int .u64 0, .string ⟨#[]⟩] 74)).alloc (.cells #[.int .u8 0, .int .i64 0, .int .u64 0, .int .u64 0, .string ⟨#[]⟩] 74)).heap[w.heap.size]? = _ := heap_alloc2_old w _ _
  have hq : ((w.alloc (.cells #[.int .u8 0, .int .i64 0, .int .u64 0, .int .u64 0, .string ⟨#[]⟩] 74)).alloc (.cells #[.int .u8 0, .int .i64 0, .int .u64 0, .int .u64 0, .string ⟨#[]⟩] 74)).heap[(w.heap.size + 1)]? = _ := heap_alloc2_new w _ _
  have HQ := Lib.hid hq
  obtain ⟨W3, hW3⟩ : ∃ W3, W3 = ((w.alloc (.cells #[.int .u8 0, .int .i64 0, .int .u64 0, .int .u64 0, .string ⟨#[]⟩] 74)).alloc (.cells #[.int .u8 0, .int .i64 0, .int .u64 0, .int .u64 0, .string ⟨#[]⟩] 74)).setRow (w.heap.size + 1) #[.int .u8 (k : Nat), .int .i64 0, .int .u64 0, .int .u64 0, .string ⟨#[]⟩] := ⟨_, rfl⟩
  have hx3 : Ext w W3 := by rw [hW3]; exact (((Ch.refl _ _).alloc _).alloc _).setRow (.inr (by omega)) _
  have HZ3 : Hid (W3.heap[w.heap.size]? = some (.cells #[.int .u8 0, .int .i64 0, .int .u64 0, .int .u64 0, .string ⟨#[]⟩] 74 (0, 0))) := Lib.hid (by rw [hW3, setRow_other _ _ _ _ (by omega)]; exact hg6)
  have HR3 : Hid (W3.heap[(w.heap.size + 1)]? = some (.cells #[.int .u8 (k : Nat), .int .i64 0, .int .u64 0, .int .u64 0, .string ⟨#[]⟩] 74 (0, 0))) := Lib.hid (by rw [hW3]; exact setRow_heap _ _ _ _ _ _ hq)
  have HX3 : Hid (Only q w W3) := Lib.hid hx3.ch
  have HI3 := Lib.hid (h.ext hx3)
  have HW3 := Lib.hid hW3
  clear hq hx3 hg6 hW3 h
  have hraw : rawR ver k s = (⟨k, 0, 0, 0, (textR 2048 s).1⟩, (textR 2048 s).2) := by unfold rawR; rw [if_neg (by omega)]; rw [if_neg (by omega)]; rw [if_neg (by omega)]; rw [if_neg (by omega)]; rw [if_pos (by omega)]
  obtain ⟨E, hEE⟩ : ∃ E, E = vErr ⟨k, 0, 0, 0, (textR 2048 s).1⟩ := ⟨_, rfl⟩
  have hvt : vTake ver k s = (if (failR ((textR 2048 s).2) (E : Nat)).2 ≠ 0 then .zero else ⟨k, 0, 0, 0, (textR 2048 s).1⟩, failR ((textR 2048 s).2) (E : Nat)) := by
    unfold vTake
    rw [if_neg (by omega), hraw]
    simp only
    rw [← hEE]
    split <;> rfl
  rw [hvt]
  obtain ⟨PO, hPO⟩ : ∃ PO, PO = TqPost q (if (failR ((textR 2048 s).2) (E : Nat)).2 ≠ 0 then Val.zero else ⟨k, 0, 0, 0, (textR 2048 s).1⟩) (failR ((textR 2048 s).2) (E : Nat)) w := ⟨_, rfl⟩
  have HPZ : Hid (((E = 0 ∧ ((textR 2048 s).2).2 ≠ 0) ∨ E ≠ 0) → ∀ w', Only q w w' → IsQ w' q (failR ((textR 2048 s).2) (E : Nat)) → PO (.returned (rv Val.zero)) w') := Lib.hid fun h1 w' h2 h3 => by
    rw [hPO]
    refine ⟨?_, h2, h3⟩
    rw [if_pos]
    rcases h1 with ⟨h1, h4⟩ | h1
    · rw [h1, show (((0 : Nat) : Int)) = 0 by rfl, failR_zero]; exact h4
    · exact failR_ne _ _ (by omega)
  have HPV : Hid (E = 0 → ((textR 2048 s).2).2 = 0 → ∀ w', Only q w w' → IsQ w' q ((textR 2048 s).2) → PO (.returned (rv ⟨k, 0, 0, 0, (textR 2048 s).1⟩)) w') := Lib.hid fun h1 h4 w' h2 h3 => by
    have hf : failR ((textR 2048 s).2) (E : Nat) = (textR 2048 s).2 := by rw [h1]; exact failR_zero _
    rw [hPO, hf]
    refine ⟨?_, h2, h3⟩
    rw [if_neg (by rw [h4]; decide)]
  have HF0 : Hid (E = 0 → failR ((textR 2048 s).2) (E : Nat) = (textR 2048 s).2) := Lib.hid fun h1 => by rw [h1]; exact failR_zero _
  rw [← hPO]
  have HEE := Lib.hid hEE
  clear hraw hvt hPO hEE
  have hc := fun w h => qtext_any q s 2048 w h (by omega)
  rw [show (2048 : Int).toNat = 2048 by rfl] at hc
  unfold strV at hc
  have HC := Lib.hid hc
  clear hc
  generalize (textR 2048 s).1 = u at *
  generalize (textR 2048 s).2 = s1 at *
  have e1 : (((k : Nat) : Int) == 1) = false := by rw [hk]; rfl
  have e2 : (((k : Nat) : Int) == 2) = false := by rw [hk]; rfl
  have e3 : (((k : Nat) : Int) == 3) = false := by rw [hk]; rfl
  have e4 : (((k : Nat) : Int) == 4) = false := by rw [hk]; rfl
  have e5 : (((k : Nat) : Int) == 5) = false := by rw [hk]; rfl
  have e6 : (((k : Nat) : Int) == 6) = true := by rw [hk]; rfl
  clear hk
  subst hv
  unfold QPtr at *
  go_enter Tryz.func85, Tryz.ntmps85
  go_wp2_with (first
    | (refine wpList_store_rowTo rfl _ _ _ rfl rfl (w.heap.size + 1) #[.int .u8 (k : Nat), .int .i64 0, .int .u64 0, .int .u64 0, .string ⟨#[]⟩] rfl rfl _ _ HQ.out info54 rfl (rrow_one _ _ _ _ _) ?_; rw [← HW3.out])
    | (go_at_call 86; refine (HC.out _ HI3.out).mono ?_))
  rintro e W4 ⟨rfl, k1, k2⟩
  have HX4 : Hid (Only q w W4) := Lib.hid (HX3.out.trans k1); have HI4 := Lib.hid k2
  have HZ4 : Hid (W4.heap[w.heap.size]? = some (.cells #[.int .u8 0, .int .i64 0, .int .u64 0, .int .u64 0, .string ⟨#[]⟩] 74 (0, 0))) := Lib.hid (heap_of_only k1 (by have := HQL.out; omega) HZ3.out)
  have HR4 : Hid (W4.heap[(w.heap.size + 1)]? = some (.cells #[.int .u8 (k : Nat), .int .i64 0, .int .u64 0, .int .u64 0, .string ⟨#[]⟩] 74 (0, 0))) := Lib.hid (heap_of_only k1 (by have := HQL.out; omega) HR3.out)
  clear k1 k2
  have d5 : W4.cell? ⟨(w.heap.size + 1), 4, none⟩ = some (.string ⟨#[]⟩) := by rw [cell_of_row _ _ _ _ _ _ HR4.out]; rfl
  have f5 := frozen_of_row W4 (w.heap.size + 1) 4 _ _ HR4.out
  obtain ⟨W5, hW5⟩ : ∃ Wz, Wz = W4.setCell ⟨(w.heap.size + 1), 4, none⟩ (.string ⟨u.toArray⟩) := ⟨_, rfl⟩
  have HR5 : Hid (W5.heap[(w.heap.size + 1)]? = some (.cells #[.int .u8 (k : Nat), .int .i64 0, .int .u64 0, .int .u64 0, .string ⟨u.toArray⟩] 74 (0, 0))) := Lib.hid (by rw [hW5]; exact heap_setCell_same W4 (w.heap.size + 1) 4 _ _ _ HR4.out)
  have HZ5 : Hid (W5.heap[w.heap.size]? = some (.cells #[.int .u8 0, .int .i64 0, .int .u64 0, .int .u64 0, .string ⟨#[]⟩] 74 (0, 0))) := Lib.hid (by rw [hW5, heap_setCell_other W4 ⟨(w.heap.size + 1), 4, none⟩ w.heap.size (.string ⟨u.toArray⟩) (by simp)]; exact HZ4.out)
  have HI5 : Hid (IsQ W5 q s1) := Lib.hid (by rw [hW5]; exact HI4.out.setElse d5 (noByte_string _) (by have := HQL.out; simp <;> omega) _)
  have HX5 : Hid (Only q w W5) := Lib.hid (by rw [hW5]; exact HX4.out.setCell (.inr (by simp <;> omega)) _)
  have HW5 := Lib.hid hW5
  clear hW5
  have HRI : Hid (∀ w, Calls Tryz.prog 61 #[.agg #[.int .u8 (k : Nat), .int .i64 0, .int .u64 0, .int .u64 0, .string ⟨u.toArray⟩]] w fun e w' => e = .returned (.int .i64 (E : Nat)) ∧ Ext w w') := Lib.hid (by rw [HEE.out]; exact rright_any ⟨k, 0, 0, 0, u⟩)
  go_wp2_with (first
    | (refine wpList_load_row rfl _ _ rfl (w.heap.size + 1) rfl _ _ _ _ HR5.out Tryz.underlying74 rfl info54 ?_)
    | (rw [← HW5.out]; refine wpList_load_row rfl _ _ rfl (w.heap.size + 1) rfl _ _ _ _ HR5.out Tryz.underlying74 rfl info54 ?_)
    | (go_at_call 61; refine (HRI.out _).mono ?_))
  rintro e WR ⟨rfl, hx⟩
  have HXR : Hid (Only q w WR) := Lib.hid (HX5.out.trans hx.ch); have HIR := Lib.hid (HI5.out.ext hx)
  have HZR := Lib.hid (heap_of_ext hx HZ5.out); have HRR := Lib.hid (heap_of_ext hx HR5.out)
  clear hx
  by_cases he : E = 0
  · have hE : (((E : Nat) : Int) != 0) = false := by simp [he]
    have HE0 := Lib.hid he
    clear he
    obtain ⟨bs', a', ao', cap', _, _, hc2, _⟩ := HIR.out.cells
    by_cases hb : (s1).2 = 0
    · have hb2 : ((s1).2 != 0) = false := by simp [hb]
      have HB := Lib.hid hb
      clear hb
      go_wp2_with (first
        | (refine wpList_load_row rfl _ _ rfl (w.heap.size + 1) rfl _ _ _ _ HRR.out Tryz.underlying74 rfl info54 ?_)
        | (refine wpList_store_rowTo rfl _ _ _ rfl rfl w.heap.size #[.int .u8 (k : Nat), .int .i64 0, .int .u64 0, .int .u64 0, .string ⟨u.toArray⟩] rfl rfl _ _ HZR.out info54 rfl (rrow_one _ _ _ _ _) ?_))
      refine bodyPost_ret (results_cell_row rfl _ _ w.heap.size _ #[.int .u8 (k : Nat), .int .i64 0, .int .u64 0, .int .u64 0, .string ⟨u.toArray⟩] _ _ rfl (setRow_heap _ _ _ _ _ _ HZR.out) Tryz.underlying74 rfl info54) rfl ?_
      exact HPV.out HE0.out HB.out _ (HXR.out.setRow (.inr (Nat.le_refl _)) _) (HIR.out.aboveT ((Ch.refl _ _).setRow (.inl (by have := HQL.out; omega)) _))
    · have hb2 : ((s1).2 != 0) = true := by simpa using hb
      have HB := Lib.hid hb
      clear hb
      go_wp2_with (first
        | (refine wpList_store_rowTo rfl _ _ _ rfl rfl w.heap.size #[.int .u8 0, .int .i64 0, .int .u64 0, .int .u64 0, .string ⟨#[]⟩] rfl rfl _ _ HZR.out info54 rfl (rrow_one _ _ _ _ _) ?_))
      refine bodyPost_ret (results_cell_row rfl _ _ w.heap.size _ #[.int .u8 0, .int .i64 0, .int .u64 0, .int .u64 0, .string ⟨#[]⟩] _ _ rfl (setRow_heap _ _ _ _ _ _ HZR.out) Tryz.underlying74 rfl info54) rfl ?_
      exact HPZ.out (.inl ⟨HE0.out, HB.out⟩) _ (HXR.out.setRow (.inr (Nat.le_refl _)) _) (by rw [HF0.out HE0.out]; exact HIR.out.aboveT ((Ch.refl _ _).setRow (.inl (by have := HQL.out; omega)) _))
  · have hE : (((E : Nat) : Int) != 0) = true := by simp; omega
    have HGU := Lib.hid (fun w h => giveUp_any q (s1) (E : Nat) w h)
    have HE0 := Lib.hid he
    clear he
    unfold QPtr at HGU
    go_wp2_with (go_at_call 32; refine (HGU.out _ HIR.out).mono ?_)
    rintro e WG ⟨rfl, k1, k2⟩
    have HXG : Hid (Only q w WG) := Lib.hid (HXR.out.trans k1); have HIG := Lib.hid k2
    have HZG := Lib.hid (heap_of_only k1 (by have := HQL.out; omega) HZR.out)
    have hb2 : ((failR (s1) (E : Nat)).2 != 0) = true := by simpa using failR_ne _ _ (by have := HE0.out; omega)
    obtain ⟨bs', a', ao', cap', _, _, hc2, _⟩ := HIG.out.cells
    clear k1 k2
    go_wp2_with (first
      | (refine wpList_store_rowTo rfl _ _ _ rfl rfl w.heap.size #[.int .u8 0, .int .i64 0, .int .u64 0, .int .u64 0, .string ⟨#[]⟩] rfl rfl _ _ HZG.out info54 rfl (rrow_one _ _ _ _ _) ?_))
    refine bodyPost_ret (results_cell_row rfl _ _ w.heap.size _ #[.int .u8 0, .int .i64 0, .int .u64 0, .int .u64 0, .string ⟨#[]⟩] _ _ rfl (setRow_heap _ _ _ _ _ _ HZG.out) Tryz.underlying74 rfl info54) rfl ?_
    exact HPZ.out (.inr HE0.out) _ (HXG.out.setRow (.inr (Nat.le_refl _)) _) (HIG.out.aboveT ((Ch.refl _ _).setRow (.inl (by have := HQL.out; omega)) _))
set_option maxRecDepth 20000 in
set_option maxHeartbeats 3000000 in
theorem qtake_btv1 (q : Nat) (s : RS) (ver k : Nat) (w : World) (h : IsQ w q s) (hk : k < 1 ∨ 6 < k) (hv : ver = 1) :
    Calls Tryz.prog 85 #[QPtr q, .int .u8 (k : Nat), .int .u8 (ver : Nat)] w (TqPost q (vTake ver k s).1 (vTake ver k s).2 w) := by
  have HQL := Lib.hid h.lt
  have hg6 : ((w.alloc (.cells #[.int .u8 0, .int .i64 0, .int .u64 0, .int .u64 0, .string ⟨#[]⟩] 74)).alloc (.cells #[.int .u8 0, .int .i64 0, .int .u64 0, .int .u64 0, .string ⟨#[]⟩] 74)).heap[w.heap.size]? = _ := heap_alloc2_old w _ _
  have hq : ((w.alloc (.cells #[.int .u8 0, .int .i64 0, .int .u64 0, .int .u64 0, .string ⟨#[]⟩] 74)).alloc (.cells #[.int .u8 0, .int .i64 0, .int .u64 0, .int .u64 0, .string ⟨#[]⟩] 74)).heap[(w.heap.size + 1)]? = _ := heap_alloc2_new w _ _
  have HQ := Lib.hid hq
  obtain ⟨W3, hW3⟩ : ∃ W3, W3 = ((w.alloc (.cells #[.int .u8 0, .int .i64 0, .int .u64 0, .int .u64 0, .string ⟨#[]⟩] 74)).alloc (.cells #[.int .u8 0, .int .i64 0, .int .u64 0, .int .u64 0, .string ⟨#[]⟩] 74)).setRow (w.heap.size + 1) #[.int .u8 (k : Nat), .int .i64 0, .int .u64 0, .int .u64 0, .string ⟨#[]⟩] := ⟨_, rfl⟩
  have hx3 : Ext w W3 := by rw [hW3]; exact (((Ch.refl _ _).alloc _).alloc _).setRow (.inr (by omega)) _
  have HZ3 : Hid (W3.heap[w.heap.size]? = some (.cells #[.int .u8 0, .int .i64 0, .int .u64 0, .int .u64 0, .string ⟨#[]⟩] 74 (0, 0))) := Lib.hid (by rw [hW3, setRow_other _ _ _ _ (by omega)]; exact hg6)
  have HR3 : Hid (W3.heap[(w.heap.size + 1)]? = some (.cells #[.int .u8 (k : Nat), .int .i64 0, .int .u64 0, .int .u64 0, .string ⟨#[]⟩] 74 (0, 0))) := Lib.hid (by rw [hW3]; exact setRow_heap _ _ _ _ _ _ hq)
  have HX3 : Hid (Only q w W3) := Lib.hid hx3.ch
  have HI3 := Lib.hid (h.ext hx3)
  have HW3 := Lib.hid hW3
  clear hq hx3 hg6 hW3 h
  have hraw : rawR ver k s = (⟨k, 0, 0, 0, []⟩, s) := by unfold rawR; rw [if_neg (by omega), if_neg (by omega), if_neg (by omega), if_neg (by omega), if_neg (by omega)]
  obtain ⟨E, hEE⟩ : ∃ E, E = vErr ⟨k, 0, 0, 0, []⟩ := ⟨_, rfl⟩
  have hvt : vTake ver k s = (if (failR (s) (E : Nat)).2 ≠ 0 then .zero else ⟨k, 0, 0, 0, []⟩, failR (s) (E : Nat)) := by
    unfold vTake
    rw [if_neg (by omega), hraw]
    simp only
    rw [← hEE]
    split <;> rfl
  rw [hvt]
  obtain ⟨PO, hPO⟩ : ∃ PO, PO = TqPost q (if (failR (s) (E : Nat)).2 ≠ 0 then Val.zero else ⟨k, 0, 0, 0, []⟩) (failR (s) (E : Nat)) w := ⟨_, rfl⟩
  have HPZ : Hid (((E = 0 ∧ (s).2 ≠ 0) ∨ E ≠ 0) → ∀ w', Only q w w' → IsQ w' q (failR (s) (E : Nat)) → PO (.returned (rv Val.zero)) w') := Lib.hid fun h1 w' h2 h3 => by
    rw [hPO]
    refine ⟨?_, h2, h3⟩
    rw [if_pos]
    rcases h1 with ⟨h1, h4⟩ | h1
    · rw [h1, show (((0 : Nat) : Int)) = 0 by rfl, failR_zero]; exact h4
    · exact failR_ne _ _ (by omega)
  have HPV : Hid (E = 0 → (s).2 = 0 → ∀ w', Only q w w' → IsQ w' q (s) → PO (.returned (rv ⟨k, 0, 0, 0, []⟩)) w') := Lib.hid fun h1 h4 w' h2 h3 => by
    have hf : failR (s) (E : Nat) = s := by rw [h1]; exact failR_zero _
    rw [hPO, hf]
    refine ⟨?_, h2, h3⟩
    rw [if_neg (by rw [h4]; decide)]
  have HF0 : Hid (E = 0 → failR (s) (E : Nat) = s) := Lib.hid fun h1 => by rw [h1]; exact failR_zero _
  rw [← hPO]
  have HEE := Lib.hid hEE
  clear hraw hvt hPO hEE
  have e1 : (((k : Nat) : Int) == 1) = false := by simp; omega
  have e2 : (((k : Nat) : Int) == 2) = false := by simp; omega
  have e3 : (((k : Nat) : Int) == 3) = false := by simp; omega
  have e4 : (((k : Nat) : Int) == 4) = false := by simp; omega
  have e5 : (((k : Nat) : Int) == 5) = false := by simp; omega
  have e6 : (((k : Nat) : Int) == 6) = false := by simp; omega
  clear hk
  subst hv
  unfold QPtr at *
  go_enter Tryz.func85, Tryz.ntmps85
  have HRI : Hid (∀ w, Calls Tryz.prog 61 #[.agg #[.int .u8 (k : Nat), .int .i64 0, .int .u64 0, .int .u64 0, .string ⟨#[]⟩]] w fun e w' => e = .returned (.int .i64 (E : Nat)) ∧ Ext w w') := Lib.hid (by rw [HEE.out]; exact rright_any ⟨k, 0, 0, 0, []⟩)
  go_wp2_with (first
    | (refine wpList_store_rowTo rfl _ _ _ rfl rfl (w.heap.size + 1) #[.int .u8 (k : Nat), .int .i64 0, .int .u64 0, .int .u64 0, .string ⟨#[]⟩] rfl rfl _ _ HQ.out info54 rfl (rrow_one _ _ _ _ _) ?_; rw [← HW3.out])
    | (refine wpList_load_row rfl _ _ rfl (w.heap.size + 1) rfl _ _ _ _ HR3.out Tryz.underlying74 rfl info54 ?_)
    | (refine wpList_load_row rfl _ _ rfl (w.heap.size + 1) rfl _ _ _ _ HR3.out Tryz.underlying74 rfl info54 ?_)
    | (go_at_call 61; refine (HRI.out _).mono ?_))
  rintro e WR ⟨rfl, hx⟩
  have HXR : Hid (Only q w WR) := Lib.hid (HX3.out.trans hx.ch); have HIR := Lib.hid (HI3.out.ext hx)
  have HZR := Lib.hid (heap_of_ext hx HZ3.out); have HRR := Lib.hid (heap_of_ext hx HR3.out)
  clear hx
  by_cases he : E = 0
  · have hE : (((E : Nat) : Int) != 0) = false := by simp [he]
    have HE0 := Lib.hid he
    clear he
    obtain ⟨bs', a', ao', cap', _, _, hc2, _⟩ := HIR.out.cells
    by_cases hb : (s).2 = 0
    · have hb2 : ((s).2 != 0) = false := by simp [hb]
      have HB := Lib.hid hb
      clear hb
      go_wp2_with (first
        | (refine wpList_load_row rfl _ _ rfl (w.heap.size + 1) rfl _ _ _ _ HRR.out Tryz.underlying74 rfl info54 ?_)
        | (refine wpList_store_rowTo rfl _ _ _ rfl rfl w.heap.size #[.int .u8 (k : Nat), .int .i64 0, .int .u64 0, .int .u64 0, .string ⟨#[]⟩] rfl rfl _ _ HZR.out info54 rfl (rrow_one _ _ _ _ _) ?_))
      refine bodyPost_ret (results_cell_row rfl _ _ w.heap.size _ #[.int .u8 (k : Nat), .int .i64 0, .int .u64 0, .int .u64 0, .string ⟨#[]⟩] _ _ rfl (setRow_heap _ _ _ _ _ _ HZR.out) Tryz.underlying74 rfl info54) rfl ?_
      exact HPV.out HE0.out HB.out _ (HXR.out.setRow (.inr (Nat.le_refl _)) _) (HIR.out.aboveT ((Ch.refl _ _).setRow (.inl (by have := HQL.out; omega)) _))
    · have hb2 : ((s).2 != 0) = true := by simpa using hb
      have HB := Lib.hid hb
      clear hb
      go_wp2_with (first
        | (refine wpList_store_rowTo rfl _ _ _ rfl rfl w.heap.size #[.int .u8 0, .int .i64 0, .int .u64 0, .int .u64 0, .string ⟨#[]⟩] rfl rfl _ _ HZR.out info54 rfl (rrow_one _ _ _ _ _) ?_))
      refine bodyPost_ret (results_cell_row rfl _ _ w.heap.size _ #[.int .u8 0, .int .i64 0, .int .u64 0, .int .u64 0, .string ⟨#[]⟩] _ _ rfl (setRow_heap _ _ _ _ _ _ HZR.out) Tryz.underlying74 rfl info54) rfl ?_
      exact HPZ.out (.inl ⟨HE0.out, HB.out⟩) _ (HXR.out.setRow (.inr (Nat.le_refl _)) _) (by rw [HF0.out HE0.out]; exact HIR.out.aboveT ((Ch.refl _ _).setRow (.inl (by have := HQL.out; omega)) _))
  · have hE : (((E : Nat) : Int) != 0) = true := by simp; omega
    have HGU := Lib.hid (fun w h => giveUp_any q (s) (E : Nat) w h)
    have HE0 := Lib.hid he
    clear he
    unfold QPtr at HGU
    go_wp2_with (go_at_call 32; refine (HGU.out _ HIR.out).mono ?_)
    rintro e WG ⟨rfl, k1, k2⟩
    have HXG : Hid (Only q w WG) := Lib.hid (HXR.out.trans k1); have HIG := Lib.hid k2
    have HZG := Lib.hid (heap_of_only k1 (by have := HQL.out; omega) HZR.out)
    have hb2 : ((failR (s) (E : Nat)).2 != 0) = true := by simpa using failR_ne _ _ (by have := HE0.out; omega)
    obtain ⟨bs', a', ao', cap', _, _, hc2, _⟩ := HIG.out.cells
    clear k1 k2
    go_wp2_with (first
      | (refine wpList_store_rowTo rfl _ _ _ rfl rfl w.heap.size #[.int .u8 0, .int .i64 0, .int .u64 0, .int .u64 0, .string ⟨#[]⟩] rfl rfl _ _ HZG.out info54 rfl (rrow_one _ _ _ _ _) ?_))
    refine bodyPost_ret (results_cell_row rfl _ _ w.heap.size _ #[.int .u8 0, .int .i64 0, .int .u64 0, .int .u64 0, .string ⟨#[]⟩] _ _ rfl (setRow_heap _ _ _ _ _ _ HZG.out) Tryz.underlying74 rfl info54) rfl ?_
    exact HPZ.out (.inr HE0.out) _ (HXG.out.setRow (.inr (Nat.le_refl _)) _) (HIG.out.aboveT ((Ch.refl _ _).setRow (.inl (by have := HQL.out; omega)) _))
set_option maxRecDepth 20000 in
set_option maxHeartbeats 3000000 in
theorem qtake_btv2 (q : Nat) (s : RS) (ver k : Nat) (w : World) (h : IsQ w q s) (hk : k < 1 ∨ 6 < k) (hv : ver = 2) :
    Calls Tryz.prog 85 #[QPtr q, .int .u8 (k : Nat), .int .u8 (ver : Nat)] w (TqPost q (vTake ver k s).1 (vTake ver k s).2 w) := by
  have HQL := Lib.hid h.lt
  have hg6 : ((w.alloc (.cells #[.int .u8 0, .int .i64 0, .int .u64 0, .int .u64 0, .string ⟨#[]⟩] 74)).alloc (.cells #[.int .u8 0, .int .i64 0, .int .u64 0, .int .u64 0, .string ⟨#[]⟩] 74)).heap[w.heap.size]? = _ := heap_alloc2_old w _ _
  have hq : ((w.alloc (.cells #[.int .u8 0, .int .i64 0, .int .u64 0, .int .u64 0, .string ⟨#[]⟩] 74)).alloc (.cells #[.int .u8 0, .int .i64 0, .int .u64 0, .int .u64 0, .string ⟨#[]⟩] 74)).heap[(w.heap.size + 1)]? = _ := heap_alloc2_new w _ _
  have HQ := Lib.hid hq
  obtain ⟨W3, hW3⟩ : ∃ W3, W3 = ((w.alloc (.cells #[.int .u8 0, .int .i64 0, .int .u64 0, .int .u64 0, .string ⟨#[]⟩] 74)).alloc (.cells #[.int .u8 0, .int .i64 0, .int .u64 0, .int .u64 0, .string ⟨#[]⟩] 74)).setRow (w.heap.size + 1) #[.int .u8 (k : Nat), .int .i64 0, .int .u64 0, .int .u64 0, .string ⟨#[]⟩] := ⟨_, rfl⟩
  have hx3 : Ext w W3 := by rw [hW3]; exact (((Ch.refl _ _).alloc _).alloc _).setRow (.inr (by omega)) _
  have HZ3 : Hid (W3.heap[w.heap.size]? = some (.cells #[.int .u8 0, .int .i64 0, .int .u64 0, .int .u64 0, .string ⟨#[]⟩] 74 (0, 0))) := Lib.hid (by rw [hW3, setRow_other _ _ _ _ (by omega)]; exact hg6)
  have HR3 : Hid (W3.heap[(w.heap.size + 1)]? = some (.cells #[.int .u8 (k : Nat), .int .i64 0, .int .u64 0, .int .u64 0, .string ⟨#[]⟩] 74 (0, 0))) := Lib.hid (by rw [hW3]; exact setRow_heap _ _ _ _ _ _ hq)
  have HX3 : Hid (Only q w W3) := Lib.hid hx3.ch
  have HI3 := Lib.hid (h.ext hx3)
  have HW3 := Lib.hid hW3
  clear hq hx3 hg6 hW3 h
  have hraw : rawR ver k s = (⟨k, 0, 0, 0, []⟩, s) := by unfold rawR; rw [if_neg (by omega), if_neg (by omega), if_neg (by omega), if_neg (by omega), if_neg (by omega)]
  obtain ⟨E, hEE⟩ : ∃ E, E = vErr ⟨k, 0, 0, 0, []⟩ := ⟨_, rfl⟩
  have hvt : vTake ver k s = (if (failR (s) (E : Nat)).2 ≠ 0 then .zero else ⟨k, 0, 0, 0, []⟩, failR (s) (E : Nat)) := by
    unfold vTake
    rw [if_neg (by omega), hraw]
    simp only
    rw [← hEE]
    split <;> rfl
  rw [hvt]
  obtain ⟨PO, hPO⟩ : ∃ PO, PO = TqPost q (if (failR (s) (E : Nat)).2 ≠ 0 then Val.zero else ⟨k, 0, 0, 0, []⟩) (failR (s) (E : Nat)) w := ⟨_, rfl⟩
  have HPZ : Hid (((E = 0 ∧ (s).2 ≠ 0) ∨ E ≠ 0) → ∀ w', Only q w w' → IsQ w' q (failR (s) (E : Nat)) → PO (.returned (rv Val.zero)) w') := Lib.hid fun h1 w' h2 h3 => by
    rw [hPO]
    refine ⟨?_, h2, h3⟩
    rw [if_pos]
    rcases h1 with ⟨h1, h4⟩ | h1
    · rw [h1, show (((0 : Nat) : Int)) = 0 by rfl, failR_zero]; exact h4
    · exact failR_ne _ _ (by omega)
  have HPV : Hid (E = 0 → (s).2 = 0 → ∀ w', Only q w w' → IsQ w' q (s) → PO (.returned (rv ⟨k, 0, 0, 0, []⟩)) w') := Lib.hid fun h1 h4 w' h2 h3 => by
    have hf : failR (s) (E : Nat) = s := by rw [h1]; exact failR_zero _
    rw [hPO, hf]
    refine ⟨?_, h2, h3⟩
    rw [if_neg (by rw [h4]; decide)]
  have HF0 : Hid (E = 0 → failR (s) (E : Nat) = s) := Lib.hid fun h1 => by rw [h1]; exact failR_zero _
  rw [← hPO]
  have HEE := Lib.hid hEE
  clear hraw hvt hPO hEE
  have e1 : (((k : Nat) : Int) == 1) = false := by simp; omega
  have e2 : (((k : Nat) : Int) == 2) = false := by simp; omega
  have e3 : (((k : Nat) : Int) == 3) = false := by simp; omega
  have e4 : (((k : Nat) : Int) == 4) = false := by simp; omega
  have e5 : (((k : Nat) : Int) == 5) = false := by simp; omega
  have e6 : (((k : Nat) : Int) == 6) = false := by simp; omega
  clear hk
  subst hv
  unfold QPtr at *
  go_enter Tryz.func85, Tryz.ntmps85
  have HRI : Hid (∀ w, Calls Tryz.prog 61 #[.agg #[.int .u8 (k : Nat), .int .i64 0, .int .u64 0, .int .u64 0, .string ⟨#[]⟩]] w fun e w' => e = .returned (.int .i64 (E : Nat)) ∧ Ext w w') := Lib.hid (by rw [HEE.out]; exact rright_any ⟨k, 0, 0, 0, []⟩)
  go_wp2_with (first
    | (refine wpList_store_rowTo rfl _ _ _ rfl rfl (w.heap.size + 1) #[.int .u8 (k : Nat), .int .i64 0, .int .u64 0, .int .u64 0, .string ⟨#[]⟩] rfl rfl _ _ HQ.out info54 rfl (rrow_one _ _ _ _ _) ?_; rw [← HW3.out])
    | (refine wpList_load_row rfl _ _ rfl (w.heap.size + 1) rfl _ _ _ _ HR3.out Tryz.underlying74 rfl info54 ?_)
    | (refine wpList_load_row rfl _ _ rfl (w.heap.size + 1) rfl _ _ _ _ HR3.out Tryz.underlying74 rfl info54 ?_)
    | (go_at_call 61; refine (HRI.out _).mono ?_))
  rintro e WR ⟨rfl, hx⟩
  have HXR : Hid (Only q w WR) := Lib.hid (HX3.out.trans hx.ch); have HIR := Lib.hid (HI3.out.ext hx)
  have HZR := Lib.hid (heap_of_ext hx HZ3.out); have HRR := Lib.hid (heap_of_ext hx HR3.out)
  clear hx
  by_cases he : E = 0
  · have hE : (((E : Nat) : Int) != 0) = false := by simp [he]
    have HE0 := Lib.hid he
    clear he
    obtain ⟨bs', a', ao', cap', _, _, hc2, _⟩ := HIR.out.cells
    by_cases hb : (s).2 = 0
    · have hb2 : ((s).2 != 0) = false := by simp [hb]
      have HB := Lib.hid hb
      clear hb
      go_wp2_with (first
        | (refine wpList_load_row rfl _ _ rfl (w.heap.size + 1) rfl _ _ _ _ HRR.out Tryz.underlying74 rfl info54 ?_)
        | (refine wpList_store_rowTo rfl _ _ _ rfl rfl w.heap.size #[.int .u8 (k : Nat), .int .i64 0, .int .u64 0, .int .u64 0, .string ⟨#[]⟩] rfl rfl _ _ HZR.out info54 rfl (rrow_one _ _ _ _ _) ?_))
      refine bodyPost_ret (results_cell_row rfl _ _ w.heap.size _ #[.int .u8 (k : Nat), .int .i64 0, .int .u64 0, .int .u64 0, .string ⟨#[]⟩] _ _ rfl (setRow_heap _ _ _ _ _ _ HZR.out) Tryz.underlying74 rfl info54) rfl ?_
      exact HPV.out HE0.out HB.out _ (HXR.out.setRow (.inr (Nat.le_refl _)) _) (HIR.out.aboveT ((Ch.refl _ _).setRow (.inl (by have := HQL.out; omega)) _))
    · have hb2 : ((s).2 != 0) = true := by simpa using hb
      have HB := Lib.hid hb
      clear hb
      go_wp2_with (first
        | (refine wpList_store_rowTo rfl _ _ _ rfl rfl w.heap.size #[.int .u8 0, .int .i64 0, .int .u64 0, .int .u64 0, .string ⟨#[]⟩] rfl rfl _ _ HZR.out info54 rfl (rrow_one _ _ _ _ _) ?_))
      refine bodyPost_ret (results_cell_row rfl _ _ w.heap.size _ #[.int .u8 0, .int .i64 0, .int .u64 0, .int .u64 0, .string ⟨#[]⟩] _ _ rfl (setRow_heap _ _ _ _ _ _ HZR.out) Tryz.underlying74 rfl info54) rfl ?_
      exact HPZ.out (.inl ⟨HE0.out, HB.out⟩) _ (HXR.out.setRow (.inr (Nat.le_refl _)) _) (by rw [HF0.out HE0.out]; exact HIR.out.aboveT ((Ch.refl _ _).setRow (.inl (by have := HQL.out; omega)) _))
  · have hE : (((E : Nat) : Int) != 0) = true := by simp; omega
    have HGU := Lib.hid (fun w h => giveUp_any q (s) (E : Nat) w h)
    have HE0 := Lib.hid he
    clear he
    unfold QPtr at HGU
    go_wp2_with (go_at_call 32; refine (HGU.out _ HIR.out).mono ?_)
    rintro e WG ⟨rfl, k1, k2⟩
    have HXG : Hid (Only q w WG) := Lib.hid (HXR.out.trans k1); have HIG := Lib.hid k2
    have HZG := Lib.hid (heap_of_only k1 (by have := HQL.out; omega) HZR.out)
    have hb2 : ((failR (s) (E : Nat)).2 != 0) = true := by simpa using failR_ne _ _ (by have := HE0.out; omega)
    obtain ⟨bs', a', ao', cap', _, _, hc2, _⟩ := HIG.out.cells
    clear k1 k2
    go_wp2_with (first
      | (refine wpList_store_rowTo rfl _ _ _ rfl rfl w.heap.size #[.int .u8 0, .int .i64 0, .int .u64 0, .int .u64 0, .string ⟨#[]⟩] rfl rfl _ _ HZG.out info54 rfl (rrow_one _ _ _ _ _) ?_))
    refine bodyPost_ret (results_cell_row rfl _ _ w.heap.size _ #[.int .u8 0, .int .i64 0, .int .u64 0, .int .u64 0, .string ⟨#[]⟩] _ _ rfl (setRow_heap _ _ _ _ _ _ HZG.out) Tryz.underlying74 rfl info54) rfl ?_
    exact HPZ.out (.inr HE0.out) _ (HXG.out.setRow (.inr (Nat.le_refl _)) _) (HIG.out.aboveT ((Ch.refl _ _).setRow (.inl (by have := HQL.out; omega)) _))
set_option maxRecDepth 20000 in
set_option maxHeartbeats 3000000 in
theorem qtake_bv (q : Nat) (s : RS) (ver k : Nat) (w : World) (h : IsQ w q s) (hv : ver ≠ 1 ∧ ver ≠ 2) :
    Calls Tryz.prog 85 #[QPtr q, .int .u8 (k : Nat), .int .u8 (ver : Nat)] w (TqPost q (vTake ver k s).1 (vTake ver k s).2 w) := by
  have HQL := Lib.hid h.lt
  have hg6 : ((w.alloc (.cells #[.int .u8 0, .int .i64 0, .int .u64 0, .int .u64 0, .string ⟨#[]⟩] 74)).alloc (.cells #[.int .u8 0, .int .i64 0, .int .u64 0, .int .u64 0, .string ⟨#[]⟩] 74)).heap[w.heap.size]? = _ := heap_alloc2_old w _ _
  have hq : ((w.alloc (.cells #[.int .u8 0, .int .i64 0, .int .u64 0, .int .u64 0, .string ⟨#[]⟩] 74)).alloc (.cells #[.int .u8 0, .int .i64 0, .int .u64 0, .int .u64 0, .string ⟨#[]⟩] 74)).heap[(w.heap.size + 1)]? = _ := heap_alloc2_new w _ _
  have HQ := Lib.hid hq
  obtain ⟨W3, hW3⟩ : ∃ W3, W3 = ((w.alloc (.cells #[.int .u8 0, .int .i64 0, .int .u64 0, .int .u64 0, .string ⟨#[]⟩] 74)).alloc (.cells #[.int .u8 0, .int .i64 0, .int .u64 0, .int .u64 0, .string ⟨#[]⟩] 74)).setRow (w.heap.size + 1) #[.int .u8 (k : Nat), .int .i64 0, .int .u64 0, .int .u64 0, .string ⟨#[]⟩] := ⟨_, rfl⟩
  have hx3 : Ext w W3 := by rw [hW3]; exact (((Ch.refl _ _).alloc _).alloc _).setRow (.inr (by omega)) _
  have HZ3 : Hid (W3.heap[w.heap.size]? = some (.cells #[.int .u8 0, .int .i64 0, .int .u64 0, .int .u64 0, .string ⟨#[]⟩] 74 (0, 0))) := Lib.hid (by rw [hW3, setRow_other _ _ _ _ (by omega)]; exact hg6)
  have HR3 : Hid (W3.heap[(w.heap.size + 1)]? = some (.cells #[.int .u8 (k : Nat), .int .i64 0, .int .u64 0, .int .u64 0, .string ⟨#[]⟩] 74 (0, 0))) := Lib.hid (by rw [hW3]; exact setRow_heap _ _ _ _ _ _ hq)
  have HX3 : Hid (Only q w W3) := Lib.hid hx3.ch
  have HI3 := Lib.hid (h.ext hx3)
  have HW3 := Lib.hid hW3
  clear hq hx3 hg6 hW3 h
  have hvt : vTake ver k s = (.zero, failR s 18) := by unfold vTake; rw [if_pos hv]
  rw [hvt]
  obtain ⟨PO, hPO⟩ : ∃ PO, PO = TqPost q Val.zero (failR s 18) w := ⟨_, rfl⟩
  have HPZ : Hid (∀ w', Only q w w' → IsQ w' q (failR s 18) → PO (.returned (rv Val.zero)) w') := Lib.hid fun w' h2 h3 => by
    rw [hPO]
    exact ⟨rfl, h2, h3⟩
  rw [← hPO]
  have e1 : (((ver : Nat) : Int) != 1) = true := by simp; omega
  have e2 : (((ver : Nat) : Int) != 2) = true := by simp; omega
  have HG := Lib.hid (fun w h => giveUp_any q s 18 w h)
  clear hvt hPO hv
  unfold QPtr at *
  go_enter Tryz.func85, Tryz.ntmps85
  go_wp2_with (first
    | (refine wpList_store_rowTo rfl _ _ _ rfl rfl (w.heap.size + 1) #[.int .u8 (k : Nat), .int .i64 0, .int .u64 0, .int .u64 0, .string ⟨#[]⟩] rfl rfl _ _ HQ.out info54 rfl (rrow_one _ _ _ _ _) ?_; rw [← HW3.out])
    | (go_at_call 32; refine (HG.out _ HI3.out).mono ?_))
  rintro e W4 ⟨rfl, k1, k2⟩
  have HX4 : Hid (Only q w W4) := Lib.hid (HX3.out.trans k1); have HI4 := Lib.hid k2
  have HZ4 : Hid (W4.heap[w.heap.size]? = some (.cells #[.int .u8 0, .int .i64 0, .int .u64 0, .int .u64 0, .string ⟨#[]⟩] 74 (0, 0))) := Lib.hid (heap_of_only k1 (by have := HQL.out; omega) HZ3.out)
  have HR4 : Hid (W4.heap[(w.heap.size + 1)]? = some (.cells #[.int .u8 (k : Nat), .int .i64 0, .int .u64 0, .int .u64 0, .string ⟨#[]⟩] 74 (0, 0))) := Lib.hid (heap_of_only k1 (by have := HQL.out; omega) HR3.out)
  clear k1 k2
  go_wp2_with (refine wpList_store_rowTo rfl _ _ _ rfl rfl w.heap.size #[.int .u8 0, .int .i64 0, .int .u64 0, .int .u64 0, .string ⟨#[]⟩] rfl rfl _ _ HZ4.out info54 rfl (rrow_one _ _ _ _ _) ?_)
  refine bodyPost_ret (results_cell_row rfl _ _ w.heap.size _ #[.int .u8 0, .int .i64 0, .int .u64 0, .int .u64 0, .string ⟨#[]⟩] _ _ rfl (setRow_heap _ _ _ _ _ _ HZ4.out) Tryz.underlying74 rfl info54) rfl ?_
  exact HPZ.out _ (HX4.out.setRow (.inr (Nat.le_refl _)) _) (HI4.out.aboveT ((Ch.refl _ _).setRow (.inl (by have := HQL.out; omega)) _))
theorem qtake_val (q : Nat) (s : RS) (ver k : Nat) (w : World) (h : IsQ w q s) :
    Calls Tryz.prog 85 #[QPtr q, .int .u8 (k : Nat), .int .u8 (ver : Nat)] w (TqPost q (vTake ver k s).1 (vTake ver k s).2 w) := by
  by_cases hv : ver ≠ 1 ∧ ver ≠ 2
  · exact qtake_bv q s ver k w h hv
  have hv' : ver = 1 ∨ ver = 2 := by omega
  by_cases hk : k < 1 ∨ 6 < k
  · rcases hv' with h' | h'
    · exact qtake_btv1 q s ver k w h hk h'
    · exact qtake_btv2 q s ver k w h hk h'
  have hk' : k = 1 ∨ k = 2 ∨ k = 3 ∨ k = 4 ∨ k = 5 ∨ k = 6 := by omega
  rcases hv' with h' | h'
  · rcases hk' with g | g | g | g | g | g
    · exact qtake_1v1 q s ver k w h g h'
    · exact qtake_2v1 q s ver k w h g h'
    · exact qtake_3v1 q s ver k w h g h'
    · exact qtake_4v1 q s ver k w h g h'
    · exact qtake_5v1 q s ver k w h g h'
    · exact qtake_6v1 q s ver k w h g h'
  · rcases hk' with g | g | g | g | g | g
    · exact qtake_1v2 q s ver k w h g h'
    · exact qtake_2v2 q s ver k w h g h'
    · exact qtake_3v2 q s ver k w h g h'
    · by_cases hm : 3 < (byteR s).1
      · exact qtake_4v2b q s ver k w h g h' hm
      · exact qtake_4v2s q s ver k w h g h' hm
    · exact qtake_5v2 q s ver k w h g h'
    · exact qtake_6v2 q s ver k w h g h'
end Go.Proofs.YtegclfpmgilnpaaGreat
