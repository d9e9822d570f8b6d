/-
  Values: one's own; the document's as the program's, and back.
-/
import Derived.Test.YtcejjckhhdgdnaaValB
namespace Go.Proofs.Ytcejjckhhdgdnaa
open Go.RowKit Go.Lac

theorem mixedV : Try.prog.follows .mixedOrders = true := by kernel_rfl
theorem info61 : (Try.prog.info? 135).map (·.size) = some 4 := by kernel_rfl
theorem prow_one (k n : Int) (re im : Nat) (A : ByteArray) : (#[.int .u8 k, .int .i64 n, .complex .f64 re im, .string A] : Array Value).all (·.oneCell') = true := by simp [Value.oneCell']
theorem rrow_one (k n re im : Int) (A : ByteArray) : (#[.int .u8 k, .int .i64 n, .int .u64 re, .int .u64 im, .string A] : Array Value).all (·.oneCell') = true := by simp [Value.oneCell']

/-- What is a value's own. -/
def ownV (v : Val) : Val :=
  ⟨v.ty, if v.ty = 1 ∨ v.ty = 2 then v.i else 0, if v.ty = 3 ∨ v.ty = 4 then v.re else 0, if v.ty = 4 then v.im else 0, if v.ty = 5 ∨ v.ty = 6 then v.t else []⟩

def PvPost (v : Val) (w : World) (e : Ending) (w' : World) : Prop := e = .returned (pv v) ∧ Ext w w'
def RvPost (v : Val) (w : World) (e : Ending) (w' : World) : Prop := e = .returned (rv v) ∧ Ext w w'

theorem heap_alloc3 (w : World) (A B C : Obj) : (((w.alloc A).alloc B).alloc C).heap[w.heap.size]? = some A ∧ (((w.alloc A).alloc B).alloc C).heap[w.heap.size + 1]? = some B ∧ (((w.alloc A).alloc B).alloc C).heap[w.heap.size + 1 + 1]? = some C := by
  have e2 : ((w.alloc A).alloc B).heap.size = w.heap.size + 1 + 1 := by simp
  have h0 := heap_alloc2_old w A B
  have h1 := heap_alloc2_new w A B
  refine ⟨?_, ?_, ?_⟩
  · rw [heap_alloc_old _ _ (by rw [e2]; omega)]; exact h0
  · rw [heap_alloc_old _ _ (by rw [e2]; omega)]; exact h1
  · have := heap_alloc_new ((w.alloc A).alloc B) C
    rwa [e2] at this

set_option maxRecDepth 20000 in
set_option maxHeartbeats 1600000 in
theorem own_any (v : Val) (w : World) (h1 : 1 ≤ v.ty) (h6 : v.ty ≤ 6) :
    Calls Try.prog 100 #[pv v] w (PvPost (ownV v) w) := by
  obtain ⟨k, n, re, im, t⟩ := v
  unfold PvPost
  obtain ⟨V, hV⟩ : ∃ V, V = pv (ownV ⟨k, n, re, im, t⟩) := ⟨_, rfl⟩
  rw [← hV]
  unfold ownV pv pvals at hV
  unfold pv pvals
  simp only at h1 h6 hV ⊢
  have hk : k = 1 ∨ k = 2 ∨ k = 3 ∨ k = 4 ∨ k = 5 ∨ k = 6 := by omega
  unfold strV at *
  obtain ⟨A, hA⟩ : ∃ A, A = (⟨t.toArray⟩ : ByteArray) := ⟨_, rfl⟩
  rw [← hA]
  clear h1 h6
  obtain ⟨T, hT⟩ : ∃ T, T = 135 := ⟨_, rfl⟩
  obtain ⟨q0, q1, q2⟩ := heap_alloc3 w (.cells #[.int .u8 (k : Nat), .int .i64 n, .complex .f64 re im, .string A] 135) (.cells #[.int .u8 0, .int .i64 0, .complex .f64 0 0, .string ⟨#[]⟩] 135) (.cells #[.int .u8 0, .int .i64 0, .complex .f64 0 0, .string ⟨#[]⟩] 135)
  have hext : Ext w (((w.alloc (.cells #[.int .u8 (k : Nat), .int .i64 n, .complex .f64 re im, .string A] 135)).alloc (.cells #[.int .u8 0, .int .i64 0, .complex .f64 0 0, .string ⟨#[]⟩] 135)).alloc (.cells #[.int .u8 0, .int .i64 0, .complex .f64 0 0, .string ⟨#[]⟩] 135)) := (((Ch.refl _ _).alloc _).alloc _).alloc _
  obtain ⟨W1, hW1⟩ : ∃ W1, W1 = (((w.alloc (.cells #[.int .u8 (k : Nat), .int .i64 n, .complex .f64 re im, .string A] 135)).alloc (.cells #[.int .u8 0, .int .i64 0, .complex .f64 0 0, .string ⟨#[]⟩] 135)).alloc (.cells #[.int .u8 0, .int .i64 0, .complex .f64 0 0, .string ⟨#[]⟩] 135)) := ⟨_, rfl⟩
  have Q2 := Lib.hid q2
  rw [← hW1] at q0 q1 q2 hext
  obtain ⟨W2, hW2⟩ : ∃ W2, W2 = W1.setRow (w.heap.size + 1 + 1) #[.int .u8 (k : Nat), .int .i64 0, .complex .f64 0 0, .string ⟨#[]⟩] := ⟨_, rfl⟩
  have p2 : W2.heap[w.heap.size + 1 + 1]? = some (.cells #[.int .u8 (k : Nat), .int .i64 0, .complex .f64 0 0, .string ⟨#[]⟩] 135 (0, 0)) := by rw [hW2]; exact setRow_heap _ _ _ _ _ _ q2
  have p1 : W2.heap[w.heap.size + 1]? = some (.cells #[.int .u8 0, .int .i64 0, .complex .f64 0 0, .string ⟨#[]⟩] 135 (0, 0)) := by rw [hW2, setRow_other _ _ _ _ (by omega)]; exact q1
  have p0 : W2.heap[w.heap.size]? = some (.cells #[.int .u8 (k : Nat), .int .i64 n, .complex .f64 re im, .string A] 135 (0, 0)) := by rw [hW2, setRow_other _ _ _ _ (by omega)]; exact q0
  have hext2 : Ext w W2 := by rw [hW2]; exact hext.setRow (.inr (by omega)) _
  have c0 : W2.cell? ⟨w.heap.size, 0, none⟩ = some (.int .u8 (k : Nat)) := by rw [cell_of_row _ _ _ _ _ _ p0]; rfl
  have c1 : W2.cell? ⟨w.heap.size, 1, none⟩ = some (.int .i64 n) := by rw [cell_of_row _ _ _ _ _ _ p0]; rfl
  have c2 : W2.cell? ⟨w.heap.size, 2, none⟩ = some (.complex .f64 re im) := by rw [cell_of_row _ _ _ _ _ _ p0]; rfl
  have c3 : W2.cell? ⟨w.heap.size, 3, none⟩ = some (.string A) := by rw [cell_of_row _ _ _ _ _ _ p0]; rfl
  have d1 : W2.cell? ⟨w.heap.size + 1 + 1, 1, none⟩ = some (.int .i64 0) := by rw [cell_of_row _ _ _ _ _ _ p2]; rfl
  have d2 : W2.cell? ⟨w.heap.size + 1 + 1, 2, none⟩ = some (.complex .f64 0 0) := by rw [cell_of_row _ _ _ _ _ _ p2]; rfl
  have d3 : W2.cell? ⟨w.heap.size + 1 + 1, 3, none⟩ = some (.string ⟨#[]⟩) := by rw [cell_of_row _ _ _ _ _ _ p2]; rfl
  have f1 := frozen_of_row W2 (w.heap.size + 1 + 1) 1 _ _ p2
  have f2 := frozen_of_row W2 (w.heap.size + 1 + 1) 2 _ _ p2
  have f3 := frozen_of_row W2 (w.heap.size + 1 + 1) 3 _ _ p2
  have HQ2 := Lib.hid q2; have P1 := Lib.hid p1; have P2 := Lib.hid p2; have HX := Lib.hid hext2
  have HW1 := Lib.hid hW1; have HW2 := Lib.hid hW2; 
  clear q0 q1 q2 p0 p1 p2 hext hext2 hW1 hW2 hT T
  rcases hk with hk | hk | hk | hk | hk | hk
  · have HK := Lib.hid hk
    have HV : Hid (V = .agg #[.int .u8 (k : Nat), .int .i64 n, .complex .f64 0 0, .string ⟨#[]⟩]) := Lib.hid (by rw [hV]; simp [hk, hA])
    clear hV hA
    have e1 : (((k : Nat) : Int) == 1) = true := by rw [hk]; rfl
    have p3 := heap_setCell_same W2 (w.heap.size + 1 + 1) 1 _ _ (.int .i64 n) P2.out
    have p4 : (W2.setCell ⟨w.heap.size + 1 + 1, 1, none⟩ (.int .i64 n)).heap[w.heap.size + 1]? = _ := (heap_setCell_other W2 ⟨w.heap.size + 1 + 1, 1, none⟩ (w.heap.size + 1) (.int .i64 n) (by simp)).trans P1.out
    have hx3 : Ext w (W2.setCell ⟨w.heap.size + 1 + 1, 1, none⟩ (.int .i64 n)) := HX.out.setCell (.inr (by simp; omega)) _
    have P3 : Hid ((W2.setCell ⟨w.heap.size + 1 + 1, 1, none⟩ (.int .i64 n)).heap[w.heap.size + 1 + 1]? = some (.cells #[.int .u8 (k : Nat), .int .i64 n, .complex .f64 0 0, .string ⟨#[]⟩] 135 (0, 0))) := Lib.hid p3
    have P4 := Lib.hid p4; have HX3 := Lib.hid hx3
    have hst : (store ⟨w.heap.size + 1 + 1, 1, none⟩ (.int .i64 n)).run Try.prog W2 = .ok () (W2.setCell ⟨w.heap.size + 1 + 1, 1, none⟩ (.int .i64 n)) := by
      rw [run_store Try.prog W2 _ _ _ rfl, d1]; simp [f1]
    clear p3 p4 hx3 hk
    go_enter Try.func100, Try.ntmps100
    go_wp2_with (first
      | (refine wpList_store_rowTo rfl _ _ _ rfl rfl (w.heap.size + 1 + 1) #[.int .u8 (k : Nat), .int .i64 0, .complex .f64 0 0, .string ⟨#[]⟩] rfl rfl _ _ Q2.out info61 rfl (prow_one _ _ _ _ _) ?_; rw [← HW1.out, ← HW2.out])
      | (refine wpList_load_row rfl _ _ rfl (w.heap.size + 1 + 1) rfl _ _ _ _ P3.out Try.underlying135 rfl info61 ?_)
      | (refine wpList_store_rowTo rfl _ _ _ rfl rfl (w.heap.size + 1) #[.int .u8 (k : Nat), .int .i64 n, .complex .f64 0 0, .string ⟨#[]⟩] rfl rfl _ _ P4.out info61 rfl (prow_one _ _ _ _ _) ?_))
    refine bodyPost_ret (results_cell_row rfl _ _ (w.heap.size + 1) _ #[.int .u8 (k : Nat), .int .i64 n, .complex .f64 0 0, .string ⟨#[]⟩] _ _ rfl (setRow_heap _ _ _ _ _ _ P4.out) Try.underlying135 rfl info61) rfl ?_
    exact ⟨by rw [HV.out], HX3.out.setRow (.inr (by omega)) _⟩
  · have HK := Lib.hid hk
    have HV : Hid (V = .agg #[.int .u8 (k : Nat), .int .i64 n, .complex .f64 0 0, .string ⟨#[]⟩]) := Lib.hid (by rw [hV]; simp [hk, hA])
    clear hV hA
    have e1 : (((k : Nat) : Int) == 1) = false := by rw [hk]; rfl
    have e2 : (((k : Nat) : Int) == 2) = true := by rw [hk]; rfl
    have p3 := heap_setCell_same W2 (w.heap.size + 1 + 1) 1 _ _ (.int .i64 n) P2.out
    have p4 : (W2.setCell ⟨w.heap.size + 1 + 1, 1, none⟩ (.int .i64 n)).heap[w.heap.size + 1]? = _ := (heap_setCell_other W2 ⟨w.heap.size + 1 + 1, 1, none⟩ (w.heap.size + 1) (.int .i64 n) (by simp)).trans P1.out
    have hx3 : Ext w (W2.setCell ⟨w.heap.size + 1 + 1, 1, none⟩ (.int .i64 n)) := HX.out.setCell (.inr (by simp; omega)) _
    have P3 : Hid ((W2.setCell ⟨w.heap.size + 1 + 1, 1, none⟩ (.int .i64 n)).heap[w.heap.size + 1 + 1]? = some (.cells #[.int .u8 (k : Nat), .int .i64 n, .complex .f64 0 0, .string ⟨#[]⟩] 135 (0, 0))) := Lib.hid p3
    have P4 := Lib.hid p4; have HX3 := Lib.hid hx3
    have hst : (store ⟨w.heap.size + 1 + 1, 1, none⟩ (.int .i64 n)).run Try.prog W2 = .ok () (W2.setCell ⟨w.heap.size + 1 + 1, 1, none⟩ (.int .i64 n)) := by
      rw [run_store Try.prog W2 _ _ _ rfl, d1]; simp [f1]
    clear p3 p4 hx3 hk
    go_enter Try.func100, Try.ntmps100
    go_wp2_with (first
      | (refine wpList_store_rowTo rfl _ _ _ rfl rfl (w.heap.size + 1 + 1) #[.int .u8 (k : Nat), .int .i64 0, .complex .f64 0 0, .string ⟨#[]⟩] rfl rfl _ _ Q2.out info61 rfl (prow_one _ _ _ _ _) ?_; rw [← HW1.out, ← HW2.out])
      | (refine wpList_load_row rfl _ _ rfl (w.heap.size + 1 + 1) rfl _ _ _ _ P3.out Try.underlying135 rfl info61 ?_)
      | (refine wpList_store_rowTo rfl _ _ _ rfl rfl (w.heap.size + 1) #[.int .u8 (k : Nat), .int .i64 n, .complex .f64 0 0, .string ⟨#[]⟩] rfl rfl _ _ P4.out info61 rfl (prow_one _ _ _ _ _) ?_))
    refine bodyPost_ret (results_cell_row rfl _ _ (w.heap.size + 1) _ #[.int .u8 (k : Nat), .int .i64 n, .complex .f64 0 0, .string ⟨#[]⟩] _ _ rfl (setRow_heap _ _ _ _ _ _ P4.out) Try.underlying135 rfl info61) rfl ?_
    exact ⟨by rw [HV.out], HX3.out.setRow (.inr (by omega)) _⟩
  · have HK := Lib.hid hk
    have HV : Hid (V = .agg #[.int .u8 (k : Nat), .int .i64 0, .complex .f64 re 0, .string ⟨#[]⟩]) := Lib.hid (by rw [hV]; simp [hk, hA])
    clear hV hA
    have e1 : (((k : Nat) : Int) == 1) = false := by rw [hk]; rfl
    have e2 : (((k : Nat) : Int) == 2) = false := by rw [hk]; rfl
    have e3 : (((k : Nat) : Int) == 3) = true := by rw [hk]; rfl
    have p3 := heap_setCell_same W2 (w.heap.size + 1 + 1) 2 _ _ (.complex .f64 re 0) P2.out
    have p4 : (W2.setCell ⟨w.heap.size + 1 + 1, 2, none⟩ (.complex .f64 re 0)).heap[w.heap.size + 1]? = _ := (heap_setCell_other W2 ⟨w.heap.size + 1 + 1, 2, none⟩ (w.heap.size + 1) (.complex .f64 re 0) (by simp)).trans P1.out
    have hx3 : Ext w (W2.setCell ⟨w.heap.size + 1 + 1, 2, none⟩ (.complex .f64 re 0)) := HX.out.setCell (.inr (by simp; omega)) _
    have P3 : Hid ((W2.setCell ⟨w.heap.size + 1 + 1, 2, none⟩ (.complex .f64 re 0)).heap[w.heap.size + 1 + 1]? = some (.cells #[.int .u8 (k : Nat), .int .i64 0, .complex .f64 re 0, .string ⟨#[]⟩] 135 (0, 0))) := Lib.hid p3
    have P4 := Lib.hid p4; have HX3 := Lib.hid hx3
    have hst : (store ⟨w.heap.size + 1 + 1, 2, none⟩ (.complex .f64 re 0)).run Try.prog W2 = .ok () (W2.setCell ⟨w.heap.size + 1 + 1, 2, none⟩ (.complex .f64 re 0)) := by
      rw [run_store Try.prog W2 _ _ _ rfl, d2]; simp [f2]
    clear p3 p4 hx3 hk
    go_enter Try.func100, Try.ntmps100
    go_wp2_with (first
      | (refine wpList_store_rowTo rfl _ _ _ rfl rfl (w.heap.size + 1 + 1) #[.int .u8 (k : Nat), .int .i64 0, .complex .f64 0 0, .string ⟨#[]⟩] rfl rfl _ _ Q2.out info61 rfl (prow_one _ _ _ _ _) ?_; rw [← HW1.out, ← HW2.out])
      | (refine wpList_load_row rfl _ _ rfl (w.heap.size + 1 + 1) rfl _ _ _ _ P3.out Try.underlying135 rfl info61 ?_)
      | (refine wpList_store_rowTo rfl _ _ _ rfl rfl (w.heap.size + 1) #[.int .u8 (k : Nat), .int .i64 0, .complex .f64 re 0, .string ⟨#[]⟩] rfl rfl _ _ P4.out info61 rfl (prow_one _ _ _ _ _) ?_))
    refine bodyPost_ret (results_cell_row rfl _ _ (w.heap.size + 1) _ #[.int .u8 (k : Nat), .int .i64 0, .complex .f64 re 0, .string ⟨#[]⟩] _ _ rfl (setRow_heap _ _ _ _ _ _ P4.out) Try.underlying135 rfl info61) rfl ?_
    exact ⟨by rw [HV.out], HX3.out.setRow (.inr (by omega)) _⟩
  · have HK := Lib.hid hk
    have HV : Hid (V = .agg #[.int .u8 (k : Nat), .int .i64 0, .complex .f64 re im, .string ⟨#[]⟩]) := Lib.hid (by rw [hV]; simp [hk, hA])
    clear hV hA
    have e1 : (((k : Nat) : Int) == 1) = false := by rw [hk]; rfl
    have e2 : (((k : Nat) : Int) == 2) = false := by rw [hk]; rfl
    have e3 : (((k : Nat) : Int) == 3) = false := by rw [hk]; rfl
    have e4 : (((k : Nat) : Int) == 4) = true := by rw [hk]; rfl
    have p3 := heap_setCell_same W2 (w.heap.size + 1 + 1) 2 _ _ (.complex .f64 re im) P2.out
    have p4 : (W2.setCell ⟨w.heap.size + 1 + 1, 2, none⟩ (.complex .f64 re im)).heap[w.heap.size + 1]? = _ := (heap_setCell_other W2 ⟨w.heap.size + 1 + 1, 2, none⟩ (w.heap.size + 1) (.complex .f64 re im) (by simp)).trans P1.out
    have hx3 : Ext w (W2.setCell ⟨w.heap.size + 1 + 1, 2, none⟩ (.complex .f64 re im)) := HX.out.setCell (.inr (by simp; omega)) _
    have P3 : Hid ((W2.setCell ⟨w.heap.size + 1 + 1, 2, none⟩ (.complex .f64 re im)).heap[w.heap.size + 1 + 1]? = some (.cells #[.int .u8 (k : Nat), .int .i64 0, .complex .f64 re im, .string ⟨#[]⟩] 135 (0, 0))) := Lib.hid p3
    have P4 := Lib.hid p4; have HX3 := Lib.hid hx3
    have hst : (store ⟨w.heap.size + 1 + 1, 2, none⟩ (.complex .f64 re im)).run Try.prog W2 = .ok () (W2.setCell ⟨w.heap.size + 1 + 1, 2, none⟩ (.complex .f64 re im)) := by
      rw [run_store Try.prog W2 _ _ _ rfl, d2]; simp [f2]
    clear p3 p4 hx3 hk
    go_enter Try.func100, Try.ntmps100
    go_wp2_with (first
      | (refine wpList_store_rowTo rfl _ _ _ rfl rfl (w.heap.size + 1 + 1) #[.int .u8 (k : Nat), .int .i64 0, .complex .f64 0 0, .string ⟨#[]⟩] rfl rfl _ _ Q2.out info61 rfl (prow_one _ _ _ _ _) ?_; rw [← HW1.out, ← HW2.out])
      | (refine wpList_load_row rfl _ _ rfl (w.heap.size + 1 + 1) rfl _ _ _ _ P3.out Try.underlying135 rfl info61 ?_)
      | (refine wpList_store_rowTo rfl _ _ _ rfl rfl (w.heap.size + 1) #[.int .u8 (k : Nat), .int .i64 0, .complex .f64 re im, .string ⟨#[]⟩] rfl rfl _ _ P4.out info61 rfl (prow_one _ _ _ _ _) ?_))
    refine bodyPost_ret (results_cell_row rfl _ _ (w.heap.size + 1) _ #[.int .u8 (k : Nat), .int .i64 0, .complex .f64 re im, .string ⟨#[]⟩] _ _ rfl (setRow_heap _ _ _ _ _ _ P4.out) Try.underlying135 rfl info61) rfl ?_
    exact ⟨by rw [HV.out], HX3.out.setRow (.inr (by omega)) _⟩
  · have HK := Lib.hid hk
    have HV : Hid (V = .agg #[.int .u8 (k : Nat), .int .i64 0, .complex .f64 0 0, .string A]) := Lib.hid (by rw [hV]; simp [hk, hA])
    clear hV hA
    have e1 : (((k : Nat) : Int) == 1) = false := by rw [hk]; rfl
    have e2 : (((k : Nat) : Int) == 2) = false := by rw [hk]; rfl
    have e3 : (((k : Nat) : Int) == 3) = false := by rw [hk]; rfl
    have e4 : (((k : Nat) : Int) == 4) = false := by rw [hk]; rfl
    have e5 : (((k : Nat) : Int) == 5) = true := by rw [hk]; rfl
    have p3 := heap_setCell_same W2 (w.heap.size + 1 + 1) 3 _ _ (.string A) P2.out
    have p4 : (W2.setCell ⟨w.heap.size + 1 + 1, 3, none⟩ (.string A)).heap[w.heap.size + 1]? = _ := (heap_setCell_other W2 ⟨w.heap.size + 1 + 1, 3, none⟩ (w.heap.size + 1) (.string A) (by simp)).trans P1.out
    have hx3 : Ext w (W2.setCell ⟨w.heap.size + 1 + 1, 3, none⟩ (.string A)) := HX.out.setCell (.inr (by simp; omega)) _
    have P3 : Hid ((W2.setCell ⟨w.heap.size + 1 + 1, 3, none⟩ (.string A)).heap[w.heap.size + 1 + 1]? = some (.cells #[.int .u8 (k : Nat), .int .i64 0, .complex .f64 0 0, .string A] 135 (0, 0))) := Lib.hid p3
    have P4 := Lib.hid p4; have HX3 := Lib.hid hx3
    have hst : (store ⟨w.heap.size + 1 + 1, 3, none⟩ (.string A)).run Try.prog W2 = .ok () (W2.setCell ⟨w.heap.size + 1 + 1, 3, none⟩ (.string A)) := by
      rw [run_store Try.prog W2 _ _ _ rfl, d3]; simp [f3]
    clear p3 p4 hx3 hk
    go_enter Try.func100, Try.ntmps100
    go_wp2_with (first
      | (refine wpList_store_rowTo rfl _ _ _ rfl rfl (w.heap.size + 1 + 1) #[.int .u8 (k : Nat), .int .i64 0, .complex .f64 0 0, .string ⟨#[]⟩] rfl rfl _ _ Q2.out info61 rfl (prow_one _ _ _ _ _) ?_; rw [← HW1.out, ← HW2.out])
      | (refine wpList_load_row rfl _ _ rfl (w.heap.size + 1 + 1) rfl _ _ _ _ P3.out Try.underlying135 rfl info61 ?_)
      | (refine wpList_store_rowTo rfl _ _ _ rfl rfl (w.heap.size + 1) #[.int .u8 (k : Nat), .int .i64 0, .complex .f64 0 0, .string A] rfl rfl _ _ P4.out info61 rfl (prow_one _ _ _ _ _) ?_))
    refine bodyPost_ret (results_cell_row rfl _ _ (w.heap.size + 1) _ #[.int .u8 (k : Nat), .int .i64 0, .complex .f64 0 0, .string A] _ _ rfl (setRow_heap _ _ _ _ _ _ P4.out) Try.underlying135 rfl info61) rfl ?_
    exact ⟨by rw [HV.out], HX3.out.setRow (.inr (by omega)) _⟩
  · have HK := Lib.hid hk
    have HV : Hid (V = .agg #[.int .u8 (k : Nat), .int .i64 0, .complex .f64 0 0, .string A]) := Lib.hid (by rw [hV]; simp [hk, hA])
    clear hV hA
    have e1 : (((k : Nat) : Int) == 1) = false := by rw [hk]; rfl
    have e2 : (((k : Nat) : Int) == 2) = false := by rw [hk]; rfl
    have e3 : (((k : Nat) : Int) == 3) = false := by rw [hk]; rfl
    have e4 : (((k : Nat) : Int) == 4) = false := by rw [hk]; rfl
    have e5 : (((k : Nat) : Int) == 5) = false := by rw [hk]; rfl
    have e6 : (((k : Nat) : Int) == 6) = true := by rw [hk]; rfl
    have p3 := heap_setCell_same W2 (w.heap.size + 1 + 1) 3 _ _ (.string A) P2.out
    have p4 : (W2.setCell ⟨w.heap.size + 1 + 1, 3, none⟩ (.string A)).heap[w.heap.size + 1]? = _ := (heap_setCell_other W2 ⟨w.heap.size + 1 + 1, 3, none⟩ (w.heap.size + 1) (.string A) (by simp)).trans P1.out
    have hx3 : Ext w (W2.setCell ⟨w.heap.size + 1 + 1, 3, none⟩ (.string A)) := HX.out.setCell (.inr (by simp; omega)) _
    have P3 : Hid ((W2.setCell ⟨w.heap.size + 1 + 1, 3, none⟩ (.string A)).heap[w.heap.size + 1 + 1]? = some (.cells #[.int .u8 (k : Nat), .int .i64 0, .complex .f64 0 0, .string A] 135 (0, 0))) := Lib.hid p3
    have P4 := Lib.hid p4; have HX3 := Lib.hid hx3
    have hst : (store ⟨w.heap.size + 1 + 1, 3, none⟩ (.string A)).run Try.prog W2 = .ok () (W2.setCell ⟨w.heap.size + 1 + 1, 3, none⟩ (.string A)) := by
      rw [run_store Try.prog W2 _ _ _ rfl, d3]; simp [f3]
    clear p3 p4 hx3 hk
    go_enter Try.func100, Try.ntmps100
    go_wp2_with (first
      | (refine wpList_store_rowTo rfl _ _ _ rfl rfl (w.heap.size + 1 + 1) #[.int .u8 (k : Nat), .int .i64 0, .complex .f64 0 0, .string ⟨#[]⟩] rfl rfl _ _ Q2.out info61 rfl (prow_one _ _ _ _ _) ?_; rw [← HW1.out, ← HW2.out])
      | (refine wpList_load_row rfl _ _ rfl (w.heap.size + 1 + 1) rfl _ _ _ _ P3.out Try.underlying135 rfl info61 ?_)
      | (refine wpList_store_rowTo rfl _ _ _ rfl rfl (w.heap.size + 1) #[.int .u8 (k : Nat), .int .i64 0, .complex .f64 0 0, .string A] rfl rfl _ _ P4.out info61 rfl (prow_one _ _ _ _ _) ?_))
    refine bodyPost_ret (results_cell_row rfl _ _ (w.heap.size + 1) _ #[.int .u8 (k : Nat), .int .i64 0, .complex .f64 0 0, .string A] _ _ rfl (setRow_heap _ _ _ _ _ _ P4.out) Try.underlying135 rfl info61) rfl ?_
    exact ⟨by rw [HV.out], HX3.out.setRow (.inr (by omega)) _⟩
end Go.Proofs.Ytcejjckhhdgdnaa
