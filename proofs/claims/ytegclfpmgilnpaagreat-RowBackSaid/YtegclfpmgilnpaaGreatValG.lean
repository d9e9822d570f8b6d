import Derived.Test.YtegclfpmgilnpaaGreatGVal
namespace Go.Proofs.YtegclfpmgilnpaaGreat
open Go.RowKit Go.Lac
set_option maxRecDepth 20000 in
set_option maxHeartbeats 1600000 in
theorem lawBack_any (v : Val) (w : World) : Calls Tryz.prog 59 #[pv v] w (RvPost v w) := by
  obtain ⟨k, n, re, im, t⟩ := v
  unfold RvPost pv pvals rv rvals strV
  simp only
  generalize (⟨t.toArray⟩ : ByteArray) = A
  have hgb := heap_alloc2_new w (.cells #[.int .u8 (k : Nat), .int .i64 n, .complex .f64 re im, .string A] 88) (.cells #[.int .u8 0, .int .i64 0, .int .u64 0, .int .u64 0, .string ⟨#[]⟩] 74)
  have hext : Ext w ((w.alloc (.cells #[.int .u8 (k : Nat), .int .i64 n, .complex .f64 re im, .string A] 88)).alloc (.cells #[.int .u8 0, .int .i64 0, .int .u64 0, .int .u64 0, .string ⟨#[]⟩] 74)) := ((Ch.refl _ _).alloc _).alloc _
  have HG := Lib.hid hgb; have HX := Lib.hid hext
  clear hgb hext
  go_enter Tryz.func59, Tryz.ntmps59
  go_wp2_with (first
    | (go_at_call 88; refine (bits_any _ _ _).mono ?_; rintro e w' ⟨rfl, rfl⟩)
    | (refine wpList_store_rowTo rfl _ _ _ rfl rfl (w.heap.size + 1) #[.int .u8 (k : Nat), .int .i64 n, .int .u64 (re : Nat), .int .u64 (im : Nat), .string A] rfl rfl _ _ HG.out info54 rfl (rrow_one _ _ _ _ _) ?_))
  refine bodyPost_ret (results_cell_row rfl _ _ (w.heap.size + 1) _ #[.int .u8 (k : Nat), .int .i64 n, .int .u64 (re : Nat), .int .u64 (im : Nat), .string A] _ _ rfl (setRow_heap _ _ _ _ _ _ HG.out) Tryz.underlying74 rfl info54) rfl ?_
  exact ⟨rfl, HX.out.setRow (.inr (by omega)) _⟩
end Go.Proofs.YtegclfpmgilnpaaGreat
