/-
  Catalogs: the law's Ref; All.
-/
import Derived.Test.YtegclfpmgilnpaaCatJ
namespace Go.Proofs.Ytegclfpmgilnpaa
open Go.RowKit Go.Lac

theorem build_rf1 (w : World) (x y : Int) : (Instr.build 36 #[(0, .int .u32 x), (1, .int .u32 y)]).run Try.prog w = .ok (.agg #[.int .u32 x, .int .u32 y]) w := by kernel_rfl
set_option maxRecDepth 20000 in
theorem lawRef_any (p : Nat × Nat) (w : World) : Calls Try.prog 17 #[.agg (refv p)] w fun e w' => e = .returned (.agg (refv p)) ∧ Ext w w' := by
  have h1 := heap_alloc2_old w (.cells (refv p) 25) (.cells #[.int .u32 0, .int .u32 0] 36)
  have h2 := heap_alloc2_new w (.cells (refv p) 25) (.cells #[.int .u32 0, .int .u32 0] 36)
  obtain ⟨W, hW⟩ : ∃ W, W = (w.alloc (.cells (refv p) 25)).alloc (.cells #[.int .u32 0, .int .u32 0] 36) := ⟨_, rfl⟩
  have hx : Ext w W := by rw [hW]; exact ((Ch.refl _ _).alloc _).alloc _
  rw [← hW] at h1 h2
  have HX := Lib.hid hx; have HW := Lib.hid hW; have HG2 := Lib.hid h2
  have d0 : W.cell? ⟨w.heap.size, 0, none⟩ = some (.int .u32 (p.1 : Nat)) := by rw [cell_of_row _ _ _ _ _ _ h1]; rfl
  have d1 : W.cell? ⟨w.heap.size, 1, none⟩ = some (.int .u32 (p.2 : Nat)) := by rw [cell_of_row _ _ _ _ _ _ h1]; rfl
  have b0 := fun w => build_rf1 w (p.1 : Nat) (p.2 : Nat)
  rw [hW] at d0 d1
  clear h1 h2 hx hW
  unfold refv at *
  go_enter Try.func17, Try.ntmps17
  go_wp2_with (rw [← HW.out]; refine wpList_store_rowTo rfl _ _ _ rfl rfl (w.heap.size + 1) #[.int .u32 (p.1 : Nat), .int .u32 (p.2 : Nat)] rfl rfl _ _ HG2.out infoRf3 rfl (by simp [Value.oneCell']) ?_)
  refine bodyPost_ret (results_cell_row rfl _ _ (w.heap.size + 1) _ _ _ _ rfl (setRow_heap _ _ _ _ _ _ HG2.out) Try.underlying36 rfl infoRf3) rfl ?_
  exact ⟨rfl, HX.out.grown (gby_setRow _ _ _) (fun k e => by cases e; exact .inr (Nat.le_succ _))⟩
/-- The walk through all: what it has captured. -/
theorem all_any (base : Nat) (c : Value) (l : List Rl) (w : World) (h : CatS base w c l) :
    Calls Try.prog 53 #[c] w fun e w' => ∃ g v, e = .returned (.func (.func 82) #[] #[.pointer (some ⟨g, 0, none⟩)]) ∧ Ext w w' ∧ w.heap.size ≤ g ∧ w'.heap[g]? = some (.cells #[v] 62 (0, 0)) ∧
      ∃ cs, RlC (OwnP base w') l cs ∧ w'.ownsRow base 39 5 v l.length cs := by
  obtain ⟨g, v, rfl, h2, h3, cs, h4, h5⟩ := h
  obtain ⟨ao, cap, rfl⟩ := owns_shape h5
  have c0 : w.cell? ⟨g, 0, none⟩ = some (.slice ao l.length cap) := by rw [cell_of_row _ _ _ _ _ _ h3]; rfl
  have H4 := Lib.hid h4; have H5 := Lib.hid h5
  clear h4 h5 h2 h3
  generalize l.length = n at *
  go_enter Try.func53, Try.ntmps53
  go_wp2
  go_ret
  exact ⟨w.heap.size, .slice ao n cap, rfl, (Ch.refl _ _).alloc _, Nat.le_refl _, heap_alloc_new w _, cs, H4.out.imp (OwnP.ext ((Ch.refl _ _).alloc _)), H5.out.ext ((Ch.refl _ _).alloc _)⟩
end Go.Proofs.Ytegclfpmgilnpaa
