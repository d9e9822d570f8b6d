/-
  New, Err, Kept, At: the walks.
-/
import Derived.Test.YtoggnmfjkbnopaaScA
namespace Go.Proofs.Ytoggnmfjkbnopaa
open Go.RowKit Go.Lac

theorem fld83_0 (w : World) (b : Nat) : (Instr.fieldAt 83 (.pointer (some ⟨b, 0, none⟩)) 0).run Try.prog w = .ok (.pointer (some ⟨b, 0, none⟩)) w := by kernel_rfl
theorem fld83_1 (w : World) (b : Nat) : (Instr.fieldAt 83 (.pointer (some ⟨b, 0, none⟩)) 1).run Try.prog w = .ok (.pointer (some ⟨b, 1, none⟩)) w := by kernel_rfl
theorem fld83_2 (w : World) (b : Nat) : (Instr.fieldAt 83 (.pointer (some ⟨b, 0, none⟩)) 2).run Try.prog w = .ok (.pointer (some ⟨b, 2, none⟩)) w := by kernel_rfl

theorem scErr_any (w : World) (r g : Nat) (k : List UInt8) (a e : Nat) (h : IsS w r g k a e) :
    Calls Try.prog 16 #[.pointer (some ⟨r, 0, none⟩)] w fun q w' => q = .returned (.int .i64 (e : Nat)) ∧ w' = w := by
  have hc : w.cell? ⟨r, 2, none⟩ = some (.int .i64 (e : Nat)) := by rw [cell_of_row _ _ _ _ _ _ h.cells]; rfl
  go_enter Try.func16, Try.ntmps16
  go_wp2
  go_ret
  exact ⟨rfl, rfl⟩
theorem scAt_any (w : World) (r g : Nat) (k : List UInt8) (a e : Nat) (h : IsS w r g k a e) :
    Calls Try.prog 20 #[.pointer (some ⟨r, 0, none⟩)] w fun q w' => q = .returned (.int .u64 (a : Nat)) ∧ w' = w := by
  have hc : w.cell? ⟨r, 1, none⟩ = some (.int .u64 (a : Nat)) := by rw [cell_of_row _ _ _ _ _ _ h.cells]; rfl
  go_enter Try.func20, Try.ntmps20
  go_wp2
  go_ret
  exact ⟨rfl, rfl⟩
theorem scKept_any (w : World) (r g : Nat) (k : List UInt8) (a e : Nat) (h : IsS w r g k a e) :
    Calls Try.prog 17 #[.pointer (some ⟨r, 0, none⟩)] w fun q w' => q = .returned (.int .i64 (k.length : Nat)) ∧ w' = w := by
  have hc : w.cell? ⟨r, 0, none⟩ = some (if e = 0 then .slice (some ⟨g, 0, none⟩) k.length 4105 else .slice none 0 0) := by rw [cell_of_row _ _ _ _ _ _ h.cells]; rfl
  by_cases he : e = 0
  · rw [if_pos he] at hc
    generalize k.length = n at *
    go_enter Try.func17, Try.ntmps17
    go_wp2
    go_ret
    exact ⟨rfl, rfl⟩
  · rw [if_neg he] at hc
    rw [h.none he]
    go_enter Try.func17, Try.ntmps17
    go_wp2
    go_ret
    exact ⟨rfl, rfl⟩

theorem mk4105 : ∃ cs : Array Value, cs.size = 4105 ∧ ∀ w : World, (Instr.makeSlice 22 (.int .i64 0) (.int .i64 4105)).run Try.prog w = .ok (.slice (some ⟨w.heap.size, 0, none⟩) 0 4105) (w.alloc (.cells cs 5)) := by
  obtain ⟨i, hi, hz, hsz, hby⟩ := info_parts infoU8
  exact ⟨_, by rw [size_madeCells]; rw [hsz]; rfl, fun w => run_make w 22 5 i (.int .u8 0) Try.underlying22 hi hz .i64 .i64 0 4105 (by decide) (by decide) (by rw [hby]; decide) (by decide)⟩
theorem new_any (w : World) :
    Calls Try.prog 14 #[] w fun q w' => ∃ r g, q = .returned (.pointer (some ⟨r, 0, none⟩)) ∧ Ext w w' ∧ w.heap.size ≤ r ∧ w.heap.size ≤ g ∧ IsS w' r g [] 0 0 := by
  obtain ⟨cs, hcs, hm⟩ := mk4105
  go_enter Try.func14, Try.ntmps14
  go_wp2
  go_ret
  refine ⟨w.heap.size + 1, w.heap.size, rfl, ((Ch.refl _ _).alloc _).alloc _, by omega, Nat.le_refl _, ?_, ⟨rfl, .inr ⟨w.heap.size, 4105, cs, rfl, Nat.le_refl _, heap_alloc2_old _ _ _, by decide, by decide, by rw [hcs], by simp [cellsB]⟩⟩, by omega, fun h => absurd rfl h⟩
  exact heap_alloc2_new _ _ _
end Go.Proofs.Ytoggnmfjkbnopaa
