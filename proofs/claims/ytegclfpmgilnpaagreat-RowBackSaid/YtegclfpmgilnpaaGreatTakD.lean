import Derived.Test.YtegclfpmgilnpaaGreatValP
import Derived.Test.YtegclfpmgilnpaaGreatGRef
namespace Go.Proofs.YtegclfpmgilnpaaGreat
open Go.RowKit Go.Lac
def IsWQ (w : World) (q : Nat) (s : RS) : Prop :=
  ∃ ao cap n a, w.heap[q]? = some (.cells #[.slice ao n cap, .int .i64 (a : Nat), .int .i64 s.2] 34 (0, 0)) ∧ a ≤ n ∧ n ≤ 9223372036854775807 ∧ s.1.length = if s.2 = 0 then n - a else 0
theorem IsQ.weak {w : World} {q : Nat} {s : RS} (h : IsQ w q s) : IsWQ w q s := by
  obtain ⟨bs, a, ao, cap, c0, c1, c2, f1, f2, hrd, hle, hm, hs, hrow, hst⟩ := h.cells
  refine ⟨ao, cap, bs.length, a, hrow, hle, hm, ?_⟩
  rw [hs]
  split
  · rw [List.length_drop]
  · rfl
theorem IsWQ.lt {w : World} {q : Nat} {s : RS} (h : IsWQ w q s) : q < w.heap.size := by
  obtain ⟨_, _, _, _, h1, _⟩ := h
  exact (Array.getElem?_eq_some_iff.1 h1).1
theorem IsWQ.ext {w w' : World} {q : Nat} {s : RS} (h : IsWQ w q s) (k : Ext w w') : IsWQ w' q s := by
  have hlt := h.lt
  obtain ⟨ao, cap, n, a, h1, h2⟩ := h
  exact ⟨ao, cap, n, a, by rw [k.block q hlt (fun f => f)]; exact h1, h2⟩
theorem IsWQ.same {w w' : World} {q : Nat} {s : RS} (h : IsWQ w q s) (k : w'.heap[q]? = w.heap[q]?) : IsWQ w' q s := by
  obtain ⟨ao, cap, n, a, h1, h2⟩ := h
  exact ⟨ao, cap, n, a, by rw [k]; exact h1, h2⟩
end Go.Proofs.YtegclfpmgilnpaaGreat
