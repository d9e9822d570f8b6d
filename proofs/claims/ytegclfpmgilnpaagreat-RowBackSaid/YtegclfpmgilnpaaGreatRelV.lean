import Derived.Test.YtegclfpmgilnpaaGreatGRelC
import Derived.Test.YtegclfpmgilnpaaGreatGRelD
import Derived.Test.YtegclfpmgilnpaaGreatGRef
namespace Go.Proofs.YtegclfpmgilnpaaGreat
open Go.RowKit Go.Lac
theorem IsQ.above {w w' : World} {q : Nat} {s : RS} (h : IsQ w q s) (k : Ch (fun i => q < i) w w') : IsQ w' q s := by
  have hlt := h.lt
  obtain ⟨lv, bs, a, h1, ⟨h2, h5⟩, h3⟩ := h
  refine ⟨lv, bs, a, by rw [k.block q hlt (fun f => by omega)]; exact h1, ⟨?_, h5⟩, h3⟩
  obtain ⟨ao, cap, g1, g2, g3, g4, g5⟩ := h2
  refine ⟨ao, cap, g1, g2, g3, g4, fun x hx j c hc => ?_⟩
  obtain ⟨b, off, rfl, g6⟩ := g5 x hx j c hc
  refine ⟨b, off, rfl, k.cell (p := ⟨b, off + j, none⟩) ?_ c g6⟩
  have hne : bs ≠ [] := fun e => by subst e; simp [cellsB] at hc
  have := h5.2 hne ⟨b, off, none⟩ bs.length cap (by rw [g1, hx])
  show ¬ q < b
  simp only at this
  omega
theorem IsQ.row {w : World} {q : Nat} {s : RS} (h : IsQ w q s) : ∃ c, w.heap[q]? = some (.cells c 34 (0, 0)) := by
  obtain ⟨lv, bs, a, h1, _⟩ := h; exact ⟨_, h1⟩
structure TqS (TD : TypeId) (w wr : World) (q g2 g3 : Nat) (s : RS) (x : Rl) (v z : Value) : Prop where
  ext : Ext w wr
  isq : IsQ wr q s
  res : wr.heap[g2]? = some (.cells (relv .zero z) TD (0, 0))
  box : wr.heap[g3]? = some (.cells (relv x v) TD (0, 0))
section
variable {TD : TypeId} {w wr w' : World} {q g2 g3 : Nat} {s s' : RS} {x : Rl} {v z : Value}
theorem TqS.call (h : TqS TD w wr q g2 g3 s x v z) (k : Only q wr w') (hi : IsQ w' q s') (hq : w.heap.size ≤ q) (h2 : g2 ≠ q) (h3 : g3 ≠ q) : TqS TD w w' q g2 g3 s' x v z :=
  ⟨h.ext.transOnly k hq, hi, heap_only k h2 h.res, heap_only k h3 h.box⟩
theorem TqS.set {x' : Rl} {v' : Value} (h : TqS TD w wr q g2 g3 s x v z) (i : Nat) (u : Value) (hr : q < g3) (h3 : w.heap.size ≤ g3) (h23 : g2 ≠ g3) (he : (relv x v).setIfInBounds i u = relv x' v') : TqS TD w (wr.setCell ⟨g3, i, none⟩ u) q g2 g3 s x' v' z := by
  refine ⟨h.ext.setCell (.inr h3) _, h.isq.above ((Ch.refl _ _).setCell (.inl hr) _), ?_, ?_⟩
  · rw [(gby_setCell wr ⟨g3, i, none⟩ u).block g2 (Array.getElem?_eq_some_iff.1 h.res).1 (fun e => h23 (Option.some.inj e))]; exact h.res
  · have := heap_setCell_same wr g3 i _ _ u h.box
    rwa [he] at this
theorem TqS.cells (h : TqS TD w wr q g2 g3 s x v z) : wr.cell? ⟨g3, 0, none⟩ = some (.int .u32 (x.oid : Nat)) ∧ wr.cell? ⟨g3, 1, none⟩ = some (.int .u32 (x.ver : Nat)) ∧ wr.cell? ⟨g3, 2, none⟩ = some (.string ⟨x.name.toArray⟩) ∧
    wr.cell? ⟨g3, 3, none⟩ = some (.int .u8 (x.ident : Nat)) ∧ wr.cell? ⟨g3, 4, none⟩ = some v := row_cells h.box
end
end Go.Proofs.YtegclfpmgilnpaaGreat
