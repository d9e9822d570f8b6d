import Derived.Test.YtegclfpmgilnpaaGreatGRelC
import Derived.Test.YtegclfpmgilnpaaGreatGRelA
namespace Go.Proofs.YtegclfpmgilnpaaGreat
open Go.RowKit Go.Lac
structure TkS (TD : TypeId) (w wr : World) (r g2 g3 : Nat) (s : RS) (q : Rl) (v z : Value) : Prop where
  only : Only r w wr
  isr : IsR wr r s
  res : wr.heap[g2]? = some (.cells (relv .zero z) TD (0, 0))
  box : wr.heap[g3]? = some (.cells (relv q v) TD (0, 0))
section
variable {TD : TypeId} {w wr w' : World} {r g2 g3 : Nat} {s s' : RS} {q : Rl} {v z : Value}
theorem heap_only {o : Obj} {g : Nat} (k : Only r wr w') (hne : g ≠ r) (h : wr.heap[g]? = some o) : w'.heap[g]? = some o := by
  rw [k.block g (Array.getElem?_eq_some_iff.1 h).1 hne]; exact h
theorem TkS.call (h : TkS TD w wr r g2 g3 s q v z) (k : Only r wr w') (hi : IsR w' r s') (h2 : g2 ≠ r) (h3 : g3 ≠ r) : TkS TD w w' r g2 g3 s' q v z :=
  ⟨h.only.trans k, hi, heap_only k h2 h.res, heap_only k h3 h.box⟩
theorem TkS.ext (h : TkS TD w wr r g2 g3 s q v z) (k : Ext wr w') : TkS TD w w' r g2 g3 s q v z :=
  ⟨h.only.trans k.ch, h.isr.ext k, heap_ext k h.res, heap_ext k h.box⟩
theorem TkS.set {q' : Rl} {v' : Value} (h : TkS TD w wr r g2 g3 s q v z) (i : Nat) (u : Value) (hr : r < w.heap.size) (h3 : w.heap.size ≤ g3) (h23 : g2 ≠ g3) (he : (relv q v).setIfInBounds i u = relv q' v') : TkS TD w (wr.setCell ⟨g3, i, none⟩ u) r g2 g3 s q' v' z := by
  refine ⟨h.only.setCell (.inr h3) _, h.isr.above ((Ch.refl _ _).setCell (.inl (show r < g3 by omega)) _), ?_, ?_⟩
  · rw [(gby_setCell wr ⟨g3, i, none⟩ u).block g2 (Array.getElem?_eq_some_iff.1 h.res).1 (fun e => h23 (Option.some.inj e))]; exact h.res
  · have := heap_setCell_same wr g3 i _ _ u h.box
    rwa [he] at this
theorem TkS.cells (h : TkS TD w wr r g2 g3 s q v z) : wr.cell? ⟨g3, 0, none⟩ = some (.int .u32 (q.oid : Nat)) ∧ wr.cell? ⟨g3, 1, none⟩ = some (.int .u32 (q.ver : Nat)) ∧ wr.cell? ⟨g3, 2, none⟩ = some (.string ⟨q.name.toArray⟩) ∧
    wr.cell? ⟨g3, 3, none⟩ = some (.int .u8 (q.ident : Nat)) ∧ wr.cell? ⟨g3, 4, none⟩ = some v := row_cells h.box
end
def RlTake (T : TypeId) (r : Nat) (q : Rl) (s : RS) (w : World) (e : Ending) (w' : World) : Prop :=
  ∃ cv, e = .returned (.agg (relv q cv)) ∧ Only r w w' ∧ IsR w' r s ∧ w'.ownsRow w.heap.size T 3 cv q.cols.length (colC q.cols)
def tkT (T : TypeId) (base r g3 : Nat) (v' : Value) (c : Col) (k : Nat) (l : List Col) : Nat → Tmp → Kn
  | 0 => fun d => match d with
    | 24 => .is (.pointer (some ⟨g3, 4, none⟩))
    | 25 => .is v'
    | 26 => .is (RPtr r)
    | _ => .any
  | 1 => fun d => match d with
    | 24 => .is (.pointer (some ⟨g3, 4, none⟩))
    | 25 => .is v'
    | 27 => .is (pcol c)
    | 28 => Kn.colS [c]
    | _ => .any
  | 2 => fun d => match d with
    | 29 => Kn.ownC base T (k + 1) (l ++ [c])
    | 30 => .is (.pointer (some ⟨g3, 4, none⟩))
    | _ => .any
  | _ => fun _ => .any
def tkF (TD T : TypeId) (w : World) (r g2 g3 : Nat) (s s' : RS) (q : Rl) (v' z : Value) (k : Nat) (l : List Col) (c : Col) : Nat → World → Prop
  | 0 => fun w2 => TkS TD w w2 r g2 g3 s q v' z ∧ w2.ownsRow w.heap.size T 3 v' k (colC l)
  | 1 => fun w2 => TkS TD w w2 r g2 g3 s' q v' z ∧ w2.ownsRow w.heap.size T 3 v' k (colC l)
  | 2 => fun w2 => TkS TD w w2 r g2 g3 s' q v' z
  | _ => fun w2 => ∃ vn, TkS TD w w2 r g2 g3 s' q vn z ∧ w2.ownsRow w.heap.size T 3 vn (k + 1) (colC (l ++ [c]))
end Go.Proofs.YtegclfpmgilnpaaGreat
namespace Go.Proofs.YtegclfpmgilnpaaGreat
open Go.RowKit Go.Lac
def DecPost (T : TypeId) (q : Rl) (er : Int) (w : World) (e : Ending) (w' : World) : Prop :=
  ∃ cv, e = .returned (.tuple #[.agg (relv q cv), .int .i64 er]) ∧ Ext w w' ∧ ColS w' cv q.cols
end Go.Proofs.YtegclfpmgilnpaaGreat
