import Derived.Test.YtegclfpmgilnpaaGreatGRelB
import Derived.Test.YtegclfpmgilnpaaGreatGRelC
import Derived.Test.YtegclfpmgilnpaaGreatGPrim
namespace Go.Proofs.YtegclfpmgilnpaaGreat
open Go.RowKit Go.Lac
def OwB (B : Nat) (w : World) (v : Value) (bs : List UInt8) : Prop := w.ownsRow B 5 1 v bs.length (cellsB bs)
theorem OwB.ext {B : Nat} {w w' : World} {v : Value} {bs : List UInt8} (h : OwB B w v bs) (k : Ext w w') : OwB B w' v bs := World.ownsRow.ext h k
theorem OwB.own {B n : Nat} {w : World} {v : Value} {bs : List UInt8} (h : OwB B w v bs) (hl : bs.length = n) : w.ownsRow B 5 1 v n (cellsB bs) := hl ▸ h
theorem OwB.rd {B : Nat} {w : World} {v : Value} {bs : List UInt8} (h : OwB B w v bs) : Rd w v bs := Rd.ofOwns h
theorem OwB.shape {B : Nat} {w : World} {v : Value} {bs : List UInt8} (h : OwB B w v bs) : ∃ ao cap, v = .slice ao bs.length cap := owns_shape h
theorem row5 {w : World} {g : Nat} {a b c d e : Value} {T : TypeId} (h : w.heap[g]? = some (.cells #[a, b, c, d, e] T (0, 0))) :
    w.cell? ⟨g, 0, none⟩ = some a ∧ w.cell? ⟨g, 1, none⟩ = some b ∧ w.cell? ⟨g, 2, none⟩ = some c ∧ w.cell? ⟨g, 3, none⟩ = some d ∧ w.cell? ⟨g, 4, none⟩ = some e :=
  ⟨by rw [cell_of_row _ _ _ _ _ _ h]; rfl, by rw [cell_of_row _ _ _ _ _ _ h]; rfl, by rw [cell_of_row _ _ _ _ _ _ h]; rfl, by rw [cell_of_row _ _ _ _ _ _ h]; rfl, by rw [cell_of_row _ _ _ _ _ _ h]; rfl⟩
end Go.Proofs.YtegclfpmgilnpaaGreat
