/-
  Relations: the document's Encode.
-/
import Derived.Test.YtegclfpmgilnpaaGRelB
import Derived.Test.YtegclfpmgilnpaaGRelC
import Derived.Test.YtegclfpmgilnpaaGPrim
namespace Go.Proofs.Ytegclfpmgilnpaa
open Go.RowKit Go.Lac

def OwB (B : Nat) (w : World) (v : Value) (bs : List UInt8) : Prop := w.ownsRow B 5 1 v bs.length (cellsB bs)
theorem OwB.ext {B : Nat} {w w' : World} {v : Value} {bs : List UInt8} (h : OwB B w v bs) (k : Ext w w') : OwB B w' v bs := World.ownsRow.ext h k
theorem OwB.join {B : Nat} {w : World} {v : Value} {a b : List UInt8} (h : w.ownsRow B 5 1 v (a.length + b.length) (cellsB a ++ cellsB b)) : OwB B w v (a ++ b) := by
  unfold OwB; rw [List.length_append, cellsB_append]; exact h
theorem OwB.own {B n : Nat} {w : World} {v : Value} {bs : List UInt8} (h : OwB B w v bs) (hl : bs.length = n) : w.ownsRow B 5 1 v n (cellsB bs) := hl ▸ h
theorem OwB.join' {B n : Nat} {w : World} {v : Value} {a b : List UInt8} (hl : a.length = n) (h : w.ownsRow B 5 1 v (n + b.length) (cellsB a ++ cellsB b)) : OwB B w v (a ++ b) := by
  subst hl; exact OwB.join h
theorem OwB.rd {B : Nat} {w : World} {v : Value} {bs : List UInt8} (h : OwB B w v bs) : Rd w v bs := Rd.ofOwns h
theorem OwB.shape {B : Nat} {w : World} {v : Value} {bs : List UInt8} (h : OwB B w v bs) : ∃ ao cap, v = .slice ao bs.length cap := owns_shape h
theorem row5 {w : World} {g : Nat} {a b c d e : Value} {T : TypeId} (h : w.heap[g]? = some (.cells #[a, b, c, d, e] T (0, 0))) :
    w.cell? ⟨g, 0, none⟩ = some a ∧ w.cell? ⟨g, 1, none⟩ = some b ∧ w.cell? ⟨g, 2, none⟩ = some c ∧ w.cell? ⟨g, 3, none⟩ = some d ∧ w.cell? ⟨g, 4, none⟩ = some e :=
  ⟨by rw [cell_of_row _ _ _ _ _ _ h]; rfl, by rw [cell_of_row _ _ _ _ _ _ h]; rfl, by rw [cell_of_row _ _ _ _ _ _ h]; rfl, by rw [cell_of_row _ _ _ _ _ _ h]; rfl, by rw [cell_of_row _ _ _ _ _ _ h]; rfl⟩
theorem row3 {w : World} {g : Nat} {a b c : Value} {T : TypeId} (h : w.heap[g]? = some (.cells #[a, b, c] T (0, 0))) :
    w.cell? ⟨g, 0, none⟩ = some a ∧ w.cell? ⟨g, 1, none⟩ = some b ∧ w.cell? ⟨g, 2, none⟩ = some c :=
  ⟨by rw [cell_of_row _ _ _ _ _ _ h]; rfl, by rw [cell_of_row _ _ _ _ _ _ h]; rfl, by rw [cell_of_row _ _ _ _ _ _ h]; rfl⟩
theorem own_oneN (w : World) {n : Nat} (h : n < 256) : OwB w.heap.size (w.alloc (.cells #[.int .u8 (n : Nat)] 5)) (.slice (some ⟨w.heap.size, 0, none⟩) 1 1) [UInt8.ofNat n] := by
  have h2 : cellsB [UInt8.ofNat n] = [.int .u8 (n : Nat)] := by simp only [cellsB, List.map_cons, List.map_nil]; rw [cellB_ofNat h]
  unfold OwB
  rw [h2]
  exact World.ownsRow_lit w #[.int .u8 (n : Nat)] 1 (Nat.le_refl _) (by decide) rfl
theorem own_twoN (w : World) {n m : Nat} (h : n < 256) (h' : m < 256) : OwB w.heap.size (w.alloc (.cells #[.int .u8 (n : Nat), .int .u8 (m : Nat)] 5)) (.slice (some ⟨w.heap.size, 0, none⟩) 2 2) [UInt8.ofNat n, UInt8.ofNat m] := by
  have h2 : cellsB [UInt8.ofNat n, UInt8.ofNat m] = [.int .u8 (n : Nat), .int .u8 (m : Nat)] := by simp only [cellsB, List.map_cons, List.map_nil]; rw [cellB_ofNat h, cellB_ofNat h']
  unfold OwB
  rw [h2]
  exact World.ownsRow_lit w #[.int .u8 (n : Nat), .int .u8 (m : Nat)] 2 (Nat.le_refl _) (by decide) rfl

end Go.Proofs.Ytegclfpmgilnpaa
