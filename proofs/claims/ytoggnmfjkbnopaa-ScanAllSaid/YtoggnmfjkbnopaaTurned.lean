/-
  The reference: bits turned.
-/
import Derived.Test.YtoggnmfjkbnopaaProg
import Derived.Test.YtoggnmfjkbnopaaLib
import Derived.Test.YtoggnmfjkbnopaaInfo
import Derived.Test.YtoggnmfjkbnopaaCrcB
import Derived.Test.YtoggnmfjkbnopaaEqual
import Derived.WalkKit
import Derived.Lib.Hide
import Derived.Laws.OwnMore
import Derived.Laws.BitsAllLaws
import Derived.Outline
namespace Go.Proofs.Ytoggnmfjkbnopaa
open Go.RowKit Go.Lac

def turnT (g n c1 a k q x j : Nat) (y : Int) : Tmp → Kn
  | 36 => .is (.slice (some ⟨g, 0, none⟩) n c1)
  | 37 => .is (.int .i64 ((a : Int) + (k : Nat)))
  | 38 => .is (.int .i64 (q : Nat))
  | 39 => .is (.slice (some ⟨g, 0, none⟩) n c1)
  | 40 => .is (.int .i64 ((a : Int) + (k : Nat)))
  | 41 => .is (.int .i64 (q : Nat))
  | 42 => .is (.pointer (some ⟨g, q, none⟩))
  | 43 => .is (.int .u8 (x : Nat))
  | 44 => .is (.int .i64 ((a : Int) + (k : Nat)))
  | 45 => .is (.int .i64 (j : Nat))
  | 46 => .is (.int .u8 ((2 ^ j : Nat) : Int))
  | 47 => .is (.int .u8 y)
  | 48 => .is (.pointer (some ⟨g, q, none⟩))
  | _ => .any

theorem turnT_pure (g n c1 a k q x j : Nat) (y : Int) : ∀ d, (turnT g n c1 a k q x j y d).pure := by
  intro d
  unfold turnT
  split <;> first | exact Kn.is_pure _ | exact Kn.any_pure

theorem turnOne_cells (l : List UInt8) (p : Nat) (h : p / 8 < l.length) :
    (cellsB l)[p / 8]? = some (.int .u8 ((l[p / 8].toNat : Nat) : Int)) ∧ cellsB (turnOne l p) = (cellsB l).set (p / 8) (.int .u8 ((l[p / 8].toNat ^^^ 2 ^ (p % 8) : Nat) : Int)) := by
  refine ⟨by simp [cellsB, h, cellB], ?_⟩
  unfold turnOne cellsB
  rw [List.map_set]
  congr 1
  have hg : l.getD (p / 8) 0 = l[p / 8] := by simp [List.getD_eq_getElem?_getD, List.getElem?_eq_getElem h]
  have h1 : (UInt8.ofNat (2 ^ (p % 8))).toNat = 2 ^ (p % 8) := by
    have hp : 2 ^ (p % 8) ≤ 2 ^ 7 := Nat.pow_le_pow_right (by omega) (by omega)
    rw [UInt8.toNat_ofNat']
    exact Nat.mod_eq_of_lt (by omega)
  rw [hg]
  unfold cellB
  rw [UInt8.toNat_xor, h1]

theorem pow_u8 : ∀ j, j < 8 → IntKind.u8.wrap ((2 : Int) ^ j) = (2 : Int) ^ j := by decide
theorem owns_addr {w : World} {base : Nat} {e : TypeId} {size : Nat} {a : Option Addr} {n cap : Nat} {xs : List Value} (h : w.ownsRow base e size (.slice a n cap) n xs) (hn : 0 < n) :
    ∃ g, a = some ⟨g, 0, none⟩ ∧ base ≤ g := by
  rcases h.2 with ⟨h', _⟩ | ⟨g, cap', cur, h', hb, _⟩
  · cases h'; omega
  · cases h'; exact ⟨g, rfl, hb⟩

/-- The bytes so far. -/
def TurnAt (bs : List UInt8) (a pat : Nat) (v1 : Value) (w : World) (k : Nat) (wr : World) : Prop :=
  Ext w wr ∧ wr.ownsRow w.heap.size 5 1 v1 bs.length (cellsB (turned bs a pat k))

end Go.Proofs.Ytoggnmfjkbnopaa
