/-
  Own: a frame of the document, as the program's; the chapter's example: the walk.
-/
import Derived.Test.YtoggnmfjkbnopaaProg
import Derived.Test.YtoggnmfjkbnopaaLib
import Derived.Test.YtoggnmfjkbnopaaLibC
import Derived.Test.YtoggnmfjkbnopaaInfo
import Derived.Test.YtoggnmfjkbnopaaLibD
import Derived.Test.YtoggnmfjkbnopaaEqual
import Derived.Test.YtoggnmfjkbnopaaCrcF
import Derived.Test.YtoggnmfjkbnopaaFrB
import Derived.WalkKit
import Derived.Lib.Hide
import Derived.Outline
import Derived.Laws.BitsAllLaws
namespace Go.Proofs.Ytoggnmfjkbnopaa
open Go.RowKit Go.Lac

theorem field44_0 (w : World) (b : Nat) : (Instr.fieldAt 44 (.pointer (some ⟨b, 0, none⟩)) 0).run Try.prog w = .ok (.pointer (some ⟨b, 0, none⟩)) w := by kernel_rfl
theorem field44_1 (w : World) (b : Nat) : (Instr.fieldAt 44 (.pointer (some ⟨b, 0, none⟩)) 1).run Try.prog w = .ok (.pointer (some ⟨b, 1, none⟩)) w := by kernel_rfl
theorem field44_2 (w : World) (b : Nat) : (Instr.fieldAt 44 (.pointer (some ⟨b, 0, none⟩)) 2).run Try.prog w = .ok (.pointer (some ⟨b, 2, none⟩)) w := by kernel_rfl
theorem build40 (w : World) (x y : Nat) (a : Option Addr) (n c : Nat) : (Instr.build 48 #[(0, .int .u8 (x : Nat)), (1, .int .u8 (y : Nat)), (2, .slice a n c)]).run Try.prog w = .ok (.agg #[.int .u8 (x : Nat), .int .u8 (y : Nat), .slice a n c]) w := by kernel_rfl
theorem build44 (w : World) (x y : Nat) (a : Option Addr) (n c : Nat) : (Instr.build 44 #[(0, .int .u8 (x : Nat)), (1, .int .u8 (y : Nat)), (2, .slice a n c)]).run Try.prog w = .ok (.agg #[.int .u8 (x : Nat), .int .u8 (y : Nat), .slice a n c]) w := by kernel_rfl
theorem empty23 (w : World) : (Instr.buildSlice 22 0 #[]).run Try.prog w = .ok (.slice (some ⟨w.heap.size, 0, none⟩) 0 0) (w.alloc (.cells #[] 5)) := by kernel_rfl

def ownT (g1 B x y : Nat) (ao : Option Addr) (n cap : Nat) (p : List UInt8) : Tmp → Kn
  | 3 => .is (.pointer (some ⟨g1, 0, none⟩))
  | 4 => .is (.int .u8 (x : Nat))
  | 5 => .is (.pointer (some ⟨g1, 1, none⟩))
  | 6 => .is (.int .u8 (y : Nat))
  | 7 => Kn.empty B 5
  | 8 => .is (.pointer (some ⟨g1, 2, none⟩))
  | 9 => .is (.slice ao n cap)
  | 10 => .own B 5 n (cellsB p)
  | 11 => .fr B 5 x y n (cellsB p)
  | _ => .any

/-- A record of these is handed back. -/
def FrPost (x y : Nat) (p : List UInt8) (w : World) (e : Ending) (w' : World) : Prop :=
  ∃ t, e = .returned (.agg #[.int .u8 (x : Nat), .int .u8 (y : Nat), t]) ∧ Ext w w' ∧ Rd w' t p

end Go.Proofs.Ytoggnmfjkbnopaa
