/-
  The examples of the chapter hold (lacunalaw01.awake).
-/
import Derived.Test.YteechmgcjfnjbaaProg
import Derived.Test.YteechmgcjfnjbaaLib
import Derived.Test.YteechmgcjfnjbaaPrimA
import Derived.Test.YteechmgcjfnjbaaPrimB
import Derived.Test.YteechmgcjfnjbaaPrimC
import Derived.Test.YteechmgcjfnjbaaPrimD
import Derived.Test.YteechmgcjfnjbaaPrimE
import Derived.WalkKit
import Derived.Lib.Hide
namespace Go.Proofs.Yteechmgcjfnjbaa
open Go.RowKit Go.Lac

theorem mixed : Try.prog.follows .mixedOrders = true := by kernel_rfl

def awakeT (r : Nat) : Tmp → Kn
  | 9 => .is (.int .u64 0)
  | 10 => .is (.bool true)
  | 11 => .is (.bool true)
  | 12 => .is (.pointer (some ⟨r, 0, none⟩))
  | 13 => .is (.int .i64 4)
  | 14 => .is (.bool true)
  | 15 => .is (.bool true)
  | 16 => .is (.bool true)
  | 17 => .rd (sev 300)
  | 18 => .is (strV [172, 2])
  | 19 => .rd [172, 2]
  | 20 => .is (strV [172, 2])
  | 21 => .is (.bool true)
  | 22 => .is (.bool true)
  | 23 => .is (.bool true)
  | 24 => .rd (sev 1)
  | 25 => .is (strV [1])
  | 26 => .is (.bool true)
  | 27 => .is (.bool true)
  | 0 => .is (.bool true)
  | _ => .any

theorem sev300 : sev 300 = [172, 2] := by rw [sev_big (by decide), sev_small (by decide)]; rfl
theorem sev1 : sev 1 = [1] := by rw [sev_small (by decide)]; rfl

end Go.Proofs.Yteechmgcjfnjbaa
