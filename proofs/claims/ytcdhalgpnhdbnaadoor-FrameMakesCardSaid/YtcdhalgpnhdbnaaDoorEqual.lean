/-
  slices.Equal at bytes.
-/
import Derived.Test.YtcdhalgpnhdbnaaDoorProg
import Derived.Test.YtcdhalgpnhdbnaaDoorLib
import Derived.Test.YtcdhalgpnhdbnaaDoorInfo
import Derived.Test.YtcdhalgpnhdbnaaDoorCrcB
import Derived.WalkKit
import Derived.Lib.Hide
namespace Go.Proofs.YtcdhalgpnhdbnaaDoor
open Go.RowKit Go.Lac
theorem mixedEq : Tryd.prog.follows .mixedOrders = true := by kernel_rfl
end Go.Proofs.YtcdhalgpnhdbnaaDoor
