/-
  What the table of types says.
-/
import Derived.Test.YtcdhalgpnhdbnaaDoorProg
import Derived.Test.YtcdhalgpnhdbnaaDoorLib
import Derived.WalkKit
namespace Go.Proofs.YtcdhalgpnhdbnaaDoor
open Go.RowKit Go.Lac
theorem infoU8 : (Tryd.prog.info? 5).map (fun i => (i.zero, i.size, i.bytes)) = some (some (.int .u8 0), 1, 1) := by kernel_rfl
end Go.Proofs.YtcdhalgpnhdbnaaDoor
