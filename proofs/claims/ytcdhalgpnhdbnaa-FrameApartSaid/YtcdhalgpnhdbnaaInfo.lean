/-
  What the table of types says.
-/
import Derived.Test.YtcdhalgpnhdbnaaProg
import Derived.Test.YtcdhalgpnhdbnaaLib
import Derived.WalkKit
namespace Go.Proofs.Ytcdhalgpnhdbnaa
open Go.RowKit Go.Lac
theorem infoU8 : (Try.prog.info? 5).map (fun i => (i.zero, i.size, i.bytes)) = some (some (.int .u8 0), 1, 1) := by kernel_rfl
end Go.Proofs.Ytcdhalgpnhdbnaa
