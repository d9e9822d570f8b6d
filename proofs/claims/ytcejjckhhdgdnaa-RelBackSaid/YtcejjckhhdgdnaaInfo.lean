/-
  What the table of types says.
-/
import Derived.Test.YtcejjckhhdgdnaaProg
import Derived.Test.YtcejjckhhdgdnaaLib
import Derived.WalkKit
namespace Go.Proofs.Ytcejjckhhdgdnaa
open Go.RowKit Go.Lac
theorem infoU8 : (Try.prog.info? 5).map (fun i => (i.zero, i.size, i.bytes)) = some (some (.int .u8 0), 1, 1) := by kernel_rfl
end Go.Proofs.Ytcejjckhhdgdnaa
