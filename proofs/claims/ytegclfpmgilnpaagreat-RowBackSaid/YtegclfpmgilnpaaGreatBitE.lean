import Derived.Test.YtegclfpmgilnpaaGreatProg
import Derived.Test.YtegclfpmgilnpaaGreatGLib
import Derived.Test.YtegclfpmgilnpaaGreatBitC
import Derived.WalkKit
import Derived.Lib.Hide
namespace Go.Proofs.YtegclfpmgilnpaaGreat
open Go.RowKit Go.Lac
end Go.Proofs.YtegclfpmgilnpaaGreat
