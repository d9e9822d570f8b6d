import Derived.Test.YtegclfpmgilnpaaGreatProg
import Derived.Test.YtegclfpmgilnpaaGreatGLib
import Derived.Test.YtegclfpmgilnpaaGreatBitC
namespace Go.Proofs.YtegclfpmgilnpaaGreat
open Go.RowKit Go.Lac
def packC (l : List Bool) : Int := if l.length ≤ 16 then 0 else 17
def packL (l : List Bool) : List UInt8 := if l.length ≤ 16 then mapB l else []
end Go.Proofs.YtegclfpmgilnpaaGreat
