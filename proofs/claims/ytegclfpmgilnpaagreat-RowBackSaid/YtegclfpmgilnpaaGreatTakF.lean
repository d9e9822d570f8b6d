import Derived.Test.YtegclfpmgilnpaaGreatTakD
import Derived.Test.YtegclfpmgilnpaaGreatValF
import Derived.Test.YtegclfpmgilnpaaGreatGVal
namespace Go.Proofs.YtegclfpmgilnpaaGreat
open Go.RowKit Go.Lac
def TqPost (q : Nat) (v : Val) (s : RS) (w : World) (e : Ending) (w' : World) : Prop := e = .returned (rv v) ∧ Only q w w' ∧ IsQ w' q s
end Go.Proofs.YtegclfpmgilnpaaGreat
