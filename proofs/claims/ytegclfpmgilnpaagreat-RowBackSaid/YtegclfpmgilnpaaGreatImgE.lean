import Derived.Test.YtegclfpmgilnpaaGreatImgD
namespace Go.Proofs.YtegclfpmgilnpaaGreat
open Go.RowKit Go.Lac
def GreatR (l : List Cel) (r : Rl) : Prop := (∃ c ∈ l, 3000 < c.v.t.length) ∨ (∃ q ∈ r.cols, 60 < q.name.length) ∨ 20 < l.length ∨ 20 < r.cols.length ∨ 60 < r.name.length
instance (l : List Cel) (r : Rl) : Decidable (GreatR l r) := inferInstanceAs (Decidable ((∃ c ∈ l, 3000 < c.v.t.length) ∨ (∃ q ∈ r.cols, 60 < q.name.length) ∨ 20 < l.length ∨ 20 < r.cols.length ∨ 60 < r.name.length))
end Go.Proofs.YtegclfpmgilnpaaGreat
