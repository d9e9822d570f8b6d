import Derived.Test.YtegclfpmgilnpaaGreatValL
namespace Go.Proofs.YtegclfpmgilnpaaGreat
open Go.RowKit Go.Lac
end Go.Proofs.YtegclfpmgilnpaaGreat
