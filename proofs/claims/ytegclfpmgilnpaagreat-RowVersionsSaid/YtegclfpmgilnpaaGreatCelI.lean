import Derived.Test.YtegclfpmgilnpaaGreatCelC
namespace Go.Proofs.YtegclfpmgilnpaaGreat
open Go.RowKit Go.Lac
end Go.Proofs.YtegclfpmgilnpaaGreat
