/-
  No cell of these rows narrows 'for every input' (looked for: loops, veiled, ifaces, maps, wideKeys, modest, calm, conditions, laid).
  DERIVED. THE GIVEN ROWS OF THIS SEAT. 9 by the template 'for every input the law returns true; each argument reads behind the call as it read before'; 0 by the template 'total and deterministic' (their statements: YtcejjckhhdgdnaaTotals.lean).
  GIVEN WITH THE SEED: the statements are not yours to turn. If you find one false, say at which input.
  Laid BY PROGRAM, IN A SANDBOX (cutbox-rows.mjs): the forced cells as the released guide's own fill.sh prints them over the translation a87500775568efbf… (all of the seat's roots in one cut). By AI agents, Wed Nov 11 2026. No macro, syntax, notation, axiom, sorry.
-/
import Derived.Test.YtcejjckhhdgdnaaChecked
import GoSem.Claim
import GoSem.ClaimJoined
import GoSem.ClaimMapViews
import Derived.JoinedTies
import Derived.KernelRfl
namespace Go.Proofs.Ytcejjckhhdgdnaa
/- THE CELL 'sum', in the pinned program and in every row, IS THE sha256 OF THE DUMP (.gsa) THAT YtcejjckhhdgdnaaProg.lean LOADS. Nothing in Lean hashes anything: it is a label: what it is worth is what the hold of that sum in a sandbox is worth. -/
noncomputable def Try.pinned : Pinned := { name := "ytcejjckhhdgdnaa", sum := "a87500775568efbfef98eb9f80efa0e4a35bb2ca88a764f08fe7f36d3b8c9f11", checked := Try.checked }
namespace Rows
def none {H : Type} : Left H := { results := [], args := [] }

/-- 'lacunalaw08.RelTells': WHATEVER THE INPUT: true; the input reads as it did. -/
def relTellsSpec : ChangeSpec := { name := "relTells", fn := fun _ => fun
  | [d1, d2] => { results := [.lit (.bool true)], args := [d1, d2] }
  | _ => none }
def relTellsRow : OpenClaim := { program := "ytcejjckhhdgdnaa", sum := "a87500775568efbfef98eb9f80efa0e4a35bb2ca88a764f08fe7f36d3b8c9f11", func := "lacuna/lacunalaw08.RelTells", spec := "relTells", inPlace := ["math.Float64bits"], unfollowed := true, recurses := true, apart := false }
def RelTellsSaid : Prop := relTellsRow.holds Try.pinned (OpenSpec.ofChange relTellsSpec)

/-- ITS FALSE NEIGHBOUR: 'it returns false'. Refute it at one input. -/
def relTellsWrong : ChangeSpec := { name := "relTells", fn := fun _ => fun
  | [d1, d2] => { results := [.lit (.bool false)], args := [d1, d2] }
  | _ => none }
def RelTellsWrongFalsely : Prop := relTellsRow.holds Try.pinned (OpenSpec.ofChange relTellsWrong)

/-- 'lacunalaw08.RelDecodes': WHATEVER THE INPUT: true; the input reads as it did. -/
def relDecodesSpec : ChangeSpec := { name := "relDecodes", fn := fun _ => fun
  | [d] => { results := [.lit (.bool true)], args := [d] }
  | _ => none }
def relDecodesRow : OpenClaim := { program := "ytcejjckhhdgdnaa", sum := "a87500775568efbfef98eb9f80efa0e4a35bb2ca88a764f08fe7f36d3b8c9f11", func := "lacuna/lacunalaw08.RelDecodes", spec := "relDecodes", inPlace := ["math.Float64bits"], unfollowed := true, recurses := true, apart := false }
def RelDecodesSaid : Prop := relDecodesRow.holds Try.pinned (OpenSpec.ofChange relDecodesSpec)

/-- ITS FALSE NEIGHBOUR: 'it returns false'. Refute it at one input. -/
def relDecodesWrong : ChangeSpec := { name := "relDecodes", fn := fun _ => fun
  | [d] => { results := [.lit (.bool false)], args := [d] }
  | _ => none }
def RelDecodesWrongFalsely : Prop := relDecodesRow.holds Try.pinned (OpenSpec.ofChange relDecodesWrong)

/-- 'lacunalaw08.RelBack': WHATEVER THE INPUT: true; the input reads as it did. -/
def relBackSpec : ChangeSpec := { name := "relBack", fn := fun _ => fun
  | [d1, d2, d3] => { results := [.lit (.bool true)], args := [d1, d2, d3] }
  | _ => none }
def relBackRow : OpenClaim := { program := "ytcejjckhhdgdnaa", sum := "a87500775568efbfef98eb9f80efa0e4a35bb2ca88a764f08fe7f36d3b8c9f11", func := "lacuna/lacunalaw08.RelBack", spec := "relBack", inPlace := ["math.Float64bits"], unfollowed := true, recurses := true, apart := false }
def RelBackSaid : Prop := relBackRow.holds Try.pinned (OpenSpec.ofChange relBackSpec)

/-- ITS FALSE NEIGHBOUR: 'it returns false'. Refute it at one input. -/
def relBackWrong : ChangeSpec := { name := "relBack", fn := fun _ => fun
  | [d1, d2, d3] => { results := [.lit (.bool false)], args := [d1, d2, d3] }
  | _ => none }
def RelBackWrongFalsely : Prop := relBackRow.holds Try.pinned (OpenSpec.ofChange relBackWrong)

/-- 'lacunalaw08.RelOrder': WHATEVER THE INPUT: true; the input reads as it did. -/
def relOrderSpec : ChangeSpec := { name := "relOrder", fn := fun _ => fun
  | [d1, d2, d3] => { results := [.lit (.bool true)], args := [d1, d2, d3] }
  | _ => none }
def relOrderRow : OpenClaim := { program := "ytcejjckhhdgdnaa", sum := "a87500775568efbfef98eb9f80efa0e4a35bb2ca88a764f08fe7f36d3b8c9f11", func := "lacuna/lacunalaw08.RelOrder", spec := "relOrder", inPlace := ["math.Float64bits"], unfollowed := true, recurses := true, apart := false }
def RelOrderSaid : Prop := relOrderRow.holds Try.pinned (OpenSpec.ofChange relOrderSpec)

/-- ITS FALSE NEIGHBOUR: 'it returns false'. Refute it at one input. -/
def relOrderWrong : ChangeSpec := { name := "relOrder", fn := fun _ => fun
  | [d1, d2, d3] => { results := [.lit (.bool false)], args := [d1, d2, d3] }
  | _ => none }
def RelOrderWrongFalsely : Prop := relOrderRow.holds Try.pinned (OpenSpec.ofChange relOrderWrong)

/-- 'lacunalaw09.CatalogRuns': WHATEVER THE INPUT: true; the input reads as it did. -/
def catalogRunsSpec : ChangeSpec := { name := "catalogRuns", fn := fun _ => fun
  | [d1, d2, d3] => { results := [.lit (.bool true)], args := [d1, d2, d3] }
  | _ => none }
def catalogRunsRow : OpenClaim := { program := "ytcejjckhhdgdnaa", sum := "a87500775568efbfef98eb9f80efa0e4a35bb2ca88a764f08fe7f36d3b8c9f11", func := "lacuna/lacunalaw09.CatalogRuns", spec := "catalogRuns", inPlace := ["math.Float64bits"], unfollowed := true, recurses := true, apart := false }
def CatalogRunsSaid : Prop := catalogRunsRow.holds Try.pinned (OpenSpec.ofChange catalogRunsSpec)

/-- ITS FALSE NEIGHBOUR: 'it returns false'. Refute it at one input. -/
def catalogRunsWrong : ChangeSpec := { name := "catalogRuns", fn := fun _ => fun
  | [d1, d2, d3] => { results := [.lit (.bool false)], args := [d1, d2, d3] }
  | _ => none }
def CatalogRunsWrongFalsely : Prop := catalogRunsRow.holds Try.pinned (OpenSpec.ofChange catalogRunsWrong)

/-- 'lacunalaw09.CatalogOf': WHATEVER THE INPUT: true; the input reads as it did. -/
def catalogOfSpec : ChangeSpec := { name := "catalogOf", fn := fun _ => fun
  | [d1, d2] => { results := [.lit (.bool true)], args := [d1, d2] }
  | _ => none }
def catalogOfRow : OpenClaim := { program := "ytcejjckhhdgdnaa", sum := "a87500775568efbfef98eb9f80efa0e4a35bb2ca88a764f08fe7f36d3b8c9f11", func := "lacuna/lacunalaw09.CatalogOf", spec := "catalogOf", inPlace := ["math.Float64bits"], unfollowed := true, recurses := true, apart := false }
def CatalogOfSaid : Prop := catalogOfRow.holds Try.pinned (OpenSpec.ofChange catalogOfSpec)

/-- ITS FALSE NEIGHBOUR: 'it returns false'. Refute it at one input. -/
def catalogOfWrong : ChangeSpec := { name := "catalogOf", fn := fun _ => fun
  | [d1, d2] => { results := [.lit (.bool false)], args := [d1, d2] }
  | _ => none }
def CatalogOfWrongFalsely : Prop := catalogOfRow.holds Try.pinned (OpenSpec.ofChange catalogOfWrong)

/-- 'lacunalaw09.CatalogOrder': WHATEVER THE INPUT: true; the input reads as it did. -/
def catalogOrderSpec : ChangeSpec := { name := "catalogOrder", fn := fun _ => fun
  | [d] => { results := [.lit (.bool true)], args := [d] }
  | _ => none }
def catalogOrderRow : OpenClaim := { program := "ytcejjckhhdgdnaa", sum := "a87500775568efbfef98eb9f80efa0e4a35bb2ca88a764f08fe7f36d3b8c9f11", func := "lacuna/lacunalaw09.CatalogOrder", spec := "catalogOrder", inPlace := ["math.Float64bits"], unfollowed := true, recurses := true, apart := false }
def CatalogOrderSaid : Prop := catalogOrderRow.holds Try.pinned (OpenSpec.ofChange catalogOrderSpec)

/-- ITS FALSE NEIGHBOUR: 'it returns false'. Refute it at one input. -/
def catalogOrderWrong : ChangeSpec := { name := "catalogOrder", fn := fun _ => fun
  | [d] => { results := [.lit (.bool false)], args := [d] }
  | _ => none }
def CatalogOrderWrongFalsely : Prop := catalogOrderRow.holds Try.pinned (OpenSpec.ofChange catalogOrderWrong)

/-- 'lacunalaw09.CatalogOwn': WHATEVER THE INPUT: true; the input reads as it did. -/
def catalogOwnSpec : ChangeSpec := { name := "catalogOwn", fn := fun _ => fun
  | [d] => { results := [.lit (.bool true)], args := [d] }
  | _ => none }
def catalogOwnRow : OpenClaim := { program := "ytcejjckhhdgdnaa", sum := "a87500775568efbfef98eb9f80efa0e4a35bb2ca88a764f08fe7f36d3b8c9f11", func := "lacuna/lacunalaw09.CatalogOwn", spec := "catalogOwn", inPlace := ["math.Float64bits"], unfollowed := true, recurses := true, apart := false }
def CatalogOwnSaid : Prop := catalogOwnRow.holds Try.pinned (OpenSpec.ofChange catalogOwnSpec)

/-- ITS FALSE NEIGHBOUR: 'it returns false'. Refute it at one input. -/
def catalogOwnWrong : ChangeSpec := { name := "catalogOwn", fn := fun _ => fun
  | [d] => { results := [.lit (.bool false)], args := [d] }
  | _ => none }
def CatalogOwnWrongFalsely : Prop := catalogOwnRow.holds Try.pinned (OpenSpec.ofChange catalogOwnWrong)

/-- 'lacunalaw09.CatalogKeeps': WHATEVER THE INPUT: true; the input reads as it did. -/
def catalogKeepsSpec : ChangeSpec := { name := "catalogKeeps", fn := fun _ => fun
  | [d1, d2] => { results := [.lit (.bool true)], args := [d1, d2] }
  | _ => none }
def catalogKeepsRow : OpenClaim := { program := "ytcejjckhhdgdnaa", sum := "a87500775568efbfef98eb9f80efa0e4a35bb2ca88a764f08fe7f36d3b8c9f11", func := "lacuna/lacunalaw09.CatalogKeeps", spec := "catalogKeeps", inPlace := ["math.Float64bits"], unfollowed := true, recurses := true, apart := false }
def CatalogKeepsSaid : Prop := catalogKeepsRow.holds Try.pinned (OpenSpec.ofChange catalogKeepsSpec)

/-- ITS FALSE NEIGHBOUR: 'it returns false'. Refute it at one input. -/
def catalogKeepsWrong : ChangeSpec := { name := "catalogKeeps", fn := fun _ => fun
  | [d1, d2] => { results := [.lit (.bool false)], args := [d1, d2] }
  | _ => none }
def CatalogKeepsWrongFalsely : Prop := catalogKeepsRow.holds Try.pinned (OpenSpec.ofChange catalogKeepsWrong)

/- THE SECOND FORM. 'bulk': how many values and letters a reading holds, each counted each time it is reached (what is shared counts as often as it is met; a slice's spare places count too). A statement '..UptoSaid' is the law's where the arguments, and the package variables that the reading takes, are together of bulk at most 1048576: NARROWER than '..Said'. Prove '..Said' where nothing that the law and all that it calls make is longer than what came in: it says more and counts as full. Else prove '..UptoSaid'. A law counts once. -/
mutual
def uptoBulk {H : Type} : DataW H → Nat
  | .lit (.string bytes) => bytes.length + 1
  | .lit _ => 1
  | .nil => 1
  | .ptr d => uptoBulk d + 1
  | .slice elems spare => uptoBulkAll elems + uptoBulkAll spare + 1
  | .agg parts => uptoBulkAll parts + 1
  | .iface _ d => uptoBulk d + 1
  | .map entries => uptoBulkEntries entries + 1
  | .held _ => 1
def uptoBulkAll {H : Type} : List (DataW H) → Nat
  | [] => 0
  | d :: r => uptoBulk d + uptoBulkAll r
def uptoBulkEntries {H : Type} : List (Lit × DataW H) → Nat
  | [] => 0
  | x :: r => uptoBulkEntry x + uptoBulkEntries r
def uptoBulkEntry {H : Type} : Lit × DataW H → Nat
  | (.string bytes, d) => bytes.length + uptoBulk d + 1
  | (_, d) => uptoBulk d + 1
 end
def uptoSmall : (H : Type) → List (DataW H) → Bool := fun _ ds => decide (uptoBulkAll ds ≤ 1048576)
def OpenSpec.upto (s : _root_.Go.ChangeSpec) : _root_.Go.OpenSpec := { _root_.Go.OpenSpec.ofChange s with cond := some uptoSmall }

/-- 'lacunalaw08.RelTells', WHERE WHAT IT READS IS OF BULK AT MOST 1048576: true; the input reads as it did. -/
def relTellsUptoRow : OpenClaim := { program := "ytcejjckhhdgdnaa", sum := "a87500775568efbfef98eb9f80efa0e4a35bb2ca88a764f08fe7f36d3b8c9f11", func := "lacuna/lacunalaw08.RelTells", spec := "relTells", inPlace := ["math.Float64bits"], unfollowed := true, recurses := true, apart := false, narrowed := true }
def RelTellsUptoSaid : Prop := relTellsUptoRow.holds Try.pinned (OpenSpec.upto relTellsSpec)

/-- 'lacunalaw08.RelDecodes', WHERE WHAT IT READS IS OF BULK AT MOST 1048576: true; the input reads as it did. -/
def relDecodesUptoRow : OpenClaim := { program := "ytcejjckhhdgdnaa", sum := "a87500775568efbfef98eb9f80efa0e4a35bb2ca88a764f08fe7f36d3b8c9f11", func := "lacuna/lacunalaw08.RelDecodes", spec := "relDecodes", inPlace := ["math.Float64bits"], unfollowed := true, recurses := true, apart := false, narrowed := true }
def RelDecodesUptoSaid : Prop := relDecodesUptoRow.holds Try.pinned (OpenSpec.upto relDecodesSpec)

/-- 'lacunalaw08.RelBack', WHERE WHAT IT READS IS OF BULK AT MOST 1048576: true; the input reads as it did. -/
def relBackUptoRow : OpenClaim := { program := "ytcejjckhhdgdnaa", sum := "a87500775568efbfef98eb9f80efa0e4a35bb2ca88a764f08fe7f36d3b8c9f11", func := "lacuna/lacunalaw08.RelBack", spec := "relBack", inPlace := ["math.Float64bits"], unfollowed := true, recurses := true, apart := false, narrowed := true }
def RelBackUptoSaid : Prop := relBackUptoRow.holds Try.pinned (OpenSpec.upto relBackSpec)

/-- 'lacunalaw08.RelOrder', WHERE WHAT IT READS IS OF BULK AT MOST 1048576: true; the input reads as it did. -/
def relOrderUptoRow : OpenClaim := { program := "ytcejjckhhdgdnaa", sum := "a87500775568efbfef98eb9f80efa0e4a35bb2ca88a764f08fe7f36d3b8c9f11", func := "lacuna/lacunalaw08.RelOrder", spec := "relOrder", inPlace := ["math.Float64bits"], unfollowed := true, recurses := true, apart := false, narrowed := true }
def RelOrderUptoSaid : Prop := relOrderUptoRow.holds Try.pinned (OpenSpec.upto relOrderSpec)

/-- 'lacunalaw09.CatalogRuns', WHERE WHAT IT READS IS OF BULK AT MOST 1048576: true; the input reads as it did. -/
def catalogRunsUptoRow : OpenClaim := { program := "ytcejjckhhdgdnaa", sum := "a87500775568efbfef98eb9f80efa0e4a35bb2ca88a764f08fe7f36d3b8c9f11", func := "lacuna/lacunalaw09.CatalogRuns", spec := "catalogRuns", inPlace := ["math.Float64bits"], unfollowed := true, recurses := true, apart := false, narrowed := true }
def CatalogRunsUptoSaid : Prop := catalogRunsUptoRow.holds Try.pinned (OpenSpec.upto catalogRunsSpec)

/-- 'lacunalaw09.CatalogOf', WHERE WHAT IT READS IS OF BULK AT MOST 1048576: true; the input reads as it did. -/
def catalogOfUptoRow : OpenClaim := { program := "ytcejjckhhdgdnaa", sum := "a87500775568efbfef98eb9f80efa0e4a35bb2ca88a764f08fe7f36d3b8c9f11", func := "lacuna/lacunalaw09.CatalogOf", spec := "catalogOf", inPlace := ["math.Float64bits"], unfollowed := true, recurses := true, apart := false, narrowed := true }
def CatalogOfUptoSaid : Prop := catalogOfUptoRow.holds Try.pinned (OpenSpec.upto catalogOfSpec)

/-- 'lacunalaw09.CatalogOrder', WHERE WHAT IT READS IS OF BULK AT MOST 1048576: true; the input reads as it did. -/
def catalogOrderUptoRow : OpenClaim := { program := "ytcejjckhhdgdnaa", sum := "a87500775568efbfef98eb9f80efa0e4a35bb2ca88a764f08fe7f36d3b8c9f11", func := "lacuna/lacunalaw09.CatalogOrder", spec := "catalogOrder", inPlace := ["math.Float64bits"], unfollowed := true, recurses := true, apart := false, narrowed := true }
def CatalogOrderUptoSaid : Prop := catalogOrderUptoRow.holds Try.pinned (OpenSpec.upto catalogOrderSpec)

/-- 'lacunalaw09.CatalogOwn', WHERE WHAT IT READS IS OF BULK AT MOST 1048576: true; the input reads as it did. -/
def catalogOwnUptoRow : OpenClaim := { program := "ytcejjckhhdgdnaa", sum := "a87500775568efbfef98eb9f80efa0e4a35bb2ca88a764f08fe7f36d3b8c9f11", func := "lacuna/lacunalaw09.CatalogOwn", spec := "catalogOwn", inPlace := ["math.Float64bits"], unfollowed := true, recurses := true, apart := false, narrowed := true }
def CatalogOwnUptoSaid : Prop := catalogOwnUptoRow.holds Try.pinned (OpenSpec.upto catalogOwnSpec)

/-- 'lacunalaw09.CatalogKeeps', WHERE WHAT IT READS IS OF BULK AT MOST 1048576: true; the input reads as it did. -/
def catalogKeepsUptoRow : OpenClaim := { program := "ytcejjckhhdgdnaa", sum := "a87500775568efbfef98eb9f80efa0e4a35bb2ca88a764f08fe7f36d3b8c9f11", func := "lacuna/lacunalaw09.CatalogKeeps", spec := "catalogKeeps", inPlace := ["math.Float64bits"], unfollowed := true, recurses := true, apart := false, narrowed := true }
def CatalogKeepsUptoSaid : Prop := catalogKeepsUptoRow.holds Try.pinned (OpenSpec.upto catalogKeepsSpec)

end Rows
end Go.Proofs.Ytcejjckhhdgdnaa
