/-
  No cell of these rows narrows 'for every input' (looked for: loops, veiled, ifaces, maps, wideKeys, modest, calm, conditions, laid).
  DERIVED. THE GIVEN ROWS OF THIS SEAT. 7 by the template 'for every input the law returns true; each argument reads behind the call as it read before'; 0 by the template 'total and deterministic' (their statements: YtegclfpmgilnpaaTotals.lean).
  GIVEN WITH THE SEED: the statements are not yours to turn. If you find one false, say at which input.
  Laid BY PROGRAM, IN A SANDBOX (cutbox-rows.mjs): the forced cells as the released guide's own fill.sh prints them over the translation 0f870661961c70f2… (all of the seat's roots in one cut). By AI agents, Wed Nov 11 2026. No macro, syntax, notation, axiom, sorry.
-/
import Derived.Test.YtegclfpmgilnpaaChecked
import GoSem.Claim
import GoSem.ClaimJoined
import GoSem.ClaimMapViews
import Derived.JoinedTies
import Derived.KernelRfl
namespace Go.Proofs.Ytegclfpmgilnpaa
/- THE CELL 'sum', in the pinned program and in every row, IS THE sha256 OF THE DUMP (.gsa) THAT YtegclfpmgilnpaaProg.lean LOADS. Nothing in Lean hashes anything: it is a label: what it is worth is what the hold of that sum in a sandbox is worth. -/
noncomputable def Try.pinned : Pinned := { name := "ytegclfpmgilnpaa", sum := "0f870661961c70f2562a3483eb4baeb89153618f65249ebdffd2c8f969af7870", checked := Try.checked }
namespace Rows
def none {H : Type} : Left H := { results := [], args := [] }

/-- 'lacunalaw09.CatalogRuns': WHATEVER THE INPUT: true; the input reads as it did. -/
def catalogRunsSpec : ChangeSpec := { name := "catalogRuns", fn := fun _ => fun
  | [d1, d2, d3] => { results := [.lit (.bool true)], args := [d1, d2, d3] }
  | _ => none }
def catalogRunsRow : OpenClaim := { program := "ytegclfpmgilnpaa", sum := "0f870661961c70f2562a3483eb4baeb89153618f65249ebdffd2c8f969af7870", func := "lacuna/lacunalaw09.CatalogRuns", spec := "catalogRuns", inPlace := ["math.Float64bits"], unfollowed := true, recurses := true, apart := false }
def CatalogRunsSaid : Prop := catalogRunsRow.holds Try.pinned (OpenSpec.ofChange catalogRunsSpec)

/-- ITS FALSE NEIGHBOUR: 'it returns false'. Refute it at one input. -/
def catalogRunsWrong : ChangeSpec := { name := "catalogRuns", fn := fun _ => fun
  | [d1, d2, d3] => { results := [.lit (.bool false)], args := [d1, d2, d3] }
  | _ => none }
def CatalogRunsWrongFalsely : Prop := catalogRunsRow.holds Try.pinned (OpenSpec.ofChange catalogRunsWrong)

/-- 'lacunalaw09.CatalogOf': WHATEVER THE INPUT: true; the input reads as it did. -/
def catalogOfSpec : ChangeSpec := { name := "catalogOf", fn := fun _ => fun
  | [d1, d2] => { results := [.lit (.bool true)], args := [d1, d2] }
  | _ => none }
def catalogOfRow : OpenClaim := { program := "ytegclfpmgilnpaa", sum := "0f870661961c70f2562a3483eb4baeb89153618f65249ebdffd2c8f969af7870", func := "lacuna/lacunalaw09.CatalogOf", spec := "catalogOf", inPlace := ["math.Float64bits"], unfollowed := true, recurses := true, apart := false }
def CatalogOfSaid : Prop := catalogOfRow.holds Try.pinned (OpenSpec.ofChange catalogOfSpec)

/-- ITS FALSE NEIGHBOUR: 'it returns false'. Refute it at one input. -/
def catalogOfWrong : ChangeSpec := { name := "catalogOf", fn := fun _ => fun
  | [d1, d2] => { results := [.lit (.bool false)], args := [d1, d2] }
  | _ => none }
def CatalogOfWrongFalsely : Prop := catalogOfRow.holds Try.pinned (OpenSpec.ofChange catalogOfWrong)

/-- 'lacunalaw09.CatalogOrder': WHATEVER THE INPUT: true; the input reads as it did. -/
def catalogOrderSpec : ChangeSpec := { name := "catalogOrder", fn := fun _ => fun
  | [d] => { results := [.lit (.bool true)], args := [d] }
  | _ => none }
def catalogOrderRow : OpenClaim := { program := "ytegclfpmgilnpaa", sum := "0f870661961c70f2562a3483eb4baeb89153618f65249ebdffd2c8f969af7870", func := "lacuna/lacunalaw09.CatalogOrder", spec := "catalogOrder", inPlace := ["math.Float64bits"], unfollowed := true, recurses := true, apart := false }
def CatalogOrderSaid : Prop := catalogOrderRow.holds Try.pinned (OpenSpec.ofChange catalogOrderSpec)

/-- ITS FALSE NEIGHBOUR: 'it returns false'. Refute it at one input. -/
def catalogOrderWrong : ChangeSpec := { name := "catalogOrder", fn := fun _ => fun
  | [d] => { results := [.lit (.bool false)], args := [d] }
  | _ => none }
def CatalogOrderWrongFalsely : Prop := catalogOrderRow.holds Try.pinned (OpenSpec.ofChange catalogOrderWrong)

/-- 'lacunalaw09.CatalogOwn': WHATEVER THE INPUT: true; the input reads as it did. -/
def catalogOwnSpec : ChangeSpec := { name := "catalogOwn", fn := fun _ => fun
  | [d] => { results := [.lit (.bool true)], args := [d] }
  | _ => none }
def catalogOwnRow : OpenClaim := { program := "ytegclfpmgilnpaa", sum := "0f870661961c70f2562a3483eb4baeb89153618f65249ebdffd2c8f969af7870", func := "lacuna/lacunalaw09.CatalogOwn", spec := "catalogOwn", inPlace := ["math.Float64bits"], unfollowed := true, recurses := true, apart := false }
def CatalogOwnSaid : Prop := catalogOwnRow.holds Try.pinned (OpenSpec.ofChange catalogOwnSpec)

/-- ITS FALSE NEIGHBOUR: 'it returns false'. Refute it at one input. -/
def catalogOwnWrong : ChangeSpec := { name := "catalogOwn", fn := fun _ => fun
  | [d] => { results := [.lit (.bool false)], args := [d] }
  | _ => none }
def CatalogOwnWrongFalsely : Prop := catalogOwnRow.holds Try.pinned (OpenSpec.ofChange catalogOwnWrong)

/-- 'lacunalaw09.CatalogKeeps': WHATEVER THE INPUT: true; the input reads as it did. -/
def catalogKeepsSpec : ChangeSpec := { name := "catalogKeeps", fn := fun _ => fun
  | [d1, d2] => { results := [.lit (.bool true)], args := [d1, d2] }
  | _ => none }
def catalogKeepsRow : OpenClaim := { program := "ytegclfpmgilnpaa", sum := "0f870661961c70f2562a3483eb4baeb89153618f65249ebdffd2c8f969af7870", func := "lacuna/lacunalaw09.CatalogKeeps", spec := "catalogKeeps", inPlace := ["math.Float64bits"], unfollowed := true, recurses := true, apart := false }
def CatalogKeepsSaid : Prop := catalogKeepsRow.holds Try.pinned (OpenSpec.ofChange catalogKeepsSpec)

/-- ITS FALSE NEIGHBOUR: 'it returns false'. Refute it at one input. -/
def catalogKeepsWrong : ChangeSpec := { name := "catalogKeeps", fn := fun _ => fun
  | [d1, d2] => { results := [.lit (.bool false)], args := [d1, d2] }
  | _ => none }
def CatalogKeepsWrongFalsely : Prop := catalogKeepsRow.holds Try.pinned (OpenSpec.ofChange catalogKeepsWrong)

/-- 'lacunalaw10.RowEncodes': WHATEVER THE INPUT: true; the input reads as it did. -/
def rowEncodesSpec : ChangeSpec := { name := "rowEncodes", fn := fun _ => fun
  | [d1, d2, d3] => { results := [.lit (.bool true)], args := [d1, d2, d3] }
  | _ => none }
def rowEncodesRow : OpenClaim := { program := "ytegclfpmgilnpaa", sum := "0f870661961c70f2562a3483eb4baeb89153618f65249ebdffd2c8f969af7870", func := "lacuna/lacunalaw10.RowEncodes", spec := "rowEncodes", inPlace := ["math.Float64frombits", "math.Float64bits"], unfollowed := true, recurses := true, apart := false }
def RowEncodesSaid : Prop := rowEncodesRow.holds Try.pinned (OpenSpec.ofChange rowEncodesSpec)

/-- ITS FALSE NEIGHBOUR: 'it returns false'. Refute it at one input. -/
def rowEncodesWrong : ChangeSpec := { name := "rowEncodes", fn := fun _ => fun
  | [d1, d2, d3] => { results := [.lit (.bool false)], args := [d1, d2, d3] }
  | _ => none }
def RowEncodesWrongFalsely : Prop := rowEncodesRow.holds Try.pinned (OpenSpec.ofChange rowEncodesWrong)

/-- 'lacunalaw10.RowFills': WHATEVER THE INPUT: true; the input reads as it did. -/
def rowFillsSpec : ChangeSpec := { name := "rowFills", fn := fun _ => fun
  | [d1, d2, d3] => { results := [.lit (.bool true)], args := [d1, d2, d3] }
  | _ => none }
def rowFillsRow : OpenClaim := { program := "ytegclfpmgilnpaa", sum := "0f870661961c70f2562a3483eb4baeb89153618f65249ebdffd2c8f969af7870", func := "lacuna/lacunalaw10.RowFills", spec := "rowFills", inPlace := ["math.Float64frombits", "math.Float64bits"], unfollowed := true, recurses := true, apart := false }
def RowFillsSaid : Prop := rowFillsRow.holds Try.pinned (OpenSpec.ofChange rowFillsSpec)

/-- ITS FALSE NEIGHBOUR: 'it returns false'. Refute it at one input. -/
def rowFillsWrong : ChangeSpec := { name := "rowFills", fn := fun _ => fun
  | [d1, d2, d3] => { results := [.lit (.bool false)], args := [d1, d2, d3] }
  | _ => none }
def RowFillsWrongFalsely : Prop := rowFillsRow.holds Try.pinned (OpenSpec.ofChange rowFillsWrong)

/- THE SECOND FORM. 'bulk': how many values and letters a reading holds, each counted each time it is reached (what is shared counts as often as it is met; a slice's spare places count too). A statement '..UptoSaid' is the law's where the arguments, and the package variables that the reading takes, are together of bulk at most 1048576: NARROWER than '..Said'. Prove '..Said' where nothing that the law and all that it calls make is longer than what came in: it says more and counts as full. Else prove '..UptoSaid'. A law counts once. -/
mutual
def uptoBulk {H : Type} : DataW H → Nat
  | .lit (.string bytes) => bytes.length + 1
  | .lit _ => 1
  | .nil => 1
  | .ptr d => uptoBulk d + 1
  | .slice elems spare => uptoBulkAll elems + uptoBulkAll spare + 1
  | .agg parts => uptoBulkAll parts + 1
  | .iface _ d => uptoBulk d + 1
  | .map entries => uptoBulkEntries entries + 1
  | .held _ => 1
def uptoBulkAll {H : Type} : List (DataW H) → Nat
  | [] => 0
  | d :: r => uptoBulk d + uptoBulkAll r
def uptoBulkEntries {H : Type} : List (Lit × DataW H) → Nat
  | [] => 0
  | x :: r => uptoBulkEntry x + uptoBulkEntries r
def uptoBulkEntry {H : Type} : Lit × DataW H → Nat
  | (.string bytes, d) => bytes.length + uptoBulk d + 1
  | (_, d) => uptoBulk d + 1
 end
def uptoSmall : (H : Type) → List (DataW H) → Bool := fun _ ds => decide (uptoBulkAll ds ≤ 1048576)
def OpenSpec.upto (s : _root_.Go.ChangeSpec) : _root_.Go.OpenSpec := { _root_.Go.OpenSpec.ofChange s with cond := some uptoSmall }

/-- 'lacunalaw09.CatalogRuns', WHERE WHAT IT READS IS OF BULK AT MOST 1048576: true; the input reads as it did. -/
def catalogRunsUptoRow : OpenClaim := { program := "ytegclfpmgilnpaa", sum := "0f870661961c70f2562a3483eb4baeb89153618f65249ebdffd2c8f969af7870", func := "lacuna/lacunalaw09.CatalogRuns", spec := "catalogRuns", inPlace := ["math.Float64bits"], unfollowed := true, recurses := true, apart := false, narrowed := true }
def CatalogRunsUptoSaid : Prop := catalogRunsUptoRow.holds Try.pinned (OpenSpec.upto catalogRunsSpec)

/-- 'lacunalaw09.CatalogOf', WHERE WHAT IT READS IS OF BULK AT MOST 1048576: true; the input reads as it did. -/
def catalogOfUptoRow : OpenClaim := { program := "ytegclfpmgilnpaa", sum := "0f870661961c70f2562a3483eb4baeb89153618f65249ebdffd2c8f969af7870", func := "lacuna/lacunalaw09.CatalogOf", spec := "catalogOf", inPlace := ["math.Float64bits"], unfollowed := true, recurses := true, apart := false, narrowed := true }
def CatalogOfUptoSaid : Prop := catalogOfUptoRow.holds Try.pinned (OpenSpec.upto catalogOfSpec)

/-- 'lacunalaw09.CatalogOrder', WHERE WHAT IT READS IS OF BULK AT MOST 1048576: true; the input reads as it did. -/
def catalogOrderUptoRow : OpenClaim := { program := "ytegclfpmgilnpaa", sum := "0f870661961c70f2562a3483eb4baeb89153618f65249ebdffd2c8f969af7870", func := "lacuna/lacunalaw09.CatalogOrder", spec := "catalogOrder", inPlace := ["math.Float64bits"], unfollowed := true, recurses := true, apart := false, narrowed := true }
def CatalogOrderUptoSaid : Prop := catalogOrderUptoRow.holds Try.pinned (OpenSpec.upto catalogOrderSpec)

/-- 'lacunalaw09.CatalogOwn', WHERE WHAT IT READS IS OF BULK AT MOST 1048576: true; the input reads as it did. -/
def catalogOwnUptoRow : OpenClaim := { program := "ytegclfpmgilnpaa", sum := "0f870661961c70f2562a3483eb4baeb89153618f65249ebdffd2c8f969af7870", func := "lacuna/lacunalaw09.CatalogOwn", spec := "catalogOwn", inPlace := ["math.Float64bits"], unfollowed := true, recurses := true, apart := false, narrowed := true }
def CatalogOwnUptoSaid : Prop := catalogOwnUptoRow.holds Try.pinned (OpenSpec.upto catalogOwnSpec)

/-- 'lacunalaw09.CatalogKeeps', WHERE WHAT IT READS IS OF BULK AT MOST 1048576: true; the input reads as it did. -/
def catalogKeepsUptoRow : OpenClaim := { program := "ytegclfpmgilnpaa", sum := "0f870661961c70f2562a3483eb4baeb89153618f65249ebdffd2c8f969af7870", func := "lacuna/lacunalaw09.CatalogKeeps", spec := "catalogKeeps", inPlace := ["math.Float64bits"], unfollowed := true, recurses := true, apart := false, narrowed := true }
def CatalogKeepsUptoSaid : Prop := catalogKeepsUptoRow.holds Try.pinned (OpenSpec.upto catalogKeepsSpec)

/-- 'lacunalaw10.RowEncodes', WHERE WHAT IT READS IS OF BULK AT MOST 1048576: true; the input reads as it did. -/
def rowEncodesUptoRow : OpenClaim := { program := "ytegclfpmgilnpaa", sum := "0f870661961c70f2562a3483eb4baeb89153618f65249ebdffd2c8f969af7870", func := "lacuna/lacunalaw10.RowEncodes", spec := "rowEncodes", inPlace := ["math.Float64frombits", "math.Float64bits"], unfollowed := true, recurses := true, apart := false, narrowed := true }
def RowEncodesUptoSaid : Prop := rowEncodesUptoRow.holds Try.pinned (OpenSpec.upto rowEncodesSpec)

/-- 'lacunalaw10.RowFills', WHERE WHAT IT READS IS OF BULK AT MOST 1048576: true; the input reads as it did. -/
def rowFillsUptoRow : OpenClaim := { program := "ytegclfpmgilnpaa", sum := "0f870661961c70f2562a3483eb4baeb89153618f65249ebdffd2c8f969af7870", func := "lacuna/lacunalaw10.RowFills", spec := "rowFills", inPlace := ["math.Float64frombits", "math.Float64bits"], unfollowed := true, recurses := true, apart := false, narrowed := true }
def RowFillsUptoSaid : Prop := rowFillsUptoRow.holds Try.pinned (OpenSpec.upto rowFillsSpec)

end Rows
end Go.Proofs.Ytegclfpmgilnpaa
