/-
  No cell of these rows narrows 'for every input' (looked for: loops, veiled, ifaces, maps, wideKeys, modest, calm, conditions, laid).
  DERIVED. THE GIVEN ROWS OF THIS SEAT. 3 by the template 'for every input the law returns true; each argument reads behind the call as it read before'; 0 by the template 'total and deterministic' (their statements: YtegclfpmgilnpaaGreatTotals.lean).
  GIVEN WITH THE SEED: the statements are not yours to turn. If you find one false, say at which input.
  Laid BY PROGRAM, IN A SANDBOX (cutbox-rows.mjs): the forced cells as the released guide's own fill.sh prints them over the translation 748c424f712d0c7e… (all of the seat's roots in one cut). By AI agents, Wed Nov 11 2026. No macro, syntax, notation, axiom, sorry.
-/
import Derived.Test.YtegclfpmgilnpaaGreatChecked
import GoSem.Claim
import GoSem.ClaimJoined
import GoSem.ClaimMapViews
import Derived.JoinedTies
import Derived.KernelRfl
namespace Go.Proofs.YtegclfpmgilnpaaGreat
/- THE CELL 'sum', in the pinned program and in every row, IS THE sha256 OF THE DUMP (.gsa) THAT YtegclfpmgilnpaaGreatProg.lean LOADS. Nothing in Lean hashes anything: it is a label: what it is worth is what the hold of that sum in a sandbox is worth. -/
noncomputable def Tryz.pinned : Pinned := { name := "ytegclfpmgilnpaagreat", sum := "748c424f712d0c7e18a517be53dd2753efb2ffebf630aef9261bc9a58cdd3a9d", checked := Tryz.checked }
namespace Rows
def none {H : Type} : Left H := { results := [], args := [] }

/-- 'lacunalaw10.RowTakes': WHATEVER THE INPUT: true; the input reads as it did. -/
def rowTakesSpec : ChangeSpec := { name := "rowTakes", fn := fun _ => fun
  | [d1, d2, d3] => { results := [.lit (.bool true)], args := [d1, d2, d3] }
  | _ => none }
def rowTakesRow : OpenClaim := { program := "ytegclfpmgilnpaagreat", sum := "748c424f712d0c7e18a517be53dd2753efb2ffebf630aef9261bc9a58cdd3a9d", func := "lacuna/lacunalaw10.RowTakes", spec := "rowTakes", inPlace := ["math.Float64bits", "math.Float64frombits"], unfollowed := true, recurses := true, apart := false }
def RowTakesSaid : Prop := rowTakesRow.holds Tryz.pinned (OpenSpec.ofChange rowTakesSpec)

/-- ITS FALSE NEIGHBOUR: 'it returns false'. Refute it at one input. -/
def rowTakesWrong : ChangeSpec := { name := "rowTakes", fn := fun _ => fun
  | [d1, d2, d3] => { results := [.lit (.bool false)], args := [d1, d2, d3] }
  | _ => none }
def RowTakesWrongFalsely : Prop := rowTakesRow.holds Tryz.pinned (OpenSpec.ofChange rowTakesWrong)

/-- 'lacunalaw10.RowBack': WHATEVER THE INPUT: true; the input reads as it did. -/
def rowBackSpec : ChangeSpec := { name := "rowBack", fn := fun _ => fun
  | [d1, d2, d3] => { results := [.lit (.bool true)], args := [d1, d2, d3] }
  | _ => none }
def rowBackRow : OpenClaim := { program := "ytegclfpmgilnpaagreat", sum := "748c424f712d0c7e18a517be53dd2753efb2ffebf630aef9261bc9a58cdd3a9d", func := "lacuna/lacunalaw10.RowBack", spec := "rowBack", inPlace := ["math.Float64frombits", "math.Float64bits"], unfollowed := true, recurses := true, apart := false }
def RowBackSaid : Prop := rowBackRow.holds Tryz.pinned (OpenSpec.ofChange rowBackSpec)

/-- ITS FALSE NEIGHBOUR: 'it returns false'. Refute it at one input. -/
def rowBackWrong : ChangeSpec := { name := "rowBack", fn := fun _ => fun
  | [d1, d2, d3] => { results := [.lit (.bool false)], args := [d1, d2, d3] }
  | _ => none }
def RowBackWrongFalsely : Prop := rowBackRow.holds Tryz.pinned (OpenSpec.ofChange rowBackWrong)

/-- 'lacunalaw10.RowVersions': WHATEVER THE INPUT: true; the input reads as it did. -/
def rowVersionsSpec : ChangeSpec := { name := "rowVersions", fn := fun _ => fun
  | [d1, d2] => { results := [.lit (.bool true)], args := [d1, d2] }
  | _ => none }
def rowVersionsRow : OpenClaim := { program := "ytegclfpmgilnpaagreat", sum := "748c424f712d0c7e18a517be53dd2753efb2ffebf630aef9261bc9a58cdd3a9d", func := "lacuna/lacunalaw10.RowVersions", spec := "rowVersions", inPlace := ["math.Float64frombits", "math.Float64bits"], unfollowed := true, recurses := true, apart := false }
def RowVersionsSaid : Prop := rowVersionsRow.holds Tryz.pinned (OpenSpec.ofChange rowVersionsSpec)

/-- ITS FALSE NEIGHBOUR: 'it returns false'. Refute it at one input. -/
def rowVersionsWrong : ChangeSpec := { name := "rowVersions", fn := fun _ => fun
  | [d1, d2] => { results := [.lit (.bool false)], args := [d1, d2] }
  | _ => none }
def RowVersionsWrongFalsely : Prop := rowVersionsRow.holds Tryz.pinned (OpenSpec.ofChange rowVersionsWrong)

/- THE SECOND FORM. 'bulk': how many values and letters a reading holds, each counted each time it is reached (what is shared counts as often as it is met; a slice's spare places count too). A statement '..UptoSaid' is the law's where the arguments, and the package variables that the reading takes, are together of bulk at most 1048576: NARROWER than '..Said'. Prove '..Said' where nothing that the law and all that it calls make is longer than what came in: it says more and counts as full. Else prove '..UptoSaid'. A law counts once. -/
mutual
def uptoBulk {H : Type} : DataW H → Nat
  | .lit (.string bytes) => bytes.length + 1
  | .lit _ => 1
  | .nil => 1
  | .ptr d => uptoBulk d + 1
  | .slice elems spare => uptoBulkAll elems + uptoBulkAll spare + 1
  | .agg parts => uptoBulkAll parts + 1
  | .iface _ d => uptoBulk d + 1
  | .map entries => uptoBulkEntries entries + 1
  | .held _ => 1
def uptoBulkAll {H : Type} : List (DataW H) → Nat
  | [] => 0
  | d :: r => uptoBulk d + uptoBulkAll r
def uptoBulkEntries {H : Type} : List (Lit × DataW H) → Nat
  | [] => 0
  | x :: r => uptoBulkEntry x + uptoBulkEntries r
def uptoBulkEntry {H : Type} : Lit × DataW H → Nat
  | (.string bytes, d) => bytes.length + uptoBulk d + 1
  | (_, d) => uptoBulk d + 1
 end
def uptoSmall : (H : Type) → List (DataW H) → Bool := fun _ ds => decide (uptoBulkAll ds ≤ 1048576)
def OpenSpec.upto (s : _root_.Go.ChangeSpec) : _root_.Go.OpenSpec := { _root_.Go.OpenSpec.ofChange s with cond := some uptoSmall }

/-- 'lacunalaw10.RowTakes', WHERE WHAT IT READS IS OF BULK AT MOST 1048576: true; the input reads as it did. -/
def rowTakesUptoRow : OpenClaim := { program := "ytegclfpmgilnpaagreat", sum := "748c424f712d0c7e18a517be53dd2753efb2ffebf630aef9261bc9a58cdd3a9d", func := "lacuna/lacunalaw10.RowTakes", spec := "rowTakes", inPlace := ["math.Float64bits", "math.Float64frombits"], unfollowed := true, recurses := true, apart := false, narrowed := true }
def RowTakesUptoSaid : Prop := rowTakesUptoRow.holds Tryz.pinned (OpenSpec.upto rowTakesSpec)

/-- 'lacunalaw10.RowBack', WHERE WHAT IT READS IS OF BULK AT MOST 1048576: true; the input reads as it did. -/
def rowBackUptoRow : OpenClaim := { program := "ytegclfpmgilnpaagreat", sum := "748c424f712d0c7e18a517be53dd2753efb2ffebf630aef9261bc9a58cdd3a9d", func := "lacuna/lacunalaw10.RowBack", spec := "rowBack", inPlace := ["math.Float64frombits", "math.Float64bits"], unfollowed := true, recurses := true, apart := false, narrowed := true }
def RowBackUptoSaid : Prop := rowBackUptoRow.holds Tryz.pinned (OpenSpec.upto rowBackSpec)

/-- 'lacunalaw10.RowVersions', WHERE WHAT IT READS IS OF BULK AT MOST 1048576: true; the input reads as it did. -/
def rowVersionsUptoRow : OpenClaim := { program := "ytegclfpmgilnpaagreat", sum := "748c424f712d0c7e18a517be53dd2753efb2ffebf630aef9261bc9a58cdd3a9d", func := "lacuna/lacunalaw10.RowVersions", spec := "rowVersions", inPlace := ["math.Float64frombits", "math.Float64bits"], unfollowed := true, recurses := true, apart := false, narrowed := true }
def RowVersionsUptoSaid : Prop := rowVersionsUptoRow.holds Tryz.pinned (OpenSpec.upto rowVersionsSpec)

end Rows
end Go.Proofs.YtegclfpmgilnpaaGreat
