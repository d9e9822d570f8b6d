/-
  No cell of these rows narrows 'for every input' (looked for: loops, veiled, ifaces, maps, wideKeys, modest, calm, conditions, laid).
  DERIVED. THE GIVEN ROWS OF THIS SEAT. 11 by the template 'for every input the law returns true; each argument reads behind the call as it read before'; 0 by the template 'total and deterministic' (their statements: YtoggnmfjkbnopaaTotals.lean).
  GIVEN WITH THE SEED: the statements are not yours to turn. If you find one false, say at which input.
  Laid BY PROGRAM, IN A SANDBOX (cutbox-rows.mjs): the forced cells as the released guide's own fill.sh prints them over the translation 1f35dd9cd2fcb4cf… (all of the seat's roots in one cut). By AI agents, Wed Nov 11 2026. No macro, syntax, notation, axiom, sorry.
-/
import Derived.Test.YtoggnmfjkbnopaaChecked
import GoSem.Claim
import GoSem.ClaimJoined
import GoSem.ClaimMapViews
import Derived.JoinedTies
import Derived.KernelRfl
namespace Go.Proofs.Ytoggnmfjkbnopaa
/- THE CELL 'sum', in the pinned program and in every row, IS THE sha256 OF THE DUMP (.gsa) THAT YtoggnmfjkbnopaaProg.lean LOADS. Nothing in Lean hashes anything: it is a label: what it is worth is what the hold of that sum in a sandbox is worth. -/
noncomputable def Try.pinned : Pinned := { name := "ytoggnmfjkbnopaa", sum := "1f35dd9cd2fcb4cfad3db6c1b6e955df81e8fb0ce25119ba5a898991d884a817", checked := Try.checked }
namespace Rows
def none {H : Type} : Left H := { results := [], args := [] }

/-- 'lacunalaw05.ScanFeeds': WHATEVER THE INPUT: true; the input reads as it did. -/
def scanFeedsSpec : ChangeSpec := { name := "scanFeeds", fn := fun _ => fun
  | [d1, d2] => { results := [.lit (.bool true)], args := [d1, d2] }
  | _ => none }
def scanFeedsRow : OpenClaim := { program := "ytoggnmfjkbnopaa", sum := "1f35dd9cd2fcb4cfad3db6c1b6e955df81e8fb0ce25119ba5a898991d884a817", func := "lacuna/lacunalaw05.ScanFeeds", spec := "scanFeeds", apart := false }
def ScanFeedsSaid : Prop := scanFeedsRow.holds Try.pinned (OpenSpec.ofChange scanFeedsSpec)

/-- ITS FALSE NEIGHBOUR: 'it returns false'. Refute it at one input. -/
def scanFeedsWrong : ChangeSpec := { name := "scanFeeds", fn := fun _ => fun
  | [d1, d2] => { results := [.lit (.bool false)], args := [d1, d2] }
  | _ => none }
def ScanFeedsWrongFalsely : Prop := scanFeedsRow.holds Try.pinned (OpenSpec.ofChange scanFeedsWrong)

/-- 'lacunalaw05.ScanParts': WHATEVER THE INPUT: true; the input reads as it did. -/
def scanPartsSpec : ChangeSpec := { name := "scanParts", fn := fun _ => fun
  | [d1, d2] => { results := [.lit (.bool true)], args := [d1, d2] }
  | _ => none }
def scanPartsRow : OpenClaim := { program := "ytoggnmfjkbnopaa", sum := "1f35dd9cd2fcb4cfad3db6c1b6e955df81e8fb0ce25119ba5a898991d884a817", func := "lacuna/lacunalaw05.ScanParts", spec := "scanParts", apart := false }
def ScanPartsSaid : Prop := scanPartsRow.holds Try.pinned (OpenSpec.ofChange scanPartsSpec)

/-- ITS FALSE NEIGHBOUR: 'it returns false'. Refute it at one input. -/
def scanPartsWrong : ChangeSpec := { name := "scanParts", fn := fun _ => fun
  | [d1, d2] => { results := [.lit (.bool false)], args := [d1, d2] }
  | _ => none }
def ScanPartsWrongFalsely : Prop := scanPartsRow.holds Try.pinned (OpenSpec.ofChange scanPartsWrong)

/-- 'lacunalaw05.ScanAll': WHATEVER THE INPUT: true; the input reads as it did. -/
def scanAllSpec : ChangeSpec := { name := "scanAll", fn := fun _ => fun
  | [d] => { results := [.lit (.bool true)], args := [d] }
  | _ => none }
def scanAllRow : OpenClaim := { program := "ytoggnmfjkbnopaa", sum := "1f35dd9cd2fcb4cfad3db6c1b6e955df81e8fb0ce25119ba5a898991d884a817", func := "lacuna/lacunalaw05.ScanAll", spec := "scanAll", apart := false }
def ScanAllSaid : Prop := scanAllRow.holds Try.pinned (OpenSpec.ofChange scanAllSpec)

/-- ITS FALSE NEIGHBOUR: 'it returns false'. Refute it at one input. -/
def scanAllWrong : ChangeSpec := { name := "scanAll", fn := fun _ => fun
  | [d] => { results := [.lit (.bool false)], args := [d] }
  | _ => none }
def ScanAllWrongFalsely : Prop := scanAllRow.holds Try.pinned (OpenSpec.ofChange scanAllWrong)

/-- 'lacunalaw05.ScanStops': WHATEVER THE INPUT: true; the input reads as it did. -/
def scanStopsSpec : ChangeSpec := { name := "scanStops", fn := fun _ => fun
  | [d1, d2, d3] => { results := [.lit (.bool true)], args := [d1, d2, d3] }
  | _ => none }
def scanStopsRow : OpenClaim := { program := "ytoggnmfjkbnopaa", sum := "1f35dd9cd2fcb4cfad3db6c1b6e955df81e8fb0ce25119ba5a898991d884a817", func := "lacuna/lacunalaw05.ScanStops", spec := "scanStops", apart := false }
def ScanStopsSaid : Prop := scanStopsRow.holds Try.pinned (OpenSpec.ofChange scanStopsSpec)

/-- ITS FALSE NEIGHBOUR: 'it returns false'. Refute it at one input. -/
def scanStopsWrong : ChangeSpec := { name := "scanStops", fn := fun _ => fun
  | [d1, d2, d3] => { results := [.lit (.bool false)], args := [d1, d2, d3] }
  | _ => none }
def ScanStopsWrongFalsely : Prop := scanStopsRow.holds Try.pinned (OpenSpec.ofChange scanStopsWrong)

/-- 'lacunalaw06.ValueTells': WHATEVER THE INPUT: true; the input reads as it did. -/
def valueTellsSpec : ChangeSpec := { name := "valueTells", fn := fun _ => fun
  | [d1, d2] => { results := [.lit (.bool true)], args := [d1, d2] }
  | _ => none }
def valueTellsRow : OpenClaim := { program := "ytoggnmfjkbnopaa", sum := "1f35dd9cd2fcb4cfad3db6c1b6e955df81e8fb0ce25119ba5a898991d884a817", func := "lacuna/lacunalaw06.ValueTells", spec := "valueTells", inPlace := ["math.Float64frombits", "math.Float64bits"], apart := false }
def ValueTellsSaid : Prop := valueTellsRow.holds Try.pinned (OpenSpec.ofChange valueTellsSpec)

/-- ITS FALSE NEIGHBOUR: 'it returns false'. Refute it at one input. -/
def valueTellsWrong : ChangeSpec := { name := "valueTells", fn := fun _ => fun
  | [d1, d2] => { results := [.lit (.bool false)], args := [d1, d2] }
  | _ => none }
def ValueTellsWrongFalsely : Prop := valueTellsRow.holds Try.pinned (OpenSpec.ofChange valueTellsWrong)

/-- 'lacunalaw06.ValuePuts': WHATEVER THE INPUT: true; the input reads as it did. -/
def valuePutsSpec : ChangeSpec := { name := "valuePuts", fn := fun _ => fun
  | [d1, d2, d3] => { results := [.lit (.bool true)], args := [d1, d2, d3] }
  | _ => none }
def valuePutsRow : OpenClaim := { program := "ytoggnmfjkbnopaa", sum := "1f35dd9cd2fcb4cfad3db6c1b6e955df81e8fb0ce25119ba5a898991d884a817", func := "lacuna/lacunalaw06.ValuePuts", spec := "valuePuts", inPlace := ["math.Float64frombits", "math.Float64bits"], apart := false }
def ValuePutsSaid : Prop := valuePutsRow.holds Try.pinned (OpenSpec.ofChange valuePutsSpec)

/-- ITS FALSE NEIGHBOUR: 'it returns false'. Refute it at one input. -/
def valuePutsWrong : ChangeSpec := { name := "valuePuts", fn := fun _ => fun
  | [d1, d2, d3] => { results := [.lit (.bool false)], args := [d1, d2, d3] }
  | _ => none }
def ValuePutsWrongFalsely : Prop := valuePutsRow.holds Try.pinned (OpenSpec.ofChange valuePutsWrong)

/-- 'lacunalaw06.ValueTakes': WHATEVER THE INPUT: true; the input reads as it did. -/
def valueTakesSpec : ChangeSpec := { name := "valueTakes", fn := fun _ => fun
  | [d1, d2, d3] => { results := [.lit (.bool true)], args := [d1, d2, d3] }
  | _ => none }
def valueTakesRow : OpenClaim := { program := "ytoggnmfjkbnopaa", sum := "1f35dd9cd2fcb4cfad3db6c1b6e955df81e8fb0ce25119ba5a898991d884a817", func := "lacuna/lacunalaw06.ValueTakes", spec := "valueTakes", inPlace := ["math.Float64frombits", "math.Float64bits"], apart := false }
def ValueTakesSaid : Prop := valueTakesRow.holds Try.pinned (OpenSpec.ofChange valueTakesSpec)

/-- ITS FALSE NEIGHBOUR: 'it returns false'. Refute it at one input. -/
def valueTakesWrong : ChangeSpec := { name := "valueTakes", fn := fun _ => fun
  | [d1, d2, d3] => { results := [.lit (.bool false)], args := [d1, d2, d3] }
  | _ => none }
def ValueTakesWrongFalsely : Prop := valueTakesRow.holds Try.pinned (OpenSpec.ofChange valueTakesWrong)

/-- 'lacunalaw06.ValueBack': WHATEVER THE INPUT: true; the input reads as it did. -/
def valueBackSpec : ChangeSpec := { name := "valueBack", fn := fun _ => fun
  | [d1, d2, d3] => { results := [.lit (.bool true)], args := [d1, d2, d3] }
  | _ => none }
def valueBackRow : OpenClaim := { program := "ytoggnmfjkbnopaa", sum := "1f35dd9cd2fcb4cfad3db6c1b6e955df81e8fb0ce25119ba5a898991d884a817", func := "lacuna/lacunalaw06.ValueBack", spec := "valueBack", inPlace := ["math.Float64frombits", "math.Float64bits"], apart := false }
def ValueBackSaid : Prop := valueBackRow.holds Try.pinned (OpenSpec.ofChange valueBackSpec)

/-- ITS FALSE NEIGHBOUR: 'it returns false'. Refute it at one input. -/
def valueBackWrong : ChangeSpec := { name := "valueBack", fn := fun _ => fun
  | [d1, d2, d3] => { results := [.lit (.bool false)], args := [d1, d2, d3] }
  | _ => none }
def ValueBackWrongFalsely : Prop := valueBackRow.holds Try.pinned (OpenSpec.ofChange valueBackWrong)

/-- 'lacunalaw06.ValueCut': WHATEVER THE INPUT: true; the input reads as it did. -/
def valueCutSpec : ChangeSpec := { name := "valueCut", fn := fun _ => fun
  | [d1, d2, d3] => { results := [.lit (.bool true)], args := [d1, d2, d3] }
  | _ => none }
def valueCutRow : OpenClaim := { program := "ytoggnmfjkbnopaa", sum := "1f35dd9cd2fcb4cfad3db6c1b6e955df81e8fb0ce25119ba5a898991d884a817", func := "lacuna/lacunalaw06.ValueCut", spec := "valueCut", inPlace := ["math.Float64frombits", "math.Float64bits"], apart := false }
def ValueCutSaid : Prop := valueCutRow.holds Try.pinned (OpenSpec.ofChange valueCutSpec)

/-- ITS FALSE NEIGHBOUR: 'it returns false'. Refute it at one input. -/
def valueCutWrong : ChangeSpec := { name := "valueCut", fn := fun _ => fun
  | [d1, d2, d3] => { results := [.lit (.bool false)], args := [d1, d2, d3] }
  | _ => none }
def ValueCutWrongFalsely : Prop := valueCutRow.holds Try.pinned (OpenSpec.ofChange valueCutWrong)

/-- 'lacunalaw06.ValueApart': WHATEVER THE INPUT: true; the input reads as it did. -/
def valueApartSpec : ChangeSpec := { name := "valueApart", fn := fun _ => fun
  | [d1, d2, d3] => { results := [.lit (.bool true)], args := [d1, d2, d3] }
  | _ => none }
def valueApartRow : OpenClaim := { program := "ytoggnmfjkbnopaa", sum := "1f35dd9cd2fcb4cfad3db6c1b6e955df81e8fb0ce25119ba5a898991d884a817", func := "lacuna/lacunalaw06.ValueApart", spec := "valueApart", inPlace := ["math.Float64frombits", "math.Float64bits"], apart := false }
def ValueApartSaid : Prop := valueApartRow.holds Try.pinned (OpenSpec.ofChange valueApartSpec)

/-- ITS FALSE NEIGHBOUR: 'it returns false'. Refute it at one input. -/
def valueApartWrong : ChangeSpec := { name := "valueApart", fn := fun _ => fun
  | [d1, d2, d3] => { results := [.lit (.bool false)], args := [d1, d2, d3] }
  | _ => none }
def ValueApartWrongFalsely : Prop := valueApartRow.holds Try.pinned (OpenSpec.ofChange valueApartWrong)

/-- 'lacunalaw06.ValueSame': WHATEVER THE INPUT: true; the input reads as it did. -/
def valueSameSpec : ChangeSpec := { name := "valueSame", fn := fun _ => fun
  | [d1, d2, d3] => { results := [.lit (.bool true)], args := [d1, d2, d3] }
  | _ => none }
def valueSameRow : OpenClaim := { program := "ytoggnmfjkbnopaa", sum := "1f35dd9cd2fcb4cfad3db6c1b6e955df81e8fb0ce25119ba5a898991d884a817", func := "lacuna/lacunalaw06.ValueSame", spec := "valueSame", inPlace := ["math.Float64frombits", "math.Float64bits"], apart := false }
def ValueSameSaid : Prop := valueSameRow.holds Try.pinned (OpenSpec.ofChange valueSameSpec)

/-- ITS FALSE NEIGHBOUR: 'it returns false'. Refute it at one input. -/
def valueSameWrong : ChangeSpec := { name := "valueSame", fn := fun _ => fun
  | [d1, d2, d3] => { results := [.lit (.bool false)], args := [d1, d2, d3] }
  | _ => none }
def ValueSameWrongFalsely : Prop := valueSameRow.holds Try.pinned (OpenSpec.ofChange valueSameWrong)

/- THE SECOND FORM. 'bulk': how many values and letters a reading holds, each counted each time it is reached (what is shared counts as often as it is met; a slice's spare places count too). A statement '..UptoSaid' is the law's where the arguments, and the package variables that the reading takes, are together of bulk at most 1048576: NARROWER than '..Said'. Prove '..Said' where nothing that the law and all that it calls make is longer than what came in: it says more and counts as full. Else prove '..UptoSaid'. A law counts once. -/
mutual
def uptoBulk {H : Type} : DataW H → Nat
  | .lit (.string bytes) => bytes.length + 1
  | .lit _ => 1
  | .nil => 1
  | .ptr d => uptoBulk d + 1
  | .slice elems spare => uptoBulkAll elems + uptoBulkAll spare + 1
  | .agg parts => uptoBulkAll parts + 1
  | .iface _ d => uptoBulk d + 1
  | .map entries => uptoBulkEntries entries + 1
  | .held _ => 1
def uptoBulkAll {H : Type} : List (DataW H) → Nat
  | [] => 0
  | d :: r => uptoBulk d + uptoBulkAll r
def uptoBulkEntries {H : Type} : List (Lit × DataW H) → Nat
  | [] => 0
  | x :: r => uptoBulkEntry x + uptoBulkEntries r
def uptoBulkEntry {H : Type} : Lit × DataW H → Nat
  | (.string bytes, d) => bytes.length + uptoBulk d + 1
  | (_, d) => uptoBulk d + 1
 end
def uptoSmall : (H : Type) → List (DataW H) → Bool := fun _ ds => decide (uptoBulkAll ds ≤ 1048576)
def OpenSpec.upto (s : _root_.Go.ChangeSpec) : _root_.Go.OpenSpec := { _root_.Go.OpenSpec.ofChange s with cond := some uptoSmall }

/-- 'lacunalaw05.ScanFeeds', WHERE WHAT IT READS IS OF BULK AT MOST 1048576: true; the input reads as it did. -/
def scanFeedsUptoRow : OpenClaim := { program := "ytoggnmfjkbnopaa", sum := "1f35dd9cd2fcb4cfad3db6c1b6e955df81e8fb0ce25119ba5a898991d884a817", func := "lacuna/lacunalaw05.ScanFeeds", spec := "scanFeeds", apart := false, narrowed := true }
def ScanFeedsUptoSaid : Prop := scanFeedsUptoRow.holds Try.pinned (OpenSpec.upto scanFeedsSpec)

/-- 'lacunalaw05.ScanParts', WHERE WHAT IT READS IS OF BULK AT MOST 1048576: true; the input reads as it did. -/
def scanPartsUptoRow : OpenClaim := { program := "ytoggnmfjkbnopaa", sum := "1f35dd9cd2fcb4cfad3db6c1b6e955df81e8fb0ce25119ba5a898991d884a817", func := "lacuna/lacunalaw05.ScanParts", spec := "scanParts", apart := false, narrowed := true }
def ScanPartsUptoSaid : Prop := scanPartsUptoRow.holds Try.pinned (OpenSpec.upto scanPartsSpec)

/-- 'lacunalaw05.ScanAll', WHERE WHAT IT READS IS OF BULK AT MOST 1048576: true; the input reads as it did. -/
def scanAllUptoRow : OpenClaim := { program := "ytoggnmfjkbnopaa", sum := "1f35dd9cd2fcb4cfad3db6c1b6e955df81e8fb0ce25119ba5a898991d884a817", func := "lacuna/lacunalaw05.ScanAll", spec := "scanAll", apart := false, narrowed := true }
def ScanAllUptoSaid : Prop := scanAllUptoRow.holds Try.pinned (OpenSpec.upto scanAllSpec)

/-- 'lacunalaw05.ScanStops', WHERE WHAT IT READS IS OF BULK AT MOST 1048576: true; the input reads as it did. -/
def scanStopsUptoRow : OpenClaim := { program := "ytoggnmfjkbnopaa", sum := "1f35dd9cd2fcb4cfad3db6c1b6e955df81e8fb0ce25119ba5a898991d884a817", func := "lacuna/lacunalaw05.ScanStops", spec := "scanStops", apart := false, narrowed := true }
def ScanStopsUptoSaid : Prop := scanStopsUptoRow.holds Try.pinned (OpenSpec.upto scanStopsSpec)

/-- 'lacunalaw06.ValueTells', WHERE WHAT IT READS IS OF BULK AT MOST 1048576: true; the input reads as it did. -/
def valueTellsUptoRow : OpenClaim := { program := "ytoggnmfjkbnopaa", sum := "1f35dd9cd2fcb4cfad3db6c1b6e955df81e8fb0ce25119ba5a898991d884a817", func := "lacuna/lacunalaw06.ValueTells", spec := "valueTells", inPlace := ["math.Float64frombits", "math.Float64bits"], apart := false, narrowed := true }
def ValueTellsUptoSaid : Prop := valueTellsUptoRow.holds Try.pinned (OpenSpec.upto valueTellsSpec)

/-- 'lacunalaw06.ValuePuts', WHERE WHAT IT READS IS OF BULK AT MOST 1048576: true; the input reads as it did. -/
def valuePutsUptoRow : OpenClaim := { program := "ytoggnmfjkbnopaa", sum := "1f35dd9cd2fcb4cfad3db6c1b6e955df81e8fb0ce25119ba5a898991d884a817", func := "lacuna/lacunalaw06.ValuePuts", spec := "valuePuts", inPlace := ["math.Float64frombits", "math.Float64bits"], apart := false, narrowed := true }
def ValuePutsUptoSaid : Prop := valuePutsUptoRow.holds Try.pinned (OpenSpec.upto valuePutsSpec)

/-- 'lacunalaw06.ValueTakes', WHERE WHAT IT READS IS OF BULK AT MOST 1048576: true; the input reads as it did. -/
def valueTakesUptoRow : OpenClaim := { program := "ytoggnmfjkbnopaa", sum := "1f35dd9cd2fcb4cfad3db6c1b6e955df81e8fb0ce25119ba5a898991d884a817", func := "lacuna/lacunalaw06.ValueTakes", spec := "valueTakes", inPlace := ["math.Float64frombits", "math.Float64bits"], apart := false, narrowed := true }
def ValueTakesUptoSaid : Prop := valueTakesUptoRow.holds Try.pinned (OpenSpec.upto valueTakesSpec)

/-- 'lacunalaw06.ValueBack', WHERE WHAT IT READS IS OF BULK AT MOST 1048576: true; the input reads as it did. -/
def valueBackUptoRow : OpenClaim := { program := "ytoggnmfjkbnopaa", sum := "1f35dd9cd2fcb4cfad3db6c1b6e955df81e8fb0ce25119ba5a898991d884a817", func := "lacuna/lacunalaw06.ValueBack", spec := "valueBack", inPlace := ["math.Float64frombits", "math.Float64bits"], apart := false, narrowed := true }
def ValueBackUptoSaid : Prop := valueBackUptoRow.holds Try.pinned (OpenSpec.upto valueBackSpec)

/-- 'lacunalaw06.ValueCut', WHERE WHAT IT READS IS OF BULK AT MOST 1048576: true; the input reads as it did. -/
def valueCutUptoRow : OpenClaim := { program := "ytoggnmfjkbnopaa", sum := "1f35dd9cd2fcb4cfad3db6c1b6e955df81e8fb0ce25119ba5a898991d884a817", func := "lacuna/lacunalaw06.ValueCut", spec := "valueCut", inPlace := ["math.Float64frombits", "math.Float64bits"], apart := false, narrowed := true }
def ValueCutUptoSaid : Prop := valueCutUptoRow.holds Try.pinned (OpenSpec.upto valueCutSpec)

/-- 'lacunalaw06.ValueApart', WHERE WHAT IT READS IS OF BULK AT MOST 1048576: true; the input reads as it did. -/
def valueApartUptoRow : OpenClaim := { program := "ytoggnmfjkbnopaa", sum := "1f35dd9cd2fcb4cfad3db6c1b6e955df81e8fb0ce25119ba5a898991d884a817", func := "lacuna/lacunalaw06.ValueApart", spec := "valueApart", inPlace := ["math.Float64frombits", "math.Float64bits"], apart := false, narrowed := true }
def ValueApartUptoSaid : Prop := valueApartUptoRow.holds Try.pinned (OpenSpec.upto valueApartSpec)

/-- 'lacunalaw06.ValueSame', WHERE WHAT IT READS IS OF BULK AT MOST 1048576: true; the input reads as it did. -/
def valueSameUptoRow : OpenClaim := { program := "ytoggnmfjkbnopaa", sum := "1f35dd9cd2fcb4cfad3db6c1b6e955df81e8fb0ce25119ba5a898991d884a817", func := "lacuna/lacunalaw06.ValueSame", spec := "valueSame", inPlace := ["math.Float64frombits", "math.Float64bits"], apart := false, narrowed := true }
def ValueSameUptoSaid : Prop := valueSameUptoRow.holds Try.pinned (OpenSpec.upto valueSameSpec)

end Rows
end Go.Proofs.Ytoggnmfjkbnopaa
