/-
  No cell of these rows narrows 'for every input' (looked for: loops, veiled, ifaces, maps, wideKeys, modest, calm, conditions, laid).
  DERIVED. THE GIVEN ROWS OF THIS SEAT. 10 by the template 'for every input the law returns true; each argument reads behind the call as it read before'; 0 by the template 'total and deterministic' (their statements: YtpbedbbggnhkbaaTotals.lean).
  GIVEN WITH THE SEED: the statements are not yours to turn. If you find one false, say at which input.
  Laid BY PROGRAM, IN A SANDBOX (cutbox-rows.mjs): the forced cells as the released guide's own fill.sh prints them over the translation a50cd129cb87a22c… (all of the seat's roots in one cut). By AI agents, Wed Nov 11 2026. No macro, syntax, notation, axiom, sorry.
-/
import Derived.Test.YtpbedbbggnhkbaaChecked
import GoSem.Claim
import GoSem.ClaimJoined
import GoSem.ClaimMapViews
import Derived.JoinedTies
import Derived.KernelRfl
namespace Go.Proofs.Ytpbedbbggnhkbaa
/- THE CELL 'sum', in the pinned program and in every row, IS THE sha256 OF THE DUMP (.gsa) THAT YtpbedbbggnhkbaaProg.lean LOADS. Nothing in Lean hashes anything: it is a label: what it is worth is what the hold of that sum in a sandbox is worth. -/
noncomputable def Try.pinned : Pinned := { name := "ytpbedbbggnhkbaa", sum := "a50cd129cb87a22ce0a2c67b297c2436b25933e70b52145c01a2d86505ae7f03", checked := Try.checked }
namespace Rows
def none {H : Type} : Left H := { results := [], args := [] }

/-- 'lacunalaw01.PrimPuts': WHATEVER THE INPUT: true; the input reads as it did. -/
def primPutsSpec : ChangeSpec := { name := "primPuts", fn := fun _ => fun
  | [d1, d2, d3] => { results := [.lit (.bool true)], args := [d1, d2, d3] }
  | _ => none }
def primPutsRow : OpenClaim := { program := "ytpbedbbggnhkbaa", sum := "a50cd129cb87a22ce0a2c67b297c2436b25933e70b52145c01a2d86505ae7f03", func := "lacuna/lacunalaw01.PrimPuts", spec := "primPuts", apart := false }
def PrimPutsSaid : Prop := primPutsRow.holds Try.pinned (OpenSpec.ofChange primPutsSpec)

/-- ITS FALSE NEIGHBOUR: 'it returns false'. Refute it at one input. -/
def primPutsWrong : ChangeSpec := { name := "primPuts", fn := fun _ => fun
  | [d1, d2, d3] => { results := [.lit (.bool false)], args := [d1, d2, d3] }
  | _ => none }
def PrimPutsWrongFalsely : Prop := primPutsRow.holds Try.pinned (OpenSpec.ofChange primPutsWrong)

/-- 'lacunalaw01.PrimReads': WHATEVER THE INPUT: true; the input reads as it did. -/
def primReadsSpec : ChangeSpec := { name := "primReads", fn := fun _ => fun
  | [d1, d2] => { results := [.lit (.bool true)], args := [d1, d2] }
  | _ => none }
def primReadsRow : OpenClaim := { program := "ytpbedbbggnhkbaa", sum := "a50cd129cb87a22ce0a2c67b297c2436b25933e70b52145c01a2d86505ae7f03", func := "lacuna/lacunalaw01.PrimReads", spec := "primReads", apart := false }
def PrimReadsSaid : Prop := primReadsRow.holds Try.pinned (OpenSpec.ofChange primReadsSpec)

/-- ITS FALSE NEIGHBOUR: 'it returns false'. Refute it at one input. -/
def primReadsWrong : ChangeSpec := { name := "primReads", fn := fun _ => fun
  | [d1, d2] => { results := [.lit (.bool false)], args := [d1, d2] }
  | _ => none }
def PrimReadsWrongFalsely : Prop := primReadsRow.holds Try.pinned (OpenSpec.ofChange primReadsWrong)

/-- 'lacunalaw01.PrimBack': WHATEVER THE INPUT: true; the input reads as it did. -/
def primBackSpec : ChangeSpec := { name := "primBack", fn := fun _ => fun
  | [d1, d2, d3] => { results := [.lit (.bool true)], args := [d1, d2, d3] }
  | _ => none }
def primBackRow : OpenClaim := { program := "ytpbedbbggnhkbaa", sum := "a50cd129cb87a22ce0a2c67b297c2436b25933e70b52145c01a2d86505ae7f03", func := "lacuna/lacunalaw01.PrimBack", spec := "primBack", apart := false }
def PrimBackSaid : Prop := primBackRow.holds Try.pinned (OpenSpec.ofChange primBackSpec)

/-- ITS FALSE NEIGHBOUR: 'it returns false'. Refute it at one input. -/
def primBackWrong : ChangeSpec := { name := "primBack", fn := fun _ => fun
  | [d1, d2, d3] => { results := [.lit (.bool false)], args := [d1, d2, d3] }
  | _ => none }
def PrimBackWrongFalsely : Prop := primBackRow.holds Try.pinned (OpenSpec.ofChange primBackWrong)

/-- 'lacunalaw01.PrimGivesUp': WHATEVER THE INPUT: true; the input reads as it did. -/
def primGivesUpSpec : ChangeSpec := { name := "primGivesUp", fn := fun _ => fun
  | [d1, d2, d3] => { results := [.lit (.bool true)], args := [d1, d2, d3] }
  | _ => none }
def primGivesUpRow : OpenClaim := { program := "ytpbedbbggnhkbaa", sum := "a50cd129cb87a22ce0a2c67b297c2436b25933e70b52145c01a2d86505ae7f03", func := "lacuna/lacunalaw01.PrimGivesUp", spec := "primGivesUp", apart := false }
def PrimGivesUpSaid : Prop := primGivesUpRow.holds Try.pinned (OpenSpec.ofChange primGivesUpSpec)

/-- ITS FALSE NEIGHBOUR: 'it returns false'. Refute it at one input. -/
def primGivesUpWrong : ChangeSpec := { name := "primGivesUp", fn := fun _ => fun
  | [d1, d2, d3] => { results := [.lit (.bool false)], args := [d1, d2, d3] }
  | _ => none }
def PrimGivesUpWrongFalsely : Prop := primGivesUpRow.holds Try.pinned (OpenSpec.ofChange primGivesUpWrong)

/-- 'lacunalaw01.PrimLimits': WHATEVER THE INPUT: true; the input reads as it did. -/
def primLimitsSpec : ChangeSpec := { name := "primLimits", fn := fun _ => fun
  | [d1, d2, d3] => { results := [.lit (.bool true)], args := [d1, d2, d3] }
  | _ => none }
def primLimitsRow : OpenClaim := { program := "ytpbedbbggnhkbaa", sum := "a50cd129cb87a22ce0a2c67b297c2436b25933e70b52145c01a2d86505ae7f03", func := "lacuna/lacunalaw01.PrimLimits", spec := "primLimits", apart := false }
def PrimLimitsSaid : Prop := primLimitsRow.holds Try.pinned (OpenSpec.ofChange primLimitsSpec)

/-- ITS FALSE NEIGHBOUR: 'it returns false'. Refute it at one input. -/
def primLimitsWrong : ChangeSpec := { name := "primLimits", fn := fun _ => fun
  | [d1, d2, d3] => { results := [.lit (.bool false)], args := [d1, d2, d3] }
  | _ => none }
def PrimLimitsWrongFalsely : Prop := primLimitsRow.holds Try.pinned (OpenSpec.ofChange primLimitsWrong)

/-- 'lacunalaw01.PrimApart': WHATEVER THE INPUT: true; the input reads as it did. -/
def primApartSpec : ChangeSpec := { name := "primApart", fn := fun _ => fun
  | [d1, d2, d3] => { results := [.lit (.bool true)], args := [d1, d2, d3] }
  | _ => none }
def primApartRow : OpenClaim := { program := "ytpbedbbggnhkbaa", sum := "a50cd129cb87a22ce0a2c67b297c2436b25933e70b52145c01a2d86505ae7f03", func := "lacuna/lacunalaw01.PrimApart", spec := "primApart", apart := false }
def PrimApartSaid : Prop := primApartRow.holds Try.pinned (OpenSpec.ofChange primApartSpec)

/-- ITS FALSE NEIGHBOUR: 'it returns false'. Refute it at one input. -/
def primApartWrong : ChangeSpec := { name := "primApart", fn := fun _ => fun
  | [d1, d2, d3] => { results := [.lit (.bool false)], args := [d1, d2, d3] }
  | _ => none }
def PrimApartWrongFalsely : Prop := primApartRow.holds Try.pinned (OpenSpec.ofChange primApartWrong)

/-- 'lacunalaw02.BitmapPacks': WHATEVER THE INPUT: true; the input reads as it did. -/
def bitmapPacksSpec : ChangeSpec := { name := "bitmapPacks", fn := fun _ => fun
  | [d] => { results := [.lit (.bool true)], args := [d] }
  | _ => none }
def bitmapPacksRow : OpenClaim := { program := "ytpbedbbggnhkbaa", sum := "a50cd129cb87a22ce0a2c67b297c2436b25933e70b52145c01a2d86505ae7f03", func := "lacuna/lacunalaw02.BitmapPacks", spec := "bitmapPacks", apart := false }
def BitmapPacksSaid : Prop := bitmapPacksRow.holds Try.pinned (OpenSpec.ofChange bitmapPacksSpec)

/-- ITS FALSE NEIGHBOUR: 'it returns false'. Refute it at one input. -/
def bitmapPacksWrong : ChangeSpec := { name := "bitmapPacks", fn := fun _ => fun
  | [d] => { results := [.lit (.bool false)], args := [d] }
  | _ => none }
def BitmapPacksWrongFalsely : Prop := bitmapPacksRow.holds Try.pinned (OpenSpec.ofChange bitmapPacksWrong)

/-- 'lacunalaw02.BitmapUnpacks': WHATEVER THE INPUT: true; the input reads as it did. -/
def bitmapUnpacksSpec : ChangeSpec := { name := "bitmapUnpacks", fn := fun _ => fun
  | [d1, d2] => { results := [.lit (.bool true)], args := [d1, d2] }
  | _ => none }
def bitmapUnpacksRow : OpenClaim := { program := "ytpbedbbggnhkbaa", sum := "a50cd129cb87a22ce0a2c67b297c2436b25933e70b52145c01a2d86505ae7f03", func := "lacuna/lacunalaw02.BitmapUnpacks", spec := "bitmapUnpacks", apart := false }
def BitmapUnpacksSaid : Prop := bitmapUnpacksRow.holds Try.pinned (OpenSpec.ofChange bitmapUnpacksSpec)

/-- ITS FALSE NEIGHBOUR: 'it returns false'. Refute it at one input. -/
def bitmapUnpacksWrong : ChangeSpec := { name := "bitmapUnpacks", fn := fun _ => fun
  | [d1, d2] => { results := [.lit (.bool false)], args := [d1, d2] }
  | _ => none }
def BitmapUnpacksWrongFalsely : Prop := bitmapUnpacksRow.holds Try.pinned (OpenSpec.ofChange bitmapUnpacksWrong)

/-- 'lacunalaw02.BitmapBack': WHATEVER THE INPUT: true; the input reads as it did. -/
def bitmapBackSpec : ChangeSpec := { name := "bitmapBack", fn := fun _ => fun
  | [d1, d2, d3] => { results := [.lit (.bool true)], args := [d1, d2, d3] }
  | _ => none }
def bitmapBackRow : OpenClaim := { program := "ytpbedbbggnhkbaa", sum := "a50cd129cb87a22ce0a2c67b297c2436b25933e70b52145c01a2d86505ae7f03", func := "lacuna/lacunalaw02.BitmapBack", spec := "bitmapBack", apart := false }
def BitmapBackSaid : Prop := bitmapBackRow.holds Try.pinned (OpenSpec.ofChange bitmapBackSpec)

/-- ITS FALSE NEIGHBOUR: 'it returns false'. Refute it at one input. -/
def bitmapBackWrong : ChangeSpec := { name := "bitmapBack", fn := fun _ => fun
  | [d1, d2, d3] => { results := [.lit (.bool false)], args := [d1, d2, d3] }
  | _ => none }
def BitmapBackWrongFalsely : Prop := bitmapBackRow.holds Try.pinned (OpenSpec.ofChange bitmapBackWrong)

/-- 'lacunalaw02.BitmapApart': WHATEVER THE INPUT: true; the input reads as it did. -/
def bitmapApartSpec : ChangeSpec := { name := "bitmapApart", fn := fun _ => fun
  | [d1, d2] => { results := [.lit (.bool true)], args := [d1, d2] }
  | _ => none }
def bitmapApartRow : OpenClaim := { program := "ytpbedbbggnhkbaa", sum := "a50cd129cb87a22ce0a2c67b297c2436b25933e70b52145c01a2d86505ae7f03", func := "lacuna/lacunalaw02.BitmapApart", spec := "bitmapApart", apart := false }
def BitmapApartSaid : Prop := bitmapApartRow.holds Try.pinned (OpenSpec.ofChange bitmapApartSpec)

/-- ITS FALSE NEIGHBOUR: 'it returns false'. Refute it at one input. -/
def bitmapApartWrong : ChangeSpec := { name := "bitmapApart", fn := fun _ => fun
  | [d1, d2] => { results := [.lit (.bool false)], args := [d1, d2] }
  | _ => none }
def BitmapApartWrongFalsely : Prop := bitmapApartRow.holds Try.pinned (OpenSpec.ofChange bitmapApartWrong)

/- THE SECOND FORM. 'bulk': how many values and letters a reading holds, each counted each time it is reached (what is shared counts as often as it is met; a slice's spare places count too). A statement '..UptoSaid' is the law's where the arguments, and the package variables that the reading takes, are together of bulk at most 1048576: NARROWER than '..Said'. Prove '..Said' where nothing that the law and all that it calls make is longer than what came in: it says more and counts as full. Else prove '..UptoSaid'. A law counts once. -/
mutual
def uptoBulk {H : Type} : DataW H → Nat
  | .lit (.string bytes) => bytes.length + 1
  | .lit _ => 1
  | .nil => 1
  | .ptr d => uptoBulk d + 1
  | .slice elems spare => uptoBulkAll elems + uptoBulkAll spare + 1
  | .agg parts => uptoBulkAll parts + 1
  | .iface _ d => uptoBulk d + 1
  | .map entries => uptoBulkEntries entries + 1
  | .held _ => 1
def uptoBulkAll {H : Type} : List (DataW H) → Nat
  | [] => 0
  | d :: r => uptoBulk d + uptoBulkAll r
def uptoBulkEntries {H : Type} : List (Lit × DataW H) → Nat
  | [] => 0
  | x :: r => uptoBulkEntry x + uptoBulkEntries r
def uptoBulkEntry {H : Type} : Lit × DataW H → Nat
  | (.string bytes, d) => bytes.length + uptoBulk d + 1
  | (_, d) => uptoBulk d + 1
 end
def uptoSmall : (H : Type) → List (DataW H) → Bool := fun _ ds => decide (uptoBulkAll ds ≤ 1048576)
def OpenSpec.upto (s : _root_.Go.ChangeSpec) : _root_.Go.OpenSpec := { _root_.Go.OpenSpec.ofChange s with cond := some uptoSmall }

/-- 'lacunalaw01.PrimPuts', WHERE WHAT IT READS IS OF BULK AT MOST 1048576: true; the input reads as it did. -/
def primPutsUptoRow : OpenClaim := { program := "ytpbedbbggnhkbaa", sum := "a50cd129cb87a22ce0a2c67b297c2436b25933e70b52145c01a2d86505ae7f03", func := "lacuna/lacunalaw01.PrimPuts", spec := "primPuts", apart := false, narrowed := true }
def PrimPutsUptoSaid : Prop := primPutsUptoRow.holds Try.pinned (OpenSpec.upto primPutsSpec)

/-- 'lacunalaw01.PrimReads', WHERE WHAT IT READS IS OF BULK AT MOST 1048576: true; the input reads as it did. -/
def primReadsUptoRow : OpenClaim := { program := "ytpbedbbggnhkbaa", sum := "a50cd129cb87a22ce0a2c67b297c2436b25933e70b52145c01a2d86505ae7f03", func := "lacuna/lacunalaw01.PrimReads", spec := "primReads", apart := false, narrowed := true }
def PrimReadsUptoSaid : Prop := primReadsUptoRow.holds Try.pinned (OpenSpec.upto primReadsSpec)

/-- 'lacunalaw01.PrimBack', WHERE WHAT IT READS IS OF BULK AT MOST 1048576: true; the input reads as it did. -/
def primBackUptoRow : OpenClaim := { program := "ytpbedbbggnhkbaa", sum := "a50cd129cb87a22ce0a2c67b297c2436b25933e70b52145c01a2d86505ae7f03", func := "lacuna/lacunalaw01.PrimBack", spec := "primBack", apart := false, narrowed := true }
def PrimBackUptoSaid : Prop := primBackUptoRow.holds Try.pinned (OpenSpec.upto primBackSpec)

/-- 'lacunalaw01.PrimGivesUp', WHERE WHAT IT READS IS OF BULK AT MOST 1048576: true; the input reads as it did. -/
def primGivesUpUptoRow : OpenClaim := { program := "ytpbedbbggnhkbaa", sum := "a50cd129cb87a22ce0a2c67b297c2436b25933e70b52145c01a2d86505ae7f03", func := "lacuna/lacunalaw01.PrimGivesUp", spec := "primGivesUp", apart := false, narrowed := true }
def PrimGivesUpUptoSaid : Prop := primGivesUpUptoRow.holds Try.pinned (OpenSpec.upto primGivesUpSpec)

/-- 'lacunalaw01.PrimLimits', WHERE WHAT IT READS IS OF BULK AT MOST 1048576: true; the input reads as it did. -/
def primLimitsUptoRow : OpenClaim := { program := "ytpbedbbggnhkbaa", sum := "a50cd129cb87a22ce0a2c67b297c2436b25933e70b52145c01a2d86505ae7f03", func := "lacuna/lacunalaw01.PrimLimits", spec := "primLimits", apart := false, narrowed := true }
def PrimLimitsUptoSaid : Prop := primLimitsUptoRow.holds Try.pinned (OpenSpec.upto primLimitsSpec)

/-- 'lacunalaw01.PrimApart', WHERE WHAT IT READS IS OF BULK AT MOST 1048576: true; the input reads as it did. -/
def primApartUptoRow : OpenClaim := { program := "ytpbedbbggnhkbaa", sum := "a50cd129cb87a22ce0a2c67b297c2436b25933e70b52145c01a2d86505ae7f03", func := "lacuna/lacunalaw01.PrimApart", spec := "primApart", apart := false, narrowed := true }
def PrimApartUptoSaid : Prop := primApartUptoRow.holds Try.pinned (OpenSpec.upto primApartSpec)

/-- 'lacunalaw02.BitmapPacks', WHERE WHAT IT READS IS OF BULK AT MOST 1048576: true; the input reads as it did. -/
def bitmapPacksUptoRow : OpenClaim := { program := "ytpbedbbggnhkbaa", sum := "a50cd129cb87a22ce0a2c67b297c2436b25933e70b52145c01a2d86505ae7f03", func := "lacuna/lacunalaw02.BitmapPacks", spec := "bitmapPacks", apart := false, narrowed := true }
def BitmapPacksUptoSaid : Prop := bitmapPacksUptoRow.holds Try.pinned (OpenSpec.upto bitmapPacksSpec)

/-- 'lacunalaw02.BitmapUnpacks', WHERE WHAT IT READS IS OF BULK AT MOST 1048576: true; the input reads as it did. -/
def bitmapUnpacksUptoRow : OpenClaim := { program := "ytpbedbbggnhkbaa", sum := "a50cd129cb87a22ce0a2c67b297c2436b25933e70b52145c01a2d86505ae7f03", func := "lacuna/lacunalaw02.BitmapUnpacks", spec := "bitmapUnpacks", apart := false, narrowed := true }
def BitmapUnpacksUptoSaid : Prop := bitmapUnpacksUptoRow.holds Try.pinned (OpenSpec.upto bitmapUnpacksSpec)

/-- 'lacunalaw02.BitmapBack', WHERE WHAT IT READS IS OF BULK AT MOST 1048576: true; the input reads as it did. -/
def bitmapBackUptoRow : OpenClaim := { program := "ytpbedbbggnhkbaa", sum := "a50cd129cb87a22ce0a2c67b297c2436b25933e70b52145c01a2d86505ae7f03", func := "lacuna/lacunalaw02.BitmapBack", spec := "bitmapBack", apart := false, narrowed := true }
def BitmapBackUptoSaid : Prop := bitmapBackUptoRow.holds Try.pinned (OpenSpec.upto bitmapBackSpec)

/-- 'lacunalaw02.BitmapApart', WHERE WHAT IT READS IS OF BULK AT MOST 1048576: true; the input reads as it did. -/
def bitmapApartUptoRow : OpenClaim := { program := "ytpbedbbggnhkbaa", sum := "a50cd129cb87a22ce0a2c67b297c2436b25933e70b52145c01a2d86505ae7f03", func := "lacuna/lacunalaw02.BitmapApart", spec := "bitmapApart", apart := false, narrowed := true }
def BitmapApartUptoSaid : Prop := bitmapApartUptoRow.holds Try.pinned (OpenSpec.upto bitmapApartSpec)

end Rows
end Go.Proofs.Ytpbedbbggnhkbaa
