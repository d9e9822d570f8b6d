/-
  No cell of these rows narrows 'for every input' (looked for: loops, veiled, ifaces, maps, wideKeys, modest, calm, conditions, laid).
  DERIVED. THE GIVEN ROWS OF THIS SEAT. 5 by the template 'for every input the law returns true; each argument reads behind the call as it read before'; 0 by the template 'total and deterministic' (their statements: YtdpebdbfphlmeaaTotals.lean).
  GIVEN WITH THE SEED: the statements are not yours to turn. If you find one false, say at which input.
  Laid BY PROGRAM, IN A SANDBOX (cutbox-rows.mjs): the forced cells as the released guide's own fill.sh prints them over the translation 5710d32d79840ddf… (all of the seat's roots in one cut). By AI agents, Wed Nov 11 2026. No macro, syntax, notation, axiom, sorry.
-/
import Derived.Test.YtdpebdbfphlmeaaChecked
import GoSem.Claim
import GoSem.ClaimJoined
import GoSem.ClaimMapViews
import Derived.JoinedTies
import Derived.KernelRfl
namespace Go.Proofs.Ytdpebdbfphlmeaa
/- THE CELL 'sum', in the pinned program and in every row, IS THE sha256 OF THE DUMP (.gsa) THAT YtdpebdbfphlmeaaProg.lean LOADS. Nothing in Lean hashes anything: it is a label: what it is worth is what the hold of that sum in a sandbox is worth. -/
noncomputable def Try.pinned : Pinned := { name := "ytdpebdbfphlmeaa", sum := "5710d32d79840ddfcd5485f078a7828690c751e3d37f0e5a2b2d1460636c7f16", checked := Try.checked }
namespace Rows
def none {H : Type} : Left H := { results := [], args := [] }

/-- 'lacunalaw12.ImageTells': WHATEVER THE INPUT: true; the input reads as it did. -/
def imageTellsSpec : ChangeSpec := { name := "imageTells", fn := fun _ => fun
  | [d1, d2] => { results := [.lit (.bool true)], args := [d1, d2] }
  | _ => none }
def imageTellsRow : OpenClaim := { program := "ytdpebdbfphlmeaa", sum := "5710d32d79840ddfcd5485f078a7828690c751e3d37f0e5a2b2d1460636c7f16", func := "lacuna/lacunalaw12.ImageTells", spec := "imageTells", inPlace := ["math.Float64frombits", "math.Float64bits"], unfollowed := true, recurses := true, apart := false }
def ImageTellsSaid : Prop := imageTellsRow.holds Try.pinned (OpenSpec.ofChange imageTellsSpec)

/-- ITS FALSE NEIGHBOUR: 'it returns false'. Refute it at one input. -/
def imageTellsWrong : ChangeSpec := { name := "imageTells", fn := fun _ => fun
  | [d1, d2] => { results := [.lit (.bool false)], args := [d1, d2] }
  | _ => none }
def ImageTellsWrongFalsely : Prop := imageTellsRow.holds Try.pinned (OpenSpec.ofChange imageTellsWrong)

/-- 'lacunalaw12.ImageRights': WHATEVER THE INPUT: true; the input reads as it did. -/
def imageRightsSpec : ChangeSpec := { name := "imageRights", fn := fun _ => fun
  | [d1, d2] => { results := [.lit (.bool true)], args := [d1, d2] }
  | _ => none }
def imageRightsRow : OpenClaim := { program := "ytdpebdbfphlmeaa", sum := "5710d32d79840ddfcd5485f078a7828690c751e3d37f0e5a2b2d1460636c7f16", func := "lacuna/lacunalaw12.ImageRights", spec := "imageRights", inPlace := ["math.Float64frombits", "math.Float64bits"], unfollowed := true, recurses := true, apart := false }
def ImageRightsSaid : Prop := imageRightsRow.holds Try.pinned (OpenSpec.ofChange imageRightsSpec)

/-- ITS FALSE NEIGHBOUR: 'it returns false'. Refute it at one input. -/
def imageRightsWrong : ChangeSpec := { name := "imageRights", fn := fun _ => fun
  | [d1, d2] => { results := [.lit (.bool false)], args := [d1, d2] }
  | _ => none }
def ImageRightsWrongFalsely : Prop := imageRightsRow.holds Try.pinned (OpenSpec.ofChange imageRightsWrong)

/-- 'lacunalaw12.ImageKeys': WHATEVER THE INPUT: true; the input reads as it did. -/
def imageKeysSpec : ChangeSpec := { name := "imageKeys", fn := fun _ => fun
  | [d1, d2] => { results := [.lit (.bool true)], args := [d1, d2] }
  | _ => none }
def imageKeysRow : OpenClaim := { program := "ytdpebdbfphlmeaa", sum := "5710d32d79840ddfcd5485f078a7828690c751e3d37f0e5a2b2d1460636c7f16", func := "lacuna/lacunalaw12.ImageKeys", spec := "imageKeys", inPlace := ["math.Float64frombits", "math.Float64bits"], unfollowed := true, recurses := true, apart := false }
def ImageKeysSaid : Prop := imageKeysRow.holds Try.pinned (OpenSpec.ofChange imageKeysSpec)

/-- ITS FALSE NEIGHBOUR: 'it returns false'. Refute it at one input. -/
def imageKeysWrong : ChangeSpec := { name := "imageKeys", fn := fun _ => fun
  | [d1, d2] => { results := [.lit (.bool false)], args := [d1, d2] }
  | _ => none }
def ImageKeysWrongFalsely : Prop := imageKeysRow.holds Try.pinned (OpenSpec.ofChange imageKeysWrong)

/-- 'lacunalaw12.ImageMerged': WHATEVER THE INPUT: true; the input reads as it did. -/
def imageMergedSpec : ChangeSpec := { name := "imageMerged", fn := fun _ => fun
  | [d1, d2] => { results := [.lit (.bool true)], args := [d1, d2] }
  | _ => none }
def imageMergedRow : OpenClaim := { program := "ytdpebdbfphlmeaa", sum := "5710d32d79840ddfcd5485f078a7828690c751e3d37f0e5a2b2d1460636c7f16", func := "lacuna/lacunalaw12.ImageMerged", spec := "imageMerged", inPlace := ["math.Float64frombits", "math.Float64bits"], unfollowed := true, recurses := true, apart := false }
def ImageMergedSaid : Prop := imageMergedRow.holds Try.pinned (OpenSpec.ofChange imageMergedSpec)

/-- ITS FALSE NEIGHBOUR: 'it returns false'. Refute it at one input. -/
def imageMergedWrong : ChangeSpec := { name := "imageMerged", fn := fun _ => fun
  | [d1, d2] => { results := [.lit (.bool false)], args := [d1, d2] }
  | _ => none }
def ImageMergedWrongFalsely : Prop := imageMergedRow.holds Try.pinned (OpenSpec.ofChange imageMergedWrong)

/-- 'lacunalaw12.ImageStrict': WHATEVER THE INPUT: true; the input reads as it did. -/
def imageStrictSpec : ChangeSpec := { name := "imageStrict", fn := fun _ => fun
  | [d1, d2] => { results := [.lit (.bool true)], args := [d1, d2] }
  | _ => none }
def imageStrictRow : OpenClaim := { program := "ytdpebdbfphlmeaa", sum := "5710d32d79840ddfcd5485f078a7828690c751e3d37f0e5a2b2d1460636c7f16", func := "lacuna/lacunalaw12.ImageStrict", spec := "imageStrict", inPlace := ["math.Float64frombits", "math.Float64bits"], unfollowed := true, recurses := true, apart := false }
def ImageStrictSaid : Prop := imageStrictRow.holds Try.pinned (OpenSpec.ofChange imageStrictSpec)

/-- ITS FALSE NEIGHBOUR: 'it returns false'. Refute it at one input. -/
def imageStrictWrong : ChangeSpec := { name := "imageStrict", fn := fun _ => fun
  | [d1, d2] => { results := [.lit (.bool false)], args := [d1, d2] }
  | _ => none }
def ImageStrictWrongFalsely : Prop := imageStrictRow.holds Try.pinned (OpenSpec.ofChange imageStrictWrong)

/- THE SECOND FORM. 'bulk': how many values and letters a reading holds, each counted each time it is reached (what is shared counts as often as it is met; a slice's spare places count too). A statement '..UptoSaid' is the law's where the arguments, and the package variables that the reading takes, are together of bulk at most 1048576: NARROWER than '..Said'. Prove '..Said' where nothing that the law and all that it calls make is longer than what came in: it says more and counts as full. Else prove '..UptoSaid'. A law counts once. -/
mutual
def uptoBulk {H : Type} : DataW H → Nat
  | .lit (.string bytes) => bytes.length + 1
  | .lit _ => 1
  | .nil => 1
  | .ptr d => uptoBulk d + 1
  | .slice elems spare => uptoBulkAll elems + uptoBulkAll spare + 1
  | .agg parts => uptoBulkAll parts + 1
  | .iface _ d => uptoBulk d + 1
  | .map entries => uptoBulkEntries entries + 1
  | .held _ => 1
def uptoBulkAll {H : Type} : List (DataW H) → Nat
  | [] => 0
  | d :: r => uptoBulk d + uptoBulkAll r
def uptoBulkEntries {H : Type} : List (Lit × DataW H) → Nat
  | [] => 0
  | x :: r => uptoBulkEntry x + uptoBulkEntries r
def uptoBulkEntry {H : Type} : Lit × DataW H → Nat
  | (.string bytes, d) => bytes.length + uptoBulk d + 1
  | (_, d) => uptoBulk d + 1
 end
def uptoSmall : (H : Type) → List (DataW H) → Bool := fun _ ds => decide (uptoBulkAll ds ≤ 1048576)
def OpenSpec.upto (s : _root_.Go.ChangeSpec) : _root_.Go.OpenSpec := { _root_.Go.OpenSpec.ofChange s with cond := some uptoSmall }

/-- 'lacunalaw12.ImageTells', WHERE WHAT IT READS IS OF BULK AT MOST 1048576: true; the input reads as it did. -/
def imageTellsUptoRow : OpenClaim := { program := "ytdpebdbfphlmeaa", sum := "5710d32d79840ddfcd5485f078a7828690c751e3d37f0e5a2b2d1460636c7f16", func := "lacuna/lacunalaw12.ImageTells", spec := "imageTells", inPlace := ["math.Float64frombits", "math.Float64bits"], unfollowed := true, recurses := true, apart := false, narrowed := true }
def ImageTellsUptoSaid : Prop := imageTellsUptoRow.holds Try.pinned (OpenSpec.upto imageTellsSpec)

/-- 'lacunalaw12.ImageRights', WHERE WHAT IT READS IS OF BULK AT MOST 1048576: true; the input reads as it did. -/
def imageRightsUptoRow : OpenClaim := { program := "ytdpebdbfphlmeaa", sum := "5710d32d79840ddfcd5485f078a7828690c751e3d37f0e5a2b2d1460636c7f16", func := "lacuna/lacunalaw12.ImageRights", spec := "imageRights", inPlace := ["math.Float64frombits", "math.Float64bits"], unfollowed := true, recurses := true, apart := false, narrowed := true }
def ImageRightsUptoSaid : Prop := imageRightsUptoRow.holds Try.pinned (OpenSpec.upto imageRightsSpec)

/-- 'lacunalaw12.ImageKeys', WHERE WHAT IT READS IS OF BULK AT MOST 1048576: true; the input reads as it did. -/
def imageKeysUptoRow : OpenClaim := { program := "ytdpebdbfphlmeaa", sum := "5710d32d79840ddfcd5485f078a7828690c751e3d37f0e5a2b2d1460636c7f16", func := "lacuna/lacunalaw12.ImageKeys", spec := "imageKeys", inPlace := ["math.Float64frombits", "math.Float64bits"], unfollowed := true, recurses := true, apart := false, narrowed := true }
def ImageKeysUptoSaid : Prop := imageKeysUptoRow.holds Try.pinned (OpenSpec.upto imageKeysSpec)

/-- 'lacunalaw12.ImageMerged', WHERE WHAT IT READS IS OF BULK AT MOST 1048576: true; the input reads as it did. -/
def imageMergedUptoRow : OpenClaim := { program := "ytdpebdbfphlmeaa", sum := "5710d32d79840ddfcd5485f078a7828690c751e3d37f0e5a2b2d1460636c7f16", func := "lacuna/lacunalaw12.ImageMerged", spec := "imageMerged", inPlace := ["math.Float64frombits", "math.Float64bits"], unfollowed := true, recurses := true, apart := false, narrowed := true }
def ImageMergedUptoSaid : Prop := imageMergedUptoRow.holds Try.pinned (OpenSpec.upto imageMergedSpec)

/-- 'lacunalaw12.ImageStrict', WHERE WHAT IT READS IS OF BULK AT MOST 1048576: true; the input reads as it did. -/
def imageStrictUptoRow : OpenClaim := { program := "ytdpebdbfphlmeaa", sum := "5710d32d79840ddfcd5485f078a7828690c751e3d37f0e5a2b2d1460636c7f16", func := "lacuna/lacunalaw12.ImageStrict", spec := "imageStrict", inPlace := ["math.Float64frombits", "math.Float64bits"], unfollowed := true, recurses := true, apart := false, narrowed := true }
def ImageStrictUptoSaid : Prop := imageStrictUptoRow.holds Try.pinned (OpenSpec.upto imageStrictSpec)

end Rows
end Go.Proofs.Ytdpebdbfphlmeaa
