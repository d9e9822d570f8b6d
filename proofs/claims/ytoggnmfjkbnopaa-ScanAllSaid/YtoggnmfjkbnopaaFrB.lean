/-
  Frames of the document and of the program: the same record; a frame's bytes.
-/
import Derived.Test.YtoggnmfjkbnopaaProg
import Derived.Test.YtoggnmfjkbnopaaLib
import Derived.Test.YtoggnmfjkbnopaaLibC
import Derived.Test.YtoggnmfjkbnopaaLibD
import Derived.Test.YtoggnmfjkbnopaaInfo
import Derived.Test.YtoggnmfjkbnopaaFrA
import Derived.Test.YtoggnmfjkbnopaaCrcC
import Derived.WalkKit
import Derived.Lib.Hide
import Derived.Outline
namespace Go.Proofs.Ytoggnmfjkbnopaa
open Go.RowKit Go.Lac

set_option maxRecDepth 20000 in
set_option maxHeartbeats 800000 in
theorem back_any (v k : Nat) (ao : Option Addr) (n cap : Nat) (w : World) :
    Calls Try.prog 44 #[.agg #[.int .u8 (v : Nat), .int .u8 (k : Nat), .slice ao n cap]] w fun e w' => e = .returned (.agg #[.int .u8 (v : Nat), .int .u8 (k : Nat), .slice ao n cap]) ∧ Ext w w' := by
  go_enter Try.func44, Try.ntmps44
  go_wp2
  refine bodyPost_ret (results_cell_row rfl _ _ (w.heap.size + 1) _ #[.int .u8 (v : Nat), .int .u8 (k : Nat), .slice ao n cap] _ _ rfl (heap_alloc2_new _ _ _) Try.underlying44 rfl (by kernel_rfl)) rfl ?_
  exact ⟨rfl, ((Ch.refl _ _).alloc _).alloc _⟩

/-- A frame's first six bytes. -/
def frHead (v k n : Nat) : List UInt8 := [76, 103, UInt8.ofNat v, UInt8.ofNat k, UInt8.ofNat (n % 256), UInt8.ofNat (n / 256 % 256)]
theorem frHead_cells {v k : Nat} (n : Nat) (hv : v < 256) (hk : k < 256) (hn : n ≤ 5000) : cellsB (frHead v k n) = [.int .u8 76, .int .u8 103, .int .u8 (v : Nat), .int .u8 (k : Nat), .int .u8 ((n : Int) % 256), .int .u8 ((n : Int) / 256)] := by
  unfold frHead cellsB
  simp only [List.map_cons, List.map_nil]
  have e : n / 256 % 256 = n / 256 := by omega
  rw [cellB_ofNat hv, cellB_ofNat hk, cellB_ofNat (by omega), cellB_ofNat (by omega), e]
  simp [cellB]
/-- A frame's bytes. -/
def frBytes (v k : Nat) (p : List UInt8) : List UInt8 := if frRight v k p.length = 0 then crcSign (frHead v k p.length ++ p) else []
def MakePost (v k : Nat) (p : List UInt8) (w : World) (e : Ending) (w' : World) : Prop :=
  ∃ t, e = .returned (.tuple #[t, .int .i64 (frRight v k p.length : Nat)]) ∧ Ext w w' ∧ Rd w' t (frBytes v k p)

end Go.Proofs.Ytoggnmfjkbnopaa
