/-
  Values of the document compared by ==.
-/
import Derived.Test.YtcejjckhhdgdnaaValD
import Derived.Laws.StructEq
namespace Go.Proofs.Ytcejjckhhdgdnaa
open Go.RowKit Go.Lac

theorem infoP (v : Val) : (Try.prog.info? 135).map (·.size) = some (pvals v).size := info61
theorem emptyU8 (w : World) : (Instr.buildSlice 34 0 #[]).run Try.prog w = .ok (.slice (some ⟨w.heap.size, 0, none⟩) 0 0) (w.alloc (.cells #[] 5)) := by kernel_rfl
theorem nat_beq (a b : Nat) : (((a : Nat) : Int) == ((b : Nat) : Int)) = decide (a = b) := by
  rw [Bool.eq_iff_iff]; simp; omega
end Go.Proofs.Ytcejjckhhdgdnaa
