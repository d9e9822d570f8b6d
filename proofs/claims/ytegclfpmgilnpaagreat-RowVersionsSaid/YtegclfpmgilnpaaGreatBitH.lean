import Derived.Test.YtegclfpmgilnpaaGreatProg
import Derived.Test.YtegclfpmgilnpaaGreatGLib
import Derived.Test.YtegclfpmgilnpaaGreatBitC
namespace Go.Proofs.YtegclfpmgilnpaaGreat
open Go.RowKit Go.Lac
def packC (l : List Bool) : Int := if l.length ≤ 16 then 0 else 17
def packL (l : List Bool) : List UInt8 := if l.length ≤ 16 then mapB l else []
theorem bitsV_lt16 (l : List Bool) (h : l.length ≤ 16) : bitsV l < 256 ^ sizeN l.length := by
  rw [show (256 : Nat) = 2 ^ 8 from rfl, ← Nat.pow_mul]
  exact Nat.lt_of_lt_of_le (bitsV_lt l) (Nat.pow_le_pow_right (by omega) (by unfold sizeN; omega))
theorem unp_pack {l : List Bool} (h : l.length ≤ 16) : unpC (mapB l) (l.length : Int) = 0 ∧ unpL (mapB l) (l.length : Int) = l := by
  have hv : valB (mapB l) = bitsV l := valB_twoB (sizeN_le h) (bitsV_lt16 l h)
  have hc : unpC (mapB l) (l.length : Int) = 0 := by
    rw [unpC_lt h (mapB_length l h), hv, if_pos (bitsV_lt l)]
  refine ⟨hc, ?_⟩
  unfold unpL
  rw [if_pos hc, hv, Int.toNat_natCast, bitsL_bitsV]
end Go.Proofs.YtegclfpmgilnpaaGreat
