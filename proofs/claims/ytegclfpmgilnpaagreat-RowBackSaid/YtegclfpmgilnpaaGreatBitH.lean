import Derived.Test.YtegclfpmgilnpaaGreatProg
import Derived.Test.YtegclfpmgilnpaaGreatGLib
import Derived.Test.YtegclfpmgilnpaaGreatBitC
namespace Go.Proofs.YtegclfpmgilnpaaGreat
open Go.RowKit Go.Lac
def packC (l : List Bool) : Int := if l.length ≤ 16 then 0 else 17
def packL (l : List Bool) : List UInt8 := if l.length ≤ 16 then mapB l else []
theorem bitsV_lt16 (l : List Bool) (h : l.length ≤ 16) : bitsV l < 256 ^ sizeN l.length := by
  rw [show (256 : Nat) = 2 ^ 8 from rfl, ← Nat.pow_mul]
  exact Nat.lt_of_lt_of_le (bitsV_lt l) (Nat.pow_le_pow_right (by omega) (by unfold sizeN; omega))
theorem unp_pack {l : List Bool} (h : l.length ≤ 16) : unpC (mapB l) (l.length : Int) = 0 ∧ unpL (mapB l) (l.length : Int) = l := by
  have hv : valB (mapB l) = bitsV l := valB_twoB (sizeN_le h) (bitsV_lt16 l h)
  have hc : unpC (mapB l) (l.length : Int) = 0 := by
    rw [unpC_lt h (mapB_length l h), hv, if_pos (bitsV_lt l)]
  refine ⟨hc, ?_⟩
  unfold unpL
  rw [if_pos hc, hv, Int.toNat_natCast, bitsL_bitsV]
theorem pack_unp {bs : List UInt8} {n : Int} (h : unpC bs n = 0) : packL (unpL bs n) = bs ∧ packC (unpL bs n) = 0 := by
  have hn : 0 ≤ n ∧ n ≤ 16 := by
    unfold unpC at h
    by_cases hn : 0 ≤ n ∧ n ≤ 16
    · exact hn
    · rw [if_neg hn] at h; cases h
  obtain ⟨m, rfl⟩ : ∃ m : Nat, n = m := ⟨n.toNat, by omega⟩
  have h16 : m ≤ 16 := by omega
  have hl : bs.length = sizeN m := by
    unfold unpC at h
    rw [if_pos hn, Int.toNat_natCast] at h
    by_cases h1 : bs.length < sizeN m
    · rw [if_pos h1] at h; cases h
    by_cases h2 : sizeN m < bs.length
    · rw [if_neg h1, if_pos h2] at h; cases h
    omega
  have hv : valB bs < 2 ^ m := by
    have := h
    rw [unpC_lt h16 hl] at this
    by_cases h3 : valB bs < 2 ^ m
    · exact h3
    · rw [if_neg h3] at this; cases this
  have hu : unpL bs (m : Int) = bitsL (valB bs) m := by unfold unpL; rw [if_pos h, Int.toNat_natCast]
  have hul : (unpL bs (m : Int)).length ≤ 16 := by rw [hu, bitsL_length]; exact h16
  refine ⟨?_, by unfold packC; rw [if_pos hul]⟩
  unfold packL
  rw [if_pos hul, hu]
  unfold mapB
  rw [bitsV_bitsL m _ hv, bitsL_length, ← hl]
  exact twoB_valB (by rw [hl]; exact sizeN_le h16)
end Go.Proofs.YtegclfpmgilnpaaGreat
