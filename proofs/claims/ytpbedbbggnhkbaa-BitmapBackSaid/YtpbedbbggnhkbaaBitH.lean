/-
  Maps of bits: what the laws lean on.
-/
import Derived.Test.YtpbedbbggnhkbaaProg
import Derived.Test.YtpbedbbggnhkbaaLib
import Derived.Test.YtpbedbbggnhkbaaBitC
namespace Go.Proofs.Ytpbedbbggnhkbaa
open Go.RowKit Go.Lac

def packC (l : List Bool) : Int := if l.length ≤ 16 then 0 else 17
def packL (l : List Bool) : List UInt8 := if l.length ≤ 16 then mapB l else []

theorem PackPost.uni {l : List Bool} {w w' : World} {e : Ending} (h : PackPost l w e w') : ∃ s, e = .returned (.tuple #[s, .int .i64 (packC l)]) ∧ Ext w w' ∧ Rd w' s (packL l) := by
  unfold PackPost at h
  unfold packC packL
  by_cases h16 : l.length ≤ 16
  · rw [if_pos h16] at h
    rw [if_pos h16, if_pos h16]
    obtain ⟨s, e1, e2, e3, _⟩ := h
    exact ⟨s, e1, e2, e3⟩
  · rw [if_neg h16] at h
    rw [if_neg h16, if_neg h16]
    obtain ⟨e1, rfl⟩ := h
    exact ⟨_, e1, Ch.refl _ _, none, 0, rfl, Nat.le_refl _, by unfold maxLen; simp, fun _ => rfl, fun x hx => by cases hx⟩

theorem bitsV_lt16 (l : List Bool) (h : l.length ≤ 16) : bitsV l < 256 ^ sizeN l.length := by
  rw [show (256 : Nat) = 2 ^ 8 from rfl, ← Nat.pow_mul]
  exact Nat.lt_of_lt_of_le (bitsV_lt l) (Nat.pow_le_pow_right (by omega) (by unfold sizeN; omega))

/-- There and back. -/
theorem unp_pack {l : List Bool} (h : l.length ≤ 16) : unpC (mapB l) (l.length : Int) = 0 ∧ unpL (mapB l) (l.length : Int) = l := by
  have hv : valB (mapB l) = bitsV l := valB_twoB (sizeN_le h) (bitsV_lt16 l h)
  have hc : unpC (mapB l) (l.length : Int) = 0 := by
    rw [unpC_lt h (mapB_length l h), hv, if_pos (bitsV_lt l)]
  refine ⟨hc, ?_⟩
  unfold unpL
  rw [if_pos hc, hv, Int.toNat_natCast, bitsL_bitsV]
theorem pack_unp {bs : List UInt8} {n : Int} (h : unpC bs n = 0) : packL (unpL bs n) = bs ∧ packC (unpL bs n) = 0 := by
  have hn : 0 ≤ n ∧ n ≤ 16 := by
    unfold unpC at h
    by_cases hn : 0 ≤ n ∧ n ≤ 16
    · exact hn
    · rw [if_neg hn] at h; cases h
  obtain ⟨m, rfl⟩ : ∃ m : Nat, n = m := ⟨n.toNat, by omega⟩
  have h16 : m ≤ 16 := by omega
  have hl : bs.length = sizeN m := by
    unfold unpC at h
    rw [if_pos hn, Int.toNat_natCast] at h
    by_cases h1 : bs.length < sizeN m
    · rw [if_pos h1] at h; cases h
    by_cases h2 : sizeN m < bs.length
    · rw [if_neg h1, if_pos h2] at h; cases h
    omega
  have hv : valB bs < 2 ^ m := by
    have := h
    rw [unpC_lt h16 hl] at this
    by_cases h3 : valB bs < 2 ^ m
    · exact h3
    · rw [if_neg h3] at this; cases this
  have hu : unpL bs (m : Int) = bitsL (valB bs) m := by unfold unpL; rw [if_pos h, Int.toNat_natCast]
  have hul : (unpL bs (m : Int)).length ≤ 16 := by rw [hu, bitsL_length]; exact h16
  refine ⟨?_, by unfold packC; rw [if_pos hul]⟩
  unfold packL
  rw [if_pos hul, hu]
  unfold mapB
  rw [bitsV_bitsL m _ hv, bitsL_length, ← hl]
  exact twoB_valB (by rw [hl]; exact sizeN_le h16)
theorem unpL_nil {bs : List UInt8} {n : Int} (h : unpC bs n ≠ 0) : unpL bs n = [] := by unfold unpL; rw [if_neg h]
theorem mapB_inj {l l' : List Bool} (h : l.length ≤ 16) (hl : l'.length = l.length) (he : mapB l = mapB l') : l = l' := by
  have h1 := (unp_pack h).2
  have h2 := (unp_pack (l := l') (by omega)).2
  rw [← he, hl] at h2
  exact h1.symm.trans h2
theorem countT_set (l : List Bool) (i : Nat) (h : i < l.length) : ((countT (l.set i (!l[i])) : Nat) : Int) - (countT l : Nat) = if l[i] then -1 else 1 := by
  unfold countT
  rw [List.count_set h]
  have hp : l[i] = true → 0 < l.count true := fun e => List.count_pos_iff.2 (by rw [← e]; exact List.getElem_mem h)
  cases hb : l[i] with
  | true => have := hp hb; simp; omega
  | false => simp; omega
end Go.Proofs.Ytpbedbbggnhkbaa
