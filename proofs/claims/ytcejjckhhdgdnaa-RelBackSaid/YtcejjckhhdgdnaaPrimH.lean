/-
  What is put is read as it was, and from no other bytes: over lists alone.
-/
import Derived.Test.YtcejjckhhdgdnaaProg
import Derived.Test.YtcejjckhhdgdnaaLib
import Derived.Test.YtcejjckhhdgdnaaPrimA
import Derived.Test.YtcejjckhhdgdnaaPrimB
import Derived.Test.YtcejjckhhdgdnaaPrimC
import Derived.Test.YtcejjckhhdgdnaaPrimD
import Derived.Test.YtcejjckhhdgdnaaPrimE
import Derived.Test.YtcejjckhhdgdnaaPrimF
namespace Go.Proofs.Ytcejjckhhdgdnaa
open Go.RowKit Go.Lac

theorem toNat_ofNat_lt {n : Nat} (h : n < 256) : (UInt8.ofNat n).toNat = n := by
  simp [Nat.mod_eq_of_lt h]

theorem numAt_sev (rest : List UInt8) : ∀ (v n acc : Nat), acc + v * 128 ^ n < 2 ^ 64 → n ≤ 9 → (0 < v ∨ n = 0) →
    numAt n acc (sev v ++ rest) = (acc + v * 128 ^ n, n + (sev v).length, 0) := by
  intro v
  induction v using Nat.strongRecOn with
  | _ v ih =>
    intro n acc hb hn h0
    by_cases hv : v < 128
    · rw [sev_small hv, List.singleton_append, numAt, toNat_ofNat_lt (by omega)]
      have h9 : ¬ (n = 9 ∧ 1 < v) := by
        rintro ⟨rfl, h1⟩
        have : 2 * 128 ^ 9 ≤ v * 128 ^ 9 := Nat.mul_le_mul_right _ h1
        omega
      rw [if_neg h9, if_neg (by omega), if_neg (by omega), Nat.mod_eq_of_lt hv]
      rfl
    · have hd : v % 128 + 128 < 256 := by omega
      rw [sev_big hv, List.cons_append, numAt, toNat_ofNat_lt hd]
      have h9 : ¬ (n = 9 ∧ 1 < v % 128 + 128) := by
        rintro ⟨rfl, h1⟩
        have : 128 * 128 ^ 9 ≤ v * 128 ^ 9 := Nat.mul_le_mul_right _ (by omega)
        omega
      have hn8 : n ≤ 8 := by
        rcases Nat.lt_or_ge n 9 with h | h
        · omega
        · exact absurd ⟨by omega, by omega⟩ h9
      rw [if_neg h9, if_pos (by omega), show (v % 128 + 128) % 128 = v % 128 by omega]
      have e : acc + v % 128 * 128 ^ n + v / 128 * 128 ^ (n + 1) = acc + v * 128 ^ n := by
        rw [Nat.pow_succ, Nat.mul_comm (128 ^ n) 128, ← Nat.mul_assoc, Nat.add_assoc, ← Nat.add_mul]
        congr 2
        omega
      rw [ih (v / 128) (by omega) (n + 1) _ (by rw [e]; exact hb) (by omega) (.inl (by omega)), e]
      simp only [List.length_cons, Prod.mk.injEq, and_true, true_and]
      omega

theorem num_sev (v : Nat) (rest : List UInt8) (h : v < 2 ^ 64) : num (sev v ++ rest) = (v, (sev v).length, 0) := by
  have := numAt_sev rest v 0 0 (by simpa using h) (by omega) (.inr rfl)
  simpa [num] using this

theorem uintR_sev (most v : Nat) (rest : List UInt8) (h : v < 2 ^ 64) : uintR most (sev v ++ rest, 0) = if v ≤ most then (v, (rest, 0)) else (0, ([], 4)) := by
  unfold uintR
  rw [num_sev v rest h]
  by_cases hm : v ≤ most
  · simp [hm, show ¬ most < v by omega]
  · simp [hm, show most < v by omega, failR]

theorem takeR_app (s rest : List UInt8) (e : Int) : takeR s.length (s ++ rest, e) = (s, (rest, e)) := by
  unfold takeR
  rw [if_neg (by simp)]
  simp

theorem textR_txt (m : Nat) (s rest : List UInt8) (h : s.length < 2 ^ 64) : textR m (txt s ++ rest, 0) = if s.length ≤ m then (s, (rest, 0)) else ([], ([], 4)) := by
  unfold textR txt
  rw [List.append_assoc, uintR_sev m s.length (s ++ rest) h]
  by_cases hm : s.length ≤ m
  · rw [if_pos hm, if_pos hm]
    exact takeR_app s rest 0
  · rw [if_neg hm, if_neg hm]
    rfl

theorem intR_sev (x : Int) (rest : List UInt8) (h0 : -9223372036854775808 ≤ x) (h1 : x ≤ 9223372036854775807) : intR (sev (Lib.zigzag x) ++ rest, 0) = (x, (rest, 0)) := by
  have hz := zig_lt x h0 h1
  unfold intR
  rw [uintR_sev _ _ _ hz, if_pos (by omega), zag_zig]

/-- From no other bytes. -/
theorem numAt_inv : ∀ (l : List UInt8) (n acc v' n' : Nat), numAt n acc l = (v', n', 0) → n ≤ 9 →
    ∃ u, v' = acc + u * 128 ^ n ∧ (0 < u ∨ n = 0) ∧ n' = n + (sev u).length ∧ l = sev u ++ l.drop (sev u).length
  | [], n, acc, v', n', h, _ => by simp [numAt] at h
  | d :: l, n, acc, v', n', h, hn => by
    have hd := UInt8.toNat_lt d
    rw [numAt] at h
    split at h
    · simp at h
    · rename_i h9
      split at h
      · rename_i h128
        obtain ⟨u, h1, h2, h3, h4⟩ := numAt_inv l (n + 1) _ v' n' h (by omega)
        have hu : 0 < u := by omega
        have hbig : ¬ d.toNat % 128 + 128 * u < 128 := by omega
        have e1 : (d.toNat % 128 + 128 * u) % 128 + 128 = d.toNat := by omega
        have e2 : (d.toNat % 128 + 128 * u) / 128 = u := by omega
        have hs : sev (d.toNat % 128 + 128 * u) = d :: sev u := by
          rw [sev_big hbig, e1, e2, UInt8.ofNat_toNat]
        refine ⟨d.toNat % 128 + 128 * u, ?_, .inl (by omega), ?_, ?_⟩
        · rw [h1, Nat.pow_succ, Nat.add_mul, Nat.mul_comm (128 ^ n) 128, ← Nat.mul_assoc, Nat.mul_comm u 128]
          omega
        · rw [hs, h3, List.length_cons]; omega
        · rw [hs, List.length_cons, List.cons_append, List.drop_succ_cons, ← h4]
      · split at h
        · simp at h
        · rename_i h128 h0
          simp only [Prod.mk.injEq, and_true] at h
          obtain ⟨rfl, rfl⟩ := h
          have hlt : d.toNat < 128 := by omega
          refine ⟨d.toNat, by rw [Nat.mod_eq_of_lt hlt], by omega, ?_, ?_⟩
          · rw [sev_small hlt]; rfl
          · rw [sev_small hlt, UInt8.ofNat_toNat]; rfl

theorem num_inv {l : List UInt8} {v n : Nat} (h : num l = (v, n, 0)) : l = sev v ++ l.drop n ∧ n = (sev v).length := by
  obtain ⟨u, h1, h2, h3, h4⟩ := numAt_inv l 0 0 v n h (by omega)
  have hu : u = v := by simpa using h1.symm
  subst hu
  have : n = (sev u).length := by omega
  rw [this]
  exact ⟨h4, rfl⟩

/-- Cut ahead of its end a number is too short. -/
theorem numAt_cut : ∀ (v n acc k : Nat), acc + v * 128 ^ n < 2 ^ 64 → n ≤ 9 → k < (sev v).length → numAt n acc ((sev v).take k) = (0, 0, 1) := by
  intro v
  induction v using Nat.strongRecOn with
  | _ v ih =>
    intro n acc k hb hn hk
    by_cases hv : v < 128
    · rw [sev_small hv] at hk ⊢
      obtain rfl : k = 0 := by simpa using hk
      rfl
    · have hd : v % 128 + 128 < 256 := by omega
      rw [sev_big hv] at hk ⊢
      cases k with
      | zero => rfl
      | succ k =>
        rw [List.take_succ_cons, numAt, toNat_ofNat_lt hd]
        have h9 : ¬ (n = 9 ∧ 1 < v % 128 + 128) := by
          rintro ⟨rfl, h1⟩
          have : 128 * 128 ^ 9 ≤ v * 128 ^ 9 := Nat.mul_le_mul_right _ (by omega)
          omega
        rw [if_neg h9, if_pos (by omega), show (v % 128 + 128) % 128 = v % 128 by omega]
        have e : acc + v % 128 * 128 ^ n + v / 128 * 128 ^ (n + 1) = acc + v * 128 ^ n := by
          rw [Nat.pow_succ, Nat.mul_comm (128 ^ n) 128, ← Nat.mul_assoc, Nat.add_assoc, ← Nat.add_mul]
          congr 2
          omega
        exact ih (v / 128) (by omega) (n + 1) _ k (by rw [e]; exact hb) (by
          rcases Nat.lt_or_ge n 9 with h | h
          · omega
          · exact absurd ⟨by omega, by omega⟩ h9) (by simpa using hk)

theorem uintR_cut (most v k : Nat) (h : v < 2 ^ 64) (hk : k < (sev v).length) : uintR most ((sev v).take k, 0) = (0, ([], 1)) := by
  have h1 : num ((sev v).take k) = (0, 0, 1) := numAt_cut v 0 0 k (by simpa using h) (by omega) hk
  unfold uintR
  rw [h1]
  simp [failR]

theorem textR_gone (m : Nat) : textR m ([], 1) = ([], ([], 1)) := by
  unfold textR uintR num numAt
  simp [failR, takeR]

theorem textR_cut (m k : Nat) (s : List UInt8) (h : s.length < 2 ^ 64) (hm : s.length ≤ m) (hk : k < (txt s).length) : textR m ((txt s).take k, 0) = ([], ([], 1)) := by
  unfold textR
  by_cases h1 : k < (sev s.length).length
  · have e : (txt s).take k = (sev s.length).take k := by unfold txt; rw [List.take_append_of_le_length (by omega)]
    rw [e, uintR_cut m s.length k h h1]
    rfl
  · have e : (txt s).take k = sev s.length ++ s.take (k - (sev s.length).length) := by
      unfold txt
      rw [List.take_append, List.take_of_length_le (by omega)]
    rw [e, uintR_sev m s.length _ h, if_pos hm]
    unfold takeR
    have hl : (s.take (k - (sev s.length).length)).length < s.length := by
      unfold txt at hk
      rw [List.length_append] at hk
      rw [List.length_take]
      omega
    rw [if_pos hl]
    rfl

/-- A number and a text, cut ahead of their end: too short. -/
theorem both_cut (v k : Nat) (s : List UInt8) (hv : v < 2 ^ 64) (hs : s.length ≤ 100) (hk : k < (sev v ++ txt s).length) :
    textR 100 (uintR 18446744073709551615 ((sev v ++ txt s).take k, 0)).2 = ([], ([], 1)) := by
  by_cases h1 : k < (sev v).length
  · rw [List.take_append_of_le_length (by omega), uintR_cut _ v k hv h1]
    exact textR_gone 100
  · rw [List.take_append, List.take_of_length_le (by omega), uintR_sev _ v _ hv, if_pos (by omega)]
    exact textR_cut 100 _ s (by omega) hs (by rw [List.length_append] at hk; omega)

theorem failR_err (s : RS) (e : Int) (h : s.2 ≠ 0) : failR s e = s := by unfold failR; rw [if_pos (.inl h)]
theorem failR_ne (s : RS) (e : Int) (he : e ≠ 0) : (failR s e).2 ≠ 0 := by
  unfold failR
  split
  · rename_i h
    rcases h with h | h
    · exact h
    · exact absurd h he
  · exact he

theorem uintR_err (m : Nat) (s : RS) (h : s.2 ≠ 0) : (uintR m s).2.2 ≠ 0 := by
  unfold uintR
  split
  · rw [failR_err s _ h]; exact h
  · split
    · rw [failR_err s _ h]; exact h
    · exact h
theorem takeR_err (n : Nat) (s : RS) (h : s.2 ≠ 0) : (takeR n s).2.2 ≠ 0 := by
  unfold takeR
  split
  · rw [failR_err s _ h]; exact h
  · exact h

theorem uintR_inv (m : Nat) (s : RS) (h : (uintR m s).2.2 = 0) : s.1 = sev (uintR m s).1 ++ (uintR m s).2.1 ∧ s.2 = 0 := by
  have h0 : s.2 = 0 := by
    rcases Decidable.em (s.2 = 0) with g | g
    · exact g
    · exact absurd h (uintR_err m s g)
  unfold uintR at *
  split at h
  · rename_i hn
    exact absurd h (failR_ne s _ hn)
  · rename_i hn
    split at h
    · exact absurd h (failR_ne s 4 (by decide))
    · rename_i hm
      rw [if_neg hn, if_neg hm]
      have hn' : (num s.1).2.2 = 0 := by simpa using hn
      have := num_inv (l := s.1) (v := (num s.1).1) (n := (num s.1).2.1) (by rw [← hn'])
      exact ⟨this.1, h0⟩

theorem takeR_inv (n : Nat) (s : RS) (h : (takeR n s).2.2 = 0) : s.1 = (takeR n s).1 ++ (takeR n s).2.1 ∧ (takeR n s).1.length = n ∧ s.2 = 0 := by
  unfold takeR at *
  split at h
  · exact absurd h (failR_ne s 1 (by decide))
  · rename_i hn
    rw [if_neg hn]
    exact ⟨(List.take_append_drop n s.1).symm, by rw [List.length_take]; omega, h⟩

theorem textR_inv (m : Nat) (s : RS) (h : (textR m s).2.2 = 0) : s.1 = txt (textR m s).1 ++ (textR m s).2.1 ∧ s.2 = 0 := by
  unfold textR at *
  obtain ⟨h1, h2, h3⟩ := takeR_inv _ _ h
  obtain ⟨h4, h5⟩ := uintR_inv m s h3
  refine ⟨?_, h5⟩
  unfold txt
  rw [h2, List.append_assoc, ← h1]
  exact h4

theorem endR_zero {s : RS} (h : endR s = 0) : s.1 = [] ∧ s.2 = 0 := by
  unfold endR at h
  split at h
  · cases h
  · rename_i hn
    refine ⟨List.eq_nil_of_length_eq_zero ?_, h⟩
    rcases Nat.eq_zero_or_pos s.1.length with g | g
    · exact g
    · exact absurd ⟨h, g⟩ hn

/-- From no other bytes. -/
theorem read_inv (m k : Nat) (b : List UInt8) (h : endR (textR k (uintR m (b, 0)).2).2 = 0) : b = sev (uintR m (b, 0)).1 ++ txt (textR k (uintR m (b, 0)).2).1 := by
  obtain ⟨h1, h2⟩ := endR_zero h
  obtain ⟨h3, h4⟩ := textR_inv k _ h2
  obtain ⟨h5, _⟩ := uintR_inv m (b, 0) h4
  rw [h1, List.append_nil] at h3
  rw [h3] at h5
  exact h5

theorem textR_length (m : Nat) (s : RS) : (textR m s).1.length ≤ m := by
  unfold textR
  exact Nat.le_trans (takeR_length _ _) (uintR_le _ _)
end Go.Proofs.Ytcejjckhhdgdnaa
