/-
  Cells: how long the two forms are.
-/
import Derived.Test.YteechmgcjfnjbaaCelG
namespace Go.Proofs.Yteechmgcjfnjbaa
open Go.RowKit Go.Lac

theorem sev_pos (n : Nat) : 1 ≤ (sev n).length := by
  by_cases h : n < 128
  · rw [sev_small h]; simp
  · rw [sev_big h]; simp
theorem flt8_len (w : Nat) : (flt 1 w).length = 8 := by unfold flt; rw [if_pos rfl, leN_length]
theorem flt8_len2 {w : Nat} (h : w < 18446744073709551616) : (flt 2 w).length ≤ 10 := by
  unfold flt; rw [if_neg (by decide)]
  exact sev_length_10 _ (rev8_lt w)
theorem partB_len {w : Nat} (h : w < 18446744073709551616) : (partB w).length ≤ 10 := by
  unfold partB; split
  · simp
  · exact flt8_len2 h
theorem cBytes_short {c : Cel} {kind : Nat} (hc : c.ok) (h : cErr c kind = 0) (hk : c.k ≠ 0) :
    (cBytes 2 c).length ≤ (cBytes 1 c).length + (if kind = 2 ∨ kind = 3 then 2 else if kind = 4 then 5 else 0) ∧ 1 ≤ (cBytes 1 c).length := by
  obtain ⟨e1, e2, e3, e4, e5, e6⟩ := cErr_zero h
  obtain ⟨k, v⟩ := c
  simp only at e3 e4 e5 e6 hk
  have hk' : k = 1 ∨ k = 2 := by omega
  rcases hk' with rfl | rfl
  · have e : ∀ ver, cBytes ver ⟨1, v⟩ = [0] := fun ver => by unfold cBytes; rw [if_pos rfl]
    rw [e, e]; simp
  · obtain ⟨hv, hty⟩ := e6 rfl
    have hcv : v.ok := hc.2
    obtain ⟨o1, o2, o3, o4, o5⟩ := hcv
    have hty : v.ty = kind := hty
    by_cases hL : cLarge ⟨2, v⟩ = true
    · rw [cBytes_large hL, cBytes_large hL]; simp
    by_cases ht : texty v.ty = true
    · have hlen : v.t.length ≤ 64 := by
        unfold cLarge at hL
        simp only [Bool.and_eq_true, decide_eq_true_eq] at hL
        exact Nat.le_of_not_lt fun h => hL ⟨⟨trivial, ht⟩, h⟩
      rw [cBytes_1 hL, cBytes_2t hL ht, vBytes_text ht, sev_small (by omega)]
      unfold txt
      have := sev_pos v.t.length
      simp; omega
    · rw [cBytes_1 hL, cBytes_2p hL ht]
      have hty' : v.ty ≠ 5 ∧ v.ty ≠ 6 := by
        have := (texty_not v.ty).1 (by simpa using ht)
        exact this
      have hk4 : v.ty = 1 ∨ v.ty = 2 ∨ v.ty = 3 ∨ v.ty = 4 := by omega
      rcases hk4 with q | q | q | q
      · have b1 : ∀ ver, vBytes ver v = [UInt8.ofNat v.i.toNat] := fun ver => by unfold vBytes; rw [if_pos q]
        rw [b1, b1]; simp; omega
      · have b1 : vBytes 1 v = leN 8 (i64u v.i) := by unfold vBytes; rw [if_neg (by omega), if_pos q, if_pos rfl]
        have b2 : vBytes 2 v = sev (Lib.zigzag v.i) := by unfold vBytes; rw [if_neg (by omega), if_pos q, if_neg (by decide)]
        have := sev_length_10 _ (zig_lt v.i o2 o3)
        rw [b1, b2, if_pos (by omega), List.length_cons, leN_length]
        omega
      · have b1 : ∀ ver, vBytes ver v = flt ver v.re := fun ver => by unfold vBytes; rw [if_neg (by omega), if_neg (by omega), if_pos q]
        have h1 := flt8_len v.re
        have h2 := flt8_len2 o4
        rw [b1, b1, if_pos (by omega), List.length_cons]
        omega
      · have b1 : vBytes 1 v = leN 8 v.re ++ leN 8 v.im := by unfold vBytes; rw [if_neg (by omega), if_neg (by omega), if_neg (by omega), if_pos q, if_pos rfl]
        have b2 : vBytes 2 v = cplx v.re v.im := by unfold vBytes; rw [if_neg (by omega), if_neg (by omega), if_neg (by omega), if_pos q, if_neg (by decide)]
        have h1 := partB_len o4
        have h2 := partB_len o5
        rw [b1, b2, if_neg (by omega), if_pos (by omega)]
        unfold cplx
        simp only [List.length_cons, List.length_append, leN_length]
        omega
end Go.Proofs.Yteechmgcjfnjbaa
