/-
  Values taken: what the program's Take comes to.
-/
import Derived.Test.YtcejjckhhdgdnaaTakB
namespace Go.Proofs.Ytcejjckhhdgdnaa
open Go.RowKit Go.Lac

section
variable {e : Int} (he : e ≠ 0)
include he
theorem failR_gone (c : Int) : failR ([], e) c = ([], e) := by unfold failR; rw [if_pos (.inl he)]
theorem takeR_gone' (n : Nat) : takeR n ([], e) = ([], ([], e)) := by
  unfold takeR
  split
  · rw [failR_gone he]
  · simp
theorem byteR_gone' : byteR ([], e) = (0, ([], e)) := by unfold byteR; rw [takeR_gone' he]
theorem wordR_gone' : wordR ([], e) = (0, ([], e)) := by unfold wordR; rw [takeR_gone' he]; rfl
theorem uintR_gone' (m : Nat) : uintR m ([], e) = (0, ([], e)) := by
  unfold uintR num numAt
  simp [failR_gone he]
theorem intR_gone' : intR ([], e) = (0, ([], e)) := by unfold intR; rw [uintR_gone' he]; simp [zag]
theorem textR_gone' (m : Nat) : textR m ([], e) = ([], ([], e)) := by unfold textR; rw [uintR_gone' he]; exact takeR_gone' he 0
theorem fltR_gone' (ver : Nat) : (fltR ver ([], e)).2 = ([], e) := by
  unfold fltR
  split
  · rw [wordR_gone' he]
  · rw [uintR_gone' he]
theorem tByte_gone (m : Nat) : (tByte m ([], e)).2 = ([], e) := by
  unfold tByte
  rw [byteR_gone' he]
  simp
theorem tInt_gone (ver : Nat) : (tInt ver ([], e)).2 = ([], e) := by
  unfold tInt
  split
  · rw [wordR_gone' he]
  · rw [intR_gone' he]
theorem tPart_gone (ver : Nat) (th : Bool) : (tPart ver th ([], e)).2 = ([], e) := by
  unfold tPart
  split
  · simp only
    split
    · rw [fltR_gone' he, failR_gone he]
    · rw [fltR_gone' he]
  · rfl
theorem tCplx_gone (ver : Nat) : (tCplx ver ([], e)).2 = ([], e) := by
  unfold tCplx
  split
  · rw [wordR_gone' he, wordR_gone' he]
  · simp only
    rw [tByte_gone he, tPart_gone he, tPart_gone he]
theorem tText_gone : (tText ([], e)).2 = ([], e) := by
  unfold tText
  rw [textR_gone' he]
  simp only
  split
  · rw [failR_gone he]
  · rfl
theorem tRaw_gone (ver k : Nat) : (tRaw ver k ([], e)).2 = ([], e) := by
  unfold tRaw
  split
  · exact tByte_gone he 1
  split
  · exact tInt_gone he ver
  split
  · exact fltR_gone' he ver
  split
  · exact tCplx_gone he ver
  split
  · exact tText_gone he
  split
  · simp only; rw [textR_gone' he]
  · rfl
end

theorem failR_zero (s : RS) : failR s 0 = s := by unfold failR; simp
theorem tPart_two (th : Bool) (s : RS) : tPart 2 th s = partR th s := rfl
theorem tCplx_two (s : RS) : tCplx 2 s = cplxR s := rfl

theorem tTake_eq (ver k : Nat) (l : List UInt8) : tTake ver k (l, 0) = vTake ver k (l, 0) := by
  have hf : ∀ c : Int, c ≠ 0 → failR (l, 0) c = ([], c) := fun c hc => by unfold failR; simp [hc]
  by_cases hv : ver = 1 ∨ ver = 2
  · unfold vTake
    rw [if_neg (by omega)]
    by_cases hk : 1 ≤ k ∧ k ≤ 6
    · have hp : tPre ver k (l, 0) = (l, 0) := by unfold tPre; simp only; rw [if_pos hk, if_pos hv]
      unfold tTake
      rw [hp]
      generalize (l, (0 : Int)) = s
      have key : (tRaw ver k s).1 = (rawR ver k s).1 ∧ (tRaw ver k s).2 = failR (rawR ver k s).2 (vErr (rawR ver k s).1 : Nat) := by
        have hk' : k = 1 ∨ k = 2 ∨ k = 3 ∨ k = 4 ∨ k = 5 ∨ k = 6 := by omega
        rcases hk' with rfl | rfl | rfl | rfl | rfl | rfl
        · refine ⟨rfl, ?_⟩
          unfold tRaw rawR tByte
          simp only [if_true]
          by_cases h1 : 1 < (byteR s).1
          · have hve : vErr ⟨1, ((byteR s).1 : Int), 0, 0, []⟩ = 4 := by unfold vErr; simp; omega
            rw [if_pos h1, hve]
            rfl
          · have hve : vErr ⟨1, ((byteR s).1 : Int), 0, 0, []⟩ = 0 := by unfold vErr; simp; omega
            rw [if_neg h1, hve]
            exact (failR_zero _).symm
        · have hve : ∀ n, vErr ⟨2, n, 0, 0, []⟩ = 0 := fun n => by unfold vErr; simp
          rcases hv with rfl | rfl
          · refine ⟨rfl, ?_⟩
            show (wordR s).2 = failR (wordR s).2 (vErr ⟨2, u64i (wordR s).1, 0, 0, []⟩ : Nat)
            rw [hve]
            exact (failR_zero _).symm
          · refine ⟨rfl, ?_⟩
            show (intR s).2 = failR (intR s).2 (vErr ⟨2, (intR s).1, 0, 0, []⟩ : Nat)
            rw [hve]
            exact (failR_zero _).symm
        · have hve : ∀ n, vErr ⟨3, 0, n, 0, []⟩ = 0 := fun n => by unfold vErr; simp
          refine ⟨rfl, ?_⟩
          show (fltR ver s).2 = failR (fltR ver s).2 (vErr ⟨3, 0, (fltR ver s).1, 0, []⟩ : Nat)
          rw [hve]
          exact (failR_zero _).symm
        · have hve : ∀ n m, vErr ⟨4, 0, n, m, []⟩ = 0 := fun n m => by unfold vErr; simp
          rcases hv with rfl | rfl
          · refine ⟨rfl, ?_⟩
            show (wordR (wordR s).2).2 = failR (wordR (wordR s).2).2 (vErr ⟨4, 0, (wordR s).1, (wordR (wordR s).2).1, []⟩ : Nat)
            rw [hve]
            exact (failR_zero _).symm
          · refine ⟨rfl, ?_⟩
            show (cplxR s).2 = failR (cplxR s).2 (vErr ⟨4, 0, (cplxR s).1.1, (cplxR s).1.2, []⟩ : Nat)
            rw [hve]
            exact (failR_zero _).symm
        · refine ⟨rfl, ?_⟩
          have hl := textR_length 2048 s
          show (if plainB (textR 2048 s).1 = false then failR (textR 2048 s).2 3 else (textR 2048 s).2) = failR (textR 2048 s).2 (vErr ⟨5, 0, 0, 0, (textR 2048 s).1⟩ : Nat)
          by_cases hp : plainB (textR 2048 s).1 = false
          · have hve : vErr ⟨5, 0, 0, 0, (textR 2048 s).1⟩ = 3 := by unfold vErr; simp [hp]; omega
            rw [if_pos hp, hve]
            rfl
          · have hve : vErr ⟨5, 0, 0, 0, (textR 2048 s).1⟩ = 0 := by unfold vErr; simp [hp]; omega
            rw [if_neg hp, hve]
            exact (failR_zero _).symm
        · refine ⟨rfl, ?_⟩
          have hl := textR_length 2048 s
          have hve : vErr ⟨6, 0, 0, 0, (textR 2048 s).1⟩ = 0 := by unfold vErr; simp; omega
          show (textR 2048 s).2 = failR (textR 2048 s).2 (vErr ⟨6, 0, 0, 0, (textR 2048 s).1⟩ : Nat)
          rw [hve]
          exact (failR_zero _).symm
      rw [key.1, key.2]
      split <;> rfl
    · have hp : tPre ver k (l, 0) = ([], 11) := by unfold tPre; simp only; rw [if_neg hk, if_pos hv, hf 11 (by decide)]
      have hr : rawR ver k (l, 0) = (⟨k, 0, 0, 0, []⟩, (l, 0)) := by
        unfold rawR
        rw [if_neg (by omega), if_neg (by omega), if_neg (by omega), if_neg (by omega), if_neg (by omega)]
      have hve : vErr ⟨k, 0, 0, 0, []⟩ = 11 := by unfold vErr; rw [if_pos (show k < 1 ∨ 6 < k by omega)]
      unfold tTake
      rw [hp, tRaw_gone (by decide), hr]
      simp only
      rw [hve, show ((11 : Nat) : Int) = 11 by rfl, hf 11 (by decide)]
      simp
  · unfold vTake
    rw [if_pos (by omega)]
    have hp : tPre ver k (l, 0) = ([], 18) := by
      unfold tPre
      simp only
      rw [if_neg hv, hf 18 (by decide), failR_gone (by decide)]
      split <;> rfl
    unfold tTake
    rw [hp, tRaw_gone (by decide), hf 18 (by decide)]
    simp

end Go.Proofs.Ytcejjckhhdgdnaa
