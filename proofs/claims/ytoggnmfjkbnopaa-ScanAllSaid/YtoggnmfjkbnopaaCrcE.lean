/-
  The reference's sum: bit by bit.
-/
import Derived.Test.YtoggnmfjkbnopaaProg
import Derived.Test.YtoggnmfjkbnopaaLib
import Derived.Test.YtoggnmfjkbnopaaInfo
import Derived.Test.YtoggnmfjkbnopaaCrcB
import Derived.WalkKit
import Derived.Lib.Hide
import Derived.Outline
namespace Go.Proofs.Ytoggnmfjkbnopaa
open Go.RowKit Go.Lac

theorem crcBit_ref (x b k : Nat) : crcBit x (b.testBit k) = if x % 2 = b / 2 ^ k % 2 then x / 2 else x / 2 ^^^ 2197175160 := by
  unfold crcBit crcStep
  rw [xor_parity, Nat.xor_div_two, Nat.testBit_eq_decide_div_mod_eq]
  have ht : b / 2 ^ k % 2 = 0 ∨ b / 2 ^ k % 2 = 1 := Nat.mod_two_eq_zero_or_one _
  generalize b / 2 ^ k % 2 = t at *
  rcases ht with rfl | rfl
  · simp only [Nat.zero_ne_one, decide_false, Bool.toNat_false, Nat.zero_div, Nat.xor_zero, Nat.add_zero]
    rcases Nat.mod_two_eq_zero_or_one x with h | h <;> simp [h]
  · simp only [decide_true, Bool.toNat_true, Nat.reduceDiv, Nat.xor_zero]
    rcases Nat.mod_two_eq_zero_or_one x with h | h
    · have : (x + 1) % 2 = 1 := by omega
      simp [h, this]
    · have : (x + 1) % 2 = 0 := by omega
      simp [h, this]
theorem byteBits_get (b : UInt8) (k : Nat) (h : k < 8) : (byteBits b)[k]'h = b.toNat.testBit k := by
  match k, h with
  | 0, _ => rfl | 1, _ => rfl | 2, _ => rfl | 3, _ => rfl | 4, _ => rfl | 5, _ => rfl | 6, _ => rfl | 7, _ => rfl
theorem crcBits_take (r : Nat) (b : UInt8) (k : Nat) (h : k < 8) :
    crcBits r ((byteBits b).take (k + 1)) = if crcBits r ((byteBits b).take k) % 2 = b.toNat / 2 ^ k % 2 then crcBits r ((byteBits b).take k) / 2 else crcBits r ((byteBits b).take k) / 2 ^^^ 2197175160 := by
  rw [List.take_succ_eq_append_getElem (by rw [byteBits_length]; exact h), crcBits_append]
  show crcBit _ _ = _
  rw [show (byteBits b)[k]'(by rw [byteBits_length]; exact h) = b.toNat.testBit k from byteBits_get b k h]
  exact crcBit_ref _ _ _

set_option maxRecDepth 20000 in
set_option maxHeartbeats 800000 in
theorem refOf_any (v : Value) (bs : List UInt8) (w : World) (h : Rd w v bs) :
    Calls Try.prog 79 #[v] w fun e w' => e = .returned (.int .u32 (crcSum bs : Nat)) ∧ w = w' := by
  obtain ⟨ao, cap, rfl⟩ := h.shape
  have hlen : bs.length ≤ maxLen := by obtain ⟨_, _, _, g1, g2, _⟩ := h; omega
  unfold maxLen at hlen
  have H := Lib.hid h; clear h
  go_enter Try.func79, Try.ntmps79
  go_wp2
  go_loop [3, 4] (fun r i => ∃ k : Nat, k ≤ bs.length ∧ i = .int .i64 (k : Nat) ∧ r = .int .u32 ((crcReg 4294967295 (bs.take k) : Nat) : Int)) (fun _ i => bs.length - (intOf i).toNat)
  case atStart => exact ⟨0, Nat.zero_le _, rfl, rfl⟩
  case round =>
    obtain ⟨k, hk, rfl, rfl⟩ := hrel
    by_cases hlt : k < bs.length
    · obtain ⟨b, off, rfl, g1, g2, g3⟩ := bytes_cell H.out rfl (by omega)
      have hc := g3 k hlt
      have hq := crcReg_lt (bs.take k) (show 4294967295 < 2 ^ 32 by decide)
      have hnx := crcReg_take 4294967295 bs k hlt
      rw [crcByte_bits] at hnx
      have hx8 := (bs[k]).toNat_lt
      have htk := fun q => crcBits_take q bs[k]
      generalize crcReg 4294967295 (bs.take k) = q at *
      have HNX := Lib.hid hnx; clear hnx
      have htk' := htk q; clear htk
      have hlt0 := fun j => crcBits_lt ((byteBits bs[k]).take j) hq
      have hf8 : (byteBits bs[k]).take 8 = byteBits bs[k] := List.take_of_length_le (Nat.le_refl _)
      have h00 : crcBits q ((byteBits bs[k]).take 0) = q := rfl
      generalize byteBits bs[k] = BB at *
      generalize (bs[k]).toNat = x at *
      unfold maxLen at g2
      have HTK := Lib.hid htk'; have HLT0 := Lib.hid hlt0; have HF8 := Lib.hid hf8; have H00 := Lib.hid h00
      clear htk' hlt0 hf8 h00 g3 H hq
      go_wp2
      go_loop [3, 5] (fun r i => ∃ j : Nat, j ≤ 8 ∧ i = .int .i64 (j : Nat) ∧ r = .int .u32 ((crcBits q (BB.take j) : Nat) : Int)) (fun _ i => 8 - (intOf i).toNat)
      case atStart => exact ⟨0, Nat.zero_le _, rfl, by rw [H00.out]⟩
      case round =>
        obtain ⟨j, hj, rfl, rfl⟩ := hrel
        by_cases hltj : j < 8
        · have hs := HTK.out j hltj
          have hlq := HLT0.out j
          generalize crcBits q (BB.take j) = y at *
          have hw2 : (y : Int) / 2 % 4294967296 = ((y / 2 : Nat) : Int) := by omega
          have hne : ∀ c : Bool, (decide (y % 2 = x / 2 ^ j % 2) = !c) → ((y : Int) % 2 != (x : Int) / 2 ^ j % 2) = c := fun c hc => by
            have e1 : (y : Int) % 2 = ((y % 2 : Nat) : Int) := by omega
            have e2 : (x : Int) / 2 ^ j % 2 = ((x / 2 ^ j % 2 : Nat) : Int) := by simp
            rw [e1, e2]
            cases c with
            | true =>
              have := of_decide_eq_false hc
              simpa using fun h => this (Int.ofNat.inj h)
            | false =>
              have := of_decide_eq_true hc
              simp [this]
          have hxr : bits .xor .u32 ((y / 2 : Nat) : Int) 2197175160 = ((y / 2 ^^^ 2197175160 : Nat) : Int) := u32_xor (y / 2) 2197175160 (by omega) (by decide)
          by_cases he : y % 2 = x / 2 ^ j % 2
          · have hne' := hne false (decide_eq_true he)
            rw [if_pos he] at hs
            have HS := Lib.hid hs; clear hs he hne hxr hlq
            generalize hz : y / 2 = z at *
            have HW2 := Lib.hid hw2
            clear hz hw2
            go_wp2
            go_round
            case rel => exact ⟨j + 1, by omega, by go_num, by rw [HS.out, HW2.out]⟩
            case measure => simp [intOf]; omega
          · have hne' := hne true (decide_eq_false he)
            rw [if_neg he] at hs
            have HS := Lib.hid hs; clear hs he hne hlq
            generalize y / 2 ^^^ 2197175160 = z at *
            have HW2 := Lib.hid hw2; have HXR := Lib.hid hxr
            clear hw2 hxr
            go_wp2
            go_round
            case rel => exact ⟨j + 1, by omega, by go_num, by rw [HS.out, HW2.out, HXR.out]⟩
            case measure => simp [intOf]; omega
        · have hjl : j = 8 := by omega
          subst hjl
          rw [HF8.out, ← HNX.out]
          clear HNX HF8 H00 HTK HLT0
          go_wp2
          go_round
          case rel => exact ⟨k + 1, by omega, by go_num, rfl⟩
          case measure => simp [intOf]; omega
    · have hkl : k = bs.length := by omega
      subst hkl
      have hfull : bs.take bs.length = bs := List.take_of_length_le (Nat.le_refl _)
      rw [hfull]
      have hsm : crcSum bs = 4294967295 - crcReg 4294967295 bs := rfl
      have hle := crcReg_le bs (Nat.le_refl 4294967295)
      generalize crcReg 4294967295 bs = q at *
      have HSM := Lib.hid hsm; have HLE := Lib.hid hle
      clear hfull hsm hle H
      go_wp2
      go_ret
      exact ⟨by rw [HSM.out]; have := HLE.out; refine ret_int ?_; omega, rfl⟩
end Go.Proofs.Ytoggnmfjkbnopaa
