/-
  The document's numbers as texts: Num, Signed, Error.
-/
import Derived.Test.YtfipjgodkdfdfaaGreatDoorLib
import Derived.Lib.ItoaNum
import Derived.Test.YtfipjgodkdfdfaaGreatDoorProg
import Derived.Lib.Hide
import Derived.WalkKit
namespace Go.Proofs.YtfipjgodkdfdfaaGreatDoor
open Go.RowKit Go.Lac

theorem digit_cut (w : World) : ∀ d : Nat, d < 10 → (Instr.sliceAt 9 (.string (⟨#[48, 49, 50, 51, 52, 53, 54, 55, 56, 57]⟩ : ByteArray)) (some (.int .u64 (d : Nat))) (some (.int .u64 ((d + 1 : Nat) : Int))) none).run Tryz.prog w = .ok (.string (⟨#[UInt8.ofNat (48 + d)]⟩ : ByteArray)) w
  | 0, _ => by kernel_rfl
  | 1, _ => by kernel_rfl
  | 2, _ => by kernel_rfl
  | 3, _ => by kernel_rfl
  | 4, _ => by kernel_rfl
  | 5, _ => by kernel_rfl
  | 6, _ => by kernel_rfl
  | 7, _ => by kernel_rfl
  | 8, _ => by kernel_rfl
  | 9, _ => by kernel_rfl
  | n + 10, h => absurd h (by omega)
theorem ba_app (a b : List UInt8) : (⟨a.toArray⟩ : ByteArray) ++ ⟨b.toArray⟩ = ⟨(a ++ b).toArray⟩ := by
  apply ByteArray.ext
  simp
theorem b_cons (x : UInt8) (l : List UInt8) : (⟨#[x]⟩ : ByteArray) ++ ⟨l.toArray⟩ = ⟨(x :: l).toArray⟩ := by
  apply ByteArray.ext
  simp
/-- The last digit's facts, with no cast in the frame. -/
theorem digit_facts (m : Nat) (a : Int) (ha : a = (m : Int)) (hm : m < 18446744073709551616) : ∃ (x y q : Int) (D : UInt8), a.tmod 10 = x ∧ IntKind.u64.wrap (x + 1) = y ∧ a.tdiv 10 = q ∧ IntKind.u64.wrap q = q ∧ q = ((m / 10 : Nat) : Int) ∧ D = UInt8.ofNat (48 + m % 10) ∧
    ∀ w, (Instr.sliceAt 9 (.string (⟨#[48, 49, 50, 51, 52, 53, 54, 55, 56, 57]⟩ : ByteArray)) (some (.int .u64 x)) (some (.int .u64 y)) none).run Tryz.prog w = .ok (.string (⟨#[D]⟩ : ByteArray)) w := by
  subst ha
  refine ⟨((m % 10 : Nat) : Int), ((m % 10 + 1 : Nat) : Int), ((m / 10 : Nat) : Int), _, ?_, ?_, ?_, ?_, rfl, rfl, fun w => digit_cut w _ (Nat.mod_lt _ (by decide))⟩
  · rw [Int.tmod_eq_emod_of_nonneg (by omega)]; omega
  · rw [IntKind.wrap_u64]; omega
  · rw [Int.tdiv_eq_ediv_of_nonneg (by omega)]; omega
  · rw [IntKind.wrap_u64]; omega
/-- A digit below ten, likewise. -/
theorem digit_last (m : Nat) (a : Int) (ha : a = (m : Int)) (hm : m < 10) : ∃ (y : Int) (D : UInt8), IntKind.u64.wrap (a + 1) = y ∧ D = UInt8.ofNat (48 + m) ∧
    ∀ w, (Instr.sliceAt 9 (.string (⟨#[48, 49, 50, 51, 52, 53, 54, 55, 56, 57]⟩ : ByteArray)) (some (.int .u64 a)) (some (.int .u64 y)) none).run Tryz.prog w = .ok (.string (⟨#[D]⟩ : ByteArray)) w := by
  subst ha
  refine ⟨((m + 1 : Nat) : Int), _, ?_, rfl, fun w => digit_cut w _ hm⟩
  rw [IntKind.wrap_u64]; omega
theorem dec_len (n : Nat) : (Lib.decDigits n).length ≤ n + 1 := by
  induction n using Nat.strongRecOn with
  | _ n ih =>
    rw [Lib.decDigits]
    split
    · simp
    · rw [List.length_append]
      have := ih (n / 10) (by omega)
      simp only [List.length_cons, List.length_nil]
      omega
theorem dec_len20 {n : Nat} (h : n < 18446744073709551616) : (Lib.decDigits n).length ≤ 1000 := by
  have go : ∀ (k n : Nat), n < 10 ^ (k + 1) → (Lib.decDigits n).length ≤ k + 1 := by
    intro k
    induction k with
    | zero => intro n h; rw [Lib.decDigits, dif_pos (by omega)]; simp
    | succ k ih =>
      intro n h
      rw [Lib.decDigits]
      split
      · simp
      · rw [List.length_append]
        have := ih (n / 10) (by rw [Nat.pow_succ] at h; omega)
        simp only [List.length_cons, List.length_nil]
        omega
  have := go 19 n (by omega)
  omega
set_option maxHeartbeats 1000000 in
theorem num_any (n : Nat) (a0 : Int) (w : World) (ha0 : a0 = (n : Int)) (hn : n < 18446744073709551616) :
    Calls Tryz.prog 13 #[.int .u64 a0] w fun e w' => e = .returned (strV (Lib.decDigits n)) ∧ w = w' := by
  have HA0 := Lib.hid ha0; have HN0 := Lib.hid hn
  have HL := Lib.hid (dec_len20 hn)
  clear ha0 hn
  go_enter Tryz.func13, Tryz.ntmps13
  go_wp2
  go_loopw [0, 3] (fun nv sv wr => ∃ (m : Nat) (s : List UInt8) (a : Int), Hid (a = (m : Int) ∧ m < 18446744073709551616) ∧ nv = .int .u64 a ∧ sv = .string (⟨s.toArray⟩ : ByteArray) ∧ wr = w ∧ Hid (Lib.decDigits m ++ s = Lib.decDigits n)) (fun nv _ _ => (intOf nv).toNat)
  case atStart => exact ⟨n, [], a0, Lib.hid ⟨HA0.out, HN0.out⟩, rfl, rfl, rfl, Lib.hid (by simp)⟩
  case round =>
    obtain ⟨m, s, a, HA, rfl, rfl, rfl, HS⟩ := hrel
    have HSZ : Hid (s.length ≤ 1000) := Lib.hid (by have := congrArg List.length HS.out; rw [List.length_append] at this; have := HL.out; omega)
    obtain ⟨S, hS⟩ : ∃ S : ByteArray, S = ⟨s.toArray⟩ := ⟨_, rfl⟩
    have HSE := Lib.hid hS
    have hsz : ¬ 9223372036854775807 < 1 + S.size := by have := HSZ.out; rw [hS]; simp [ByteArray.size]; omega
    rw [← hS]
    clear hS
    by_cases hlt : 9 < a
    · obtain ⟨x, y, q, D, hx, hy, hq, hwq, hqe, hD, hcut⟩ := digit_facts m a HA.out.1 HA.out.2
      have HQ := Lib.hid hqe; have HD := Lib.hid hD
      clear hqe hD
      have HLT : Hid (9 < m) := Lib.hid (by have := HA.out.1; omega)
      have HN : Hid (Lib.decDigits m = Lib.decDigits (m / 10) ++ [UInt8.ofNat (48 + m % 10)]) := Lib.hid (by rw [Lib.decDigits]; rw [dif_neg (by have := HLT.out; omega)])
      go_wp2
      go_roundw
      case rel =>
        refine ⟨m / 10, D :: s, q, Lib.hid ⟨HQ.out, by have := HA.out.2; omega⟩, rfl, ?_, trivial, Lib.hid ?_⟩
        · rw [HSE.out, b_cons]
        · have := HS.out; rw [HN.out, List.append_assoc, ← HD.out] at this; exact this
      case measure => have h1 := HLT.out; have h2 := HA.out.1; have h3 := HQ.out; simp only [intOf]; omega
    · obtain ⟨y, D, hy, hD, hcut⟩ := digit_last m a HA.out.1 (by have := HA.out.1; omega)
      have HD := Lib.hid hD
      have HN : Hid (Lib.decDigits m = [UInt8.ofNat (48 + m)]) := Lib.hid (by rw [Lib.decDigits]; rw [dif_pos (by have := HA.out.1; omega)])
      clear hD
      go_wp2
      go_ret
      refine ⟨?_, rfl⟩
      have := HS.out
      rw [HN.out, ← HD.out] at this
      rw [HSE.out, b_cons, ← this]
      rfl
end Go.Proofs.YtfipjgodkdfdfaaGreatDoor
