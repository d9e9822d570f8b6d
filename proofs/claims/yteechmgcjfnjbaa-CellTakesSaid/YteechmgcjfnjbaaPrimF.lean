/-
  The reader's Word.
-/
import Derived.Test.YteechmgcjfnjbaaProg
import Derived.Test.YteechmgcjfnjbaaLib
import Derived.Test.YteechmgcjfnjbaaPrimC
import Derived.Test.YteechmgcjfnjbaaPrimD
import Derived.WalkKit
import Derived.Lib.Hide
namespace Go.Proofs.Yteechmgcjfnjbaa
open Go.RowKit Go.Lac

/-- A number's bytes, the lowest first, put together. -/
def wordV : List UInt8 → Nat
  | [] => 0
  | b :: l => b.toNat + 256 * wordV l

theorem wordV_lt : ∀ l : List UInt8, wordV l < 256 ^ l.length
  | [] => by simp [wordV]
  | b :: l => by
    have h1 := wordV_lt l
    have h2 := UInt8.toNat_lt b
    simp only [wordV, List.length_cons, Nat.pow_succ]
    omega

theorem wordV_snoc : ∀ (l : List UInt8) (b : UInt8), wordV (l ++ [b]) = wordV l + b.toNat * 256 ^ l.length
  | [], b => by simp [wordV]
  | a :: l, b => by
    simp only [List.cons_append, wordV, wordV_snoc l b, List.length_cons, Nat.pow_succ]
    rw [Nat.mul_add]
    have : 256 * (b.toNat * 256 ^ l.length) = b.toNat * (256 ^ l.length * 256) := by
      rw [Nat.mul_comm (256 ^ l.length), ← Nat.mul_assoc, ← Nat.mul_assoc, Nat.mul_comm 256]
    omega

theorem wordV_take (l : List UInt8) (k : Nat) (h : k < l.length) : wordV (l.take (k + 1)) = wordV (l.take k) + l[k].toNat * 256 ^ k := by
  rw [List.take_succ_eq_append_getElem h, wordV_snoc]
  simp [List.length_take, Nat.min_eq_left (Nat.le_of_lt h)]

theorem byte_eq {v d n : Nat} (hd : d < 256) (h1 : v < 256 ^ n) (h : v + d * 256 ^ n < 2 ^ 64) :
    bits .or .u64 (v : Int) (IntKind.u64.wrap ((d : Int) * 2 ^ (8 * n))) = ((v + d * 256 ^ n : Nat) : Int) := by
  have hp : (256 : Nat) ^ n = 2 ^ (8 * n) := by rw [Nat.pow_mul]
  have e1 : ((d : Nat) : Int) * 2 ^ (8 * n) = ((d * 256 ^ n : Nat) : Int) := by
    rw [hp, Int.natCast_mul, Int.natCast_pow]; rfl
  rw [e1, wrap_u64_of (n := ((d * 256 ^ n : Nat) : Int)) (by omega) (by omega), u64_or_nat _ _ (by omega) (by omega), Nat.or_comm, nat_join (8 * n) _ _ (by rw [hp]; exact Nat.mul_mod_left _ _) (by rw [← hp]; exact h1), Nat.add_comm]

def wordR (s : RS) : Nat × RS := (wordV (takeR 8 s).1, (takeR 8 s).2)

theorem takeR_length (n : Nat) (s : RS) : (takeR n s).1.length ≤ n := by
  unfold takeR
  split
  · exact Nat.zero_le _
  · exact List.length_take_le _ _

set_option maxRecDepth 20000 in
set_option maxHeartbeats 1000000 in
theorem word_any (r : Nat) (s : RS) (w : World) (h : IsR w r s) :
    Calls Try.prog 145 #[RPtr r] w (RPost r (.int .u64 (wordR s).1) (wordR s).2 w) := by
  have HT := take_any r s 8 w h (by omega)
  have hl := takeR_length 8 s
  unfold wordR
  generalize (takeR 8 s).1 = bs at *
  generalize (takeR 8 s).2 = s' at *
  have HT := Lib.hid HT
  clear h
  unfold RPtr at *
  go_enter Try.func145, Try.ntmps145
  go_wp2_with (go_at_call 139; refine HT.out.mono ?_)
  rintro e w1 ⟨v, rfl, k1, k2, k3⟩
  have K1 := Lib.hid k1; have K2 := Lib.hid k2; clear k1 k2
  obtain ⟨ao, cap, rfl⟩ := k3.shape
  have K3 := Lib.hid k3; clear k3
  go_wp2
  go_loop [3, 9] (fun x ix => ∃ k : Nat, k ≤ bs.length ∧ ix = .int .i64 k ∧ x = .int .u64 (wordV (bs.take k) : Nat)) (fun _ ix => bs.length - (intOf ix).toNat)
  case atStart => exact ⟨0, Nat.zero_le _, rfl, rfl⟩
  case round =>
    obtain ⟨k, hk, rfl, rfl⟩ := hrel
    by_cases hlt : k < bs.length
    · obtain ⟨b, off, rfl, g1, g2, g3⟩ := cell_of_rd K3.out rfl (by omega)
      have hc := g3 k hlt
      have hd := UInt8.toNat_lt bs[k]
      have hw := wordV_take bs k hlt
      have hv := wordV_lt (bs.take k)
      have hv1 := wordV_lt (bs.take (k + 1))
      rw [hw] at hv1
      rw [List.length_take, Nat.min_eq_left (by omega)] at hv hv1
      have hle : 256 ^ (k + 1) ≤ 256 ^ 8 := Nat.pow_le_pow_right (by omega) (by omega)
      have hq := byte_eq hd hv (Nat.lt_of_lt_of_le hv1 (Nat.le_trans hle (by decide)))
      have HW := Lib.hid hw
      clear hw hv hv1 hle g3
      generalize bs[k].toNat = d at *
      generalize wordV (bs.take k) = x at *
      generalize x + d * 256 ^ k = x' at *
      unfold maxLen at g2
      go_wp2
      go_round
      case rel => exact ⟨k + 1, by omega, by go_num, by rw [HW.out]⟩
      case measure => simp [intOf]; omega
    · have hkn : k = bs.length := by omega
      subst hkn
      have hfull : bs.take bs.length = bs := List.take_of_length_le (Nat.le_refl _)
      rw [hfull]
      clear hfull
      go_wp2
      go_ret
      exact ⟨rfl, K1.out, K2.out⟩
end Go.Proofs.Yteechmgcjfnjbaa
