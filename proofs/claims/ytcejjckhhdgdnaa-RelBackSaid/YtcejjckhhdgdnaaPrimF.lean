/-
  The reader's Word.
-/
import Derived.Test.YtcejjckhhdgdnaaProg
import Derived.Test.YtcejjckhhdgdnaaLib
import Derived.Test.YtcejjckhhdgdnaaPrimC
import Derived.Test.YtcejjckhhdgdnaaPrimD
import Derived.WalkKit
import Derived.Lib.Hide
namespace Go.Proofs.Ytcejjckhhdgdnaa
open Go.RowKit Go.Lac

/-- A number's bytes, the lowest first, put together. -/
def wordV : List UInt8 → Nat
  | [] => 0
  | b :: l => b.toNat + 256 * wordV l

theorem wordV_lt : ∀ l : List UInt8, wordV l < 256 ^ l.length
  | [] => by simp [wordV]
  | b :: l => by
    have h1 := wordV_lt l
    have h2 := UInt8.toNat_lt b
    simp only [wordV, List.length_cons, Nat.pow_succ]
    omega

theorem wordV_snoc : ∀ (l : List UInt8) (b : UInt8), wordV (l ++ [b]) = wordV l + b.toNat * 256 ^ l.length
  | [], b => by simp [wordV]
  | a :: l, b => by
    simp only [List.cons_append, wordV, wordV_snoc l b, List.length_cons, Nat.pow_succ]
    rw [Nat.mul_add]
    have : 256 * (b.toNat * 256 ^ l.length) = b.toNat * (256 ^ l.length * 256) := by
      rw [Nat.mul_comm (256 ^ l.length), ← Nat.mul_assoc, ← Nat.mul_assoc, Nat.mul_comm 256]
    omega

theorem wordV_take (l : List UInt8) (k : Nat) (h : k < l.length) : wordV (l.take (k + 1)) = wordV (l.take k) + l[k].toNat * 256 ^ k := by
  rw [List.take_succ_eq_append_getElem h, wordV_snoc]
  simp [List.length_take, Nat.min_eq_left (Nat.le_of_lt h)]

theorem byte_eq {v d n : Nat} (hd : d < 256) (h1 : v < 256 ^ n) (h : v + d * 256 ^ n < 2 ^ 64) :
    bits .or .u64 (v : Int) (IntKind.u64.wrap ((d : Int) * 2 ^ (8 * n))) = ((v + d * 256 ^ n : Nat) : Int) := by
  have hp : (256 : Nat) ^ n = 2 ^ (8 * n) := by rw [Nat.pow_mul]
  have e1 : ((d : Nat) : Int) * 2 ^ (8 * n) = ((d * 256 ^ n : Nat) : Int) := by
    rw [hp, Int.natCast_mul, Int.natCast_pow]; rfl
  rw [e1, wrap_u64_of (n := ((d * 256 ^ n : Nat) : Int)) (by omega) (by omega), u64_or_nat _ _ (by omega) (by omega), Nat.or_comm, nat_join (8 * n) _ _ (by rw [hp]; exact Nat.mul_mod_left _ _) (by rw [← hp]; exact h1), Nat.add_comm]

def wordR (s : RS) : Nat × RS := (wordV (takeR 8 s).1, (takeR 8 s).2)

theorem takeR_length (n : Nat) (s : RS) : (takeR n s).1.length ≤ n := by
  unfold takeR
  split
  · exact Nat.zero_le _
  · exact List.length_take_le _ _

end Go.Proofs.Ytcejjckhhdgdnaa
