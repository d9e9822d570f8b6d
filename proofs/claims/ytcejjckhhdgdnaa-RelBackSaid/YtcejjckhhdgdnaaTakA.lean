/-
  Values taken: the parts of the program's Take.
-/
import Derived.Test.YtcejjckhhdgdnaaValI
import Derived.Test.YtcejjckhhdgdnaaPrimE
import Derived.Test.YtcejjckhhdgdnaaPrimF
namespace Go.Proofs.Ytcejjckhhdgdnaa
open Go.RowKit Go.Lac

def tByte (most : Nat) (s : RS) : Nat × RS := ((byteR s).1, if most < (byteR s).1 then failR (byteR s).2 4 else (byteR s).2)
def tInt (ver : Nat) (s : RS) : Int × RS := if ver = 1 then (u64i (wordR s).1, (wordR s).2) else intR s
def tPart (ver : Nat) (th : Bool) (s : RS) : Nat × RS := if th = true then ((fltR ver s).1, if (fltR ver s).1 = 0 then failR (fltR ver s).2 3 else (fltR ver s).2) else (0, s)
def tCplx (ver : Nat) (s : RS) : (Nat × Nat) × RS :=
  if ver = 1 then (((wordR s).1, (wordR (wordR s).2).1), (wordR (wordR s).2).2)
  else (((tPart ver (decide ((tByte 3 s).1 % 2 = 1)) (tByte 3 s).2).1, (tPart ver (decide ((tByte 3 s).1 / 2 % 2 = 1)) (tPart ver (decide ((tByte 3 s).1 % 2 = 1)) (tByte 3 s).2).2).1),
    (tPart ver (decide ((tByte 3 s).1 / 2 % 2 = 1)) (tPart ver (decide ((tByte 3 s).1 % 2 = 1)) (tByte 3 s).2).2).2)
def tText (s : RS) : List UInt8 × RS := ((textR 2048 s).1, if plainB (textR 2048 s).1 = false then failR (textR 2048 s).2 3 else (textR 2048 s).2)

theorem byteR_lt (s : RS) : (byteR s).1 < 256 := by
  unfold byteR
  cases (takeR 1 s).1 with
  | nil => simp
  | cons b l => exact UInt8.toNat_lt b

theorem u64i_wrap {u : Nat} (h : u < 18446744073709551616) : IntKind.i64.wrap (u : Int) = u64i u := by
  rw [IntKind.wrap_i64]
  unfold u64i
  split <;> omega

theorem and1_nat : ∀ x : Nat, x < 256 → x &&& 1 = x % 2 := by decide +kernel
theorem and2_nat : ∀ x : Nat, x < 256 → x &&& 2 = x / 2 % 2 * 2 := by decide +kernel
theorem and8_1 (m : Nat) (h : m < 256) : ((bits .and .u8 (m : Int) 1) != 0) = decide (m % 2 = 1) := by
  rw [show (1 : Int) = ((1 : Nat) : Int) by rfl, u8_and_nat m 1 h (by decide), and1_nat m h, Bool.eq_iff_iff]
  simp
  omega
theorem and8_2 (m : Nat) (h : m < 256) : ((bits .and .u8 (m : Int) 2) != 0) = decide (m / 2 % 2 = 1) := by
  rw [show (2 : Int) = ((2 : Nat) : Int) by rfl, u8_and_nat m 2 h (by decide), and2_nat m h, Bool.eq_iff_iff]
  simp
  omega

end Go.Proofs.Ytcejjckhhdgdnaa
