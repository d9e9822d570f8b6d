/-
  PrimGivesUp: who gave up has nothing more: the walk.
-/
import Derived.Test.YtpbedbbggnhkbaaProg
import Derived.Test.YtpbedbbggnhkbaaLib
import Derived.Test.YtpbedbbggnhkbaaPrimA
import Derived.Test.YtpbedbbggnhkbaaPrimB
import Derived.Test.YtpbedbbggnhkbaaPrimD
import Derived.Test.YtpbedbbggnhkbaaPrimE
import Derived.Test.YtpbedbbggnhkbaaPrimF
import Derived.Test.YtpbedbbggnhkbaaPrimG
import Derived.Test.YtpbedbbggnhkbaaPrimH
import Derived.WalkKit
import Derived.Lib.Hide
namespace Go.Proofs.Ytpbedbbggnhkbaa
open Go.RowKit Go.Lac

/-- A reader that gave up stays as it is. -/
theorem gone_uint : uintR 9 (([], 1) : RS) = (0, ([], 1)) := rfl
theorem gone_int : intR (([], 1) : RS) = (0, ([], 1)) := rfl
theorem gone_byte : byteR (([], 1) : RS) = (0, ([], 1)) := rfl
theorem gone_word : wordR (([], 1) : RS) = (0, ([], 1)) := rfl
theorem gone_end : endR (([], 1) : RS) = 1 := rfl

set_option maxRecDepth 100000 in
set_option maxHeartbeats 2000000 in
theorem primGivesUp_walk (v : Nat) (s : List UInt8) (cut : Nat) (w : World) (hv : v < 2 ^ 64) (hs : s.length ≤ maxLen) (hc : cut < 256) :
    Calls Try.prog 6 #[.int .u64 v, .string ⟨s.toArray⟩, .int .u8 cut] w fun e w' => e = .returned (.bool true) ∧ Ext w w' := by
  have HV := Lib.hid hv
  unfold maxLen at hs
  clear hv
  by_cases h1 : 100 < s.length
  · go_enter Try.func6, Try.ntmps6
    go_wp2
    go_ret
    exact ⟨rfl, Ch.refl _ _⟩
  have HS := Lib.hid (show s.length ≤ 100 by omega)
  go_enter Try.func6, Try.ntmps6
  go_wp2_with fail
  refine (putUint_any _ [] v w (rd_nil w) (by decide) HV.out).mono ?_
  rintro e w1 ⟨s1, rfl, g1, g2⟩
  rw [List.nil_append] at g2
  have R1 := Lib.hid (Rd.ofOwns g2); have X1 := Lib.hid g1; clear g1 g2
  go_wp2_with fail
  refine (putText_any _ _ s w1 R1.out (by have := sev_length_10 v HV.out; omega) (by have := HS.out; omega)).mono ?_
  rintro e w2 ⟨s2, rfl, g1, g2⟩
  have hB1 : 0 < (sev v ++ txt s).length := by
    have : 0 < (sev v).length := by rw [sev]; split <;> simp
    rw [List.length_append]; omega
  have hB2 : (sev v ++ txt s).length ≤ 400 := by
    have a1 := sev_length_10 v HV.out
    have a2 := sev_length_10 s.length (by have := HS.out; omega)
    have := HS.out
    simp only [txt, List.length_append]; omega
  have hboth := fun k => both_cut v k s HV.out HS.out
  generalize sev v ++ txt s = B at *
  have hb := Rd.ofOwns g2
  have X2 := Lib.hid (X1.out.trans g1)
  obtain ⟨ao, cap, rfl⟩ := owns_shape g2
  obtain ⟨b, off, rfl, g3, g4, _⟩ := cell_of_rd hb rfl hB1
  have hk : cut % B.length < B.length := Nat.mod_lt _ hB1
  have hle : cut % B.length ≤ B.length := Nat.le_of_lt hk
  have RT := Lib.hid (Rd.take hb (cut % B.length) hle)
  have HBO := Lib.hid (hboth (cut % B.length) hk)
  unfold maxLen at g4
  have hz : ((B.length : Int) == 0) = false := beq_eq_false_iff_ne.2 (by omega)
  have hrem : IntKind.i64.wrap ((cut : Int).tmod (B.length : Int)) = ((cut % B.length : Nat) : Int) := by
    rw [Int.tmod_eq_emod_of_nonneg (Int.natCast_nonneg cut), ← Int.natCast_emod, IntKind.wrap_i64]
    omega
  have hrem2 : (cut : Int) % (B.length : Int) = ((cut % B.length : Nat) : Int) := by rw [← Int.natCast_emod]
  have hlt300 : B.length ≤ 400 := hB2
  have hpos : 1 ≤ (B.length : Int) := by omega
  clear hB1 hB2 hb g1 g2 hboth X1 R1
  generalize hkk : cut % B.length = k at *
  clear hkk
  go_wp2_with fail
  have hlk : (B.take k).length = k := by rw [List.length_take]; omega
  have hread := read_any _ (B.take k) w2 RT.out (by rw [hlk]; omega)
  refine hread.mono ?_
  rintro e w3 ⟨r, rfl, g1, g2, g5⟩
  have X' := Lib.hid (X2.out.trans g1); have HR := Lib.hid (Nat.le_trans X2.out.size g5)
  have I := Lib.hid g2
  clear g1 g2 g5 hread hlk RT
  unfold RPtr
  go_wp2_with fail
  refine (uint_any r _ 18446744073709551615 w3 I.out).mono ?_
  rintro e w4 ⟨rfl, g1, g2⟩
  clear I
  have I := Lib.hid g2; have X := Lib.hid (X'.out.transOnly g1 HR.out); clear g1 g2 X'
  go_wp2_with fail
  have ht := text_any r _ 100 w4 I.out (by omega)
  rw [show (100 : Int).toNat = 100 from rfl, HBO.out] at ht
  refine ht.mono ?_
  rintro e w5 ⟨rfl, g1, g2⟩
  clear I ht
  have I := Lib.hid g2; have X' := Lib.hid (X.out.transOnly g1 HR.out); clear g1 g2 X
  unfold strV
  have ge := gone_end
  go_wp2_with fail
  refine (err_any r ([], 1) w5 I.out).mono ?_
  rintro e w' ⟨rfl, rfl⟩
  go_wp2_with fail
  refine (end_any r ([], 1) w5 I.out).mono ?_
  rintro e w' ⟨rfl, rfl⟩
  go_wp2_with fail
  refine (left_any r ([], 1) w5 I.out).mono ?_
  rintro e w' ⟨rfl, rfl⟩
  have ht := uint_any r ([], 1) 9 w5 I.out
  rw [gone_uint] at ht
  go_wp2_with fail
  refine ht.mono ?_
  rintro e w6 ⟨rfl, g1, g2⟩
  clear I ht
  have I := Lib.hid g2; have X := Lib.hid (X'.out.transOnly g1 HR.out); clear g1 g2 X'
  have ht := int_any r ([], 1) w6 I.out
  rw [gone_int] at ht
  go_wp2_with fail
  refine ht.mono ?_
  rintro e w7 ⟨rfl, g1, g2⟩
  clear I ht
  have I := Lib.hid g2; have X' := Lib.hid (X.out.transOnly g1 HR.out); clear g1 g2 X
  have ht := text_any r ([], 1) 9 w7 I.out (by omega)
  rw [show (9 : Int).toNat = 9 from rfl, textR_gone 9] at ht
  go_wp2_with fail
  refine ht.mono ?_
  rintro e w8 ⟨rfl, g1, g2⟩
  clear I ht
  have I := Lib.hid g2; have X := Lib.hid (X'.out.transOnly g1 HR.out); clear g1 g2 X'
  unfold strV
  have ht := byte_any r ([], 1) w8 I.out
  rw [gone_byte] at ht
  go_wp2_with fail
  refine ht.mono ?_
  rintro e w9 ⟨rfl, g1, g2⟩
  clear I ht
  have I := Lib.hid g2; have X' := Lib.hid (X.out.transOnly g1 HR.out); clear g1 g2 X
  have ht := word_any r ([], 1) w9 I.out
  rw [gone_word] at ht
  go_wp2_with fail
  refine ht.mono ?_
  rintro e w10 ⟨rfl, g1, g2⟩
  clear I ht
  have I := Lib.hid g2; have X := Lib.hid (X'.out.transOnly g1 HR.out); clear g1 g2 X'
  go_wp2_with fail
  refine (err_any r ([], 1) w10 I.out).mono ?_
  rintro e w' ⟨rfl, rfl⟩
  go_wp2_with fail
  refine (awake_any w10).mono ?_
  rintro e w' ⟨rfl, g1⟩
  have XF := Lib.hid (X.out.trans g1); clear g1
  go_wp2
  go_ret
  exact ⟨rfl, XF.out⟩
end Go.Proofs.Ytpbedbbggnhkbaa
