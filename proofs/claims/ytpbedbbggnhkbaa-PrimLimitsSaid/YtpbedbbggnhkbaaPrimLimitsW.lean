/-
  PrimLimits: a limit is kept: the walk.
-/
import Derived.Test.YtpbedbbggnhkbaaProg
import Derived.Test.YtpbedbbggnhkbaaLib
import Derived.Test.YtpbedbbggnhkbaaPrimA
import Derived.Test.YtpbedbbggnhkbaaPrimB
import Derived.Test.YtpbedbbggnhkbaaPrimD
import Derived.Test.YtpbedbbggnhkbaaPrimE
import Derived.Test.YtpbedbbggnhkbaaPrimG
import Derived.Test.YtpbedbbggnhkbaaPrimH
import Derived.WalkKit
import Derived.Lib.Hide
namespace Go.Proofs.Ytpbedbbggnhkbaa
open Go.RowKit Go.Lac

set_option maxRecDepth 100000 in
set_option maxHeartbeats 2000000 in
theorem primLimits_walk (v most : Nat) (s : List UInt8) (w : World) (hv : v < 2 ^ 64) (hm : most < 2 ^ 64) (hs : s.length ≤ maxLen) :
    Calls Try.prog 7 #[.int .u64 v, .int .u64 most, .string ⟨s.toArray⟩] w fun e w' => e = .returned (.bool true) ∧ Ext w w' := by
  have HV := Lib.hid hv; have HM := Lib.hid hm
  unfold maxLen at hs
  clear hv hm
  by_cases h1 : 300 < s.length
  · go_enter Try.func7, Try.ntmps7
    go_wp2
    go_ret
    exact ⟨rfl, Ch.refl _ _⟩
  have HS := Lib.hid (show s.length ≤ 300 by omega)
  go_enter Try.func7, Try.ntmps7
  go_wp2_with fail
  refine (putUint_any _ [] v w (rd_nil w) (by decide) HV.out).mono ?_
  rintro e w1 ⟨s1, rfl, g1, g2⟩
  have R1 := Lib.hid (Rd.ofOwns g2); have X1 := Lib.hid g1; clear g1 g2
  go_wp2_with fail
  refine (read_any _ _ w1 R1.out (by have := sev_length_10 v HV.out; simp; omega)).mono ?_
  rintro e w2 ⟨r, rfl, g1, g2, g3⟩
  have X2 := Lib.hid (X1.out.trans g1); have I2 := Lib.hid g2; have hr := Nat.le_trans X1.out.size g3; clear g1 g2 g3 R1 X1
  unfold RPtr
  go_wp2_with fail
  refine (putText_any _ [] s w2 (rd_nil w2) (by decide) (by have := HS.out; omega)).mono ?_
  rintro e w3 ⟨s3, rfl, g1, g2⟩
  have R3 := Lib.hid (Rd.ofOwns g2); have X3 := Lib.hid (X2.out.trans g1); have I3 := Lib.hid (I2.out.ext g1); clear g1 g2 I2
  go_wp2_with fail
  refine (read_any _ _ w3 R3.out (by have := sev_length_10 s.length (by have := HS.out; omega); have := HS.out; simp [txt]; omega)).mono ?_
  rintro e w4 ⟨q, rfl, g1, g2, g3⟩
  have X4 := Lib.hid (X3.out.trans g1); have I4 := Lib.hid (I3.out.ext g1); have J4 := Lib.hid g2
  have hq := Nat.le_trans X3.out.size g3
  have hne : r ≠ q := by have := I3.out.lt; omega
  clear g1 g2 g3 R3 X3 I3
  have HR := Lib.hid hr; have HQ := Lib.hid hq; have HNE := Lib.hid hne; clear hr hq hne
  unfold RPtr
  go_wp2_with fail
  refine (uint_any r _ most w4 I4.out).mono ?_
  rintro e w5 ⟨rfl, g1, g2⟩
  have J5 := Lib.hid (J4.out.other I4.out HNE.out.symm g1)
  have X5 := Lib.hid (X4.out.transOnly g1 HR.out)
  have I5 := Lib.hid g2; clear g1 g2 X4 I4 J4
  have hu := uintR_sev most v [] HV.out
  rw [List.append_nil] at hu
  simp only [List.nil_append] at *
  have hn : 0 ≤ (most : Int) % 400 ∧ (most : Int) % 400 < 400 := by omega
  have htx := textR_txt ((most : Int) % 400).toNat s [] (by have := HS.out; omega)
  rw [List.append_nil] at htx
  have hT := fun w' (h : IsR w' q (txt s, 0)) => text_any q (txt s, 0) ((most : Int) % 400) w' h (by omega)
  have HT := Lib.hid hT
  have hsn0 : s.length ≤ ((most : Int) % 400).toNat ↔ (s.length : Int) ≤ (most : Int) % 400 := by omega
  by_cases hvm : v ≤ most
  · rw [if_pos hvm] at hu
    rw [hu] at I5 ⊢
    clear hu
    have e1 : decide (most < v) = false := by simp; omega
    have e2 : decide (v ≤ most) = true := by simp; omega
    by_cases hsn : (s.length : Int) ≤ (most : Int) % 400
    · rw [if_pos (hsn0.2 hsn)] at htx
      rw [htx] at HT
      clear htx hT hsn0
      have e3 : decide ((most : Int) % 400 < (s.length : Int)) = false := by simp; omega
      have e4 : decide ((s.length : Int) ≤ (most : Int) % 400) = true := by simp; omega
      have HVM := Lib.hid hvm; have HSN := Lib.hid hsn
      clear hvm hsn
      go_wp2_with fail
      refine (HT.out _ J5.out).mono ?_
      rintro e w6 ⟨rfl, g1, g2⟩
      have I6 := Lib.hid (I5.out.other J5.out HNE.out g1); have J6 := Lib.hid g2; have X6 := Lib.hid (X5.out.transOnly g1 HQ.out)
      clear g1 g2 I5 J5 X5 HT
      unfold strV
      go_wp2_with fail
      have he : endR (([], 0) : RS) = 0 := rfl
      refine (end_any r ([], 0) w6 I6.out).mono ?_
      rintro e w7 ⟨rfl, rfl⟩
      go_wp2_with fail
      refine (end_any q ([], 0) w6 J6.out).mono ?_
      rintro e w7 ⟨rfl, rfl⟩
      go_wp2_with fail
      refine (awake_any w6).mono ?_
      rintro e w7 ⟨rfl, g1⟩
      have X7 := Lib.hid (X6.out.trans g1); clear g1
      go_wp2
      go_ret
      exact ⟨rfl, X7.out⟩
    · rw [if_neg (fun h => hsn (hsn0.1 h))] at htx
      rw [htx] at HT
      clear htx hT hsn0
      have e3 : decide ((most : Int) % 400 < (s.length : Int)) = true := by simp; omega
      have e4 : decide ((s.length : Int) ≤ (most : Int) % 400) = false := by simp; omega
      have HVM := Lib.hid hvm; have HSN := Lib.hid hsn
      clear hvm hsn
      go_wp2_with fail
      refine (HT.out _ J5.out).mono ?_
      rintro e w6 ⟨rfl, g1, g2⟩
      have I6 := Lib.hid (I5.out.other J5.out HNE.out g1); have J6 := Lib.hid g2; have X6 := Lib.hid (X5.out.transOnly g1 HQ.out)
      clear g1 g2 I5 J5 X5 HT
      unfold strV
      go_wp2_with fail
      have he : endR (([], 0) : RS) = 0 := rfl
      refine (end_any r ([], 0) w6 I6.out).mono ?_
      rintro e w7 ⟨rfl, rfl⟩
      go_wp2_with fail
      refine (err_any q ([], 4) w6 J6.out).mono ?_
      rintro e w7 ⟨rfl, rfl⟩
      go_wp2_with fail
      refine (awake_any w6).mono ?_
      rintro e w7 ⟨rfl, g1⟩
      have X7 := Lib.hid (X6.out.trans g1); clear g1
      go_wp2
      go_ret
      exact ⟨rfl, X7.out⟩
  · rw [if_neg hvm] at hu
    rw [hu] at I5 ⊢
    clear hu
    have e1 : decide (most < v) = true := by simp; omega
    have e2 : decide (v ≤ most) = false := by simp; omega
    by_cases hsn : (s.length : Int) ≤ (most : Int) % 400
    · rw [if_pos (hsn0.2 hsn)] at htx
      rw [htx] at HT
      clear htx hT hsn0
      have e3 : decide ((most : Int) % 400 < (s.length : Int)) = false := by simp; omega
      have e4 : decide ((s.length : Int) ≤ (most : Int) % 400) = true := by simp; omega
      have HVM := Lib.hid hvm; have HSN := Lib.hid hsn
      clear hvm hsn
      go_wp2_with fail
      refine (HT.out _ J5.out).mono ?_
      rintro e w6 ⟨rfl, g1, g2⟩
      have I6 := Lib.hid (I5.out.other J5.out HNE.out g1); have J6 := Lib.hid g2; have X6 := Lib.hid (X5.out.transOnly g1 HQ.out)
      clear g1 g2 I5 J5 X5 HT
      unfold strV
      go_wp2_with fail
      have he : endR (([], 0) : RS) = 0 := rfl
      refine (err_any r ([], 4) w6 I6.out).mono ?_
      rintro e w7 ⟨rfl, rfl⟩
      go_wp2_with fail
      refine (end_any q ([], 0) w6 J6.out).mono ?_
      rintro e w7 ⟨rfl, rfl⟩
      go_wp2_with fail
      refine (awake_any w6).mono ?_
      rintro e w7 ⟨rfl, g1⟩
      have X7 := Lib.hid (X6.out.trans g1); clear g1
      go_wp2
      go_ret
      exact ⟨rfl, X7.out⟩
    · rw [if_neg (fun h => hsn (hsn0.1 h))] at htx
      rw [htx] at HT
      clear htx hT hsn0
      have e3 : decide ((most : Int) % 400 < (s.length : Int)) = true := by simp; omega
      have e4 : decide ((s.length : Int) ≤ (most : Int) % 400) = false := by simp; omega
      have HVM := Lib.hid hvm; have HSN := Lib.hid hsn
      clear hvm hsn
      go_wp2_with fail
      refine (HT.out _ J5.out).mono ?_
      rintro e w6 ⟨rfl, g1, g2⟩
      have I6 := Lib.hid (I5.out.other J5.out HNE.out g1); have J6 := Lib.hid g2; have X6 := Lib.hid (X5.out.transOnly g1 HQ.out)
      clear g1 g2 I5 J5 X5 HT
      unfold strV
      go_wp2_with fail
      have he : endR (([], 0) : RS) = 0 := rfl
      refine (err_any r ([], 4) w6 I6.out).mono ?_
      rintro e w7 ⟨rfl, rfl⟩
      go_wp2_with fail
      refine (err_any q ([], 4) w6 J6.out).mono ?_
      rintro e w7 ⟨rfl, rfl⟩
      go_wp2_with fail
      refine (awake_any w6).mono ?_
      rintro e w7 ⟨rfl, g1⟩
      have X7 := Lib.hid (X6.out.trans g1); clear g1
      go_wp2
      go_ret
      exact ⟨rfl, X7.out⟩
end Go.Proofs.Ytpbedbbggnhkbaa
