/-
  Values taken: the parts of the program's Take.
-/
import Derived.Test.YteechmgcjfnjbaaValI
import Derived.Test.YteechmgcjfnjbaaPrimE
import Derived.Test.YteechmgcjfnjbaaPrimF
namespace Go.Proofs.Yteechmgcjfnjbaa
open Go.RowKit Go.Lac

def tByte (most : Nat) (s : RS) : Nat × RS := ((byteR s).1, if most < (byteR s).1 then failR (byteR s).2 4 else (byteR s).2)
def tInt (ver : Nat) (s : RS) : Int × RS := if ver = 1 then (u64i (wordR s).1, (wordR s).2) else intR s
def tPart (ver : Nat) (th : Bool) (s : RS) : Nat × RS := if th = true then ((fltR ver s).1, if (fltR ver s).1 = 0 then failR (fltR ver s).2 3 else (fltR ver s).2) else (0, s)
def tCplx (ver : Nat) (s : RS) : (Nat × Nat) × RS :=
  if ver = 1 then (((wordR s).1, (wordR (wordR s).2).1), (wordR (wordR s).2).2)
  else (((tPart ver (decide ((tByte 3 s).1 % 2 = 1)) (tByte 3 s).2).1, (tPart ver (decide ((tByte 3 s).1 / 2 % 2 = 1)) (tPart ver (decide ((tByte 3 s).1 % 2 = 1)) (tByte 3 s).2).2).1),
    (tPart ver (decide ((tByte 3 s).1 / 2 % 2 = 1)) (tPart ver (decide ((tByte 3 s).1 % 2 = 1)) (tByte 3 s).2).2).2)
def tText (s : RS) : List UInt8 × RS := ((textR 2048 s).1, if plainB (textR 2048 s).1 = false then failR (textR 2048 s).2 3 else (textR 2048 s).2)

theorem byteR_lt (s : RS) : (byteR s).1 < 256 := by
  unfold byteR
  cases (takeR 1 s).1 with
  | nil => simp
  | cons b l => exact UInt8.toNat_lt b

set_option maxRecDepth 20000 in
set_option maxHeartbeats 1000000 in
theorem takeByte_any (r : Nat) (s : RS) (most : Nat) (w : World) (h : IsR w r s) :
    Calls Try.prog 128 #[RPtr r, .int .u8 (most : Nat)] w (RPost r (.int .u8 (tByte most s).1) (tByte most s).2 w) := by
  have HB := Lib.hid (byte_any r s w h)
  unfold tByte
  generalize (byteR s).1 = b at *
  generalize (byteR s).2 = s1 at *
  clear h
  have HF := Lib.hid (fun w h => fail_any r s1 4 w h)
  unfold RPtr at *
  by_cases hb : most < b
  · simp only [if_pos hb]
    go_enter Try.func128, Try.ntmps128
    go_wp2_with (go_at_call 111; refine HB.out.mono ?_)
    rintro e w1 ⟨rfl, k1, k2⟩
    have K1 := Lib.hid k1; have K2 := Lib.hid k2; clear k1 k2
    go_wp2_with (go_at_call 59; refine (HF.out _ K2.out).mono ?_)
    rintro e w2 ⟨rfl, k1, k2⟩
    have K3 := Lib.hid (K1.out.trans k1); have K4 := Lib.hid k2; clear k1 k2
    go_wp2
    go_ret
    exact ⟨rfl, K3.out, K4.out⟩
  · simp only [if_neg hb]
    have hb' : b ≤ most := by omega
    clear hb
    go_enter Try.func128, Try.ntmps128
    go_wp2_with (go_at_call 111; refine HB.out.mono ?_)
    rintro e w1 ⟨rfl, k1, k2⟩
    have K1 := Lib.hid k1; have K2 := Lib.hid k2; clear k1 k2
    go_wp2
    go_ret
    exact ⟨rfl, K1.out, K2.out⟩

theorem u64i_wrap {u : Nat} (h : u < 18446744073709551616) : IntKind.i64.wrap (u : Int) = u64i u := by
  rw [IntKind.wrap_i64]
  unfold u64i
  split <;> omega

set_option maxRecDepth 20000 in
set_option maxHeartbeats 1000000 in
theorem takeInt_any (r : Nat) (s : RS) (ver : Nat) (w : World) (h : IsR w r s) :
    Calls Try.prog 129 #[RPtr r, .int .u8 (ver : Nat)] w (RPost r (.int .i64 (tInt ver s).1) (tInt ver s).2 w) := by
  unfold tInt
  by_cases hv : ver = 1
  · simp only [if_pos hv]
    subst hv
    have HB := Lib.hid (word_any r s w h)
    have HU := u64i_wrap (wordR_lt s)
    generalize (wordR s).1 = b at *
    generalize (wordR s).2 = s1 at *
    generalize u64i b = n at *
    clear h
    unfold RPtr at *
    go_enter Try.func129, Try.ntmps129
    go_wp2_with (go_at_call 145; refine HB.out.mono ?_)
    rintro e w1 ⟨rfl, k1, k2⟩
    have K1 := Lib.hid k1; have K2 := Lib.hid k2; clear k1 k2
    go_wp2
    go_ret
    exact ⟨rfl, K1.out, K2.out⟩
  · simp only [if_neg hv]
    have e1 : (((ver : Nat) : Int) == 1) = false := by simp; omega
    have HB := Lib.hid (int_any r s w h)
    generalize (intR s).1 = b at *
    generalize (intR s).2 = s1 at *
    clear h hv
    unfold RPtr at *
    go_enter Try.func129, Try.ntmps129
    go_wp2_with (go_at_call 146; refine HB.out.mono ?_)
    rintro e w1 ⟨rfl, k1, k2⟩
    have K1 := Lib.hid k1; have K2 := Lib.hid k2; clear k1 k2
    go_wp2
    go_ret
    exact ⟨rfl, K1.out, K2.out⟩

set_option maxRecDepth 20000 in
set_option maxHeartbeats 1000000 in
theorem takeFloat_any (r : Nat) (s : RS) (ver : Nat) (w : World) (h : IsR w r s) :
    Calls Try.prog 130 #[RPtr r, .int .u8 (ver : Nat)] w (RPost r (.int .u64 (fltR ver s).1) (fltR ver s).2 w) := by
  unfold fltR
  by_cases hv : ver = 1
  · simp only [if_pos hv]
    subst hv
    have HB := Lib.hid (word_any r s w h)
    generalize (wordR s).1 = b at *
    generalize (wordR s).2 = s1 at *
    clear h
    unfold RPtr at *
    go_enter Try.func130, Try.ntmps130
    go_wp2_with (go_at_call 145; refine HB.out.mono ?_)
    rintro e w1 ⟨rfl, k1, k2⟩
    have K1 := Lib.hid k1; have K2 := Lib.hid k2; clear k1 k2
    go_wp2
    go_ret
    exact ⟨rfl, K1.out, K2.out⟩
  · simp only [if_neg hv]
    have e1 : (((ver : Nat) : Int) == 1) = false := by simp; omega
    have HB := Lib.hid (uint_any r s 18446744073709551615 w h)
    have HR := Lib.hid (fun w => revBytes_any (uintR 18446744073709551615 s).1 w (by have := uintR_lt 18446744073709551615 s; omega))
    generalize (uintR 18446744073709551615 s).1 = b at *
    generalize (uintR 18446744073709551615 s).2 = s1 at *
    clear h hv
    unfold RPtr at *
    go_enter Try.func130, Try.ntmps130
    go_wp2_with (go_at_call 109; refine HB.out.mono ?_)
    rintro e w1 ⟨rfl, k1, k2⟩
    have K1 := Lib.hid k1; have K2 := Lib.hid k2; clear k1 k2
    go_wp2_with (go_at_call 147; refine (HR.out _).mono ?_; rintro e w' ⟨rfl, rfl⟩)
    go_ret
    exact ⟨rfl, K1.out, K2.out⟩

set_option maxRecDepth 20000 in
set_option maxHeartbeats 1000000 in
theorem takePart_any (r : Nat) (s : RS) (th : Bool) (ver : Nat) (w : World) (h : IsR w r s) :
    Calls Try.prog 148 #[RPtr r, .bool th, .int .u8 (ver : Nat)] w (RPost r (.int .u64 (tPart ver th s).1) (tPart ver th s).2 w) := by
  unfold tPart
  cases th with
  | false =>
    simp only [Bool.false_eq_true, if_false]
    have H := Lib.hid h
    clear h
    unfold RPtr
    go_enter Try.func148, Try.ntmps148
    go_wp2
    go_ret
    exact ⟨rfl, Ch.refl _ _, H.out⟩
  | true =>
    simp only [if_true]
    have HB := Lib.hid (takeFloat_any r s ver w h)
    generalize (fltR ver s).1 = b at *
    generalize (fltR ver s).2 = s1 at *
    clear h
    have HF := Lib.hid (fun w h => fail_any r s1 3 w h)
    unfold RPtr at *
    by_cases hb : b = 0
    · simp only [if_pos hb]
      subst hb
      go_enter Try.func148, Try.ntmps148
      go_wp2_with (go_at_call 130; refine HB.out.mono ?_)
      rintro e w1 ⟨rfl, k1, k2⟩
      have K1 := Lib.hid k1; have K2 := Lib.hid k2; clear k1 k2
      go_wp2_with (go_at_call 59; refine (HF.out _ K2.out).mono ?_)
      rintro e w2 ⟨rfl, k1, k2⟩
      have K3 := Lib.hid (K1.out.trans k1); have K4 := Lib.hid k2; clear k1 k2
      go_wp2
      go_ret
      exact ⟨rfl, K3.out, K4.out⟩
    · simp only [if_neg hb]
      have e1 : (((b : Nat) : Int) == 0) = false := by simp; omega
      clear hb
      go_enter Try.func148, Try.ntmps148
      go_wp2_with (go_at_call 130; refine HB.out.mono ?_)
      rintro e w1 ⟨rfl, k1, k2⟩
      have K1 := Lib.hid k1; have K2 := Lib.hid k2; clear k1 k2
      go_wp2
      go_ret
      exact ⟨rfl, K1.out, K2.out⟩

set_option maxRecDepth 20000 in
set_option maxHeartbeats 1000000 in
theorem takeText_any (r : Nat) (s : RS) (w : World) (h : IsR w r s) :
    Calls Try.prog 132 #[RPtr r] w (RPost r (strV (tText s).1) (tText s).2 w) := by
  have hb := text_any r s 2048 w h (by omega)
  have hl : (textR 2048 s).1.length ≤ 2048 := textR_length 2048 s
  unfold tText
  rw [show (2048 : Int).toNat = 2048 by rfl] at hb
  generalize (textR 2048 s).1 = t at *
  generalize (textR 2048 s).2 = s1 at *
  have HB := Lib.hid hb
  have HT := Lib.hid (fun w => isText_any t w (by omega))
  have HF := Lib.hid (fun w h => fail_any r s1 3 w h)
  clear h hb hl
  unfold RPtr strV at *
  generalize (⟨t.toArray⟩ : ByteArray) = A at *
  cases hp : plainB t with
  | false =>
    rw [hp] at HT
    simp only [if_true]
    clear hp
    go_enter Try.func132, Try.ntmps132
    go_wp2_with (go_at_call 110; refine HB.out.mono ?_)
    rintro e w1 ⟨rfl, k1, k2⟩
    have K1 := Lib.hid k1; have K2 := Lib.hid k2; clear k1 k2
    go_wp2_with (first
      | (go_at_call 116; refine (HT.out _).mono ?_; rintro e w' ⟨rfl, rfl⟩)
      | (go_at_call 59; refine (HF.out _ K2.out).mono ?_))
    rintro e w2 ⟨rfl, k1, k2⟩
    have K3 := Lib.hid (K1.out.trans k1); have K4 := Lib.hid k2; clear k1 k2
    go_wp2
    go_ret
    exact ⟨rfl, K3.out, K4.out⟩
  | true =>
    rw [hp] at HT
    simp only [Bool.true_eq_false, if_false]
    clear hp
    go_enter Try.func132, Try.ntmps132
    go_wp2_with (go_at_call 110; refine HB.out.mono ?_)
    rintro e w1 ⟨rfl, k1, k2⟩
    have K1 := Lib.hid k1; have K2 := Lib.hid k2; clear k1 k2
    go_wp2_with (go_at_call 116; refine (HT.out _).mono ?_; rintro e w' ⟨rfl, rfl⟩)
    go_ret
    exact ⟨rfl, K1.out, K2.out⟩

theorem and1_nat : ∀ x : Nat, x < 256 → x &&& 1 = x % 2 := by decide +kernel
theorem and2_nat : ∀ x : Nat, x < 256 → x &&& 2 = x / 2 % 2 * 2 := by decide +kernel
theorem and8_1 (m : Nat) (h : m < 256) : ((bits .and .u8 (m : Int) 1) != 0) = decide (m % 2 = 1) := by
  rw [show (1 : Int) = ((1 : Nat) : Int) by rfl, u8_and_nat m 1 h (by decide), and1_nat m h, Bool.eq_iff_iff]
  simp
  omega
theorem and8_2 (m : Nat) (h : m < 256) : ((bits .and .u8 (m : Int) 2) != 0) = decide (m / 2 % 2 = 1) := by
  rw [show (2 : Int) = ((2 : Nat) : Int) by rfl, u8_and_nat m 2 h (by decide), and2_nat m h, Bool.eq_iff_iff]
  simp
  omega

set_option maxRecDepth 20000 in
set_option maxHeartbeats 1000000 in
theorem takeComplex_any (r : Nat) (s : RS) (ver : Nat) (w : World) (h : IsR w r s) :
    Calls Try.prog 131 #[RPtr r, .int .u8 (ver : Nat)] w (RPost r (.complex .f64 (tCplx ver s).1.1 (tCplx ver s).1.2) (tCplx ver s).2 w) := by
  unfold tCplx
  by_cases hv : ver = 1
  · simp only [if_pos hv]
    subst hv
    have HB := Lib.hid (word_any r s w h)
    have HB2 := Lib.hid (fun w h => word_any r (wordR s).2 w h)
    generalize (wordR (wordR s).2).1 = b2 at *
    generalize (wordR (wordR s).2).2 = s2 at *
    generalize (wordR s).1 = b at *
    generalize (wordR s).2 = s1 at *
    clear h
    unfold RPtr at *
    go_enter Try.func131, Try.ntmps131
    go_wp2_with fail
    refine HB.out.mono ?_
    rintro e w1 ⟨rfl, k1, k2⟩
    have K1 := Lib.hid k1; have K2 := Lib.hid k2; clear k1 k2
    go_wp2_with fail
    refine (HB2.out _ K2.out).mono ?_
    rintro e w2 ⟨rfl, k1, k2⟩
    have K3 := Lib.hid (K1.out.trans k1); have K4 := Lib.hid k2; clear k1 k2
    go_wp2_with (go_at_call 80; refine (of_any _ _ _).mono ?_; rintro e w' ⟨rfl, rfl⟩)
    go_ret
    exact ⟨rfl, K3.out, K4.out⟩
  · simp only [if_neg hv]
    have e1 : (((ver : Nat) : Int) == 1) = false := by simp; omega
    have HB := Lib.hid (takeByte_any r s 3 w h)
    have hm : (tByte 3 s).1 < 256 := byteR_lt s
    generalize (tByte 3 s).1 = m at *
    generalize (tByte 3 s).2 = s1 at *
    have a1 := and8_1 m hm
    have a2 := and8_2 m hm
    have HP1 := Lib.hid (fun w h => takePart_any r s1 (decide (m % 2 = 1)) ver w h)
    have HP2 := Lib.hid (fun w h => takePart_any r (tPart ver (decide (m % 2 = 1)) s1).2 (decide (m / 2 % 2 = 1)) ver w h)
    generalize decide (m % 2 = 1) = d1 at *
    generalize decide (m / 2 % 2 = 1) = d2 at *
    generalize (tPart ver d2 (tPart ver d1 s1).2).1 = q2 at *
    generalize (tPart ver d2 (tPart ver d1 s1).2).2 = s3 at *
    generalize (tPart ver d1 s1).1 = q1 at *
    generalize (tPart ver d1 s1).2 = s2 at *
    clear h hv hm
    unfold RPtr at *
    go_enter Try.func131, Try.ntmps131
    go_wp2_with (go_at_call 128; refine HB.out.mono ?_)
    rintro e w1 ⟨rfl, k1, k2⟩
    have K1 := Lib.hid k1; have K2 := Lib.hid k2; clear k1 k2
    go_wp2_with fail
    refine (HP1.out _ K2.out).mono ?_
    rintro e w2 ⟨rfl, k1, k2⟩
    have K3 := Lib.hid (K1.out.trans k1); have K4 := Lib.hid k2; clear k1 k2
    go_wp2_with fail
    refine (HP2.out _ K4.out).mono ?_
    rintro e w3 ⟨rfl, k1, k2⟩
    have K5 := Lib.hid (K3.out.trans k1); have K6 := Lib.hid k2; clear k1 k2
    go_wp2_with (go_at_call 80; refine (of_any _ _ _).mono ?_; rintro e w' ⟨rfl, rfl⟩)
    go_ret
    exact ⟨rfl, K5.out, K6.out⟩
end Go.Proofs.Yteechmgcjfnjbaa
