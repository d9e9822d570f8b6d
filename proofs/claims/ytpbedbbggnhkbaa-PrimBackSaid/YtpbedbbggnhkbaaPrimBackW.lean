/-
  PrimBack: what is put is read as it was, and from no other bytes: the walk.
-/
import Derived.Test.YtpbedbbggnhkbaaProg
import Derived.Test.YtpbedbbggnhkbaaLib
import Derived.Test.YtpbedbbggnhkbaaPrimA
import Derived.Test.YtpbedbbggnhkbaaPrimB
import Derived.Test.YtpbedbbggnhkbaaPrimD
import Derived.Test.YtpbedbbggnhkbaaPrimE
import Derived.Test.YtpbedbbggnhkbaaPrimG
import Derived.Test.YtpbedbbggnhkbaaPrimH
import Derived.WalkKit
import Derived.Lib.Hide
namespace Go.Proofs.Ytpbedbbggnhkbaa
open Go.RowKit Go.Lac

/-- A new reader at the front of these bytes. -/
def isReader (w0 : World) (bs : List UInt8) : Kn :=
  ⟨fun v w => ∃ r, v = RPtr r ∧ IsR w r (bs, 0) ∧ w0.heap.size ≤ r, fun _ _ _ k ⟨r, h1, h2, h3⟩ => ⟨r, h1, h2.ext k, h3⟩⟩

def backT3 (w0 : World) (p n0 n1 : Nat) (s : List UInt8) : Tmp → Kn
  | 22 => .is (.pointer (some ⟨p, 0, none⟩))
  | 23 => .is (.int .u64 n0)
  | 24 => .rd (sev n0)
  | 25 => .is (.pointer (some ⟨p, 1, none⟩))
  | 26 => .is (.int .u64 n1)
  | 27 => .is (.int .i64 (IntKind.i64.wrap (n1 : Int)))
  | 28 => .rd (sev n0 ++ sev (Lib.zigzag (IntKind.i64.wrap (n1 : Int))))
  | 29 => .is (strV s)
  | 30 => .rd (sev n0 ++ sev (Lib.zigzag (IntKind.i64.wrap (n1 : Int))) ++ txt s)
  | 31 => isReader w0 (sev n0 ++ sev (Lib.zigzag (IntKind.i64.wrap (n1 : Int))) ++ txt s)
  | 7 => isReader w0 (sev n0 ++ sev (Lib.zigzag (IntKind.i64.wrap (n1 : Int))) ++ txt s)
  | _ => .any
def backT14 (ao : Option Addr) (cap : Nat) (b u : List UInt8) (v : Nat) : Tmp → Kn
  | 71 => .is (.int .u64 v)
  | 72 => .rd (sev v)
  | 73 => .is (strV u)
  | 74 => .rd (sev v ++ txt u)
  | 75 => .is (strV (sev v ++ txt u))
  | 76 => .is (.slice ao b.length cap)
  | 77 => .is (strV b)
  | 78 => .is (.bool true)
  | 79 => .is (.bool true)
  | 80 => .is (.bool true)
  | 81 => .is (.bool true)
  | 6 => .is (.bool true)
  | _ => .any

set_option maxRecDepth 100000 in
set_option maxHeartbeats 2000000 in
theorem primBack_walk (n0 n1 : Nat) (s : List UInt8) (vb : Value) (b : List UInt8) (w : World) (hv0 : n0 < 2 ^ 64) (hv1 : n1 < 2 ^ 64) (hs : s.length ≤ maxLen) (hb : Rd w vb b) :
    Calls Try.prog 5 #[.agg #[.int .u64 n0, .int .u64 n1], .string ⟨s.toArray⟩, vb] w fun e w' => e = .returned (.bool true) ∧ Ext w w' := by
  have HV0 := Lib.hid hv0
  have hx : -9223372036854775808 ≤ IntKind.i64.wrap (n1 : Int) ∧ IntKind.i64.wrap (n1 : Int) ≤ 9223372036854775807 := by rw [IntKind.wrap_i64]; omega
  have HX0 := Lib.hid hx.1; have HX1 := Lib.hid hx.2
  have HZ := Lib.hid (zig_lt _ hx.1 hx.2)
  have hbl : b.length ≤ maxLen := by obtain ⟨_, _, _, g1, g2, _⟩ := hb; omega
  have HB0 := Lib.hid hb
  obtain ⟨ao, cap, rfl⟩ := hb.shape
  unfold maxLen at hs hbl
  clear hv0 hv1 hx hb
  by_cases h1 : 300 < s.length
  · go_enter Try.func5, Try.ntmps5
    go_wp2
    go_ret
    exact ⟨rfl, (Ch.refl _ _).alloc _⟩
  by_cases h2 : 100 < b.length
  · go_enter Try.func5, Try.ntmps5
    go_wp2
    go_ret
    exact ⟨rfl, (Ch.refl _ _).alloc _⟩
  have HS := Lib.hid (show s.length ≤ 300 by omega); have HBL := Lib.hid (show b.length ≤ 100 by omega)
  go_enter Try.func5, Try.ntmps5
  go_wp2
  have C0 := Lib.hid (World.cell?_alloc_new w #[.int .u64 n0, .int .u64 n1] 51 0)
  have C1 := Lib.hid (World.cell?_alloc_new w #[.int .u64 n0, .int .u64 n1] 51 1)
  have HW1 := Lib.hid ((Ch.refl (fun _ => False) w).alloc (.cells #[.int .u64 n0, .int .u64 n1] 51))
  have HSZ := Lib.hid (show w.heap.size < (w.alloc (.cells #[.int .u64 n0, .int .u64 n1] 51)).heap.size by simp)
  generalize w.alloc (.cells #[.int .u64 n0, .int .u64 n1] 51) = w1 at *
  generalize w.heap.size = p at *
  refine wp_region_ext (backT3 w1 p n0 n1 s) mixed (by rfl) (by rfl) ?_ ?_
  · refine ⟨?_, ?_, ?_, ?_, ?_, ?_, ?_, ?_, ?_, ?_, ?_, trivial⟩
    · -- 0: slot 22 := Op.indexAddr 51 t3 (const (0:i64))
      refine StepOK.plain (kn_stable _) rfl fun ρ w hρ hw hf => ?_
      have h3 : ρ (.tmp 3) = .pointer (some ⟨p, 0, none⟩) := (hf 3).2 rfl rfl
      exact Exec.same (v := .pointer (some ⟨p, 0, none⟩)) rfl (by simp [go_sem, hρ.const, h3, Try.underlying51]) rfl
    · -- 1: slot 23 := Op.load 23 t22
      refine StepOK.plain (kn_stable _) rfl fun ρ w hρ hw hf => ?_
      have h22 : ρ (.tmp 22) = (.pointer (some ⟨p, 0, none⟩)) := (hf 22).1 rfl
      have hc := hw.cell (p := ⟨p, 0, none⟩) (fun f => f) _ C0.out
      exact Exec.same (v := .int .u64 n0) rfl (by simp [go_sem, hρ.const, h22, hc]) rfl
    · -- 2: slot 24 := Op.call { value (Operand.func 13), args := #[const (Value.slice none 0
      refine StepOK.plain (kn_stable _) rfl fun ρ w hρ hw hf => ?_
      have h23 : ρ (.tmp 23) = (.int .u64 n0) := (hf 23).1 rfl
      refine Exec.kcall #[.slice none 0 0, .int .u64 n0] hρ rfl rfl (by simp [hρ.const, h23]) Try.func13 (by rfl) rfl ?_
      refine (putUint_any _ [] n0 w (rd_nil w) (by decide) HV0.out).mono ?_
      rintro e w' ⟨s', rfl, g1, g2⟩
      exact ⟨_, rfl, Rd.ofOwns g2, g1⟩
    · -- 3: slot 25 := Op.indexAddr 51 t3 (const (1:i64))
      refine StepOK.plain (kn_stable _) rfl fun ρ w hρ hw hf => ?_
      have h3 : ρ (.tmp 3) = .pointer (some ⟨p, 0, none⟩) := (hf 3).2 rfl rfl
      exact Exec.same (v := .pointer (some ⟨p, 1, none⟩)) rfl (by simp [go_sem, hρ.const, h3, Try.underlying51]) rfl
    · -- 4: slot 26 := Op.load 23 t25
      refine StepOK.plain (kn_stable _) rfl fun ρ w hρ hw hf => ?_
      have h25 : ρ (.tmp 25) = (.pointer (some ⟨p, 1, none⟩)) := (hf 25).1 rfl
      have hc := hw.cell (p := ⟨p, 1, none⟩) (fun f => f) _ C1.out
      exact Exec.same (v := .int .u64 n1) rfl (by simp [go_sem, hρ.const, h25, hc]) rfl
    · -- 5: slot 27 := Op.convert 23 2 t26
      refine StepOK.plain (kn_stable _) rfl fun ρ w hρ hw hf => ?_
      have h26 : ρ (.tmp 26) = (.int .u64 n1) := (hf 26).1 rfl
      exact Exec.same (v := .int .i64 (IntKind.i64.wrap (n1 : Int))) rfl (by simp [go_sem, hρ.const, h26]) rfl
    · -- 6: slot 28 := Op.call { value (Operand.func 15), args := #[t24, t27], argTypes := #[
      refine StepOK.plain (kn_stable _) rfl fun ρ w hρ hw hf => ?_
      have h24 : (Kn.rd (sev n0)).holds (ρ (.tmp 24)) w := (hf 24).1 rfl
      have h27 : ρ (.tmp 27) = (.int .i64 (IntKind.i64.wrap (n1 : Int))) := (hf 27).1 rfl
      obtain ⟨ao, cap, hsh⟩ := Rd.shape h24
      refine Exec.kcall #[ρ (.tmp 24), .int .i64 (IntKind.i64.wrap (n1 : Int))] hρ rfl rfl (by simp [hρ.const, h27]) Try.func15 (by rfl) rfl ?_
      refine (putInt_any _ (sev n0) _ w h24 (by have := sev_length_10 n0 HV0.out; omega) HX0.out HX1.out).mono ?_
      rintro e w' ⟨s', rfl, g1, g2⟩
      exact ⟨_, rfl, Rd.ofOwns g2, g1⟩
    · -- 7: slot 29 := Op.move t1
      refine StepOK.plain (kn_stable _) rfl fun ρ w hρ hw hf => ?_
      have h1 : ρ (.tmp 1) = strV s := (hf 1).2 rfl rfl
      exact Exec.kmove rfl rfl h1
    · -- 8: slot 30 := Op.call { value (Operand.func 17), args := #[t28, t29], argTypes := #[
      refine StepOK.plain (kn_stable _) rfl fun ρ w hρ hw hf => ?_
      have h28 : (Kn.rd (sev n0 ++ sev (Lib.zigzag (IntKind.i64.wrap (n1 : Int))))).holds (ρ (.tmp 28)) w := (hf 28).1 rfl
      have h29 : ρ (.tmp 29) = (strV s) := (hf 29).1 rfl
      refine Exec.kcall #[ρ (.tmp 28), .string ⟨s.toArray⟩] hρ rfl rfl (by simp [hρ.const, h29, strV]) Try.func17 (by rfl) rfl ?_
      refine (putText_any _ (sev n0 ++ sev (Lib.zigzag (IntKind.i64.wrap (n1 : Int)))) s w h28 (by have := sev_length_10 n0 HV0.out; have := sev_length_10 _ HZ.out; rw [List.length_append]; omega) (by have := HS.out; omega)).mono ?_
      rintro e w' ⟨s', rfl, g1, g2⟩
      exact ⟨_, rfl, Rd.ofOwns g2, g1⟩
    · -- 9: slot 31 := Op.call { value (Operand.func 20), args := #[t30], argTypes := #[22] }
      refine StepOK.plain (kn_stable _) rfl fun ρ w hρ hw hf => ?_
      have h30 : (Kn.rd (sev n0 ++ sev (Lib.zigzag (IntKind.i64.wrap (n1 : Int))) ++ txt s)).holds (ρ (.tmp 30)) w := (hf 30).1 rfl
      refine Exec.kcall #[ρ (.tmp 30)] hρ rfl rfl (by simp [hρ.const, id]) Try.func20 (by rfl) rfl ?_
      refine (read_any _ (sev n0 ++ sev (Lib.zigzag (IntKind.i64.wrap (n1 : Int))) ++ txt s) w h30 (by have := sev_length_10 n0 HV0.out; have := sev_length_10 _ HZ.out; have := sev_length_10 s.length (by have := HS.out; omega); have := HS.out; simp only [txt, List.length_append]; omega)).mono ?_
      rintro e w' ⟨r, rfl, g1, g2, g3⟩
      exact ⟨_, rfl, ⟨r, rfl, g2, Nat.le_trans hw.size g3⟩, g1⟩
    · -- 10: slot 7 := Op.assign t31
      refine StepOK.plain (kn_stable _) rfl fun ρ w hρ hw hf => ?_
      have h31 : (isReader w1 (sev n0 ++ sev (Lib.zigzag (IntKind.i64.wrap (n1 : Int))) ++ txt s)).holds (ρ (.tmp 31)) w := (hf 31).1 rfl
      exact Exec.kassign rfl rfl h31
  intro ν w2 hν hx1
  obtain ⟨r, h0, hr1, hr2⟩ : ∃ r, ν 7 = RPtr r ∧ IsR w2 r (sev n0 ++ sev (Lib.zigzag (IntKind.i64.wrap (n1 : Int))) ++ txt s, 0) ∧ w1.heap.size ≤ r := hν 10 7 rfl
  simp only [Exit.then, ended, List.foldl_cons, List.foldl_nil, List.setIfInBounds_toArray, List.set_cons_succ, List.set_cons_zero, h0]
  have X2 := Lib.hid hx1; have I2 := Lib.hid hr1; have HR := Lib.hid hr2; clear hν hx1 h0 hr1 hr2
  unfold RPtr
  have hu := uintR_sev 18446744073709551615 n0 (sev (Lib.zigzag (IntKind.i64.wrap (n1 : Int))) ++ txt s) HV0.out
  rw [if_pos (by have := HV0.out; omega), ← List.append_assoc] at hu
  have hu2 := uint_any r _ 18446744073709551615 w2 I2.out
  rw [hu] at hu2
  have HU2 := Lib.hid hu2; clear hu2 hu
  go_wp2_with fail
  refine HU2.out.mono ?_
  rintro e w3 ⟨rfl, g1, g2⟩
  have X3 := Lib.hid (X2.out.transOnly g1 HR.out); have I3 := Lib.hid g2; clear g1 g2 HU2 X2 I2
  have hi := intR_sev (IntKind.i64.wrap (n1 : Int)) (txt s) HX0.out HX1.out
  have hi2 := int_any r _ w3 I3.out
  rw [hi] at hi2
  have HI2 := Lib.hid hi2; clear hi hi2
  go_wp2_with fail
  refine HI2.out.mono ?_
  rintro e w4 ⟨rfl, g1, g2⟩
  have X4 := Lib.hid (X3.out.transOnly g1 HR.out); have I4 := Lib.hid g2; clear g1 g2 HI2 X3 I3
  have ht := textR_txt 300 s [] (by have := HS.out; omega)
  rw [List.append_nil, if_pos HS.out] at ht
  have ht2 := text_any r _ 300 w4 I4.out (by omega)
  rw [show (300 : Int).toNat = 300 from rfl, ht] at ht2
  have HT2 := Lib.hid ht2; clear ht ht2
  go_wp2_with fail
  refine HT2.out.mono ?_
  rintro e w5 ⟨rfl, g1, g2⟩
  have X5 := Lib.hid (X4.out.transOnly g1 HR.out); have I5 := Lib.hid g2; clear g1 g2 HT2 X4 I4
  have hc0 : w5.cell? ⟨p, 0, none⟩ = some (.int .u64 n0) := X5.out.cell (p := ⟨p, 0, none⟩) (fun f => f) _ C0.out
  have hc1 : w5.cell? ⟨p, 1, none⟩ = some (.int .u64 n1) := X5.out.cell (p := ⟨p, 1, none⟩) (fun f => f) _ C1.out
  have he : endR (([], 0) : RS) = 0 := rfl
  unfold strV
  go_wp2_with fail
  refine (end_any r ([], 0) w5 I5.out).mono ?_
  rintro e w' ⟨rfl, rfl⟩
  have XX := Lib.hid (HW1.out.trans X5.out)
  have HB5 := Lib.hid (HB0.out.ext XX.out)
  clear I5 X5 hc0 hc1 C0 C1 HW1 HR
  go_wp2_with fail
  refine (read_any _ b w5 HB5.out (by have := HBL.out; omega)).mono ?_
  rintro e w6 ⟨q, rfl, g1, g2, g3⟩
  have X6 := Lib.hid (XX.out.trans g1); have I6 := Lib.hid g2; have HQ := Lib.hid (Nat.le_trans XX.out.size g3); clear g1 g2 g3 XX HB5
  unfold RPtr
  have hinv := read_inv 18446744073709551615 100 b
  have HVV := Lib.hid (uintR_lt 18446744073709551615 (b, 0))
  have HU := Lib.hid (textR_length 100 (uintR 18446744073709551615 (b, 0)).2)
  have hu := uint_any q (b, 0) 18446744073709551615 w6 I6.out
  generalize (uintR 18446744073709551615 (b, 0)).1 = v at *
  generalize (uintR 18446744073709551615 (b, 0)).2 = st1 at *
  have HUU := Lib.hid hu; clear hu
  go_wp2_with fail
  refine HUU.out.mono ?_
  rintro e w7 ⟨rfl, g1, g2⟩
  have X7 := Lib.hid (X6.out.transOnly g1 HQ.out); have I7 := Lib.hid g2; clear g1 g2 X6 I6 HUU
  have ht := text_any q st1 100 w7 I7.out (by omega)
  rw [show (100 : Int).toNat = 100 from rfl] at ht
  generalize (textR 100 st1).1 = u at *
  generalize (textR 100 st1).2 = st2 at *
  have HTT := Lib.hid ht; clear ht
  go_wp2_with fail
  refine HTT.out.mono ?_
  rintro e w8 ⟨rfl, g1, g2⟩
  have X8 := Lib.hid (X7.out.transOnly g1 HQ.out); have I8 := Lib.hid g2; clear g1 g2 X7 I7 HTT
  have hend := end_any q st2 w8 I8.out
  generalize endR st2 = en at *
  have HEND := Lib.hid hend; clear hend
  unfold strV
  by_cases hen : en = 0
  · have e1 : (en != 0) = false := by simp [hen]
    have HEQ := Lib.hid (hinv hen).symm
    clear hinv hen
    go_wp2_with fail
    refine HEND.out.mono ?_
    rintro e w' ⟨rfl, rfl⟩
    have HB := Lib.hid (HB0.out.ext X8.out)
    go_wp2_with fail
    refine wp_region_ext (backT14 ao cap b u v) mixed (by rfl) (by rfl) ?_ ?_
    · refine ⟨?_, ?_, ?_, ?_, ?_, ?_, ?_, ?_, ?_, ?_, ?_, ?_, trivial⟩
      · -- 0: slot 71 := Op.move t12
        refine StepOK.plain (kn_stable _) rfl fun ρ w hρ hw hf => ?_
        have h12 : ρ (.tmp 12) = .int .u64 v := (hf 12).2 rfl rfl
        exact Exec.kmove rfl rfl h12
      · -- 1: slot 72 := Op.call { value (Operand.func 13), args := #[const (Value.slice none 0
        refine StepOK.plain (kn_stable _) rfl fun ρ w hρ hw hf => ?_
        have h71 : ρ (.tmp 71) = (.int .u64 v) := (hf 71).1 rfl
        refine Exec.kcall #[.slice none 0 0, .int .u64 v] hρ rfl rfl (by simp [hρ.const, h71]) Try.func13 (by rfl) rfl ?_
        refine (putUint_any _ [] v w (rd_nil w) (by decide) HVV.out).mono ?_
        rintro e w' ⟨s', rfl, g1, g2⟩
        exact ⟨_, rfl, Rd.ofOwns g2, g1⟩
      · -- 2: slot 73 := Op.move t13
        refine StepOK.plain (kn_stable _) rfl fun ρ w hρ hw hf => ?_
        have h13 : ρ (.tmp 13) = strV u := (hf 13).2 rfl rfl
        exact Exec.kmove rfl rfl h13
      · -- 3: slot 74 := Op.call { value (Operand.func 17), args := #[t72, t73], argTypes := #[
        refine StepOK.plain (kn_stable _) rfl fun ρ w hρ hw hf => ?_
        have h72 : (Kn.rd (sev v)).holds (ρ (.tmp 72)) w := (hf 72).1 rfl
        have h73 : ρ (.tmp 73) = (strV u) := (hf 73).1 rfl
        refine Exec.kcall #[ρ (.tmp 72), .string ⟨u.toArray⟩] hρ rfl rfl (by simp [hρ.const, h73, strV]) Try.func17 (by rfl) rfl ?_
        refine (putText_any _ (sev v) u w h72 (by have := sev_length_10 v HVV.out; omega) (by have := HU.out; omega)).mono ?_
        rintro e w' ⟨s', rfl, g1, g2⟩
        exact ⟨_, rfl, Rd.ofOwns g2, g1⟩
      · -- 4: slot 75 := Op.convert 22 9 t74
        refine StepOK.plain (kn_stable _) rfl fun ρ w hρ hw hf => ?_
        have h74 : (Kn.rd (sev v ++ txt u)).holds (ρ (.tmp 74)) w := (hf 74).1 rfl
        exact Exec.kstr rfl rfl Try.underlying22 Try.underlying5 Try.underlying9 h74 rfl
      · -- 5: slot 76 := Op.move t2
        refine StepOK.plain (kn_stable _) rfl fun ρ w hρ hw hf => ?_
        have h2 : ρ (.tmp 2) = .slice ao b.length cap := (hf 2).2 rfl rfl
        exact Exec.kmove rfl rfl h2
      · -- 6: slot 77 := Op.convert 22 9 t76
        refine StepOK.plain (kn_stable _) rfl fun ρ w hρ hw hf => ?_
        have h76 : ρ (.tmp 76) = (.slice ao b.length cap) := (hf 76).1 rfl
        exact Exec.kstr rfl rfl Try.underlying22 Try.underlying5 Try.underlying9 (by rw [h76]; exact HB.out.ext hw) rfl
      · -- 7: slot 78 := Op.binOp BinOp.eql 9 t75 t77 9
        refine StepOK.plain (kn_stable _) rfl fun ρ w hρ hw hf => ?_
        have h75 : ρ (.tmp 75) = (strV (sev v ++ txt u)) := (hf 75).1 rfl
        have h77 : ρ (.tmp 77) = (strV b) := (hf 77).1 rfl
        exact Exec.kstreq rfl rfl Try.underlying9 h75 h77 (congrArg Value.bool (decide_eq_true HEQ.out))
      · -- 8: slot 79 := Op.move t78
        refine StepOK.plain (kn_stable _) rfl fun ρ w hρ hw hf => ?_
        have h78 : ρ (.tmp 78) = (.bool true) := (hf 78).1 rfl
        exact Exec.kmove rfl rfl h78
      · -- 9: slot 80 := Op.call { value (Operand.func 19), args := #[], argTypes := #[] }
        refine StepOK.guarded (kn_stable _) 8 true 79 rfl rfl (fun ρ w _ _ hf => (hf 79).1 rfl) fun ρ w hρ hw hf => ?_
        refine Exec.kcall #[] hρ rfl rfl (by simp) Try.func19 (by rfl) rfl ?_
        refine (awake_any w).mono ?_
        rintro e w' ⟨rfl, g1⟩
        exact ⟨_, rfl, rfl, g1⟩
      · -- 10: slot 81 := Op.pick t79 t80 (const (Value.bool false))
        refine StepOK.plain (kn_stable _) rfl fun ρ w hρ hw hf => ?_
        have h79 : ρ (.tmp 79) = (.bool true) := (hf 79).1 rfl
        have h80 : ρ (.tmp 80) = (.bool true) := (hf 80).1 rfl
        exact Exec.kpickT rfl rfl h79 h80
      · -- 11: slot 6 := Op.assign t81
        refine StepOK.plain (kn_stable _) rfl fun ρ w hρ hw hf => ?_
        have h81 : ρ (.tmp 81) = (.bool true) := (hf 81).1 rfl
        exact Exec.kassign rfl rfl h81
    intro ν w9 hν hx1
    have h0 : ν 6 = .bool true := hν 11 6 rfl
    simp only [Exit.then, ended, List.foldl_cons, List.foldl_nil, List.setIfInBounds_toArray, List.set_cons_succ, List.set_cons_zero, h0]
    have HF := Lib.hid (X8.out.trans hx1); clear hν hx1 h0
    go_wp2
    go_ret
    exact ⟨rfl, HF.out⟩
  · have e1 : (en != 0) = true := by simp [hen]
    clear hinv hen
    go_wp2_with fail
    refine HEND.out.mono ?_
    rintro e w' ⟨rfl, rfl⟩
    go_wp2_with fail
    refine (awake_any w8).mono ?_
    rintro e w' ⟨rfl, g1⟩
    have XF := Lib.hid (X8.out.trans g1); clear g1
    go_wp2
    go_ret
    exact ⟨rfl, XF.out⟩
end Go.Proofs.Ytpbedbbggnhkbaa
