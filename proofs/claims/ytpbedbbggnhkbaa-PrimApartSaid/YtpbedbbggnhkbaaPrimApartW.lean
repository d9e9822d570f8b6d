/-
  PrimApart: no two numbers have the same sevens, no two texts the same bytes; the greater number has no fewer: the walk.
-/
import Derived.Test.YtpbedbbggnhkbaaProg
import Derived.Test.YtpbedbbggnhkbaaLib
import Derived.Test.YtpbedbbggnhkbaaPrimA
import Derived.Test.YtpbedbbggnhkbaaPrimB
import Derived.Test.YtpbedbbggnhkbaaPrimD
import Derived.Test.YtpbedbbggnhkbaaPrimE
import Derived.Test.YtpbedbbggnhkbaaPrimG
import Derived.Test.YtpbedbbggnhkbaaPrimH
import Derived.WalkKit
import Derived.Lib.Hide
namespace Go.Proofs.Ytpbedbbggnhkbaa
open Go.RowKit Go.Lac

theorem sev_inj {a b : Nat} (ha : a < 2 ^ 64) (hb : b < 2 ^ 64) : sev a = sev b ↔ a = b := by
  constructor
  · intro h
    have h1 := num_sev a [] ha
    have h2 := num_sev b [] hb
    rw [h, h2] at h1
    exact (Prod.mk.inj h1).1.symm
  · rintro rfl; rfl

theorem txt_inj (a b : List UInt8) (ha : a.length ≤ 300) (hb : b.length ≤ 300) : txt a = txt b ↔ a = b := by
  constructor
  · intro h
    have h1 := textR_txt 300 a [] (by omega)
    have h2 := textR_txt 300 b [] (by omega)
    rw [if_pos ha] at h1
    rw [if_pos hb] at h2
    rw [h, h2] at h1
    exact (Prod.mk.inj h1).1.symm
  · rintro rfl; rfl

theorem sev_mono (a : Nat) : ∀ b, a ≤ b → (sev a).length ≤ (sev b).length := by
  induction a using Nat.strongRecOn with
  | _ a ih =>
    intro b hab
    by_cases ha : a < 128
    · rw [sev_small ha]
      by_cases hb : b < 128
      · rw [sev_small hb]; exact Nat.le_refl _
      · rw [sev_big hb]; simp
    · rw [sev_big ha, sev_big (show ¬ b < 128 by omega), List.length_cons, List.length_cons]
      have := ih (a / 128) (by omega) (b / 128) (Nat.div_le_div_right hab)
      omega

theorem wrapped_inj {a b : Nat} (ha : a < 2 ^ 64) (hb : b < 2 ^ 64) : sev (Lib.zigzag (wrap64 (a : Int))) = sev (Lib.zigzag (wrap64 (b : Int))) ↔ a = b := by
  have h1 : -9223372036854775808 ≤ wrap64 (a : Int) ∧ wrap64 (a : Int) ≤ 9223372036854775807 := by unfold wrap64; omega
  have h2 : -9223372036854775808 ≤ wrap64 (b : Int) ∧ wrap64 (b : Int) ≤ 9223372036854775807 := by unfold wrap64; omega
  rw [sev_inj (zig_lt _ h1.1 h1.2) (zig_lt _ h2.1 h2.2)]
  constructor
  · intro h
    have := congrArg zag h
    rw [zag_zig, zag_zig] at this
    unfold wrap64 at this
    omega
  · rintro rfl; rfl

def apartT (p : Nat) (s0 s1 : List UInt8) : Tmp → Kn
  | 63 => .is (.pointer (some ⟨p, 0, none⟩))
  | 64 => .is (strV s0)
  | 65 => .rd (txt s0)
  | 66 => .is (strV (txt s0))
  | 67 => .is (.pointer (some ⟨p, 1, none⟩))
  | 68 => .is (strV s1)
  | 69 => .rd (txt s1)
  | 70 => .is (strV (txt s1))
  | 71 => .is (.bool (decide (s0 = s1)))
  | 72 => .is (.pointer (some ⟨p, 0, none⟩))
  | 73 => .is (strV s0)
  | 74 => .is (.pointer (some ⟨p, 1, none⟩))
  | 75 => .is (strV s1)
  | 76 => .is (.bool (decide (s0 = s1)))
  | 77 => .is (.bool true)
  | 78 => .is (.bool true)
  | 79 => .is (.bool true)
  | 80 => .is (.bool true)
  | 6 => .is (.bool true)
  | _ => .any

set_option maxRecDepth 100000 in
set_option maxHeartbeats 2000000 in
theorem primApart_walk (a b : Nat) (s0 s1 : List UInt8) (w : World) (ha : a < 2 ^ 64) (hb : b < 2 ^ 64) (hs0 : s0.length ≤ maxLen) (hs1 : s1.length ≤ maxLen) :
    Calls Try.prog 8 #[.int .u64 a, .int .u64 b, .agg #[.string ⟨s0.toArray⟩, .string ⟨s1.toArray⟩]] w fun e w' => e = .returned (.bool true) ∧ Ext w w' := by
  have HA := Lib.hid ha; have HB := Lib.hid hb
  have hx : -9223372036854775808 ≤ wrap64 (a : Int) ∧ wrap64 (a : Int) ≤ 9223372036854775807 := by unfold wrap64; omega
  have HX0 := Lib.hid hx.1; have HX1 := Lib.hid hx.2
  have hy : -9223372036854775808 ≤ wrap64 (b : Int) ∧ wrap64 (b : Int) ≤ 9223372036854775807 := by unfold wrap64; omega
  have HY0 := Lib.hid hy.1; have HY1 := Lib.hid hy.2
  unfold maxLen at hs0 hs1
  clear ha hb hx hy
  by_cases h1 : 300 < s0.length
  · go_enter Try.func8, Try.ntmps8
    go_wp2
    go_ret
    exact ⟨rfl, (Ch.refl _ _).alloc _⟩
  by_cases h2 : 300 < s1.length
  · go_enter Try.func8, Try.ntmps8
    go_wp2
    go_ret
    exact ⟨rfl, (Ch.refl _ _).alloc _⟩
  have HS0 := Lib.hid (show s0.length ≤ 300 by omega); have HS1 := Lib.hid (show s1.length ≤ 300 by omega)
  go_enter Try.func8, Try.ntmps8
  go_wp2_with fail
  have C0 := Lib.hid (World.cell?_alloc_new w #[.string ⟨s0.toArray⟩, .string ⟨s1.toArray⟩] 55 0)
  have C1 := Lib.hid (World.cell?_alloc_new w #[.string ⟨s0.toArray⟩, .string ⟨s1.toArray⟩] 55 1)
  have HW1 := Lib.hid ((Ch.refl (fun _ => False) w).alloc (.cells #[.string ⟨s0.toArray⟩, .string ⟨s1.toArray⟩] 55))
  generalize w.alloc (.cells #[.string ⟨s0.toArray⟩, .string ⟨s1.toArray⟩] 55) = w1 at *
  generalize w.heap.size = p at *
  refine (putUint_any _ [] a w1 (rd_nil w1) (by decide) HA.out).mono ?_
  rintro e w2 ⟨v1, rfl, g1, g2⟩
  rw [List.nil_append] at g2
  have X2 := Lib.hid g1; have R1 := Lib.hid (Rd.ofOwns g2); clear g1 g2
  go_wp2_with fail
  refine (putUint_any _ [] b w2 (rd_nil w2) (by decide) HB.out).mono ?_
  rintro e w3 ⟨v2, rfl, g1, g2⟩
  rw [List.nil_append] at g2
  have X3 := Lib.hid (X2.out.trans g1); have R2 := Lib.hid (Rd.ofOwns g2); have R1' := Lib.hid (R1.out.ext g1); clear g1 g2 R1
  go_wp2_with fail
  refine (putInt_any _ [] _ w3 (rd_nil w3) (by decide) HX0.out HX1.out).mono ?_
  rintro e w4 ⟨v3, rfl, g1, g2⟩
  rw [List.nil_append] at g2
  have X4 := Lib.hid (X3.out.trans g1); have R3 := Lib.hid (Rd.ofOwns g2); have R2' := Lib.hid (R2.out.ext g1); have R1 := Lib.hid (R1'.out.ext g1); clear g1 g2 R1' R2
  go_wp2_with fail
  refine (putInt_any _ [] _ w4 (rd_nil w4) (by decide) HY0.out HY1.out).mono ?_
  rintro e w5 ⟨v4, rfl, g1, g2⟩
  rw [List.nil_append] at g2
  have X5 := Lib.hid (X4.out.trans g1); have R4 := Lib.hid (Rd.ofOwns g2); have R3' := Lib.hid (R3.out.ext g1); have R2 := Lib.hid (R2'.out.ext g1); have R1' := Lib.hid (R1.out.ext g1); clear g1 g2 R1 R2' R3 X2 X3 X4
  have hs1 := run_toString (P := Try.prog) R1'.out (src := 22) (dst := 9) Try.underlying22 Try.underlying5 Try.underlying9
  have hs2 := run_toString (P := Try.prog) R2.out (src := 22) (dst := 9) Try.underlying22 Try.underlying5 Try.underlying9
  have hs3 := run_toString (P := Try.prog) R3'.out (src := 22) (dst := 9) Try.underlying22 Try.underlying5 Try.underlying9
  have hs4 := run_toString (P := Try.prog) R4.out (src := 22) (dst := 9) Try.underlying22 Try.underlying5 Try.underlying9
  have hq1 := toList_beq (sev a) (sev b)
  have hq2 := toList_beq (sev (Lib.zigzag (wrap64 (a : Int)))) (sev (Lib.zigzag (wrap64 (b : Int))))
  have hd1 : decide (sev a = sev b) = decide (a = b) := decide_eq_decide.2 (sev_inj HA.out HB.out)
  have hd2 : decide (sev (Lib.zigzag (wrap64 (a : Int))) = sev (Lib.zigzag (wrap64 (b : Int)))) = decide (a = b) := decide_eq_decide.2 (wrapped_inj HA.out HB.out)
  rw [hd1] at hq1
  rw [hd2] at hq2
  clear hd1 hd2
  have hmono : a < b → (sev a).length ≤ (sev b).length := fun h => sev_mono a b (Nat.le_of_lt h)
  obtain ⟨ao1, cp1, rfl⟩ := R1'.out.shape
  obtain ⟨ao2, cp2, rfl⟩ := R2.out.shape
  generalize (sev a).length = la at *
  generalize (sev b).length = lb at *
  obtain ⟨ao3, cp3, rfl⟩ := R3'.out.shape
  obtain ⟨ao4, cp4, rfl⟩ := R4.out.shape
  have HC0 := Lib.hid (X5.out.cell (p := ⟨p, 0, none⟩) (fun f => f) _ C0.out)
  have HC1 := Lib.hid (X5.out.cell (p := ⟨p, 1, none⟩) (fun f => f) _ C1.out)
  have HXX := Lib.hid (HW1.out.trans X5.out)
  unfold strV at hs1 hs2 hs3 hs4
  clear C0 C1 HX0 HX1 HY0 HY1 hs0 h1 h2
  generalize (sev (Lib.zigzag (wrap64 (a : Int)))).length = lc at *
  generalize (sev (Lib.zigzag (wrap64 (b : Int)))).length = ld at *
  generalize (sev a).toArray = A1 at *
  generalize (sev b).toArray = A2 at *
  generalize (sev (Lib.zigzag (wrap64 (a : Int)))).toArray = A3 at *
  generalize (sev (Lib.zigzag (wrap64 (b : Int)))).toArray = A4 at *
  by_cases hab : a = b
  · have e1 : decide (a = b) = true := decide_eq_true hab
    have e2 : decide (a < b) = false := decide_eq_false (by omega)
    have e3 : ((a : Int) == (b : Int)) = true := by simp [hab]
    rw [e1] at hq1 hq2
    clear hmono e1 hab
    go_wp2
    refine wp_region_ext (apartT p s0 s1) mixed (by rfl) (by rfl) ?_ ?_
    · refine ⟨?_, ?_, ?_, ?_, ?_, ?_, ?_, ?_, ?_, ?_, ?_, ?_, ?_, ?_, ?_, ?_, ?_, ?_, ?_, trivial⟩
      · -- 0: slot 63 := Op.indexAddr 55 t5 (const (0:i64))
        refine StepOK.plain (kn_stable _) rfl fun ρ w hρ hw hf => ?_
        have h5 : ρ (.tmp 5) = .pointer (some ⟨p, 0, none⟩) := (hf 5).2 rfl rfl
        exact Exec.same (v := .pointer (some ⟨p, 0, none⟩)) rfl (by simp [go_sem, hρ.const, h5, Try.underlying55]) rfl
      · -- 1: slot 64 := Op.load 9 t63
        refine StepOK.plain (kn_stable _) rfl fun ρ w hρ hw hf => ?_
        have h63 : ρ (.tmp 63) = (.pointer (some ⟨p, 0, none⟩)) := (hf 63).1 rfl
        have hc := hw.cell (p := ⟨p, 0, none⟩) (fun f => f) _ HC0.out
        exact Exec.same (v := strV s0) rfl (by simp [go_sem, hρ.const, h63, hc, strV]) rfl
      · -- 2: slot 65 := Op.call { value (Operand.func 17), args := #[const (Value.slice none 0
        refine StepOK.plain (kn_stable _) rfl fun ρ w hρ hw hf => ?_
        have h64 : ρ (.tmp 64) = (strV s0) := (hf 64).1 rfl
        refine Exec.kcall #[.slice none 0 0, .string ⟨s0.toArray⟩] hρ rfl rfl (by simp [hρ.const, h64, strV]) Try.func17 (by rfl) rfl ?_
        refine (putText_any _ [] s0 w (rd_nil w) (by decide) (by have := HS0.out; omega)).mono ?_
        rintro e w' ⟨s', rfl, g1, g2⟩
        exact ⟨_, rfl, Rd.ofOwns g2, g1⟩
      · -- 3: slot 66 := Op.convert 22 9 t65
        refine StepOK.plain (kn_stable _) rfl fun ρ w hρ hw hf => ?_
        have h65 : (Kn.rd (txt s0)).holds (ρ (.tmp 65)) w := (hf 65).1 rfl
        exact Exec.kstr rfl rfl Try.underlying22 Try.underlying5 Try.underlying9 h65 rfl
      · -- 4: slot 67 := Op.indexAddr 55 t5 (const (1:i64))
        refine StepOK.plain (kn_stable _) rfl fun ρ w hρ hw hf => ?_
        have h5 : ρ (.tmp 5) = .pointer (some ⟨p, 0, none⟩) := (hf 5).2 rfl rfl
        exact Exec.same (v := .pointer (some ⟨p, 1, none⟩)) rfl (by simp [go_sem, hρ.const, h5, Try.underlying55]) rfl
      · -- 5: slot 68 := Op.load 9 t67
        refine StepOK.plain (kn_stable _) rfl fun ρ w hρ hw hf => ?_
        have h67 : ρ (.tmp 67) = (.pointer (some ⟨p, 1, none⟩)) := (hf 67).1 rfl
        have hc := hw.cell (p := ⟨p, 1, none⟩) (fun f => f) _ HC1.out
        exact Exec.same (v := strV s1) rfl (by simp [go_sem, hρ.const, h67, hc, strV]) rfl
      · -- 6: slot 69 := Op.call { value (Operand.func 17), args := #[const (Value.slice none 0
        refine StepOK.plain (kn_stable _) rfl fun ρ w hρ hw hf => ?_
        have h68 : ρ (.tmp 68) = (strV s1) := (hf 68).1 rfl
        refine Exec.kcall #[.slice none 0 0, .string ⟨s1.toArray⟩] hρ rfl rfl (by simp [hρ.const, h68, strV]) Try.func17 (by rfl) rfl ?_
        refine (putText_any _ [] s1 w (rd_nil w) (by decide) (by have := HS1.out; omega)).mono ?_
        rintro e w' ⟨s', rfl, g1, g2⟩
        exact ⟨_, rfl, Rd.ofOwns g2, g1⟩
      · -- 7: slot 70 := Op.convert 22 9 t69
        refine StepOK.plain (kn_stable _) rfl fun ρ w hρ hw hf => ?_
        have h69 : (Kn.rd (txt s1)).holds (ρ (.tmp 69)) w := (hf 69).1 rfl
        exact Exec.kstr rfl rfl Try.underlying22 Try.underlying5 Try.underlying9 h69 rfl
      · -- 8: slot 71 := Op.binOp BinOp.eql 9 t66 t70 9
        refine StepOK.plain (kn_stable _) rfl fun ρ w hρ hw hf => ?_
        have h66 : ρ (.tmp 66) = (strV (txt s0)) := (hf 66).1 rfl
        have h70 : ρ (.tmp 70) = (strV (txt s1)) := (hf 70).1 rfl
        exact Exec.kstreq rfl rfl Try.underlying9 h66 h70 (congrArg Value.bool (decide_eq_decide.2 (txt_inj s0 s1 HS0.out HS1.out)))
      · -- 9: slot 72 := Op.indexAddr 55 t5 (const (0:i64))
        refine StepOK.plain (kn_stable _) rfl fun ρ w hρ hw hf => ?_
        have h5 : ρ (.tmp 5) = .pointer (some ⟨p, 0, none⟩) := (hf 5).2 rfl rfl
        exact Exec.same (v := .pointer (some ⟨p, 0, none⟩)) rfl (by simp [go_sem, hρ.const, h5, Try.underlying55]) rfl
      · -- 10: slot 73 := Op.load 9 t72
        refine StepOK.plain (kn_stable _) rfl fun ρ w hρ hw hf => ?_
        have h72 : ρ (.tmp 72) = (.pointer (some ⟨p, 0, none⟩)) := (hf 72).1 rfl
        have hc := hw.cell (p := ⟨p, 0, none⟩) (fun f => f) _ HC0.out
        exact Exec.same (v := strV s0) rfl (by simp [go_sem, hρ.const, h72, hc, strV]) rfl
      · -- 11: slot 74 := Op.indexAddr 55 t5 (const (1:i64))
        refine StepOK.plain (kn_stable _) rfl fun ρ w hρ hw hf => ?_
        have h5 : ρ (.tmp 5) = .pointer (some ⟨p, 0, none⟩) := (hf 5).2 rfl rfl
        exact Exec.same (v := .pointer (some ⟨p, 1, none⟩)) rfl (by simp [go_sem, hρ.const, h5, Try.underlying55]) rfl
      · -- 12: slot 75 := Op.load 9 t74
        refine StepOK.plain (kn_stable _) rfl fun ρ w hρ hw hf => ?_
        have h74 : ρ (.tmp 74) = (.pointer (some ⟨p, 1, none⟩)) := (hf 74).1 rfl
        have hc := hw.cell (p := ⟨p, 1, none⟩) (fun f => f) _ HC1.out
        exact Exec.same (v := strV s1) rfl (by simp [go_sem, hρ.const, h74, hc, strV]) rfl
      · -- 13: slot 76 := Op.binOp BinOp.eql 9 t73 t75 9
        refine StepOK.plain (kn_stable _) rfl fun ρ w hρ hw hf => ?_
        have h73 : ρ (.tmp 73) = (strV s0) := (hf 73).1 rfl
        have h75 : ρ (.tmp 75) = (strV s1) := (hf 75).1 rfl
        exact Exec.kstreq rfl rfl Try.underlying9 h73 h75 rfl
      · -- 14: slot 77 := Op.binOp BinOp.eql 4 t71 t76 4
        refine StepOK.plain (kn_stable _) rfl fun ρ w hρ hw hf => ?_
        have h71 : ρ (.tmp 71) = (.bool (decide (s0 = s1))) := (hf 71).1 rfl
        have h76 : ρ (.tmp 76) = (.bool (decide (s0 = s1))) := (hf 76).1 rfl
        exact Exec.same (v := (.bool true)) rfl (by simp [go_sem, hρ.const, h71, h76]) rfl
      · -- 15: slot 78 := Op.move t77
        refine StepOK.plain (kn_stable _) rfl fun ρ w hρ hw hf => ?_
        have h77 : ρ (.tmp 77) = (.bool true) := (hf 77).1 rfl
        exact Exec.kmove rfl rfl h77
      · -- 16: slot 79 := Op.call { value (Operand.func 19), args := #[], argTypes := #[] }
        refine StepOK.guarded (kn_stable _) 15 true 78 rfl rfl (fun ρ w _ _ hf => (hf 78).1 rfl) fun ρ w hρ hw hf => ?_
        refine Exec.kcall #[] hρ rfl rfl (by simp) Try.func19 (by rfl) rfl ?_
        refine (awake_any w).mono ?_
        rintro e w' ⟨rfl, g1⟩
        exact ⟨_, rfl, rfl, g1⟩
      · -- 17: slot 80 := Op.pick t78 t79 (const (Value.bool false))
        refine StepOK.plain (kn_stable _) rfl fun ρ w hρ hw hf => ?_
        have h78 : ρ (.tmp 78) = (.bool true) := (hf 78).1 rfl
        have h79 : ρ (.tmp 79) = (.bool true) := (hf 79).1 rfl
        exact Exec.kpickT rfl rfl h78 h79
      · -- 18: slot 6 := Op.assign t80
        refine StepOK.plain (kn_stable _) rfl fun ρ w hρ hw hf => ?_
        have h80 : ρ (.tmp 80) = (.bool true) := (hf 80).1 rfl
        exact Exec.kassign rfl rfl h80
    intro ν w6 hν hx1
    have h0 : ν 6 = .bool true := hν 18 6 rfl
    simp only [Exit.then, ended, List.foldl_cons, List.foldl_nil, List.setIfInBounds_toArray, List.set_cons_succ, List.set_cons_zero, h0]
    have HF := Lib.hid (HXX.out.trans hx1); clear hν hx1 h0
    go_wp2
    go_ret
    exact ⟨rfl, HF.out⟩
  · have e1 : decide (a = b) = false := decide_eq_false hab
    have e3 : ((a : Int) == (b : Int)) = false := by simp; omega
    have e4 : (a == b) = false := by simp [hab]
    rw [e1] at hq1 hq2
    by_cases hlt : a < b
    · have e2 : decide (a < b) = true := decide_eq_true hlt
      have hm := hmono hlt
      clear hmono hlt
      go_wp2
      refine wp_region_ext (apartT p s0 s1) mixed (by rfl) (by rfl) ?_ ?_
      · refine ⟨?_, ?_, ?_, ?_, ?_, ?_, ?_, ?_, ?_, ?_, ?_, ?_, ?_, ?_, ?_, ?_, ?_, ?_, ?_, trivial⟩
        · -- 0: slot 63 := Op.indexAddr 55 t5 (const (0:i64))
          refine StepOK.plain (kn_stable _) rfl fun ρ w hρ hw hf => ?_
          have h5 : ρ (.tmp 5) = .pointer (some ⟨p, 0, none⟩) := (hf 5).2 rfl rfl
          exact Exec.same (v := .pointer (some ⟨p, 0, none⟩)) rfl (by simp [go_sem, hρ.const, h5, Try.underlying55]) rfl
        · -- 1: slot 64 := Op.load 9 t63
          refine StepOK.plain (kn_stable _) rfl fun ρ w hρ hw hf => ?_
          have h63 : ρ (.tmp 63) = (.pointer (some ⟨p, 0, none⟩)) := (hf 63).1 rfl
          have hc := hw.cell (p := ⟨p, 0, none⟩) (fun f => f) _ HC0.out
          exact Exec.same (v := strV s0) rfl (by simp [go_sem, hρ.const, h63, hc, strV]) rfl
        · -- 2: slot 65 := Op.call { value (Operand.func 17), args := #[const (Value.slice none 0
          refine StepOK.plain (kn_stable _) rfl fun ρ w hρ hw hf => ?_
          have h64 : ρ (.tmp 64) = (strV s0) := (hf 64).1 rfl
          refine Exec.kcall #[.slice none 0 0, .string ⟨s0.toArray⟩] hρ rfl rfl (by simp [hρ.const, h64, strV]) Try.func17 (by rfl) rfl ?_
          refine (putText_any _ [] s0 w (rd_nil w) (by decide) (by have := HS0.out; omega)).mono ?_
          rintro e w' ⟨s', rfl, g1, g2⟩
          exact ⟨_, rfl, Rd.ofOwns g2, g1⟩
        · -- 3: slot 66 := Op.convert 22 9 t65
          refine StepOK.plain (kn_stable _) rfl fun ρ w hρ hw hf => ?_
          have h65 : (Kn.rd (txt s0)).holds (ρ (.tmp 65)) w := (hf 65).1 rfl
          exact Exec.kstr rfl rfl Try.underlying22 Try.underlying5 Try.underlying9 h65 rfl
        · -- 4: slot 67 := Op.indexAddr 55 t5 (const (1:i64))
          refine StepOK.plain (kn_stable _) rfl fun ρ w hρ hw hf => ?_
          have h5 : ρ (.tmp 5) = .pointer (some ⟨p, 0, none⟩) := (hf 5).2 rfl rfl
          exact Exec.same (v := .pointer (some ⟨p, 1, none⟩)) rfl (by simp [go_sem, hρ.const, h5, Try.underlying55]) rfl
        · -- 5: slot 68 := Op.load 9 t67
          refine StepOK.plain (kn_stable _) rfl fun ρ w hρ hw hf => ?_
          have h67 : ρ (.tmp 67) = (.pointer (some ⟨p, 1, none⟩)) := (hf 67).1 rfl
          have hc := hw.cell (p := ⟨p, 1, none⟩) (fun f => f) _ HC1.out
          exact Exec.same (v := strV s1) rfl (by simp [go_sem, hρ.const, h67, hc, strV]) rfl
        · -- 6: slot 69 := Op.call { value (Operand.func 17), args := #[const (Value.slice none 0
          refine StepOK.plain (kn_stable _) rfl fun ρ w hρ hw hf => ?_
          have h68 : ρ (.tmp 68) = (strV s1) := (hf 68).1 rfl
          refine Exec.kcall #[.slice none 0 0, .string ⟨s1.toArray⟩] hρ rfl rfl (by simp [hρ.const, h68, strV]) Try.func17 (by rfl) rfl ?_
          refine (putText_any _ [] s1 w (rd_nil w) (by decide) (by have := HS1.out; omega)).mono ?_
          rintro e w' ⟨s', rfl, g1, g2⟩
          exact ⟨_, rfl, Rd.ofOwns g2, g1⟩
        · -- 7: slot 70 := Op.convert 22 9 t69
          refine StepOK.plain (kn_stable _) rfl fun ρ w hρ hw hf => ?_
          have h69 : (Kn.rd (txt s1)).holds (ρ (.tmp 69)) w := (hf 69).1 rfl
          exact Exec.kstr rfl rfl Try.underlying22 Try.underlying5 Try.underlying9 h69 rfl
        · -- 8: slot 71 := Op.binOp BinOp.eql 9 t66 t70 9
          refine StepOK.plain (kn_stable _) rfl fun ρ w hρ hw hf => ?_
          have h66 : ρ (.tmp 66) = (strV (txt s0)) := (hf 66).1 rfl
          have h70 : ρ (.tmp 70) = (strV (txt s1)) := (hf 70).1 rfl
          exact Exec.kstreq rfl rfl Try.underlying9 h66 h70 (congrArg Value.bool (decide_eq_decide.2 (txt_inj s0 s1 HS0.out HS1.out)))
        · -- 9: slot 72 := Op.indexAddr 55 t5 (const (0:i64))
          refine StepOK.plain (kn_stable _) rfl fun ρ w hρ hw hf => ?_
          have h5 : ρ (.tmp 5) = .pointer (some ⟨p, 0, none⟩) := (hf 5).2 rfl rfl
          exact Exec.same (v := .pointer (some ⟨p, 0, none⟩)) rfl (by simp [go_sem, hρ.const, h5, Try.underlying55]) rfl
        · -- 10: slot 73 := Op.load 9 t72
          refine StepOK.plain (kn_stable _) rfl fun ρ w hρ hw hf => ?_
          have h72 : ρ (.tmp 72) = (.pointer (some ⟨p, 0, none⟩)) := (hf 72).1 rfl
          have hc := hw.cell (p := ⟨p, 0, none⟩) (fun f => f) _ HC0.out
          exact Exec.same (v := strV s0) rfl (by simp [go_sem, hρ.const, h72, hc, strV]) rfl
        · -- 11: slot 74 := Op.indexAddr 55 t5 (const (1:i64))
          refine StepOK.plain (kn_stable _) rfl fun ρ w hρ hw hf => ?_
          have h5 : ρ (.tmp 5) = .pointer (some ⟨p, 0, none⟩) := (hf 5).2 rfl rfl
          exact Exec.same (v := .pointer (some ⟨p, 1, none⟩)) rfl (by simp [go_sem, hρ.const, h5, Try.underlying55]) rfl
        · -- 12: slot 75 := Op.load 9 t74
          refine StepOK.plain (kn_stable _) rfl fun ρ w hρ hw hf => ?_
          have h74 : ρ (.tmp 74) = (.pointer (some ⟨p, 1, none⟩)) := (hf 74).1 rfl
          have hc := hw.cell (p := ⟨p, 1, none⟩) (fun f => f) _ HC1.out
          exact Exec.same (v := strV s1) rfl (by simp [go_sem, hρ.const, h74, hc, strV]) rfl
        · -- 13: slot 76 := Op.binOp BinOp.eql 9 t73 t75 9
          refine StepOK.plain (kn_stable _) rfl fun ρ w hρ hw hf => ?_
          have h73 : ρ (.tmp 73) = (strV s0) := (hf 73).1 rfl
          have h75 : ρ (.tmp 75) = (strV s1) := (hf 75).1 rfl
          exact Exec.kstreq rfl rfl Try.underlying9 h73 h75 rfl
        · -- 14: slot 77 := Op.binOp BinOp.eql 4 t71 t76 4
          refine StepOK.plain (kn_stable _) rfl fun ρ w hρ hw hf => ?_
          have h71 : ρ (.tmp 71) = (.bool (decide (s0 = s1))) := (hf 71).1 rfl
          have h76 : ρ (.tmp 76) = (.bool (decide (s0 = s1))) := (hf 76).1 rfl
          exact Exec.same (v := (.bool true)) rfl (by simp [go_sem, hρ.const, h71, h76]) rfl
        · -- 15: slot 78 := Op.move t77
          refine StepOK.plain (kn_stable _) rfl fun ρ w hρ hw hf => ?_
          have h77 : ρ (.tmp 77) = (.bool true) := (hf 77).1 rfl
          exact Exec.kmove rfl rfl h77
        · -- 16: slot 79 := Op.call { value (Operand.func 19), args := #[], argTypes := #[] }
          refine StepOK.guarded (kn_stable _) 15 true 78 rfl rfl (fun ρ w _ _ hf => (hf 78).1 rfl) fun ρ w hρ hw hf => ?_
          refine Exec.kcall #[] hρ rfl rfl (by simp) Try.func19 (by rfl) rfl ?_
          refine (awake_any w).mono ?_
          rintro e w' ⟨rfl, g1⟩
          exact ⟨_, rfl, rfl, g1⟩
        · -- 17: slot 80 := Op.pick t78 t79 (const (Value.bool false))
          refine StepOK.plain (kn_stable _) rfl fun ρ w hρ hw hf => ?_
          have h78 : ρ (.tmp 78) = (.bool true) := (hf 78).1 rfl
          have h79 : ρ (.tmp 79) = (.bool true) := (hf 79).1 rfl
          exact Exec.kpickT rfl rfl h78 h79
        · -- 18: slot 6 := Op.assign t80
          refine StepOK.plain (kn_stable _) rfl fun ρ w hρ hw hf => ?_
          have h80 : ρ (.tmp 80) = (.bool true) := (hf 80).1 rfl
          exact Exec.kassign rfl rfl h80
      intro ν w6 hν hx1
      have h0 : ν 6 = .bool true := hν 18 6 rfl
      simp only [Exit.then, ended, List.foldl_cons, List.foldl_nil, List.setIfInBounds_toArray, List.set_cons_succ, List.set_cons_zero, h0]
      have HF := Lib.hid (HXX.out.trans hx1); clear hν hx1 h0
      go_wp2
      go_ret
      exact ⟨rfl, HF.out⟩
    · have e2 : decide (a < b) = false := decide_eq_false hlt
      clear hmono hlt
      go_wp2
      refine wp_region_ext (apartT p s0 s1) mixed (by rfl) (by rfl) ?_ ?_
      · refine ⟨?_, ?_, ?_, ?_, ?_, ?_, ?_, ?_, ?_, ?_, ?_, ?_, ?_, ?_, ?_, ?_, ?_, ?_, ?_, trivial⟩
        · -- 0: slot 63 := Op.indexAddr 55 t5 (const (0:i64))
          refine StepOK.plain (kn_stable _) rfl fun ρ w hρ hw hf => ?_
          have h5 : ρ (.tmp 5) = .pointer (some ⟨p, 0, none⟩) := (hf 5).2 rfl rfl
          exact Exec.same (v := .pointer (some ⟨p, 0, none⟩)) rfl (by simp [go_sem, hρ.const, h5, Try.underlying55]) rfl
        · -- 1: slot 64 := Op.load 9 t63
          refine StepOK.plain (kn_stable _) rfl fun ρ w hρ hw hf => ?_
          have h63 : ρ (.tmp 63) = (.pointer (some ⟨p, 0, none⟩)) := (hf 63).1 rfl
          have hc := hw.cell (p := ⟨p, 0, none⟩) (fun f => f) _ HC0.out
          exact Exec.same (v := strV s0) rfl (by simp [go_sem, hρ.const, h63, hc, strV]) rfl
        · -- 2: slot 65 := Op.call { value (Operand.func 17), args := #[const (Value.slice none 0
          refine StepOK.plain (kn_stable _) rfl fun ρ w hρ hw hf => ?_
          have h64 : ρ (.tmp 64) = (strV s0) := (hf 64).1 rfl
          refine Exec.kcall #[.slice none 0 0, .string ⟨s0.toArray⟩] hρ rfl rfl (by simp [hρ.const, h64, strV]) Try.func17 (by rfl) rfl ?_
          refine (putText_any _ [] s0 w (rd_nil w) (by decide) (by have := HS0.out; omega)).mono ?_
          rintro e w' ⟨s', rfl, g1, g2⟩
          exact ⟨_, rfl, Rd.ofOwns g2, g1⟩
        · -- 3: slot 66 := Op.convert 22 9 t65
          refine StepOK.plain (kn_stable _) rfl fun ρ w hρ hw hf => ?_
          have h65 : (Kn.rd (txt s0)).holds (ρ (.tmp 65)) w := (hf 65).1 rfl
          exact Exec.kstr rfl rfl Try.underlying22 Try.underlying5 Try.underlying9 h65 rfl
        · -- 4: slot 67 := Op.indexAddr 55 t5 (const (1:i64))
          refine StepOK.plain (kn_stable _) rfl fun ρ w hρ hw hf => ?_
          have h5 : ρ (.tmp 5) = .pointer (some ⟨p, 0, none⟩) := (hf 5).2 rfl rfl
          exact Exec.same (v := .pointer (some ⟨p, 1, none⟩)) rfl (by simp [go_sem, hρ.const, h5, Try.underlying55]) rfl
        · -- 5: slot 68 := Op.load 9 t67
          refine StepOK.plain (kn_stable _) rfl fun ρ w hρ hw hf => ?_
          have h67 : ρ (.tmp 67) = (.pointer (some ⟨p, 1, none⟩)) := (hf 67).1 rfl
          have hc := hw.cell (p := ⟨p, 1, none⟩) (fun f => f) _ HC1.out
          exact Exec.same (v := strV s1) rfl (by simp [go_sem, hρ.const, h67, hc, strV]) rfl
        · -- 6: slot 69 := Op.call { value (Operand.func 17), args := #[const (Value.slice none 0
          refine StepOK.plain (kn_stable _) rfl fun ρ w hρ hw hf => ?_
          have h68 : ρ (.tmp 68) = (strV s1) := (hf 68).1 rfl
          refine Exec.kcall #[.slice none 0 0, .string ⟨s1.toArray⟩] hρ rfl rfl (by simp [hρ.const, h68, strV]) Try.func17 (by rfl) rfl ?_
          refine (putText_any _ [] s1 w (rd_nil w) (by decide) (by have := HS1.out; omega)).mono ?_
          rintro e w' ⟨s', rfl, g1, g2⟩
          exact ⟨_, rfl, Rd.ofOwns g2, g1⟩
        · -- 7: slot 70 := Op.convert 22 9 t69
          refine StepOK.plain (kn_stable _) rfl fun ρ w hρ hw hf => ?_
          have h69 : (Kn.rd (txt s1)).holds (ρ (.tmp 69)) w := (hf 69).1 rfl
          exact Exec.kstr rfl rfl Try.underlying22 Try.underlying5 Try.underlying9 h69 rfl
        · -- 8: slot 71 := Op.binOp BinOp.eql 9 t66 t70 9
          refine StepOK.plain (kn_stable _) rfl fun ρ w hρ hw hf => ?_
          have h66 : ρ (.tmp 66) = (strV (txt s0)) := (hf 66).1 rfl
          have h70 : ρ (.tmp 70) = (strV (txt s1)) := (hf 70).1 rfl
          exact Exec.kstreq rfl rfl Try.underlying9 h66 h70 (congrArg Value.bool (decide_eq_decide.2 (txt_inj s0 s1 HS0.out HS1.out)))
        · -- 9: slot 72 := Op.indexAddr 55 t5 (const (0:i64))
          refine StepOK.plain (kn_stable _) rfl fun ρ w hρ hw hf => ?_
          have h5 : ρ (.tmp 5) = .pointer (some ⟨p, 0, none⟩) := (hf 5).2 rfl rfl
          exact Exec.same (v := .pointer (some ⟨p, 0, none⟩)) rfl (by simp [go_sem, hρ.const, h5, Try.underlying55]) rfl
        · -- 10: slot 73 := Op.load 9 t72
          refine StepOK.plain (kn_stable _) rfl fun ρ w hρ hw hf => ?_
          have h72 : ρ (.tmp 72) = (.pointer (some ⟨p, 0, none⟩)) := (hf 72).1 rfl
          have hc := hw.cell (p := ⟨p, 0, none⟩) (fun f => f) _ HC0.out
          exact Exec.same (v := strV s0) rfl (by simp [go_sem, hρ.const, h72, hc, strV]) rfl
        · -- 11: slot 74 := Op.indexAddr 55 t5 (const (1:i64))
          refine StepOK.plain (kn_stable _) rfl fun ρ w hρ hw hf => ?_
          have h5 : ρ (.tmp 5) = .pointer (some ⟨p, 0, none⟩) := (hf 5).2 rfl rfl
          exact Exec.same (v := .pointer (some ⟨p, 1, none⟩)) rfl (by simp [go_sem, hρ.const, h5, Try.underlying55]) rfl
        · -- 12: slot 75 := Op.load 9 t74
          refine StepOK.plain (kn_stable _) rfl fun ρ w hρ hw hf => ?_
          have h74 : ρ (.tmp 74) = (.pointer (some ⟨p, 1, none⟩)) := (hf 74).1 rfl
          have hc := hw.cell (p := ⟨p, 1, none⟩) (fun f => f) _ HC1.out
          exact Exec.same (v := strV s1) rfl (by simp [go_sem, hρ.const, h74, hc, strV]) rfl
        · -- 13: slot 76 := Op.binOp BinOp.eql 9 t73 t75 9
          refine StepOK.plain (kn_stable _) rfl fun ρ w hρ hw hf => ?_
          have h73 : ρ (.tmp 73) = (strV s0) := (hf 73).1 rfl
          have h75 : ρ (.tmp 75) = (strV s1) := (hf 75).1 rfl
          exact Exec.kstreq rfl rfl Try.underlying9 h73 h75 rfl
        · -- 14: slot 77 := Op.binOp BinOp.eql 4 t71 t76 4
          refine StepOK.plain (kn_stable _) rfl fun ρ w hρ hw hf => ?_
          have h71 : ρ (.tmp 71) = (.bool (decide (s0 = s1))) := (hf 71).1 rfl
          have h76 : ρ (.tmp 76) = (.bool (decide (s0 = s1))) := (hf 76).1 rfl
          exact Exec.same (v := (.bool true)) rfl (by simp [go_sem, hρ.const, h71, h76]) rfl
        · -- 15: slot 78 := Op.move t77
          refine StepOK.plain (kn_stable _) rfl fun ρ w hρ hw hf => ?_
          have h77 : ρ (.tmp 77) = (.bool true) := (hf 77).1 rfl
          exact Exec.kmove rfl rfl h77
        · -- 16: slot 79 := Op.call { value (Operand.func 19), args := #[], argTypes := #[] }
          refine StepOK.guarded (kn_stable _) 15 true 78 rfl rfl (fun ρ w _ _ hf => (hf 78).1 rfl) fun ρ w hρ hw hf => ?_
          refine Exec.kcall #[] hρ rfl rfl (by simp) Try.func19 (by rfl) rfl ?_
          refine (awake_any w).mono ?_
          rintro e w' ⟨rfl, g1⟩
          exact ⟨_, rfl, rfl, g1⟩
        · -- 17: slot 80 := Op.pick t78 t79 (const (Value.bool false))
          refine StepOK.plain (kn_stable _) rfl fun ρ w hρ hw hf => ?_
          have h78 : ρ (.tmp 78) = (.bool true) := (hf 78).1 rfl
          have h79 : ρ (.tmp 79) = (.bool true) := (hf 79).1 rfl
          exact Exec.kpickT rfl rfl h78 h79
        · -- 18: slot 6 := Op.assign t80
          refine StepOK.plain (kn_stable _) rfl fun ρ w hρ hw hf => ?_
          have h80 : ρ (.tmp 80) = (.bool true) := (hf 80).1 rfl
          exact Exec.kassign rfl rfl h80
      intro ν w6 hν hx1
      have h0 : ν 6 = .bool true := hν 18 6 rfl
      simp only [Exit.then, ended, List.foldl_cons, List.foldl_nil, List.setIfInBounds_toArray, List.set_cons_succ, List.set_cons_zero, h0]
      have HF := Lib.hid (HXX.out.trans hx1); clear hν hx1 h0
      go_wp2
      go_ret
      exact ⟨rfl, HF.out⟩
end Go.Proofs.Ytpbedbbggnhkbaa
