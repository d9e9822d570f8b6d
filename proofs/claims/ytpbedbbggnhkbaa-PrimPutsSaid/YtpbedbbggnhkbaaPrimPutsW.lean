/-
  PrimPuts: any number, with and without a sign, and any text, behind any bytes: the walk.
-/
import Derived.Test.YtpbedbbggnhkbaaProg
import Derived.Test.YtpbedbbggnhkbaaLib
import Derived.Test.YtpbedbbggnhkbaaPrimA
import Derived.Test.YtpbedbbggnhkbaaPrimB
import Derived.Test.YtpbedbbggnhkbaaPrimG
import Derived.WalkKit
import Derived.Lib.Hide
namespace Go.Proofs.Ytpbedbbggnhkbaa
open Go.RowKit Go.Lac

def putsT3 (ao : Option Addr) (cap : Nat) (b : List UInt8) (v : Nat) : Tmp → Kn
  | 17 => .is (.slice ao b.length cap)
  | 18 => .is (.int .u64 v)
  | 19 => .rd (b ++ sev v)
  | 20 => .is (strV (b ++ sev v))
  | 21 => .is (.slice ao b.length cap)
  | 22 => .is (strV b)
  | 23 => .is (.int .u64 v)
  | 24 => .rd (sev v)
  | 25 => .is (strV (sev v))
  | 26 => .is (strV (b ++ sev v))
  | 27 => .is (.bool true)
  | 7 => .is (.bool true)
  | _ => .any
def putsT4 (ao : Option Addr) (cap : Nat) (b : List UInt8) (v : Nat) : Tmp → Kn
  | 28 => .is (.slice ao b.length cap)
  | 29 => .is (.int .u64 v)
  | 30 => .is (.int .i64 (IntKind.i64.wrap (v : Int)))
  | 31 => .rd (b ++ sev (Lib.zigzag (IntKind.i64.wrap (v : Int))))
  | 32 => .is (strV (b ++ sev (Lib.zigzag (IntKind.i64.wrap (v : Int)))))
  | 33 => .is (.slice ao b.length cap)
  | 34 => .is (strV b)
  | 35 => .is (.int .u64 v)
  | 36 => .is (.int .i64 (IntKind.i64.wrap (v : Int)))
  | 37 => .is (.int .u64 ((Lib.zigzag (IntKind.i64.wrap (v : Int))) : Nat))
  | 38 => .rd (sev (Lib.zigzag (IntKind.i64.wrap (v : Int))))
  | 39 => .is (strV (sev (Lib.zigzag (IntKind.i64.wrap (v : Int)))))
  | 40 => .is (strV (b ++ sev (Lib.zigzag (IntKind.i64.wrap (v : Int)))))
  | 41 => .is (.bool true)
  | 8 => .is (.bool true)
  | _ => .any
def putsT5 (ao : Option Addr) (cap : Nat) (b s : List UInt8) : Tmp → Kn
  | 42 => .is (.bool true)
  | 43 => .is (.bool true)
  | 44 => .is (.bool true)
  | 45 => .is (.bool true)
  | 46 => .is (.bool true)
  | 57 => .is (.bool true)
  | 58 => .is (.bool true)
  | 59 => .is (.bool true)
  | 60 => .is (.bool true)
  | 61 => .is (.bool true)
  | 6 => .is (.bool true)
  | 47 => .is (.slice ao b.length cap)
  | 48 => .is (strV s)
  | 49 => .rd (b ++ txt s)
  | 50 => .is (strV (b ++ txt s))
  | 51 => .is (.slice ao b.length cap)
  | 52 => .is (strV b)
  | 53 => .is (strV s)
  | 54 => .rd (txt s)
  | 55 => .is (strV (txt s))
  | 56 => .is (strV (b ++ txt s))
  | _ => .any

set_option maxRecDepth 20000 in
set_option maxHeartbeats 1000000 in
theorem primPuts_walk (vb : Value) (b : List UInt8) (v : Nat) (s : List UInt8) (w : World) (hb : Rd w vb b) (hv : v < 2 ^ 64) (hs : s.length ≤ maxLen) :
    Calls Try.prog 3 #[vb, .int .u64 v, .string ⟨s.toArray⟩] w fun e w' => e = .returned (.bool true) ∧ Ext w w' := by
  have HB := Lib.hid hb; have HV := Lib.hid hv
  have hbl : b.length ≤ maxLen := by obtain ⟨_, _, _, g1, g2, _⟩ := hb; omega
  obtain ⟨ao, cap, rfl⟩ := hb.shape
  unfold maxLen at hs hbl
  clear hb hv
  by_cases h1 : 300 < b.length
  · go_enter Try.func3, Try.ntmps3
    go_wp2
    go_ret
    exact ⟨rfl, Ch.refl _ _⟩
  by_cases h2 : 300 < s.length
  · go_enter Try.func3, Try.ntmps3
    go_wp2
    go_ret
    exact ⟨rfl, Ch.refl _ _⟩
  have hx : -9223372036854775808 ≤ IntKind.i64.wrap (v : Int) ∧ IntKind.i64.wrap (v : Int) ≤ 9223372036854775807 := by rw [IntKind.wrap_i64]; omega
  have HX0 := Lib.hid hx.1; have HX1 := Lib.hid hx.2
  have HZ := Lib.hid (zig_lt _ hx.1 hx.2)
  have HL := Lib.hid (show b.length ≤ 300 by omega); have HS := Lib.hid (show s.length ≤ 300 by omega)
  clear hx
  go_enter Try.func3, Try.ntmps3
  go_wp2
  clear hs hbl h1 h2
  have HW := Lib.hid (Ch.refl (fun _ => False) w)
  refine wp_region_ext (putsT3 ao cap b v) mixed (by rfl) (by rfl) ?_ ?_
  · refine ⟨?_, ?_, ?_, ?_, ?_, ?_, ?_, ?_, ?_, ?_, ?_, ?_, trivial⟩
    · -- 0: slot 17 := Op.move t0
      refine StepOK.plain (kn_stable _) rfl fun ρ w hρ hw hf => ?_
      have h0 : ρ (.tmp 0) = .slice ao b.length cap := (hf 0).2 rfl rfl
      exact Exec.kmove rfl rfl h0
    · -- 1: slot 18 := Op.move t1
      refine StepOK.plain (kn_stable _) rfl fun ρ w hρ hw hf => ?_
      have h1 : ρ (.tmp 1) = .int .u64 v := (hf 1).2 rfl rfl
      exact Exec.kmove rfl rfl h1
    · -- 2: slot 19 := Op.call { value (Operand.func 13), args := #[t17, t18], argTypes := #[
      refine StepOK.plain (kn_stable _) rfl fun ρ w hρ hw hf => ?_
      have h17 : ρ (.tmp 17) = (.slice ao b.length cap) := (hf 17).1 rfl
      have h18 : ρ (.tmp 18) = (.int .u64 v) := (hf 18).1 rfl
      refine Exec.kcall #[.slice ao b.length cap, .int .u64 v] hρ rfl rfl (by simp [hρ.const, h17, h18]) Try.func13 (by rfl) rfl ?_
      refine (putUint_any _ b v w (HB.out.ext (HW.out.trans hw)) (by have := HL.out; omega) HV.out).mono ?_
      rintro e w' ⟨s', rfl, g1, g2⟩
      exact ⟨_, rfl, Rd.ofOwns g2, g1⟩
    · -- 3: slot 20 := Op.convert 22 9 t19
      refine StepOK.plain (kn_stable _) rfl fun ρ w hρ hw hf => ?_
      have h19 : (Kn.rd (b ++ sev v)).holds (ρ (.tmp 19)) w := (hf 19).1 rfl
      exact Exec.kstr rfl rfl Try.underlying22 Try.underlying5 Try.underlying9 h19 rfl
    · -- 4: slot 21 := Op.move t0
      refine StepOK.plain (kn_stable _) rfl fun ρ w hρ hw hf => ?_
      have h0 : ρ (.tmp 0) = .slice ao b.length cap := (hf 0).2 rfl rfl
      exact Exec.kmove rfl rfl h0
    · -- 5: slot 22 := Op.convert 22 9 t21
      refine StepOK.plain (kn_stable _) rfl fun ρ w hρ hw hf => ?_
      have h21 : ρ (.tmp 21) = (.slice ao b.length cap) := (hf 21).1 rfl
      exact Exec.kstr rfl rfl Try.underlying22 Try.underlying5 Try.underlying9 (by rw [h21]; exact HB.out.ext (HW.out.trans hw)) rfl
    · -- 6: slot 23 := Op.move t1
      refine StepOK.plain (kn_stable _) rfl fun ρ w hρ hw hf => ?_
      have h1 : ρ (.tmp 1) = .int .u64 v := (hf 1).2 rfl rfl
      exact Exec.kmove rfl rfl h1
    · -- 7: slot 24 := Op.call { value (Operand.func 14), args := #[t23], argTypes := #[23] }
      refine StepOK.plain (kn_stable _) rfl fun ρ w hρ hw hf => ?_
      have h23 : ρ (.tmp 23) = (.int .u64 v) := (hf 23).1 rfl
      refine Exec.kcall #[.int .u64 v] hρ rfl rfl (by simp [hρ.const, h23]) Try.func14 (by rfl) rfl ?_
      refine (refUint_any v w HV.out).mono ?_
      rintro e w' ⟨s', rfl, g1, g2⟩
      exact ⟨_, rfl, Rd.ofOwns g2, g1⟩
    · -- 8: slot 25 := Op.convert 22 9 t24
      refine StepOK.plain (kn_stable _) rfl fun ρ w hρ hw hf => ?_
      have h24 : (Kn.rd (sev v)).holds (ρ (.tmp 24)) w := (hf 24).1 rfl
      exact Exec.kstr rfl rfl Try.underlying22 Try.underlying5 Try.underlying9 h24 rfl
    · -- 9: slot 26 := Op.binOp BinOp.add 9 t22 t25 9
      refine StepOK.plain (kn_stable _) rfl fun ρ w hρ hw hf => ?_
      have h22 : ρ (.tmp 22) = (strV b) := (hf 22).1 rfl
      have h25 : ρ (.tmp 25) = (strV (sev v)) := (hf 25).1 rfl
      exact Exec.kstradd rfl rfl h22 h25 (by have := sev_length_10 v HV.out; have := HL.out; omega) rfl
    · -- 10: slot 27 := Op.binOp BinOp.eql 9 t20 t26 9
      refine StepOK.plain (kn_stable _) rfl fun ρ w hρ hw hf => ?_
      have h20 : ρ (.tmp 20) = (strV (b ++ sev v)) := (hf 20).1 rfl
      have h26 : ρ (.tmp 26) = (strV (b ++ sev v)) := (hf 26).1 rfl
      exact Exec.kstreq rfl rfl Try.underlying9 h20 h26 (congrArg Value.bool (decide_eq_true rfl))
    · -- 11: slot 7 := Op.assign t27
      refine StepOK.plain (kn_stable _) rfl fun ρ w hρ hw hf => ?_
      have h27 : ρ (.tmp 27) = (.bool true) := (hf 27).1 rfl
      exact Exec.kassign rfl rfl h27
  intro ν w1 hν hx1
  have h0 : ν 7 = .bool true := hν 11 7 rfl
  simp only [Exit.then, ended, List.foldl_cons, List.foldl_nil, List.setIfInBounds_toArray, List.set_cons_succ, List.set_cons_zero, h0]
  clear HW
  have HW := Lib.hid hx1; clear hν hx1 h0
  go_wp2
  refine wp_region_ext (putsT4 ao cap b v) mixed (by rfl) (by rfl) ?_ ?_
  · refine ⟨?_, ?_, ?_, ?_, ?_, ?_, ?_, ?_, ?_, ?_, ?_, ?_, ?_, ?_, ?_, trivial⟩
    · -- 0: slot 28 := Op.move t0
      refine StepOK.plain (kn_stable _) rfl fun ρ w hρ hw hf => ?_
      have h0 : ρ (.tmp 0) = .slice ao b.length cap := (hf 0).2 rfl rfl
      exact Exec.kmove rfl rfl h0
    · -- 1: slot 29 := Op.move t1
      refine StepOK.plain (kn_stable _) rfl fun ρ w hρ hw hf => ?_
      have h1 : ρ (.tmp 1) = .int .u64 v := (hf 1).2 rfl rfl
      exact Exec.kmove rfl rfl h1
    · -- 2: slot 30 := Op.convert 23 2 t29
      refine StepOK.plain (kn_stable _) rfl fun ρ w hρ hw hf => ?_
      have h29 : ρ (.tmp 29) = (.int .u64 v) := (hf 29).1 rfl
      exact Exec.same (v := .int .i64 (IntKind.i64.wrap (v : Int))) rfl (by simp [go_sem, hρ.const, h29]) rfl
    · -- 3: slot 31 := Op.call { value (Operand.func 15), args := #[t28, t30], argTypes := #[
      refine StepOK.plain (kn_stable _) rfl fun ρ w hρ hw hf => ?_
      have h28 : ρ (.tmp 28) = (.slice ao b.length cap) := (hf 28).1 rfl
      have h30 : ρ (.tmp 30) = (.int .i64 (IntKind.i64.wrap (v : Int))) := (hf 30).1 rfl
      refine Exec.kcall #[.slice ao b.length cap, .int .i64 (IntKind.i64.wrap (v : Int))] hρ rfl rfl (by simp [hρ.const, h28, h30]) Try.func15 (by rfl) rfl ?_
      refine (putInt_any _ b _ w (HB.out.ext (HW.out.trans hw)) (by have := HL.out; omega) HX0.out HX1.out).mono ?_
      rintro e w' ⟨s', rfl, g1, g2⟩
      exact ⟨_, rfl, Rd.ofOwns g2, g1⟩
    · -- 4: slot 32 := Op.convert 22 9 t31
      refine StepOK.plain (kn_stable _) rfl fun ρ w hρ hw hf => ?_
      have h31 : (Kn.rd (b ++ sev (Lib.zigzag (IntKind.i64.wrap (v : Int))))).holds (ρ (.tmp 31)) w := (hf 31).1 rfl
      exact Exec.kstr rfl rfl Try.underlying22 Try.underlying5 Try.underlying9 h31 rfl
    · -- 5: slot 33 := Op.move t0
      refine StepOK.plain (kn_stable _) rfl fun ρ w hρ hw hf => ?_
      have h0 : ρ (.tmp 0) = .slice ao b.length cap := (hf 0).2 rfl rfl
      exact Exec.kmove rfl rfl h0
    · -- 6: slot 34 := Op.convert 22 9 t33
      refine StepOK.plain (kn_stable _) rfl fun ρ w hρ hw hf => ?_
      have h33 : ρ (.tmp 33) = (.slice ao b.length cap) := (hf 33).1 rfl
      exact Exec.kstr rfl rfl Try.underlying22 Try.underlying5 Try.underlying9 (by rw [h33]; exact HB.out.ext (HW.out.trans hw)) rfl
    · -- 7: slot 35 := Op.move t1
      refine StepOK.plain (kn_stable _) rfl fun ρ w hρ hw hf => ?_
      have h1 : ρ (.tmp 1) = .int .u64 v := (hf 1).2 rfl rfl
      exact Exec.kmove rfl rfl h1
    · -- 8: slot 36 := Op.convert 23 2 t35
      refine StepOK.plain (kn_stable _) rfl fun ρ w hρ hw hf => ?_
      have h35 : ρ (.tmp 35) = (.int .u64 v) := (hf 35).1 rfl
      exact Exec.same (v := .int .i64 (IntKind.i64.wrap (v : Int))) rfl (by simp [go_sem, hρ.const, h35]) rfl
    · -- 9: slot 37 := Op.call { value (Operand.func 16), args := #[t36], argTypes := #[2] }
      refine StepOK.plain (kn_stable _) rfl fun ρ w hρ hw hf => ?_
      have h36 : ρ (.tmp 36) = (.int .i64 (IntKind.i64.wrap (v : Int))) := (hf 36).1 rfl
      refine Exec.kcall #[.int .i64 (IntKind.i64.wrap (v : Int))] hρ rfl rfl (by simp [hρ.const, h36]) Try.func16 (by rfl) rfl ?_
      refine (zig_any _ w HX0.out HX1.out).mono ?_
      rintro e w' ⟨rfl, rfl⟩
      exact ⟨_, rfl, rfl, Ch.refl _ _⟩
    · -- 10: slot 38 := Op.call { value (Operand.func 14), args := #[t37], argTypes := #[23] }
      refine StepOK.plain (kn_stable _) rfl fun ρ w hρ hw hf => ?_
      have h37 : ρ (.tmp 37) = (.int .u64 ((Lib.zigzag (IntKind.i64.wrap (v : Int))) : Nat)) := (hf 37).1 rfl
      refine Exec.kcall #[.int .u64 ((Lib.zigzag (IntKind.i64.wrap (v : Int))) : Nat)] hρ rfl rfl (by simp [hρ.const, h37]) Try.func14 (by rfl) rfl ?_
      refine (refUint_any _ w HZ.out).mono ?_
      rintro e w' ⟨s', rfl, g1, g2⟩
      exact ⟨_, rfl, Rd.ofOwns g2, g1⟩
    · -- 11: slot 39 := Op.convert 22 9 t38
      refine StepOK.plain (kn_stable _) rfl fun ρ w hρ hw hf => ?_
      have h38 : (Kn.rd (sev (Lib.zigzag (IntKind.i64.wrap (v : Int))))).holds (ρ (.tmp 38)) w := (hf 38).1 rfl
      exact Exec.kstr rfl rfl Try.underlying22 Try.underlying5 Try.underlying9 h38 rfl
    · -- 12: slot 40 := Op.binOp BinOp.add 9 t34 t39 9
      refine StepOK.plain (kn_stable _) rfl fun ρ w hρ hw hf => ?_
      have h34 : ρ (.tmp 34) = (strV b) := (hf 34).1 rfl
      have h39 : ρ (.tmp 39) = (strV (sev (Lib.zigzag (IntKind.i64.wrap (v : Int))))) := (hf 39).1 rfl
      exact Exec.kstradd rfl rfl h34 h39 (by have := sev_length_10 _ HZ.out; have := HL.out; omega) rfl
    · -- 13: slot 41 := Op.binOp BinOp.eql 9 t32 t40 9
      refine StepOK.plain (kn_stable _) rfl fun ρ w hρ hw hf => ?_
      have h32 : ρ (.tmp 32) = (strV (b ++ sev (Lib.zigzag (IntKind.i64.wrap (v : Int))))) := (hf 32).1 rfl
      have h40 : ρ (.tmp 40) = (strV (b ++ sev (Lib.zigzag (IntKind.i64.wrap (v : Int))))) := (hf 40).1 rfl
      exact Exec.kstreq rfl rfl Try.underlying9 h32 h40 (congrArg Value.bool (decide_eq_true rfl))
    · -- 14: slot 8 := Op.assign t41
      refine StepOK.plain (kn_stable _) rfl fun ρ w hρ hw hf => ?_
      have h41 : ρ (.tmp 41) = (.bool true) := (hf 41).1 rfl
      exact Exec.kassign rfl rfl h41
  intro ν' w2 hν hx1
  have h0 : ν' 8 = .bool true := hν 14 8 rfl
  simp only [Exit.then, ended, List.foldl_cons, List.foldl_nil, List.setIfInBounds_toArray, List.set_cons_succ, List.set_cons_zero, h0]
  have HW1 := Lib.hid (HW.out.trans hx1); clear HW hν hx1 h0
  have HW := HW1; clear HW1
  go_wp2
  refine wp_region_ext (putsT5 ao cap b s) mixed (by rfl) (by rfl) ?_ ?_
  · refine ⟨?_, ?_, ?_, ?_, ?_, ?_, ?_, ?_, ?_, ?_, ?_, ?_, ?_, ?_, ?_, ?_, ?_, ?_, ?_, ?_, ?_, trivial⟩
    · -- 0: slot 42 := Op.move t7
      refine StepOK.plain (kn_stable _) rfl fun ρ w hρ hw hf => ?_
      have h7 : ρ (.tmp 7) = .bool true := (hf 7).2 rfl rfl
      exact Exec.kmove rfl rfl h7
    · -- 1: slot 43 := Op.move t42
      refine StepOK.plain (kn_stable _) rfl fun ρ w hρ hw hf => ?_
      have h42 : ρ (.tmp 42) = (.bool true) := (hf 42).1 rfl
      exact Exec.kmove rfl rfl h42
    · -- 2: slot 44 := Op.move t8
      refine StepOK.guarded (kn_stable _) 1 true 43 rfl rfl (fun ρ w _ _ hf => (hf 43).1 rfl) fun ρ w hρ hw hf => ?_
      have h8 : ρ (.tmp 8) = .bool true := (hf 8).2 rfl rfl
      exact Exec.kmove rfl rfl h8
    · -- 3: slot 45 := Op.pick t43 t44 (const (Value.bool false))
      refine StepOK.plain (kn_stable _) rfl fun ρ w hρ hw hf => ?_
      have h43 : ρ (.tmp 43) = (.bool true) := (hf 43).1 rfl
      have h44 : ρ (.tmp 44) = (.bool true) := (hf 44).1 rfl
      exact Exec.kpickT rfl rfl h43 h44
    · -- 4: slot 46 := Op.move t45
      refine StepOK.plain (kn_stable _) rfl fun ρ w hρ hw hf => ?_
      have h45 : ρ (.tmp 45) = (.bool true) := (hf 45).1 rfl
      exact Exec.kmove rfl rfl h45
    · -- 5: slot 47 := Op.move t0
      refine StepOK.guarded (kn_stable _) 4 true 46 rfl rfl (fun ρ w _ _ hf => (hf 46).1 rfl) fun ρ w hρ hw hf => ?_
      have h0 : ρ (.tmp 0) = .slice ao b.length cap := (hf 0).2 rfl rfl
      exact Exec.kmove rfl rfl h0
    · -- 6: slot 48 := Op.move t2
      refine StepOK.guarded (kn_stable _) 4 true 46 rfl rfl (fun ρ w _ _ hf => (hf 46).1 rfl) fun ρ w hρ hw hf => ?_
      have h2 : ρ (.tmp 2) = strV s := (hf 2).2 rfl rfl
      exact Exec.kmove rfl rfl h2
    · -- 7: slot 49 := Op.call { value (Operand.func 17), args := #[t47, t48], argTypes := #[
      refine StepOK.guarded (kn_stable _) 4 true 46 rfl rfl (fun ρ w _ _ hf => (hf 46).1 rfl) fun ρ w hρ hw hf => ?_
      have h47 : ρ (.tmp 47) = (.slice ao b.length cap) := (hf 47).1 rfl
      have h48 : ρ (.tmp 48) = (strV s) := (hf 48).1 rfl
      refine Exec.kcall #[.slice ao b.length cap, .string ⟨s.toArray⟩] hρ rfl rfl (by simp [hρ.const, h47, h48, strV]) Try.func17 (by rfl) rfl ?_
      refine (putText_any _ b s w (HB.out.ext (HW.out.trans hw)) (by have := HL.out; omega) (by have := HS.out; omega)).mono ?_
      rintro e w' ⟨s', rfl, g1, g2⟩
      exact ⟨_, rfl, Rd.ofOwns g2, g1⟩
    · -- 8: slot 50 := Op.convert 22 9 t49
      refine StepOK.guarded (kn_stable _) 4 true 46 rfl rfl (fun ρ w _ _ hf => (hf 46).1 rfl) fun ρ w hρ hw hf => ?_
      have h49 : (Kn.rd (b ++ txt s)).holds (ρ (.tmp 49)) w := (hf 49).1 rfl
      exact Exec.kstr rfl rfl Try.underlying22 Try.underlying5 Try.underlying9 h49 rfl
    · -- 9: slot 51 := Op.move t0
      refine StepOK.guarded (kn_stable _) 4 true 46 rfl rfl (fun ρ w _ _ hf => (hf 46).1 rfl) fun ρ w hρ hw hf => ?_
      have h0 : ρ (.tmp 0) = .slice ao b.length cap := (hf 0).2 rfl rfl
      exact Exec.kmove rfl rfl h0
    · -- 10: slot 52 := Op.convert 22 9 t51
      refine StepOK.guarded (kn_stable _) 4 true 46 rfl rfl (fun ρ w _ _ hf => (hf 46).1 rfl) fun ρ w hρ hw hf => ?_
      have h51 : ρ (.tmp 51) = (.slice ao b.length cap) := (hf 51).1 rfl
      exact Exec.kstr rfl rfl Try.underlying22 Try.underlying5 Try.underlying9 (by rw [h51]; exact HB.out.ext (HW.out.trans hw)) rfl
    · -- 11: slot 53 := Op.move t2
      refine StepOK.guarded (kn_stable _) 4 true 46 rfl rfl (fun ρ w _ _ hf => (hf 46).1 rfl) fun ρ w hρ hw hf => ?_
      have h2 : ρ (.tmp 2) = strV s := (hf 2).2 rfl rfl
      exact Exec.kmove rfl rfl h2
    · -- 12: slot 54 := Op.call { value (Operand.func 18), args := #[t53], argTypes := #[9] }
      refine StepOK.guarded (kn_stable _) 4 true 46 rfl rfl (fun ρ w _ _ hf => (hf 46).1 rfl) fun ρ w hρ hw hf => ?_
      have h53 : ρ (.tmp 53) = (strV s) := (hf 53).1 rfl
      refine Exec.kcall #[.string ⟨s.toArray⟩] hρ rfl rfl (by simp [hρ.const, h53, strV]) Try.func18 (by rfl) rfl ?_
      refine (refText_any s w (by have := HS.out; omega)).mono ?_
      rintro e w' ⟨s', rfl, g1, g2⟩
      exact ⟨_, rfl, Rd.ofOwns g2, g1⟩
    · -- 13: slot 55 := Op.convert 22 9 t54
      refine StepOK.guarded (kn_stable _) 4 true 46 rfl rfl (fun ρ w _ _ hf => (hf 46).1 rfl) fun ρ w hρ hw hf => ?_
      have h54 : (Kn.rd (txt s)).holds (ρ (.tmp 54)) w := (hf 54).1 rfl
      exact Exec.kstr rfl rfl Try.underlying22 Try.underlying5 Try.underlying9 h54 rfl
    · -- 14: slot 56 := Op.binOp BinOp.add 9 t52 t55 9
      refine StepOK.guarded (kn_stable _) 4 true 46 rfl rfl (fun ρ w _ _ hf => (hf 46).1 rfl) fun ρ w hρ hw hf => ?_
      have h52 : ρ (.tmp 52) = (strV b) := (hf 52).1 rfl
      have h55 : ρ (.tmp 55) = (strV (txt s)) := (hf 55).1 rfl
      exact Exec.kstradd rfl rfl h52 h55 (by have := sev_length_10 s.length (by have := HS.out; omega); have := HL.out; have := HS.out; simp [txt]; omega) rfl
    · -- 15: slot 57 := Op.binOp BinOp.eql 9 t50 t56 9
      refine StepOK.guarded (kn_stable _) 4 true 46 rfl rfl (fun ρ w _ _ hf => (hf 46).1 rfl) fun ρ w hρ hw hf => ?_
      have h50 : ρ (.tmp 50) = (strV (b ++ txt s)) := (hf 50).1 rfl
      have h56 : ρ (.tmp 56) = (strV (b ++ txt s)) := (hf 56).1 rfl
      exact Exec.kstreq rfl rfl Try.underlying9 h50 h56 (congrArg Value.bool (decide_eq_true rfl))
    · -- 16: slot 58 := Op.pick t46 t57 (const (Value.bool false))
      refine StepOK.plain (kn_stable _) rfl fun ρ w hρ hw hf => ?_
      have h46 : ρ (.tmp 46) = (.bool true) := (hf 46).1 rfl
      have h57 : ρ (.tmp 57) = (.bool true) := (hf 57).1 rfl
      exact Exec.kpickT rfl rfl h46 h57
    · -- 17: slot 59 := Op.move t58
      refine StepOK.plain (kn_stable _) rfl fun ρ w hρ hw hf => ?_
      have h58 : ρ (.tmp 58) = (.bool true) := (hf 58).1 rfl
      exact Exec.kmove rfl rfl h58
    · -- 18: slot 60 := Op.call { value (Operand.func 19), args := #[], argTypes := #[] }
      refine StepOK.guarded (kn_stable _) 17 true 59 rfl rfl (fun ρ w _ _ hf => (hf 59).1 rfl) fun ρ w hρ hw hf => ?_
      refine Exec.kcall #[] hρ rfl rfl (by simp) Try.func19 (by rfl) rfl ?_
      refine (awake_any w).mono ?_
      rintro e w' ⟨rfl, g1⟩
      exact ⟨_, rfl, rfl, g1⟩
    · -- 19: slot 61 := Op.pick t59 t60 (const (Value.bool false))
      refine StepOK.plain (kn_stable _) rfl fun ρ w hρ hw hf => ?_
      have h59 : ρ (.tmp 59) = (.bool true) := (hf 59).1 rfl
      have h60 : ρ (.tmp 60) = (.bool true) := (hf 60).1 rfl
      exact Exec.kpickT rfl rfl h59 h60
    · -- 20: slot 6 := Op.assign t61
      refine StepOK.plain (kn_stable _) rfl fun ρ w hρ hw hf => ?_
      have h61 : ρ (.tmp 61) = (.bool true) := (hf 61).1 rfl
      exact Exec.kassign rfl rfl h61
  intro ν'' w3 hν hx1
  have h0 : ν'' 6 = .bool true := hν 20 6 rfl
  simp only [Exit.then, ended, List.foldl_cons, List.foldl_nil, List.setIfInBounds_toArray, List.set_cons_succ, List.set_cons_zero, h0]
  have HF := Lib.hid (HW.out.trans hx1); clear hν hx1 h0
  go_wp2
  go_ret
  exact ⟨rfl, HF.out⟩
end Go.Proofs.Ytpbedbbggnhkbaa
