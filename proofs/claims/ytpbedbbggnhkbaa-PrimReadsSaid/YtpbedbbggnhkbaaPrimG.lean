/-
  The examples of the chapter hold (lacunalaw01.awake).
-/
import Derived.Test.YtpbedbbggnhkbaaProg
import Derived.Test.YtpbedbbggnhkbaaLib
import Derived.Test.YtpbedbbggnhkbaaPrimA
import Derived.Test.YtpbedbbggnhkbaaPrimB
import Derived.Test.YtpbedbbggnhkbaaPrimC
import Derived.Test.YtpbedbbggnhkbaaPrimD
import Derived.Test.YtpbedbbggnhkbaaPrimE
import Derived.WalkKit
import Derived.Lib.Hide
namespace Go.Proofs.Ytpbedbbggnhkbaa
open Go.RowKit Go.Lac

theorem mixed : Try.prog.follows .mixedOrders = true := by kernel_rfl

def awakeT (r : Nat) : Tmp → Kn
  | 9 => .is (.int .u64 0)
  | 10 => .is (.bool true)
  | 11 => .is (.bool true)
  | 12 => .is (.pointer (some ⟨r, 0, none⟩))
  | 13 => .is (.int .i64 4)
  | 14 => .is (.bool true)
  | 15 => .is (.bool true)
  | 16 => .is (.bool true)
  | 17 => .rd (sev 300)
  | 18 => .is (strV [172, 2])
  | 19 => .rd [172, 2]
  | 20 => .is (strV [172, 2])
  | 21 => .is (.bool true)
  | 22 => .is (.bool true)
  | 23 => .is (.bool true)
  | 24 => .rd (sev 1)
  | 25 => .is (strV [1])
  | 26 => .is (.bool true)
  | 27 => .is (.bool true)
  | 0 => .is (.bool true)
  | _ => .any

theorem sev300 : sev 300 = [172, 2] := by rw [sev_big (by decide), sev_small (by decide)]; rfl
theorem sev1 : sev 1 = [1] := by rw [sev_small (by decide)]; rfl

set_option maxRecDepth 20000 in
set_option maxHeartbeats 1000000 in
theorem awake_any (w : World) : Calls Try.prog 19 #[] w fun e w' => e = .returned (.bool true) ∧ Ext w w' := by
  go_enter Try.func19, Try.ntmps19
  go_wp2_with fail
  refine (read_any _ [10] _ (rd_new w [10] 5 (by decide)) (by decide)).mono ?_
  rintro e w1 ⟨r, rfl, h1, h2, h3⟩
  have H1 := Lib.hid h1; have H2 := Lib.hid h2; clear h1 h2
  have hu := uint_any r ([10], 0) 9 w1 H2.out
  rw [show uintR 9 ([10], 0) = (0, ([], 4)) from rfl] at hu
  have HU := Lib.hid hu; clear hu
  unfold RPtr at *
  go_wp2_with (go_at_call 21; refine HU.out.mono ?_)
  rintro e w2 ⟨rfl, k1, k2⟩
  have hx : Ext w w2 := (((Ch.refl _ w).alloc _).trans H1.out).transOnly k1 (by simp at h3; omega)
  have K2 := Lib.hid k2; have HX := Lib.hid hx; clear k1 k2 hx h3
  go_wp2
  refine wp_region_ext (awakeT r) mixed (by rfl) (by rfl) ?_ ?_
  · refine ⟨?_, ?_, ?_, ?_, ?_, ?_, ?_, ?_, ?_, ?_, ?_, ?_, ?_, ?_, ?_, ?_, ?_, ?_, ?_, ?_, trivial⟩
    · -- 0: slot 9 := Op.move t2
      refine StepOK.plain (kn_stable _) rfl fun ρ w hρ hw hf => ?_
      have h2 : ρ (.tmp 2) = .int .u64 0 := (hf 2).2 rfl rfl
      exact Exec.kmove rfl rfl h2
    · -- 1: slot 10 := Op.binOp BinOp.eql 23 t9 (const (0:u64)) 23
      refine StepOK.plain (kn_stable _) rfl fun ρ w hρ hw hf => ?_
      have h9 : ρ (.tmp 9) = (.int .u64 0) := (hf 9).1 rfl
      exact Exec.same (v := (.bool true)) rfl (by simp [go_sem, hρ.const, h9]) rfl
    · -- 2: slot 11 := Op.move t10
      refine StepOK.plain (kn_stable _) rfl fun ρ w hρ hw hf => ?_
      have h10 : ρ (.tmp 10) = (.bool true) := (hf 10).1 rfl
      exact Exec.kmove rfl rfl h10
    · -- 3: slot 12 := Op.move t1
      refine StepOK.guarded (kn_stable _) 2 true 11 rfl rfl (fun ρ w _ _ hf => (hf 11).1 rfl) fun ρ w hρ hw hf => ?_
      have h1 : ρ (.tmp 1) = .pointer (some ⟨r, 0, none⟩) := (hf 1).2 rfl rfl
      exact Exec.kmove rfl rfl h1
    · -- 4: slot 13 := Op.call { value (Operand.func 35), args := #[t12], argTypes := #[33] }
      refine StepOK.guarded (kn_stable _) 2 true 11 rfl rfl (fun ρ w _ _ hf => (hf 11).1 rfl) fun ρ w hρ hw hf => ?_
      have h12 : ρ (.tmp 12) = (.pointer (some ⟨r, 0, none⟩)) := (hf 12).1 rfl
      refine Exec.kcall #[RPtr r] hρ rfl rfl (by simp [h12, RPtr]) Try.func35 (by rfl) rfl ?_
      refine (err_any r ([], 4) w (K2.out.ext hw)).mono ?_
      rintro e w' ⟨rfl, rfl⟩
      exact ⟨_, rfl, rfl, Ch.refl _ _⟩
    · -- 5: slot 14 := Op.binOp BinOp.eql 46 t13 (const (4:i64)) 46
      refine StepOK.guarded (kn_stable _) 2 true 11 rfl rfl (fun ρ w _ _ hf => (hf 11).1 rfl) fun ρ w hρ hw hf => ?_
      have h13 : ρ (.tmp 13) = (.int .i64 4) := (hf 13).1 rfl
      exact Exec.same (v := (.bool true)) rfl (by simp [go_sem, hρ.const, h13]) rfl
    · -- 6: slot 15 := Op.pick t11 t14 (const (Value.bool false))
      refine StepOK.plain (kn_stable _) rfl fun ρ w hρ hw hf => ?_
      have h11 : ρ (.tmp 11) = (.bool true) := (hf 11).1 rfl
      have h14 : ρ (.tmp 14) = (.bool true) := (hf 14).1 rfl
      exact Exec.kpickT rfl rfl h11 h14
    · -- 7: slot 16 := Op.move t15
      refine StepOK.plain (kn_stable _) rfl fun ρ w hρ hw hf => ?_
      have h15 : ρ (.tmp 15) = (.bool true) := (hf 15).1 rfl
      exact Exec.kmove rfl rfl h15
    · -- 8: slot 17 := Op.call { value (Operand.func 13), args := #[const (Value.slice none 0
      refine StepOK.guarded (kn_stable _) 7 true 16 rfl rfl (fun ρ w _ _ hf => (hf 16).1 rfl) fun ρ w hρ hw hf => ?_
      refine Exec.kcall #[.slice none 0 0, .int .u64 300] hρ rfl rfl (by simp [hρ.const]) Try.func13 (by rfl) rfl ?_
      refine (putUint_any _ [] 300 w (rd_nil w) (by decide) (by decide)).mono ?_
      rintro e w' ⟨s, rfl, g1, g2⟩
      exact ⟨_, rfl, Rd.ofOwns g2, g1⟩
    · -- 9: slot 18 := Op.convert 22 9 t17
      refine StepOK.guarded (kn_stable _) 7 true 16 rfl rfl (fun ρ w _ _ hf => (hf 16).1 rfl) fun ρ w hρ hw hf => ?_
      have h17 : (Kn.rd (sev 300)).holds (ρ (.tmp 17)) w := (hf 17).1 rfl
      exact Exec.kstr rfl rfl Try.underlying22 Try.underlying5 Try.underlying9 h17 (by rw [sev300]; rfl)
    · -- 10: slot 19 := Op.buildSlice 22 2 #[(0, const (172:u8)), (1, const (2:u8))]
      refine StepOK.guarded (kn_stable _) 7 true 16 rfl rfl (fun ρ w _ _ hf => (hf 16).1 rfl) fun ρ w hρ hw hf => ?_
      refine Exec.value (v := .slice (some ⟨w.heap.size, 0, none⟩) 2 2) (w' := w.alloc (.cells (cellsB [172, 2]).toArray 5)) (by simp [go_sem, hρ.const, cellsB, cellB]) ⟨fun d h => by cases h; exact rd_new w [172, 2] _ (by decide), (Ch.refl _ _).alloc _⟩
    · -- 11: slot 20 := Op.convert 22 9 t19
      refine StepOK.guarded (kn_stable _) 7 true 16 rfl rfl (fun ρ w _ _ hf => (hf 16).1 rfl) fun ρ w hρ hw hf => ?_
      have h19 : (Kn.rd [172, 2]).holds (ρ (.tmp 19)) w := (hf 19).1 rfl
      exact Exec.kstr rfl rfl Try.underlying22 Try.underlying5 Try.underlying9 h19 rfl
    · -- 12: slot 21 := Op.binOp BinOp.eql 9 t18 t20 9
      refine StepOK.guarded (kn_stable _) 7 true 16 rfl rfl (fun ρ w _ _ hf => (hf 16).1 rfl) fun ρ w hρ hw hf => ?_
      have h18 : ρ (.tmp 18) = (strV [172, 2]) := (hf 18).1 rfl
      have h20 : ρ (.tmp 20) = (strV [172, 2]) := (hf 20).1 rfl
      exact Exec.kstreq rfl rfl Try.underlying9 h18 h20 rfl
    · -- 13: slot 22 := Op.pick t16 t21 (const (Value.bool false))
      refine StepOK.plain (kn_stable _) rfl fun ρ w hρ hw hf => ?_
      have h16 : ρ (.tmp 16) = (.bool true) := (hf 16).1 rfl
      have h21 : ρ (.tmp 21) = (.bool true) := (hf 21).1 rfl
      exact Exec.kpickT rfl rfl h16 h21
    · -- 14: slot 23 := Op.move t22
      refine StepOK.plain (kn_stable _) rfl fun ρ w hρ hw hf => ?_
      have h22 : ρ (.tmp 22) = (.bool true) := (hf 22).1 rfl
      exact Exec.kmove rfl rfl h22
    · -- 15: slot 24 := Op.call { value (Operand.func 15), args := #[const (Value.slice none 0
      refine StepOK.guarded (kn_stable _) 14 true 23 rfl rfl (fun ρ w _ _ hf => (hf 23).1 rfl) fun ρ w hρ hw hf => ?_
      refine Exec.kcall #[.slice none 0 0, .int .i64 (-1)] hρ rfl rfl (by simp [hρ.const]) Try.func15 (by rfl) rfl ?_
      refine (putInt_any _ [] (-1) w (rd_nil w) (by decide) (by decide) (by decide)).mono ?_
      rintro e w' ⟨s, rfl, g1, g2⟩
      exact ⟨_, rfl, Rd.ofOwns g2, g1⟩
    · -- 16: slot 25 := Op.convert 22 9 t24
      refine StepOK.guarded (kn_stable _) 14 true 23 rfl rfl (fun ρ w _ _ hf => (hf 23).1 rfl) fun ρ w hρ hw hf => ?_
      have h24 : (Kn.rd (sev 1)).holds (ρ (.tmp 24)) w := (hf 24).1 rfl
      exact Exec.kstr rfl rfl Try.underlying22 Try.underlying5 Try.underlying9 h24 (by rw [sev1]; rfl)
    · -- 17: slot 26 := Op.binOp BinOp.eql 9 t25 (const (Value.string { data := #[1] })) 9
      refine StepOK.guarded (kn_stable _) 14 true 23 rfl rfl (fun ρ w _ _ hf => (hf 23).1 rfl) fun ρ w hρ hw hf => ?_
      have h25 : ρ (.tmp 25) = (strV [1]) := (hf 25).1 rfl
      exact Exec.kstreq (b := [1]) rfl rfl Try.underlying9 h25 (hρ.const _) rfl
    · -- 18: slot 27 := Op.pick t23 t26 (const (Value.bool false))
      refine StepOK.plain (kn_stable _) rfl fun ρ w hρ hw hf => ?_
      have h23 : ρ (.tmp 23) = (.bool true) := (hf 23).1 rfl
      have h26 : ρ (.tmp 26) = (.bool true) := (hf 26).1 rfl
      exact Exec.kpickT rfl rfl h23 h26
    · -- 19: slot 0 := Op.assign t27
      refine StepOK.plain (kn_stable _) rfl fun ρ w hρ hw hf => ?_
      have h27 : ρ (.tmp 27) = (.bool true) := (hf 27).1 rfl
      exact Exec.kassign rfl rfl h27
  · intro ν w' hν hx'
    have h0 : ν 0 = .bool true := hν 19 0 rfl
    simp only [Exit.then, ended, List.foldl_cons, List.foldl_nil, List.setIfInBounds_toArray, List.set_cons_succ, List.set_cons_zero, h0]
    have HF := Lib.hid (HX.out.trans hx'); clear hν hx' h0
    go_wp2
    go_ret
    exact ⟨rfl, HF.out⟩
end Go.Proofs.Ytpbedbbggnhkbaa
