/-
  FrameParses: the walk.
-/
import Derived.Test.YtcdhalgpnhdbnaaProg
import Derived.Test.YtcdhalgpnhdbnaaLib
import Derived.Test.YtcdhalgpnhdbnaaLibC
import Derived.Test.YtcdhalgpnhdbnaaInfo
import Derived.Test.YtcdhalgpnhdbnaaLibD
import Derived.Test.YtcdhalgpnhdbnaaEqual
import Derived.Test.YtcdhalgpnhdbnaaCrcD
import Derived.Test.YtcdhalgpnhdbnaaFrB
import Derived.Test.YtcdhalgpnhdbnaaFrC
import Derived.Test.YtcdhalgpnhdbnaaFrD
import Derived.Test.YtcdhalgpnhdbnaaFrE
import Derived.Test.YtcdhalgpnhdbnaaFrF
import Derived.Test.YtcdhalgpnhdbnaaRefP
import Derived.Test.YtcdhalgpnhdbnaaRefQ
import Derived.Test.YtcdhalgpnhdbnaaAwake4
import Derived.WalkKit
import Derived.Lib.Hide
import Derived.Outline
import Derived.Laws.BitsAllLaws
namespace Go.Proofs.Ytcdhalgpnhdbnaa
open Go.RowKit Go.Lac

def frParsesT (x y sz er : Nat) (a1 : Option Addr) (n1 c1 : Nat) (a2 : Option Addr) (n2 c2 : Nat) : Tmp → Kn
  | 2 => .is (.bool true)
  | 24 => .is (.agg #[.int .u8 (x : Nat), .int .u8 (y : Nat), .slice a1 n1 c1])
  | 25 => .is (.agg #[.int .u8 (x : Nat), .int .u8 (y : Nat), .slice a1 n1 c1])
  | 26 => .is (.agg #[.int .u8 (x : Nat), .int .u8 (y : Nat), .slice a2 n2 c2])
  | 27 => .is (.bool true)
  | 28 => .is (.bool true)
  | 29 => .is (.int .i64 (sz : Nat))
  | 30 => .is (.int .i64 (sz : Nat))
  | 31 => .is (.bool true)
  | 32 => .is (.bool true)
  | 33 => .is (.bool true)
  | 34 => .is (.int .i64 (er : Nat))
  | 35 => .is (.int .i64 (er : Nat))
  | 36 => .is (.bool true)
  | 37 => .is (.bool true)
  | 38 => .is (.bool true)
  | 39 => .is (.bool true)
  | 40 => .is (.bool true)
  | _ => .any

set_option maxRecDepth 20000 in
set_option maxHeartbeats 2000000 in
theorem frameParses_walk (v : Value) (b : List UInt8) (w : World) (h : Rd w v b) :
    Calls Try.prog 8 #[v] w fun e w' => e = .returned (.bool true) ∧ Ext w w' := by
  obtain ⟨ao, cap, rfl⟩ := h.shape
  have hlen : b.length ≤ maxLen := by obtain ⟨_, _, _, g1, g2, _⟩ := h; omega
  unfold maxLen at hlen
  by_cases h5 : 5000 < b.length
  · clear h
    go_enter Try.func8, Try.ntmps8
    go_wp2
    go_ret
    exact ⟨rfl, Ch.refl _ _⟩
  have hp := fun w h => parse_any (.slice ao b.length cap) b w h (by omega)
  have hr := fun w h => refParse_any (.slice ao b.length cap) b w h (by omega)
  have HP := Lib.hid hp; have HR := Lib.hid hr; have H := Lib.hid h; clear hp hr h
  go_enter Try.func8, Try.ntmps8
  go_wp2_with (go_at_call 22; refine (HP.out _ H.out).mono ?_)
  rintro e w1 ⟨t1, rfl, hx, hr1⟩
  obtain ⟨a1, c1, rfl⟩ := hr1.shape
  have HX1 := Lib.hid hx; have HR1 := Lib.hid hr1; clear hx hr1
  go_wp2_with (go_at_call 23; refine (HR.out _ (H.out.ext (HX1.out.alloc _))).mono ?_)
  rintro e w2 ⟨t2, rfl, hx, hr2⟩
  obtain ⟨a2, c2, rfl⟩ := hr2.shape
  have HX2 := Lib.hid hx; have HR2 := Lib.hid hr2; clear hx hr2
  go_wp2
  have hg1 : (w2.alloc (.cells #[.int .u8 (frV b : Nat), .int .u8 (frK b : Nat), .slice a2 (frP b).length c2] 44)).heap[w1.heap.size]? = some (.cells #[.int .u8 (frV b : Nat), .int .u8 (frK b : Nat), .slice a1 (frP b).length c1] 40 (0, 0)) := by
    have hs := HX2.out.size
    simp at hs
    rw [heap_alloc_old _ _ (by omega), HX2.out.block _ (by simp) (fun f => f)]
    exact heap_alloc_new w1 _
  have hg2 : (w2.alloc (.cells #[.int .u8 (frV b : Nat), .int .u8 (frK b : Nat), .slice a2 (frP b).length c2] 44)).heap[w2.heap.size]? = some (.cells #[.int .u8 (frV b : Nat), .int .u8 (frK b : Nat), .slice a2 (frP b).length c2] 44 (0, 0)) := heap_alloc_new w2 _
  have hx3 : Ext w2 (w2.alloc (.cells #[.int .u8 (frV b : Nat), .int .u8 (frK b : Nat), .slice a2 (frP b).length c2] 44)) := (Ch.refl _ _).alloc _
  have HX : Hid (Ext w (w2.alloc (.cells #[.int .u8 (frV b : Nat), .int .u8 (frK b : Nat), .slice a2 (frP b).length c2] 44))) := Lib.hid ((HX1.out.alloc _).trans (HX2.out.trans hx3))
  have HR1 := Lib.hid (HR1.out.ext (((Ch.refl _ _).alloc _).trans (HX2.out.trans hx3)))
  have HR2 := Lib.hid (HR2.out.ext hx3)
  have HG1 := Lib.hid hg1; have HG2 := Lib.hid hg2
  clear hg1 hg2 hx3 HX1 HX2 HP HR H
  generalize w2.alloc (.cells #[.int .u8 (frV b : Nat), .int .u8 (frK b : Nat), .slice a2 (frP b).length c2] 44) = w3 at *
  generalize w1.heap.size = g1 at *
  generalize w2.heap.size = g2 at *
  generalize frV b = x at *
  generalize frK b = y at *
  generalize frP b = p at *
  generalize frSize b = sz at *
  generalize frErr b = er at *
  refine wp_region_ext (frParsesT x y sz er a1 p.length c1 a2 p.length c2) mixedEq (by rfl) (by rfl) ?all ?fin
  case all =>
    refine ⟨?_, ?_, ?_, ?_, ?_, ?_, ?_, ?_, ?_, ?_, ?_, ?_, ?_, ?_, ?_, ?_, ?_, ?_, trivial⟩
    · -- 0: slot 24 := Op.load 40 t3
      refine StepOK.plain (kn_stable _) rfl fun ρ w hρ hw hf => ?_
      have h3 : ρ (.tmp 3) = (.pointer (some ⟨g1, 0, none⟩)) := (hf 3).2 rfl rfl
      have hg := hw.block g1 (Array.getElem?_eq_some_iff.1 HG1.out).1 (fun f => f)
      rw [HG1.out] at hg
      exact Exec.kloadrow rfl rfl h3 hg Try.underlying40 rfl info40 rfl
    · -- 1: slot 25 := Op.call { value (Operand.func 25), args := #[t24], argTypes := #[40] }
      refine StepOK.plain (kn_stable _) rfl fun ρ w hρ hw hf => ?_
      have h24 : ρ (.tmp 24) = (.agg #[.int .u8 (x : Nat), .int .u8 (y : Nat), .slice a1 p.length c1]) := (hf 24).1 rfl
      refine Exec.kcall #[.agg #[.int .u8 (x : Nat), .int .u8 (y : Nat), .slice a1 p.length c1]] hρ rfl rfl (by simp [hρ.const, h24]) Try.func25 (by rfl) rfl ?_
      refine (back_any _ _ _ _ _ w).mono ?_
      rintro e w' ⟨rfl, hx⟩
      exact ⟨_, rfl, rfl, hx⟩
    · -- 2: slot 26 := Op.load 44 t6
      refine StepOK.plain (kn_stable _) rfl fun ρ w hρ hw hf => ?_
      have h6 : ρ (.tmp 6) = (.pointer (some ⟨g2, 0, none⟩)) := (hf 6).2 rfl rfl
      have hg := hw.block g2 (Array.getElem?_eq_some_iff.1 HG2.out).1 (fun f => f)
      rw [HG2.out] at hg
      exact Exec.kloadrow rfl rfl h6 hg Try.underlying44 rfl info44 rfl
    · -- 3: slot 27 := Op.call { value (Operand.func 24), args := #[t25, t26], argTypes := #[
      refine StepOK.plain (kn_stable _) rfl fun ρ w hρ hw hf => ?_
      have h25 : ρ (.tmp 25) = (.agg #[.int .u8 (x : Nat), .int .u8 (y : Nat), .slice a1 p.length c1]) := (hf 25).1 rfl
      have h26 : ρ (.tmp 26) = (.agg #[.int .u8 (x : Nat), .int .u8 (y : Nat), .slice a2 p.length c2]) := (hf 26).1 rfl
      refine Exec.kcall #[.agg #[.int .u8 (x : Nat), .int .u8 (y : Nat), .slice a1 p.length c1], .agg #[.int .u8 (x : Nat), .int .u8 (y : Nat), .slice a2 p.length c2]] hρ rfl rfl (by simp [hρ.const, h25, h26]) Try.func24 (by rfl) rfl ?_
      refine (same4_any _ _ _ _ _ _ _ _ w (HR1.out.ext hw) (HR2.out.ext hw)).mono ?_
      rintro e w' ⟨rfl, hx⟩
      exact ⟨_, rfl, by simp; exact rfl, hx⟩
    · -- 4: slot 28 := Op.move t27
      refine StepOK.plain (kn_stable _) rfl fun ρ w hρ hw hf => ?_
      have h27 : ρ (.tmp 27) = (.bool true) := (hf 27).1 rfl
      exact Exec.kmove rfl rfl h27
    · -- 5: slot 29 := Op.move t4
      refine StepOK.guarded (kn_stable _) 4 true 28 rfl rfl (fun ρ w _ _ hf => (hf 28).1 rfl) fun ρ w hρ hw hf => ?_
      have h4 : ρ (.tmp 4) = (.int .i64 (sz : Nat)) := (hf 4).2 rfl rfl
      exact Exec.kmove rfl rfl h4
    · -- 6: slot 30 := Op.move t7
      refine StepOK.guarded (kn_stable _) 4 true 28 rfl rfl (fun ρ w _ _ hf => (hf 28).1 rfl) fun ρ w hρ hw hf => ?_
      have h7 : ρ (.tmp 7) = (.int .i64 (sz : Nat)) := (hf 7).2 rfl rfl
      exact Exec.kmove rfl rfl h7
    · -- 7: slot 31 := Op.binOp BinOp.eql 3 t29 t30 3
      refine StepOK.guarded (kn_stable _) 4 true 28 rfl rfl (fun ρ w _ _ hf => (hf 28).1 rfl) fun ρ w hρ hw hf => ?_
      have h29 : ρ (.tmp 29) = (.int .i64 (sz : Nat)) := (hf 29).1 rfl
      have h30 : ρ (.tmp 30) = (.int .i64 (sz : Nat)) := (hf 30).1 rfl
      exact Exec.same (v := .bool true) rfl (by simp [go_sem, hρ.const, h29, h30]) rfl
    · -- 8: slot 32 := Op.pick t28 t31 (const (Value.bool false))
      refine StepOK.plain (kn_stable _) rfl fun ρ w hρ hw hf => ?_
      have h28 : ρ (.tmp 28) = (.bool true) := (hf 28).1 rfl
      have h31 : ρ (.tmp 31) = (.bool true) := (hf 31).1 rfl
      exact Exec.kpickT rfl rfl h28 h31
    · -- 9: slot 33 := Op.move t32
      refine StepOK.plain (kn_stable _) rfl fun ρ w hρ hw hf => ?_
      have h32 : ρ (.tmp 32) = (.bool true) := (hf 32).1 rfl
      exact Exec.kmove rfl rfl h32
    · -- 10: slot 34 := Op.move t5
      refine StepOK.guarded (kn_stable _) 9 true 33 rfl rfl (fun ρ w _ _ hf => (hf 33).1 rfl) fun ρ w hρ hw hf => ?_
      have h5 : ρ (.tmp 5) = (.int .i64 (er : Nat)) := (hf 5).2 rfl rfl
      exact Exec.kmove rfl rfl h5
    · -- 11: slot 35 := Op.move t8
      refine StepOK.guarded (kn_stable _) 9 true 33 rfl rfl (fun ρ w _ _ hf => (hf 33).1 rfl) fun ρ w hρ hw hf => ?_
      have h8 : ρ (.tmp 8) = (.int .i64 (er : Nat)) := (hf 8).2 rfl rfl
      exact Exec.kmove rfl rfl h8
    · -- 12: slot 36 := Op.binOp BinOp.eql 3 t34 t35 3
      refine StepOK.guarded (kn_stable _) 9 true 33 rfl rfl (fun ρ w _ _ hf => (hf 33).1 rfl) fun ρ w hρ hw hf => ?_
      have h34 : ρ (.tmp 34) = (.int .i64 (er : Nat)) := (hf 34).1 rfl
      have h35 : ρ (.tmp 35) = (.int .i64 (er : Nat)) := (hf 35).1 rfl
      exact Exec.same (v := .bool true) rfl (by simp [go_sem, hρ.const, h34, h35]) rfl
    · -- 13: slot 37 := Op.pick t33 t36 (const (Value.bool false))
      refine StepOK.plain (kn_stable _) rfl fun ρ w hρ hw hf => ?_
      have h33 : ρ (.tmp 33) = (.bool true) := (hf 33).1 rfl
      have h36 : ρ (.tmp 36) = (.bool true) := (hf 36).1 rfl
      exact Exec.kpickT rfl rfl h33 h36
    · -- 14: slot 38 := Op.move t37
      refine StepOK.plain (kn_stable _) rfl fun ρ w hρ hw hf => ?_
      have h37 : ρ (.tmp 37) = (.bool true) := (hf 37).1 rfl
      exact Exec.kmove rfl rfl h37
    · -- 15: slot 39 := Op.call { value (Operand.func 26), args := #[], argTypes := #[] }
      refine StepOK.guarded (kn_stable _) 14 true 38 rfl rfl (fun ρ w _ _ hf => (hf 38).1 rfl) fun ρ w hρ hw hf => ?_
      refine Exec.kcall #[] hρ rfl rfl (by simp) Try.func26 (by rfl) rfl ?_
      refine (awake4_any w).mono ?_
      rintro e w' ⟨rfl, hx⟩
      exact ⟨_, rfl, rfl, hx⟩
    · -- 16: slot 40 := Op.pick t38 t39 (const (Value.bool false))
      refine StepOK.plain (kn_stable _) rfl fun ρ w hρ hw hf => ?_
      have h38 : ρ (.tmp 38) = (.bool true) := (hf 38).1 rfl
      have h39 : ρ (.tmp 39) = (.bool true) := (hf 39).1 rfl
      exact Exec.kpickT rfl rfl h38 h39
    · -- 17: slot 2 := Op.assign t40
      refine StepOK.plain (kn_stable _) rfl fun ρ w hρ hw hf => ?_
      have h40 : ρ (.tmp 40) = (.bool true) := (hf 40).1 rfl
      exact Exec.kassign rfl rfl h40

  case fin =>
    intro ν w4 hfin hext
    have h0 : ν 2 = .bool true := hfin 17 2 rfl
    simp only [Exit.then, ended, List.foldl_cons, List.foldl_nil, List.setIfInBounds_toArray, List.set_cons_succ, List.set_cons_zero, h0]
    have HX4 := Lib.hid (HX.out.trans hext); clear hext hfin h0
    go_wp2
    go_ret
    exact ⟨rfl, HX4.out⟩

end Go.Proofs.Ytcdhalgpnhdbnaa
