/-
  The chapter's example (awake) of the frames: the walk.
-/
import Derived.Test.YtcdhalgpnhdbnaaProg
import Derived.Test.YtcdhalgpnhdbnaaLib
import Derived.Test.YtcdhalgpnhdbnaaLibC
import Derived.Test.YtcdhalgpnhdbnaaInfo
import Derived.Test.YtcdhalgpnhdbnaaLibD
import Derived.Test.YtcdhalgpnhdbnaaEqual
import Derived.Test.YtcdhalgpnhdbnaaCrcF
import Derived.Test.YtcdhalgpnhdbnaaFrB
import Derived.WalkKit
import Derived.Lib.Hide
import Derived.Outline
import Derived.Laws.BitsAllLaws
namespace Go.Proofs.Ytcdhalgpnhdbnaa
open Go.RowKit Go.Lac

theorem seven (w : World) : (Instr.buildSlice 23 7 #[(0, .int .u8 76), (1, .int .u8 103), (2, .int .u8 1), (3, .int .u8 8), (4, .int .u8 1), (5, .int .u8 0), (6, .int .u8 7)]).run Try.prog w = .ok (.slice (some ⟨w.heap.size, 0, none⟩) 7 7) (w.alloc (.cells (cellsB [76, 103, 1, 8, 1, 0, 7]).toArray 5)) := by kernel_rfl
def awake4T (sg : List UInt8) : Tmp → Kn
  | 0 => .is (.bool true)
  | 9 => .is (.int .i64 0)
  | 10 => .is (.bool true)
  | 11 => .is (.bool true)
  | 12 => .rd sg
  | 13 => .is (strV sg)
  | 14 => .rd [76, 103, 1, 8, 1, 0, 7]
  | 15 => .rd sg
  | 16 => .is (strV sg)
  | 17 => .is (.bool true)
  | 18 => .is (.bool true)
  | _ => .any

set_option maxRecDepth 20000 in
set_option maxHeartbeats 2000000 in
theorem awake4_any (w : World) : Calls Try.prog 26 #[] w fun e w' => e = .returned (.bool true) ∧ Ext w w' := by
  have hm := fun w s h => make_any 1 8 s [7] w (by decide) (by decide) h (by decide)
  have h0 : frRight 1 8 [(7 : UInt8)].length = 0 := by decide
  obtain ⟨sg, hsg⟩ : ∃ sg, sg = crcSign [76, 103, 1, 8, 1, 0, 7] := ⟨_, rfl⟩
  have hb : frBytes 1 8 [7] = sg := by rw [hsg]; unfold frBytes; rw [if_pos h0]; rfl
  have HSG := Lib.hid hsg.symm; have HB := Lib.hid hb; have HM := Lib.hid hm; have H0 := Lib.hid h0
  clear hm h0 hsg hb
  have hr := rd_new w [7] 5 (by decide)
  rw [show (cellsB [7]).toArray = #[.int .u8 7] from rfl] at hr
  have hc := HM.out _ _ hr
  have HC := Lib.hid hc; clear hr hc
  go_enter Try.func26, Try.ntmps26
  go_wp2_with (go_at_call 28; refine HC.out.mono ?_)
  rintro e w1 ⟨t, rfl, hx, hr⟩
  rw [HB.out] at hr
  rw [H0.out]
  obtain ⟨a2, c2, rfl⟩ := hr.shape
  generalize sg.length = n2 at *
  have HD := Lib.hid hr; have HX := Lib.hid (((Ch.refl _ w).alloc _).trans hx); clear hr hx HC HM
  go_wp2
  refine wp_region_ext (awake4T sg) mixedEq (by rfl) (by rfl) ?all ?fin
  case all =>
    refine ⟨?_, ?_, ?_, ?_, ?_, ?_, ?_, ?_, ?_, ?_, ?_, trivial⟩
    · -- 0: slot 9 := Op.move t2
      refine StepOK.plain (kn_stable _) rfl fun ρ w hρ hw hf => ?_
      have h2 : ρ (.tmp 2) = (.int .i64 0) := (hf 2).2 rfl rfl
      exact Exec.kmove rfl rfl h2
    · -- 1: slot 10 := Op.binOp BinOp.eql 41 t9 (const (0:i64)) 41
      refine StepOK.plain (kn_stable _) rfl fun ρ w hρ hw hf => ?_
      have h9 : ρ (.tmp 9) = (.int .i64 0) := (hf 9).1 rfl
      exact Exec.same (v := .bool true) rfl (by simp [go_sem, hρ.const, h9]) rfl
    · -- 2: slot 11 := Op.move t10
      refine StepOK.plain (kn_stable _) rfl fun ρ w hρ hw hf => ?_
      have h10 : ρ (.tmp 10) = (.bool true) := (hf 10).1 rfl
      exact Exec.kmove rfl rfl h10
    · -- 3: slot 12 := Op.move t1
      refine StepOK.guarded (kn_stable _) 2 true 11 rfl rfl (fun ρ w _ _ hf => (hf 11).1 rfl) fun ρ w hρ hw hf => ?_
      have h1 : ρ (.tmp 1) = (.slice a2 n2 c2) := (hf 1).2 rfl rfl
      exact Exec.kmove rfl rfl (by rw [h1]; exact HD.out.ext hw)
    · -- 4: slot 13 := Op.convert 23 9 t12
      refine StepOK.guarded (kn_stable _) 2 true 11 rfl rfl (fun ρ w _ _ hf => (hf 11).1 rfl) fun ρ w hρ hw hf => ?_
      have h12 : Rd w (ρ (.tmp 12)) (sg) := (hf 12).1 rfl
      exact Exec.kstr rfl rfl Try.underlying23 Try.underlying5 Try.underlying9 h12 rfl
    · -- 5: slot 14 := Op.buildSlice 23 7 #[(0, const (76:u8)), (1, const (103:u8)), (2, cons
      refine StepOK.guarded (kn_stable _) 2 true 11 rfl rfl (fun ρ w _ _ hf => (hf 11).1 rfl) fun ρ w hρ hw hf => ?_
      refine Exec.kalloc (v := .slice (some ⟨w.heap.size, 0, none⟩) 7 7) (ob := .cells (cellsB [76, 103, 1, 8, 1, 0, 7]).toArray 5) rfl ?_ (rd_new w [76, 103, 1, 8, 1, 0, 7] 5 (by decide))
      unfold execOp
      simp only [List.map_toArray, List.map_cons, List.map_nil, hρ.const, Sem.run_bind, seven w, Result.andThen_ok, Sem.run_pure]
    · -- 6: slot 15 := Op.call { value (Operand.func 18), args := #[t14], argTypes := #[23] }
      refine StepOK.guarded (kn_stable _) 2 true 11 rfl rfl (fun ρ w _ _ hf => (hf 11).1 rfl) fun ρ w hρ hw hf => ?_
      have h14 : Rd w (ρ (.tmp 14)) ([76, 103, 1, 8, 1, 0, 7]) := (hf 14).1 rfl
      refine Exec.kcall #[ρ (.tmp 14)] hρ rfl rfl (by simp) Try.func18 (by rfl) rfl ?_
      refine (refSign_any _ _ w h14 (by decide)).mono ?_
      intro e w' hm
      obtain ⟨q, rfl, hx, hr⟩ := hm.rd
      rw [HSG.out] at hr
      exact ⟨_, rfl, hr, hx⟩
    · -- 7: slot 16 := Op.convert 23 9 t15
      refine StepOK.guarded (kn_stable _) 2 true 11 rfl rfl (fun ρ w _ _ hf => (hf 11).1 rfl) fun ρ w hρ hw hf => ?_
      have h15 : Rd w (ρ (.tmp 15)) (sg) := (hf 15).1 rfl
      exact Exec.kstr rfl rfl Try.underlying23 Try.underlying5 Try.underlying9 h15 rfl
    · -- 8: slot 17 := Op.binOp BinOp.eql 9 t13 t16 9
      refine StepOK.guarded (kn_stable _) 2 true 11 rfl rfl (fun ρ w _ _ hf => (hf 11).1 rfl) fun ρ w hρ hw hf => ?_
      have h13 : ρ (.tmp 13) = (strV sg) := (hf 13).1 rfl
      have h16 : ρ (.tmp 16) = (strV sg) := (hf 16).1 rfl
      exact Exec.kstreq rfl rfl Try.underlying9 h13 h16 (by simp; exact rfl)
    · -- 9: slot 18 := Op.pick t11 t17 (const (Value.bool false))
      refine StepOK.plain (kn_stable _) rfl fun ρ w hρ hw hf => ?_
      have h11 : ρ (.tmp 11) = (.bool true) := (hf 11).1 rfl
      have h17 : ρ (.tmp 17) = (.bool true) := (hf 17).1 rfl
      exact Exec.kpickT rfl rfl h11 h17
    · -- 10: slot 0 := Op.assign t18
      refine StepOK.plain (kn_stable _) rfl fun ρ w hρ hw hf => ?_
      have h18 : ρ (.tmp 18) = (.bool true) := (hf 18).1 rfl
      exact Exec.kassign rfl rfl h18

  case fin =>
    intro ν w2 hfin hext
    have h0 : ν 0 = .bool true := hfin 10 0 rfl
    simp only [Exit.then, ended, List.foldl_cons, List.foldl_nil, List.setIfInBounds_toArray, List.set_cons_succ, List.set_cons_zero, h0]
    have HX2 := Lib.hid (HX.out.trans hext); clear hext hfin h0
    go_wp2
    go_ret
    exact ⟨rfl, HX2.out⟩

end Go.Proofs.Ytcdhalgpnhdbnaa
