/-
  Rows: the law's holes. MADE BY mkRowF.py
-/
import Derived.Test.YtegclfpmgilnpaaRowE
namespace Go.Proofs.Ytegclfpmgilnpaa
open Go.RowKit Go.Lac

theorem fieldHoP0 (w : World) (b o : Nat) : (Instr.fieldAt 93 (.pointer (some ⟨b, o, none⟩)) 0).run Try.prog w = .ok (.pointer (some ⟨b, o, none⟩)) w := by kernel_rfl
theorem fieldHoP1 (w : World) (b o : Nat) : (Instr.fieldAt 93 (.pointer (some ⟨b, o, none⟩)) 1).run Try.prog w = .ok (.pointer (some ⟨b, o + 1, none⟩)) w := by kernel_rfl
def hoEq (hb ho gb go n hcap gcap k : Nat) (c s : Int) : Tmp → Kn
  | 17 => .is (.slice (some ⟨hb, ho, none⟩) n hcap)
  | 18 => .is (.int .i64 (k : Nat))
  | 19 => .is (.pointer (some ⟨hb, ho + k * 2, none⟩))
  | 20 => .is (.pointer (some ⟨hb, ho + k * 2, none⟩))
  | 21 => .is (.int .i64 c)
  | 22 => .is (.slice (some ⟨gb, go, none⟩) n gcap)
  | 23 => .is (.int .i64 (k : Nat))
  | 24 => .is (.pointer (some ⟨gb, go + k * 2, none⟩))
  | 25 => .is (.pointer (some ⟨gb, go + k * 2, none⟩))
  | 26 => .is (.int .i64 c)
  | 27 => .is (.bool false)
  | 28 => .is (.bool false)
  | 29 => .is (.slice (some ⟨hb, ho, none⟩) n hcap)
  | 30 => .is (.int .i64 (k : Nat))
  | 31 => .is (.pointer (some ⟨hb, ho + k * 2, none⟩))
  | 32 => .is (.pointer (some ⟨hb, ho + k * 2 + 1, none⟩))
  | 33 => .is (.int .i64 s)
  | 34 => .is (.slice (some ⟨gb, go, none⟩) n gcap)
  | 35 => .is (.int .i64 (k : Nat))
  | 36 => .is (.pointer (some ⟨gb, go + k * 2, none⟩))
  | 37 => .is (.pointer (some ⟨gb, go + k * 2 + 1, none⟩))
  | 38 => .is (.int .i64 s)
  | 39 => .is (.bool false)
  | 40 => .is (.bool false)
  | _ => .any
set_option maxRecDepth 20000 in
set_option maxHeartbeats 4000000 in
theorem holesEq_any (v1 v2 : Value) (l : List Ho) (w : World) (h1 : HoS w v1 l) (h2 : HoS w v2 l) :
    Calls Try.prog 39 #[v1, v2] w fun e w' => e = .returned (.bool true) ∧ Ext w w' := by
  have H1 := Lib.hid h1; have H2 := Lib.hid h2
  obtain ⟨a1, hcap, rfl, k1, k2⟩ := h1.shape
  obtain ⟨a2, gcap, rfl, -, -⟩ := h2.shape
  have hl63 : l.length ≤ 9223372036854775807 := by unfold maxLen at k2; omega
  obtain ⟨ih, chh, _, csh, _⟩ := info_parts infoHoR
  obtain ⟨ip, cip, _, csp, _⟩ := info_parts infoHoP
  have CHH := Lib.hid chh; have CSH := Lib.hid csh; have CIP := Lib.hid cip; have CSP := Lib.hid csp
  clear h1 h2 k1 k2 chh csh cip csp
  generalize hA : l.length = n at *
  have HA := Lib.hid hA; clear hA
  go_enter Try.func39, Try.ntmps39
  go_wp2
  go_loopw [5] (fun ix wr => ∃ k : Nat, k ≤ n ∧ ix = .int .i64 k ∧ Hid (Ext w wr)) (fun ix _ => n - (intOf ix).toNat)
  case atStart => exact ⟨0, Nat.zero_le _, rfl, Lib.hid (Ch.refl _ _)⟩
  case round =>
    obtain ⟨k, hk, rfl, HXr⟩ := hrel
    by_cases hlt : k < n
    · have hkl : k < l.length := by have := HA.out; omega
      obtain ⟨hb, ho, rfl, p0, p1⟩ := (H1.out.ext HXr.out).at hkl
      obtain ⟨gb, go, rfl, q0, q1⟩ := (H2.out.ext HXr.out).at hkl
      have HLT := Lib.hid hlt
      have RA0 := Lib.hid p0; have RA1 := Lib.hid p1; have RB0 := Lib.hid q0; have RB1 := Lib.hid q1
      generalize l[k].c = c at *
      generalize l[k].s = s at *
      clear p0 p1 q0 q1 hlt hkl
      go_wp2
      refine wp_region_ext (hoEq hb ho gb go n hcap gcap k c s) mixedR (by rfl) (by rfl) ?all ?fin
      case all =>
          refine ⟨?_, ?_, ?_, ?_, ?_, ?_, ?_, ?_, ?_, ?_, ?_, ?_, ?_, ?_, ?_, ?_, ?_, ?_, ?_, ?_, ?_, ?_, ?_, ?_, trivial⟩
          · -- 0: slot 17 := Op.move t0
            refine StepOK.plain (kn_stable _) rfl fun ρ w hρ hw hf => ?_
            have h0 : ρ (.tmp 0) = (.slice (some ⟨hb, ho, none⟩) n hcap) := (hf 0).2 rfl rfl
            exact Exec.kmove rfl rfl h0
          · -- 1: slot 18 := Op.move t5
            refine StepOK.plain (kn_stable _) rfl fun ρ w hρ hw hf => ?_
            have h5 : ρ (.tmp 5) = (.int .i64 (k : Nat)) := (hf 5).2 rfl rfl
            exact Exec.kmove rfl rfl h5
          · -- 2: slot 19 := Op.indexAddr 88 t17 t18
            refine StepOK.plain (kn_stable _) rfl fun ρ w hρ hw hf => ?_
            have h17 : ρ (.tmp 17) = (.slice (some ⟨hb, ho, none⟩) n hcap) := (hf 17).1 rfl
            have h18 : ρ (.tmp 18) = (.int .i64 (k : Nat)) := (hf 18).1 rfl
            exact Exec.kindex rfl rfl Try.underlying88 CIP.out CSP.out h17 h18 HLT.out rfl
          · -- 3: slot 20 := Op.fieldAddr 93 t19 0
            refine StepOK.plain (kn_stable _) rfl fun ρ w hρ hw hf => ?_
            have h19 : ρ (.tmp 19) = (.pointer (some ⟨hb, ho + k * 2, none⟩)) := (hf 19).1 rfl
            exact Exec.kfield rfl rfl h19 (fieldHoP0 w _ _) rfl
          · -- 4: slot 21 := Op.load 3 t20
            refine StepOK.plain (kn_stable _) rfl fun ρ w hρ hw hf => ?_
            have h20 : ρ (.tmp 20) = (.pointer (some ⟨hb, ho + k * 2, none⟩)) := (hf 20).1 rfl
            have hc := hw.cell (p := ⟨hb, ho + k * 2, none⟩) (fun f => f) _ RA0.out
            exact Exec.same (v := .int .i64 c) rfl (by simp [go_sem, hρ.const, h20, hc]) rfl
          · -- 5: slot 22 := Op.move t1
            refine StepOK.plain (kn_stable _) rfl fun ρ w hρ hw hf => ?_
            have h1 : ρ (.tmp 1) = (.slice (some ⟨gb, go, none⟩) n gcap) := (hf 1).2 rfl rfl
            exact Exec.kmove rfl rfl h1
          · -- 6: slot 23 := Op.move t5
            refine StepOK.plain (kn_stable _) rfl fun ρ w hρ hw hf => ?_
            have h5 : ρ (.tmp 5) = (.int .i64 (k : Nat)) := (hf 5).2 rfl rfl
            exact Exec.kmove rfl rfl h5
          · -- 7: slot 24 := Op.indexAddr 81 t22 t23
            refine StepOK.plain (kn_stable _) rfl fun ρ w hρ hw hf => ?_
            have h22 : ρ (.tmp 22) = (.slice (some ⟨gb, go, none⟩) n gcap) := (hf 22).1 rfl
            have h23 : ρ (.tmp 23) = (.int .i64 (k : Nat)) := (hf 23).1 rfl
            exact Exec.kindex rfl rfl Try.underlying81 CHH.out CSH.out h22 h23 HLT.out rfl
          · -- 8: slot 25 := Op.fieldAddr 92 t24 0
            refine StepOK.plain (kn_stable _) rfl fun ρ w hρ hw hf => ?_
            have h24 : ρ (.tmp 24) = (.pointer (some ⟨gb, go + k * 2, none⟩)) := (hf 24).1 rfl
            exact Exec.kfield rfl rfl h24 (fieldRHo0 w _ _) rfl
          · -- 9: slot 26 := Op.load 3 t25
            refine StepOK.plain (kn_stable _) rfl fun ρ w hρ hw hf => ?_
            have h25 : ρ (.tmp 25) = (.pointer (some ⟨gb, go + k * 2, none⟩)) := (hf 25).1 rfl
            have hc := hw.cell (p := ⟨gb, go + k * 2, none⟩) (fun f => f) _ RB0.out
            exact Exec.same (v := .int .i64 c) rfl (by simp [go_sem, hρ.const, h25, hc]) rfl
          · -- 10: slot 27 := Op.binOp BinOp.neq 3 t21 t26 3
            refine StepOK.plain (kn_stable _) rfl fun ρ w hρ hw hf => ?_
            have h21 : ρ (.tmp 21) = (.int .i64 c) := (hf 21).1 rfl
            have h26 : ρ (.tmp 26) = (.int .i64 c) := (hf 26).1 rfl
            exact Exec.same (v := .bool false) rfl (by simp [go_sem, hρ.const, h21, h26]) rfl
          · -- 11: slot 28 := Op.move t27
            refine StepOK.plain (kn_stable _) rfl fun ρ w hρ hw hf => ?_
            have h27 : ρ (.tmp 27) = (.bool false) := (hf 27).1 rfl
            exact Exec.kmove rfl rfl h27
          · -- 12: slot 29 := Op.move t0
            refine StepOK.guarded (kn_stable _) 11 false 28 rfl rfl (fun ρ w _ _ hf => (hf 28).1 rfl) fun ρ w hρ hw hf => ?_
            have h0 : ρ (.tmp 0) = (.slice (some ⟨hb, ho, none⟩) n hcap) := (hf 0).2 rfl rfl
            exact Exec.kmove rfl rfl h0
          · -- 13: slot 30 := Op.move t5
            refine StepOK.guarded (kn_stable _) 11 false 28 rfl rfl (fun ρ w _ _ hf => (hf 28).1 rfl) fun ρ w hρ hw hf => ?_
            have h5 : ρ (.tmp 5) = (.int .i64 (k : Nat)) := (hf 5).2 rfl rfl
            exact Exec.kmove rfl rfl h5
          · -- 14: slot 31 := Op.indexAddr 88 t29 t30
            refine StepOK.guarded (kn_stable _) 11 false 28 rfl rfl (fun ρ w _ _ hf => (hf 28).1 rfl) fun ρ w hρ hw hf => ?_
            have h29 : ρ (.tmp 29) = (.slice (some ⟨hb, ho, none⟩) n hcap) := (hf 29).1 rfl
            have h30 : ρ (.tmp 30) = (.int .i64 (k : Nat)) := (hf 30).1 rfl
            exact Exec.kindex rfl rfl Try.underlying88 CIP.out CSP.out h29 h30 HLT.out rfl
          · -- 15: slot 32 := Op.fieldAddr 93 t31 1
            refine StepOK.guarded (kn_stable _) 11 false 28 rfl rfl (fun ρ w _ _ hf => (hf 28).1 rfl) fun ρ w hρ hw hf => ?_
            have h31 : ρ (.tmp 31) = (.pointer (some ⟨hb, ho + k * 2, none⟩)) := (hf 31).1 rfl
            exact Exec.kfield rfl rfl h31 (fieldHoP1 w _ _) rfl
          · -- 16: slot 33 := Op.load 3 t32
            refine StepOK.guarded (kn_stable _) 11 false 28 rfl rfl (fun ρ w _ _ hf => (hf 28).1 rfl) fun ρ w hρ hw hf => ?_
            have h32 : ρ (.tmp 32) = (.pointer (some ⟨hb, ho + k * 2 + 1, none⟩)) := (hf 32).1 rfl
            have hc := hw.cell (p := ⟨hb, ho + k * 2 + 1, none⟩) (fun f => f) _ RA1.out
            exact Exec.same (v := .int .i64 s) rfl (by simp [go_sem, hρ.const, h32, hc]) rfl
          · -- 17: slot 34 := Op.move t1
            refine StepOK.guarded (kn_stable _) 11 false 28 rfl rfl (fun ρ w _ _ hf => (hf 28).1 rfl) fun ρ w hρ hw hf => ?_
            have h1 : ρ (.tmp 1) = (.slice (some ⟨gb, go, none⟩) n gcap) := (hf 1).2 rfl rfl
            exact Exec.kmove rfl rfl h1
          · -- 18: slot 35 := Op.move t5
            refine StepOK.guarded (kn_stable _) 11 false 28 rfl rfl (fun ρ w _ _ hf => (hf 28).1 rfl) fun ρ w hρ hw hf => ?_
            have h5 : ρ (.tmp 5) = (.int .i64 (k : Nat)) := (hf 5).2 rfl rfl
            exact Exec.kmove rfl rfl h5
          · -- 19: slot 36 := Op.indexAddr 81 t34 t35
            refine StepOK.guarded (kn_stable _) 11 false 28 rfl rfl (fun ρ w _ _ hf => (hf 28).1 rfl) fun ρ w hρ hw hf => ?_
            have h34 : ρ (.tmp 34) = (.slice (some ⟨gb, go, none⟩) n gcap) := (hf 34).1 rfl
            have h35 : ρ (.tmp 35) = (.int .i64 (k : Nat)) := (hf 35).1 rfl
            exact Exec.kindex rfl rfl Try.underlying81 CHH.out CSH.out h34 h35 HLT.out rfl
          · -- 20: slot 37 := Op.fieldAddr 92 t36 1
            refine StepOK.guarded (kn_stable _) 11 false 28 rfl rfl (fun ρ w _ _ hf => (hf 28).1 rfl) fun ρ w hρ hw hf => ?_
            have h36 : ρ (.tmp 36) = (.pointer (some ⟨gb, go + k * 2, none⟩)) := (hf 36).1 rfl
            exact Exec.kfield rfl rfl h36 (fieldRHo1 w _ _) rfl
          · -- 21: slot 38 := Op.load 3 t37
            refine StepOK.guarded (kn_stable _) 11 false 28 rfl rfl (fun ρ w _ _ hf => (hf 28).1 rfl) fun ρ w hρ hw hf => ?_
            have h37 : ρ (.tmp 37) = (.pointer (some ⟨gb, go + k * 2 + 1, none⟩)) := (hf 37).1 rfl
            have hc := hw.cell (p := ⟨gb, go + k * 2 + 1, none⟩) (fun f => f) _ RB1.out
            exact Exec.same (v := .int .i64 s) rfl (by simp [go_sem, hρ.const, h37, hc]) rfl
          · -- 22: slot 39 := Op.binOp BinOp.neq 3 t33 t38 3
            refine StepOK.guarded (kn_stable _) 11 false 28 rfl rfl (fun ρ w _ _ hf => (hf 28).1 rfl) fun ρ w hρ hw hf => ?_
            have h33 : ρ (.tmp 33) = (.int .i64 s) := (hf 33).1 rfl
            have h38 : ρ (.tmp 38) = (.int .i64 s) := (hf 38).1 rfl
            exact Exec.same (v := .bool false) rfl (by simp [go_sem, hρ.const, h33, h38]) rfl
          · -- 23: slot 40 := Op.pick t28 (const (Value.bool true)) t39
            refine StepOK.plain (kn_stable _) rfl fun ρ w hρ hw hf => ?_
            have h28 : ρ (.tmp 28) = (.bool false) := (hf 28).1 rfl
            have h39 : ρ (.tmp 39) = (.bool false) := (hf 39).1 rfl
            exact Exec.kpickF rfl rfl h28 h39
      case fin =>
        intro ν w9 hfin hx9
        have e0 : ν 40 = .bool false := hfin 23 40 rfl
        simp only [Exit.then, ended, List.foldl_cons, List.foldl_nil, List.setIfInBounds_toArray, List.set_cons_succ, List.set_cons_zero, e0]
        have HX9 := Lib.hid (HXr.out.trans hx9)
        clear hfin hx9 e0
        go_wp2
        go_roundw
        case rel => exact ⟨k + 1, HLT.out, by simp, HX9⟩
        case measure => simp [intOf]; have := HLT.out; omega
    · obtain rfl : n = k := by omega
      go_wp2
      go_ret
      exact ⟨rfl, HXr.out⟩
end Go.Proofs.Ytegclfpmgilnpaa
