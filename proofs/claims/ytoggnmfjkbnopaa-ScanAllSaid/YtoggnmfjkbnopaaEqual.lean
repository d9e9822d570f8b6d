/-
  slices.Equal at bytes.
-/
import Derived.Test.YtoggnmfjkbnopaaProg
import Derived.Test.YtoggnmfjkbnopaaLib
import Derived.Test.YtoggnmfjkbnopaaInfo
import Derived.Test.YtoggnmfjkbnopaaCrcB
import Derived.WalkKit
import Derived.Lib.Hide
namespace Go.Proofs.Ytoggnmfjkbnopaa
open Go.RowKit Go.Lac
theorem mixedEq : Try.prog.follows .mixedOrders = true := by kernel_rfl

def equalT (g off g' off' len cap cap' k : Nat) (x y : Int) (z : Bool) : Tmp → Kn
  | 16 => .is (.slice (some ⟨g, off, none⟩) len cap)
  | 17 => .is (.int .i64 k)
  | 18 => .is (.pointer (some ⟨g, off + k, none⟩))
  | 19 => .is (.int .u8 x)
  | 20 => .is (.slice (some ⟨g', off', none⟩) len cap')
  | 21 => .is (.int .i64 k)
  | 22 => .is (.pointer (some ⟨g', off' + k, none⟩))
  | 23 => .is (.int .u8 y)
  | 24 => .is (.bool z)
  | _ => .any

set_option maxRecDepth 20000 in
set_option maxHeartbeats 2000000 in
theorem equal_any (v v' : Value) (la lb : List UInt8) (w : World) (h : Rd w v la) (h' : Rd w v' lb) :
    Calls Try.prog 96 #[v, v'] w fun e w' => e = .returned (.bool (decide (la = lb))) ∧ Ext w w' := by
  obtain ⟨i, hi, hz, hs, hby⟩ := info_parts infoU8
  obtain ⟨ao, cap, rfl⟩ := h.shape
  obtain ⟨ao', cap', rfl⟩ := h'.shape
  have hlen : la.length ≤ maxLen := by obtain ⟨_, _, _, g1, g2, _⟩ := h; omega
  have hlen' : lb.length ≤ maxLen := by obtain ⟨_, _, _, g1, g2, _⟩ := h'; omega
  unfold maxLen at hlen hlen'
  have H := Lib.hid h; have H' := Lib.hid h'; clear h h'
  by_cases hl : la.length = lb.length
  · have hlt0 : ∀ k, k < la.length → k < lb.length := fun k h => by omega
    have hfin0 : la.take la.length = lb.take la.length → decide (la = lb) = true := fun h => by
      rw [List.take_of_length_le (Nat.le_refl _), List.take_of_length_le (by omega)] at h
      exact decide_eq_true h
    have HLT := Lib.hid hlt0; have HFIN := Lib.hid hfin0; clear hlt0 hfin0
    rw [← hl]
    have HI := Lib.hid hi; have HSZ := Lib.hid hs
    clear hl hi hz hs hby hlen'
    go_enter Try.func96, Try.ntmps96
    go_wp2
    go_loopw [13] (fun ix wr => ∃ k : Nat, k ≤ la.length ∧ ix = .int .i64 k ∧ la.take k = lb.take k ∧ Ext w wr) (fun ix _ => la.length - (intOf ix).toNat)
    case atStart => exact ⟨0, Nat.zero_le _, rfl, rfl, Ch.refl _ _⟩
    case round =>
      obtain ⟨k, hk, rfl, hpre, hext⟩ := hrel
      have HR := Lib.hid hext; have HP := Lib.hid hpre; clear hext hpre
      by_cases hlt : k < la.length
      · have hlt' : k < lb.length := HLT.out k hlt
        obtain ⟨g, off, rfl, g1, g2, g3⟩ := bytes_cell (Rd.ext H.out HR.out) rfl (by omega)
        obtain ⟨g', off', rfl, g1', g2', g3'⟩ := bytes_cell (Rd.ext H'.out HR.out) (ao := ao') (cap := cap') rfl (by omega)
        have hc := g3 k hlt
        have hd := g3' k hlt'
        have hne : ((la[k].toNat : Nat) : Int) ≠ (lb[k].toNat : Nat) → decide (la = lb) = false := fun h => decide_eq_false fun e => h (by subst e; rfl)
        have heq : ((la[k].toNat : Nat) : Int) = (lb[k].toNat : Nat) → la.take (k + 1) = lb.take (k + 1) := fun h => by
          rw [List.take_succ_eq_append_getElem hlt, List.take_succ_eq_append_getElem hlt', HP.out, UInt8.toNat_inj.1 (Int.ofNat.inj h)]
        generalize ((la[k].toNat : Nat) : Int) = x at *
        generalize ((lb[k].toNat : Nat) : Int) = y at *
        obtain ⟨z, hz⟩ : ∃ z, z = (x != y) := ⟨_, rfl⟩
        have HC := Lib.hid hc; have HD := Lib.hid hd; have HK := Lib.hid hlt; have HNE := Lib.hid hne; have HEQ := Lib.hid heq; have HZ := Lib.hid hz.symm
        clear hc hd g3 g3' hne heq hz g1 g2 g1' g2'
        go_wp2
        refine wp_region_ext (equalT g off g' off' la.length cap cap' k x y z) mixedEq (by rfl) (by rfl) ?all ?fin
        case all =>
          refine ⟨?_, ?_, ?_, ?_, ?_, ?_, ?_, ?_, ?_, trivial⟩
          · -- 0: slot 16 := Op.move t0
            refine StepOK.plain (kn_stable _) rfl fun ρ w hρ hw hf => ?_
            have h0 : ρ (.tmp 0) = .slice (some ⟨g, off, none⟩) la.length cap := (hf 0).2 rfl rfl
            exact Exec.kmove rfl rfl h0
          · -- 1: slot 17 := Op.move t5
            refine StepOK.plain (kn_stable _) rfl fun ρ w hρ hw hf => ?_
            have h5 : ρ (.tmp 5) = .int .i64 k := (hf 5).2 rfl rfl
            exact Exec.kmove rfl rfl h5
          · -- 2: slot 18 := Op.indexAddr 23 t16 t17
            refine StepOK.plain (kn_stable _) rfl fun ρ w hρ hw hf => ?_
            have h16 : ρ (.tmp 16) = (.slice (some ⟨g, off, none⟩) la.length cap) := (hf 16).1 rfl
            have h17 : ρ (.tmp 17) = (.int .i64 k) := (hf 17).1 rfl
            exact Exec.kindex (i := k) rfl rfl Try.underlying22 HI.out HSZ.out h16 h17 HK.out (by rw [Nat.mul_one]; exact rfl)
          · -- 3: slot 19 := Op.load 5 t18
            refine StepOK.plain (kn_stable _) rfl fun ρ w hρ hw hf => ?_
            have h18 : ρ (.tmp 18) = (.pointer (some ⟨g, off + k, none⟩)) := (hf 18).1 rfl
            have hc := hw.cell (p := ⟨g, off + k, none⟩) (fun f => f) _ HC.out
            exact Exec.same (v := .int .u8 x) rfl (by simp [go_sem, hρ.const, h18, hc]) rfl
          · -- 4: slot 20 := Op.move t1
            refine StepOK.plain (kn_stable _) rfl fun ρ w hρ hw hf => ?_
            have h1 : ρ (.tmp 1) = .slice (some ⟨g', off', none⟩) la.length cap' := (hf 1).2 rfl rfl
            exact Exec.kmove rfl rfl h1
          · -- 5: slot 21 := Op.move t5
            refine StepOK.plain (kn_stable _) rfl fun ρ w hρ hw hf => ?_
            have h5 : ρ (.tmp 5) = .int .i64 k := (hf 5).2 rfl rfl
            exact Exec.kmove rfl rfl h5
          · -- 6: slot 22 := Op.indexAddr 23 t20 t21
            refine StepOK.plain (kn_stable _) rfl fun ρ w hρ hw hf => ?_
            have h20 : ρ (.tmp 20) = (.slice (some ⟨g', off', none⟩) la.length cap') := (hf 20).1 rfl
            have h21 : ρ (.tmp 21) = (.int .i64 k) := (hf 21).1 rfl
            exact Exec.kindex (i := k) rfl rfl Try.underlying22 HI.out HSZ.out h20 h21 HK.out (by rw [Nat.mul_one]; exact rfl)
          · -- 7: slot 23 := Op.load 5 t22
            refine StepOK.plain (kn_stable _) rfl fun ρ w hρ hw hf => ?_
            have h22 : ρ (.tmp 22) = (.pointer (some ⟨g', off' + k, none⟩)) := (hf 22).1 rfl
            have hc := hw.cell (p := ⟨g', off' + k, none⟩) (fun f => f) _ HD.out
            exact Exec.same (v := .int .u8 y) rfl (by simp [go_sem, hρ.const, h22, hc]) rfl
          · -- 8: slot 24 := Op.binOp BinOp.neq 5 t19 t23 5
            refine StepOK.plain (kn_stable _) rfl fun ρ w hρ hw hf => ?_
            have h19 : ρ (.tmp 19) = (.int .u8 x) := (hf 19).1 rfl
            have h23 : ρ (.tmp 23) = (.int .u8 y) := (hf 23).1 rfl
            exact Exec.same (v := .bool z) rfl (by have hz := HZ.out; simp [go_sem, hρ.const, h19, h23, hz]) rfl

        case fin =>
          intro ν w2 hfin hext
          have h0 : ν 24 = .bool z := hfin 8 24 rfl
          simp only [Exit.then, ended, List.foldl_cons, List.foldl_nil, List.setIfInBounds_toArray, List.set_cons_succ, List.set_cons_zero, h0]
          have HX := Lib.hid (HR.out.trans hext)
          cases z with
          | true =>
            have hd : decide (la = lb) = false := HNE.out (by have := HZ.out; simpa using this)
            have HD0 := Lib.hid hd; clear hd hfin hext h0
            go_wp2
            go_ret
            exact ⟨by rw [HD0.out]; rfl, HX.out⟩
          | false =>
            have hd : la.take (k + 1) = lb.take (k + 1) := HEQ.out (by have := HZ.out; simpa using this)
            have HD2 := Lib.hid hd; clear hd hfin hext h0
            go_wp2
            go_roundw
            case rel => exact ⟨k + 1, by omega, by go_num, HD2.out, HX.out⟩
            case measure => simp [intOf] <;> omega
      · have hkn : k = la.length := by omega
        subst hkn
        have hd : decide (la = lb) = true := HFIN.out HP.out
        have HD0 := Lib.hid hd; clear hd
        go_wp2
        go_ret
        exact ⟨by rw [HD0.out]; rfl, HR.out⟩
  · have hd : decide (la = lb) = false := decide_eq_false fun e => hl (by rw [e])
    rw [hd]; clear hd
    go_enter Try.func96, Try.ntmps96
    go_wp2
    go_ret
    exact ⟨rfl, Ch.refl _ _⟩

end Go.Proofs.Ytoggnmfjkbnopaa
