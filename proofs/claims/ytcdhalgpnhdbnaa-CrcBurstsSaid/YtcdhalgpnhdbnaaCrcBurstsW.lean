/-
  CrcBursts: the walk.
-/
import Derived.Test.YtcdhalgpnhdbnaaProg
import Derived.Test.YtcdhalgpnhdbnaaLib
import Derived.Test.YtcdhalgpnhdbnaaLibC
import Derived.Test.YtcdhalgpnhdbnaaInfo
import Derived.Test.YtcdhalgpnhdbnaaCrcD
import Derived.Test.YtcdhalgpnhdbnaaCrcG
import Derived.Test.YtcdhalgpnhdbnaaTurned
import Derived.Test.YtcdhalgpnhdbnaaAwake3
import Derived.WalkKit
import Derived.Lib.Hide
import Derived.Outline
import Derived.Laws.BitsAllLaws
namespace Go.Proofs.Ytcdhalgpnhdbnaa
open Go.RowKit Go.Lac

def burstsT (td sg : List UInt8) (z : Bool) : Tmp → Kn
  | 6 => .is (.bool true)
  | 29 => .rd td
  | 30 => .is (.bool z)
  | 31 => .rd td
  | 32 => .is (strV td)
  | 33 => .rd sg
  | 34 => .is (strV sg)
  | 35 => .is (.bool z)
  | 36 => .is (.bool true)
  | 37 => .is (.bool true)
  | 38 => .is (.bool true)
  | 39 => .is (.bool true)
  | _ => .any

set_option maxRecDepth 20000 in
set_option maxHeartbeats 2000000 in
theorem crcBursts_walk (v : Value) (bs : List UInt8) (a pat : Nat) (w : World) (h : Rd w v bs) (ha : a < 65536) (hp : pat < 2 ^ 32) :
    Calls Try.prog 5 #[v, .int .u16 (a : Nat), .int .u32 (pat : Nat)] w fun e w' => e = .returned (.bool true) ∧ Ext w w' := by
  obtain ⟨ao, cap, rfl⟩ := h.shape
  have hlen : bs.length ≤ maxLen := by obtain ⟨_, _, _, g1, g2, _⟩ := h; omega
  unfold maxLen at hlen
  by_cases h300 : 300 < bs.length
  · clear h
    go_enter Try.func5, Try.ntmps5
    go_wp2
    go_ret
    exact ⟨rfl, Ch.refl _ _⟩
  · have hsg := sign_any _ bs w h (by omega)
    have hsl := crcSign_length bs
    have hss := crcSigned_sign bs
    generalize crcSign bs = sg at *
    have hts := turned_signed sg (a % (8 * (bs.length + 4))) pat hss (by omega)
    have htn := fun v w h => turned_any v sg (a % (8 * (bs.length + 4))) pat w h (by omega) (Nat.le_trans (Nat.mod_le _ _) (by omega)) hp
    have hmod : (a : Int).tmod (8 * ((bs.length : Int) + 4)) = ((a % (8 * (bs.length + 4)) : Nat) : Int) := by
      rw [Int.tmod_eq_emod_of_nonneg (by omega)]
      simp
    have hmod' : (a : Int) % (8 * ((bs.length : Int) + 4)) = ((a % (8 * (bs.length + 4)) : Nat) : Int) := by
      simp
    have HSGN := Lib.hid hsg; have HSL := Lib.hid hsl; have HTS := Lib.hid hts; have HTN := Lib.hid htn
    clear hsg hsl hss hts htn h hp
    generalize a % (8 * (bs.length + 4)) = p at *
    generalize hbl : bs.length = n at *
    clear hbl
    go_enter Try.func5, Try.ntmps5
    go_wp2_with (go_at_call 17; refine HSGN.out.mono ?_)
    intro e w1 hm
    obtain ⟨c, rfl, hx, hr⟩ := hm.rd
    clear hm
    obtain ⟨a1, c1, rfl⟩ := hr.shape
    rw [HSL.out] at hr ⊢
    have HX := Lib.hid hx; have HC0 := Lib.hid hr; clear hx hr
    go_wp2_with (go_at_call 21; refine (HTN.out _ _ HC0.out).mono ?_)
    intro e w2 hm
    obtain ⟨d, rfl, hx, hr⟩ := hm.rd
    clear hm
    have HC := Lib.hid (HC0.out.ext hx)
    have HX2 := Lib.hid (HX.out.trans hx)
    generalize turned sg p pat 32 = td at *
    obtain ⟨a2, c2, rfl⟩ := hr.shape
    generalize td.length = n2 at *
    have HD := Lib.hid hr; clear hx hr HX HC0
    obtain ⟨z, hz⟩ : ∃ z, z = decide (td = sg) := ⟨_, rfl⟩
    have HZ := Lib.hid hz.symm
    have hsg2 := HTS.out
    rw [← hz] at hsg2
    have HSG := Lib.hid hsg2; clear hsg2 hz HTS HTN HSGN
    generalize n + 4 = n1 at *
    go_wp2
    refine wp_region_ext (burstsT td sg z) mixedEq (by rfl) (by rfl) ?all ?fin
    case all =>
      refine ⟨?_, ?_, ?_, ?_, ?_, ?_, ?_, ?_, ?_, ?_, ?_, ?_, trivial⟩
      · -- 0: slot 29 := Op.move t8
        refine StepOK.plain (kn_stable _) rfl fun ρ w hρ hw hf => ?_
        have h8 : ρ (.tmp 8) = (.slice a2 n2 c2) := (hf 8).2 rfl rfl
        exact Exec.kmove rfl rfl (by rw [h8]; exact HD.out.ext hw)
      · -- 1: slot 30 := Op.call { value (Operand.func 19), args := #[t29], argTypes := #[23] }
        refine StepOK.plain (kn_stable _) rfl fun ρ w hρ hw hf => ?_
        have h29 : Rd w (ρ (.tmp 29)) (td) := (hf 29).1 rfl
        refine Exec.kcall #[ρ (.tmp 29)] hρ rfl rfl (by simp [hρ.const]) Try.func19 (by rfl) rfl ?_
        refine (signed_any _ _ w h29).mono ?_
        rintro e w' ⟨rfl, hx⟩
        exact ⟨_, rfl, by rw [HSG.out]; rfl, hx⟩
      · -- 2: slot 31 := Op.move t8
        refine StepOK.plain (kn_stable _) rfl fun ρ w hρ hw hf => ?_
        have h8 : ρ (.tmp 8) = (.slice a2 n2 c2) := (hf 8).2 rfl rfl
        exact Exec.kmove rfl rfl (by rw [h8]; exact HD.out.ext hw)
      · -- 3: slot 32 := Op.convert 23 9 t31
        refine StepOK.plain (kn_stable _) rfl fun ρ w hρ hw hf => ?_
        have h31 : Rd w (ρ (.tmp 31)) (td) := (hf 31).1 rfl
        exact Exec.kstr rfl rfl Try.underlying23 Try.underlying5 Try.underlying9 h31 rfl
      · -- 4: slot 33 := Op.move t7
        refine StepOK.plain (kn_stable _) rfl fun ρ w hρ hw hf => ?_
        have h7 : ρ (.tmp 7) = (.slice a1 n1 c1) := (hf 7).2 rfl rfl
        exact Exec.kmove rfl rfl (by rw [h7]; exact HC.out.ext hw)
      · -- 5: slot 34 := Op.convert 23 9 t33
        refine StepOK.plain (kn_stable _) rfl fun ρ w hρ hw hf => ?_
        have h33 : Rd w (ρ (.tmp 33)) (sg) := (hf 33).1 rfl
        exact Exec.kstr rfl rfl Try.underlying23 Try.underlying5 Try.underlying9 h33 rfl
      · -- 6: slot 35 := Op.binOp BinOp.eql 9 t32 t34 9
        refine StepOK.plain (kn_stable _) rfl fun ρ w hρ hw hf => ?_
        have h32 : ρ (.tmp 32) = (strV td) := (hf 32).1 rfl
        have h34 : ρ (.tmp 34) = (strV sg) := (hf 34).1 rfl
        exact Exec.kstreq rfl rfl Try.underlying9 h32 h34 (by rw [HZ.out]; rfl)
      · -- 7: slot 36 := Op.binOp BinOp.eql 4 t30 t35 4
        refine StepOK.plain (kn_stable _) rfl fun ρ w hρ hw hf => ?_
        have h30 : ρ (.tmp 30) = (.bool z) := (hf 30).1 rfl
        have h35 : ρ (.tmp 35) = (.bool z) := (hf 35).1 rfl
        exact Exec.same (v := .bool true) rfl (by cases z <;> simp [go_sem, hρ.const, h30, h35]) rfl
      · -- 8: slot 37 := Op.move t36
        refine StepOK.plain (kn_stable _) rfl fun ρ w hρ hw hf => ?_
        have h36 : ρ (.tmp 36) = (.bool true) := (hf 36).1 rfl
        exact Exec.kmove rfl rfl h36
      · -- 9: slot 38 := Op.call { value (Operand.func 15), args := #[], argTypes := #[] }
        refine StepOK.guarded (kn_stable _) 8 true 37 rfl rfl (fun ρ w _ _ hf => (hf 37).1 rfl) fun ρ w hρ hw hf => ?_
        refine Exec.kcall #[] hρ rfl rfl (by simp) Try.func15 (by rfl) rfl ?_
        refine (awake3_any w).mono ?_
        rintro e w' ⟨rfl, hx⟩
        exact ⟨_, rfl, rfl, hx⟩
      · -- 10: slot 39 := Op.pick t37 t38 (const (Value.bool false))
        refine StepOK.plain (kn_stable _) rfl fun ρ w hρ hw hf => ?_
        have h37 : ρ (.tmp 37) = (.bool true) := (hf 37).1 rfl
        have h38 : ρ (.tmp 38) = (.bool true) := (hf 38).1 rfl
        exact Exec.kpickT rfl rfl h37 h38
      · -- 11: slot 6 := Op.assign t39
        refine StepOK.plain (kn_stable _) rfl fun ρ w hρ hw hf => ?_
        have h39 : ρ (.tmp 39) = (.bool true) := (hf 39).1 rfl
        exact Exec.kassign rfl rfl h39

    case fin =>
      intro ν w3 hfin hext
      have h0 : ν 6 = .bool true := hfin 11 6 rfl
      simp only [Exit.then, ended, List.foldl_cons, List.foldl_nil, List.setIfInBounds_toArray, List.set_cons_succ, List.set_cons_zero, h0]
      have HX3 := Lib.hid (HX2.out.trans hext); clear hext hfin h0
      go_wp2
      go_ret
      exact ⟨rfl, HX3.out⟩

end Go.Proofs.Ytcdhalgpnhdbnaa
