/-
  FrameBack: the walk.
-/
import Derived.Test.YtcdhalgpnhdbnaaProg
import Derived.Test.YtcdhalgpnhdbnaaLib
import Derived.Test.YtcdhalgpnhdbnaaLibC
import Derived.Test.YtcdhalgpnhdbnaaInfo
import Derived.Test.YtcdhalgpnhdbnaaLibD
import Derived.Test.YtcdhalgpnhdbnaaEqual
import Derived.Test.YtcdhalgpnhdbnaaCrcD
import Derived.Test.YtcdhalgpnhdbnaaFrB
import Derived.Test.YtcdhalgpnhdbnaaFrC
import Derived.Test.YtcdhalgpnhdbnaaFrD
import Derived.Test.YtcdhalgpnhdbnaaFrE
import Derived.Test.YtcdhalgpnhdbnaaFrF
import Derived.Test.YtcdhalgpnhdbnaaRefP
import Derived.Test.YtcdhalgpnhdbnaaRefQ
import Derived.Test.YtcdhalgpnhdbnaaAwake4
import Derived.Test.YtcdhalgpnhdbnaaFrM
import Derived.WalkKit
import Derived.Lib.Hide
import Derived.Outline
import Derived.Laws.BitsAllLaws
namespace Go.Proofs.Ytcdhalgpnhdbnaa
open Go.RowKit Go.Lac

def frBackT (x y n : Nat) (a1 : Option Addr) (n1 c1 : Nat) (ao : Option Addr) (cap : Nat) (md : List UInt8) : Tmp → Kn
  | 47 => .is (.int .i64 0)
  | 48 => .is (.bool false)
  | 49 => .is (.bool false)
  | 50 => .is (.int .i64 ((n + 10 : Nat) : Int))
  | 51 => .rd md
  | 52 => .is (.int .i64 ((n + 10 : Nat) : Int))
  | 53 => .is (.bool false)
  | 54 => .is (.bool false)
  | 55 => .is (.bool false)
  | 56 => .is (.agg #[.int .u8 (x : Nat), .int .u8 (y : Nat), .slice a1 n1 c1])
  | 57 => .is (.agg #[.int .u8 (x : Nat), .int .u8 (y : Nat), .slice a1 n1 c1])
  | 58 => .is (.agg #[.int .u8 (x : Nat), .int .u8 (y : Nat), .slice ao n cap])
  | 59 => .is (.bool true)
  | 60 => .is (.bool false)
  | 61 => .is (.bool false)
  | _ => .any

set_option maxRecDepth 20000 in
set_option maxHeartbeats 4000000 in
theorem frameBack_walk (x y : Nat) (s vb : Value) (p bh : List UInt8) (cut : Nat) (w : World) (hx : x < 256) (hy : y < 256) (h : Rd w s p) (hb : Rd w vb bh) (hc : cut < 65536) :
    Calls Try.prog 9 #[.agg #[.int .u8 (x : Nat), .int .u8 (y : Nat), s], vb, .int .u16 (cut : Nat)] w fun e w' => e = .returned (.bool true) ∧ Ext w w' := by
  obtain ⟨i, hi, hz, hsz, hby⟩ := info_parts infoU8
  obtain ⟨ao, cap, rfl⟩ := h.shape
  obtain ⟨bo, cap', rfl⟩ := hb.shape
  have hlen : p.length ≤ maxLen := by obtain ⟨_, _, _, g1, g2, _⟩ := h; omega
  have hlen' : bh.length ≤ maxLen := by obtain ⟨_, _, _, g1, g2, _⟩ := hb; omega
  unfold maxLen at hlen hlen'
  have hrr := fun w h => refRight_any x y (.slice ao p.length cap) p w hx hy h
  have H := Lib.hid h; have HB := Lib.hid hb
  by_cases h0 : frRight x y p.length = 0
  case neg =>
    have hne : (((frRight x y p.length : Nat) : Int) != 0) = true := by simp; omega
    have HRR := Lib.hid hrr
    clear h hb hrr hx hy h0
    generalize frRight x y p.length = e0 at *
    generalize hpl : p.length = n at *
    go_enter Try.func9, Try.ntmps9
    go_wp2_with (go_at_call 27; refine (HRR.out _ (H.out.ext ((Ch.refl _ _).alloc _))).mono ?_)
    rintro e w1 ⟨rfl, hx⟩
    have HX := Lib.hid (((Ch.refl _ w).alloc _).trans hx); clear hx
    go_wp2
    go_ret
    exact ⟨rfl, HX.out⟩
  rw [h0] at hrr
  have HRR := Lib.hid hrr
  clear hrr
  by_cases h60 : 60 < bh.length
  · clear h hb hx hy h0
    generalize hpl : p.length = n at *
    go_enter Try.func9, Try.ntmps9
    go_wp2_with (go_at_call 27; refine (HRR.out _ (H.out.ext ((Ch.refl _ _).alloc _))).mono ?_)
    rintro e w1 ⟨rfl, hx⟩
    have HX := Lib.hid (((Ch.refl _ w).alloc _).trans hx); clear hx
    go_wp2
    go_ret
    exact ⟨rfl, HX.out⟩
  obtain ⟨b1, b2, b3, b4⟩ := right_bounds h0
  have hown := fun w h => own_any x y (.slice ao p.length cap) p w h (by omega)
  have hmk := fun s w h => make_any x y s p w hx hy h (by omega)
  have hml := made_length h0
  have hmp := made_parse h0 bh
  have hmc := made_cut h0
  have HOWN := Lib.hid hown; have HMK := Lib.hid hmk; have HML := Lib.hid hml; have HMP := Lib.hid hmp; have HMC := Lib.hid hmc; have H0 := Lib.hid h0
  clear hown hmk hml hmp hmc h0 h hb hx hy b1 b2 b3
  have hmp0 : ∀ w e w', MakePost x y p w e w' ↔ ∃ t, e = .returned (.tuple #[t, .int .i64 (frRight x y p.length : Nat)]) ∧ Ext w w' ∧ Rd w' t (frBytes x y p) := fun _ _ _ => Iff.rfl
  have HMP0 := Lib.hid hmp0; clear hmp0
  generalize frBytes x y p = md at *
  generalize hpl : p.length = n at *
  have HPL := Lib.hid hpl; clear hpl
  generalize hbl : bh.length = nb at *
  have HBL := Lib.hid hbl; clear hbl
  have HR0 : Hid (∀ w, Rd w (.slice ao n cap) p → Calls Try.prog 27 #[.agg #[.int .u8 (x : Nat), .int .u8 (y : Nat), .slice ao n cap]] w fun e w' => e = .returned (.int .i64 0) ∧ Ext w w') := Lib.hid fun w h => HRR.out w h
  have hmp1 : ∀ w e w', MakePost x y p w e w' → ∃ t, e = .returned (.tuple #[t, .int .i64 0]) ∧ Ext w w' ∧ Rd w' t md := fun w e w' h => by
    obtain ⟨t, e1, e2, e3⟩ := (HMP0.out w e w').1 h
    rw [H0.out] at e1
    exact ⟨t, e1, e2, e3⟩
  have HMP1 := Lib.hid hmp1
  have hmod : (cut : Int).tmod ((n : Int) + 10) = ((cut % (n + 10) : Nat) : Int) := by
    rw [Int.tmod_eq_emod_of_nonneg (by omega)]
    simp
  have hmod' : (cut : Int) % ((n : Int) + 10) = ((cut % (n + 10) : Nat) : Int) := by simp
  have hmlt : cut % (n + 10) < n + 10 := Nat.mod_lt _ (by omega)
  generalize cut % (n + 10) = m at *
  have HM1 := Lib.hid hmod; have HM2 := Lib.hid hmod'
  clear hmp1 HRR HMP0 H0 hlen hlen' hmod hmod'
  obtain ⟨g3, hg3⟩ : ∃ g3, g3 = w.heap.size := ⟨_, rfl⟩
  have HG3' := Lib.hid hg3
  go_enter Try.func9, Try.ntmps9
  go_wp2_with (go_at_call 27; refine (HR0.out _ (H.out.ext ((Ch.refl _ _).alloc _))).mono ?_)
  rintro e w1 ⟨rfl, hx⟩
  have hr3 : w1.heap[g3]? = some (.cells #[.int .u8 (x : Nat), .int .u8 (y : Nat), .slice ao n cap] 44 (0, 0)) := by
    rw [hg3, hx.block _ (by simp) (fun f => f)]; exact heap_alloc_new w _
  rw [← hg3]
  clear hg3
  have HX1 := Lib.hid (((Ch.refl _ w).alloc _).trans hx); have HG31 := Lib.hid hr3
  clear hx hr3
  go_wp2_with (first
    | (refine wpList_load_row rfl _ _ rfl g3 rfl _ _ _ _ HG31.out Try.underlying44 rfl info44 ?_)
    | (go_at_call 29; refine (HOWN.out _ (H.out.ext HX1.out)).mono ?_))
  rintro e w2 ⟨t2, rfl, hx, hr2⟩
  have HX2 := Lib.hid (HX1.out.trans hx); have HR2 := Lib.hid hr2
  have HG32 : Hid (w2.heap[g3]? = some (.cells #[.int .u8 (x : Nat), .int .u8 (y : Nat), .slice ao n cap] 44 (0, 0))) := Lib.hid (by rw [hx.block _ (Array.getElem?_eq_some_iff.1 HG31.out).1 (fun f => f)]; exact HG31.out)
  clear hx hr2 HG31 HX1
  go_wp2_with (go_at_call 28; refine (HMK.out _ _ HR2.out).mono ?_)
  intro e w3 hm
  obtain ⟨t3, rfl, hx, hr3⟩ := HMP1.out _ _ _ hm
  obtain ⟨a7, c7, rfl⟩ := hr3.shape
  obtain ⟨gm, om, rfl, hcm, _, _⟩ := bytes_cell hr3 rfl (by rw [HML.out]; omega)
  rw [HML.out] at hr3 hcm ⊢
  have HX3 := Lib.hid (HX2.out.trans hx); have HMD3 := Lib.hid hr3
  have HG33 : Hid (w3.heap[g3]? = some (.cells #[.int .u8 (x : Nat), .int .u8 (y : Nat), .slice ao n cap] 44 (0, 0))) := Lib.hid (by rw [hx.block _ (Array.getElem?_eq_some_iff.1 HG32.out).1 (fun f => f)]; exact HG32.out)
  have hc2 : w3.cell? ⟨g3, 2, none⟩ = some (.slice ao n cap) := by rw [cell_of_row _ _ _ _ _ _ HG33.out]; rfl
  clear hx hr3 hm HG32 HX2 HR2 HMK HOWN HMP1 HR0
  have hown0 := World.ownsRow_made (e := 5) (size := 1) w3 #[] 0 (Nat.le_refl _) (by decide) (by simp)
  have hrd0 := Rd.ext HMD3.out ((Ch.refl _ w3).alloc (.cells #[] 5))
  unfold Rd at hrd0
  rw [HML.out] at hrd0
  have HO0 := Lib.hid hown0; have HD0 := Lib.hid hrd0; clear hown0 hrd0
  go_wp2_with (at_builtin; refine wpList_append_sl _ rfl _ _ 23 rfl w3.heap.size 5 i (.int .u8 0) 1 1 Try.underlying23 hi hz hsz hby rfl (by decide) _ _ _ rfl HO0.out _ _ _ rfl HD0.out (by rw [cellsB_length, HML.out, Nat.mul_one]) (cellsB_one _) (by omega) (by unfold maxLen; omega) (by simp) ?_)
  intro v4 w4 hown4 hgrow4
  obtain ⟨a4, c4, rfl⟩ := owns_shape hown4
  have hx4 : Ext w3 w4 := ((Ch.refl _ w3).alloc _).grown hgrow4 fun k hk => by have := (HO0.out.lt k hk).1; exact .inr this
  have HX4 := Lib.hid hx4; have HO4 := Lib.hid hown4
  have hrb := HB.out.ext (HX3.out.trans hx4)
  unfold Rd at hrb
  rw [HBL.out] at hrb
  have HRB := Lib.hid hrb
  clear hx4 hown4 hgrow4 hrb HO0 HD0 hc2
  go_wp2_with (at_builtin; refine wpList_append_sl _ rfl _ _ 23 rfl w3.heap.size 5 i (.int .u8 0) 1 1 Try.underlying23 hi hz hsz hby rfl (by decide) _ _ _ rfl HO4.out _ _ _ rfl HRB.out (by rw [cellsB_length, HBL.out, Nat.mul_one]) (cellsB_one _) (by omega) (by unfold maxLen; omega) HX4.out.size ?_)
  intro v5 w5 hown5 hgrow5
  have hx5 : Ext w3 w5 := HX4.out.grown hgrow5 fun k hk => by have := (HO4.out.lt k hk).1; exact .inr this
  rw [← cellsB_append] at hown5
  have hpa := parse_any v5 (md ++ bh) w5 (Rd.ofOwns hown5) (by rw [List.length_append, HML.out, HBL.out]; omega)
  obtain ⟨a5, c5, rfl⟩ := owns_shape hown5
  have HX5 := Lib.hid hx5; have HPA := Lib.hid hpa
  clear hx5 hown5 hgrow5 hpa HX4 HO4 HRB
  go_wp2_with (go_at_call 22; refine HPA.out.mono ?_)
  rintro e w6 ⟨tp, rfl, hx, hrp⟩
  obtain ⟨m1, m2, m3, m4, m5⟩ := HMP.out
  rw [m4] at hrp
  rw [m1, m2, m3, m5]
  clear m1 m2 m3 m4 m5
  obtain ⟨a1, c1, rfl⟩ := hrp.shape
  generalize hn1 : p.length = n1 at *
  clear hn1
  have hx36 : Ext w3 w6 := HX5.out.trans hx
  have hx7 : Ext w3 (w6.alloc (.cells #[.int .u8 (x : Nat), .int .u8 (y : Nat), .slice a1 n1 c1] 40)) := hx36.alloc _
  have HG9 := Lib.hid (heap_alloc_new w6 (.cells #[.int .u8 (x : Nat), .int .u8 (y : Nat), .slice a1 n1 c1] 40))
  have HG3 : Hid ((w6.alloc (.cells #[.int .u8 (x : Nat), .int .u8 (y : Nat), .slice a1 n1 c1] 40)).heap[g3]? = some (.cells #[.int .u8 (x : Nat), .int .u8 (y : Nat), .slice ao n cap] 44 (0, 0))) := Lib.hid (by rw [hx7.block _ (Array.getElem?_eq_some_iff.1 HG33.out).1 (fun f => f)]; exact HG33.out)
  have HRP := Lib.hid (hrp.ext ((Ch.refl _ w6).alloc (.cells #[.int .u8 (x : Nat), .int .u8 (y : Nat), .slice a1 n1 c1] 40)))
  have HRF := Lib.hid (H.out.ext (HX3.out.trans hx7)); have HMD := Lib.hid (HMD3.out.ext hx7); have HX7 := Lib.hid (HX3.out.trans hx7)
  have hgw : w.heap.size ≤ w6.heap.size := by have := (HX3.out.trans hx36).size; exact this
  have HGW := Lib.hid hgw
  clear hx hx36 hx7 hrp hgw HPA HX5 HMD3 HG33 HX3
  go_wp2
  generalize w6.alloc (.cells #[.int .u8 (x : Nat), .int .u8 (y : Nat), .slice a1 n1 c1] 40) = w7 at *
  generalize w6.heap.size = g9 at *
  refine wp_region_ext (frBackT x y n a1 n1 c1 ao cap md) mixedEq (by rfl) (by rfl) ?all ?fin
  case all =>
    refine ⟨?_, ?_, ?_, ?_, ?_, ?_, ?_, ?_, ?_, ?_, ?_, ?_, ?_, ?_, ?_, trivial⟩
    · -- 0: slot 47 := Op.move t11
      refine StepOK.plain (kn_stable _) rfl fun ρ w hρ hw hf => ?_
      have h11 : ρ (.tmp 11) = (.int .i64 0) := (hf 11).2 rfl rfl
      exact Exec.kmove rfl rfl h11
    · -- 1: slot 48 := Op.binOp BinOp.neq 41 t47 (const (0:i64)) 41
      refine StepOK.plain (kn_stable _) rfl fun ρ w hρ hw hf => ?_
      have h47 : ρ (.tmp 47) = (.int .i64 0) := (hf 47).1 rfl
      exact Exec.same (v := .bool false) rfl (by simp [go_sem, hρ.const, h47]) rfl
    · -- 2: slot 49 := Op.move t48
      refine StepOK.plain (kn_stable _) rfl fun ρ w hρ hw hf => ?_
      have h48 : ρ (.tmp 48) = (.bool false) := (hf 48).1 rfl
      exact Exec.kmove rfl rfl h48
    · -- 3: slot 50 := Op.move t10
      refine StepOK.guarded (kn_stable _) 2 false 49 rfl rfl (fun ρ w _ _ hf => (hf 49).1 rfl) fun ρ w hρ hw hf => ?_
      have h10 : ρ (.tmp 10) = (.int .i64 ((n + 10 : Nat) : Int)) := (hf 10).2 rfl rfl
      exact Exec.kmove rfl rfl h10
    · -- 4: slot 51 := Op.move t7
      refine StepOK.guarded (kn_stable _) 2 false 49 rfl rfl (fun ρ w _ _ hf => (hf 49).1 rfl) fun ρ w hρ hw hf => ?_
      have h7 : ρ (.tmp 7) = (.slice (some ⟨gm, om, none⟩) (n + 10) c7) := (hf 7).2 rfl rfl
      exact Exec.kmove rfl rfl (by rw [h7]; exact HMD.out.ext hw)
    · -- 5: slot 52 := Op.call { builtin len, args := #[t51], argTypes := #[23] }
      refine StepOK.guarded (kn_stable _) 2 false 49 rfl rfl (fun ρ w _ _ hf => (hf 49).1 rfl) fun ρ w hρ hw hf => ?_
      have h51 : Rd w (ρ (.tmp 51)) (md) := (hf 51).1 rfl
      exact Exec.klen (ats := #[]) rfl rfl Try.underlying23 h51 (by rw [HML.out]; exact rfl)
    · -- 6: slot 53 := Op.binOp BinOp.neq 3 t50 t52 3
      refine StepOK.guarded (kn_stable _) 2 false 49 rfl rfl (fun ρ w _ _ hf => (hf 49).1 rfl) fun ρ w hρ hw hf => ?_
      have h50 : ρ (.tmp 50) = (.int .i64 ((n + 10 : Nat) : Int)) := (hf 50).1 rfl
      have h52 : ρ (.tmp 52) = (.int .i64 ((n + 10 : Nat) : Int)) := (hf 52).1 rfl
      exact Exec.same (v := .bool false) rfl (by simp [go_sem, hρ.const, h50, h52]) rfl
    · -- 7: slot 54 := Op.pick t49 (const (Value.bool true)) t53
      refine StepOK.plain (kn_stable _) rfl fun ρ w hρ hw hf => ?_
      have h49 : ρ (.tmp 49) = (.bool false) := (hf 49).1 rfl
      have h53 : ρ (.tmp 53) = (.bool false) := (hf 53).1 rfl
      exact Exec.kpickF rfl rfl h49 h53
    · -- 8: slot 55 := Op.move t54
      refine StepOK.plain (kn_stable _) rfl fun ρ w hρ hw hf => ?_
      have h54 : ρ (.tmp 54) = (.bool false) := (hf 54).1 rfl
      exact Exec.kmove rfl rfl h54
    · -- 9: slot 56 := Op.load 40 t9
      refine StepOK.guarded (kn_stable _) 8 false 55 rfl rfl (fun ρ w _ _ hf => (hf 55).1 rfl) fun ρ w hρ hw hf => ?_
      have h9 : ρ (.tmp 9) = (.pointer (some ⟨g9, 0, none⟩)) := (hf 9).2 rfl rfl
      have hg := hw.block g9 (Array.getElem?_eq_some_iff.1 HG9.out).1 (fun f => f)
      rw [HG9.out] at hg
      exact Exec.kloadrow rfl rfl h9 hg Try.underlying40 rfl info40 rfl
    · -- 10: slot 57 := Op.call { value (Operand.func 25), args := #[t56], argTypes := #[40] }
      refine StepOK.guarded (kn_stable _) 8 false 55 rfl rfl (fun ρ w _ _ hf => (hf 55).1 rfl) fun ρ w hρ hw hf => ?_
      have h56 : ρ (.tmp 56) = (.agg #[.int .u8 (x : Nat), .int .u8 (y : Nat), .slice a1 n1 c1]) := (hf 56).1 rfl
      refine Exec.kcall #[.agg #[.int .u8 (x : Nat), .int .u8 (y : Nat), .slice a1 n1 c1]] hρ rfl rfl (by simp [hρ.const, h56]) Try.func25 (by rfl) rfl ?_
      refine (back_any _ _ _ _ _ w).mono ?_
      rintro e w' ⟨rfl, hx⟩
      exact ⟨_, rfl, rfl, hx⟩
    · -- 11: slot 58 := Op.load 44 t3
      refine StepOK.guarded (kn_stable _) 8 false 55 rfl rfl (fun ρ w _ _ hf => (hf 55).1 rfl) fun ρ w hρ hw hf => ?_
      have h3 : ρ (.tmp 3) = (.pointer (some ⟨g3, 0, none⟩)) := (hf 3).2 rfl rfl
      have hg := hw.block g3 (Array.getElem?_eq_some_iff.1 HG3.out).1 (fun f => f)
      rw [HG3.out] at hg
      exact Exec.kloadrow rfl rfl h3 hg Try.underlying44 rfl info44 rfl
    · -- 12: slot 59 := Op.call { value (Operand.func 24), args := #[t57, t58], argTypes := #[
      refine StepOK.guarded (kn_stable _) 8 false 55 rfl rfl (fun ρ w _ _ hf => (hf 55).1 rfl) fun ρ w hρ hw hf => ?_
      have h57 : ρ (.tmp 57) = (.agg #[.int .u8 (x : Nat), .int .u8 (y : Nat), .slice a1 n1 c1]) := (hf 57).1 rfl
      have h58 : ρ (.tmp 58) = (.agg #[.int .u8 (x : Nat), .int .u8 (y : Nat), .slice ao n cap]) := (hf 58).1 rfl
      refine Exec.kcall #[.agg #[.int .u8 (x : Nat), .int .u8 (y : Nat), .slice a1 n1 c1], .agg #[.int .u8 (x : Nat), .int .u8 (y : Nat), .slice ao n cap]] hρ rfl rfl (by simp [hρ.const, h57, h58]) Try.func24 (by rfl) rfl ?_
      refine (same4_any _ _ _ _ _ _ _ _ w (HRP.out.ext hw) (HRF.out.ext hw)).mono ?_
      rintro e w' ⟨rfl, hx⟩
      exact ⟨_, rfl, by simp; exact rfl, hx⟩
    · -- 13: slot 60 := Op.unOp UnOp.not 4 t59
      refine StepOK.guarded (kn_stable _) 8 false 55 rfl rfl (fun ρ w _ _ hf => (hf 55).1 rfl) fun ρ w hρ hw hf => ?_
      have h59 : ρ (.tmp 59) = (.bool true) := (hf 59).1 rfl
      exact Exec.same (v := .bool false) rfl (by simp [go_sem, hρ.const, h59]) rfl
    · -- 14: slot 61 := Op.pick t55 (const (Value.bool true)) t60
      refine StepOK.plain (kn_stable _) rfl fun ρ w hρ hw hf => ?_
      have h55 : ρ (.tmp 55) = (.bool false) := (hf 55).1 rfl
      have h60 : ρ (.tmp 60) = (.bool false) := (hf 60).1 rfl
      exact Exec.kpickF rfl rfl h55 h60

  case fin =>
    intro ν w8 hfin hext
    have h0 : ν 61 = .bool false := hfin 14 61 rfl
    simp only [Exit.then, ended, List.foldl_cons, List.foldl_nil, List.setIfInBounds_toArray, List.set_cons_succ, List.set_cons_zero, h0]
    have HX8 := Lib.hid (HX7.out.trans hext)
    have HG98 : Hid (w8.heap[g9]? = some (.cells #[.int .u8 (x : Nat), .int .u8 (y : Nat), .slice a1 n1 c1] 40 (0, 0))) := Lib.hid (by rw [hext.block _ (Array.getElem?_eq_some_iff.1 HG9.out).1 (fun f => f)]; exact HG9.out)
    have hmd8 := (HMD.out.ext hext)
    rw [show n + 10 = md.length by rw [HML.out]] at hmd8
    have hpc := parse_any _ (md.take m) w8 (hmd8.take m (by rw [HML.out]; omega)) (by rw [List.length_take, HML.out]; omega)
    have hfe := HMC.out m hmlt
    have f1 : frV (md.take m) = 0 := by unfold frV; rw [if_neg (by rw [hfe]; decide)]
    have f2 : frK (md.take m) = 0 := by unfold frK; rw [if_neg (by rw [hfe]; decide)]
    have f3 : frP (md.take m) = [] := by unfold frP; rw [if_neg (by rw [hfe]; decide)]
    have f4 : frSize (md.take m) = 0 := by unfold frSize; rw [if_neg (by rw [hfe]; decide)]
    have HPC := Lib.hid hpc; have HF1 := Lib.hid f1; have HF2 := Lib.hid f2; have HF3 := Lib.hid f3; have HF4 := Lib.hid f4; have HFE := Lib.hid hfe
    have hmod := HM1.out
    have hmod' := HM2.out
    clear hext hfin h0 hmd8 hpc f1 f2 f3 f4 hfe HRP HRF HG3 HG9 HMD HX7 HMP HMC HM1 HM2
    go_wp2_with (go_at_call 22; refine HPC.out.mono ?_)
    rintro e w9 ⟨tq, rfl, hx, hrq⟩
    rw [HF3.out] at hrq
    rw [HF1.out, HF2.out, HF4.out, HFE.out]
    obtain ⟨a9, c9, rfl⟩ := hrq.shape
    have HG99 : Hid (w9.heap[g9]? = some (.cells #[.int .u8 (x : Nat), .int .u8 (y : Nat), .slice a1 n1 c1] 40 (0, 0))) := Lib.hid (by rw [hx.block _ (Array.getElem?_eq_some_iff.1 HG98.out).1 (fun f => f)]; exact HG98.out)
    have hx10 : Ext w (w9.setRow g9 #[.int .u8 0, .int .u8 0, .slice a9 0 c9]) := (HX8.out.trans hx).setRow (.inr HGW.out) _
    have hsr := setRow_heap _ _ _ #[.int .u8 0, .int .u8 0, .slice a9 0 c9] _ _ HG99.out
    have hk1 : (w9.setRow g9 #[.int .u8 0, .int .u8 0, .slice a9 0 c9]).cell? ⟨g9, 1, none⟩ = some (.int .u8 0) := by rw [cell_of_row _ _ _ _ _ _ hsr]; rfl
    have hk2 : (w9.setRow g9 #[.int .u8 0, .int .u8 0, .slice a9 0 c9]).cell? ⟨g9, 2, none⟩ = some (.slice a9 0 c9) := by rw [cell_of_row _ _ _ _ _ _ hsr]; rfl
    have HX10 := Lib.hid hx10
    clear hx hrq hx10 hsr HPC HF1 HF2 HF3 HF4 HFE HX8 HG98 hmod hmod'
    go_wp2_with (first
      | (refine wpList_store_rowTo rfl _ _ _ rfl rfl g9 #[.int .u8 0, .int .u8 0, .slice a9 0 c9] rfl rfl _ _ HG99.out info40 rfl (row_one _ _ _ _ _) ?_)
      | (go_at_call 26; refine (awake4_any _).mono ?_))
    rintro e w11 ⟨rfl, hx⟩
    have HX11 := Lib.hid (HX10.out.trans hx); clear hx
    go_wp2
    go_ret
    exact ⟨rfl, HX11.out⟩

end Go.Proofs.Ytcdhalgpnhdbnaa
