/-
  FrameMakes: the walk.
-/
import Derived.Test.YtcdhalgpnhdbnaaDoorProg
import Derived.Test.YtcdhalgpnhdbnaaDoorLib
import Derived.Test.YtcdhalgpnhdbnaaDoorLibC
import Derived.Test.YtcdhalgpnhdbnaaDoorInfo
import Derived.Test.YtcdhalgpnhdbnaaDoorLibD
import Derived.Test.YtcdhalgpnhdbnaaDoorEqual
import Derived.Test.YtcdhalgpnhdbnaaDoorFrA
import Derived.Test.YtcdhalgpnhdbnaaDoorFrB
import Derived.Test.YtcdhalgpnhdbnaaDoorFrD
import Derived.Test.YtcdhalgpnhdbnaaDoorRefM
import Derived.Test.YtcdhalgpnhdbnaaDoorNames
import Derived.Test.YtcdhalgpnhdbnaaDoorAwake4
import Derived.WalkKit
import Derived.Lib.Hide
import Derived.Outline
import Derived.Laws.BitsAllLaws
namespace Go.Proofs.YtcdhalgpnhdbnaaDoor
open Go.RowKit Go.Lac

def makes7T (g3 y : Nat) (nb : List UInt8) : Tmp → Kn
  | 7 => .is (strV nb)
  | 26 => .sl 9 nmC
  | 27 => .is (.pointer (some ⟨g3, 1, none⟩))
  | 28 => .is (.int .u8 (y : Nat))
  | 29 => Kn.spot (strV nb)
  | 30 => .is (strV nb)
  | _ => .any

def makes8T (g3 x y : Nat) (ao : Option Addr) (n cap : Nat) (p md : List UInt8) (er : Nat) (nb : List UInt8) : Tmp → Kn
  | 2 => .is (.bool true)
  | 31 => .rd md
  | 32 => .is (strV md)
  | 33 => .rd md
  | 34 => .is (strV md)
  | 35 => .is (.bool true)
  | 36 => .is (.bool true)
  | 37 => .is (.int .i64 (er : Nat))
  | 38 => .is (.int .i64 (er : Nat))
  | 39 => .is (.bool true)
  | 40 => .is (.bool true)
  | 41 => .is (.bool true)
  | 42 => .is (.agg #[.int .u8 (x : Nat), .int .u8 (y : Nat), .slice ao n cap])
  | 43 => Kn.frm x y p
  | 44 => .is (.int .i64 (er : Nat))
  | 45 => .is (.agg #[.int .u8 (x : Nat), .int .u8 (y : Nat), .slice ao n cap])
  | 46 => .is (.int .i64 (er : Nat))
  | 47 => .is (.bool true)
  | 48 => .is (.bool true)
  | 49 => .is (.bool true)
  | 50 => .is (.pointer (some ⟨g3, 1, none⟩))
  | 51 => .is (.int .u8 (y : Nat))
  | 52 => .is (strV nb)
  | 53 => .is (strV nb)
  | 54 => .is (.bool true)
  | 55 => .is (.bool true)
  | 56 => .is (.bool true)
  | 57 => .is (.bool true)
  | 58 => .is (.bool true)
  | _ => .any

set_option maxRecDepth 20000 in
set_option maxHeartbeats 8000000 in
theorem frameMakes_walk (x y : Nat) (s : Value) (p : List UInt8) (w : World) (hx : x < 256) (hy : y < 256) (h : Rd w s p) {E : TypeId} {F : Nat × Nat} (hn : w.heap[0]? = some (.cells nmC.toArray E F)) :
    Calls Tryd.prog 3 #[.agg #[.int .u8 (x : Nat), .int .u8 (y : Nat), s]] w fun e w' => e = .returned (.bool true) ∧ Ext w w' := by
  obtain ⟨iS, hiS, hsS⟩ := infoStr
  obtain ⟨ao, cap, rfl⟩ := h.shape
  have hlen : p.length ≤ maxLen := by obtain ⟨_, _, _, g1, g2, _⟩ := h; omega
  unfold maxLen at hlen
  by_cases h5 : 5000 < p.length
  · clear h hn hx hy
    generalize p.length = n at *
    go_enter Tryd.func3, Tryd.ntmps3
    go_wp2
    go_ret
    exact ⟨rfl, (Ch.refl _ _).alloc _⟩
  have hown := fun w h => own_any x y (.slice ao p.length cap) p w h (by omega)
  have hmk := fun s w h => make_any x y s p w hx hy h (by omega)
  have hrm := fun w h => refMake_any x y (.slice ao p.length cap) p w hx hy h (by omega)
  have hfr := fun s w h => fRight_any x y s p w hx hy h
  have hrr := fun w h => refRight_any x y (.slice ao p.length cap) p w hx hy h
  have hmp0 : ∀ w e w', MakePost x y p w e w' → ∃ t, e = .returned (.tuple #[t, .int .i64 (frRight x y p.length : Nat)]) ∧ Ext w w' ∧ Rd w' t (frBytes x y p) := fun _ _ _ h => h
  have H := Lib.hid h; have HOWN := Lib.hid hown; have HMK := Lib.hid hmk; have HRM := Lib.hid hrm; have HFR := Lib.hid hfr; have HRR := Lib.hid hrr; have HMP := Lib.hid hmp0
  have HY := Lib.hid hy; have HNM := Lib.hid hn; have HIS := Lib.hid hiS; have HSS := Lib.hid hsS
  clear h hown hmk hrm hfr hrr hmp0 hx hn hiS hsS
  generalize frBytes x y p = md at *
  generalize frRight x y p.length = er at *
  generalize hpl : p.length = n at *
  clear hpl
  obtain ⟨nb, hnb⟩ : ∃ nb, nmB y = nb := ⟨_, rfl⟩
  have HNB := Lib.hid hnb
  have hnb0 : 9 ≤ y → nb = [] := fun h => by rw [← hnb]; exact nmB_out y h
  clear hnb
  obtain ⟨g3, hg3⟩ : ∃ g3, g3 = w.heap.size := ⟨_, rfl⟩
  have HX0 := Lib.hid ((Ch.refl (fun _ => False) w).alloc (.cells #[.int .u8 (x : Nat), .int .u8 (y : Nat), .slice ao n cap] 24))
  go_enter Tryd.func3, Tryd.ntmps3
  go_wp2_with (go_at_call 5; refine (HOWN.out _ (H.out.ext HX0.out)).mono ?_)
  rintro e w1 ⟨t1, rfl, hx, hr1⟩
  have hb := hx.block w.heap.size (by simp) (fun f => f)
  rw [heap_alloc_new] at hb
  rw [← hg3] at hb ⊢
  have HG31 := Lib.hid hb; have HX1 := Lib.hid (HX0.out.trans hx); have HR1 := Lib.hid hr1
  clear hx hr1 hb hg3 HX0
  go_wp2_with (go_at_call 4; refine (HMK.out _ _ HR1.out).mono ?_)
  intro e w2 hm
  obtain ⟨t2, rfl, hx, hr2⟩ := HMP.out _ _ _ hm
  obtain ⟨a3, c3, rfl⟩ := hr2.shape
  have HX2 := Lib.hid (HX1.out.trans hx); have HM2 := Lib.hid hr2
  have HG32 : Hid (w2.heap[g3]? = some (.cells #[.int .u8 (x : Nat), .int .u8 (y : Nat), .slice ao n cap] 24 (0, 0))) := Lib.hid (by rw [hx.block _ (Array.getElem?_eq_some_iff.1 HG31.out).1 (fun f => f)]; exact HG31.out)
  clear hx hr2 hm HG31 HX1 HR1 HMK
  go_wp2_with (first
    | (refine wpList_load_row rfl _ _ rfl g3 rfl _ _ _ _ HG32.out Tryd.underlying24 rfl info44 ?_)
    | (go_at_call 6; refine (HRM.out _ (H.out.ext HX2.out)).mono ?_))
  intro e w3 hm
  obtain ⟨t3, rfl, hx, hr3⟩ := HMP.out _ _ _ hm
  obtain ⟨a5, c5, rfl⟩ := hr3.shape
  generalize md.length = nm at *
  have HX3 := Lib.hid (HX2.out.trans hx); have HM5 := Lib.hid hr3; have HM3 := Lib.hid (HM2.out.ext hx)
  have HG3 : Hid (w3.heap[g3]? = some (.cells #[.int .u8 (x : Nat), .int .u8 (y : Nat), .slice ao n cap] 24 (0, 0))) := Lib.hid (by rw [hx.block _ (Array.getElem?_eq_some_iff.1 HG32.out).1 (fun f => f)]; exact HG32.out)
  have hc1 : w3.cell? ⟨g3, 1, none⟩ = some (.int .u8 (y : Nat)) := by rw [cell_of_row _ _ _ _ _ _ HG3.out]; rfl
  have hnm := HX3.out.block 0 (Array.getElem?_eq_some_iff.1 HNM.out).1 (fun f => f)
  rw [HNM.out] at hnm
  have HNM := Lib.hid hnm; have HRP := Lib.hid (H.out.ext HX3.out)
  clear hx hr3 hm HG32 HX2 HM2 HRM HMP hnm H
  by_cases h9 : 9 ≤ y
  · have HNE := Lib.hid (hnb0 h9)
    clear hnb0
    go_wp2
    refine wp_region_ext (makes8T g3 x y ao n cap p md er nb) mixedEq (by rfl) (by rfl) ?all8 ?fin8
    case all8 =>
      refine ⟨?_, ?_, ?_, ?_, ?_, ?_, ?_, ?_, ?_, ?_, ?_, ?_, ?_, ?_, ?_, ?_, ?_, ?_, ?_, ?_, ?_, ?_, ?_, ?_, ?_, ?_, ?_, ?_, ?_, trivial⟩
      · -- 0: slot 31 := Op.move t3
        refine StepOK.plain (kn_stable _) rfl fun ρ w hρ hw hf => ?_
        have h3 : ρ (.tmp 3) = (.slice a3 nm c3) := (hf 3).2 rfl rfl
        exact Exec.kmove rfl rfl (by rw [h3]; exact HM3.out.ext hw)
      · -- 1: slot 32 := Op.convert 22 9 t31
        refine StepOK.plain (kn_stable _) rfl fun ρ w hρ hw hf => ?_
        have h31 : Rd w (ρ (.tmp 31)) (md) := (hf 31).1 rfl
        exact Exec.kstr rfl rfl Tryd.underlying22 Tryd.underlying5 Tryd.underlying9 h31 rfl
      · -- 2: slot 33 := Op.move t5
        refine StepOK.plain (kn_stable _) rfl fun ρ w hρ hw hf => ?_
        have h5 : ρ (.tmp 5) = (.slice a5 nm c5) := (hf 5).2 rfl rfl
        exact Exec.kmove rfl rfl (by rw [h5]; exact HM5.out.ext hw)
      · -- 3: slot 34 := Op.convert 22 9 t33
        refine StepOK.plain (kn_stable _) rfl fun ρ w hρ hw hf => ?_
        have h33 : Rd w (ρ (.tmp 33)) (md) := (hf 33).1 rfl
        exact Exec.kstr rfl rfl Tryd.underlying22 Tryd.underlying5 Tryd.underlying9 h33 rfl
      · -- 4: slot 35 := Op.binOp BinOp.eql 9 t32 t34 9
        refine StepOK.plain (kn_stable _) rfl fun ρ w hρ hw hf => ?_
        have h32 : ρ (.tmp 32) = (strV md) := (hf 32).1 rfl
        have h34 : ρ (.tmp 34) = (strV md) := (hf 34).1 rfl
        exact Exec.kstreq rfl rfl Tryd.underlying9 h32 h34 (by simp; exact rfl)
      · -- 5: slot 36 := Op.move t35
        refine StepOK.plain (kn_stable _) rfl fun ρ w hρ hw hf => ?_
        have h35 : ρ (.tmp 35) = (.bool true) := (hf 35).1 rfl
        exact Exec.kmove rfl rfl h35
      · -- 6: slot 37 := Op.move t4
        refine StepOK.guarded (kn_stable _) 5 true 36 rfl rfl (fun ρ w _ _ hf => (hf 36).1 rfl) fun ρ w hρ hw hf => ?_
        have h4 : ρ (.tmp 4) = (.int .i64 (er : Nat)) := (hf 4).2 rfl rfl
        exact Exec.kmove rfl rfl h4
      · -- 7: slot 38 := Op.move t6
        refine StepOK.guarded (kn_stable _) 5 true 36 rfl rfl (fun ρ w _ _ hf => (hf 36).1 rfl) fun ρ w hρ hw hf => ?_
        have h6 : ρ (.tmp 6) = (.int .i64 (er : Nat)) := (hf 6).2 rfl rfl
        exact Exec.kmove rfl rfl h6
      · -- 8: slot 39 := Op.binOp BinOp.eql 3 t37 t38 3
        refine StepOK.guarded (kn_stable _) 5 true 36 rfl rfl (fun ρ w _ _ hf => (hf 36).1 rfl) fun ρ w hρ hw hf => ?_
        have h37 : ρ (.tmp 37) = (.int .i64 (er : Nat)) := (hf 37).1 rfl
        have h38 : ρ (.tmp 38) = (.int .i64 (er : Nat)) := (hf 38).1 rfl
        exact Exec.same (v := .bool true) rfl (by simp [go_sem, hρ.const, h37, h38]) rfl
      · -- 9: slot 40 := Op.pick t36 t39 (const (Value.bool false))
        refine StepOK.plain (kn_stable _) rfl fun ρ w hρ hw hf => ?_
        have h36 : ρ (.tmp 36) = (.bool true) := (hf 36).1 rfl
        have h39 : ρ (.tmp 39) = (.bool true) := (hf 39).1 rfl
        exact Exec.kpickT rfl rfl h36 h39
      · -- 10: slot 41 := Op.move t40
        refine StepOK.plain (kn_stable _) rfl fun ρ w hρ hw hf => ?_
        have h40 : ρ (.tmp 40) = (.bool true) := (hf 40).1 rfl
        exact Exec.kmove rfl rfl h40
      · -- 11: slot 42 := Op.load 24 t1
        refine StepOK.guarded (kn_stable _) 10 true 41 rfl rfl (fun ρ w _ _ hf => (hf 41).1 rfl) fun ρ w hρ hw hf => ?_
        have h1 : ρ (.tmp 1) = (.pointer (some ⟨g3, 0, none⟩)) := (hf 1).2 rfl rfl
        have hg := hw.block g3 (Array.getElem?_eq_some_iff.1 HG3.out).1 (fun f => f)
        rw [HG3.out] at hg
        exact Exec.kloadrow rfl rfl h1 hg Tryd.underlying24 rfl info44 rfl
      · -- 12: slot 43 := Op.call { value (Operand.func 5), args := #[t42], argTypes := #[24] }
        refine StepOK.guarded (kn_stable _) 10 true 41 rfl rfl (fun ρ w _ _ hf => (hf 41).1 rfl) fun ρ w hρ hw hf => ?_
        have h42 : ρ (.tmp 42) = (.agg #[.int .u8 (x : Nat), .int .u8 (y : Nat), .slice ao n cap]) := (hf 42).1 rfl
        refine Exec.kcall #[.agg #[.int .u8 (x : Nat), .int .u8 (y : Nat), .slice ao n cap]] hρ rfl rfl (by simp [h42]) Tryd.func5 (by rfl) rfl ?_
        refine (HOWN.out w (HRP.out.ext hw)).mono ?_
        rintro e w' ⟨t, rfl, hx, hr⟩
        exact ⟨_, rfl, ⟨t, rfl, hr⟩, hx⟩
      · -- 13: slot 44 := Op.call { value (Operand.func 8), args := #[t43], argTypes := #[28] }
        refine StepOK.guarded (kn_stable _) 10 true 41 rfl rfl (fun ρ w _ _ hf => (hf 41).1 rfl) fun ρ w hρ hw hf => ?_
        have h43 : (Kn.frm x y p).holds (ρ (.tmp 43)) w := (hf 43).1 rfl
        obtain ⟨sq, hq1, hq2⟩ := h43
        refine Exec.kcall #[.agg #[.int .u8 (x : Nat), .int .u8 (y : Nat), sq]] hρ rfl rfl (by simp [hq1]) Tryd.func8 (by rfl) rfl ?_
        refine (HFR.out sq w hq2).mono ?_
        rintro e w' ⟨rfl, hx⟩
        exact ⟨_, rfl, rfl, hx⟩
      · -- 14: slot 45 := Op.load 24 t1
        refine StepOK.guarded (kn_stable _) 10 true 41 rfl rfl (fun ρ w _ _ hf => (hf 41).1 rfl) fun ρ w hρ hw hf => ?_
        have h1 : ρ (.tmp 1) = (.pointer (some ⟨g3, 0, none⟩)) := (hf 1).2 rfl rfl
        have hg := hw.block g3 (Array.getElem?_eq_some_iff.1 HG3.out).1 (fun f => f)
        rw [HG3.out] at hg
        exact Exec.kloadrow rfl rfl h1 hg Tryd.underlying24 rfl info44 rfl
      · -- 15: slot 46 := Op.call { value (Operand.func 9), args := #[t45], argTypes := #[24] }
        refine StepOK.guarded (kn_stable _) 10 true 41 rfl rfl (fun ρ w _ _ hf => (hf 41).1 rfl) fun ρ w hρ hw hf => ?_
        have h45 : ρ (.tmp 45) = (.agg #[.int .u8 (x : Nat), .int .u8 (y : Nat), .slice ao n cap]) := (hf 45).1 rfl
        refine Exec.kcall #[.agg #[.int .u8 (x : Nat), .int .u8 (y : Nat), .slice ao n cap]] hρ rfl rfl (by simp [h45]) Tryd.func9 (by rfl) rfl ?_
        refine (HRR.out w (HRP.out.ext hw)).mono ?_
        rintro e w' ⟨rfl, hx⟩
        exact ⟨_, rfl, rfl, hx⟩
      · -- 16: slot 47 := Op.binOp BinOp.eql 3 t44 t46 3
        refine StepOK.guarded (kn_stable _) 10 true 41 rfl rfl (fun ρ w _ _ hf => (hf 41).1 rfl) fun ρ w hρ hw hf => ?_
        have h44 : ρ (.tmp 44) = (.int .i64 (er : Nat)) := (hf 44).1 rfl
        have h46 : ρ (.tmp 46) = (.int .i64 (er : Nat)) := (hf 46).1 rfl
        exact Exec.same (v := .bool true) rfl (by simp [go_sem, hρ.const, h44, h46]) rfl
      · -- 17: slot 48 := Op.pick t41 t47 (const (Value.bool false))
        refine StepOK.plain (kn_stable _) rfl fun ρ w hρ hw hf => ?_
        have h41 : ρ (.tmp 41) = (.bool true) := (hf 41).1 rfl
        have h47 : ρ (.tmp 47) = (.bool true) := (hf 47).1 rfl
        exact Exec.kpickT rfl rfl h41 h47
      · -- 18: slot 49 := Op.move t48
        refine StepOK.plain (kn_stable _) rfl fun ρ w hρ hw hf => ?_
        have h48 : ρ (.tmp 48) = (.bool true) := (hf 48).1 rfl
        exact Exec.kmove rfl rfl h48
      · -- 19: slot 50 := Op.fieldAddr 24 t1 1
        refine StepOK.guarded (kn_stable _) 18 true 49 rfl rfl (fun ρ w _ _ hf => (hf 49).1 rfl) fun ρ w hρ hw hf => ?_
        have h1 : ρ (.tmp 1) = (.pointer (some ⟨g3, 0, none⟩)) := (hf 1).2 rfl rfl
        exact Exec.kfield rfl rfl h1 (field44_1 w g3) rfl
      · -- 20: slot 51 := Op.load 5 t50
        refine StepOK.guarded (kn_stable _) 18 true 49 rfl rfl (fun ρ w _ _ hf => (hf 49).1 rfl) fun ρ w hρ hw hf => ?_
        have h50 : ρ (.tmp 50) = (.pointer (some ⟨g3, 1, none⟩)) := (hf 50).1 rfl
        have hg := hw.block g3 (Array.getElem?_eq_some_iff.1 HG3.out).1 (fun f => f)
        rw [HG3.out] at hg
        have hc : w.cell? ⟨g3, 1, none⟩ = some (.int .u8 (y : Nat)) := by rw [cell_of_row _ _ _ _ _ _ hg]; rfl
        exact Exec.same (v := .int .u8 (y : Nat)) rfl (by simp [go_sem, hρ.const, h50, hc]) rfl
      · -- 21: slot 52 := Op.call { value (Operand.func 10), args := #[t51], argTypes := #[5] }
        refine StepOK.guarded (kn_stable _) 18 true 49 rfl rfl (fun ρ w _ _ hf => (hf 49).1 rfl) fun ρ w hρ hw hf => ?_
        have h51 : ρ (.tmp 51) = (.int .u8 (y : Nat)) := (hf 51).1 rfl
        have hn := hw.block 0 (Array.getElem?_eq_some_iff.1 HNM.out).1 (fun f => f)
        rw [HNM.out] at hn
        refine Exec.kcall #[.int .u8 (y : Nat)] hρ rfl rfl (by simp [h51]) Tryd.func10 (by rfl) rfl ?_
        refine (name_any y w HY.out hn).mono ?_
        rintro e w' ⟨rfl, rfl⟩
        exact ⟨_, rfl, by rw [HNB.out]; rfl, Ch.refl _ _⟩
      · -- 22: slot 53 := Op.move t7
        refine StepOK.guarded (kn_stable _) 18 true 49 rfl rfl (fun ρ w _ _ hf => (hf 49).1 rfl) fun ρ w hρ hw hf => ?_
        have h7 : ρ (.tmp 7) = (.string { data := #[] }) := (hf 7).2 rfl rfl
        exact Exec.kmove rfl rfl (by rw [h7, HNE.out]; rfl)
      · -- 23: slot 54 := Op.binOp BinOp.eql 9 t52 t53 9
        refine StepOK.guarded (kn_stable _) 18 true 49 rfl rfl (fun ρ w _ _ hf => (hf 49).1 rfl) fun ρ w hρ hw hf => ?_
        have h52 : ρ (.tmp 52) = (strV nb) := (hf 52).1 rfl
        have h53 : ρ (.tmp 53) = (strV nb) := (hf 53).1 rfl
        exact Exec.kstreq rfl rfl Tryd.underlying9 h52 h53 (by simp; exact rfl)
      · -- 24: slot 55 := Op.pick t49 t54 (const (Value.bool false))
        refine StepOK.plain (kn_stable _) rfl fun ρ w hρ hw hf => ?_
        have h49 : ρ (.tmp 49) = (.bool true) := (hf 49).1 rfl
        have h54 : ρ (.tmp 54) = (.bool true) := (hf 54).1 rfl
        exact Exec.kpickT rfl rfl h49 h54
      · -- 25: slot 56 := Op.move t55
        refine StepOK.plain (kn_stable _) rfl fun ρ w hρ hw hf => ?_
        have h55 : ρ (.tmp 55) = (.bool true) := (hf 55).1 rfl
        exact Exec.kmove rfl rfl h55
      · -- 26: slot 57 := Op.call { value (Operand.func 11), args := #[], argTypes := #[] }
        refine StepOK.guarded (kn_stable _) 25 true 56 rfl rfl (fun ρ w _ _ hf => (hf 56).1 rfl) fun ρ w hρ hw hf => ?_
        refine Exec.kcall #[] hρ rfl rfl (by simp) Tryd.func11 (by rfl) rfl ?_
        refine (awake4_any w).mono ?_
        rintro e w' ⟨rfl, hx⟩
        exact ⟨_, rfl, rfl, hx⟩
      · -- 27: slot 58 := Op.pick t56 t57 (const (Value.bool false))
        refine StepOK.plain (kn_stable _) rfl fun ρ w hρ hw hf => ?_
        have h56 : ρ (.tmp 56) = (.bool true) := (hf 56).1 rfl
        have h57 : ρ (.tmp 57) = (.bool true) := (hf 57).1 rfl
        exact Exec.kpickT rfl rfl h56 h57
      · -- 28: slot 2 := Op.assign t58
        refine StepOK.plain (kn_stable _) rfl fun ρ w hρ hw hf => ?_
        have h58 : ρ (.tmp 58) = (.bool true) := (hf 58).1 rfl
        exact Exec.kassign rfl rfl h58

    case fin8 =>
      intro ν w9 hfin hext
      have h0 : ν 2 = .bool true := hfin 28 2 rfl
      simp only [Exit.then, ended, List.foldl_cons, List.foldl_nil, List.setIfInBounds_toArray, List.set_cons_succ, List.set_cons_zero, h0]
      have HX9 := Lib.hid (HX3.out.trans hext); clear hext hfin h0
      go_wp2
      go_ret
      exact ⟨rfl, HX9.out⟩

  · clear hnb0
    go_wp2
    clear hc1
    refine wp_region_ext (makes7T g3 y nb) mixedEq (by rfl) (by rfl) ?all7 ?fin7
    case all7 =>
      refine ⟨?_, ?_, ?_, ?_, ?_, ?_, trivial⟩
      · -- 0: slot 26 := Op.call { value (Operand.func 7), args := #[], argTypes := #[] }
        refine StepOK.plain (kn_stable _) rfl fun ρ w hρ hw hf => ?_
        refine Exec.kcall #[] hρ rfl rfl (by simp) Tryd.func7 (by rfl) rfl ?_
        refine (names_any w).mono ?_
        rintro e w' ⟨v, rfl, hx, hs⟩
        exact ⟨v, rfl, hs, hx⟩
      · -- 1: slot 27 := Op.fieldAddr 24 t1 1
        refine StepOK.plain (kn_stable _) rfl fun ρ w hρ hw hf => ?_
        have h1 : ρ (.tmp 1) = (.pointer (some ⟨g3, 0, none⟩)) := (hf 1).2 rfl rfl
        exact Exec.kfield rfl rfl h1 (field44_1 w g3) rfl
      · -- 2: slot 28 := Op.load 5 t27
        refine StepOK.plain (kn_stable _) rfl fun ρ w hρ hw hf => ?_
        have h27 : ρ (.tmp 27) = (.pointer (some ⟨g3, 1, none⟩)) := (hf 27).1 rfl
        have hg := hw.block g3 (Array.getElem?_eq_some_iff.1 HG3.out).1 (fun f => f)
        rw [HG3.out] at hg
        have hc : w.cell? ⟨g3, 1, none⟩ = some (.int .u8 (y : Nat)) := by rw [cell_of_row _ _ _ _ _ _ hg]; rfl
        exact Exec.same (v := .int .u8 (y : Nat)) rfl (by simp [go_sem, hρ.const, h27, hc]) rfl
      · -- 3: slot 29 := Op.indexAddr 32 t26 t28
        refine StepOK.plain (kn_stable _) rfl fun ρ w hρ hw hf => ?_
        have h26 : (Kn.sl 9 nmC).holds (ρ (.tmp 26)) w := (hf 26).1 rfl
        have h28 : ρ (.tmp 28) = (.int .u8 (y : Nat)) := (hf 28).1 rfl
        exact Exec.kspot rfl rfl Tryd.underlying32 HIS.out HSS.out h26 h28 (by omega) (by rw [nmC_get y (by omega), HNB.out]) fun v hv => hv
      · -- 4: slot 30 := Op.load 9 t29
        refine StepOK.plain (kn_stable _) rfl fun ρ w hρ hw hf => ?_
        have h29 : (Kn.spot (strV nb)).holds (ρ (.tmp 29)) w := (hf 29).1 rfl
        exact Exec.kloadspot rfl rfl Tryd.underlying9 h29 rfl
      · -- 5: slot 7 := Op.assign t30
        refine StepOK.plain (kn_stable _) rfl fun ρ w hρ hw hf => ?_
        have h30 : ρ (.tmp 30) = (strV nb) := (hf 30).1 rfl
        exact Exec.kassign rfl rfl h30

    case fin7 =>
      intro ν w4 hfin hext
      have h0 : ν 7 = strV nb := hfin 5 7 rfl
      simp only [Exit.then, ended, List.foldl_cons, List.foldl_nil, List.setIfInBounds_toArray, List.set_cons_succ, List.set_cons_zero, h0]
      have HX4 := Lib.hid (HX3.out.trans hext)
      have HM35 := Lib.hid (HM3.out.ext hext); have HM55 := Lib.hid (HM5.out.ext hext); have HRP4 := Lib.hid (HRP.out.ext hext)
      have HG34 : Hid (w4.heap[g3]? = some (.cells #[.int .u8 (x : Nat), .int .u8 (y : Nat), .slice ao n cap] 24 (0, 0))) := Lib.hid (by rw [hext.block _ (Array.getElem?_eq_some_iff.1 HG3.out).1 (fun f => f)]; exact HG3.out)
      have HNM4 : Hid (w4.heap[0]? = some (.cells nmC.toArray E F)) := Lib.hid (by rw [hext.block _ (Array.getElem?_eq_some_iff.1 HNM.out).1 (fun f => f)]; exact HNM.out)
      clear h0 hfin hext HX3 HM3 HM5 HRP HG3 HNM
      have HM3 := HM35; have HM5 := HM55; have HRP := HRP4; have HG3 := HG34; have HNM := HNM4
      clear HM35 HM55 HRP4 HG34 HNM4
      go_wp2
      refine wp_region_ext (makes8T g3 x y ao n cap p md er nb) mixedEq (by rfl) (by rfl) ?all8 ?fin8
      case all8 =>
        refine ⟨?_, ?_, ?_, ?_, ?_, ?_, ?_, ?_, ?_, ?_, ?_, ?_, ?_, ?_, ?_, ?_, ?_, ?_, ?_, ?_, ?_, ?_, ?_, ?_, ?_, ?_, ?_, ?_, ?_, trivial⟩
        · -- 0: slot 31 := Op.move t3
          refine StepOK.plain (kn_stable _) rfl fun ρ w hρ hw hf => ?_
          have h3 : ρ (.tmp 3) = (.slice a3 nm c3) := (hf 3).2 rfl rfl
          exact Exec.kmove rfl rfl (by rw [h3]; exact HM3.out.ext hw)
        · -- 1: slot 32 := Op.convert 22 9 t31
          refine StepOK.plain (kn_stable _) rfl fun ρ w hρ hw hf => ?_
          have h31 : Rd w (ρ (.tmp 31)) (md) := (hf 31).1 rfl
          exact Exec.kstr rfl rfl Tryd.underlying22 Tryd.underlying5 Tryd.underlying9 h31 rfl
        · -- 2: slot 33 := Op.move t5
          refine StepOK.plain (kn_stable _) rfl fun ρ w hρ hw hf => ?_
          have h5 : ρ (.tmp 5) = (.slice a5 nm c5) := (hf 5).2 rfl rfl
          exact Exec.kmove rfl rfl (by rw [h5]; exact HM5.out.ext hw)
        · -- 3: slot 34 := Op.convert 22 9 t33
          refine StepOK.plain (kn_stable _) rfl fun ρ w hρ hw hf => ?_
          have h33 : Rd w (ρ (.tmp 33)) (md) := (hf 33).1 rfl
          exact Exec.kstr rfl rfl Tryd.underlying22 Tryd.underlying5 Tryd.underlying9 h33 rfl
        · -- 4: slot 35 := Op.binOp BinOp.eql 9 t32 t34 9
          refine StepOK.plain (kn_stable _) rfl fun ρ w hρ hw hf => ?_
          have h32 : ρ (.tmp 32) = (strV md) := (hf 32).1 rfl
          have h34 : ρ (.tmp 34) = (strV md) := (hf 34).1 rfl
          exact Exec.kstreq rfl rfl Tryd.underlying9 h32 h34 (by simp; exact rfl)
        · -- 5: slot 36 := Op.move t35
          refine StepOK.plain (kn_stable _) rfl fun ρ w hρ hw hf => ?_
          have h35 : ρ (.tmp 35) = (.bool true) := (hf 35).1 rfl
          exact Exec.kmove rfl rfl h35
        · -- 6: slot 37 := Op.move t4
          refine StepOK.guarded (kn_stable _) 5 true 36 rfl rfl (fun ρ w _ _ hf => (hf 36).1 rfl) fun ρ w hρ hw hf => ?_
          have h4 : ρ (.tmp 4) = (.int .i64 (er : Nat)) := (hf 4).2 rfl rfl
          exact Exec.kmove rfl rfl h4
        · -- 7: slot 38 := Op.move t6
          refine StepOK.guarded (kn_stable _) 5 true 36 rfl rfl (fun ρ w _ _ hf => (hf 36).1 rfl) fun ρ w hρ hw hf => ?_
          have h6 : ρ (.tmp 6) = (.int .i64 (er : Nat)) := (hf 6).2 rfl rfl
          exact Exec.kmove rfl rfl h6
        · -- 8: slot 39 := Op.binOp BinOp.eql 3 t37 t38 3
          refine StepOK.guarded (kn_stable _) 5 true 36 rfl rfl (fun ρ w _ _ hf => (hf 36).1 rfl) fun ρ w hρ hw hf => ?_
          have h37 : ρ (.tmp 37) = (.int .i64 (er : Nat)) := (hf 37).1 rfl
          have h38 : ρ (.tmp 38) = (.int .i64 (er : Nat)) := (hf 38).1 rfl
          exact Exec.same (v := .bool true) rfl (by simp [go_sem, hρ.const, h37, h38]) rfl
        · -- 9: slot 40 := Op.pick t36 t39 (const (Value.bool false))
          refine StepOK.plain (kn_stable _) rfl fun ρ w hρ hw hf => ?_
          have h36 : ρ (.tmp 36) = (.bool true) := (hf 36).1 rfl
          have h39 : ρ (.tmp 39) = (.bool true) := (hf 39).1 rfl
          exact Exec.kpickT rfl rfl h36 h39
        · -- 10: slot 41 := Op.move t40
          refine StepOK.plain (kn_stable _) rfl fun ρ w hρ hw hf => ?_
          have h40 : ρ (.tmp 40) = (.bool true) := (hf 40).1 rfl
          exact Exec.kmove rfl rfl h40
        · -- 11: slot 42 := Op.load 24 t1
          refine StepOK.guarded (kn_stable _) 10 true 41 rfl rfl (fun ρ w _ _ hf => (hf 41).1 rfl) fun ρ w hρ hw hf => ?_
          have h1 : ρ (.tmp 1) = (.pointer (some ⟨g3, 0, none⟩)) := (hf 1).2 rfl rfl
          have hg := hw.block g3 (Array.getElem?_eq_some_iff.1 HG3.out).1 (fun f => f)
          rw [HG3.out] at hg
          exact Exec.kloadrow rfl rfl h1 hg Tryd.underlying24 rfl info44 rfl
        · -- 12: slot 43 := Op.call { value (Operand.func 5), args := #[t42], argTypes := #[24] }
          refine StepOK.guarded (kn_stable _) 10 true 41 rfl rfl (fun ρ w _ _ hf => (hf 41).1 rfl) fun ρ w hρ hw hf => ?_
          have h42 : ρ (.tmp 42) = (.agg #[.int .u8 (x : Nat), .int .u8 (y : Nat), .slice ao n cap]) := (hf 42).1 rfl
          refine Exec.kcall #[.agg #[.int .u8 (x : Nat), .int .u8 (y : Nat), .slice ao n cap]] hρ rfl rfl (by simp [h42]) Tryd.func5 (by rfl) rfl ?_
          refine (HOWN.out w (HRP.out.ext hw)).mono ?_
          rintro e w' ⟨t, rfl, hx, hr⟩
          exact ⟨_, rfl, ⟨t, rfl, hr⟩, hx⟩
        · -- 13: slot 44 := Op.call { value (Operand.func 8), args := #[t43], argTypes := #[28] }
          refine StepOK.guarded (kn_stable _) 10 true 41 rfl rfl (fun ρ w _ _ hf => (hf 41).1 rfl) fun ρ w hρ hw hf => ?_
          have h43 : (Kn.frm x y p).holds (ρ (.tmp 43)) w := (hf 43).1 rfl
          obtain ⟨sq, hq1, hq2⟩ := h43
          refine Exec.kcall #[.agg #[.int .u8 (x : Nat), .int .u8 (y : Nat), sq]] hρ rfl rfl (by simp [hq1]) Tryd.func8 (by rfl) rfl ?_
          refine (HFR.out sq w hq2).mono ?_
          rintro e w' ⟨rfl, hx⟩
          exact ⟨_, rfl, rfl, hx⟩
        · -- 14: slot 45 := Op.load 24 t1
          refine StepOK.guarded (kn_stable _) 10 true 41 rfl rfl (fun ρ w _ _ hf => (hf 41).1 rfl) fun ρ w hρ hw hf => ?_
          have h1 : ρ (.tmp 1) = (.pointer (some ⟨g3, 0, none⟩)) := (hf 1).2 rfl rfl
          have hg := hw.block g3 (Array.getElem?_eq_some_iff.1 HG3.out).1 (fun f => f)
          rw [HG3.out] at hg
          exact Exec.kloadrow rfl rfl h1 hg Tryd.underlying24 rfl info44 rfl
        · -- 15: slot 46 := Op.call { value (Operand.func 9), args := #[t45], argTypes := #[24] }
          refine StepOK.guarded (kn_stable _) 10 true 41 rfl rfl (fun ρ w _ _ hf => (hf 41).1 rfl) fun ρ w hρ hw hf => ?_
          have h45 : ρ (.tmp 45) = (.agg #[.int .u8 (x : Nat), .int .u8 (y : Nat), .slice ao n cap]) := (hf 45).1 rfl
          refine Exec.kcall #[.agg #[.int .u8 (x : Nat), .int .u8 (y : Nat), .slice ao n cap]] hρ rfl rfl (by simp [h45]) Tryd.func9 (by rfl) rfl ?_
          refine (HRR.out w (HRP.out.ext hw)).mono ?_
          rintro e w' ⟨rfl, hx⟩
          exact ⟨_, rfl, rfl, hx⟩
        · -- 16: slot 47 := Op.binOp BinOp.eql 3 t44 t46 3
          refine StepOK.guarded (kn_stable _) 10 true 41 rfl rfl (fun ρ w _ _ hf => (hf 41).1 rfl) fun ρ w hρ hw hf => ?_
          have h44 : ρ (.tmp 44) = (.int .i64 (er : Nat)) := (hf 44).1 rfl
          have h46 : ρ (.tmp 46) = (.int .i64 (er : Nat)) := (hf 46).1 rfl
          exact Exec.same (v := .bool true) rfl (by simp [go_sem, hρ.const, h44, h46]) rfl
        · -- 17: slot 48 := Op.pick t41 t47 (const (Value.bool false))
          refine StepOK.plain (kn_stable _) rfl fun ρ w hρ hw hf => ?_
          have h41 : ρ (.tmp 41) = (.bool true) := (hf 41).1 rfl
          have h47 : ρ (.tmp 47) = (.bool true) := (hf 47).1 rfl
          exact Exec.kpickT rfl rfl h41 h47
        · -- 18: slot 49 := Op.move t48
          refine StepOK.plain (kn_stable _) rfl fun ρ w hρ hw hf => ?_
          have h48 : ρ (.tmp 48) = (.bool true) := (hf 48).1 rfl
          exact Exec.kmove rfl rfl h48
        · -- 19: slot 50 := Op.fieldAddr 24 t1 1
          refine StepOK.guarded (kn_stable _) 18 true 49 rfl rfl (fun ρ w _ _ hf => (hf 49).1 rfl) fun ρ w hρ hw hf => ?_
          have h1 : ρ (.tmp 1) = (.pointer (some ⟨g3, 0, none⟩)) := (hf 1).2 rfl rfl
          exact Exec.kfield rfl rfl h1 (field44_1 w g3) rfl
        · -- 20: slot 51 := Op.load 5 t50
          refine StepOK.guarded (kn_stable _) 18 true 49 rfl rfl (fun ρ w _ _ hf => (hf 49).1 rfl) fun ρ w hρ hw hf => ?_
          have h50 : ρ (.tmp 50) = (.pointer (some ⟨g3, 1, none⟩)) := (hf 50).1 rfl
          have hg := hw.block g3 (Array.getElem?_eq_some_iff.1 HG3.out).1 (fun f => f)
          rw [HG3.out] at hg
          have hc : w.cell? ⟨g3, 1, none⟩ = some (.int .u8 (y : Nat)) := by rw [cell_of_row _ _ _ _ _ _ hg]; rfl
          exact Exec.same (v := .int .u8 (y : Nat)) rfl (by simp [go_sem, hρ.const, h50, hc]) rfl
        · -- 21: slot 52 := Op.call { value (Operand.func 10), args := #[t51], argTypes := #[5] }
          refine StepOK.guarded (kn_stable _) 18 true 49 rfl rfl (fun ρ w _ _ hf => (hf 49).1 rfl) fun ρ w hρ hw hf => ?_
          have h51 : ρ (.tmp 51) = (.int .u8 (y : Nat)) := (hf 51).1 rfl
          have hn := hw.block 0 (Array.getElem?_eq_some_iff.1 HNM.out).1 (fun f => f)
          rw [HNM.out] at hn
          refine Exec.kcall #[.int .u8 (y : Nat)] hρ rfl rfl (by simp [h51]) Tryd.func10 (by rfl) rfl ?_
          refine (name_any y w HY.out hn).mono ?_
          rintro e w' ⟨rfl, rfl⟩
          exact ⟨_, rfl, by rw [HNB.out]; rfl, Ch.refl _ _⟩
        · -- 22: slot 53 := Op.move t7
          refine StepOK.guarded (kn_stable _) 18 true 49 rfl rfl (fun ρ w _ _ hf => (hf 49).1 rfl) fun ρ w hρ hw hf => ?_
          have h7 : ρ (.tmp 7) = (strV nb) := (hf 7).2 rfl rfl
          exact Exec.kmove rfl rfl h7
        · -- 23: slot 54 := Op.binOp BinOp.eql 9 t52 t53 9
          refine StepOK.guarded (kn_stable _) 18 true 49 rfl rfl (fun ρ w _ _ hf => (hf 49).1 rfl) fun ρ w hρ hw hf => ?_
          have h52 : ρ (.tmp 52) = (strV nb) := (hf 52).1 rfl
          have h53 : ρ (.tmp 53) = (strV nb) := (hf 53).1 rfl
          exact Exec.kstreq rfl rfl Tryd.underlying9 h52 h53 (by simp; exact rfl)
        · -- 24: slot 55 := Op.pick t49 t54 (const (Value.bool false))
          refine StepOK.plain (kn_stable _) rfl fun ρ w hρ hw hf => ?_
          have h49 : ρ (.tmp 49) = (.bool true) := (hf 49).1 rfl
          have h54 : ρ (.tmp 54) = (.bool true) := (hf 54).1 rfl
          exact Exec.kpickT rfl rfl h49 h54
        · -- 25: slot 56 := Op.move t55
          refine StepOK.plain (kn_stable _) rfl fun ρ w hρ hw hf => ?_
          have h55 : ρ (.tmp 55) = (.bool true) := (hf 55).1 rfl
          exact Exec.kmove rfl rfl h55
        · -- 26: slot 57 := Op.call { value (Operand.func 11), args := #[], argTypes := #[] }
          refine StepOK.guarded (kn_stable _) 25 true 56 rfl rfl (fun ρ w _ _ hf => (hf 56).1 rfl) fun ρ w hρ hw hf => ?_
          refine Exec.kcall #[] hρ rfl rfl (by simp) Tryd.func11 (by rfl) rfl ?_
          refine (awake4_any w).mono ?_
          rintro e w' ⟨rfl, hx⟩
          exact ⟨_, rfl, rfl, hx⟩
        · -- 27: slot 58 := Op.pick t56 t57 (const (Value.bool false))
          refine StepOK.plain (kn_stable _) rfl fun ρ w hρ hw hf => ?_
          have h56 : ρ (.tmp 56) = (.bool true) := (hf 56).1 rfl
          have h57 : ρ (.tmp 57) = (.bool true) := (hf 57).1 rfl
          exact Exec.kpickT rfl rfl h56 h57
        · -- 28: slot 2 := Op.assign t58
          refine StepOK.plain (kn_stable _) rfl fun ρ w hρ hw hf => ?_
          have h58 : ρ (.tmp 58) = (.bool true) := (hf 58).1 rfl
          exact Exec.kassign rfl rfl h58

      case fin8 =>
        intro ν w9 hfin hext
        have h0 : ν 2 = .bool true := hfin 28 2 rfl
        simp only [Exit.then, ended, List.foldl_cons, List.foldl_nil, List.setIfInBounds_toArray, List.set_cons_succ, List.set_cons_zero, h0]
        have HX9 := Lib.hid (HX4.out.trans hext); clear hext hfin h0
        go_wp2
        go_ret
        exact ⟨rfl, HX9.out⟩


end Go.Proofs.YtcdhalgpnhdbnaaDoor
