/-
  FrameApart: the walk.
-/
import Derived.Test.YtcdhalgpnhdbnaaProg
import Derived.Test.YtcdhalgpnhdbnaaLib
import Derived.Test.YtcdhalgpnhdbnaaLibC
import Derived.Test.YtcdhalgpnhdbnaaInfo
import Derived.Test.YtcdhalgpnhdbnaaLibD
import Derived.Test.YtcdhalgpnhdbnaaEqual
import Derived.Test.YtcdhalgpnhdbnaaCrcD
import Derived.Test.YtcdhalgpnhdbnaaFrB
import Derived.Test.YtcdhalgpnhdbnaaFrC
import Derived.Test.YtcdhalgpnhdbnaaFrD
import Derived.Test.YtcdhalgpnhdbnaaFrE
import Derived.Test.YtcdhalgpnhdbnaaFrF
import Derived.Test.YtcdhalgpnhdbnaaRefP
import Derived.Test.YtcdhalgpnhdbnaaRefQ
import Derived.Test.YtcdhalgpnhdbnaaAwake4
import Derived.Test.YtcdhalgpnhdbnaaFrM
import Derived.WalkKit
import Derived.Lib.Hide
import Derived.Outline
import Derived.Laws.BitsAllLaws
namespace Go.Proofs.Ytcdhalgpnhdbnaa
open Go.RowKit Go.Lac

def apartT1 (x y x' y' : Nat) (ao : Option Addr) (n cap : Nat) (bo : Option Addr) (n' cap' : Nat) (ma mb : List UInt8) (z : Bool) : Tmp → Kn
  | 47 => .is (.int .i64 0)
  | 48 => .is (.bool false)
  | 49 => .is (.bool false)
  | 50 => .is (.int .i64 0)
  | 51 => .is (.bool false)
  | 52 => .is (.bool false)
  | 53 => .is (.bool false)
  | 54 => .rd ma
  | 55 => .is (strV ma)
  | 56 => .rd mb
  | 57 => .is (strV mb)
  | 58 => .is (.bool z)
  | 59 => .is (.agg #[.int .u8 (x : Nat), .int .u8 (y : Nat), .slice ao n cap])
  | 60 => .is (.agg #[.int .u8 (x' : Nat), .int .u8 (y' : Nat), .slice bo n' cap'])
  | 61 => .is (.bool z)
  | 62 => .is (.bool false)
  | 63 => .is (.bool false)
  | _ => .any

def apartT2 (x y : Nat) (a1 : Option Addr) (n1 c1 : Nat) (ao : Option Addr) (n cap : Nat) (ma : List UInt8) : Tmp → Kn
  | 74 => .is (.int .i64 0)
  | 75 => .is (.bool false)
  | 76 => .is (.bool false)
  | 77 => .is (.int .i64 ((n + 10 : Nat) : Int))
  | 78 => .rd ma
  | 79 => .is (.int .i64 ((n + 10 : Nat) : Int))
  | 80 => .is (.bool false)
  | 81 => .is (.bool false)
  | 82 => .is (.bool false)
  | 83 => .is (.agg #[.int .u8 (x : Nat), .int .u8 (y : Nat), .slice a1 n1 c1])
  | 84 => .is (.agg #[.int .u8 (x : Nat), .int .u8 (y : Nat), .slice a1 n1 c1])
  | 85 => .is (.agg #[.int .u8 (x : Nat), .int .u8 (y : Nat), .slice ao n cap])
  | 86 => .is (.bool true)
  | 87 => .is (.bool false)
  | 88 => .is (.bool false)
  | _ => .any

def apartT3 (x' y' : Nat) (a2 : Option Addr) (n2 c2 : Nat) (bo : Option Addr) (n' cap' : Nat) (mb : List UInt8) : Tmp → Kn
  | 4 => .is (.bool true)
  | 95 => .is (.int .i64 0)
  | 96 => .is (.bool true)
  | 97 => .is (.bool true)
  | 98 => .is (.int .i64 ((n' + 10 : Nat) : Int))
  | 99 => .rd mb
  | 100 => .is (.int .i64 ((n' + 10 : Nat) : Int))
  | 101 => .is (.bool true)
  | 102 => .is (.bool true)
  | 103 => .is (.bool true)
  | 104 => .is (.agg #[.int .u8 (x' : Nat), .int .u8 (y' : Nat), .slice a2 n2 c2])
  | 105 => .is (.agg #[.int .u8 (x' : Nat), .int .u8 (y' : Nat), .slice a2 n2 c2])
  | 106 => .is (.agg #[.int .u8 (x' : Nat), .int .u8 (y' : Nat), .slice bo n' cap'])
  | 107 => .is (.bool true)
  | 108 => .is (.bool true)
  | 109 => .is (.bool true)
  | 110 => .is (.bool true)
  | 111 => .is (.bool true)
  | _ => .any

set_option maxRecDepth 20000 in
set_option maxHeartbeats 8000000 in
theorem frameApart_walk (x y x' y' : Nat) (s s' : Value) (p p' : List UInt8) (w : World) (hx : x < 256) (hy : y < 256) (h : Rd w s p) (hx' : x' < 256) (hy' : y' < 256) (h' : Rd w s' p') :
    Calls Try.prog 11 #[.agg #[.int .u8 (x : Nat), .int .u8 (y : Nat), s], .agg #[.int .u8 (x' : Nat), .int .u8 (y' : Nat), s']] w fun e w' => e = .returned (.bool true) ∧ Ext w w' := by
  obtain ⟨i, hi, hz, hsz, hby⟩ := info_parts infoU8
  obtain ⟨ao, cap, rfl⟩ := h.shape
  obtain ⟨bo, cap', rfl⟩ := h'.shape
  have hlen : p.length ≤ maxLen := by obtain ⟨_, _, _, g1, g2, _⟩ := h; omega
  have hlen' : p'.length ≤ maxLen := by obtain ⟨_, _, _, g1, g2, _⟩ := h'; omega
  unfold maxLen at hlen hlen'
  have hrr := fun w h => refRight_any x y (.slice ao p.length cap) p w hx hy h
  have hrr' := fun w h => refRight_any x' y' (.slice bo p'.length cap') p' w hx' hy' h
  have H := Lib.hid h; have H' := Lib.hid h'
  have hx0 : Ext w ((w.alloc (.cells #[.int .u8 (x : Nat), .int .u8 (y : Nat), .slice ao p.length cap] 44)).alloc (.cells #[.int .u8 (x' : Nat), .int .u8 (y' : Nat), .slice bo p'.length cap'] 44)) := ((Ch.refl _ _).alloc _).alloc _
  have HX0 := Lib.hid hx0; clear hx0
  by_cases h0 : frRight x y p.length = 0
  case neg =>
    have hne : (((frRight x y p.length : Nat) : Int) != 0) = true := by simp; omega
    have HRR := Lib.hid hrr
    clear h hrr hrr' hx hy h0 h' hx' hy'
    generalize frRight x y p.length = e0 at *
    generalize p.length = n at *
    generalize p'.length = n' at *
    go_enter Try.func11, Try.ntmps11
    go_wp2_with (go_at_call 27; refine (HRR.out _ (H.out.ext HX0.out)).mono ?_)
    rintro e w1 ⟨rfl, hx⟩
    have HX := Lib.hid (HX0.out.trans hx); clear hx
    go_wp2
    go_ret
    exact ⟨rfl, HX.out⟩
  rw [h0] at hrr
  have HR0 : Hid (∀ w, Rd w (.slice ao p.length cap) p → Calls Try.prog 27 #[.agg #[.int .u8 (x : Nat), .int .u8 (y : Nat), .slice ao p.length cap]] w fun e w' => e = .returned (.int .i64 0) ∧ Ext w w') := Lib.hid fun w h => hrr w h
  clear hrr
  by_cases h0' : frRight x' y' p'.length = 0
  case neg =>
    have hne : (((frRight x' y' p'.length : Nat) : Int) != 0) = true := by simp; omega
    have HRR := Lib.hid hrr'
    clear h hrr' hx hy h0 h' hx' hy' h0'
    generalize frRight x' y' p'.length = e0 at *
    generalize p.length = n at *
    generalize p'.length = n' at *
    go_enter Try.func11, Try.ntmps11
    go_wp2_with fail
    refine (HR0.out _ (H.out.ext HX0.out)).mono ?_
    rintro e w1 ⟨rfl, hx⟩
    have hb1 := hx.block (w.heap.size + 1) (by simp) (fun f => f)
    rw [heap_alloc2_new] at hb1
    have HX := Lib.hid (HX0.out.trans hx)
    have d0 : w1.cell? ⟨w.heap.size + 1, 0, none⟩ = some (.int .u8 (x' : Nat)) := by rw [cell_of_row _ _ _ _ _ _ hb1]; rfl
    have d1 : w1.cell? ⟨w.heap.size + 1, 1, none⟩ = some (.int .u8 (y' : Nat)) := by rw [cell_of_row _ _ _ _ _ _ hb1]; rfl
    have d2 : w1.cell? ⟨w.heap.size + 1, 2, none⟩ = some (.slice bo n' cap') := by rw [cell_of_row _ _ _ _ _ _ hb1]; rfl
    clear hx hb1
    go_wp2_with (go_at_call 27; refine (HRR.out _ (H'.out.ext HX.out)).mono ?_)
    rintro e w2 ⟨rfl, hx⟩
    have HX2 := Lib.hid (HX.out.trans hx); clear hx
    go_wp2
    go_ret
    exact ⟨rfl, HX2.out⟩
  rw [h0'] at hrr'
  have HR0' : Hid (∀ w, Rd w (.slice bo p'.length cap') p' → Calls Try.prog 27 #[.agg #[.int .u8 (x' : Nat), .int .u8 (y' : Nat), .slice bo p'.length cap']] w fun e w' => e = .returned (.int .i64 0) ∧ Ext w w') := Lib.hid fun w h => hrr' w h
  clear hrr'
  have hown := fun w h => fun hl => own_any x y (.slice ao p.length cap) p w h hl
  have hown' := fun w h => fun hl => own_any x' y' (.slice bo p'.length cap') p' w h hl
  have hmk := fun s w h => fun hl => make_any x y s p w hx hy h hl
  have hmk' := fun s w h => fun hl => make_any x' y' s p' w hx' hy' h hl
  have hml := made_length h0
  have hml' := made_length h0'
  have hmp := made_parse h0 (frBytes x' y' p')
  have hmp' := made_parse h0' []
  rw [List.append_nil] at hmp'
  have hz2 : decide (x = x' ∧ y = y' ∧ p = p') = decide (frBytes x y p = frBytes x' y' p') := by
    apply decide_eq_decide.2
    constructor
    · rintro ⟨rfl, rfl, rfl⟩; rfl
    · exact fun e => made_inj h0 h0' e
  have HMK : Hid (∀ s w, p.length ≤ 300 → Rd w s p → Calls Try.prog 28 #[.agg #[.int .u8 (x : Nat), .int .u8 (y : Nat), s]] w fun e w' => ∃ t, e = .returned (.tuple #[t, .int .i64 0]) ∧ Ext w w' ∧ Rd w' t (frBytes x y p)) := Lib.hid fun s w hl h => (hmk s w h (by omega)).mono fun e w' ⟨t, e1, e2, e3⟩ => by
    rw [h0] at e1
    exact ⟨t, e1, e2, e3⟩
  have HMK' : Hid (∀ s w, p'.length ≤ 300 → Rd w s p' → Calls Try.prog 28 #[.agg #[.int .u8 (x' : Nat), .int .u8 (y' : Nat), s]] w fun e w' => ∃ t, e = .returned (.tuple #[t, .int .i64 0]) ∧ Ext w w' ∧ Rd w' t (frBytes x' y' p')) := Lib.hid fun s w hl h => (hmk' s w h (by omega)).mono fun e w' ⟨t, e1, e2, e3⟩ => by
    rw [h0'] at e1
    exact ⟨t, e1, e2, e3⟩
  have HOWN := Lib.hid hown; have HOWN' := Lib.hid hown'; have HML := Lib.hid hml; have HML' := Lib.hid hml'; have HMP := Lib.hid hmp; have HMP' := Lib.hid hmp'; have HZZ := Lib.hid hz2
  clear hown hown' hmk hmk' hml hml' hmp hmp' hz2 h h' hx hy hx' hy' h0 h0'
  generalize frBytes x y p = ma at *
  generalize frBytes x' y' p' = mb at *
  generalize hpl : p.length = n at *
  generalize hpl' : p'.length = n' at *
  have HPL := Lib.hid hpl; have HPL' := Lib.hid hpl'; clear hpl hpl'
  go_enter Try.func11, Try.ntmps11
  go_wp2_with fail
  refine (HR0.out _ (H.out.ext HX0.out)).mono ?_
  rintro e w1 ⟨rfl, hx⟩
  have hb1 := hx.block (w.heap.size + 1) (by simp) (fun f => f)
  rw [heap_alloc2_new] at hb1
  have hb0 := hx.block w.heap.size (by simp; omega) (fun f => f)
  rw [heap_alloc2_old] at hb0
  have HX := Lib.hid (HX0.out.trans hx)
  have d0 : w1.cell? ⟨w.heap.size + 1, 0, none⟩ = some (.int .u8 (x' : Nat)) := by rw [cell_of_row _ _ _ _ _ _ hb1]; rfl
  have d1 : w1.cell? ⟨w.heap.size + 1, 1, none⟩ = some (.int .u8 (y' : Nat)) := by rw [cell_of_row _ _ _ _ _ _ hb1]; rfl
  have d2 : w1.cell? ⟨w.heap.size + 1, 2, none⟩ = some (.slice bo n' cap') := by rw [cell_of_row _ _ _ _ _ _ hb1]; rfl
  have HB0 := Lib.hid hb0; have HB1 := Lib.hid hb1
  clear hx hb1 hb0
  go_wp2_with (go_at_call 27; refine (HR0'.out _ (H'.out.ext HX.out)).mono ?_)
  rintro e w2 ⟨rfl, hx⟩
  have hb1 := hx.block (w.heap.size + 1) (Array.getElem?_eq_some_iff.1 HB1.out).1 (fun f => f)
  rw [HB1.out] at hb1
  have hb0 := hx.block w.heap.size (Array.getElem?_eq_some_iff.1 HB0.out).1 (fun f => f)
  rw [HB0.out] at hb0
  have HX2 := Lib.hid (HX.out.trans hx)
  clear d0 d1 d2
  have d0 : w2.cell? ⟨w.heap.size + 1, 0, none⟩ = some (.int .u8 (x' : Nat)) := by rw [cell_of_row _ _ _ _ _ _ hb1]; rfl
  have d1 : w2.cell? ⟨w.heap.size + 1, 1, none⟩ = some (.int .u8 (y' : Nat)) := by rw [cell_of_row _ _ _ _ _ _ hb1]; rfl
  have d2 : w2.cell? ⟨w.heap.size + 1, 2, none⟩ = some (.slice bo n' cap') := by rw [cell_of_row _ _ _ _ _ _ hb1]; rfl
  have c0 : w2.cell? ⟨w.heap.size, 0, none⟩ = some (.int .u8 (x : Nat)) := by rw [cell_of_row _ _ _ _ _ _ hb0]; rfl
  have c1 : w2.cell? ⟨w.heap.size, 1, none⟩ = some (.int .u8 (y : Nat)) := by rw [cell_of_row _ _ _ _ _ _ hb0]; rfl
  have c2 : w2.cell? ⟨w.heap.size, 2, none⟩ = some (.slice ao n cap) := by rw [cell_of_row _ _ _ _ _ _ hb0]; rfl
  have HC0 := Lib.hid hb0; have HC1 := Lib.hid hb1
  clear hx hb1 hb0 HB0 HB1 HX HR0 HR0'
  by_cases h300 : 300 < n
  · clear HZZ HMP HMP' HML HML'
    go_wp2
    go_ret
    exact ⟨rfl, HX2.out⟩
  by_cases h300' : 300 < n'
  · clear HZZ HMP HMP' HML HML'
    go_wp2
    go_ret
    exact ⟨rfl, HX2.out⟩
  obtain ⟨g2, hg2⟩ : ∃ g2, g2 = w.heap.size := ⟨_, rfl⟩
  obtain ⟨g3, hg3⟩ : ∃ g3, g3 = w.heap.size + 1 := ⟨_, rfl⟩
  have hgr : w.heap.size = g2 := hg2.symm
  have HGQ := Lib.hid hg2; have HGR := Lib.hid hg3
  have hc0 := HC0.out
  have hc1 := HC1.out
  rw [← hg3] at hc1
  rw [← hg2] at hc0
  have HC0 := Lib.hid hc0; have HC1 := Lib.hid hc1
  clear hgr hc0 hc1 hg2 hg3
  go_wp2_with fail
  rw [← HGR.out, ← HGQ.out]
  clear c0 c1 c2 d0 d1 d2
  refine (HOWN.out w2 (H.out.ext HX2.out) (by omega)).mono ?_
  rintro e w3 ⟨t3, rfl, hx, hr3⟩
  have HY3 := Lib.hid hx; have HR3 := Lib.hid hr3
  clear hx hr3
  go_wp2_with (go_at_call 28; refine (HMK.out _ _ (by omega) HR3.out).mono ?_)
  rintro e w4 ⟨t4, rfl, hx, hr4⟩
  obtain ⟨am, cm, rfl⟩ := hr4.shape
  rw [HML.out] at hr4 ⊢
  have HY4 := Lib.hid (HY3.out.trans hx); have HMA4 := Lib.hid hr4
  have HC14 : Hid (w4.heap[g3]? = some (.cells #[.int .u8 (x' : Nat), .int .u8 (y' : Nat), .slice bo n' cap'] 44 (0, 0))) := Lib.hid (by rw [HY4.out.block _ (Array.getElem?_eq_some_iff.1 HC1.out).1 (fun f => f)]; exact HC1.out)
  clear hx hr4 HY3 HR3
  go_wp2_with (first
    | (refine wpList_load_row rfl _ _ rfl g3 rfl _ _ _ _ HC14.out Try.underlying44 rfl info44 ?_)
    | (go_at_call 29; refine (HOWN'.out _ (H'.out.ext (HX2.out.trans HY4.out)) (by omega)).mono ?_))
  rintro e w5 ⟨t5, rfl, hx, hr5⟩
  have HY5 := Lib.hid (HY4.out.trans hx); have HR5 := Lib.hid hr5; have HY45 := Lib.hid hx
  clear hx hr5
  go_wp2_with (go_at_call 28; refine (HMK'.out _ _ (by omega) HR5.out).mono ?_)
  rintro e w6 ⟨t6, rfl, hx, hr6⟩
  obtain ⟨bm, dm, rfl⟩ := hr6.shape
  rw [HML'.out] at hr6 ⊢
  have hy6 := HY5.out.trans hx
  have HY6 := Lib.hid hy6; have HMB := Lib.hid hr6; have HMA := Lib.hid (HMA4.out.ext (HY45.out.trans hx))
  have HG2 : Hid (w6.heap[g2]? = some (.cells #[.int .u8 (x : Nat), .int .u8 (y : Nat), .slice ao n cap] 44 (0, 0))) := Lib.hid (by rw [hy6.block _ (Array.getElem?_eq_some_iff.1 HC0.out).1 (fun f => f)]; exact HC0.out)
  have HG3 : Hid (w6.heap[g3]? = some (.cells #[.int .u8 (x' : Nat), .int .u8 (y' : Nat), .slice bo n' cap'] 44 (0, 0))) := Lib.hid (by rw [hy6.block _ (Array.getElem?_eq_some_iff.1 HC1.out).1 (fun f => f)]; exact HC1.out)
  have HX6 := Lib.hid (HX2.out.trans hy6)
  have HRF := Lib.hid (H.out.ext HX6.out); have HRG := Lib.hid (H'.out.ext HX6.out)
  clear hx hr6 hy6 HY4 HY5 HY45 HR5 HMA4 HC14 HC0 HC1 HX2 HY6 HOWN HOWN' HMK HMK'
  obtain ⟨z, hz0⟩ : ∃ z, z = decide (ma = mb) := ⟨_, rfl⟩
  have HZ1 := Lib.hid hz0.symm
  have HZ2 : Hid (decide (x = x' ∧ y = y' ∧ p = p') = z) := Lib.hid (by rw [hz0]; exact HZZ.out)
  clear hz0 HZZ
  go_wp2
  refine wp_region_ext (apartT1 x y x' y' ao n cap bo n' cap' ma mb z) mixedEq (by rfl) (by rfl) ?all ?fin
  case all =>
    refine ⟨?_, ?_, ?_, ?_, ?_, ?_, ?_, ?_, ?_, ?_, ?_, ?_, ?_, ?_, ?_, ?_, ?_, trivial⟩
    · -- 0: slot 47 := Op.move t6
      refine StepOK.plain (kn_stable _) rfl fun ρ w hρ hw hf => ?_
      have h6 : ρ (.tmp 6) = (.int .i64 0) := (hf 6).2 rfl rfl
      exact Exec.kmove rfl rfl h6
    · -- 1: slot 48 := Op.binOp BinOp.neq 41 t47 (const (0:i64)) 41
      refine StepOK.plain (kn_stable _) rfl fun ρ w hρ hw hf => ?_
      have h47 : ρ (.tmp 47) = (.int .i64 0) := (hf 47).1 rfl
      exact Exec.same (v := .bool false) rfl (by simp [go_sem, hρ.const, h47]) rfl
    · -- 2: slot 49 := Op.move t48
      refine StepOK.plain (kn_stable _) rfl fun ρ w hρ hw hf => ?_
      have h48 : ρ (.tmp 48) = (.bool false) := (hf 48).1 rfl
      exact Exec.kmove rfl rfl h48
    · -- 3: slot 50 := Op.move t8
      refine StepOK.guarded (kn_stable _) 2 false 49 rfl rfl (fun ρ w _ _ hf => (hf 49).1 rfl) fun ρ w hρ hw hf => ?_
      have h8 : ρ (.tmp 8) = (.int .i64 0) := (hf 8).2 rfl rfl
      exact Exec.kmove rfl rfl h8
    · -- 4: slot 51 := Op.binOp BinOp.neq 41 t50 (const (0:i64)) 41
      refine StepOK.guarded (kn_stable _) 2 false 49 rfl rfl (fun ρ w _ _ hf => (hf 49).1 rfl) fun ρ w hρ hw hf => ?_
      have h50 : ρ (.tmp 50) = (.int .i64 0) := (hf 50).1 rfl
      exact Exec.same (v := .bool false) rfl (by simp [go_sem, hρ.const, h50]) rfl
    · -- 5: slot 52 := Op.pick t49 (const (Value.bool true)) t51
      refine StepOK.plain (kn_stable _) rfl fun ρ w hρ hw hf => ?_
      have h49 : ρ (.tmp 49) = (.bool false) := (hf 49).1 rfl
      have h51 : ρ (.tmp 51) = (.bool false) := (hf 51).1 rfl
      exact Exec.kpickF rfl rfl h49 h51
    · -- 6: slot 53 := Op.move t52
      refine StepOK.plain (kn_stable _) rfl fun ρ w hρ hw hf => ?_
      have h52 : ρ (.tmp 52) = (.bool false) := (hf 52).1 rfl
      exact Exec.kmove rfl rfl h52
    · -- 7: slot 54 := Op.move t5
      refine StepOK.guarded (kn_stable _) 6 false 53 rfl rfl (fun ρ w _ _ hf => (hf 53).1 rfl) fun ρ w hρ hw hf => ?_
      have h5 : ρ (.tmp 5) = (.slice am (n + 10) cm) := (hf 5).2 rfl rfl
      exact Exec.kmove rfl rfl (by rw [h5]; exact HMA.out.ext hw)
    · -- 8: slot 55 := Op.convert 23 9 t54
      refine StepOK.guarded (kn_stable _) 6 false 53 rfl rfl (fun ρ w _ _ hf => (hf 53).1 rfl) fun ρ w hρ hw hf => ?_
      have h54 : Rd w (ρ (.tmp 54)) (ma) := (hf 54).1 rfl
      exact Exec.kstr rfl rfl Try.underlying23 Try.underlying5 Try.underlying9 h54 rfl
    · -- 9: slot 56 := Op.move t7
      refine StepOK.guarded (kn_stable _) 6 false 53 rfl rfl (fun ρ w _ _ hf => (hf 53).1 rfl) fun ρ w hρ hw hf => ?_
      have h7 : ρ (.tmp 7) = (.slice bm (n' + 10) dm) := (hf 7).2 rfl rfl
      exact Exec.kmove rfl rfl (by rw [h7]; exact HMB.out.ext hw)
    · -- 10: slot 57 := Op.convert 23 9 t56
      refine StepOK.guarded (kn_stable _) 6 false 53 rfl rfl (fun ρ w _ _ hf => (hf 53).1 rfl) fun ρ w hρ hw hf => ?_
      have h56 : Rd w (ρ (.tmp 56)) (mb) := (hf 56).1 rfl
      exact Exec.kstr rfl rfl Try.underlying23 Try.underlying5 Try.underlying9 h56 rfl
    · -- 11: slot 58 := Op.binOp BinOp.eql 9 t55 t57 9
      refine StepOK.guarded (kn_stable _) 6 false 53 rfl rfl (fun ρ w _ _ hf => (hf 53).1 rfl) fun ρ w hρ hw hf => ?_
      have h55 : ρ (.tmp 55) = (strV ma) := (hf 55).1 rfl
      have h57 : ρ (.tmp 57) = (strV mb) := (hf 57).1 rfl
      exact Exec.kstreq rfl rfl Try.underlying9 h55 h57 (by rw [HZ1.out]; rfl)
    · -- 12: slot 59 := Op.load 44 t2
      refine StepOK.guarded (kn_stable _) 6 false 53 rfl rfl (fun ρ w _ _ hf => (hf 53).1 rfl) fun ρ w hρ hw hf => ?_
      have h2 : ρ (.tmp 2) = (.pointer (some ⟨g2, 0, none⟩)) := (hf 2).2 rfl rfl
      have hg := hw.block g2 (Array.getElem?_eq_some_iff.1 HG2.out).1 (fun f => f)
      rw [HG2.out] at hg
      exact Exec.kloadrow rfl rfl h2 hg Try.underlying44 rfl info44 rfl
    · -- 13: slot 60 := Op.load 44 t3
      refine StepOK.guarded (kn_stable _) 6 false 53 rfl rfl (fun ρ w _ _ hf => (hf 53).1 rfl) fun ρ w hρ hw hf => ?_
      have h3 : ρ (.tmp 3) = (.pointer (some ⟨g3, 0, none⟩)) := (hf 3).2 rfl rfl
      have hg := hw.block g3 (Array.getElem?_eq_some_iff.1 HG3.out).1 (fun f => f)
      rw [HG3.out] at hg
      exact Exec.kloadrow rfl rfl h3 hg Try.underlying44 rfl info44 rfl
    · -- 14: slot 61 := Op.call { value (Operand.func 24), args := #[t59, t60], argTypes := #[
      refine StepOK.guarded (kn_stable _) 6 false 53 rfl rfl (fun ρ w _ _ hf => (hf 53).1 rfl) fun ρ w hρ hw hf => ?_
      have h59 : ρ (.tmp 59) = (.agg #[.int .u8 (x : Nat), .int .u8 (y : Nat), .slice ao n cap]) := (hf 59).1 rfl
      have h60 : ρ (.tmp 60) = (.agg #[.int .u8 (x' : Nat), .int .u8 (y' : Nat), .slice bo n' cap']) := (hf 60).1 rfl
      refine Exec.kcall #[.agg #[.int .u8 (x : Nat), .int .u8 (y : Nat), .slice ao n cap], .agg #[.int .u8 (x' : Nat), .int .u8 (y' : Nat), .slice bo n' cap']] hρ rfl rfl (by simp [hρ.const, h59, h60]) Try.func24 (by rfl) rfl ?_
      refine (same4_any _ _ _ _ _ _ _ _ w (HRF.out.ext hw) (HRG.out.ext hw)).mono ?_
      rintro e w' ⟨rfl, hx⟩
      exact ⟨_, rfl, by rw [HZ2.out]; rfl, hx⟩
    · -- 15: slot 62 := Op.binOp BinOp.neq 4 t58 t61 4
      refine StepOK.guarded (kn_stable _) 6 false 53 rfl rfl (fun ρ w _ _ hf => (hf 53).1 rfl) fun ρ w hρ hw hf => ?_
      have h58 : ρ (.tmp 58) = (.bool z) := (hf 58).1 rfl
      have h61 : ρ (.tmp 61) = (.bool z) := (hf 61).1 rfl
      exact Exec.same (v := .bool false) rfl (by cases z <;> simp [go_sem, hρ.const, h58, h61]) rfl
    · -- 16: slot 63 := Op.pick t53 (const (Value.bool true)) t62
      refine StepOK.plain (kn_stable _) rfl fun ρ w hρ hw hf => ?_
      have h53 : ρ (.tmp 53) = (.bool false) := (hf 53).1 rfl
      have h62 : ρ (.tmp 62) = (.bool false) := (hf 62).1 rfl
      exact Exec.kpickF rfl rfl h53 h62

  case fin =>
    intro ν w7 hfin hext
    have h0 : ν 63 = .bool false := hfin 16 63 rfl
    simp only [Exit.then, ended, List.foldl_cons, List.foldl_nil, List.setIfInBounds_toArray, List.set_cons_succ, List.set_cons_zero, h0]
    have HX7 := Lib.hid (HX6.out.trans hext)
    have HMA7 := Lib.hid (HMA.out.ext hext); have HMB7 := Lib.hid (HMB.out.ext hext)
    have HG27 : Hid (w7.heap[g2]? = some (.cells #[.int .u8 (x : Nat), .int .u8 (y : Nat), .slice ao n cap] 44 (0, 0))) := Lib.hid (by rw [hext.block _ (Array.getElem?_eq_some_iff.1 HG2.out).1 (fun f => f)]; exact HG2.out)
    have HG37 : Hid (w7.heap[g3]? = some (.cells #[.int .u8 (x' : Nat), .int .u8 (y' : Nat), .slice bo n' cap'] 44 (0, 0))) := Lib.hid (by rw [hext.block _ (Array.getElem?_eq_some_iff.1 HG3.out).1 (fun f => f)]; exact HG3.out)
    clear h0 hfin hext HX6 HMA HMB HG2 HG3 HRF HRG HZ1 HZ2
    have hown0 := World.ownsRow_made (e := 5) (size := 1) w7 #[] 0 (Nat.le_refl _) (by decide) (by simp)
    have hrd0 := Rd.ext HMA7.out ((Ch.refl _ w7).alloc (.cells #[] 5))
    unfold Rd at hrd0
    rw [HML.out] at hrd0
    have HO0 := Lib.hid hown0; have HD0 := Lib.hid hrd0; clear hown0 hrd0
    go_wp2_with (at_builtin; refine wpList_append_sl _ rfl _ _ 23 rfl w7.heap.size 5 i (.int .u8 0) 1 1 Try.underlying23 hi hz hsz hby rfl (by decide) _ _ _ rfl HO0.out _ _ _ rfl HD0.out (by rw [cellsB_length, HML.out, Nat.mul_one]) (cellsB_one _) (by omega) (by unfold maxLen; omega) (by simp) ?_)
    intro v8 w8 hown4 hgrow4
    obtain ⟨a4, c4, rfl⟩ := owns_shape hown4
    have hx4 : Ext w7 w8 := ((Ch.refl _ w7).alloc _).grown hgrow4 fun k hk => by have := (HO0.out.lt k hk).1; exact .inr this
    have HX8 := Lib.hid hx4; have HO4 := Lib.hid hown4
    have hrb := HMB7.out.ext hx4
    unfold Rd at hrb
    rw [HML'.out] at hrb
    have HRB := Lib.hid hrb
    clear hx4 hown4 hgrow4 hrb HO0 HD0
    go_wp2_with (at_builtin; refine wpList_append_sl _ rfl _ _ 23 rfl w7.heap.size 5 i (.int .u8 0) 1 1 Try.underlying23 hi hz hsz hby rfl (by decide) _ _ _ rfl HO4.out _ _ _ rfl HRB.out (by rw [cellsB_length, HML'.out, Nat.mul_one]) (cellsB_one _) (by omega) (by unfold maxLen; omega) HX8.out.size ?_)
    intro v9 w9 hown5 hgrow5
    have hx5 : Ext w7 w9 := HX8.out.grown hgrow5 fun k hk => by have := (HO4.out.lt k hk).1; exact .inr this
    rw [← cellsB_append] at hown5
    have hpa := parse_any v9 (ma ++ mb) w9 (Rd.ofOwns hown5) (by rw [List.length_append, HML.out, HML'.out]; omega)
    obtain ⟨a5, c5, rfl⟩ := owns_shape hown5
    have HX9 := Lib.hid hx5; have HPA := Lib.hid hpa
    clear hx5 hown5 hgrow5 hpa HX8 HO4 HRB
    go_wp2_with (go_at_call 22; refine HPA.out.mono ?_)
    rintro e w10 ⟨tp, rfl, hx, hrp⟩
    obtain ⟨m1, m2, m3, m4, m5⟩ := HMP.out
    rw [m4] at hrp
    rw [m1, m2, m3, m5]
    clear m1 m2 m3 m4 m5
    obtain ⟨a1, c1, rfl⟩ := hrp.shape
    generalize hn1 : p.length = n1 at *
    clear hn1
    have hx11 : Ext w7 (w10.alloc (.cells #[.int .u8 (x : Nat), .int .u8 (y : Nat), .slice a1 n1 c1] 40)) := (HX9.out.trans hx).alloc _
    have HG9 := Lib.hid (heap_alloc_new w10 (.cells #[.int .u8 (x : Nat), .int .u8 (y : Nat), .slice a1 n1 c1] 40))
    have HG2 : Hid ((w10.alloc (.cells #[.int .u8 (x : Nat), .int .u8 (y : Nat), .slice a1 n1 c1] 40)).heap[g2]? = some (.cells #[.int .u8 (x : Nat), .int .u8 (y : Nat), .slice ao n cap] 44 (0, 0))) := Lib.hid (by rw [hx11.block _ (Array.getElem?_eq_some_iff.1 HG27.out).1 (fun f => f)]; exact HG27.out)
    have HG3 : Hid ((w10.alloc (.cells #[.int .u8 (x : Nat), .int .u8 (y : Nat), .slice a1 n1 c1] 40)).heap[g3]? = some (.cells #[.int .u8 (x' : Nat), .int .u8 (y' : Nat), .slice bo n' cap'] 44 (0, 0))) := Lib.hid (by rw [hx11.block _ (Array.getElem?_eq_some_iff.1 HG37.out).1 (fun f => f)]; exact HG37.out)
    have HRP := Lib.hid (hrp.ext ((Ch.refl _ w10).alloc (.cells #[.int .u8 (x : Nat), .int .u8 (y : Nat), .slice a1 n1 c1] 40)))
    have HMA := Lib.hid (HMA7.out.ext hx11); have HMB := Lib.hid (HMB7.out.ext hx11); have HX11 := Lib.hid (HX7.out.trans hx11)
    have HRF := Lib.hid (H.out.ext HX11.out)
    have HLA := HML
    clear hx hx11 hrp HPA HX9 HMA7 HMB7 HG27 HG37 HX7
    go_wp2
    generalize w10.alloc (.cells #[.int .u8 (x : Nat), .int .u8 (y : Nat), .slice a1 n1 c1] 40) = w11 at *
    generalize w10.heap.size = g9 at *
    refine wp_region_ext (apartT2 x y a1 n1 c1 ao n cap ma) mixedEq (by rfl) (by rfl) ?all2 ?fin2
    case all2 =>
      refine ⟨?_, ?_, ?_, ?_, ?_, ?_, ?_, ?_, ?_, ?_, ?_, ?_, ?_, ?_, ?_, trivial⟩
      · -- 0: slot 74 := Op.move t11
        refine StepOK.plain (kn_stable _) rfl fun ρ w hρ hw hf => ?_
        have h11 : ρ (.tmp 11) = (.int .i64 0) := (hf 11).2 rfl rfl
        exact Exec.kmove rfl rfl h11
      · -- 1: slot 75 := Op.binOp BinOp.neq 41 t74 (const (0:i64)) 41
        refine StepOK.plain (kn_stable _) rfl fun ρ w hρ hw hf => ?_
        have h74 : ρ (.tmp 74) = (.int .i64 0) := (hf 74).1 rfl
        exact Exec.same (v := .bool false) rfl (by simp [go_sem, hρ.const, h74]) rfl
      · -- 2: slot 76 := Op.move t75
        refine StepOK.plain (kn_stable _) rfl fun ρ w hρ hw hf => ?_
        have h75 : ρ (.tmp 75) = (.bool false) := (hf 75).1 rfl
        exact Exec.kmove rfl rfl h75
      · -- 3: slot 77 := Op.move t10
        refine StepOK.guarded (kn_stable _) 2 false 76 rfl rfl (fun ρ w _ _ hf => (hf 76).1 rfl) fun ρ w hρ hw hf => ?_
        have h10 : ρ (.tmp 10) = (.int .i64 ((n + 10 : Nat) : Int)) := (hf 10).2 rfl rfl
        exact Exec.kmove rfl rfl h10
      · -- 4: slot 78 := Op.move t5
        refine StepOK.guarded (kn_stable _) 2 false 76 rfl rfl (fun ρ w _ _ hf => (hf 76).1 rfl) fun ρ w hρ hw hf => ?_
        have h5 : ρ (.tmp 5) = (.slice am (n + 10) cm) := (hf 5).2 rfl rfl
        exact Exec.kmove rfl rfl (by rw [h5]; exact HMA.out.ext hw)
      · -- 5: slot 79 := Op.call { builtin len, args := #[t78], argTypes := #[23] }
        refine StepOK.guarded (kn_stable _) 2 false 76 rfl rfl (fun ρ w _ _ hf => (hf 76).1 rfl) fun ρ w hρ hw hf => ?_
        have h78 : Rd w (ρ (.tmp 78)) (ma) := (hf 78).1 rfl
        exact Exec.klen (ats := #[]) rfl rfl Try.underlying23 h78 (by rw [HLA.out]; exact rfl)
      · -- 6: slot 80 := Op.binOp BinOp.neq 3 t77 t79 3
        refine StepOK.guarded (kn_stable _) 2 false 76 rfl rfl (fun ρ w _ _ hf => (hf 76).1 rfl) fun ρ w hρ hw hf => ?_
        have h77 : ρ (.tmp 77) = (.int .i64 ((n + 10 : Nat) : Int)) := (hf 77).1 rfl
        have h79 : ρ (.tmp 79) = (.int .i64 ((n + 10 : Nat) : Int)) := (hf 79).1 rfl
        exact Exec.same (v := .bool false) rfl (by simp [go_sem, hρ.const, h77, h79]) rfl
      · -- 7: slot 81 := Op.pick t76 (const (Value.bool true)) t80
        refine StepOK.plain (kn_stable _) rfl fun ρ w hρ hw hf => ?_
        have h76 : ρ (.tmp 76) = (.bool false) := (hf 76).1 rfl
        have h80 : ρ (.tmp 80) = (.bool false) := (hf 80).1 rfl
        exact Exec.kpickF rfl rfl h76 h80
      · -- 8: slot 82 := Op.move t81
        refine StepOK.plain (kn_stable _) rfl fun ρ w hρ hw hf => ?_
        have h81 : ρ (.tmp 81) = (.bool false) := (hf 81).1 rfl
        exact Exec.kmove rfl rfl h81
      · -- 9: slot 83 := Op.load 40 t9
        refine StepOK.guarded (kn_stable _) 8 false 82 rfl rfl (fun ρ w _ _ hf => (hf 82).1 rfl) fun ρ w hρ hw hf => ?_
        have h9 : ρ (.tmp 9) = (.pointer (some ⟨g9, 0, none⟩)) := (hf 9).2 rfl rfl
        have hg := hw.block g9 (Array.getElem?_eq_some_iff.1 HG9.out).1 (fun f => f)
        rw [HG9.out] at hg
        exact Exec.kloadrow rfl rfl h9 hg Try.underlying40 rfl info40 rfl
      · -- 10: slot 84 := Op.call { value (Operand.func 25), args := #[t83], argTypes := #[40] }
        refine StepOK.guarded (kn_stable _) 8 false 82 rfl rfl (fun ρ w _ _ hf => (hf 82).1 rfl) fun ρ w hρ hw hf => ?_
        have h83 : ρ (.tmp 83) = (.agg #[.int .u8 (x : Nat), .int .u8 (y : Nat), .slice a1 n1 c1]) := (hf 83).1 rfl
        refine Exec.kcall #[.agg #[.int .u8 (x : Nat), .int .u8 (y : Nat), .slice a1 n1 c1]] hρ rfl rfl (by simp [hρ.const, h83]) Try.func25 (by rfl) rfl ?_
        refine (back_any _ _ _ _ _ w).mono ?_
        rintro e w' ⟨rfl, hx⟩
        exact ⟨_, rfl, rfl, hx⟩
      · -- 11: slot 85 := Op.load 44 t2
        refine StepOK.guarded (kn_stable _) 8 false 82 rfl rfl (fun ρ w _ _ hf => (hf 82).1 rfl) fun ρ w hρ hw hf => ?_
        have h2 : ρ (.tmp 2) = (.pointer (some ⟨g2, 0, none⟩)) := (hf 2).2 rfl rfl
        have hg := hw.block g2 (Array.getElem?_eq_some_iff.1 HG2.out).1 (fun f => f)
        rw [HG2.out] at hg
        exact Exec.kloadrow rfl rfl h2 hg Try.underlying44 rfl info44 rfl
      · -- 12: slot 86 := Op.call { value (Operand.func 24), args := #[t84, t85], argTypes := #[
        refine StepOK.guarded (kn_stable _) 8 false 82 rfl rfl (fun ρ w _ _ hf => (hf 82).1 rfl) fun ρ w hρ hw hf => ?_
        have h84 : ρ (.tmp 84) = (.agg #[.int .u8 (x : Nat), .int .u8 (y : Nat), .slice a1 n1 c1]) := (hf 84).1 rfl
        have h85 : ρ (.tmp 85) = (.agg #[.int .u8 (x : Nat), .int .u8 (y : Nat), .slice ao n cap]) := (hf 85).1 rfl
        refine Exec.kcall #[.agg #[.int .u8 (x : Nat), .int .u8 (y : Nat), .slice a1 n1 c1], .agg #[.int .u8 (x : Nat), .int .u8 (y : Nat), .slice ao n cap]] hρ rfl rfl (by simp [hρ.const, h84, h85]) Try.func24 (by rfl) rfl ?_
        refine (same4_any _ _ _ _ _ _ _ _ w (HRP.out.ext hw) (HRF.out.ext hw)).mono ?_
        rintro e w' ⟨rfl, hx⟩
        exact ⟨_, rfl, by simp; exact rfl, hx⟩
      · -- 13: slot 87 := Op.unOp UnOp.not 4 t86
        refine StepOK.guarded (kn_stable _) 8 false 82 rfl rfl (fun ρ w _ _ hf => (hf 82).1 rfl) fun ρ w hρ hw hf => ?_
        have h86 : ρ (.tmp 86) = (.bool true) := (hf 86).1 rfl
        exact Exec.same (v := .bool false) rfl (by simp [go_sem, hρ.const, h86]) rfl
      · -- 14: slot 88 := Op.pick t82 (const (Value.bool true)) t87
        refine StepOK.plain (kn_stable _) rfl fun ρ w hρ hw hf => ?_
        have h82 : ρ (.tmp 82) = (.bool false) := (hf 82).1 rfl
        have h87 : ρ (.tmp 87) = (.bool false) := (hf 87).1 rfl
        exact Exec.kpickF rfl rfl h82 h87

    case fin2 =>
      intro ν w12 hfin hext
      have h0 : ν 88 = .bool false := hfin 14 88 rfl
      simp only [Exit.then, ended, List.foldl_cons, List.foldl_nil, List.setIfInBounds_toArray, List.set_cons_succ, List.set_cons_zero, h0]
      have HX12 := Lib.hid (HX11.out.trans hext)
      have HMB12 := Lib.hid (HMB.out.ext hext)
      have HG312 : Hid (w12.heap[g3]? = some (.cells #[.int .u8 (x' : Nat), .int .u8 (y' : Nat), .slice bo n' cap'] 44 (0, 0))) := Lib.hid (by rw [hext.block _ (Array.getElem?_eq_some_iff.1 HG3.out).1 (fun f => f)]; exact HG3.out)
      have hpb := parse_any _ mb w12 HMB12.out (by rw [HML'.out]; omega)
      have HPB := Lib.hid hpb
      clear h0 hfin hext hpb HX11 HMA HMB HG2 HG3 HG9 HRF HRP
      go_wp2_with (go_at_call 22; refine HPB.out.mono ?_)
      rintro e w13 ⟨tq, rfl, hx, hrq⟩
      obtain ⟨m1, m2, m3, m4, m5⟩ := HMP'.out
      rw [m4] at hrq
      rw [m1, m2, m3, m5]
      clear m1 m2 m3 m4 m5
      obtain ⟨a2, c2, rfl⟩ := hrq.shape
      generalize hn2 : p'.length = n2 at *
      clear hn2
      have hx14 : Ext w12 (w13.alloc (.cells #[.int .u8 (x' : Nat), .int .u8 (y' : Nat), .slice a2 n2 c2] 40)) := hx.alloc _
      have HG12 := Lib.hid (heap_alloc_new w13 (.cells #[.int .u8 (x' : Nat), .int .u8 (y' : Nat), .slice a2 n2 c2] 40))
      have HG3 : Hid ((w13.alloc (.cells #[.int .u8 (x' : Nat), .int .u8 (y' : Nat), .slice a2 n2 c2] 40)).heap[g3]? = some (.cells #[.int .u8 (x' : Nat), .int .u8 (y' : Nat), .slice bo n' cap'] 44 (0, 0))) := Lib.hid (by rw [hx14.block _ (Array.getElem?_eq_some_iff.1 HG312.out).1 (fun f => f)]; exact HG312.out)
      have HRQ := Lib.hid (hrq.ext ((Ch.refl _ w13).alloc (.cells #[.int .u8 (x' : Nat), .int .u8 (y' : Nat), .slice a2 n2 c2] 40)))
      have HMB := Lib.hid (HMB12.out.ext hx14); have HX14 := Lib.hid (HX12.out.trans hx14)
      have HRG := Lib.hid (H'.out.ext HX14.out)
      have HLB := HML'
      clear hx hx14 hrq HPB HMB12 HG312 HX12
      go_wp2
      generalize w13.alloc (.cells #[.int .u8 (x' : Nat), .int .u8 (y' : Nat), .slice a2 n2 c2] 40) = w14 at *
      generalize w13.heap.size = g12 at *
      refine wp_region_ext (apartT3 x' y' a2 n2 c2 bo n' cap' mb) mixedEq (by rfl) (by rfl) ?all3 ?fin3
      case all3 =>
        refine ⟨?_, ?_, ?_, ?_, ?_, ?_, ?_, ?_, ?_, ?_, ?_, ?_, ?_, ?_, ?_, ?_, ?_, ?_, trivial⟩
        · -- 0: slot 95 := Op.move t14
          refine StepOK.plain (kn_stable _) rfl fun ρ w hρ hw hf => ?_
          have h14 : ρ (.tmp 14) = (.int .i64 0) := (hf 14).2 rfl rfl
          exact Exec.kmove rfl rfl h14
        · -- 1: slot 96 := Op.binOp BinOp.eql 41 t95 (const (0:i64)) 41
          refine StepOK.plain (kn_stable _) rfl fun ρ w hρ hw hf => ?_
          have h95 : ρ (.tmp 95) = (.int .i64 0) := (hf 95).1 rfl
          exact Exec.same (v := .bool true) rfl (by simp [go_sem, hρ.const, h95]) rfl
        · -- 2: slot 97 := Op.move t96
          refine StepOK.plain (kn_stable _) rfl fun ρ w hρ hw hf => ?_
          have h96 : ρ (.tmp 96) = (.bool true) := (hf 96).1 rfl
          exact Exec.kmove rfl rfl h96
        · -- 3: slot 98 := Op.move t13
          refine StepOK.guarded (kn_stable _) 2 true 97 rfl rfl (fun ρ w _ _ hf => (hf 97).1 rfl) fun ρ w hρ hw hf => ?_
          have h13 : ρ (.tmp 13) = (.int .i64 ((n' + 10 : Nat) : Int)) := (hf 13).2 rfl rfl
          exact Exec.kmove rfl rfl h13
        · -- 4: slot 99 := Op.move t7
          refine StepOK.guarded (kn_stable _) 2 true 97 rfl rfl (fun ρ w _ _ hf => (hf 97).1 rfl) fun ρ w hρ hw hf => ?_
          have h7 : ρ (.tmp 7) = (.slice bm (n' + 10) dm) := (hf 7).2 rfl rfl
          exact Exec.kmove rfl rfl (by rw [h7]; exact HMB.out.ext hw)
        · -- 5: slot 100 := Op.call { builtin len, args := #[t99], argTypes := #[23] }
          refine StepOK.guarded (kn_stable _) 2 true 97 rfl rfl (fun ρ w _ _ hf => (hf 97).1 rfl) fun ρ w hρ hw hf => ?_
          have h99 : Rd w (ρ (.tmp 99)) (mb) := (hf 99).1 rfl
          exact Exec.klen (ats := #[]) rfl rfl Try.underlying23 h99 (by rw [HLB.out]; exact rfl)
        · -- 6: slot 101 := Op.binOp BinOp.eql 3 t98 t100 3
          refine StepOK.guarded (kn_stable _) 2 true 97 rfl rfl (fun ρ w _ _ hf => (hf 97).1 rfl) fun ρ w hρ hw hf => ?_
          have h98 : ρ (.tmp 98) = (.int .i64 ((n' + 10 : Nat) : Int)) := (hf 98).1 rfl
          have h100 : ρ (.tmp 100) = (.int .i64 ((n' + 10 : Nat) : Int)) := (hf 100).1 rfl
          exact Exec.same (v := .bool true) rfl (by simp [go_sem, hρ.const, h98, h100]) rfl
        · -- 7: slot 102 := Op.pick t97 t101 (const (Value.bool false))
          refine StepOK.plain (kn_stable _) rfl fun ρ w hρ hw hf => ?_
          have h97 : ρ (.tmp 97) = (.bool true) := (hf 97).1 rfl
          have h101 : ρ (.tmp 101) = (.bool true) := (hf 101).1 rfl
          exact Exec.kpickT rfl rfl h97 h101
        · -- 8: slot 103 := Op.move t102
          refine StepOK.plain (kn_stable _) rfl fun ρ w hρ hw hf => ?_
          have h102 : ρ (.tmp 102) = (.bool true) := (hf 102).1 rfl
          exact Exec.kmove rfl rfl h102
        · -- 9: slot 104 := Op.load 40 t12
          refine StepOK.guarded (kn_stable _) 8 true 103 rfl rfl (fun ρ w _ _ hf => (hf 103).1 rfl) fun ρ w hρ hw hf => ?_
          have h12 : ρ (.tmp 12) = (.pointer (some ⟨g12, 0, none⟩)) := (hf 12).2 rfl rfl
          have hg := hw.block g12 (Array.getElem?_eq_some_iff.1 HG12.out).1 (fun f => f)
          rw [HG12.out] at hg
          exact Exec.kloadrow rfl rfl h12 hg Try.underlying40 rfl info40 rfl
        · -- 10: slot 105 := Op.call { value (Operand.func 25), args := #[t104], argTypes := #[40] 
          refine StepOK.guarded (kn_stable _) 8 true 103 rfl rfl (fun ρ w _ _ hf => (hf 103).1 rfl) fun ρ w hρ hw hf => ?_
          have h104 : ρ (.tmp 104) = (.agg #[.int .u8 (x' : Nat), .int .u8 (y' : Nat), .slice a2 n2 c2]) := (hf 104).1 rfl
          refine Exec.kcall #[.agg #[.int .u8 (x' : Nat), .int .u8 (y' : Nat), .slice a2 n2 c2]] hρ rfl rfl (by simp [hρ.const, h104]) Try.func25 (by rfl) rfl ?_
          refine (back_any _ _ _ _ _ w).mono ?_
          rintro e w' ⟨rfl, hx⟩
          exact ⟨_, rfl, rfl, hx⟩
        · -- 11: slot 106 := Op.load 44 t3
          refine StepOK.guarded (kn_stable _) 8 true 103 rfl rfl (fun ρ w _ _ hf => (hf 103).1 rfl) fun ρ w hρ hw hf => ?_
          have h3 : ρ (.tmp 3) = (.pointer (some ⟨g3, 0, none⟩)) := (hf 3).2 rfl rfl
          have hg := hw.block g3 (Array.getElem?_eq_some_iff.1 HG3.out).1 (fun f => f)
          rw [HG3.out] at hg
          exact Exec.kloadrow rfl rfl h3 hg Try.underlying44 rfl info44 rfl
        · -- 12: slot 107 := Op.call { value (Operand.func 24), args := #[t105, t106], argTypes := 
          refine StepOK.guarded (kn_stable _) 8 true 103 rfl rfl (fun ρ w _ _ hf => (hf 103).1 rfl) fun ρ w hρ hw hf => ?_
          have h105 : ρ (.tmp 105) = (.agg #[.int .u8 (x' : Nat), .int .u8 (y' : Nat), .slice a2 n2 c2]) := (hf 105).1 rfl
          have h106 : ρ (.tmp 106) = (.agg #[.int .u8 (x' : Nat), .int .u8 (y' : Nat), .slice bo n' cap']) := (hf 106).1 rfl
          refine Exec.kcall #[.agg #[.int .u8 (x' : Nat), .int .u8 (y' : Nat), .slice a2 n2 c2], .agg #[.int .u8 (x' : Nat), .int .u8 (y' : Nat), .slice bo n' cap']] hρ rfl rfl (by simp [hρ.const, h105, h106]) Try.func24 (by rfl) rfl ?_
          refine (same4_any _ _ _ _ _ _ _ _ w (HRQ.out.ext hw) (HRG.out.ext hw)).mono ?_
          rintro e w' ⟨rfl, hx⟩
          exact ⟨_, rfl, by simp; exact rfl, hx⟩
        · -- 13: slot 108 := Op.pick t103 t107 (const (Value.bool false))
          refine StepOK.plain (kn_stable _) rfl fun ρ w hρ hw hf => ?_
          have h103 : ρ (.tmp 103) = (.bool true) := (hf 103).1 rfl
          have h107 : ρ (.tmp 107) = (.bool true) := (hf 107).1 rfl
          exact Exec.kpickT rfl rfl h103 h107
        · -- 14: slot 109 := Op.move t108
          refine StepOK.plain (kn_stable _) rfl fun ρ w hρ hw hf => ?_
          have h108 : ρ (.tmp 108) = (.bool true) := (hf 108).1 rfl
          exact Exec.kmove rfl rfl h108
        · -- 15: slot 110 := Op.call { value (Operand.func 26), args := #[], argTypes := #[] }
          refine StepOK.guarded (kn_stable _) 14 true 109 rfl rfl (fun ρ w _ _ hf => (hf 109).1 rfl) fun ρ w hρ hw hf => ?_
          refine Exec.kcall #[] hρ rfl rfl (by simp) Try.func26 (by rfl) rfl ?_
          refine (awake4_any w).mono ?_
          rintro e w' ⟨rfl, hx⟩
          exact ⟨_, rfl, rfl, hx⟩
        · -- 16: slot 111 := Op.pick t109 t110 (const (Value.bool false))
          refine StepOK.plain (kn_stable _) rfl fun ρ w hρ hw hf => ?_
          have h109 : ρ (.tmp 109) = (.bool true) := (hf 109).1 rfl
          have h110 : ρ (.tmp 110) = (.bool true) := (hf 110).1 rfl
          exact Exec.kpickT rfl rfl h109 h110
        · -- 17: slot 4 := Op.assign t111
          refine StepOK.plain (kn_stable _) rfl fun ρ w hρ hw hf => ?_
          have h111 : ρ (.tmp 111) = (.bool true) := (hf 111).1 rfl
          exact Exec.kassign rfl rfl h111

      case fin3 =>
        intro ν w15 hfin hext
        have h0 : ν 4 = .bool true := hfin 17 4 rfl
        simp only [Exit.then, ended, List.foldl_cons, List.foldl_nil, List.setIfInBounds_toArray, List.set_cons_succ, List.set_cons_zero, h0]
        have HX15 := Lib.hid (HX14.out.trans hext); clear hext hfin h0
        go_wp2
        go_ret
        exact ⟨rfl, HX15.out⟩

end Go.Proofs.Ytcdhalgpnhdbnaa
