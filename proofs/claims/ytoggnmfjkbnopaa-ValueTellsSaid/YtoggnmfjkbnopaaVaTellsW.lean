/-
  ValueTells: the walk.
-/
import Derived.Test.YtoggnmfjkbnopaaValE
import Derived.Test.YtoggnmfjkbnopaaValF
import Derived.Test.YtoggnmfjkbnopaaValG
import Derived.Test.YtoggnmfjkbnopaaValH
import Derived.Test.YtoggnmfjkbnopaaAwake6
namespace Go.Proofs.Ytoggnmfjkbnopaa
open Go.RowKit Go.Lac

def tellsT (a b : Val) (g1 : Nat) (z : Bool) : Tmp → Kn
  | 4 => .is (.bool true)
  | 26 => .is (.int .u64 (a.re : Nat))
  | 27 => .is (.pointer (some ⟨g1, 2, none⟩))
  | 28 => .is (.int .u64 (a.re : Nat))
  | 29 => .is (.bool true)
  | 30 => .is (.bool true)
  | 31 => .is (.int .u64 (a.im : Nat))
  | 32 => .is (.pointer (some ⟨g1, 3, none⟩))
  | 33 => .is (.int .u64 (a.im : Nat))
  | 34 => .is (.bool true)
  | 35 => .is (.bool true)
  | 36 => .is (.bool true)
  | 37 => .is (rv a)
  | 38 => .is (pv a)
  | 39 => .is (.int .i64 (vErr a : Nat))
  | 40 => .is (rv a)
  | 41 => .is (.int .i64 (vErr a : Nat))
  | 42 => .is (.bool true)
  | 43 => .is (.bool true)
  | 44 => .is (.bool true)
  | 45 => .is (rv a)
  | 46 => .is (pv a)
  | 47 => .is (rv b)
  | 48 => .is (pv b)
  | 49 => .is (.bool z)
  | 50 => .is (rv a)
  | 51 => .is (rv b)
  | 52 => .is (.bool z)
  | 53 => .is (.bool true)
  | 54 => .is (.bool true)
  | 55 => .is (.bool true)
  | 56 => .is (.bool true)
  | 57 => .is (.bool true)
  | _ => .any

set_option maxRecDepth 20000 in
set_option maxHeartbeats 4000000 in
theorem valueTells_walk (a b : Val) (w : World) :
    Calls Try.prog 7 #[rv a, rv b] w fun e w' => e = .returned (.bool true) ∧ Ext w w' := by
  obtain ⟨W1, hW1⟩ : ∃ W1, W1 = (w.alloc (.cells (rvals a) 54)).alloc (.cells (rvals b) 54) := ⟨_, rfl⟩
  have hga : W1.heap[w.heap.size]? = some (.cells (rvals a) 54 (0, 0)) := by rw [hW1]; exact heap_alloc2_old _ _ _
  have hgb : W1.heap[w.heap.size + 1]? = some (.cells (rvals b) 54 (0, 0)) := by rw [hW1]; exact heap_alloc2_new _ _ _
  have hx1 : Ext w W1 := by rw [hW1]; exact ((Ch.refl _ _).alloc _).alloc _
  have HGA := Lib.hid hga; have HGB := Lib.hid hgb; have HX1 := Lib.hid hx1; have HW1 := Lib.hid hW1
  have hsa : (⟨a.t.toArray⟩ : ByteArray).size = a.t.length := by simp [ByteArray.size]
  have hsb : (⟨b.t.toArray⟩ : ByteArray).size = b.t.length := by simp [ByteArray.size]
  have hia : rv a = .agg (rvals a) := rfl
  have hib : rv b = .agg (rvals b) := rfl
  rw [hia, hib]
  clear hia hib
  obtain ⟨AS, hAS⟩ : ∃ AS, AS = (⟨a.t.toArray⟩ : ByteArray) := ⟨_, rfl⟩
  obtain ⟨BS, hBS⟩ : ∃ BS, BS = (⟨b.t.toArray⟩ : ByteArray) := ⟨_, rfl⟩
  rw [← hAS] at hsa
  rw [← hBS] at hsb
  have ca2 : W1.cell? ⟨w.heap.size, 2, none⟩ = some (.int .u64 (a.re : Nat)) := by rw [cell_of_row _ _ _ _ _ _ hga]; rfl
  have ca3 : W1.cell? ⟨w.heap.size, 3, none⟩ = some (.int .u64 (a.im : Nat)) := by rw [cell_of_row _ _ _ _ _ _ hga]; rfl
  have ca4 : W1.cell? ⟨w.heap.size, 4, none⟩ = some (.string AS) := by rw [cell_of_row _ _ _ _ _ _ hga, hAS]; rfl
  have cb4 : W1.cell? ⟨w.heap.size + 1, 4, none⟩ = some (.string BS) := by rw [cell_of_row _ _ _ _ _ _ hgb, hBS]; rfl
  have HC2 := Lib.hid ca2; have HC3 := Lib.hid ca3
  clear hAS hBS hga hgb hx1 HGA HGB
  have HGA : Hid (W1.heap[w.heap.size]? = some (.cells (rvals a) 54 (0, 0))) := Lib.hid (by rw [hW1]; exact heap_alloc2_old _ _ _)
  have HGB : Hid (W1.heap[w.heap.size + 1]? = some (.cells (rvals b) 54 (0, 0))) := Lib.hid (by rw [hW1]; exact heap_alloc2_new _ _ _)
  rw [hW1] at ca2 ca3 ca4 cb4
  clear hW1
  by_cases hla : 3000 < a.t.length
  · clear ca2 ca3
    generalize a.t.length = na at *
    go_enter Try.func7, Try.ntmps7
    go_wp2
    go_ret
    rw [← HW1.out]
    exact ⟨rfl, HX1.out⟩
  by_cases hlb : 3000 < b.t.length
  · clear ca2 ca3
    generalize a.t.length = na at *
    generalize b.t.length = nb at *
    go_enter Try.func7, Try.ntmps7
    go_wp2
    go_ret
    rw [← HW1.out]
    exact ⟨rfl, HX1.out⟩
  have hla' : a.t.length ≤ 3000 := by omega
  have hlb' : b.t.length ≤ 3000 := by omega
  clear hla hlb
  go_enter Try.func7, Try.ntmps7
  go_wp2_with (first
    | (go_at_call 25; refine (of_any _ _ _).mono ?_; rintro e w' ⟨rfl, rfl⟩)
    | (go_at_call 24; refine (bits_any _ _ _).mono ?_; rintro e w' ⟨rfl, rfl⟩))
  rw [← HW1.out]
  have GA := Lib.hid HGA.out; have GB := Lib.hid HGB.out
  clear ca2 ca3 ca4 cb4 HW1 hla' hlb' hsa hsb HGA HGB
  obtain ⟨z, hz⟩ : ∃ z, z = decide (a = b) := ⟨_, rfl⟩
  have HZ : Hid (decide (a = b) = z) := Lib.hid hz.symm
  clear hz
  generalize hg1 : w.heap.size = g1 at *
  clear hg1
  refine wp_region_ext (tellsT a b g1 z) mixedV (by rfl) (by rfl) ?all ?fin
  case all =>
    refine ⟨?_, ?_, ?_, ?_, ?_, ?_, ?_, ?_, ?_, ?_, ?_, ?_, ?_, ?_, ?_, ?_, ?_, ?_, ?_, ?_, ?_, ?_, ?_, ?_, ?_, ?_, ?_, ?_, ?_, ?_, ?_, ?_, ?_, trivial⟩
    · -- 0: slot 26 := Op.move t5
      refine StepOK.plain (kn_stable _) rfl fun ρ w hρ hw hf => ?_
      have h5 : ρ (.tmp 5) = (.int .u64 (a.re : Nat)) := (hf 5).2 rfl rfl
      exact Exec.kmove rfl rfl h5
    · -- 1: slot 27 := Op.fieldAddr 54 t2 2
      refine StepOK.plain (kn_stable _) rfl fun ρ w hρ hw hf => ?_
      have h2 : ρ (.tmp 2) = (.pointer (some ⟨g1, 0, none⟩)) := (hf 2).2 rfl rfl
      exact Exec.kfield rfl rfl h2 (field54_2 w g1) rfl
    · -- 2: slot 28 := Op.load 37 t27
      refine StepOK.plain (kn_stable _) rfl fun ρ w hρ hw hf => ?_
      have h27 : ρ (.tmp 27) = (.pointer (some ⟨g1, 2, none⟩)) := (hf 27).1 rfl
      have hc := hw.cell (p := ⟨g1, 2, none⟩) (fun f => f) _ HC2.out
      exact Exec.same (v := .int .u64 (a.re : Nat)) rfl (by simp [go_sem, hρ.const, h27, hc]) rfl
    · -- 3: slot 29 := Op.binOp BinOp.eql 37 t26 t28 37
      refine StepOK.plain (kn_stable _) rfl fun ρ w hρ hw hf => ?_
      have h26 : ρ (.tmp 26) = (.int .u64 (a.re : Nat)) := (hf 26).1 rfl
      have h28 : ρ (.tmp 28) = (.int .u64 (a.re : Nat)) := (hf 28).1 rfl
      exact Exec.same (v := .bool true) rfl (by simp [go_sem, hρ.const, h26, h28]) rfl
    · -- 4: slot 30 := Op.move t29
      refine StepOK.plain (kn_stable _) rfl fun ρ w hρ hw hf => ?_
      have h29 : ρ (.tmp 29) = (.bool true) := (hf 29).1 rfl
      exact Exec.kmove rfl rfl h29
    · -- 5: slot 31 := Op.move t6
      refine StepOK.guarded (kn_stable _) 4 true 30 rfl rfl (fun ρ w _ _ hf => (hf 30).1 rfl) fun ρ w hρ hw hf => ?_
      have h6 : ρ (.tmp 6) = (.int .u64 (a.im : Nat)) := (hf 6).2 rfl rfl
      exact Exec.kmove rfl rfl h6
    · -- 6: slot 32 := Op.fieldAddr 54 t2 3
      refine StepOK.guarded (kn_stable _) 4 true 30 rfl rfl (fun ρ w _ _ hf => (hf 30).1 rfl) fun ρ w hρ hw hf => ?_
      have h2 : ρ (.tmp 2) = (.pointer (some ⟨g1, 0, none⟩)) := (hf 2).2 rfl rfl
      exact Exec.kfield rfl rfl h2 (field54_3 w g1) rfl
    · -- 7: slot 33 := Op.load 37 t32
      refine StepOK.guarded (kn_stable _) 4 true 30 rfl rfl (fun ρ w _ _ hf => (hf 30).1 rfl) fun ρ w hρ hw hf => ?_
      have h32 : ρ (.tmp 32) = (.pointer (some ⟨g1, 3, none⟩)) := (hf 32).1 rfl
      have hc := hw.cell (p := ⟨g1, 3, none⟩) (fun f => f) _ HC3.out
      exact Exec.same (v := .int .u64 (a.im : Nat)) rfl (by simp [go_sem, hρ.const, h32, hc]) rfl
    · -- 8: slot 34 := Op.binOp BinOp.eql 37 t31 t33 37
      refine StepOK.guarded (kn_stable _) 4 true 30 rfl rfl (fun ρ w _ _ hf => (hf 30).1 rfl) fun ρ w hρ hw hf => ?_
      have h31 : ρ (.tmp 31) = (.int .u64 (a.im : Nat)) := (hf 31).1 rfl
      have h33 : ρ (.tmp 33) = (.int .u64 (a.im : Nat)) := (hf 33).1 rfl
      exact Exec.same (v := .bool true) rfl (by simp [go_sem, hρ.const, h31, h33]) rfl
    · -- 9: slot 35 := Op.pick t30 t34 (const (Value.bool false))
      refine StepOK.plain (kn_stable _) rfl fun ρ w hρ hw hf => ?_
      have h30 : ρ (.tmp 30) = (.bool true) := (hf 30).1 rfl
      have h34 : ρ (.tmp 34) = (.bool true) := (hf 34).1 rfl
      exact Exec.kpickT rfl rfl h30 h34
    · -- 10: slot 36 := Op.move t35
      refine StepOK.plain (kn_stable _) rfl fun ρ w hρ hw hf => ?_
      have h35 : ρ (.tmp 35) = (.bool true) := (hf 35).1 rfl
      exact Exec.kmove rfl rfl h35
    · -- 11: slot 37 := Op.load 54 t2
      refine StepOK.guarded (kn_stable _) 10 true 36 rfl rfl (fun ρ w _ _ hf => (hf 36).1 rfl) fun ρ w hρ hw hf => ?_
      have h2 : ρ (.tmp 2) = (.pointer (some ⟨g1, 0, none⟩)) := (hf 2).2 rfl rfl
      have hg := (hw.block g1 (Array.getElem?_eq_some_iff.1 GA.out).1 (fun f => f)).trans GA.out
      exact Exec.kloadrow rfl rfl h2 hg Try.underlying54 rfl (infoR _) rfl
    · -- 12: slot 38 := Op.call { value (Operand.func 27), args := #[t37], argTypes := #[54] }
      refine StepOK.guarded (kn_stable _) 10 true 36 rfl rfl (fun ρ w _ _ hf => (hf 36).1 rfl) fun ρ w hρ hw hf => ?_
      have h37 : ρ (.tmp 37) = (rv a) := (hf 37).1 rfl
      refine Exec.kcall #[rv a] hρ rfl rfl (by simp [hρ.const, h37]) Try.func27 (by rfl) rfl ?_
      refine (lawOwn_any a w).mono ?_
      rintro e w' ⟨rfl, hx⟩
      exact ⟨_, rfl, rfl, hx⟩
    · -- 13: slot 39 := Op.call { value (Operand.func 26), args := #[t38], argTypes := #[61] }
      refine StepOK.guarded (kn_stable _) 10 true 36 rfl rfl (fun ρ w _ _ hf => (hf 36).1 rfl) fun ρ w hρ hw hf => ?_
      have h38 : ρ (.tmp 38) = (pv a) := (hf 38).1 rfl
      refine Exec.kcall #[pv a] hρ rfl rfl (by simp [hρ.const, h38]) Try.func26 (by rfl) rfl ?_
      refine (vright_any a w).mono ?_
      rintro e w' ⟨rfl, hx⟩
      exact ⟨_, rfl, rfl, hx⟩
    · -- 14: slot 40 := Op.load 54 t2
      refine StepOK.guarded (kn_stable _) 10 true 36 rfl rfl (fun ρ w _ _ hf => (hf 36).1 rfl) fun ρ w hρ hw hf => ?_
      have h2 : ρ (.tmp 2) = (.pointer (some ⟨g1, 0, none⟩)) := (hf 2).2 rfl rfl
      have hg := (hw.block g1 (Array.getElem?_eq_some_iff.1 GA.out).1 (fun f => f)).trans GA.out
      exact Exec.kloadrow rfl rfl h2 hg Try.underlying54 rfl (infoR _) rfl
    · -- 15: slot 41 := Op.call { value (Operand.func 28), args := #[t40], argTypes := #[54] }
      refine StepOK.guarded (kn_stable _) 10 true 36 rfl rfl (fun ρ w _ _ hf => (hf 36).1 rfl) fun ρ w hρ hw hf => ?_
      have h40 : ρ (.tmp 40) = (rv a) := (hf 40).1 rfl
      refine Exec.kcall #[rv a] hρ rfl rfl (by simp [hρ.const, h40]) Try.func28 (by rfl) rfl ?_
      refine (rright_any a w).mono ?_
      rintro e w' ⟨rfl, hx⟩
      exact ⟨_, rfl, rfl, hx⟩
    · -- 16: slot 42 := Op.binOp BinOp.eql 3 t39 t41 3
      refine StepOK.guarded (kn_stable _) 10 true 36 rfl rfl (fun ρ w _ _ hf => (hf 36).1 rfl) fun ρ w hρ hw hf => ?_
      have h39 : ρ (.tmp 39) = (.int .i64 (vErr a : Nat)) := (hf 39).1 rfl
      have h41 : ρ (.tmp 41) = (.int .i64 (vErr a : Nat)) := (hf 41).1 rfl
      exact Exec.same (v := .bool true) rfl (by simp [go_sem, hρ.const, h39, h41]) rfl
    · -- 17: slot 43 := Op.pick t36 t42 (const (Value.bool false))
      refine StepOK.plain (kn_stable _) rfl fun ρ w hρ hw hf => ?_
      have h36 : ρ (.tmp 36) = (.bool true) := (hf 36).1 rfl
      have h42 : ρ (.tmp 42) = (.bool true) := (hf 42).1 rfl
      exact Exec.kpickT rfl rfl h36 h42
    · -- 18: slot 44 := Op.move t43
      refine StepOK.plain (kn_stable _) rfl fun ρ w hρ hw hf => ?_
      have h43 : ρ (.tmp 43) = (.bool true) := (hf 43).1 rfl
      exact Exec.kmove rfl rfl h43
    · -- 19: slot 45 := Op.load 54 t2
      refine StepOK.guarded (kn_stable _) 18 true 44 rfl rfl (fun ρ w _ _ hf => (hf 44).1 rfl) fun ρ w hρ hw hf => ?_
      have h2 : ρ (.tmp 2) = (.pointer (some ⟨g1, 0, none⟩)) := (hf 2).2 rfl rfl
      have hg := (hw.block g1 (Array.getElem?_eq_some_iff.1 GA.out).1 (fun f => f)).trans GA.out
      exact Exec.kloadrow rfl rfl h2 hg Try.underlying54 rfl (infoR _) rfl
    · -- 20: slot 46 := Op.call { value (Operand.func 27), args := #[t45], argTypes := #[54] }
      refine StepOK.guarded (kn_stable _) 18 true 44 rfl rfl (fun ρ w _ _ hf => (hf 44).1 rfl) fun ρ w hρ hw hf => ?_
      have h45 : ρ (.tmp 45) = (rv a) := (hf 45).1 rfl
      refine Exec.kcall #[rv a] hρ rfl rfl (by simp [hρ.const, h45]) Try.func27 (by rfl) rfl ?_
      refine (lawOwn_any a w).mono ?_
      rintro e w' ⟨rfl, hx⟩
      exact ⟨_, rfl, rfl, hx⟩
    · -- 21: slot 47 := Op.load 54 t3
      refine StepOK.guarded (kn_stable _) 18 true 44 rfl rfl (fun ρ w _ _ hf => (hf 44).1 rfl) fun ρ w hρ hw hf => ?_
      have h3 : ρ (.tmp 3) = (.pointer (some ⟨g1 + 1, 0, none⟩)) := (hf 3).2 rfl rfl
      have hg := (hw.block (g1 + 1) (Array.getElem?_eq_some_iff.1 GB.out).1 (fun f => f)).trans GB.out
      exact Exec.kloadrow rfl rfl h3 hg Try.underlying54 rfl (infoR _) rfl
    · -- 22: slot 48 := Op.call { value (Operand.func 27), args := #[t47], argTypes := #[54] }
      refine StepOK.guarded (kn_stable _) 18 true 44 rfl rfl (fun ρ w _ _ hf => (hf 44).1 rfl) fun ρ w hρ hw hf => ?_
      have h47 : ρ (.tmp 47) = (rv b) := (hf 47).1 rfl
      refine Exec.kcall #[rv b] hρ rfl rfl (by simp [hρ.const, h47]) Try.func27 (by rfl) rfl ?_
      refine (lawOwn_any b w).mono ?_
      rintro e w' ⟨rfl, hx⟩
      exact ⟨_, rfl, rfl, hx⟩
    · -- 23: slot 49 := Op.call { value (Operand.func 29), args := #[t46, t48], argTypes := #[
      refine StepOK.guarded (kn_stable _) 18 true 44 rfl rfl (fun ρ w _ _ hf => (hf 44).1 rfl) fun ρ w hρ hw hf => ?_
      have h46 : ρ (.tmp 46) = (pv a) := (hf 46).1 rfl
      have h48 : ρ (.tmp 48) = (pv b) := (hf 48).1 rfl
      refine Exec.kcall #[pv a, pv b] hρ rfl rfl (by simp [hρ.const, h46, h48]) Try.func29 (by rfl) rfl ?_
      refine (same_any a b w).mono ?_
      rintro e w' ⟨rfl, hx⟩
      exact ⟨_, rfl, (by rw [HZ.out]; exact rfl), hx⟩
    · -- 24: slot 50 := Op.load 54 t2
      refine StepOK.guarded (kn_stable _) 18 true 44 rfl rfl (fun ρ w _ _ hf => (hf 44).1 rfl) fun ρ w hρ hw hf => ?_
      have h2 : ρ (.tmp 2) = (.pointer (some ⟨g1, 0, none⟩)) := (hf 2).2 rfl rfl
      have hg := (hw.block g1 (Array.getElem?_eq_some_iff.1 GA.out).1 (fun f => f)).trans GA.out
      exact Exec.kloadrow rfl rfl h2 hg Try.underlying54 rfl (infoR _) rfl
    · -- 25: slot 51 := Op.load 54 t3
      refine StepOK.guarded (kn_stable _) 18 true 44 rfl rfl (fun ρ w _ _ hf => (hf 44).1 rfl) fun ρ w hρ hw hf => ?_
      have h3 : ρ (.tmp 3) = (.pointer (some ⟨g1 + 1, 0, none⟩)) := (hf 3).2 rfl rfl
      have hg := (hw.block (g1 + 1) (Array.getElem?_eq_some_iff.1 GB.out).1 (fun f => f)).trans GB.out
      exact Exec.kloadrow rfl rfl h3 hg Try.underlying54 rfl (infoR _) rfl
    · -- 26: slot 52 := Op.binOp BinOp.eql 54 t50 t51 54
      refine StepOK.guarded (kn_stable _) 18 true 44 rfl rfl (fun ρ w _ _ hf => (hf 44).1 rfl) fun ρ w hρ hw hf => ?_
      have h50 : ρ (.tmp 50) = (rv a) := (hf 50).1 rfl
      have h51 : ρ (.tmp 51) = (rv b) := (hf 51).1 rfl
      exact Exec.krveq rfl rfl h50 h51 (by rw [HZ.out]; exact rfl)
    · -- 27: slot 53 := Op.binOp BinOp.eql 4 t49 t52 4
      refine StepOK.guarded (kn_stable _) 18 true 44 rfl rfl (fun ρ w _ _ hf => (hf 44).1 rfl) fun ρ w hρ hw hf => ?_
      have h49 : ρ (.tmp 49) = (.bool z) := (hf 49).1 rfl
      have h52 : ρ (.tmp 52) = (.bool z) := (hf 52).1 rfl
      exact Exec.same (v := .bool true) rfl (by cases z <;> simp [go_sem, hρ.const, h49, h52]) rfl
    · -- 28: slot 54 := Op.pick t44 t53 (const (Value.bool false))
      refine StepOK.plain (kn_stable _) rfl fun ρ w hρ hw hf => ?_
      have h44 : ρ (.tmp 44) = (.bool true) := (hf 44).1 rfl
      have h53 : ρ (.tmp 53) = (.bool true) := (hf 53).1 rfl
      exact Exec.kpickT rfl rfl h44 h53
    · -- 29: slot 55 := Op.move t54
      refine StepOK.plain (kn_stable _) rfl fun ρ w hρ hw hf => ?_
      have h54 : ρ (.tmp 54) = (.bool true) := (hf 54).1 rfl
      exact Exec.kmove rfl rfl h54
    · -- 30: slot 56 := Op.call { value (Operand.func 30), args := #[], argTypes := #[] }
      refine StepOK.guarded (kn_stable _) 29 true 55 rfl rfl (fun ρ w _ _ hf => (hf 55).1 rfl) fun ρ w hρ hw hf => ?_
      refine Exec.kcall #[] hρ rfl rfl (by simp) Try.func30 (by rfl) rfl ?_
      refine (awake6_any w).mono ?_
      rintro e w' ⟨rfl, hx⟩
      exact ⟨_, rfl, rfl, hx⟩
    · -- 31: slot 57 := Op.pick t55 t56 (const (Value.bool false))
      refine StepOK.plain (kn_stable _) rfl fun ρ w hρ hw hf => ?_
      have h55 : ρ (.tmp 55) = (.bool true) := (hf 55).1 rfl
      have h56 : ρ (.tmp 56) = (.bool true) := (hf 56).1 rfl
      exact Exec.kpickT rfl rfl h55 h56
    · -- 32: slot 4 := Op.assign t57
      refine StepOK.plain (kn_stable _) rfl fun ρ w hρ hw hf => ?_
      have h57 : ρ (.tmp 57) = (.bool true) := (hf 57).1 rfl
      exact Exec.kassign rfl rfl h57

  case fin =>
    intro ν w8 hfin hext
    have h0 : ν 4 = .bool true := hfin 32 4 rfl
    simp only [Exit.then, ended, List.foldl_cons, List.foldl_nil, List.setIfInBounds_toArray, List.set_cons_succ, List.set_cons_zero, h0]
    have HX8 := Lib.hid (HX1.out.trans hext); clear hext hfin h0
    go_wp2
    go_ret
    exact ⟨rfl, HX8.out⟩

end Go.Proofs.Ytoggnmfjkbnopaa
