/-
  ValueTakes: the walk.
-/
import Derived.Test.YtoggnmfjkbnopaaValG
import Derived.Test.YtoggnmfjkbnopaaValH
import Derived.Test.YtoggnmfjkbnopaaAwake6
import Derived.Test.YtoggnmfjkbnopaaTakC
import Derived.Test.YtoggnmfjkbnopaaTakE
import Derived.Test.YtoggnmfjkbnopaaTwo
namespace Go.Proofs.Ytoggnmfjkbnopaa
open Go.RowKit Go.Lac

def takesVT (y : Val) (sy : RS) (r q : Nat) : Tmp → Kn
  | 6 => .is (.bool true)
  | 31 => .is (pv y)
  | 32 => .is (rv y)
  | 33 => .is (rv y)
  | 34 => .is (.bool true)
  | 35 => .is (.bool true)
  | 36 => .is (.pointer (some ⟨r, 0, none⟩))
  | 37 => .is (.int .i64 sy.2)
  | 38 => .is (.pointer (some ⟨q, 0, none⟩))
  | 39 => .is (.pointer (some ⟨q, 0, none⟩))
  | 40 => .is (.pointer (some ⟨q, 2, none⟩))
  | 41 => .is (.int .i64 sy.2)
  | 42 => .is (.bool true)
  | 43 => .is (.bool true)
  | 44 => .is (.bool true)
  | 45 => .is (.pointer (some ⟨r, 0, none⟩))
  | 46 => .is (.int .i64 (sy.1.length : Nat))
  | 47 => .is (.pointer (some ⟨q, 0, none⟩))
  | 48 => .is (.int .i64 (sy.1.length : Nat))
  | 49 => .is (.bool true)
  | 50 => .is (.bool true)
  | 51 => .is (.bool true)
  | 52 => .is (.bool true)
  | 53 => .is (.bool true)
  | _ => .any

theorem field74_2 (w : World) (b : Nat) : (Instr.fieldAt 74 (.pointer (some ⟨b, 0, none⟩)) 2).run Try.prog w = .ok (.pointer (some ⟨b, 2, none⟩)) w := by kernel_rfl

set_option maxRecDepth 20000 in
set_option maxHeartbeats 4000000 in
theorem valueTakes_walk (vb : Value) (b : List UInt8) (k ver : Nat) (w : World) (hb : Rd w vb b) :
    Calls Try.prog 9 #[vb, .int .u8 (k : Nat), .int .u8 (ver : Nat)] w fun e w' => e = .returned (.bool true) ∧ Ext w w' := by
  obtain ⟨iu, hiu, hzu, hsu, hbu⟩ := info_parts infoU8
  obtain ⟨ao, cap, rfl⟩ := hb.shape
  have hbl : b.length ≤ maxLen := by obtain ⟨_, _, _, g1, g2, _⟩ := hb; omega
  unfold maxLen at hbl
  have HB := Lib.hid hb
  clear hb
  by_cases h3 : 3000 < b.length
  · go_enter Try.func9, Try.ntmps9
    go_wp2
    go_ret
    exact ⟨rfl, Ch.refl _ _⟩
  have HRD := Lib.hid (read_any _ b w HB.out (by omega))
  have h3' : b.length ≤ 3000 := by omega
  have hempty := fun w => emptyU8 w
  clear h3 hbl
  go_enter Try.func9, Try.ntmps9
  go_wp2_with fail
  refine HRD.out.mono ?_
  rintro e w1 ⟨r, rfl, x1, r1, hr1⟩
  have HB1 := Lib.hid (Rd.ext HB.out x1); have X1 := Lib.hid x1; have R1 := Lib.hid r1; have HR1 := Lib.hid hr1; clear x1 r1 hr1
  unfold RPtr
  go_wp2_with (at_builtin; refine wpList_append_sl (P := Try.prog) _ rfl _ _ 22 rfl (w1.heap.size) 5 iu (.int .u8 0) 1 1 Try.underlying22 hiu hzu hsu hbu rfl (by decide) _ 0 [] rfl ?c0 _ b.length (cellsB b) rfl ?c1 ?c2 ?c3 ?c4 ?c5 ?c6 ?_)
  case c0 => exact owns_empty w1 _
  case c1 => exact Sl.ext HB1.out ((Ch.refl _ _).alloc _)
  case c2 => simp [cellsB]
  case c3 => exact cellsB_one b
  case c4 => omega
  case c5 => unfold maxLen; omega
  case c6 => simp
  intro v2 w2 hown hgrow
  have hx2 := ((Ch.refl (fun _ => False) w1).alloc (.cells #[] 5)).grown hgrow fun k hk => .inr ((owns_empty w1 5).lt k hk).1
  have X2 := Lib.hid (X1.out.trans hx2); have R2 := Lib.hid (R1.out.ext hx2)
  have hq : IsQ (w2.alloc (.cells #[v2, .int .i64 0, .int .i64 0] 74)) w2.heap.size (b, 0) :=
    ⟨v2, b, 0, heap_alloc_new w2 _, ⟨(Rd.ofOwns hown).ext ((Ch.refl _ _).alloc _), strict_owns hown⟩, Nat.zero_le _, rfl⟩
  have hx3 : Ext w (w2.alloc (.cells #[v2, .int .i64 0, .int .i64 0] 74)) := X2.out.alloc _
  have hr3 : IsR (w2.alloc (.cells #[v2, .int .i64 0, .int .i64 0] 74)) r (b, 0) := R2.out.ext ((Ch.refl _ _).alloc _)
  have hne : r < w2.heap.size := R2.out.lt
  have hge : w.heap.size ≤ w2.heap.size := X2.out.size
  obtain ⟨ao2, cp2, rfl⟩ := owns_shape hown
  have HQ3 := Lib.hid hq; have HX3 := Lib.hid hx3; have HR3 := Lib.hid hr3; have HNE := Lib.hid hne; have HGE := Lib.hid hge
  clear hown hgrow hx2 hq hx3 hr3 hne hge X2 R2 R1 HB1 X1 HRD hiu hzu hsu hbu hempty
  have HTR := Lib.hid (fun w h => take_val r b ver k w h)
  have HTQ := Lib.hid (fun w h => qtake_val w2.heap.size (b, 0) ver k w h)
  generalize (vTake ver k (b, 0)).1 = y at *
  generalize (vTake ver k (b, 0)).2 = sy at *
  unfold RPtr at *
  unfold QPtr at *
  go_wp2_with (go_at_call 34; refine (HTR.out _ HR3.out).mono ?_)
  rintro e w4 ⟨rfl, hx, hi⟩
  have HX4 : Hid (Ext w w4) := Lib.hid (HX3.out.transOnly hx HR1.out)
  have HI4 := Lib.hid hi
  have HQ4 := Lib.hid (HQ3.out.otherR HR3.out (by have := HNE.out; omega) hx)
  clear hx hi
  go_wp2_with (go_at_call 35; refine (HTQ.out _ HQ4.out).mono ?_)
  rintro e w5 ⟨rfl, hx, hj⟩
  have HX5 : Hid (Ext w w5) := Lib.hid (HX4.out.transOnly hx HGE.out)
  have HI5 : Hid (IsW w5 r sy) := Lib.hid (HI4.out.same (hx.block r HI4.out.lt (by have := HNE.out; omega)))
  have HJ5 := Lib.hid hj
  clear hx hj
  have hpy : pv y = .agg (pvals y) := rfl
  have hry : rv y = .agg (rvals y) := rfl
  rw [hpy, hry]
  clear hpy hry
  have g9 := heap_alloc2_old w5 (.cells #[.int .u8 0, .int .i64 0, .complex .f64 0 0, .string ⟨#[]⟩] 61) (.cells #[.int .u8 0, .int .i64 0, .int .u64 0, .int .u64 0, .string ⟨#[]⟩] 54)
  have g10 := heap_alloc2_new w5 (.cells #[.int .u8 0, .int .i64 0, .complex .f64 0 0, .string ⟨#[]⟩] 61) (.cells #[.int .u8 0, .int .i64 0, .int .u64 0, .int .u64 0, .string ⟨#[]⟩] 54)
  obtain ⟨W6, hW6⟩ : ∃ W, W = ((w5.alloc (.cells #[.int .u8 0, .int .i64 0, .complex .f64 0 0, .string ⟨#[]⟩] 61)).alloc (.cells #[.int .u8 0, .int .i64 0, .int .u64 0, .int .u64 0, .string ⟨#[]⟩] 54)).setRow w5.heap.size (pvals y) := ⟨_, rfl⟩
  have G9A := Lib.hid g9
  have g9' : W6.heap[w5.heap.size]? = some (.cells (pvals y) 61 (0, 0)) := by rw [hW6]; exact setRow_heap _ _ _ _ _ _ g9
  have g10' : W6.heap[w5.heap.size + 1]? = some (.cells #[.int .u8 0, .int .i64 0, .int .u64 0, .int .u64 0, .string ⟨#[]⟩] 54 (0, 0)) := by rw [hW6, setRow_other _ _ _ _ (by omega)]; exact g10
  have x6 : Ext w5 W6 := by rw [hW6]; exact (((Ch.refl _ _).alloc _).alloc _).setRow (.inr (Nat.le_refl _)) _
  obtain ⟨W7, hW7⟩ : ∃ W, W = W6.setRow (w5.heap.size + 1) (rvals y) := ⟨_, rfl⟩
  have G10A := Lib.hid g10'
  have G9 : Hid (W7.heap[w5.heap.size]? = some (.cells (pvals y) 61 (0, 0))) := Lib.hid (by rw [hW7, setRow_other _ _ _ _ (by omega)]; exact g9')
  have G10 : Hid (W7.heap[w5.heap.size + 1]? = some (.cells (rvals y) 54 (0, 0))) := Lib.hid (by rw [hW7]; exact setRow_heap _ _ _ _ _ _ g10')
  have x7 : Ext w5 W7 := by rw [hW7]; exact x6.setRow (.inr (by omega)) _
  have HX7 := Lib.hid (HX5.out.trans x7)
  have HI := Lib.hid (HI5.out.ext x7); have HJ := Lib.hid (HJ5.out.ext x7)
  have HW6 := Lib.hid hW6; have HW7 := Lib.hid hW7
  have HPO := Lib.hid (show (pvals y).all (·.oneCell') = true from prow_one _ _ _ _ _)
  have HRO := Lib.hid (show (rvals y).all (·.oneCell') = true from rrow_one _ _ _ _ _)
  have HC2 : Hid (W7.cell? ⟨w2.heap.size, 2, none⟩ = some (.int .i64 sy.2)) := Lib.hid (by
    obtain ⟨a1, a2, a3, a4, a5, _⟩ := HJ.out
    rw [cell_of_row _ _ _ _ _ _ a5]; rfl)
  clear g9 g10 g9' g10' x6 x7 hW6 hW7
  go_wp2_with (first
    | (refine wpList_store_rowTo rfl _ _ _ rfl rfl w5.heap.size (pvals y) rfl rfl _ _ G9A.out (infoP _) rfl HPO.out ?_; rw [← HW6.out])
    | (refine wpList_store_rowTo rfl _ _ _ rfl rfl (w5.heap.size + 1) (rvals y) rfl rfl _ _ G10A.out (infoR _) rfl HRO.out ?_; rw [← HW7.out]))
  generalize hg10 : w5.heap.size + 1 = g10 at *
  generalize w5.heap.size = g9 at *
  generalize w2.heap.size = q at *
  clear hg10
  refine wp_region_ext (takesVT y sy r q) mixedV (by rfl) (by rfl) ?all ?fin
  case all =>
    refine ⟨?_, ?_, ?_, ?_, ?_, ?_, ?_, ?_, ?_, ?_, ?_, ?_, ?_, ?_, ?_, ?_, ?_, ?_, ?_, ?_, ?_, ?_, ?_, ?_, trivial⟩
    · -- 0: slot 31 := Op.load 61 t9
      refine StepOK.plain (kn_stable _) rfl fun ρ w hρ hw hf => ?_
      have h9 : ρ (.tmp 9) = (.pointer (some ⟨g9, 0, none⟩)) := (hf 9).2 rfl rfl
      have hg := (hw.block g9 (Array.getElem?_eq_some_iff.1 G9.out).1 (fun f => f)).trans G9.out
      exact Exec.kloadrow rfl rfl h9 hg Try.underlying61 rfl (infoP _) rfl
    · -- 1: slot 32 := Op.call { value (Operand.func 36), args := #[t31], argTypes := #[61] }
      refine StepOK.plain (kn_stable _) rfl fun ρ w hρ hw hf => ?_
      have h31 : ρ (.tmp 31) = (pv y) := (hf 31).1 rfl
      refine Exec.kcall #[pv y] hρ rfl rfl (by simp [hρ.const, h31]) Try.func36 (by rfl) rfl ?_
      refine (lawBack_any y w).mono ?_
      rintro e w' ⟨rfl, hx⟩
      exact ⟨_, rfl, rfl, hx⟩
    · -- 2: slot 33 := Op.load 54 t10
      refine StepOK.plain (kn_stable _) rfl fun ρ w hρ hw hf => ?_
      have h10 : ρ (.tmp 10) = (.pointer (some ⟨g10, 0, none⟩)) := (hf 10).2 rfl rfl
      have hg := (hw.block g10 (Array.getElem?_eq_some_iff.1 G10.out).1 (fun f => f)).trans G10.out
      exact Exec.kloadrow rfl rfl h10 hg Try.underlying54 rfl (infoR _) rfl
    · -- 3: slot 34 := Op.binOp BinOp.eql 54 t32 t33 54
      refine StepOK.plain (kn_stable _) rfl fun ρ w hρ hw hf => ?_
      have h32 : ρ (.tmp 32) = (rv y) := (hf 32).1 rfl
      have h33 : ρ (.tmp 33) = (rv y) := (hf 33).1 rfl
      exact Exec.krveq rfl rfl h32 h33 (by rw [decide_eq_true rfl]; exact rfl)
    · -- 4: slot 35 := Op.move t34
      refine StepOK.plain (kn_stable _) rfl fun ρ w hρ hw hf => ?_
      have h34 : ρ (.tmp 34) = (.bool true) := (hf 34).1 rfl
      exact Exec.kmove rfl rfl h34
    · -- 5: slot 36 := Op.move t7
      refine StepOK.guarded (kn_stable _) 4 true 35 rfl rfl (fun ρ w _ _ hf => (hf 35).1 rfl) fun ρ w hρ hw hf => ?_
      have h7 : ρ (.tmp 7) = (.pointer (some ⟨r, 0, none⟩)) := (hf 7).2 rfl rfl
      exact Exec.kmove rfl rfl h7
    · -- 6: slot 37 := Op.call { value (Operand.func 37), args := #[t36], argTypes := #[70] }
      refine StepOK.guarded (kn_stable _) 4 true 35 rfl rfl (fun ρ w _ _ hf => (hf 35).1 rfl) fun ρ w hρ hw hf => ?_
      have h36 : ρ (.tmp 36) = (.pointer (some ⟨r, 0, none⟩)) := (hf 36).1 rfl
      refine Exec.kcall #[.pointer (some ⟨r, 0, none⟩)] hρ rfl rfl (by simp [hρ.const, h36]) Try.func37 (by rfl) rfl ?_
      refine (err_w r sy w (HI.out.ext hw)).mono ?_
      rintro e w' ⟨rfl, rfl⟩
      exact ⟨_, rfl, rfl, Ch.refl _ _⟩
    · -- 7: slot 38 := Op.move t8
      refine StepOK.guarded (kn_stable _) 4 true 35 rfl rfl (fun ρ w _ _ hf => (hf 35).1 rfl) fun ρ w hρ hw hf => ?_
      have h8 : ρ (.tmp 8) = (.pointer (some ⟨q, 0, none⟩)) := (hf 8).2 rfl rfl
      exact Exec.kmove rfl rfl h8
    · -- 8: slot 39 := Op.nilCheck t38
      refine StepOK.guarded (kn_stable _) 4 true 35 rfl rfl (fun ρ w _ _ hf => (hf 35).1 rfl) fun ρ w hρ hw hf => ?_
      have h38 : ρ (.tmp 38) = (.pointer (some ⟨q, 0, none⟩)) := (hf 38).1 rfl
      exact Exec.same (v := .pointer (some ⟨q, 0, none⟩)) rfl (by simp [go_sem, hρ.const, h38]) rfl
    · -- 9: slot 40 := Op.fieldAddr 74 t39 2
      refine StepOK.guarded (kn_stable _) 4 true 35 rfl rfl (fun ρ w _ _ hf => (hf 35).1 rfl) fun ρ w hρ hw hf => ?_
      have h39 : ρ (.tmp 39) = (.pointer (some ⟨q, 0, none⟩)) := (hf 39).1 rfl
      exact Exec.kfield rfl rfl h39 (field74_2 w q) rfl
    · -- 10: slot 41 := Op.load 3 t40
      refine StepOK.guarded (kn_stable _) 4 true 35 rfl rfl (fun ρ w _ _ hf => (hf 35).1 rfl) fun ρ w hρ hw hf => ?_
      have h40 : ρ (.tmp 40) = (.pointer (some ⟨q, 2, none⟩)) := (hf 40).1 rfl
      have hc := hw.cell (p := ⟨q, 2, none⟩) (fun f => f) _ HC2.out
      exact Exec.same (v := .int .i64 sy.2) rfl (by simp [go_sem, hρ.const, h40, hc]) rfl
    · -- 11: slot 42 := Op.binOp BinOp.eql 3 t37 t41 3
      refine StepOK.guarded (kn_stable _) 4 true 35 rfl rfl (fun ρ w _ _ hf => (hf 35).1 rfl) fun ρ w hρ hw hf => ?_
      have h37 : ρ (.tmp 37) = (.int .i64 sy.2) := (hf 37).1 rfl
      have h41 : ρ (.tmp 41) = (.int .i64 sy.2) := (hf 41).1 rfl
      exact Exec.same (v := .bool true) rfl (by simp [go_sem, hρ.const, h37, h41]) rfl
    · -- 12: slot 43 := Op.pick t35 t42 (const (Value.bool false))
      refine StepOK.plain (kn_stable _) rfl fun ρ w hρ hw hf => ?_
      have h35 : ρ (.tmp 35) = (.bool true) := (hf 35).1 rfl
      have h42 : ρ (.tmp 42) = (.bool true) := (hf 42).1 rfl
      exact Exec.kpickT rfl rfl h35 h42
    · -- 13: slot 44 := Op.move t43
      refine StepOK.plain (kn_stable _) rfl fun ρ w hρ hw hf => ?_
      have h43 : ρ (.tmp 43) = (.bool true) := (hf 43).1 rfl
      exact Exec.kmove rfl rfl h43
    · -- 14: slot 45 := Op.move t7
      refine StepOK.guarded (kn_stable _) 13 true 44 rfl rfl (fun ρ w _ _ hf => (hf 44).1 rfl) fun ρ w hρ hw hf => ?_
      have h7 : ρ (.tmp 7) = (.pointer (some ⟨r, 0, none⟩)) := (hf 7).2 rfl rfl
      exact Exec.kmove rfl rfl h7
    · -- 15: slot 46 := Op.call { value (Operand.func 38), args := #[t45], argTypes := #[70] }
      refine StepOK.guarded (kn_stable _) 13 true 44 rfl rfl (fun ρ w _ _ hf => (hf 44).1 rfl) fun ρ w hρ hw hf => ?_
      have h45 : ρ (.tmp 45) = (.pointer (some ⟨r, 0, none⟩)) := (hf 45).1 rfl
      refine Exec.kcall #[.pointer (some ⟨r, 0, none⟩)] hρ rfl rfl (by simp [hρ.const, h45]) Try.func38 (by rfl) rfl ?_
      refine (left_w r sy w (HI.out.ext hw)).mono ?_
      rintro e w' ⟨rfl, rfl⟩
      exact ⟨_, rfl, rfl, Ch.refl _ _⟩
    · -- 16: slot 47 := Op.move t8
      refine StepOK.guarded (kn_stable _) 13 true 44 rfl rfl (fun ρ w _ _ hf => (hf 44).1 rfl) fun ρ w hρ hw hf => ?_
      have h8 : ρ (.tmp 8) = (.pointer (some ⟨q, 0, none⟩)) := (hf 8).2 rfl rfl
      exact Exec.kmove rfl rfl h8
    · -- 17: slot 48 := Op.call { value (Operand.func 39), args := #[t47], argTypes := #[72] }
      refine StepOK.guarded (kn_stable _) 13 true 44 rfl rfl (fun ρ w _ _ hf => (hf 44).1 rfl) fun ρ w hρ hw hf => ?_
      have h47 : ρ (.tmp 47) = (.pointer (some ⟨q, 0, none⟩)) := (hf 47).1 rfl
      refine Exec.kcall #[.pointer (some ⟨q, 0, none⟩)] hρ rfl rfl (by simp [hρ.const, h47]) Try.func39 (by rfl) rfl ?_
      refine (qleft_w q sy w (HJ.out.ext hw)).mono ?_
      rintro e w' ⟨rfl, n, rfl⟩
      exact ⟨_, rfl, rfl, Ext.drewN _ _⟩
    · -- 18: slot 49 := Op.binOp BinOp.eql 3 t46 t48 3
      refine StepOK.guarded (kn_stable _) 13 true 44 rfl rfl (fun ρ w _ _ hf => (hf 44).1 rfl) fun ρ w hρ hw hf => ?_
      have h46 : ρ (.tmp 46) = (.int .i64 (sy.1.length : Nat)) := (hf 46).1 rfl
      have h48 : ρ (.tmp 48) = (.int .i64 (sy.1.length : Nat)) := (hf 48).1 rfl
      exact Exec.same (v := .bool true) rfl (by simp [go_sem, hρ.const, h46, h48]) rfl
    · -- 19: slot 50 := Op.pick t44 t49 (const (Value.bool false))
      refine StepOK.plain (kn_stable _) rfl fun ρ w hρ hw hf => ?_
      have h44 : ρ (.tmp 44) = (.bool true) := (hf 44).1 rfl
      have h49 : ρ (.tmp 49) = (.bool true) := (hf 49).1 rfl
      exact Exec.kpickT rfl rfl h44 h49
    · -- 20: slot 51 := Op.move t50
      refine StepOK.plain (kn_stable _) rfl fun ρ w hρ hw hf => ?_
      have h50 : ρ (.tmp 50) = (.bool true) := (hf 50).1 rfl
      exact Exec.kmove rfl rfl h50
    · -- 21: slot 52 := Op.call { value (Operand.func 30), args := #[], argTypes := #[] }
      refine StepOK.guarded (kn_stable _) 20 true 51 rfl rfl (fun ρ w _ _ hf => (hf 51).1 rfl) fun ρ w hρ hw hf => ?_
      refine Exec.kcall #[] hρ rfl rfl (by simp) Try.func30 (by rfl) rfl ?_
      refine (awake6_any w).mono ?_
      rintro e w' ⟨rfl, hx⟩
      exact ⟨_, rfl, rfl, hx⟩
    · -- 22: slot 53 := Op.pick t51 t52 (const (Value.bool false))
      refine StepOK.plain (kn_stable _) rfl fun ρ w hρ hw hf => ?_
      have h51 : ρ (.tmp 51) = (.bool true) := (hf 51).1 rfl
      have h52 : ρ (.tmp 52) = (.bool true) := (hf 52).1 rfl
      exact Exec.kpickT rfl rfl h51 h52
    · -- 23: slot 6 := Op.assign t53
      refine StepOK.plain (kn_stable _) rfl fun ρ w hρ hw hf => ?_
      have h53 : ρ (.tmp 53) = (.bool true) := (hf 53).1 rfl
      exact Exec.kassign rfl rfl h53

  case fin =>
    intro ν w9 hfin hext
    have h0 : ν 6 = .bool true := hfin 23 6 rfl
    simp only [Exit.then, ended, List.foldl_cons, List.foldl_nil, List.setIfInBounds_toArray, List.set_cons_succ, List.set_cons_zero, h0]
    have HX9 := Lib.hid (HX7.out.trans hext)
    clear hext hfin h0
    go_wp2
    go_ret
    exact ⟨rfl, HX9.out⟩

end Go.Proofs.Ytoggnmfjkbnopaa
