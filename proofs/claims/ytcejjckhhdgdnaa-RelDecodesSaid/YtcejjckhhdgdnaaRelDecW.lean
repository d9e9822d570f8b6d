/-
  RelDecodes: the walk. MADE BY mkRelDecW.py
-/
import Derived.Test.YtcejjckhhdgdnaaRelV
import Derived.Test.YtcejjckhhdgdnaaGRelB
namespace Go.Proofs.Ytcejjckhhdgdnaa
open Go.RowKit Go.Lac

theorem ColS.shp {w : World} {v : Value} {l : List Col} (h : ColS w v l) : ∃ ao cap, v = .slice ao l.length cap := by
  obtain ⟨ao, cap, e, _⟩ := h; exact ⟨ao, cap, e⟩
def Kn.relK (r : Rl) : Kn := ⟨fun v w => ∃ c, v = .agg (relv r c) ∧ ColS w c r.cols, fun _ _ _ k ⟨c, h1, h2⟩ => ⟨c, h1, ColS.ext h2 k⟩⟩
def rdT (q : Rl) (cx cy : Value) (E : Int) : Tmp → Kn
  | 2 => .is (.bool true)
  | 20 => .is (.agg (relv q cx))
  | 21 => Kn.relK q
  | 22 => .is (.agg (relv q cy))
  | 23 => .is (.bool true)
  | 24 => .is (.bool true)
  | 25 => .is (.int .i64 E)
  | 26 => .is (.int .i64 E)
  | 27 => .is (.bool true)
  | 28 => .is (.bool true)
  | 29 => .is (.bool true)
  | 30 => .is (.bool true)
  | 31 => .is (.bool true)
  | _ => .any

theorem colsR_len : ∀ (n : Nat) (s : RS), (colsR n s).1.length = n
  | 0, _ => rfl
  | n + 1, s => by rw [colsR]; simp only [List.length_cons]; rw [colsR_len n]
theorem rlDec_len (b : List UInt8) : (rlDec b).1.cols.length ≤ 16 := by
  have h : (rlR (b, 0)).1.cols.length ≤ 16 := by
    show (colsR _ _).1.length ≤ 16
    rw [colsR_len]
    exact uintR_le 16 _
  unfold rlDec
  split
  · exact Nat.zero_le _
  · split
    · exact Nat.zero_le _
    · exact h
set_option maxRecDepth 20000 in
set_option maxHeartbeats 4000000 in
theorem relDecodes_walk (vb : Value) (b : List UInt8) (w : World) (hb : Rd w vb b) (hst : Strict vb) :
    Calls Try.prog 4 #[vb] w fun e w' => e = .returned (.bool true) ∧ Ext w w' := by
  obtain ⟨ab, cb, rfl⟩ := hb.shape
  have hbm : b.length ≤ maxLen := by obtain ⟨_, _, _, g1, g2, _⟩ := hb; omega
  unfold maxLen at hbm
  by_cases hlb : 900 < b.length
  · clear hb hst
    generalize b.length = nb at *
    go_enter Try.func4, Try.ntmps4
    go_wp2
    go_ret
    exact ⟨rfl, Ch.refl _ _⟩
  have hlb' : b.length ≤ 900 := by omega
  have HB := Lib.hid hb; have HST := Lib.hid hst
  have HD := Lib.hid (fun w (h : Rd w (.slice ab b.length cb) b) => relDec_any (.slice ab b.length cb) b w h (by omega))
  have HR := Lib.hid (fun w (h : Rd w (.slice ab b.length cb) b) => rDec_any (.slice ab b.length cb) b w h HST.out)
  have hql := rlDec_len b
  rcases hDD : rlDec b with ⟨q, E⟩
  rw [hDD] at HD HR hql
  simp only at HD HR hql
  have HQL : Hid (q.cols.length ≤ 1000000000000) := Lib.hid (by omega)
  clear hbm hlb hb hst hDD hql
  go_enter Try.func4, Try.ntmps4
  go_wp2_with fail
  refine (HD.out w HB.out).mono ?_
  rintro e w1 ⟨cx, rfl, hx1, hcx⟩
  obtain ⟨ax, lx, rfl⟩ := hcx.shp
  have hg1 := heap_alloc_new w1 (.cells (relv q (.slice ax q.cols.length lx)) 32)
  obtain ⟨W1, hW1⟩ : ∃ W1, W1 = w1.alloc (.cells (relv q (.slice ax q.cols.length lx)) 32) := ⟨_, rfl⟩
  have hxx : Ext w1 W1 := by rw [hW1]; exact (Ch.refl _ _).alloc _
  rw [← hW1] at hg1
  have HW1 : Hid (W1 = w1.alloc (.cells #[.int .u32 (q.oid : Nat), .int .u32 (q.ver : Nat), .string ⟨q.name.toArray⟩, .int .u8 (q.ident : Nat), .slice ax q.cols.length lx] 32)) := Lib.hid hW1
  have HX1 := Lib.hid (hx1.trans hxx); have HC1 := Lib.hid (ColS.ext hcx hxx); have HG1 := Lib.hid hg1
  clear hx1 hcx hg1 hW1 hxx HD
  unfold relv strV
  go_wp2_with fail
  rw [← HW1.out]
  refine (HR.out W1 (HB.out.ext HX1.out)).mono ?_
  rintro e w2 ⟨cy, rfl, hx2, hcy⟩
  obtain ⟨ay, ly, rfl⟩ := hcy.shp
  have hg2 := heap_alloc_new w2 (.cells (relv q (.slice ay q.cols.length ly)) 27)
  obtain ⟨W2, hW2⟩ : ∃ W2, W2 = w2.alloc (.cells (relv q (.slice ay q.cols.length ly)) 27) := ⟨_, rfl⟩
  have hxx : Ext w2 W2 := by rw [hW2]; exact (Ch.refl _ _).alloc _
  rw [← hW2] at hg2
  have HW2 : Hid (W2 = w2.alloc (.cells #[.int .u32 (q.oid : Nat), .int .u32 (q.ver : Nat), .string ⟨q.name.toArray⟩, .int .u8 (q.ident : Nat), .slice ay q.cols.length ly] 27)) := Lib.hid hW2
  have HX2 := Lib.hid (HX1.out.trans (hx2.trans hxx)); have HCY := Lib.hid (ColS.ext hcy hxx); have G5 := Lib.hid hg2
  have HCX := Lib.hid (ColS.ext HC1.out (hx2.trans hxx)); have G3 := Lib.hid (heap_ext (hx2.trans hxx) HG1.out)
  clear hx2 hcy hg2 hW2 hxx HR HG1 HC1
  unfold relv strV
  go_wp2
  rw [← HW2.out]
  generalize w1.heap.size = g3 at *
  generalize w2.heap.size = g5 at *
  refine wp_region_ext (rdT q (.slice ax q.cols.length lx) (.slice ay q.cols.length ly) E) mixedV (by rfl) (by rfl) ?all ?fin
  case all =>
    refine ⟨?_, ?_, ?_, ?_, ?_, ?_, ?_, ?_, ?_, ?_, ?_, ?_, ?_, trivial⟩
    · -- 0: slot 20 := Op.load 32 t3
      refine StepOK.plain (kn_stable _) rfl fun ρ w hρ hw hf => ?_
      have h3 : ρ (.tmp 3) = (.pointer (some ⟨g3, 0, none⟩)) := (hf 3).2 rfl rfl
      exact Exec.kloadrow rfl rfl h3 (heap_ext hw G3.out) Try.underlying32 rfl infoOw rfl
    · -- 1: slot 21 := Op.call { value (Operand.func 25), args := #[t20], argTypes := #[32] }
      refine StepOK.plain (kn_stable _) rfl fun ρ w hρ hw hf => ?_
      have h20 : ρ (.tmp 20) = (.agg (relv q (.slice ax q.cols.length lx))) := (hf 20).1 rfl
      refine Exec.kcall #[.agg (relv q (.slice ax q.cols.length lx))] hρ rfl rfl (by simp [h20]) Try.func25 (by rfl) (by rfl) ((relBack_any q (.slice ax q.cols.length lx) w (ColS.ext HCX.out hw) HQL.out).mono ?_)
      rintro e w' ⟨cy, rfl, h1, h2⟩
      exact ⟨_, rfl, ⟨cy, rfl, Sl.ofOwns h2⟩, h1⟩
    · -- 2: slot 22 := Op.load 27 t5
      refine StepOK.plain (kn_stable _) rfl fun ρ w hρ hw hf => ?_
      have h5 : ρ (.tmp 5) = (.pointer (some ⟨g5, 0, none⟩)) := (hf 5).2 rfl rfl
      exact Exec.kloadrow rfl rfl h5 (heap_ext hw G5.out) Try.underlying27 rfl infoBk rfl
    · -- 3: slot 23 := Op.call { value (Operand.func 19), args := #[t21, t22], argTypes := #[
      refine StepOK.plain (kn_stable _) rfl fun ρ w hρ hw hf => ?_
      have h21 : (Kn.relK q).holds (ρ (.tmp 21)) w := (hf 21).1 rfl
      have h22 : ρ (.tmp 22) = (.agg (relv q (.slice ay q.cols.length ly))) := (hf 22).1 rfl
      obtain ⟨cz, hy, hcy⟩ := h21
      refine Exec.kcall #[.agg (relv q cz), .agg (relv q (.slice ay q.cols.length ly))] hρ rfl rfl (by simp [hy, h22]) Try.func19 (by rfl) (by rfl) ((refSame_any q q cz (.slice ay q.cols.length ly) w hcy (ColS.ext HCY.out hw)).mono ?_)
      rintro e w' ⟨rfl, hx⟩
      exact ⟨_, rfl, by rw [decide_eq_true rfl]; rfl, hx⟩
    · -- 4: slot 24 := Op.move t23
      refine StepOK.plain (kn_stable _) rfl fun ρ w hρ hw hf => ?_
      have h23 : ρ (.tmp 23) = (.bool true) := (hf 23).1 rfl
      exact Exec.kmove rfl rfl h23
    · -- 5: slot 25 := Op.move t4
      refine StepOK.guarded (kn_stable _) 4 true 24 rfl rfl (fun ρ w _ _ hf => (hf 24).1 rfl) fun ρ w hρ hw hf => ?_
      have h4 : ρ (.tmp 4) = (.int .i64 E) := (hf 4).2 rfl rfl
      exact Exec.kmove rfl rfl h4
    · -- 6: slot 26 := Op.move t6
      refine StepOK.guarded (kn_stable _) 4 true 24 rfl rfl (fun ρ w _ _ hf => (hf 24).1 rfl) fun ρ w hρ hw hf => ?_
      have h6 : ρ (.tmp 6) = (.int .i64 E) := (hf 6).2 rfl rfl
      exact Exec.kmove rfl rfl h6
    · -- 7: slot 27 := Op.binOp BinOp.eql 3 t25 t26 3
      refine StepOK.guarded (kn_stable _) 4 true 24 rfl rfl (fun ρ w _ _ hf => (hf 24).1 rfl) fun ρ w hρ hw hf => ?_
      have h25 : ρ (.tmp 25) = (.int .i64 E) := (hf 25).1 rfl
      have h26 : ρ (.tmp 26) = (.int .i64 E) := (hf 26).1 rfl
      exact Exec.same (v := .bool true) rfl (by simp [go_sem, hρ.const, h25, h26]) rfl
    · -- 8: slot 28 := Op.pick t24 t27 (const (Value.bool false))
      refine StepOK.plain (kn_stable _) rfl fun ρ w hρ hw hf => ?_
      have h24 : ρ (.tmp 24) = (.bool true) := (hf 24).1 rfl
      have h27 : ρ (.tmp 27) = (.bool true) := (hf 27).1 rfl
      exact Exec.kpickT rfl rfl h24 h27
    · -- 9: slot 29 := Op.move t28
      refine StepOK.plain (kn_stable _) rfl fun ρ w hρ hw hf => ?_
      have h28 : ρ (.tmp 28) = (.bool true) := (hf 28).1 rfl
      exact Exec.kmove rfl rfl h28
    · -- 10: slot 30 := Op.call { value (Operand.func 22), args := #[], argTypes := #[] }
      refine StepOK.guarded (kn_stable _) 9 true 29 rfl rfl (fun ρ w _ _ hf => (hf 29).1 rfl) fun ρ w hρ hw hf => ?_
      refine Exec.kcall #[] hρ rfl rfl (by simp) Try.func22 (by rfl) rfl ?_
      refine (awake8_any w).mono ?_
      rintro e w' ⟨rfl, hx⟩
      exact ⟨_, rfl, rfl, hx⟩
    · -- 11: slot 31 := Op.pick t29 t30 (const (Value.bool false))
      refine StepOK.plain (kn_stable _) rfl fun ρ w hρ hw hf => ?_
      have h29 : ρ (.tmp 29) = (.bool true) := (hf 29).1 rfl
      have h30 : ρ (.tmp 30) = (.bool true) := (hf 30).1 rfl
      exact Exec.kpickT rfl rfl h29 h30
    · -- 12: slot 2 := Op.assign t31
      refine StepOK.plain (kn_stable _) rfl fun ρ w hρ hw hf => ?_
      have h31 : ρ (.tmp 31) = (.bool true) := (hf 31).1 rfl
      exact Exec.kassign rfl rfl h31
  case fin =>
    intro ν w8 hfin hext
    have h0 : ν 2 = .bool true := hfin 12 2 rfl
    simp only [Exit.then, ended, List.foldl_cons, List.foldl_nil, List.setIfInBounds_toArray, List.set_cons_succ, List.set_cons_zero, h0]
    have HX8 := Lib.hid (HX2.out.trans hext)
    clear hext hfin h0
    go_wp2
    go_ret
    exact ⟨rfl, HX8.out⟩
end Go.Proofs.Ytcejjckhhdgdnaa
