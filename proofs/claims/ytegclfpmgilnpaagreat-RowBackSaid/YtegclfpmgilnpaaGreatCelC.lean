import Derived.Test.YtegclfpmgilnpaaGreatCelB
import Derived.Test.YtegclfpmgilnpaaGreatValG
namespace Go.Proofs.YtegclfpmgilnpaaGreat
open Go.RowKit Go.Lac
theorem buildPC (w : World) (k ty : Nat) (n : Int) (re im : Nat) (A : ByteArray) : (Instr.build 90 #[(0, .int .u8 (k : Nat)), (1, .agg #[.int .u8 (ty : Nat), .int .i64 n, .complex .f64 re im, .string A])]).run Tryz.prog w = .ok (.agg #[.int .u8 (k : Nat), .int .u8 (ty : Nat), .int .i64 n, .complex .f64 re im, .string A]) w := by kernel_rfl
theorem buildRC (w : World) (k ty : Nat) (n : Int) (re im : Nat) (A : ByteArray) : (Instr.build 76 #[(0, .int .u8 (k : Nat)), (1, .agg #[.int .u8 (ty : Nat), .int .i64 n, .int .u64 (re : Nat), .int .u64 (im : Nat), .string A])]).run Tryz.prog w = .ok (.agg #[.int .u8 (k : Nat), .int .u8 (ty : Nat), .int .i64 n, .int .u64 (re : Nat), .int .u64 (im : Nat), .string A]) w := by kernel_rfl
theorem buildPC' (w : World) (c : Cel) : (Instr.build 90 #[(0, .int .u8 (c.k : Nat)), (1, pv c.v)]).run Tryz.prog w = .ok (pc c) w := buildPC w c.k c.v.ty c.v.i c.v.re c.v.im ⟨c.v.t.toArray⟩
theorem buildRC' (w : World) (c : Cel) : (Instr.build 76 #[(0, .int .u8 (c.k : Nat)), (1, rv c.v)]).run Tryz.prog w = .ok (rc c) w := buildRC w c.k c.v.ty c.v.i c.v.re c.v.im ⟨c.v.t.toArray⟩
theorem fieldPC_0 (w : World) (b : Nat) : (Instr.fieldAt 90 (.pointer (some ⟨b, 0, none⟩)) 0).run Tryz.prog w = .ok (.pointer (some ⟨b, 0, none⟩)) w := by kernel_rfl
theorem fieldPC_1 (w : World) (b : Nat) : (Instr.fieldAt 90 (.pointer (some ⟨b, 0, none⟩)) 1).run Tryz.prog w = .ok (.pointer (some ⟨b, 1, none⟩)) w := by kernel_rfl
theorem fieldRC_0 (w : World) (b : Nat) : (Instr.fieldAt 76 (.pointer (some ⟨b, 0, none⟩)) 0).run Tryz.prog w = .ok (.pointer (some ⟨b, 0, none⟩)) w := by kernel_rfl
theorem fieldRC_1 (w : World) (b : Nat) : (Instr.fieldAt 76 (.pointer (some ⟨b, 0, none⟩)) 1).run Tryz.prog w = .ok (.pointer (some ⟨b, 1, none⟩)) w := by kernel_rfl
theorem pcv_one (c : Cel) : (pcv c).all (·.oneCell') = true := by simp [pcv, strV, Value.oneCell']
theorem rcv_one (c : Cel) : (rcv c).all (·.oneCell') = true := by simp [rcv, strV, Value.oneCell']
section
variable {P : Program} {ρ : Operand → Value} {o : Oper} {w : World} {T : Tmp → Kn} {d : Tmp} {t : TypeId}
theorem Exec.kbuild2 {x y : Operand} {vx vy r : Value} (ho : o.op = .build t #[(0, x), (1, y)]) (hd : o.dst = some d) (hx : ρ x = vx) (hy : ρ y = vy) (hr : (Instr.build t #[(0, vx), (1, vy)]).run P w = .ok r w) (hv : (T d).holds r w) :
    Exec P ρ o w fun v w' => (∀ d, o.dst = some d → knV T d v w') ∧ Ext w w' :=
  Exec.same hd (by unfold execOp; rw [ho]; simp only [List.map_toArray, List.map_cons, List.map_nil, hx, hy, Sem.run_bind, hr, Result.andThen_ok, Sem.run_pure]) hv
theorem Exec.kloadmid {x : Operand} {g o' : Nat} {r : Value} (ho : o.op = .load t x) (hd : o.dst = some d) (hx : ρ x = .pointer (some ⟨g, o', none⟩)) (hr : (Instr.loadAt t (.pointer (some ⟨g, o', none⟩))).run P w = .ok r w) (hv : (T d).holds r w) :
    Exec P ρ o w fun v w' => (∀ d, o.dst = some d → knV T d v w') ∧ Ext w w' :=
  Exec.same hd (by unfold execOp; rw [ho]; simp only [hx, Sem.run_bind, hr, Result.andThen_ok, Sem.run_pure]) hv
end
def PcPost (c : Cel) (w : World) (e : Ending) (w' : World) : Prop := e = .returned (pc c) ∧ Ext w w'
def RcPost (c : Cel) (w : World) (e : Ending) (w' : World) : Prop := e = .returned (rc c) ∧ Ext w w'
set_option maxRecDepth 20000 in
set_option maxHeartbeats 1600000 in
theorem cof_any (v : Val) (w : World) : Calls Tryz.prog 81 #[pv v] w (PcPost ⟨2, v⟩ w) := by
  have hb := fun w => buildPC w 2 v.ty v.i v.re v.im ⟨v.t.toArray⟩
  have hpp := pcv_one ⟨2, v⟩
  unfold PcPost pc pcv pv pvals strV
  unfold pcv strV at hpp
  simp only at hpp ⊢
  generalize (⟨v.t.toArray⟩ : ByteArray) = A at *
  generalize v.ty = k at *
  generalize v.i = n at *
  generalize v.re = re at *
  generalize v.im = im at *
  have hga := heap_alloc2_old w (.cells #[.int .u8 (k : Nat), .int .i64 n, .complex .f64 re im, .string A] 88) (.cells #[.int .u8 0, .int .u8 0, .int .i64 0, .complex .f64 0 0, .string ⟨#[]⟩] 90)
  have hgb := heap_alloc2_new w (.cells #[.int .u8 (k : Nat), .int .i64 n, .complex .f64 re im, .string A] 88) (.cells #[.int .u8 0, .int .u8 0, .int .i64 0, .complex .f64 0 0, .string ⟨#[]⟩] 90)
  have hext : Ext w ((w.alloc (.cells #[.int .u8 (k : Nat), .int .i64 n, .complex .f64 re im, .string A] 88)).alloc (.cells #[.int .u8 0, .int .u8 0, .int .i64 0, .complex .f64 0 0, .string ⟨#[]⟩] 90)) := ((Ch.refl _ _).alloc _).alloc _
  have hb1 := hb ((w.alloc (.cells #[.int .u8 (k : Nat), .int .i64 n, .complex .f64 re im, .string A] 88)).alloc (.cells #[.int .u8 0, .int .u8 0, .int .i64 0, .complex .f64 0 0, .string ⟨#[]⟩] 90))
  have HG := Lib.hid hgb; have HGA := Lib.hid hga; have HX := Lib.hid hext; have HPP := Lib.hid hpp
  clear hgb hext hb hpp hga
  go_enter Tryz.func81, Tryz.ntmps81
  go_wp2_with (first
    | (refine wpList_load_row rfl _ _ rfl w.heap.size rfl _ _ _ _ HGA.out Tryz.underlying88 rfl info61 ?_)
    | (refine wpList_store_rowTo rfl _ _ _ rfl rfl (w.heap.size + 1) #[.int .u8 2, .int .u8 (k : Nat), .int .i64 n, .complex .f64 re im, .string A] rfl rfl _ _ HG.out infoPC rfl HPP.out ?_))
  refine bodyPost_ret (results_cell_row rfl _ _ (w.heap.size + 1) _ #[.int .u8 2, .int .u8 (k : Nat), .int .i64 n, .complex .f64 re im, .string A] _ _ rfl (setRow_heap _ _ _ _ _ _ HG.out) Tryz.underlying90 rfl infoPC) rfl ?_
  exact ⟨rfl, HX.out.setRow (.inr (by omega)) _⟩
set_option maxRecDepth 20000 in
set_option maxHeartbeats 2000000 in
theorem calike_any (a b : Cel) (w : World) :
    Calls Tryz.prog 47 #[pc a, pc b] w fun e w' => e = .returned (.bool (decide (a = b))) ∧ Ext w w' := by
  have HSM := Lib.hid (fun w => same_any a.v b.v w)
  obtain ⟨W, hW⟩ : ∃ W, W = (w.alloc (.cells (pcv a) 90)).alloc (.cells (pcv b) 90) := ⟨_, rfl⟩
  have HX0 : Hid (Ext w W) := Lib.hid (by rw [hW]; exact ((Ch.refl _ _).alloc _).alloc _)
  have hPa : PRow W w.heap.size a := by rw [hW]; exact heap_alloc2_old _ _ _
  have hPb : PRow W (w.heap.size + 1) b := by rw [hW]; exact heap_alloc2_new _ _ _
  obtain ⟨a0, a1, a2, a3, a4⟩ := hPa.cells
  obtain ⟨b0, b1, b2, b3, b4⟩ := hPb.cells
  have hpa : pc a = .agg (pcv a) := rfl
  have hpb : pc b = .agg (pcv b) := rfl
  rw [hpa, hpb]
  clear hpa hpb hPa hPb
  rw [hW] at a0 a1 a2 a3 a4 b0 b1 b2 b3 b4
  have HW := Lib.hid hW
  have hd : decide (a = b) = (decide (a.k = b.k) && decide (a.v = b.v)) := by
    obtain ⟨ak, av⟩ := a
    obtain ⟨bk, bv⟩ := b
    rw [Bool.eq_iff_iff]; simp
  rw [hd, ← nat_beq]
  clear hd hW
  by_cases hk : a.k = b.k
  · have e1 : (((a.k : Nat) : Int) == ((b.k : Nat) : Int)) = true := by rw [hk]; simp
    rw [e1]
    clear hk
    go_enter Tryz.func47, Tryz.ntmps47
    go_wp2_with fail
    rw [← HW.out]
    refine (HSM.out _).mono ?_
    rintro e w1 ⟨rfl, hx⟩
    have HX := Lib.hid (HX0.out.trans hx); clear hx
    go_wp2
    go_ret
    exact ⟨by simp, HX.out⟩
  · have e1 : (((a.k : Nat) : Int) == ((b.k : Nat) : Int)) = false := by simp; omega
    rw [e1]
    clear hk
    go_enter Tryz.func47, Tryz.ntmps47
    go_wp2
    go_ret
    rw [← HW.out]
    exact ⟨by simp, HX0.out⟩
theorem run_rvneq (a b : Val) (w : World) : (binOp .neq 74 (rv a) (rv b)).run Tryz.prog w = .ok (.bool (!decide (a = b))) w := by
  have h := run_rveq a b w
  unfold rv at *
  rw [run_eql_struct] at h
  rw [run_neq_struct]
  cases hX : (Op.equalIn 10000 74 (.agg (rvals a)) (.agg (rvals b))).run Tryz.prog w with
  | ok b' w' =>
    rw [hX] at h
    simp only [Result.andThen_ok] at h ⊢
    cases h
    rfl
  | _ =>
    rw [hX] at h
    simp [Result.andThen] at h
section
variable {P : Program} {w : World} {ops : Array Oper} {rest : List Oper} {o : Oper} {a : Act} {Q : Exit → Act → World → Prop}
theorem wpList_neq_run (hgd : o.guard = none) (t ty : TypeId) (x y : Operand) (ho : o.op = .binOp .neq t x y ty) {vx vy v : Value} (hx : a.eval x = vx) (hy : a.eval y = vy)
    (hg : (eqGuard .neq t x y vx vy).run P w = .ok () w) (hrun : (binOp .neq t vx vy).run P w = .ok v w) (h : wpList P ops Q rest (a.put o.dst v) w) : wpList P ops Q (o :: rest) a w := by
  refine wpList_plain hgd fun K hK => ?_
  unfold Oper.wp execOp
  simp only [ho, hx, hy, Sem.run_bind, hg, Result.andThen_ok, hrun, Sem.run_pure]
  exact hK _ _ h
theorem wpList_build0_run (hgd : o.guard = none) (t : TypeId) (ho : o.op = .build t #[]) {v : Value} (hrun : (Instr.build t #[]).run P w = .ok v w) (h : wpList P ops Q rest (a.put o.dst v) w) : wpList P ops Q (o :: rest) a w := by
  refine wpList_plain hgd fun K hK => ?_
  unfold Oper.wp execOp
  simp only [ho, List.map_toArray, List.map_nil, Sem.run_bind, hrun, Result.andThen_ok, Sem.run_pure]
  exact hK _ _ h
theorem wpList_load_run (hgd : o.guard = none) (t : TypeId) (x : Operand) (ho : o.op = .load t x) {p v : Value} (hx : a.eval x = p) (hrun : (Instr.loadAt t p).run P w = .ok v w) (h : wpList P ops Q rest (a.put o.dst v) w) : wpList P ops Q (o :: rest) a w := by
  refine wpList_plain hgd fun K hK => ?_
  unfold Oper.wp execOp
  simp only [ho, hx, Sem.run_bind, hrun, Result.andThen_ok, Sem.run_pure]
  exact hK _ _ h
end
def own7T (g1 : Nat) (c : Cel) : Tmp → Kn
  | 3 => .is (.pointer (some ⟨g1, 0, none⟩))
  | 4 => .is (.int .u8 (c.k : Nat))
  | 5 => .is (.pointer (some ⟨g1, 1, none⟩))
  | 6 => .is (rv c.v)
  | 7 => .is (pv c.v)
  | 8 => .is (pc c)
  | _ => .any
theorem own7T_pure (g1 : Nat) (c : Cel) (d : Tmp) : (own7T g1 c d).pure := by
  unfold own7T
  split <;> first | exact Kn.is_pure _ | exact Kn.any_pure
set_option maxRecDepth 20000 in
set_option maxHeartbeats 2000000 in
theorem own7_any (c : Cel) (w : World) : Calls Tryz.prog 39 #[rc c] w (PcPost c w) := by
  have hpc : rc c = .agg (rcv c) := rfl
  rw [hpc]
  clear hpc
  obtain ⟨w1, hw1⟩ : ∃ w1, w1 = (w.alloc (.cells (rcv c) 76)).alloc (.cells #[.int .u8 0, .int .u8 0, .int .i64 0, .complex .f64 0 0, .string ⟨#[]⟩] 90) := ⟨_, rfl⟩
  obtain ⟨g1, hg1⟩ : ∃ g1, g1 = w.heap.size := ⟨_, rfl⟩
  obtain ⟨g2, hg2⟩ : ∃ g2, g2 = w.heap.size + 1 := ⟨_, rfl⟩
  have hext : Ext w w1 := by rw [hw1]; exact ((Ch.refl _ _).alloc _).alloc _
  have hgb : w1.heap[g2]? = some (.cells #[.int .u8 0, .int .u8 0, .int .i64 0, .complex .f64 0 0, .string ⟨#[]⟩] 90 (0, 0)) := by rw [hw1, hg2]; exact heap_alloc2_new _ _ _
  have HP : Hid (RRow w1 g1 c) := Lib.hid (by rw [hw1, hg1]; exact heap_alloc2_old _ _ _)
  have HG2 : Hid (g2 < w1.heap.size) := Lib.hid (Array.getElem?_eq_some_iff.1 hgb).1
  have HGE : Hid (w.heap.size ≤ g2) := Lib.hid (by omega)
  have HGB := Lib.hid hgb; have HEXT := Lib.hid hext
  have HW1 := Lib.hid hw1; have HG1 := Lib.hid hg1; have HG22 := Lib.hid hg2
  clear hext hgb hw1 hg1 hg2
  go_enter Tryz.func39, Tryz.ntmps39
  go_wp2
  rw [← HW1.out, ← HG22.out, ← HG1.out]
  refine wp_region_last (own7T g1 c) 6 (fun w' => w'.heap[g2]? = some (.cells (pcv c) 90 (0, 0)) ∧ Ext w w') mixedV (by rfl) (by rfl) (by decide) ?all ?fin
  case all =>
    refine ⟨?_, ?_, ?_, ?_, ?_, ?_, ?_, trivial⟩
    · refine StepOK.early (own7T_pure _ _) (by rfl) (by decide) rfl fun ρ w hρ hw hf => ?_
      have h1 : ρ (.tmp 1) = (.pointer (some ⟨g1, 0, none⟩)) := (hf 1).2 rfl rfl
      exact Exec.kfield rfl rfl h1 (fieldRC_0 w g1) rfl
    · refine StepOK.early (own7T_pure _ _) (by rfl) (by decide) rfl fun ρ w hρ hw hf => ?_
      have h3 : ρ (.tmp 3) = (.pointer (some ⟨g1, 0, none⟩)) := (hf 3).1 rfl
      have hc := (HP.out.ext hw).kind
      exact Exec.same (v := .int .u8 (c.k : Nat)) rfl (by simp [go_sem, hρ.const, h3, hc]) rfl
    · refine StepOK.early (own7T_pure _ _) (by rfl) (by decide) rfl fun ρ w hρ hw hf => ?_
      have h1 : ρ (.tmp 1) = (.pointer (some ⟨g1, 0, none⟩)) := (hf 1).2 rfl rfl
      exact Exec.kfield rfl rfl h1 (fieldRC_1 w g1) rfl
    · refine StepOK.early (own7T_pure _ _) (by rfl) (by decide) rfl fun ρ w hρ hw hf => ?_
      have h5 : ρ (.tmp 5) = (.pointer (some ⟨g1, 1, none⟩)) := (hf 5).1 rfl
      exact Exec.kloadmid rfl rfl h5 (HP.out.ext hw).value rfl
    · refine StepOK.early (own7T_pure _ _) (by rfl) (by decide) rfl fun ρ w hρ hw hf => ?_
      have h6 : ρ (.tmp 6) = (rv c.v) := (hf 6).1 rfl
      exact Exec.kcall #[rv c.v] hρ rfl rfl (by simp [h6]) Tryz.func62 (by kernel_rfl) (by kernel_rfl) ((lawOwn_any c.v w).mono (by rintro e w' ⟨rfl, hx⟩; exact ⟨_, rfl, rfl, hx⟩))
    · refine StepOK.early (own7T_pure _ _) (by rfl) (by decide) rfl fun ρ w hρ hw hf => ?_
      have h4 : ρ (.tmp 4) = (.int .u8 (c.k : Nat)) := (hf 4).1 rfl
      have h7 : ρ (.tmp 7) = (pv c.v) := (hf 7).1 rfl
      exact Exec.kbuild2 rfl rfl h4 h7 (buildPC' w c) rfl
    · refine StepOK.last (own7T_pure _ _) rfl fun ρ w hρ hw hf => ?_
      have h2 : ρ (.tmp 2) = .pointer (some ⟨g2, 0, none⟩) := (hf 2).2 rfl rfl
      have h8 : ρ (.tmp 8) = .agg (pcv c) := (hf 8).1 rfl
      have hg := hw.block g2 HG2.out (fun f => f)
      rw [HGB.out] at hg
      refine (Exec.kstorerow rfl h2 h8 hg infoPC rfl (pcv_one c)).mono ?_
      rintro _ w' rfl
      exact ⟨(fun d hd => by cases hd), setRow_heap _ _ _ _ _ _ hg, (HEXT.out.trans hw).setRow (.inr HGE.out) _⟩
  case fin =>
    intro ν w2 _ hfin
    obtain ⟨k1, k2⟩ := hfin
    simp only [Exit.then, ended, List.foldl_cons, List.foldl_nil, List.setIfInBounds_toArray, List.set_cons_succ, List.set_cons_zero]
    have K1 := Lib.hid k1; have K2 := Lib.hid k2
    clear k1 k2
    go_wp2
    refine bodyPost_ret (results_cell_row rfl _ _ g2 _ (pcv c) _ _ rfl K1.out Tryz.underlying90 rfl infoPC) rfl ?_
    exact ⟨rfl, K2.out⟩
def back7T (g1 : Nat) (c : Cel) : Tmp → Kn
  | 3 => .is (.pointer (some ⟨g1, 0, none⟩))
  | 4 => .is (.int .u8 (c.k : Nat))
  | 5 => .is (.pointer (some ⟨g1, 1, none⟩))
  | 6 => .is (pv c.v)
  | 7 => .is (rv c.v)
  | 8 => .is (rc c)
  | _ => .any
theorem back7T_pure (g1 : Nat) (c : Cel) (d : Tmp) : (back7T g1 c d).pure := by
  unfold back7T
  split <;> first | exact Kn.is_pure _ | exact Kn.any_pure
set_option maxRecDepth 20000 in
set_option maxHeartbeats 2000000 in
theorem back7_any (c : Cel) (w : World) : Calls Tryz.prog 37 #[pc c] w (RcPost c w) := by
  have hpc : pc c = .agg (pcv c) := rfl
  rw [hpc]
  clear hpc
  obtain ⟨w1, hw1⟩ : ∃ w1, w1 = (w.alloc (.cells (pcv c) 90)).alloc (.cells #[.int .u8 0, .int .u8 0, .int .i64 0, .int .u64 0, .int .u64 0, .string ⟨#[]⟩] 76) := ⟨_, rfl⟩
  obtain ⟨g1, hg1⟩ : ∃ g1, g1 = w.heap.size := ⟨_, rfl⟩
  obtain ⟨g2, hg2⟩ : ∃ g2, g2 = w.heap.size + 1 := ⟨_, rfl⟩
  have hext : Ext w w1 := by rw [hw1]; exact ((Ch.refl _ _).alloc _).alloc _
  have hgb : w1.heap[g2]? = some (.cells #[.int .u8 0, .int .u8 0, .int .i64 0, .int .u64 0, .int .u64 0, .string ⟨#[]⟩] 76 (0, 0)) := by rw [hw1, hg2]; exact heap_alloc2_new _ _ _
  have HP : Hid (PRow w1 g1 c) := Lib.hid (by rw [hw1, hg1]; exact heap_alloc2_old _ _ _)
  have HG2 : Hid (g2 < w1.heap.size) := Lib.hid (Array.getElem?_eq_some_iff.1 hgb).1
  have HGE : Hid (w.heap.size ≤ g2) := Lib.hid (by omega)
  have HGB := Lib.hid hgb; have HEXT := Lib.hid hext
  have HW1 := Lib.hid hw1; have HG1 := Lib.hid hg1; have HG22 := Lib.hid hg2
  clear hext hgb hw1 hg1 hg2
  go_enter Tryz.func37, Tryz.ntmps37
  go_wp2
  rw [← HW1.out, ← HG22.out, ← HG1.out]
  refine wp_region_last (back7T g1 c) 6 (fun w' => w'.heap[g2]? = some (.cells (rcv c) 76 (0, 0)) ∧ Ext w w') mixedV (by rfl) (by rfl) (by decide) ?all ?fin
  case all =>
    refine ⟨?_, ?_, ?_, ?_, ?_, ?_, ?_, trivial⟩
    · refine StepOK.early (back7T_pure _ _) (by rfl) (by decide) rfl fun ρ w hρ hw hf => ?_
      have h1 : ρ (.tmp 1) = (.pointer (some ⟨g1, 0, none⟩)) := (hf 1).2 rfl rfl
      exact Exec.kfield rfl rfl h1 (fieldPC_0 w g1) rfl
    · refine StepOK.early (back7T_pure _ _) (by rfl) (by decide) rfl fun ρ w hρ hw hf => ?_
      have h3 : ρ (.tmp 3) = (.pointer (some ⟨g1, 0, none⟩)) := (hf 3).1 rfl
      have hc := (HP.out.ext hw).kind
      exact Exec.same (v := .int .u8 (c.k : Nat)) rfl (by simp [go_sem, hρ.const, h3, hc]) rfl
    · refine StepOK.early (back7T_pure _ _) (by rfl) (by decide) rfl fun ρ w hρ hw hf => ?_
      have h1 : ρ (.tmp 1) = (.pointer (some ⟨g1, 0, none⟩)) := (hf 1).2 rfl rfl
      exact Exec.kfield rfl rfl h1 (fieldPC_1 w g1) rfl
    · refine StepOK.early (back7T_pure _ _) (by rfl) (by decide) rfl fun ρ w hρ hw hf => ?_
      have h5 : ρ (.tmp 5) = (.pointer (some ⟨g1, 1, none⟩)) := (hf 5).1 rfl
      exact Exec.kloadmid rfl rfl h5 (HP.out.ext hw).value rfl
    · refine StepOK.early (back7T_pure _ _) (by rfl) (by decide) rfl fun ρ w hρ hw hf => ?_
      have h6 : ρ (.tmp 6) = (pv c.v) := (hf 6).1 rfl
      exact Exec.kcall #[pv c.v] hρ rfl rfl (by simp [h6]) Tryz.func59 (by kernel_rfl) (by kernel_rfl) ((lawBack_any c.v w).mono (by rintro e w' ⟨rfl, hx⟩; exact ⟨_, rfl, rfl, hx⟩))
    · refine StepOK.early (back7T_pure _ _) (by rfl) (by decide) rfl fun ρ w hρ hw hf => ?_
      have h4 : ρ (.tmp 4) = (.int .u8 (c.k : Nat)) := (hf 4).1 rfl
      have h7 : ρ (.tmp 7) = (rv c.v) := (hf 7).1 rfl
      exact Exec.kbuild2 rfl rfl h4 h7 (buildRC' w c) rfl
    · refine StepOK.last (back7T_pure _ _) rfl fun ρ w hρ hw hf => ?_
      have h2 : ρ (.tmp 2) = .pointer (some ⟨g2, 0, none⟩) := (hf 2).2 rfl rfl
      have h8 : ρ (.tmp 8) = .agg (rcv c) := (hf 8).1 rfl
      have hg := hw.block g2 HG2.out (fun f => f)
      rw [HGB.out] at hg
      refine (Exec.kstorerow rfl h2 h8 hg infoRC rfl (rcv_one c)).mono ?_
      rintro _ w' rfl
      exact ⟨(fun d hd => by cases hd), setRow_heap _ _ _ _ _ _ hg, (HEXT.out.trans hw).setRow (.inr HGE.out) _⟩
  case fin =>
    intro ν w2 _ hfin
    obtain ⟨k1, k2⟩ := hfin
    simp only [Exit.then, ended, List.foldl_cons, List.foldl_nil, List.setIfInBounds_toArray, List.set_cons_succ, List.set_cons_zero]
    have K1 := Lib.hid k1; have K2 := Lib.hid k2
    clear k1 k2
    go_wp2
    refine bodyPost_ret (results_cell_row rfl _ _ g2 _ (rcv c) _ _ rfl K1.out Tryz.underlying76 rfl infoRC) rfl ?_
    exact ⟨rfl, K2.out⟩
set_option maxRecDepth 20000 in
set_option maxHeartbeats 2000000 in
theorem rright7_any (c : Cel) (kind : Nat) (w : World) :
    Calls Tryz.prog 38 #[rc c, .int .u8 (kind : Nat)] w fun e w' => e = .returned (.int .i64 (cErr c kind : Nat)) ∧ Ext w w' := by
  have HTX := Lib.hid (fun w => rTexty_any kind w)
  have HRF := Lib.hid (fun w => rright_any c.v w)
  have HNE := Lib.hid (run_rvneq c.v .zero)
  have HB0 : Hid (∀ w, (Instr.build 74 #[]).run Tryz.prog w = .ok (rv .zero) w) := Lib.hid (fun w => build54_0 w)
  have HGD : Hid (∀ x y w, (eqGuard .neq 74 x y (rv c.v) (rv .zero)).run Tryz.prog w = .ok () w) := Lib.hid fun x y w => run_eqGuard_agg w _ _ _ _ _ _ (by kernel_rfl)
  obtain ⟨W, hW⟩ : ∃ W, W = w.alloc (.cells (rcv c) 76) := ⟨_, rfl⟩
  have HX0 : Hid (Ext w W) := Lib.hid (by rw [hW]; exact (Ch.refl _ _).alloc _)
  have hP : RRow W w.heap.size c := by rw [hW]; exact box_r c w
  have HP := Lib.hid hP
  have hpc : rc c = .agg (rcv c) := rfl
  rw [hpc]
  obtain ⟨E, hE⟩ : ∃ E, E = cErr c kind := ⟨_, rfl⟩
  rw [← hE]
  unfold cErr at hE
  clear hpc
  obtain ⟨c0, l1, l2, l3, l4, l5⟩ := hP.cells
  rw [hW] at c0 l1 l2 l3 l4 l5
  have L1 := Lib.hid l1; have L2 := Lib.hid l2; have L3 := Lib.hid l3; have L4 := Lib.hid l4; have L5 := Lib.hid l5
  have HW := Lib.hid hW
  clear hP hW l1 l2 l3 l4 l5
  by_cases h1 : kind < 1 ∨ 6 < kind
  · rw [if_pos h1] at hE
    have HE := Lib.hid hE; clear hE
    by_cases ha : kind < 1
    · go_enter Tryz.func38, Tryz.ntmps38
      go_wp2
      go_ret
      rw [← HW.out]
      exact ⟨by rw [HE.out]; rfl, HX0.out⟩
    · have hb : 6 < kind := by omega
      clear h1
      go_enter Tryz.func38, Tryz.ntmps38
      go_wp2
      go_ret
      rw [← HW.out]
      exact ⟨by rw [HE.out]; rfl, HX0.out⟩
  rw [if_neg h1] at hE
  have ha : ¬ kind < 1 := by omega
  have hb : ¬ 6 < kind := by omega
  clear h1
  by_cases h2 : 2 < c.k
  · rw [if_pos h2] at hE
    have HE := Lib.hid hE; clear hE
    go_enter Tryz.func38, Tryz.ntmps38
    go_wp2
    go_ret
    rw [← HW.out]
    exact ⟨by rw [HE.out]; rfl, HX0.out⟩
  rw [if_neg h2] at hE
  by_cases h3 : c.k < 2
  · rw [if_pos h3] at hE
    by_cases h4 : c.v = .zero
    · have hne := HNE.out
      rw [decide_eq_true h4] at hne
      have HNE1 := Lib.hid hne; clear hne
      rw [if_neg (fun a => a h4)] at hE
      have HE := Lib.hid hE; clear hE h4
      by_cases h5 : c.k = 1
      · have HE3 : Hid (E = if texty kind = false then 11 else 0) := Lib.hid (by rw [HE.out]; simp [h5])
        rw [h5] at c0
        clear h2 h3 h5 HE
        cases ht : texty kind with
        | true =>
          rw [ht] at HTX HE3
          go_enter Tryz.func38, Tryz.ntmps38
          go_wp2_with (first
            | (rw [← HW.out]; refine wpList_load_run rfl _ _ rfl rfl HP.out.value ?_; refine wpList_build0_run rfl _ rfl (HB0.out _) ?_; refine wpList_neq_run rfl _ _ _ _ rfl rfl rfl (HGD.out _ _ _) (HNE1.out _) ?_; rw [HW.out])
            | (go_at_call 60; refine (HTX.out _).mono ?_; rintro e w' ⟨rfl, rfl⟩))
          go_ret
          rw [← HW.out]
          exact ⟨by rw [HE3.out]; rfl, HX0.out⟩
        | false =>
          rw [ht] at HTX HE3
          go_enter Tryz.func38, Tryz.ntmps38
          go_wp2_with (first
            | (rw [← HW.out]; refine wpList_load_run rfl _ _ rfl rfl HP.out.value ?_; refine wpList_build0_run rfl _ rfl (HB0.out _) ?_; refine wpList_neq_run rfl _ _ _ _ rfl rfl rfl (HGD.out _ _ _) (HNE1.out _) ?_; rw [HW.out])
            | (go_at_call 60; refine (HTX.out _).mono ?_; rintro e w' ⟨rfl, rfl⟩))
          go_ret
          rw [← HW.out]
          exact ⟨by rw [HE3.out]; rfl, HX0.out⟩
      · have e1 : (((c.k : Nat) : Int) == 1) = false := by simp; omega
        have HE3 : Hid (E = 0) := Lib.hid (by rw [HE.out, if_neg (by omega)])
        have h3' : ((c.k : Nat) : Int) < 2 := by omega
        clear h2 h5 HE
        go_enter Tryz.func38, Tryz.ntmps38
        go_wp2_with (rw [← HW.out]; refine wpList_load_run rfl _ _ rfl rfl HP.out.value ?_; refine wpList_build0_run rfl _ rfl (HB0.out _) ?_; refine wpList_neq_run rfl _ _ _ _ rfl rfl rfl (HGD.out _ _ _) (HNE1.out _) ?_; rw [HW.out])
        go_ret
        rw [← HW.out]
        exact ⟨by rw [HE3.out]; rfl, HX0.out⟩
    · have hne := HNE.out
      rw [decide_eq_false h4] at hne
      have HNE1 := Lib.hid hne; clear hne
      rw [if_pos h4] at hE
      have HE := Lib.hid hE; clear hE h4
      go_enter Tryz.func38, Tryz.ntmps38
      go_wp2_with (rw [← HW.out]; refine wpList_load_run rfl _ _ rfl rfl HP.out.value ?_; refine wpList_build0_run rfl _ rfl (HB0.out _) ?_; refine wpList_neq_run rfl _ _ _ _ rfl rfl rfl (HGD.out _ _ _) (HNE1.out _) ?_; rw [HW.out])
      go_ret
      rw [← HW.out]
      exact ⟨by rw [HE.out]; rfl, HX0.out⟩
  · rw [if_neg h3] at hE
    have h5 : c.k = 2 := by omega
    rw [h5] at c0
    generalize vErr c.v = R at *
    have HE := Lib.hid hE
    clear h2 h3 h5 hE
    go_enter Tryz.func38, Tryz.ntmps38
    go_wp2_with (first
      | (rw [← HW.out]; refine wpList_load_run rfl _ _ rfl rfl HP.out.value ?_; rw [HW.out])
      | (go_at_call 61; refine (HRF.out _).mono ?_))
    rintro e w1 ⟨rfl, hx⟩
    have c1 := hx.cell (p := ⟨w.heap.size, 1, none⟩) (fun f => f) _ (by rw [← HW.out]; exact HP.out.type)
    have HX1 : Hid (Ext w w1) := Lib.hid (HX0.out.trans (by rw [HW.out]; exact hx))
    clear hx c0
    by_cases hR : R = 0
    · subst hR
      by_cases hk : c.v.ty = kind
      · have e1 : (((c.v.ty : Nat) : Int) != (kind : Nat)) = false := by simp; omega
        have HF : Hid (E = 0) := Lib.hid (by rw [HE.out]; simp [hk])
        clear hk
        go_wp2
        go_ret
        exact ⟨by rw [HF.out]; rfl, HX1.out⟩
      · have e1 : (((c.v.ty : Nat) : Int) != (kind : Nat)) = true := by simp; omega
        have HF : Hid (E = 11) := Lib.hid (by rw [HE.out]; simp [hk])
        clear hk
        go_wp2
        go_ret
        exact ⟨by rw [HF.out]; rfl, HX1.out⟩
    · have e1 : (((R : Nat) : Int) != 0) = true := by simp; omega
      have HF : Hid (E = R) := Lib.hid (by rw [HE.out]; simp [hR])
      clear hR
      go_wp2
      go_ret
      exact ⟨by rw [HF.out]; rfl, HX1.out⟩
end Go.Proofs.YtegclfpmgilnpaaGreat
