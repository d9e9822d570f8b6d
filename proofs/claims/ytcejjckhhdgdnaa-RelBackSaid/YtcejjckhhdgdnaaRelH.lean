/-
  Relations: Same.
-/
import Derived.Test.YtcejjckhhdgdnaaRelG
namespace Go.Proofs.Ytcejjckhhdgdnaa
open Go.RowKit Go.Lac

theorem run_refeq (a b c d : Nat) (w : World) : (binOp .eql 29 (.agg #[.int .u32 (a : Nat), .int .u32 (b : Nat)]) (.agg #[.int .u32 (c : Nat), .int .u32 (d : Nat)])).run Try.prog w = .ok (.bool (decide (a = c ∧ b = d))) w := by
  have hp : Try.prog.stoodInHeld 29 = false := by kernel_rfl
  rw [show decide (a = c ∧ b = d) = (decide (a = c) && decide (b = d)) by rw [Bool.eq_iff_iff]; simp, ← nat_beq a, ← nat_beq b]
  generalize ((a : Nat) : Int) = a
  generalize ((b : Nat) : Int) = b
  generalize ((c : Nat) : Int) = c
  generalize ((d : Nat) : Int) = d
  rw [run_eql_struct, run_equalIn_agg _ _ _ _ _ (by kernel_rfl) hp]
  simp [go_sem, Program.fieldsOf]
  by_cases h0 : a = c <;> by_cases h1 : b = d <;> simp [h0, h1]
theorem wpList_eql_run {P : Program} {w : World} {ops : Array Oper} {rest : List Oper} {o : Oper} {a : Act} {Q : Exit → Act → World → Prop} (hgd : o.guard = none) (t ty : TypeId) (x y : Operand) (ho : o.op = .binOp .eql t x y ty) {vx vy v : Value} (hx : a.eval x = vx) (hy : a.eval y = vy)
    (hg : (eqGuard .eql t x y vx vy).run P w = .ok () w) (hrun : (binOp .eql t vx vy).run P w = .ok v w) (h : wpList P ops Q rest (a.put o.dst v) w) : wpList P ops Q (o :: rest) a w := by
  refine wpList_plain hgd fun K hK => ?_
  unfold Oper.wp execOp
  simp only [ho, hx, hy, Sem.run_bind, hg, Result.andThen_ok, hrun, Sem.run_pure]
  exact hK _ _ h
set_option maxRecDepth 20000 in
set_option maxHeartbeats 2000000 in
theorem relSame_any (r s : Rl) (cv dv : Value) (w : World) (hc : ColS w cv r.cols) (hd : ColS w dv s.cols) :
    Calls Try.prog 18 #[.agg (relv r cv), .agg (relv s dv)] w fun e w' => e = .returned (.bool (decide (r = s))) ∧ Ext w w' := by
  have h1 := heap_alloc2_old w (.cells (relv r cv) 32) (.cells (relv s dv) 32)
  have h2 := heap_alloc2_new w (.cells (relv r cv) 32) (.cells (relv s dv) 32)
  obtain ⟨W, hW⟩ : ∃ W, W = (w.alloc (.cells (relv r cv) 32)).alloc (.cells (relv s dv) 32) := ⟨_, rfl⟩
  have hx : Ext w W := by rw [hW]; exact ((Ch.refl _ _).alloc _).alloc _
  rw [← hW] at h1 h2
  have a0 : W.cell? ⟨w.heap.size, 0, none⟩ = some (.int .u32 (r.oid : Nat)) := by rw [cell_of_row _ _ _ _ _ _ h1]; rfl
  have a1 : W.cell? ⟨w.heap.size, 1, none⟩ = some (.int .u32 (r.ver : Nat)) := by rw [cell_of_row _ _ _ _ _ _ h1]; rfl
  have a2 : W.cell? ⟨w.heap.size, 2, none⟩ = some (.string ⟨r.name.toArray⟩) := by rw [cell_of_row _ _ _ _ _ _ h1]; rfl
  have a3 : W.cell? ⟨w.heap.size, 3, none⟩ = some (.int .u8 (r.ident : Nat)) := by rw [cell_of_row _ _ _ _ _ _ h1]; rfl
  have a4 : W.cell? ⟨w.heap.size, 4, none⟩ = some cv := by rw [cell_of_row _ _ _ _ _ _ h1]; rfl
  have b0 : W.cell? ⟨w.heap.size + 1, 0, none⟩ = some (.int .u32 (s.oid : Nat)) := by rw [cell_of_row _ _ _ _ _ _ h2]; rfl
  have b1 : W.cell? ⟨w.heap.size + 1, 1, none⟩ = some (.int .u32 (s.ver : Nat)) := by rw [cell_of_row _ _ _ _ _ _ h2]; rfl
  have b2 : W.cell? ⟨w.heap.size + 1, 2, none⟩ = some (.string ⟨s.name.toArray⟩) := by rw [cell_of_row _ _ _ _ _ _ h2]; rfl
  have b3 : W.cell? ⟨w.heap.size + 1, 3, none⟩ = some (.int .u8 (s.ident : Nat)) := by rw [cell_of_row _ _ _ _ _ _ h2]; rfl
  have b4 : W.cell? ⟨w.heap.size + 1, 4, none⟩ = some dv := by rw [cell_of_row _ _ _ _ _ _ h2]; rfl
  have HX := Lib.hid hx; have HW := Lib.hid hW
  have HEQ := Lib.hid (equalCo_any cv dv r.cols s.cols W (ColS.ext hc hx) (ColS.ext hd hx))
  have hq := toList_beq r.name s.name
  have HRE := Lib.hid (fun w => run_refeq r.oid r.ver s.oid s.ver w)
  have HDD : Hid (decide (r = s) = (decide (r.oid = s.oid ∧ r.ver = s.ver) && (decide (r.name = s.name) && (decide (r.ident = s.ident) && decide (r.cols = s.cols))))) := Lib.hid (by
    obtain ⟨o, v, n, i, c⟩ := r
    obtain ⟨o', v', n', i', c'⟩ := s
    rw [Bool.eq_iff_iff]; simp [and_assoc])
  generalize decide (r = s) = D at *
  generalize decide (r.oid = s.oid ∧ r.ver = s.ver) = D1 at *
  generalize decide (r.name = s.name) = D2 at *
  generalize decide (r.cols = s.cols) = D4 at *
  have hq3 := nat_beq r.ident s.ident
  generalize decide (r.ident = s.ident) = D3 at *
  obtain ⟨p1, q1, rfl, _⟩ := id hc
  obtain ⟨p2, q2, rfl, _⟩ := id hd
  generalize (⟨r.name.toArray⟩ : ByteArray) = A1 at *
  generalize (⟨s.name.toArray⟩ : ByteArray) = A2 at *
  generalize r.cols.length = n1 at *
  generalize s.cols.length = n2 at *
  generalize relv r (.slice p1 n1 q1) = V1 at *
  generalize relv s (.slice p2 n2 q2) = V2 at *
  clear h1 h2 hx hc hd
  rw [hW] at a0 a1 a2 a3 a4 b0 b1 b2 b3 b4
  clear hW
  cases D1 with
  | false =>
    have HF : Hid (D = false) := Lib.hid HDD.out
    clear HDD HEQ
    go_enter Try.func18, Try.ntmps18
    go_wp2_with (refine wpList_eql_run rfl _ _ _ _ rfl rfl rfl (run_eqGuard_agg _ _ _ _ _ _ _ (by kernel_rfl)) (HRE.out _) ?_)
    go_ret
    rw [← HW.out]
    exact ⟨by rw [HF.out]; rfl, HX.out⟩
  | true =>
    cases D2 with
    | false =>
      have HF : Hid (D = false) := Lib.hid HDD.out
      clear HDD HEQ
      go_enter Try.func18, Try.ntmps18
      go_wp2_with (refine wpList_eql_run rfl _ _ _ _ rfl rfl rfl (run_eqGuard_agg _ _ _ _ _ _ _ (by kernel_rfl)) (HRE.out _) ?_)
      go_ret
      rw [← HW.out]
      exact ⟨by rw [HF.out]; rfl, HX.out⟩
    | true =>
      cases D3 with
      | false =>
        have HF : Hid (D = false) := Lib.hid HDD.out
        clear HDD HEQ
        go_enter Try.func18, Try.ntmps18
        go_wp2_with (refine wpList_eql_run rfl _ _ _ _ rfl rfl rfl (run_eqGuard_agg _ _ _ _ _ _ _ (by kernel_rfl)) (HRE.out _) ?_)
        go_ret
        rw [← HW.out]
        exact ⟨by rw [HF.out]; rfl, HX.out⟩
      | true =>
        have HF : Hid (D = D4) := Lib.hid (by rw [HDD.out]; simp)
        clear HDD
        go_enter Try.func18, Try.ntmps18
        go_wp2_with (first
          | (refine wpList_eql_run rfl _ _ _ _ rfl rfl rfl (run_eqGuard_agg _ _ _ _ _ _ _ (by kernel_rfl)) (HRE.out _) ?_)
          | (go_at_call 53; rw [← HW.out]; refine HEQ.out.mono ?_))
        intro e w2 hm
        obtain ⟨rfl, hx⟩ := hm
        have HX2 := Lib.hid (HX.out.trans hx)
        clear hx
        go_wp2
        go_ret
        exact ⟨by rw [HF.out]; rfl, HX2.out⟩
end Go.Proofs.Ytcejjckhhdgdnaa
