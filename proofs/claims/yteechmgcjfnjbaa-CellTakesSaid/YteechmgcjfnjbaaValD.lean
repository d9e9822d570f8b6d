/-
  Values: the document's as the program's, and back.
-/
import Derived.Test.YteechmgcjfnjbaaValC
namespace Go.Proofs.Yteechmgcjfnjbaa
open Go.RowKit Go.Lac

theorem field54_0 (w : World) (b : Nat) : (Instr.fieldAt 24 (.pointer (some ⟨b, 0, none⟩)) 0).run Try.prog w = .ok (.pointer (some ⟨b, 0, none⟩)) w := by kernel_rfl
theorem field54_1 (w : World) (b : Nat) : (Instr.fieldAt 24 (.pointer (some ⟨b, 0, none⟩)) 1).run Try.prog w = .ok (.pointer (some ⟨b, 1, none⟩)) w := by kernel_rfl
theorem field54_2 (w : World) (b : Nat) : (Instr.fieldAt 24 (.pointer (some ⟨b, 0, none⟩)) 2).run Try.prog w = .ok (.pointer (some ⟨b, 2, none⟩)) w := by kernel_rfl
theorem field54_3 (w : World) (b : Nat) : (Instr.fieldAt 24 (.pointer (some ⟨b, 0, none⟩)) 3).run Try.prog w = .ok (.pointer (some ⟨b, 3, none⟩)) w := by kernel_rfl
theorem field54_4 (w : World) (b : Nat) : (Instr.fieldAt 24 (.pointer (some ⟨b, 0, none⟩)) 4).run Try.prog w = .ok (.pointer (some ⟨b, 4, none⟩)) w := by kernel_rfl
theorem build61 (w : World) (k : Nat) (n : Int) (re im : Nat) (A : ByteArray) : (Instr.build 29 #[(0, .int .u8 (k : Nat)), (1, .int .i64 n), (2, .complex .f64 re im), (3, .string A)]).run Try.prog w = .ok (.agg #[.int .u8 (k : Nat), .int .i64 n, .complex .f64 re im, .string A]) w := by kernel_rfl

section
variable {P : Program} {ρ : Operand → Value} {o : Oper} {w : World} {T : Tmp → Kn} {d : Tmp} {t : TypeId}
theorem Exec.kbuild4 {x y z u : Operand} {vx vy vz vu r : Value} (ho : o.op = .build t #[(0, x), (1, y), (2, z), (3, u)]) (hd : o.dst = some d) (hx : ρ x = vx) (hy : ρ y = vy) (hz : ρ z = vz) (hu : ρ u = vu) (hr : (Instr.build t #[(0, vx), (1, vy), (2, vz), (3, vu)]).run P w = .ok r w) (hv : (T d).holds r w) :
    Exec P ρ o w fun v w' => (∀ d, o.dst = some d → knV T d v w') ∧ Ext w w' :=
  Exec.same hd (by unfold execOp; rw [ho]; simp only [List.map_toArray, List.map_cons, List.map_nil, hx, hy, hz, hu, Sem.run_bind, hr, Result.andThen_ok, Sem.run_pure]) hv
theorem Exec.kbuild1 {x : Operand} {vx r : Value} (ho : o.op = .build t #[(0, x)]) (hd : o.dst = some d) (hx : ρ x = vx) (hr : (Instr.build t #[(0, vx)]).run P w = .ok r w) (hv : (T d).holds r w) :
    Exec P ρ o w fun v w' => (∀ d, o.dst = some d → knV T d v w') ∧ Ext w w' :=
  Exec.same hd (by unfold execOp; rw [ho]; simp only [List.map_toArray, List.map_cons, List.map_nil, hx, Sem.run_bind, hr, Result.andThen_ok, Sem.run_pure]) hv
end

def ownLT (g k : Nat) (n : Int) (re im : Nat) (A : ByteArray) : Tmp → Kn
  | 3 => .is (.pointer (some ⟨g, 0, none⟩))
  | 4 => .is (.int .u8 (k : Nat))
  | 5 => .is (.pointer (some ⟨g, 1, none⟩))
  | 6 => .is (.int .i64 n)
  | 7 => .is (.pointer (some ⟨g, 2, none⟩))
  | 8 => .is (.int .u64 (re : Nat))
  | 9 => .is (.pointer (some ⟨g, 3, none⟩))
  | 10 => .is (.int .u64 (im : Nat))
  | 11 => .is (.complex .f64 re im)
  | 12 => .is (.pointer (some ⟨g, 4, none⟩))
  | 13 => .is (.string A)
  | 14 => .is (.agg #[.int .u8 (k : Nat), .int .i64 n, .complex .f64 re im, .string A])
  | _ => .any

theorem ownLT_pure (g k : Nat) (n : Int) (re im : Nat) (A : ByteArray) (d : Tmp) : (ownLT g k n re im A d).pure := by
  unfold ownLT
  split <;> first | exact Kn.is_pure _ | exact Kn.any_pure

set_option maxRecDepth 20000 in
set_option maxHeartbeats 2000000 in
theorem lawOwn_any (v : Val) (w : World) : Calls Try.prog 44 #[rv v] w (PvPost v w) := by
  obtain ⟨k, n, re, im, t⟩ := v
  unfold PvPost pv pvals rv rvals strV
  simp only
  generalize (⟨t.toArray⟩ : ByteArray) = A
  obtain ⟨w1, hw1⟩ : ∃ w1, w1 = (w.alloc (.cells #[.int .u8 (k : Nat), .int .i64 n, .int .u64 (re : Nat), .int .u64 (im : Nat), .string A] 24)).alloc (.cells #[.int .u8 0, .int .i64 0, .complex .f64 0 0, .string ⟨#[]⟩] 29) := ⟨_, rfl⟩
  obtain ⟨g1, hg1⟩ : ∃ g1, g1 = w.heap.size := ⟨_, rfl⟩
  obtain ⟨g2, hg2⟩ : ∃ g2, g2 = w.heap.size + 1 := ⟨_, rfl⟩
  have hext : Ext w w1 := by rw [hw1]; exact ((Ch.refl _ _).alloc _).alloc _
  have hgb : w1.heap[g2]? = some (.cells #[.int .u8 0, .int .i64 0, .complex .f64 0 0, .string ⟨#[]⟩] 29 (0, 0)) := by rw [hw1, hg2]; exact heap_alloc2_new _ _ _
  have hga : w1.heap[g1]? = some (.cells #[.int .u8 (k : Nat), .int .i64 n, .int .u64 (re : Nat), .int .u64 (im : Nat), .string A] 24 (0, 0)) := by rw [hw1, hg1]; exact heap_alloc2_old _ _ _
  have HC0 := Lib.hid (show w1.cell? ⟨g1, 0, none⟩ = some (.int .u8 (k : Nat)) by rw [cell_of_row _ _ _ _ _ _ hga]; rfl)
  have HC1 := Lib.hid (show w1.cell? ⟨g1, 1, none⟩ = some (.int .i64 n) by rw [cell_of_row _ _ _ _ _ _ hga]; rfl)
  have HC2 := Lib.hid (show w1.cell? ⟨g1, 2, none⟩ = some (.int .u64 (re : Nat)) by rw [cell_of_row _ _ _ _ _ _ hga]; rfl)
  have HC3 := Lib.hid (show w1.cell? ⟨g1, 3, none⟩ = some (.int .u64 (im : Nat)) by rw [cell_of_row _ _ _ _ _ _ hga]; rfl)
  have HC4 := Lib.hid (show w1.cell? ⟨g1, 4, none⟩ = some (.string A) by rw [cell_of_row _ _ _ _ _ _ hga]; rfl)
  have HG2 : Hid (g2 < w1.heap.size) := Lib.hid (Array.getElem?_eq_some_iff.1 hgb).1
  have HGE : Hid (w.heap.size ≤ g2) := Lib.hid (by omega)
  have HGB := Lib.hid hgb; have HEXT := Lib.hid hext
  have HW1 := Lib.hid hw1; have HG1 := Lib.hid hg1; have HG22 := Lib.hid hg2
  clear hext hgb hga hw1 hg1 hg2
  go_enter Try.func44, Try.ntmps44
  go_wp2
  rw [← HW1.out, ← HG22.out, ← HG1.out]
  refine wp_region_last (ownLT g1 k n re im A) 12 (fun w' => w'.heap[g2]? = some (.cells #[.int .u8 (k : Nat), .int .i64 n, .complex .f64 re im, .string A] 29 (0, 0)) ∧ Ext w w') mixedV (by rfl) (by rfl) (by decide) ?all ?fin
  case all =>
    refine ⟨?_, ?_, ?_, ?_, ?_, ?_, ?_, ?_, ?_, ?_, ?_, ?_, ?_, trivial⟩
    · refine StepOK.early (ownLT_pure _ _ _ _ _ _) (by rfl) (by decide) rfl fun ρ w hρ hw hf => ?_
      have h1 : ρ (.tmp 1) = (.pointer (some ⟨g1, 0, none⟩)) := (hf 1).2 rfl rfl
      exact Exec.kfield rfl rfl h1 (field54_0 w g1) rfl
    · refine StepOK.early (ownLT_pure _ _ _ _ _ _) (by rfl) (by decide) rfl fun ρ w hρ hw hf => ?_
      have h3 : ρ (.tmp 3) = (.pointer (some ⟨g1, 0, none⟩)) := (hf 3).1 rfl
      have hc := hw.cell (p := ⟨g1, 0, none⟩) (fun f => f) _ HC0.out
      exact Exec.same (v := .int .u8 (k : Nat)) rfl (by simp [go_sem, hρ.const, h3, hc]) rfl
    · refine StepOK.early (ownLT_pure _ _ _ _ _ _) (by rfl) (by decide) rfl fun ρ w hρ hw hf => ?_
      have h1 : ρ (.tmp 1) = (.pointer (some ⟨g1, 0, none⟩)) := (hf 1).2 rfl rfl
      exact Exec.kfield rfl rfl h1 (field54_1 w g1) rfl
    · refine StepOK.early (ownLT_pure _ _ _ _ _ _) (by rfl) (by decide) rfl fun ρ w hρ hw hf => ?_
      have h5 : ρ (.tmp 5) = (.pointer (some ⟨g1, 1, none⟩)) := (hf 5).1 rfl
      have hc := hw.cell (p := ⟨g1, 1, none⟩) (fun f => f) _ HC1.out
      exact Exec.same (v := .int .i64 n) rfl (by simp [go_sem, hρ.const, h5, hc]) rfl
    · refine StepOK.early (ownLT_pure _ _ _ _ _ _) (by rfl) (by decide) rfl fun ρ w hρ hw hf => ?_
      have h1 : ρ (.tmp 1) = (.pointer (some ⟨g1, 0, none⟩)) := (hf 1).2 rfl rfl
      exact Exec.kfield rfl rfl h1 (field54_2 w g1) rfl
    · refine StepOK.early (ownLT_pure _ _ _ _ _ _) (by rfl) (by decide) rfl fun ρ w hρ hw hf => ?_
      have h7 : ρ (.tmp 7) = (.pointer (some ⟨g1, 2, none⟩)) := (hf 7).1 rfl
      have hc := hw.cell (p := ⟨g1, 2, none⟩) (fun f => f) _ HC2.out
      exact Exec.same (v := .int .u64 (re : Nat)) rfl (by simp [go_sem, hρ.const, h7, hc]) rfl
    · refine StepOK.early (ownLT_pure _ _ _ _ _ _) (by rfl) (by decide) rfl fun ρ w hρ hw hf => ?_
      have h1 : ρ (.tmp 1) = (.pointer (some ⟨g1, 0, none⟩)) := (hf 1).2 rfl rfl
      exact Exec.kfield rfl rfl h1 (field54_3 w g1) rfl
    · refine StepOK.early (ownLT_pure _ _ _ _ _ _) (by rfl) (by decide) rfl fun ρ w hρ hw hf => ?_
      have h9 : ρ (.tmp 9) = (.pointer (some ⟨g1, 3, none⟩)) := (hf 9).1 rfl
      have hc := hw.cell (p := ⟨g1, 3, none⟩) (fun f => f) _ HC3.out
      exact Exec.same (v := .int .u64 (im : Nat)) rfl (by simp [go_sem, hρ.const, h9, hc]) rfl
    · refine StepOK.early (ownLT_pure _ _ _ _ _ _) (by rfl) (by decide) rfl fun ρ w hρ hw hf => ?_
      have h8 : ρ (.tmp 8) = (.int .u64 (re : Nat)) := (hf 8).1 rfl
      have h10 : ρ (.tmp 10) = (.int .u64 (im : Nat)) := (hf 10).1 rfl
      exact Exec.kcall #[.int .u64 (re : Nat), .int .u64 (im : Nat)] hρ rfl rfl (by simp [h8, h10]) Try.func80 (by kernel_rfl) (by kernel_rfl) ((of_any re im w).mono (by rintro e w' ⟨rfl, rfl⟩; exact ⟨_, rfl, rfl, Ch.refl _ _⟩))
    · refine StepOK.early (ownLT_pure _ _ _ _ _ _) (by rfl) (by decide) rfl fun ρ w hρ hw hf => ?_
      have h1 : ρ (.tmp 1) = (.pointer (some ⟨g1, 0, none⟩)) := (hf 1).2 rfl rfl
      exact Exec.kfield rfl rfl h1 (field54_4 w g1) rfl
    · refine StepOK.early (ownLT_pure _ _ _ _ _ _) (by rfl) (by decide) rfl fun ρ w hρ hw hf => ?_
      have h12 : ρ (.tmp 12) = (.pointer (some ⟨g1, 4, none⟩)) := (hf 12).1 rfl
      have hc := hw.cell (p := ⟨g1, 4, none⟩) (fun f => f) _ HC4.out
      exact Exec.same (v := .string A) rfl (by simp [go_sem, hρ.const, h12, hc]) rfl
    · refine StepOK.early (ownLT_pure _ _ _ _ _ _) (by rfl) (by decide) rfl fun ρ w hρ hw hf => ?_
      have h4 : ρ (.tmp 4) = (.int .u8 (k : Nat)) := (hf 4).1 rfl
      have h6 : ρ (.tmp 6) = (.int .i64 n) := (hf 6).1 rfl
      have h11 : ρ (.tmp 11) = (.complex .f64 re im) := (hf 11).1 rfl
      have h13 : ρ (.tmp 13) = (.string A) := (hf 13).1 rfl
      exact Exec.kbuild4 rfl rfl h4 h6 h11 h13 (build61 w k n re im A) rfl
    · refine StepOK.last (ownLT_pure _ _ _ _ _ _) rfl fun ρ w hρ hw hf => ?_
      have h2 : ρ (.tmp 2) = .pointer (some ⟨g2, 0, none⟩) := (hf 2).2 rfl rfl
      have h14 : ρ (.tmp 14) = (.agg #[.int .u8 (k : Nat), .int .i64 n, .complex .f64 re im, .string A]) := (hf 14).1 rfl
      have hg := hw.block g2 HG2.out (fun f => f)
      rw [HGB.out] at hg
      refine (Exec.kstorerow rfl h2 h14 hg info61 rfl (prow_one _ _ _ _ _)).mono ?_
      rintro _ w' rfl
      exact ⟨(fun d hd => by cases hd), setRow_heap _ _ _ _ _ _ hg, (HEXT.out.trans hw).setRow (.inr HGE.out) _⟩
  case fin =>
    intro ν w2 _ hfin
    obtain ⟨k1, k2⟩ := hfin
    simp only [Exit.then, ended, List.foldl_cons, List.foldl_nil, List.setIfInBounds_toArray, List.set_cons_succ, List.set_cons_zero]
    have K1 := Lib.hid k1; have K2 := Lib.hid k2
    clear k1 k2
    go_wp2
    refine bodyPost_ret (results_cell_row rfl _ _ g2 _ #[.int .u8 (k : Nat), .int .i64 n, .complex .f64 re im, .string A] _ _ rfl K1.out Try.underlying29 rfl info61) rfl ?_
    exact ⟨rfl, K2.out⟩
end Go.Proofs.Yteechmgcjfnjbaa
