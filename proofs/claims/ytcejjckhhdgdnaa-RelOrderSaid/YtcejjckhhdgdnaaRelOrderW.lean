/-
  RelOrder: the walk. MADE BY mkRelOrder.py
-/
import Derived.Test.YtcejjckhhdgdnaaLibF
import Derived.Test.YtcejjckhhdgdnaaRelL
import Derived.Test.YtcejjckhhdgdnaaOpenG
namespace Go.Proofs.Ytcejjckhhdgdnaa
open Go.RowKit Go.Lac

def cmpR (a b : Nat × Nat) : Int := orN (cmpN a.1 b.1) (cmpN a.2 b.2)
theorem cmpR_cases (a b : Nat × Nat) : (cmpR a b = -1 ∧ (a.1 < b.1 ∨ (a.1 = b.1 ∧ a.2 < b.2))) ∨ (cmpR a b = 0 ∧ a.1 = b.1 ∧ a.2 = b.2) ∨ (cmpR a b = 1 ∧ (b.1 < a.1 ∨ (a.1 = b.1 ∧ b.2 < a.2))) := by
  rcases Nat.lt_trichotomy a.1 b.1 with h | h | h
  · exact .inl ⟨by simp [cmpR, orN, cmpN, h], .inl h⟩
  · have n1 : ¬ a.1 < b.1 := by omega
    have n2 : ¬ b.1 < a.1 := by omega
    rcases Nat.lt_trichotomy a.2 b.2 with k | k | k
    · exact .inl ⟨by simp [cmpR, orN, cmpN, n1, n2, k], .inr ⟨h, k⟩⟩
    · have n3 : ¬ a.2 < b.2 := by omega
      have n4 : ¬ b.2 < a.2 := by omega
      exact .inr (.inl ⟨by simp [cmpR, orN, cmpN, n1, n2, n3, n4], h, k⟩)
    · have n3 : ¬ a.2 < b.2 := by omega
      exact .inr (.inr ⟨by simp [cmpR, orN, cmpN, n1, n2, n3, k], .inr ⟨h, k⟩⟩)
  · have n1 : ¬ a.1 < b.1 := by omega
    exact .inr (.inr ⟨by simp [cmpR, orN, cmpN, n1, h], .inl h⟩)
theorem cmpR_neg (a b : Nat × Nat) : cmpR a b = -cmpR b a := by
  rcases cmpR_cases a b with h | h | h <;> rcases cmpR_cases b a with k | k | k <;> omega
theorem cmpR_zero (a b : Nat × Nat) : (decide (cmpR a b = 0)) = decide (a = b) := by
  obtain ⟨a1, a2⟩ := a
  obtain ⟨b1, b2⟩ := b
  have h := cmpR_cases (a1, a2) (b1, b2)
  rw [decide_eq_decide, Prod.mk.injEq]
  simp only at h
  constructor
  · intro e; rw [e] at h; omega
  · intro e; omega
theorem cmpR_trans {a b c : Nat × Nat} (h1 : ¬ 0 < cmpR a b) (h2 : ¬ 0 < cmpR b c) : cmpR a c ≤ 0 := by
  rcases cmpR_cases a b with h | h | h <;> rcases cmpR_cases b c with k | k | k <;> rcases cmpR_cases a c with m | m | m <;> omega
theorem fieldRR_0 (w : World) (b : Nat) : (Instr.fieldAt 24 (.pointer (some ⟨b, 0, none⟩)) 0).run Try.prog w = .ok (.pointer (some ⟨b, 0, none⟩)) w := by kernel_rfl
theorem fieldRR_1 (w : World) (b : Nat) : (Instr.fieldAt 24 (.pointer (some ⟨b, 0, none⟩)) 1).run Try.prog w = .ok (.pointer (some ⟨b, 1, none⟩)) w := by kernel_rfl
theorem infoRf : (Try.prog.info? 29).map (·.size) = some 2 := by kernel_rfl
abbrev RfTy (t : TypeId) : Prop := t = 29
def bxo0 : Bx := ⟨7, 15, 18, 14, 29, 2⟩
def bxo1 : Bx := ⟨8, 16, 19, 19, 29, 2⟩
def bxo2 : Bx := ⟨9, 17, 20, 24, 29, 2⟩
def bxsO : List Bx := [bxo0, bxo1, bxo2]
def ordT (g0 g1 g2 : Nat) (a b c : Nat × Nat) : Tmp → KnT RfTy
  | 10 => .is (.pointer (some ⟨g0, 0, none⟩))
  | 11 => .is (.int .u32 (a.1 : Nat))
  | 12 => .is (.pointer (some ⟨g0, 1, none⟩))
  | 13 => .is (.int .u32 (a.2 : Nat))
  | 14 => .is (.agg (refv a))
  | 15 => .is (.pointer (some ⟨g1, 0, none⟩))
  | 16 => .is (.int .u32 (b.1 : Nat))
  | 17 => .is (.pointer (some ⟨g1, 1, none⟩))
  | 18 => .is (.int .u32 (b.2 : Nat))
  | 19 => .is (.agg (refv b))
  | 20 => .is (.pointer (some ⟨g2, 0, none⟩))
  | 21 => .is (.int .u32 (c.1 : Nat))
  | 22 => .is (.pointer (some ⟨g2, 1, none⟩))
  | 23 => .is (.int .u32 (c.2 : Nat))
  | 24 => .is (.agg (refv c))
  | _ => .any
theorem infoRR : (Try.prog.info? 24).map (·.size) = some 2 := by kernel_rfl
theorem run_rrefeq (a b : Nat × Nat) (w : World) : (binOp .eql 24 (.agg (refv a)) (.agg (refv b))).run Try.prog w = .ok (.bool (decide (a = b))) w := by
  have hp : Try.prog.stoodInHeld 24 = false := by kernel_rfl
  obtain ⟨a, b'⟩ := a
  obtain ⟨c, d⟩ := b
  unfold refv
  simp only
  rw [show decide ((a, b') = (c, d)) = (decide (a = c) && decide (b' = d)) by rw [Bool.eq_iff_iff]; simp, ← nat_beq a, ← nat_beq b']
  generalize ((a : Nat) : Int) = a
  generalize ((b' : Nat) : Int) = b'
  generalize ((c : Nat) : Int) = c
  generalize ((d : Nat) : Int) = d
  rw [run_eql_struct, run_equalIn_agg _ _ _ _ _ (by kernel_rfl) hp]
  simp [go_sem, Program.fieldsOf]
  by_cases h0 : a = c <;> by_cases h1 : b' = d <;> simp [h0, h1]
def ord2T (a b : Nat × Nat) (x y : Int) (D : Bool) : Tmp → Kn
  | 25 => .is (.agg (refv a))
  | 26 => .is (.agg (refv b))
  | 27 => .is (.int .i64 x)
  | 28 => .is (.agg (refv b))
  | 29 => .is (.agg (refv a))
  | 30 => .is (.int .i64 y)
  | 31 => .is (.int .i64 x)
  | 32 => .is (.bool false)
  | 33 => .is (.bool false)
  | 34 => .is (.agg (refv a))
  | 35 => .is (.agg (refv b))
  | 36 => .is (.int .i64 x)
  | 37 => .is (.bool D)
  | 38 => .is (.agg (refv a))
  | 39 => .is (.agg (refv b))
  | 40 => .is (.bool D)
  | 41 => .is (.bool false)
  | 42 => .is (.bool false)
  | _ => .any
set_option maxRecDepth 20000 in
set_option maxHeartbeats 4000000 in
theorem relOrder_walk (a b c : Nat × Nat) (w : World) :
    Calls Try.prog 6 #[.agg (refv a), .agg (refv b), .agg (refv c)] w fun e w' => e = .returned (.bool true) ∧ Ext w w' := by
  obtain ⟨W1, hW1⟩ : ∃ W1, W1 = ((w.alloc (.cells (refv a) 24)).alloc (.cells (refv b) 24)).alloc (.cells (refv c) 24) := ⟨_, rfl⟩
  obtain ⟨ga, gb, gc⟩ := heap_alloc3 w (.cells (refv a) 24) (.cells (refv b) 24) (.cells (refv c) 24)
  rw [← hW1] at ga gb gc
  have hx1 : Ext w W1 := by rw [hW1]; exact (((Ch.refl _ _).alloc _).alloc _).alloc _
  have GA := Lib.hid ga; have GB := Lib.hid gb; have GC := Lib.hid gc; have HX1 := Lib.hid hx1; have HW1 := Lib.hid hW1
  clear ga gb gc hx1 hW1
  go_enter Try.func6, Try.ntmps6
  go_wp2
  rw [← HW1.out]
  refine wp_region_boxes (ordT w.heap.size (w.heap.size + 1) (w.heap.size + 1 + 1) a b c) bxsO mixedV (by rfl) (by rfl) ?all ?fin
  case all =>
    refine ⟨?_, ?_, ?_, ?_, ?_, ?_, ?_, ?_, ?_, ?_, ?_, ?_, ?_, ?_, ?_, ?_, ?_, ?_, ?_, ?_, ?_, trivial⟩
    · refine StepA.bplain (by rfl) (by rfl) rfl fun ρ w2 L hρ hw hf => ?_
      have h : ρ (.tmp 3) = .pointer (some ⟨w.heap.size, 0, none⟩) := (hf 3).2 rfl rfl
      exact Exec.kfield rfl rfl h (fieldRR_0 w2 _) rfl
    · refine StepA.bplain (by rfl) (by rfl) rfl fun ρ w2 L hρ hw hf => ?_
      have h : ρ (.tmp 10) = .pointer (some ⟨w.heap.size, 0, none⟩) := (hf 10).1 rfl
      have hc : w2.cell? ⟨w.heap.size, 0, none⟩ = some (.int .u32 (a.1 : Nat)) := by rw [cell_of_row _ _ _ _ _ _ (heap_of_ext hw GA.out)]; rfl
      exact Exec.same (v := .int .u32 (a.1 : Nat)) rfl (by simp [go_sem, hρ.const, h, hc]) rfl
    · refine StepA.bplain (by rfl) (by rfl) rfl fun ρ w2 L hρ hw hf => ?_
      have h : ρ (.tmp 3) = .pointer (some ⟨w.heap.size, 0, none⟩) := (hf 3).2 rfl rfl
      exact Exec.kfield rfl rfl h (fieldRR_1 w2 _) rfl
    · refine StepA.bplain (by rfl) (by rfl) rfl fun ρ w2 L hρ hw hf => ?_
      have h : ρ (.tmp 12) = .pointer (some ⟨w.heap.size, 1, none⟩) := (hf 12).1 rfl
      have hc : w2.cell? ⟨w.heap.size, 1, none⟩ = some (.int .u32 (a.2 : Nat)) := by rw [cell_of_row _ _ _ _ _ _ (heap_of_ext hw GA.out)]; rfl
      exact Exec.same (v := .int .u32 (a.2 : Nat)) rfl (by simp [go_sem, hρ.const, h, hc]) rfl
    · refine StepA.bplain (by rfl) (by rfl) rfl fun ρ w2 L hρ hw hf => ?_
      have h1 : ρ (.tmp 11) = .int .u32 (a.1 : Nat) := (hf 11).1 rfl
      have h2 : ρ (.tmp 13) = .int .u32 (a.2 : Nat) := (hf 13).1 rfl
      exact Exec.kpair rfl rfl h1 h2 (build_rf w2 _ _) rfl
    · refine StepA.bplain (by rfl) (by rfl) rfl fun ρ w2 L hρ hw hf => ?_
      have h : ρ (.tmp 4) = .pointer (some ⟨(w.heap.size + 1), 0, none⟩) := (hf 4).2 rfl rfl
      exact Exec.kfield rfl rfl h (fieldRR_0 w2 _) rfl
    · refine StepA.bplain (by rfl) (by rfl) rfl fun ρ w2 L hρ hw hf => ?_
      have h : ρ (.tmp 15) = .pointer (some ⟨(w.heap.size + 1), 0, none⟩) := (hf 15).1 rfl
      have hc : w2.cell? ⟨(w.heap.size + 1), 0, none⟩ = some (.int .u32 (b.1 : Nat)) := by rw [cell_of_row _ _ _ _ _ _ (heap_of_ext hw GB.out)]; rfl
      exact Exec.same (v := .int .u32 (b.1 : Nat)) rfl (by simp [go_sem, hρ.const, h, hc]) rfl
    · refine StepA.bplain (by rfl) (by rfl) rfl fun ρ w2 L hρ hw hf => ?_
      have h : ρ (.tmp 4) = .pointer (some ⟨(w.heap.size + 1), 0, none⟩) := (hf 4).2 rfl rfl
      exact Exec.kfield rfl rfl h (fieldRR_1 w2 _) rfl
    · refine StepA.bplain (by rfl) (by rfl) rfl fun ρ w2 L hρ hw hf => ?_
      have h : ρ (.tmp 17) = .pointer (some ⟨(w.heap.size + 1), 1, none⟩) := (hf 17).1 rfl
      have hc : w2.cell? ⟨(w.heap.size + 1), 1, none⟩ = some (.int .u32 (b.2 : Nat)) := by rw [cell_of_row _ _ _ _ _ _ (heap_of_ext hw GB.out)]; rfl
      exact Exec.same (v := .int .u32 (b.2 : Nat)) rfl (by simp [go_sem, hρ.const, h, hc]) rfl
    · refine StepA.bplain (by rfl) (by rfl) rfl fun ρ w2 L hρ hw hf => ?_
      have h1 : ρ (.tmp 16) = .int .u32 (b.1 : Nat) := (hf 16).1 rfl
      have h2 : ρ (.tmp 18) = .int .u32 (b.2 : Nat) := (hf 18).1 rfl
      exact Exec.kpair rfl rfl h1 h2 (build_rf w2 _ _) rfl
    · refine StepA.bplain (by rfl) (by rfl) rfl fun ρ w2 L hρ hw hf => ?_
      have h : ρ (.tmp 5) = .pointer (some ⟨(w.heap.size + 1 + 1), 0, none⟩) := (hf 5).2 rfl rfl
      exact Exec.kfield rfl rfl h (fieldRR_0 w2 _) rfl
    · refine StepA.bplain (by rfl) (by rfl) rfl fun ρ w2 L hρ hw hf => ?_
      have h : ρ (.tmp 20) = .pointer (some ⟨(w.heap.size + 1 + 1), 0, none⟩) := (hf 20).1 rfl
      have hc : w2.cell? ⟨(w.heap.size + 1 + 1), 0, none⟩ = some (.int .u32 (c.1 : Nat)) := by rw [cell_of_row _ _ _ _ _ _ (heap_of_ext hw GC.out)]; rfl
      exact Exec.same (v := .int .u32 (c.1 : Nat)) rfl (by simp [go_sem, hρ.const, h, hc]) rfl
    · refine StepA.bplain (by rfl) (by rfl) rfl fun ρ w2 L hρ hw hf => ?_
      have h : ρ (.tmp 5) = .pointer (some ⟨(w.heap.size + 1 + 1), 0, none⟩) := (hf 5).2 rfl rfl
      exact Exec.kfield rfl rfl h (fieldRR_1 w2 _) rfl
    · refine StepA.bplain (by rfl) (by rfl) rfl fun ρ w2 L hρ hw hf => ?_
      have h : ρ (.tmp 22) = .pointer (some ⟨(w.heap.size + 1 + 1), 1, none⟩) := (hf 22).1 rfl
      have hc : w2.cell? ⟨(w.heap.size + 1 + 1), 1, none⟩ = some (.int .u32 (c.2 : Nat)) := by rw [cell_of_row _ _ _ _ _ _ (heap_of_ext hw GC.out)]; rfl
      exact Exec.same (v := .int .u32 (c.2 : Nat)) rfl (by simp [go_sem, hρ.const, h, hc]) rfl
    · refine StepA.bplain (by rfl) (by rfl) rfl fun ρ w2 L hρ hw hf => ?_
      have h1 : ρ (.tmp 21) = .int .u32 (c.1 : Nat) := (hf 21).1 rfl
      have h2 : ρ (.tmp 23) = .int .u32 (c.2 : Nat) := (hf 23).1 rfl
      exact Exec.kpair rfl rfl h1 h2 (build_rf w2 _ _) rfl
    · exact StepA.balloc (b := bxo0) (by rfl) (by simp [bxsO]) (show 7 < 62 by decide) rfl (by rfl) rfl rfl #[.int .u32 0, .int .u32 0] rfl (fun x w => by unfold execOp; simp [go_sem, bxo0])
    · exact StepA.balloc (b := bxo1) (by rfl) (by simp [bxsO]) (show 8 < 62 by decide) rfl (by rfl) rfl rfl #[.int .u32 0, .int .u32 0] rfl (fun x w => by unfold execOp; simp [go_sem, bxo1])
    · exact StepA.balloc (b := bxo2) (by rfl) (by simp [bxsO]) (show 9 < 62 by decide) rfl (by rfl) rfl rfl #[.int .u32 0, .int .u32 0] rfl (fun x w => by unfold execOp; simp [go_sem, bxo2])
    · exact StepA.bstore (by rfl) (by rfl) (b := bxo0) (by simp [bxsO]) rfl (by rfl) (by decide) rfl rfl rfl (by rfl) (by rfl) (by rfl) rfl infoRf (fun v w h => ⟨refv a, h, rfl, refv_one _⟩)
    · exact StepA.bstore (by rfl) (by rfl) (b := bxo1) (by simp [bxsO]) rfl (by rfl) (by decide) rfl rfl rfl (by rfl) (by rfl) (by rfl) rfl infoRf (fun v w h => ⟨refv b, h, rfl, refv_one _⟩)
    · exact StepA.bstore (by rfl) (by rfl) (b := bxo2) (by simp [bxsO]) rfl (by rfl) (by decide) rfl rfl rfl (by rfl) (by rfl) (by rfl) rfl infoRf (fun v w h => ⟨refv c, h, rfl, refv_one _⟩)
  case fin =>
    intro ν w2 hV hx2
    obtain ⟨g7, c7, e7, _, k7, _, q7⟩ := hV 15 7 rfl
    obtain ⟨g8, c8, e8, _, k8, _, q8⟩ := hV 16 8 rfl
    obtain ⟨g9, c9, e9, _, k9, _, q9⟩ := hV 17 9 rfl
    have r7 : Value.agg c7 = .agg (refv a) := q7 (by rfl)
    have r8 : Value.agg c8 = .agg (refv b) := q8 (by rfl)
    have r9 : Value.agg c9 = .agg (refv c) := q9 (by rfl)
    cases r7; cases r8; cases r9
    simp only [Exit.then, ended, List.foldl_cons, List.foldl_nil, List.setIfInBounds_toArray, List.set_cons_succ, List.set_cons_zero, e7, e8, e9]
    have G7 : Hid (w2.heap[g7]? = some (.cells (refv a) 29 (0, 0))) := Lib.hid k7
    have G8 : Hid (w2.heap[g8]? = some (.cells (refv b) 29 (0, 0))) := Lib.hid k8
    have G9 : Hid (w2.heap[g9]? = some (.cells (refv c) 29 (0, 0))) := Lib.hid k9
    have HX2 := Lib.hid (HX1.out.trans hx2); have HXX := Lib.hid hx2
    clear hV hx2 e7 e8 e9 k7 k8 k9 q7 q8 q9
    go_wp2
    obtain ⟨x, hxe⟩ : ∃ x, x = cmpR a b := ⟨_, rfl⟩
    obtain ⟨y, hye⟩ : ∃ y, y = cmpR b a := ⟨_, rfl⟩
    obtain ⟨D, hD⟩ : ∃ D, D = decide (a = b) := ⟨_, rfl⟩
    have hn := cmpR_neg a b
    have hc0 := cmpR_cases b a
    have hz := cmpR_zero a b
    have htr := fun h1 h2 => cmpR_trans (a := a) (b := b) (c := c) h1 h2
    rw [← hxe] at hn hz htr
    rw [← hye] at hn hc0
    rw [← hD] at hz
    have HXE := Lib.hid hxe; have HYE := Lib.hid hye
    have HNEG : Hid (IntKind.i64.wrap (-y) = x) := Lib.hid (by rw [hn, IntKind.wrap_i64]; omega)
    have HD0 : Hid ((x == 0) = D) := Lib.hid hz
    have HD1 : Hid (decide (a = b) = D) := Lib.hid hD.symm
    have HTR := Lib.hid htr
    have GA2 := Lib.hid (heap_of_ext HXX.out GA.out); have GB2 := Lib.hid (heap_of_ext HXX.out GB.out)
    have HCW := Lib.hid (fun (w : World) => refCompare_any a.1 a.2 b.1 b.2 w)
    have HCY := Lib.hid (fun (w : World) => refCompare_any b.1 b.2 c.1 c.2 w)
    have HCZ := Lib.hid (fun (w : World) => refCompare_any a.1 a.2 c.1 c.2 w)
    have er : ∀ a : Nat × Nat, #[.int .u32 (a.1 : Nat), .int .u32 (a.2 : Nat)] = refv a := fun _ => rfl
    have eo : ∀ a b : Nat × Nat, orN (cmpN a.1 b.1) (cmpN a.2 b.2) = cmpR a b := fun _ _ => rfl
    simp only [er, eo] at HCW HCY HCZ
    rw [← hxe] at HCW
    clear hxe hye hD hn hc0 hz htr GA GB GC HXX er eo
    generalize w.heap.size = g3 at *
    refine wp_region_ext (ord2T a b x y D) mixedV (by rfl) (by rfl) ?all ?fin
    case all =>
      refine ⟨?_, ?_, ?_, ?_, ?_, ?_, ?_, ?_, ?_, ?_, ?_, ?_, ?_, ?_, ?_, ?_, ?_, ?_, trivial⟩
      · -- 0: slot 25 := Op.load 29 t7
        refine StepOK.plain (kn_stable _) rfl fun ρ w hρ hw hf => ?_
        have h7 : ρ (.tmp 7) = (.pointer (some ⟨g7, 0, none⟩)) := (hf 7).2 rfl rfl
        exact Exec.kloadrow rfl rfl h7 (heap_of_ext hw G7.out) Try.underlying29 rfl infoRf rfl
      · -- 1: slot 26 := Op.load 29 t8
        refine StepOK.plain (kn_stable _) rfl fun ρ w hρ hw hf => ?_
        have h8 : ρ (.tmp 8) = (.pointer (some ⟨g8, 0, none⟩)) := (hf 8).2 rfl rfl
        exact Exec.kloadrow rfl rfl h8 (heap_of_ext hw G8.out) Try.underlying29 rfl infoRf rfl
      · -- 2: slot 27 := Op.call { value (Operand.func 20), args := #[t25, t26], argTypes := #[
        refine StepOK.plain (kn_stable _) rfl fun ρ w hρ hw hf => ?_
        have h25 : ρ (.tmp 25) = (.agg (refv a)) := (hf 25).1 rfl
        have h26 : ρ (.tmp 26) = (.agg (refv b)) := (hf 26).1 rfl
        refine Exec.kcall #[.agg (refv a), .agg (refv b)] hρ rfl rfl (by simp [hρ.const, h25, h26]) Try.func20 (by rfl) rfl ?_
        refine (refCompare_any a.1 a.2 b.1 b.2 w).mono ?_
        rintro e w' ⟨rfl, hx⟩
        exact ⟨_, rfl, (by rw [HXE.out]; rfl), hx⟩
      · -- 3: slot 28 := Op.load 29 t8
        refine StepOK.plain (kn_stable _) rfl fun ρ w hρ hw hf => ?_
        have h8 : ρ (.tmp 8) = (.pointer (some ⟨g8, 0, none⟩)) := (hf 8).2 rfl rfl
        exact Exec.kloadrow rfl rfl h8 (heap_of_ext hw G8.out) Try.underlying29 rfl infoRf rfl
      · -- 4: slot 29 := Op.load 29 t7
        refine StepOK.plain (kn_stable _) rfl fun ρ w hρ hw hf => ?_
        have h7 : ρ (.tmp 7) = (.pointer (some ⟨g7, 0, none⟩)) := (hf 7).2 rfl rfl
        exact Exec.kloadrow rfl rfl h7 (heap_of_ext hw G7.out) Try.underlying29 rfl infoRf rfl
      · -- 5: slot 30 := Op.call { value (Operand.func 20), args := #[t28, t29], argTypes := #[
        refine StepOK.plain (kn_stable _) rfl fun ρ w hρ hw hf => ?_
        have h28 : ρ (.tmp 28) = (.agg (refv b)) := (hf 28).1 rfl
        have h29 : ρ (.tmp 29) = (.agg (refv a)) := (hf 29).1 rfl
        refine Exec.kcall #[.agg (refv b), .agg (refv a)] hρ rfl rfl (by simp [hρ.const, h28, h29]) Try.func20 (by rfl) rfl ?_
        refine (refCompare_any b.1 b.2 a.1 a.2 w).mono ?_
        rintro e w' ⟨rfl, hx⟩
        exact ⟨_, rfl, (by rw [HYE.out]; rfl), hx⟩
      · -- 6: slot 31 := Op.unOp UnOp.neg 3 t30
        refine StepOK.plain (kn_stable _) rfl fun ρ w hρ hw hf => ?_
        have h30 : ρ (.tmp 30) = (.int .i64 y) := (hf 30).1 rfl
        exact Exec.same (v := .int .i64 x) rfl (by simp [go_sem, hρ.const, h30, HNEG.out]) rfl
      · -- 7: slot 32 := Op.binOp BinOp.neq 3 t27 t31 3
        refine StepOK.plain (kn_stable _) rfl fun ρ w hρ hw hf => ?_
        have h27 : ρ (.tmp 27) = (.int .i64 x) := (hf 27).1 rfl
        have h31 : ρ (.tmp 31) = (.int .i64 x) := (hf 31).1 rfl
        exact Exec.same (v := .bool false) rfl (by simp [go_sem, hρ.const, h27, h31]) rfl
      · -- 8: slot 33 := Op.move t32
        refine StepOK.plain (kn_stable _) rfl fun ρ w hρ hw hf => ?_
        have h32 : ρ (.tmp 32) = (.bool false) := (hf 32).1 rfl
        exact Exec.kmove rfl rfl h32
      · -- 9: slot 34 := Op.load 29 t7
        refine StepOK.guarded (kn_stable _) 8 false 33 rfl rfl (fun ρ w _ _ hf => (hf 33).1 rfl) fun ρ w hρ hw hf => ?_
        have h7 : ρ (.tmp 7) = (.pointer (some ⟨g7, 0, none⟩)) := (hf 7).2 rfl rfl
        exact Exec.kloadrow rfl rfl h7 (heap_of_ext hw G7.out) Try.underlying29 rfl infoRf rfl
      · -- 10: slot 35 := Op.load 29 t8
        refine StepOK.guarded (kn_stable _) 8 false 33 rfl rfl (fun ρ w _ _ hf => (hf 33).1 rfl) fun ρ w hρ hw hf => ?_
        have h8 : ρ (.tmp 8) = (.pointer (some ⟨g8, 0, none⟩)) := (hf 8).2 rfl rfl
        exact Exec.kloadrow rfl rfl h8 (heap_of_ext hw G8.out) Try.underlying29 rfl infoRf rfl
      · -- 11: slot 36 := Op.call { value (Operand.func 20), args := #[t34, t35], argTypes := #[
        refine StepOK.guarded (kn_stable _) 8 false 33 rfl rfl (fun ρ w _ _ hf => (hf 33).1 rfl) fun ρ w hρ hw hf => ?_
        have h34 : ρ (.tmp 34) = (.agg (refv a)) := (hf 34).1 rfl
        have h35 : ρ (.tmp 35) = (.agg (refv b)) := (hf 35).1 rfl
        refine Exec.kcall #[.agg (refv a), .agg (refv b)] hρ rfl rfl (by simp [hρ.const, h34, h35]) Try.func20 (by rfl) rfl ?_
        refine (refCompare_any a.1 a.2 b.1 b.2 w).mono ?_
        rintro e w' ⟨rfl, hx⟩
        exact ⟨_, rfl, (by rw [HXE.out]; rfl), hx⟩
      · -- 12: slot 37 := Op.binOp BinOp.eql 3 t36 (const (0:i64)) 3
        refine StepOK.guarded (kn_stable _) 8 false 33 rfl rfl (fun ρ w _ _ hf => (hf 33).1 rfl) fun ρ w hρ hw hf => ?_
        have h36 : ρ (.tmp 36) = (.int .i64 x) := (hf 36).1 rfl
        exact Exec.same (v := .bool D) rfl (by simp [go_sem, hρ.const, h36, HD0.out]) rfl
      · -- 13: slot 38 := Op.load 24 t3
        refine StepOK.guarded (kn_stable _) 8 false 33 rfl rfl (fun ρ w _ _ hf => (hf 33).1 rfl) fun ρ w hρ hw hf => ?_
        have h3 : ρ (.tmp 3) = (.pointer (some ⟨g3, 0, none⟩)) := (hf 3).2 rfl rfl
        exact Exec.kloadrow rfl rfl h3 (heap_of_ext hw GA2.out) Try.underlying24 rfl infoRR rfl
      · -- 14: slot 39 := Op.load 24 t4
        refine StepOK.guarded (kn_stable _) 8 false 33 rfl rfl (fun ρ w _ _ hf => (hf 33).1 rfl) fun ρ w hρ hw hf => ?_
        have h4 : ρ (.tmp 4) = (.pointer (some ⟨g3 + 1, 0, none⟩)) := (hf 4).2 rfl rfl
        exact Exec.kloadrow rfl rfl h4 (heap_of_ext hw GB2.out) Try.underlying24 rfl infoRR rfl
      · -- 15: slot 40 := Op.binOp BinOp.eql 24 t38 t39 24
        refine StepOK.guarded (kn_stable _) 8 false 33 rfl rfl (fun ρ w _ _ hf => (hf 33).1 rfl) fun ρ w hρ hw hf => ?_
        have h38 : ρ (.tmp 38) = (.agg (refv a)) := (hf 38).1 rfl
        have h39 : ρ (.tmp 39) = (.agg (refv b)) := (hf 39).1 rfl
        refine Exec.same (v := .bool D) rfl ?_ rfl
        unfold execOp
        have hg : (eqGuard .eql 24 (.tmp 38) (.tmp 39) (.agg (refv a)) (.agg (refv b))).run Try.prog w = .ok () w := run_eqGuard_agg w _ _ _ _ _ _ (by kernel_rfl)
        simp only [h38, h39, Sem.run_bind, hg, Result.andThen_ok, run_rrefeq, HD1.out, Sem.run_pure]
      · -- 16: slot 41 := Op.binOp BinOp.neq 4 t37 t40 4
        refine StepOK.guarded (kn_stable _) 8 false 33 rfl rfl (fun ρ w _ _ hf => (hf 33).1 rfl) fun ρ w hρ hw hf => ?_
        have h37 : ρ (.tmp 37) = (.bool D) := (hf 37).1 rfl
        have h40 : ρ (.tmp 40) = (.bool D) := (hf 40).1 rfl
        exact Exec.same (v := .bool false) rfl (by simp [go_sem, hρ.const, h37, h40]) rfl
      · -- 17: slot 42 := Op.pick t33 (const (Value.bool true)) t41
        refine StepOK.plain (kn_stable _) rfl fun ρ w hρ hw hf => ?_
        have h33 : ρ (.tmp 33) = (.bool false) := (hf 33).1 rfl
        have h41 : ρ (.tmp 41) = (.bool false) := (hf 41).1 rfl
        exact Exec.kpickF rfl rfl h33 h41
    case fin =>
      intro ν w3 hfin hext
      have h0 : ν 42 = .bool false := hfin 17 42 rfl
      simp only [Exit.then, ended, List.foldl_cons, List.foldl_nil, List.setIfInBounds_toArray, List.set_cons_succ, List.set_cons_zero, h0]
      have HX3 := Lib.hid (HX2.out.trans hext)
      have G7' := Lib.hid (heap_of_ext hext G7.out); have G8' := Lib.hid (heap_of_ext hext G8.out); have G9' := Lib.hid (heap_of_ext hext G9.out)
      clear hext hfin h0
      go_wp2_with (first | (refine wpList_load_row rfl _ _ rfl g7 rfl _ _ _ _ G7'.out Try.underlying29 rfl infoRf ?_) | (refine wpList_load_row rfl _ _ rfl g8 rfl _ _ _ _ G8'.out Try.underlying29 rfl infoRf ?_))
      refine (HCW.out _).mono ?_
      rintro e w4 ⟨rfl, hx⟩
      have HX4 := Lib.hid (HX3.out.trans hx)
      have G7 := Lib.hid (heap_of_ext hx G7'.out); have G8 := Lib.hid (heap_of_ext hx G8'.out); have G9 := Lib.hid (heap_of_ext hx G9'.out)
      clear hx G7' G8' G9' HD0 HD1 HNEG HXE HYE
      by_cases h1 : 0 < x
      · clear HTR
        go_wp2_with (go_at_call 22; refine (awake8_any _).mono ?_)
        rintro e w5 ⟨rfl, hx⟩
        have HX5 := Lib.hid (HX4.out.trans hx)
        clear hx
        go_wp2
        go_ret
        exact ⟨by simp, HX5.out⟩
      · have h1' : x ≤ 0 := by omega
        have HT2 := Lib.hid (HTR.out (by omega))
        clear h1 HTR
        have kb0 : w4.cell? ⟨g8, 0, none⟩ = some (.int .u32 (b.1 : Nat)) := by rw [cell_of_row _ _ _ _ _ _ G8.out]; rfl
        have kb1 : w4.cell? ⟨g8, 1, none⟩ = some (.int .u32 (b.2 : Nat)) := by rw [cell_of_row _ _ _ _ _ _ G8.out]; rfl
        have kc0 : w4.cell? ⟨g9, 0, none⟩ = some (.int .u32 (c.1 : Nat)) := by rw [cell_of_row _ _ _ _ _ _ G9.out]; rfl
        have kc1 : w4.cell? ⟨g9, 1, none⟩ = some (.int .u32 (c.2 : Nat)) := by rw [cell_of_row _ _ _ _ _ _ G9.out]; rfl
        unfold refv at HCY HCZ
        go_wp2_with fail
        refine (HCY.out _).mono ?_
        rintro e w5 ⟨rfl, hx⟩
        have HX5 := Lib.hid (HX4.out.trans hx)
        have G7' := Lib.hid (heap_of_ext hx G7.out); have G9' := Lib.hid (heap_of_ext hx G9.out)
        clear hx G7 G8 G9 kb0 kb1 kc0 kc1
        generalize cmpR b c = y2 at *
        by_cases h2 : 0 < y2
        · clear HT2
          go_wp2_with (go_at_call 22; refine (awake8_any _).mono ?_)
          rintro e w6 ⟨rfl, hx⟩
          have HX6 := Lib.hid (HX5.out.trans hx)
          clear hx
          go_wp2
          go_ret
          exact ⟨by simp, HX6.out⟩
        · have h2' : y2 ≤ 0 := by omega
          have h3 := HT2.out (by omega)
          clear h2 HT2
          have ka0 : w5.cell? ⟨g7, 0, none⟩ = some (.int .u32 (a.1 : Nat)) := by rw [cell_of_row _ _ _ _ _ _ G7'.out]; rfl
          have ka1 : w5.cell? ⟨g7, 1, none⟩ = some (.int .u32 (a.2 : Nat)) := by rw [cell_of_row _ _ _ _ _ _ G7'.out]; rfl
          have kc0 : w5.cell? ⟨g9, 0, none⟩ = some (.int .u32 (c.1 : Nat)) := by rw [cell_of_row _ _ _ _ _ _ G9'.out]; rfl
          have kc1 : w5.cell? ⟨g9, 1, none⟩ = some (.int .u32 (c.2 : Nat)) := by rw [cell_of_row _ _ _ _ _ _ G9'.out]; rfl
          go_wp2_with fail
          refine (HCZ.out _).mono ?_
          rintro e w6 ⟨rfl, hx⟩
          have HX6 := Lib.hid (HX5.out.trans hx)
          clear hx
          generalize cmpR a c = z2 at *
          go_wp2_with (go_at_call 22; refine (awake8_any _).mono ?_)
          rintro e w7 ⟨rfl, hx⟩
          have HX7 := Lib.hid (HX6.out.trans hx)
          clear hx
          go_wp2
          go_ret
          exact ⟨by simp, HX7.out⟩
end Go.Proofs.Ytcejjckhhdgdnaa
