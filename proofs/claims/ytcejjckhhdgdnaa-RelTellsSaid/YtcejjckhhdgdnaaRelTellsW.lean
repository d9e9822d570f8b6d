/-
  RelTells: the walk. MADE BY mkRelTells.py
-/
import Derived.Test.YtcejjckhhdgdnaaRelX
import Derived.Test.YtcejjckhhdgdnaaLibH
import Derived.Test.YtcejjckhhdgdnaaRelW
import Derived.Test.YtcejjckhhdgdnaaGRelC
import Derived.Test.YtcejjckhhdgdnaaGRelB
import Derived.Deep.Cut
import Derived.Sort.QuietIn
namespace Go.Proofs.Ytcejjckhhdgdnaa
open Go.RowKit Go.Lac Go.Shelf
attribute [local go_sem] Oper.semAt_some

abbrev RlTy (t : TypeId) : Prop := t = 32
theorem rlTy_col : ¬ RlTy 49 := by decide
def bxt0 : Bx := ⟨5, 4, 6, 24, 32, 5⟩
def bxt1 : Bx := ⟨6, 5, 7, 26, 32, 5⟩
def bxsT : List Bx := [bxt0, bxt1]
def telT (ra rb : Rl) (ca cb : Value) : Tmp → KnT RlTy
  | 23 => .is (.agg (relv ra ca))
  | 24 => KnT.relO rlTy_col ra
  | 25 => .is (.agg (relv rb cb))
  | 26 => KnT.relO rlTy_col rb
  | _ => .any
theorem ord_any (a1 a2 b1 b2 : Nat) : (decide (b1 < a1 ∨ b1 = a1 ∧ b2 < a2) = true → (1 : Int) = orN (cmpN a1 b1) (cmpN a2 b2)) ∧ (decide (b1 < a1 ∨ b1 = a1 ∧ b2 < a2) = false → (if decide (a1 < b1 ∨ a1 = b1 ∧ a2 < b2) = true then (-1 : Int) else 0) = orN (cmpN a1 b1) (cmpN a2 b2)) := by
  rcases Nat.lt_trichotomy a1 b1 with h | h | h
  · have n1 : ¬ b1 < a1 := by omega
    have n2 : ¬ b1 = a1 := by omega
    simp [orN, cmpN, h, n1, n2]
  · subst h
    rcases Nat.lt_trichotomy a2 b2 with k | k | k
    · have n1 : ¬ b2 < a2 := by omega
      simp [orN, cmpN, k, n1]
    · subst k
      simp [orN, cmpN]
    · have n1 : ¬ a2 < b2 := by omega
      simp [orN, cmpN, k, n1]
  · have n1 : ¬ a1 < b1 := by omega
    simp [orN, cmpN, h, n1]
theorem fieldTc_0 (w : World) (b : Nat) : (Instr.fieldAt 49 (.pointer (some ⟨b, 0, none⟩)) 0).run Try.prog w = .ok (.pointer (some ⟨b, 0, none⟩)) w := by kernel_rfl
theorem fieldTc_1 (w : World) (b : Nat) : (Instr.fieldAt 49 (.pointer (some ⟨b, 0, none⟩)) 1).run Try.prog w = .ok (.pointer (some ⟨b, 1, none⟩)) w := by kernel_rfl
theorem fieldTc_2 (w : World) (b : Nat) : (Instr.fieldAt 49 (.pointer (some ⟨b, 0, none⟩)) 2).run Try.prog w = .ok (.pointer (some ⟨b, 2, none⟩)) w := by kernel_rfl
def tel17a (i : Nat) (L : Int) : Tmp → Kn
  | 85 => .is (.int .i64 (i : Nat))
  | 86 => .is (.int .i64 L)
  | 87 => .is (.bool true)
  | 88 => .is (.bool true)
  | 89 => .is undef
  | 90 => .is undef
  | 91 => .is undef
  | 92 => .is undef
  | 93 => .is undef
  | 94 => .is (.bool true)
  | 95 => .is (.bool true)
  | 96 => .is undef
  | 97 => .is undef
  | 98 => .is undef
  | 99 => .is (.bool true)
  | 100 => .is (.bool true)
  | 101 => .is undef
  | 102 => .is undef
  | 103 => .is undef
  | 104 => .is undef
  | 105 => .is undef
  | 106 => .is undef
  | 107 => .is undef
  | 108 => .is undef
  | 109 => .is undef
  | 110 => .is (.bool true)
  | 111 => .is (.bool true)
  | 112 => .is undef
  | 113 => .is undef
  | 114 => .is undef
  | 115 => .is undef
  | 116 => .is undef
  | 117 => .is undef
  | 118 => .is undef
  | 119 => .is undef
  | 120 => .is undef
  | 121 => .is (.bool true)
  | _ => .any
def tel17c (i : Nat) (L : Int) (gA g14 b o ac m : Nat) (c : Col) : Tmp → Kn
  | 85 => .is (.int .i64 (i : Nat))
  | 86 => .is (.int .i64 L)
  | 87 => .is (.bool false)
  | 88 => .is (.bool false)
  | 89 => .is (.int .i64 (i : Nat))
  | 90 => .is (.pointer (some ⟨gA, 4, none⟩))
  | 91 => .is (.slice (some ⟨b, o, none⟩) m ac)
  | 92 => .is (.int .i64 (m : Nat))
  | 93 => .is (.bool false)
  | 94 => .is (.bool false)
  | 95 => .is (.bool false)
  | 96 => .is (.pointer (some ⟨g14, 2, none⟩))
  | 97 => .is (.bool true)
  | 98 => .is (.bool false)
  | 99 => .is (.bool false)
  | 100 => .is (.bool false)
  | 101 => .is (.pointer (some ⟨g14, 0, none⟩))
  | 102 => .is (strV c.name)
  | 103 => .is (.pointer (some ⟨gA, 4, none⟩))
  | 104 => .is (.slice (some ⟨b, o, none⟩) m ac)
  | 105 => .is (.int .i64 (i : Nat))
  | 106 => .is (.pointer (some ⟨b, o + i * 3, none⟩))
  | 107 => .is (.pointer (some ⟨b, o + i * 3, none⟩))
  | 108 => .is (strV c.name)
  | 109 => .is (.bool false)
  | 110 => .is (.bool false)
  | 111 => .is (.bool false)
  | 112 => .is (.pointer (some ⟨g14, 1, none⟩))
  | 113 => .is (.int .u8 (c.ty : Nat))
  | 114 => .is (.pointer (some ⟨gA, 4, none⟩))
  | 115 => .is (.slice (some ⟨b, o, none⟩) m ac)
  | 116 => .is (.int .i64 (i : Nat))
  | 117 => .is (.pointer (some ⟨b, o + i * 3, none⟩))
  | 118 => .is (.pointer (some ⟨b, o + i * 3 + 1, none⟩))
  | 119 => .is (.int .u8 (c.ty : Nat))
  | 120 => .is (.bool false)
  | 121 => .is (.bool false)
  | _ => .any
theorem with_frame {F : Fence} {n : Nat} {P : Program} {c : Code} {Q : Exit → Act → World → Prop} {L : List Value} {w : World} (h : ∀ L' : List Value, L' = L → Code.wpIn F n P c Q ⟨L'.toArray, []⟩ w) : Code.wpIn F n P c Q ⟨L.toArray, []⟩ w := h L rfl
theorem infoRf2 : (Try.prog.info? 29).map (·.size) = some 2 := by kernel_rfl
def tel11T (ra rb : Rl) (cx cy ca cb : Value) (bx : List UInt8) (E : Nat) (O : Int) (D : Bool) (g5 g6 : Nat) : Tmp → Kn
  | 47 => .rd bx
  | 48 => .is (strV bx)
  | 49 => .rd bx
  | 50 => .is (strV bx)
  | 51 => .is (.bool false)
  | 52 => .is (.bool false)
  | 53 => .is (.int .i64 (E : Nat))
  | 54 => .is (.int .i64 (E : Nat))
  | 55 => .is (.bool false)
  | 56 => .is (.bool false)
  | 57 => .is (.bool false)
  | 58 => .is (.agg (relv ra cx))
  | 59 => .is (.int .i64 (E : Nat))
  | 60 => .is (.int .i64 (E : Nat))
  | 61 => .is (.bool false)
  | 62 => .is (.bool false)
  | 63 => .is (.bool false)
  | 64 => .is (.agg (relv ra cx))
  | 65 => .is (.agg (relv rb cy))
  | 66 => .is (.bool D)
  | 67 => .is (.agg (relv ra ca))
  | 68 => .is (.agg (relv rb cb))
  | 69 => .is (.bool D)
  | 70 => .is (.bool false)
  | 71 => .is (.bool false)
  | 72 => .is (.bool false)
  | 73 => .is (.pointer (some ⟨g5, 0, none⟩))
  | 74 => .is (.agg #[.int .u32 (ra.oid : Nat), .int .u32 (ra.ver : Nat)])
  | 75 => .is (.pointer (some ⟨g6, 0, none⟩))
  | 76 => .is (.agg #[.int .u32 (rb.oid : Nat), .int .u32 (rb.ver : Nat)])
  | 77 => .is (.int .i64 O)
  | 78 => .is (.int .i64 O)
  | 79 => .is (.bool false)
  | 80 => .is (.bool false)
  | _ => .any
set_option maxRecDepth 100000 in
set_option maxHeartbeats 4000000 in
theorem relTells_walk (ra rb : Rl) (ca cb : Value) (w : World) (hca : ColS w ca ra.cols) (hcb : ColS w cb rb.cols) (hoa : ra.ok) (hfa : ra.fits) (hfb : rb.fits) :
    Calls Try.prog 3 #[.agg (relv ra ca), .agg (relv rb cb)] w fun e w' => e = .returned (.bool true) ∧ Ext w w' := by
  refine (callsIn_wide (n := 4)).1 ?_
  obtain ⟨h1, h2, h3⟩ := heap_alloc3 w (.cells (relv ra ca) 27) (.cells (relv rb cb) 27) (.cells #[.bool false] 4)
  obtain ⟨W, hW⟩ : ∃ W, W = ((w.alloc (.cells (relv ra ca) 27)).alloc (.cells (relv rb cb) 27)).alloc (.cells #[.bool false] 4) := ⟨_, rfl⟩
  have hx : Ext w W := by rw [hW]; exact (((Ch.refl _ _).alloc _).alloc _).alloc _
  rw [← hW] at h1 h2 h3
  have HG1 := Lib.hid h1; have HG2 := Lib.hid h2; have HG3 := Lib.hid h3; have HX := Lib.hid hx; have HW := Lib.hid hW
  have HCA := Lib.hid (ColS.ext hca hx); have HCB := Lib.hid (ColS.ext hcb hx); have HOA := Lib.hid hoa; have HFA := Lib.hid hfa; have HFB := Lib.hid hfb
  obtain ⟨ao, ac, rfl, _⟩ := id hca
  obtain ⟨bo, bc, rfl, _⟩ := id hcb
  have HGA := Lib.hid (great_any ra _ W HCA.out hfa)
  have HGB := Lib.hid (fun w2 (h : Ext W w2) => great_any rb _ w2 (ColS.ext HCB.out h) HFB.out)
  clear hca hcb hoa hfa hfb
  obtain ⟨a0, a1, a2, a3, a4⟩ := row_cells h1
  obtain ⟨b0, b1, b2, b3, b4⟩ := row_cells h2
  have r0 : W.cell? ⟨w.heap.size + 1 + 1, 0, none⟩ = some (.bool false) := by rw [cell_of_row _ _ _ _ _ _ h3]; rfl
  have f0 := frozen_of_row _ _ 0 _ _ h3
  rw [hW] at a0 a1 a2 a3 a4 b0 b1 b2 b3 b4 r0 f0
  clear h1 h2 h3 hx hW
  unfold relv strV at *
  refine callsIn_of_wp_marks Try.func3 rfl trivial ?_ rfl
  refine wpIn_wide.2 ?_
  simp only [Try.ntmps3, List.size_toArray, List.length_cons, List.length_nil, Nat.reduceAdd, Nat.reduceSub, Array.replicate_succ, Array.replicate_zero, List.push_toArray, List.append_toArray, List.nil_append, List.cons_append]
  by_cases hga : Great ra
  · rw [decide_eq_true hga] at HGA
    clear hga
    go_wp2_with fail
    rw [← HW.out]
    refine HGA.out.mono ?_
    rintro e w2 ⟨rfl, hx2⟩
    have HX2 := Lib.hid (HX.out.trans hx2); have HR2 := Lib.hid (heap_ext hx2 HG3.out)
    have r0 : w2.cell? ⟨w.heap.size + 1 + 1, 0, none⟩ = some (.bool false) := by rw [cell_of_row _ _ _ _ _ _ HR2.out]; rfl
    have f0 := frozen_of_row _ _ 0 _ _ HR2.out
    clear hx2 a0 a1 a2 a3 a4 b0 b1 b2 b3 b4
    go_wp2
    have hc5 : (w2.setCell ⟨w.heap.size + 1 + 1, 0, none⟩ (.bool true)).cell? ⟨w.heap.size + 1 + 1, 0, none⟩ = some (.bool true) := World.cell?_setCell_same' _ _ _ (by rw [r0]; rfl)
    refine ⟨.bool true, ?_, rfl, HX2.out.setCell (p := ⟨w.heap.size + 1 + 1, 0, none⟩) (.inr (by simp; omega)) _⟩
    simp [results, Try.f3, go_sem, hc5]
  rw [decide_eq_false hga] at HGA
  by_cases hgb : Great rb
  · rw [decide_eq_true hgb] at HGB
    clear hga hgb
    go_wp2_with fail
    rw [← HW.out]
    refine HGA.out.mono ?_
    rintro e w2 ⟨rfl, hx2⟩
    have HX2 := Lib.hid hx2
    obtain ⟨b0, b1, b2, b3, b4⟩ := row_cells (heap_ext hx2 HG2.out)
    clear hx2 a0 a1 a2 a3 a4 r0 f0
    go_wp2_with fail
    refine (HGB.out _ HX2.out).mono ?_
    rintro e w3 ⟨rfl, hx3⟩
    have HX3 := Lib.hid (HX.out.trans (HX2.out.trans hx3)); have HR3 := Lib.hid (heap_ext (HX2.out.trans hx3) HG3.out)
    have r0 : w3.cell? ⟨w.heap.size + 1 + 1, 0, none⟩ = some (.bool false) := by rw [cell_of_row _ _ _ _ _ _ HR3.out]; rfl
    have f0 := frozen_of_row _ _ 0 _ _ HR3.out
    clear hx3 b0 b1 b2 b3 b4
    go_wp2
    have hc5 : (w3.setCell ⟨w.heap.size + 1 + 1, 0, none⟩ (.bool true)).cell? ⟨w.heap.size + 1 + 1, 0, none⟩ = some (.bool true) := World.cell?_setCell_same' _ _ _ (by rw [r0]; rfl)
    refine ⟨.bool true, ?_, rfl, HX3.out.setCell (p := ⟨w.heap.size + 1 + 1, 0, none⟩) (.inr (by simp; omega)) _⟩
    simp [results, Try.f3, go_sem, hc5]
  rw [decide_eq_false hgb] at HGB
  have HL : Hid (ra.cols.length ≤ 30 ∧ rb.cols.length ≤ 30) := Lib.hid ⟨by have : ¬ 30 < ra.cols.length := fun h => hga (.inr (.inl h)); omega, by have : ¬ 30 < rb.cols.length := fun h => hgb (.inr (.inl h)); omega⟩
  clear hga hgb
  go_wp2_with fail
  rw [← HW.out]
  refine HGA.out.mono ?_
  rintro e w2 ⟨rfl, hx2⟩
  have HX2 := Lib.hid hx2
  obtain ⟨b0, b1, b2, b3, b4⟩ := row_cells (heap_ext hx2 HG2.out)
  clear hx2 a0 a1 a2 a3 a4 r0 f0
  go_wp2_with fail
  refine (HGB.out _ HX2.out).mono ?_
  rintro e w3 ⟨rfl, hx3⟩
  have HX3 := Lib.hid (HX2.out.trans hx3)
  clear hx3 b0 b1 b2 b3 b4 HGA HGB
  go_wp2
  refine wp_region_boxes (telT ra rb (.slice ao ra.cols.length ac) (.slice bo rb.cols.length bc)) bxsT mixedV (by rfl) (by rfl) ?all ?fin
  case all =>
    have HG1 := Lib.hid (heap_ext HX3.out HG1.out); have HG2 := Lib.hid (heap_ext HX3.out HG2.out); have HCA := Lib.hid (ColS.ext HCA.out HX3.out); have HCB := Lib.hid (ColS.ext HCB.out HX3.out)
    refine ⟨?_, ?_, ?_, ?_, ?_, ?_, ?_, ?_, trivial⟩
    · refine StepA.bplain (by rfl) (by rfl) rfl fun ρ w2 L hρ hw hf => ?_
      have h : ρ (.tmp 2) = .pointer (some ⟨w.heap.size, 0, none⟩) := (hf 2).2 rfl rfl
      exact Exec.kloadrow rfl rfl h (heap_of_ext hw HG1.out) Try.underlying27 rfl infoBk rfl
    · refine StepA.bplain (by rfl) (by rfl) rfl fun ρ w2 L hρ hw hf => ?_
      have h : ρ (.tmp 23) = .agg (relv ra (.slice ao ra.cols.length ac)) := (hf 23).1 rfl
      refine Exec.kcall #[.agg (relv ra (.slice ao ra.cols.length ac))] hρ rfl rfl (by simp [h]) Try.func13 (by rfl) (by rfl) ((relOwn_any ra (.slice ao ra.cols.length ac) w2 (ColS.ext HCA.out hw) (by have := HL.out; omega)).mono ?_)
      rintro e w' ⟨cc, rfl, h1, h2⟩
      exact ⟨_, rfl, ⟨cc, rfl, ownsRow_down h2 (Nat.zero_le _)⟩, h1⟩
    · refine StepA.bplain (by rfl) (by rfl) rfl fun ρ w2 L hρ hw hf => ?_
      have h : ρ (.tmp 3) = .pointer (some ⟨(w.heap.size + 1), 0, none⟩) := (hf 3).2 rfl rfl
      exact Exec.kloadrow rfl rfl h (heap_of_ext hw HG2.out) Try.underlying27 rfl infoBk rfl
    · refine StepA.bplain (by rfl) (by rfl) rfl fun ρ w2 L hρ hw hf => ?_
      have h : ρ (.tmp 25) = .agg (relv rb (.slice bo rb.cols.length bc)) := (hf 25).1 rfl
      refine Exec.kcall #[.agg (relv rb (.slice bo rb.cols.length bc))] hρ rfl rfl (by simp [h]) Try.func13 (by rfl) (by rfl) ((relOwn_any rb (.slice bo rb.cols.length bc) w2 (ColS.ext HCB.out hw) (by have := HL.out; omega)).mono ?_)
      rintro e w' ⟨cc, rfl, h1, h2⟩
      exact ⟨_, rfl, ⟨cc, rfl, ownsRow_down h2 (Nat.zero_le _)⟩, h1⟩
    · exact StepA.balloc (b := bxt0) (by rfl) (by simp [bxsT]) (show 5 < 152 by decide) rfl (by rfl) rfl rfl (relv .zero (.slice none 0 0)) rfl (fun x w => by unfold execOp; simp [go_sem, bxt0, relv, Rl.zero, strV])
    · exact StepA.balloc (b := bxt1) (by rfl) (by simp [bxsT]) (show 6 < 152 by decide) rfl (by rfl) rfl rfl (relv .zero (.slice none 0 0)) rfl (fun x w => by unfold execOp; simp [go_sem, bxt1, relv, Rl.zero, strV])
    · exact StepA.bstore (by rfl) (by rfl) (b := bxt0) (by simp [bxsT]) rfl (by rfl) (by decide) rfl rfl rfl (by rfl) (by rfl) (by rfl) rfl infoOw (fun v w h => by obtain ⟨c, rfl, ho⟩ := h; obtain ⟨ao, cap, rfl⟩ := owns_shape ho; exact ⟨_, rfl, rfl, relv_one _ _ _ _⟩)
    · exact StepA.bstore (by rfl) (by rfl) (b := bxt1) (by simp [bxsT]) rfl (by rfl) (by decide) rfl rfl rfl (by rfl) (by rfl) (by rfl) rfl infoOw (fun v w h => by obtain ⟨c, rfl, ho⟩ := h; obtain ⟨ao, cap, rfl⟩ := owns_shape ho; exact ⟨_, rfl, rfl, relv_one _ _ _ _⟩)
  case fin =>
    intro ν w4 hV hx4
    obtain ⟨g5, c5, e5, s5, k5, _, q5⟩ := hV 4 5 rfl
    obtain ⟨g6, c6, e6, s6, k6, _, q6⟩ := hV 5 6 rfl
    obtain ⟨cx, ec5, hcx⟩ : ∃ c, Value.agg c5 = .agg (relv ra c) ∧ w4.ownsRow 0 49 3 c ra.cols.length (colC ra.cols) := q5 (by rfl)
    obtain ⟨cy, ec6, hcy⟩ : ∃ c, Value.agg c6 = .agg (relv rb c) ∧ w4.ownsRow 0 49 3 c rb.cols.length (colC rb.cols) := q6 (by rfl)
    cases ec5; cases ec6
    simp only [Exit.then, ended, List.foldl_cons, List.foldl_nil, List.setIfInBounds_toArray, List.set_cons_succ, List.set_cons_zero, e5, e6]
    have HX4 := Lib.hid (HX3.out.trans hx4)
    have HG5 : Hid (w4.heap[g5]? = some (.cells (relv ra cx) 32 (0, 0))) := Lib.hid k5
    have HG6 : Hid (w4.heap[g6]? = some (.cells (relv rb cy) 32 (0, 0))) := Lib.hid k6
    have HCX := Lib.hid (Sl.ofOwns hcx); have HCY := Lib.hid (Sl.ofOwns hcy)
    obtain ⟨xo, xc, rfl⟩ := owns_shape hcx
    obtain ⟨yo, yc, rfl⟩ := owns_shape hcy
    have HS5 : Hid (w.heap.size ≤ g5 ∧ w.heap.size ≤ g6) := Lib.hid ⟨by have := HX.out.size; have := HX3.out.size; omega, by have := HX.out.size; have := HX3.out.size; omega⟩
    clear hV hx4 e5 e6 k5 k6 q5 q6 s5 s6 hcx hcy
    generalize ν 23 = v23 at *
    generalize ν 24 = v24 at *
    generalize ν 25 = v25 at *
    generalize ν 26 = v26 at *
    have HEN := Lib.hid (relEnc_any ra (.slice xo ra.cols.length xc) w4 HCX.out HFA.out HOA.out)
    have HEQ := Lib.hid (fun w2 (h : Ext W w2) => rEnc_any ra _ w2 (ColS.ext HCA.out h) HFA.out HOA.out)
    obtain ⟨x0, x1, x2, x3, x4⟩ := row_cells HG5.out
    unfold relv strV at *
    go_wp2_with fail
    refine HEN.out.mono ?_
    rintro e w5 ⟨sc, rfl, hx5, hr5⟩
    have HX5 := Lib.hid (HX4.out.trans hx5); have HXX5 := Lib.hid hx5
    obtain ⟨a0, a1, a2, a3, a4⟩ := row_cells (heap_ext HX5.out HG1.out)
    clear hx5 x0 x1 x2 x3 x4
    go_wp2_with fail
    refine (HEQ.out _ HX5.out).mono ?_
    rintro e w6 ⟨sw, rfl, hx6, hr6⟩
    have HX6 := Lib.hid (HX5.out.trans hx6); have HXX6 := Lib.hid (HXX5.out.trans hx6)
    have HR5 := Lib.hid (hr5.ext hx6); have HR6 := Lib.hid hr6
    clear hx6 hr5 hr6 a0 a1 a2 a3 a4
    obtain ⟨bx, hbx⟩ : ∃ b, b = if rlErr ra = 0 then rlBytes ra else [] := ⟨_, rfl⟩
    rw [← hbx] at HR5 HR6
    clear hbx
    have HRT := Lib.hid (fun w2 (h : Ext w4 w2) => relRight_any ra (.slice xo ra.cols.length xc) w2 (ColS.ext HCX.out h) HFA.out)
    generalize rlErr ra = E at *
    obtain ⟨so, sc1, rfl⟩ := HR5.out.shape
    obtain ⟨to, tc1, rfl⟩ := HR6.out.shape
    obtain ⟨a0, a1, a2, a3, a4⟩ := row_cells (heap_ext HX6.out HG1.out)
    obtain ⟨b0, b1, b2, b3, b4⟩ := row_cells (heap_ext HX6.out HG2.out)
    clear a2 a3 a4 b2 b3 b4 HEN HEQ
    generalize bx.length = bl at *
    go_wp2_with fail
    refine (ahead_any _ _ _ _ _).mono ?_
    rintro e w7 ⟨rfl, hx7⟩
    have HX7 := Lib.hid (HX6.out.trans hx7); have HXX7 := Lib.hid (HXX6.out.trans hx7); have HS7 := Lib.hid hx7
    clear hx7 a0 a1 b0 b1
    obtain ⟨D1, hD1⟩ : ∃ d, d = decide (ra.oid < rb.oid ∨ ra.oid = rb.oid ∧ ra.ver < rb.ver) := ⟨_, rfl⟩
    rw [← hD1]
    have HD1 := Lib.hid hD1; clear hD1
    go_upto_if 41 with fail
    go_cut [11] from 152 (fun s11 wc => s11 = .int .i64 (if D1 = true then -1 else 0) ∧ wc = w7)
    case first =>
      cases D1 with
      | true => go_wp2; go_meet; exact ⟨rfl, rfl⟩
      | false => go_wp2; go_meet; exact ⟨rfl, rfl⟩
    obtain ⟨rfl, rfl⟩ := hcut
    obtain ⟨a0, a1, a2, a3, a4⟩ := row_cells (heap_ext HX7.out HG1.out)
    obtain ⟨b0, b1, b2, b3, b4⟩ := row_cells (heap_ext HX7.out HG2.out)
    clear a2 a3 a4 b2 b3 b4
    obtain ⟨O, hO⟩ : ∃ o, o = orN (cmpN ra.oid rb.oid) (cmpN ra.ver rb.ver) := ⟨_, rfl⟩
    have HO := Lib.hid hO
    have HOR := Lib.hid (ord_any ra.oid ra.ver rb.oid rb.ver)
    rw [← HD1.out, ← hO] at HOR
    generalize (if D1 = true then (-1 : Int) else 0) = O1 at *
    clear hO HD1
    go_wp2_with fail
    refine (ahead_any _ _ _ _ _).mono ?_
    rintro e w8 ⟨rfl, hx8⟩
    have HX8 := Lib.hid (HX7.out.trans hx8); have HXX8 := Lib.hid (HXX7.out.trans hx8); have HS8 := Lib.hid (HS7.out.trans hx8)
    generalize decide (rb.oid < ra.oid ∨ rb.oid = ra.oid ∧ rb.ver < ra.ver) = D2 at *
    clear hx8 a0 a1 b0 b1
    go_upto_if 46 with fail
    go_cut [11] from 152 (fun s11 wc => s11 = .int .i64 O ∧ wc = w8)
    case first =>
      cases D2 with
      | true => go_wp2; go_meet; exact ⟨by rw [← HOR.out.1 (by trivial)], rfl⟩
      | false => go_wp2; go_meet; exact ⟨by rw [← HOR.out.2 (by trivial)], rfl⟩
    obtain ⟨rfl, rfl⟩ := hcut
    have HRT := Lib.hid (fun w2 (h : Ext wc w2) => HRT.out w2 (HXX8.out.trans h))
    have HSM := Lib.hid (fun w2 (h : Ext wc w2) => relSame_any ra rb (.slice xo ra.cols.length xc) (.slice yo rb.cols.length yc) w2 (ColS.ext HCX.out (HXX8.out.trans h)) (ColS.ext HCY.out (HXX8.out.trans h)))
    have HSN := Lib.hid (fun w2 (h : Ext wc w2) => refSame_any ra rb (.slice ao ra.cols.length ac) (.slice bo rb.cols.length bc) w2 (ColS.ext HCA.out (HX8.out.trans h)) (ColS.ext HCB.out (HX8.out.trans h)))
    have HCP := Lib.hid (fun (w2 : World) => refCompare_any ra.oid ra.ver rb.oid rb.ver w2)
    rw [← HO.out] at HCP
    have HGB5 : Hid (wc.heap[g5]? = some (.cells (relv ra (.slice xo ra.cols.length xc)) 32 (0, 0))) := Lib.hid (heap_ext HXX8.out HG5.out)
    have HGB6 : Hid (wc.heap[g6]? = some (.cells (relv rb (.slice yo rb.cols.length yc)) 32 (0, 0))) := Lib.hid (heap_ext HXX8.out HG6.out)
    have HGB1 : Hid (wc.heap[w.heap.size]? = some (.cells (relv ra (.slice ao ra.cols.length ac)) 27 (0, 0))) := Lib.hid (heap_ext HX8.out HG1.out)
    have HGB2 : Hid (wc.heap[w.heap.size + 1]? = some (.cells (relv rb (.slice bo rb.cols.length bc)) 27 (0, 0))) := Lib.hid (heap_ext HX8.out HG2.out)
    have HRS := Lib.hid (HR5.out.ext HS8.out)
    have HRW := Lib.hid (HR6.out.ext HS8.out)
    have HS4 : Hid (w.heap.size ≤ w.heap.size + 1 + 1) := Lib.hid (by omega)
    generalize w.heap.size + 1 + 1 = g4 at *
    generalize hg3 : w.heap.size + 1 = g3 at *
    obtain ⟨g2, hg2⟩ : ∃ g, g = w.heap.size := ⟨_, rfl⟩
    rw [← hg2] at HGB1 ⊢
    go_upto_region 11 with fail
    go_cut [80] from 152 (fun s80 wx => s80 = .bool false ∧ Ext wc wx)
    case first =>
      refine wp_region_ext (tel11T ra rb (.slice xo ra.cols.length xc) (.slice yo rb.cols.length yc) (.slice ao ra.cols.length ac) (.slice bo rb.cols.length bc) bx E O (decide (ra = rb)) g5 g6) mixedV (by rfl) (by rfl) ?all ?fin
      case all =>
        refine ⟨?_, ?_, ?_, ?_, ?_, ?_, ?_, ?_, ?_, ?_, ?_, ?_, ?_, ?_, ?_, ?_, ?_, ?_, ?_, ?_, ?_, ?_, ?_, ?_, ?_, ?_, ?_, ?_, ?_, ?_, ?_, ?_, ?_, ?_, trivial⟩
        · -- 0: slot 47 := Op.move t7
          refine StepOK.plain (kn_stable _) rfl fun ρ w hρ hw hf => ?_
          have h7 : ρ (.tmp 7) = (.slice so bl sc1) := (hf 7).2 rfl rfl
          exact Exec.kmove rfl rfl (by rw [h7]; exact HRS.out.ext hw)
        · -- 1: slot 48 := Op.convert 34 9 t47
          refine StepOK.plain (kn_stable _) rfl fun ρ w hρ hw hf => ?_
          have h47 : Rd w (ρ (.tmp 47)) (bx) := (hf 47).1 rfl
          exact Exec.kstr rfl rfl Try.underlying34 Try.underlying5 Try.underlying9 h47 rfl
        · -- 2: slot 49 := Op.move t9
          refine StepOK.plain (kn_stable _) rfl fun ρ w hρ hw hf => ?_
          have h9 : ρ (.tmp 9) = (.slice to bl tc1) := (hf 9).2 rfl rfl
          exact Exec.kmove rfl rfl (by rw [h9]; exact HRW.out.ext hw)
        · -- 3: slot 50 := Op.convert 34 9 t49
          refine StepOK.plain (kn_stable _) rfl fun ρ w hρ hw hf => ?_
          have h49 : Rd w (ρ (.tmp 49)) (bx) := (hf 49).1 rfl
          exact Exec.kstr rfl rfl Try.underlying34 Try.underlying5 Try.underlying9 h49 rfl
        · -- 4: slot 51 := Op.binOp BinOp.neq 9 t48 t50 9
          refine StepOK.plain (kn_stable _) rfl fun ρ w hρ hw hf => ?_
          have h48 : ρ (.tmp 48) = (strV bx) := (hf 48).1 rfl
          have h50 : ρ (.tmp 50) = (strV bx) := (hf 50).1 rfl
          exact Exec.kstrne rfl rfl Try.underlying9 h48 h50 (by simp; rfl)
        · -- 5: slot 52 := Op.move t51
          refine StepOK.plain (kn_stable _) rfl fun ρ w hρ hw hf => ?_
          have h51 : ρ (.tmp 51) = (.bool false) := (hf 51).1 rfl
          exact Exec.kmove rfl rfl h51
        · -- 6: slot 53 := Op.move t8
          refine StepOK.guarded (kn_stable _) 5 false 52 rfl rfl (fun ρ w _ _ hf => (hf 52).1 rfl) fun ρ w hρ hw hf => ?_
          have h8 : ρ (.tmp 8) = (.int .i64 (E : Nat)) := (hf 8).2 rfl rfl
          exact Exec.kmove rfl rfl h8
        · -- 7: slot 54 := Op.move t10
          refine StepOK.guarded (kn_stable _) 5 false 52 rfl rfl (fun ρ w _ _ hf => (hf 52).1 rfl) fun ρ w hρ hw hf => ?_
          have h10 : ρ (.tmp 10) = (.int .i64 (E : Nat)) := (hf 10).2 rfl rfl
          exact Exec.kmove rfl rfl h10
        · -- 8: slot 55 := Op.binOp BinOp.neq 3 t53 t54 3
          refine StepOK.guarded (kn_stable _) 5 false 52 rfl rfl (fun ρ w _ _ hf => (hf 52).1 rfl) fun ρ w hρ hw hf => ?_
          have h53 : ρ (.tmp 53) = (.int .i64 (E : Nat)) := (hf 53).1 rfl
          have h54 : ρ (.tmp 54) = (.int .i64 (E : Nat)) := (hf 54).1 rfl
          exact Exec.same (v := .bool false) rfl (by simp [go_sem, hρ.const, h53, h54]) rfl
        · -- 9: slot 56 := Op.pick t52 (const (Value.bool true)) t55
          refine StepOK.plain (kn_stable _) rfl fun ρ w hρ hw hf => ?_
          have h52 : ρ (.tmp 52) = (.bool false) := (hf 52).1 rfl
          have h55 : ρ (.tmp 55) = (.bool false) := (hf 55).1 rfl
          exact Exec.kpickF rfl rfl h52 h55
        · -- 10: slot 57 := Op.move t56
          refine StepOK.plain (kn_stable _) rfl fun ρ w hρ hw hf => ?_
          have h56 : ρ (.tmp 56) = (.bool false) := (hf 56).1 rfl
          exact Exec.kmove rfl rfl h56
        · -- 11: slot 58 := Op.load 32 t5
          refine StepOK.guarded (kn_stable _) 10 false 57 rfl rfl (fun ρ w _ _ hf => (hf 57).1 rfl) fun ρ w hρ hw hf => ?_
          have h5 : ρ (.tmp 5) = (.pointer (some ⟨g5, 0, none⟩)) := (hf 5).2 rfl rfl
          exact Exec.kloadrow rfl rfl h5 (heap_ext hw HGB5.out) Try.underlying32 rfl infoOw rfl
        · -- 12: slot 59 := Op.call { value (Operand.func 17), args := #[t58], argTypes := #[32] }
          refine StepOK.guarded (kn_stable _) 10 false 57 rfl rfl (fun ρ w _ _ hf => (hf 57).1 rfl) fun ρ w hρ hw hf => ?_
          have h58 : ρ (.tmp 58) = (.agg (relv ra (.slice xo ra.cols.length xc))) := (hf 58).1 rfl
          refine Exec.kcall #[.agg (relv ra (.slice xo ra.cols.length xc))] hρ rfl rfl (by simp [h58]) Try.func17 (by rfl) (by rfl) ((HRT.out w hw).mono ?_)
          rintro e w' ⟨rfl, hx⟩
          exact ⟨_, rfl, rfl, hx⟩
        · -- 13: slot 60 := Op.move t8
          refine StepOK.guarded (kn_stable _) 10 false 57 rfl rfl (fun ρ w _ _ hf => (hf 57).1 rfl) fun ρ w hρ hw hf => ?_
          have h8 : ρ (.tmp 8) = (.int .i64 (E : Nat)) := (hf 8).2 rfl rfl
          exact Exec.kmove rfl rfl h8
        · -- 14: slot 61 := Op.binOp BinOp.neq 35 t59 t60 35
          refine StepOK.guarded (kn_stable _) 10 false 57 rfl rfl (fun ρ w _ _ hf => (hf 57).1 rfl) fun ρ w hρ hw hf => ?_
          have h59 : ρ (.tmp 59) = (.int .i64 (E : Nat)) := (hf 59).1 rfl
          have h60 : ρ (.tmp 60) = (.int .i64 (E : Nat)) := (hf 60).1 rfl
          exact Exec.same (v := .bool false) rfl (by simp [go_sem, hρ.const, h59, h60]) rfl
        · -- 15: slot 62 := Op.pick t57 (const (Value.bool true)) t61
          refine StepOK.plain (kn_stable _) rfl fun ρ w hρ hw hf => ?_
          have h57 : ρ (.tmp 57) = (.bool false) := (hf 57).1 rfl
          have h61 : ρ (.tmp 61) = (.bool false) := (hf 61).1 rfl
          exact Exec.kpickF rfl rfl h57 h61
        · -- 16: slot 63 := Op.move t62
          refine StepOK.plain (kn_stable _) rfl fun ρ w hρ hw hf => ?_
          have h62 : ρ (.tmp 62) = (.bool false) := (hf 62).1 rfl
          exact Exec.kmove rfl rfl h62
        · -- 17: slot 64 := Op.load 32 t5
          refine StepOK.guarded (kn_stable _) 16 false 63 rfl rfl (fun ρ w _ _ hf => (hf 63).1 rfl) fun ρ w hρ hw hf => ?_
          have h5 : ρ (.tmp 5) = (.pointer (some ⟨g5, 0, none⟩)) := (hf 5).2 rfl rfl
          exact Exec.kloadrow rfl rfl h5 (heap_ext hw HGB5.out) Try.underlying32 rfl infoOw rfl
        · -- 18: slot 65 := Op.load 32 t6
          refine StepOK.guarded (kn_stable _) 16 false 63 rfl rfl (fun ρ w _ _ hf => (hf 63).1 rfl) fun ρ w hρ hw hf => ?_
          have h6 : ρ (.tmp 6) = (.pointer (some ⟨g6, 0, none⟩)) := (hf 6).2 rfl rfl
          exact Exec.kloadrow rfl rfl h6 (heap_ext hw HGB6.out) Try.underlying32 rfl infoOw rfl
        · -- 19: slot 66 := Op.call { value (Operand.func 18), args := #[t64, t65], argTypes := #[
          refine StepOK.guarded (kn_stable _) 16 false 63 rfl rfl (fun ρ w _ _ hf => (hf 63).1 rfl) fun ρ w hρ hw hf => ?_
          have h64 : ρ (.tmp 64) = (.agg (relv ra (.slice xo ra.cols.length xc))) := (hf 64).1 rfl
          have h65 : ρ (.tmp 65) = (.agg (relv rb (.slice yo rb.cols.length yc))) := (hf 65).1 rfl
          refine Exec.kcall #[.agg (relv ra (.slice xo ra.cols.length xc)), .agg (relv rb (.slice yo rb.cols.length yc))] hρ rfl rfl (by simp [h64, h65]) Try.func18 (by rfl) (by rfl) ((HSM.out w hw).mono ?_)
          rintro e w' ⟨rfl, hx⟩
          exact ⟨_, rfl, rfl, hx⟩
        · -- 20: slot 67 := Op.load 27 t2
          refine StepOK.guarded (kn_stable _) 16 false 63 rfl rfl (fun ρ w _ _ hf => (hf 63).1 rfl) fun ρ w hρ hw hf => ?_
          have h2 : ρ (.tmp 2) = (.pointer (some ⟨g2, 0, none⟩)) := (hf 2).2 rfl rfl
          exact Exec.kloadrow rfl rfl h2 (heap_ext hw HGB1.out) Try.underlying27 rfl infoBk rfl
        · -- 21: slot 68 := Op.load 27 t3
          refine StepOK.guarded (kn_stable _) 16 false 63 rfl rfl (fun ρ w _ _ hf => (hf 63).1 rfl) fun ρ w hρ hw hf => ?_
          have h3 : ρ (.tmp 3) = (.pointer (some ⟨g3, 0, none⟩)) := (hf 3).2 rfl rfl
          exact Exec.kloadrow rfl rfl h3 (heap_ext hw HGB2.out) Try.underlying27 rfl infoBk rfl
        · -- 22: slot 69 := Op.call { value (Operand.func 19), args := #[t67, t68], argTypes := #[
          refine StepOK.guarded (kn_stable _) 16 false 63 rfl rfl (fun ρ w _ _ hf => (hf 63).1 rfl) fun ρ w hρ hw hf => ?_
          have h67 : ρ (.tmp 67) = (.agg (relv ra (.slice ao ra.cols.length ac))) := (hf 67).1 rfl
          have h68 : ρ (.tmp 68) = (.agg (relv rb (.slice bo rb.cols.length bc))) := (hf 68).1 rfl
          refine Exec.kcall #[.agg (relv ra (.slice ao ra.cols.length ac)), .agg (relv rb (.slice bo rb.cols.length bc))] hρ rfl rfl (by simp [h67, h68]) Try.func19 (by rfl) (by rfl) ((HSN.out w hw).mono ?_)
          rintro e w' ⟨rfl, hx⟩
          exact ⟨_, rfl, rfl, hx⟩
        · -- 23: slot 70 := Op.binOp BinOp.neq 4 t66 t69 4
          refine StepOK.guarded (kn_stable _) 16 false 63 rfl rfl (fun ρ w _ _ hf => (hf 63).1 rfl) fun ρ w hρ hw hf => ?_
          have h66 : ρ (.tmp 66) = (.bool (decide (ra = rb))) := (hf 66).1 rfl
          have h69 : ρ (.tmp 69) = (.bool (decide (ra = rb))) := (hf 69).1 rfl
          exact Exec.same (v := .bool false) rfl (by simp [go_sem, hρ.const, h66, h69]) rfl
        · -- 24: slot 71 := Op.pick t63 (const (Value.bool true)) t70
          refine StepOK.plain (kn_stable _) rfl fun ρ w hρ hw hf => ?_
          have h63 : ρ (.tmp 63) = (.bool false) := (hf 63).1 rfl
          have h70 : ρ (.tmp 70) = (.bool false) := (hf 70).1 rfl
          exact Exec.kpickF rfl rfl h63 h70
        · -- 25: slot 72 := Op.move t71
          refine StepOK.plain (kn_stable _) rfl fun ρ w hρ hw hf => ?_
          have h71 : ρ (.tmp 71) = (.bool false) := (hf 71).1 rfl
          exact Exec.kmove rfl rfl h71
        · -- 26: slot 73 := Op.fieldAddr 32 t5 0
          refine StepOK.guarded (kn_stable _) 25 false 72 rfl rfl (fun ρ w _ _ hf => (hf 72).1 rfl) fun ρ w hρ hw hf => ?_
          have h5 : ρ (.tmp 5) = (.pointer (some ⟨g5, 0, none⟩)) := (hf 5).2 rfl rfl
          exact Exec.kfield rfl rfl h5 (fieldRl_0 w _) rfl
        · -- 27: slot 74 := Op.load 29 t73
          refine StepOK.guarded (kn_stable _) 25 false 72 rfl rfl (fun ρ w _ _ hf => (hf 72).1 rfl) fun ρ w hρ hw hf => ?_
          have h73 : ρ (.tmp 73) = (.pointer (some ⟨g5, 0, none⟩)) := (hf 73).1 rfl
          have hm : w.rangeAt g5 0 [.int .u32 (ra.oid : Nat), .int .u32 (ra.ver : Nat)] := fun j u hu => by
            have hc := cell_of_row w g5 j _ _ _ (heap_ext hw HGB5.out)
            rw [Nat.zero_add, hc]
            match j, hu with
            | 0, hu => exact hu
            | 1, hu => exact hu
          have hr := run_loadAt_mid (P := Try.prog) w g5 0 29 [.int .u32 (ra.oid : Nat), .int .u32 (ra.ver : Nat)] _ hm Try.underlying29 rfl infoRf2
          exact Exec.same (v := .agg #[.int .u32 (ra.oid : Nat), .int .u32 (ra.ver : Nat)]) rfl (by unfold execOp; simp only [h73, Sem.run_bind, hr, Result.andThen_ok, Sem.run_pure]) rfl
        · -- 28: slot 75 := Op.fieldAddr 32 t6 0
          refine StepOK.guarded (kn_stable _) 25 false 72 rfl rfl (fun ρ w _ _ hf => (hf 72).1 rfl) fun ρ w hρ hw hf => ?_
          have h6 : ρ (.tmp 6) = (.pointer (some ⟨g6, 0, none⟩)) := (hf 6).2 rfl rfl
          exact Exec.kfield rfl rfl h6 (fieldRl_0 w _) rfl
        · -- 29: slot 76 := Op.load 29 t75
          refine StepOK.guarded (kn_stable _) 25 false 72 rfl rfl (fun ρ w _ _ hf => (hf 72).1 rfl) fun ρ w hρ hw hf => ?_
          have h75 : ρ (.tmp 75) = (.pointer (some ⟨g6, 0, none⟩)) := (hf 75).1 rfl
          have hm : w.rangeAt g6 0 [.int .u32 (rb.oid : Nat), .int .u32 (rb.ver : Nat)] := fun j u hu => by
            have hc := cell_of_row w g6 j _ _ _ (heap_ext hw HGB6.out)
            rw [Nat.zero_add, hc]
            match j, hu with
            | 0, hu => exact hu
            | 1, hu => exact hu
          have hr := run_loadAt_mid (P := Try.prog) w g6 0 29 [.int .u32 (rb.oid : Nat), .int .u32 (rb.ver : Nat)] _ hm Try.underlying29 rfl infoRf2
          exact Exec.same (v := .agg #[.int .u32 (rb.oid : Nat), .int .u32 (rb.ver : Nat)]) rfl (by unfold execOp; simp only [h75, Sem.run_bind, hr, Result.andThen_ok, Sem.run_pure]) rfl
        · -- 30: slot 77 := Op.call { value (Operand.func 20), args := #[t74, t76], argTypes := #[
          refine StepOK.guarded (kn_stable _) 25 false 72 rfl rfl (fun ρ w _ _ hf => (hf 72).1 rfl) fun ρ w hρ hw hf => ?_
          have h74 : ρ (.tmp 74) = (.agg #[.int .u32 (ra.oid : Nat), .int .u32 (ra.ver : Nat)]) := (hf 74).1 rfl
          have h76 : ρ (.tmp 76) = (.agg #[.int .u32 (rb.oid : Nat), .int .u32 (rb.ver : Nat)]) := (hf 76).1 rfl
          refine Exec.kcall #[.agg #[.int .u32 (ra.oid : Nat), .int .u32 (ra.ver : Nat)], .agg #[.int .u32 (rb.oid : Nat), .int .u32 (rb.ver : Nat)]] hρ rfl rfl (by simp [h74, h76]) Try.func20 (by rfl) (by rfl) ((HCP.out w).mono ?_)
          rintro e w' ⟨rfl, hx⟩
          exact ⟨_, rfl, rfl, hx⟩
        · -- 31: slot 78 := Op.move t11
          refine StepOK.guarded (kn_stable _) 25 false 72 rfl rfl (fun ρ w _ _ hf => (hf 72).1 rfl) fun ρ w hρ hw hf => ?_
          have h11 : ρ (.tmp 11) = (.int .i64 O) := (hf 11).2 rfl rfl
          exact Exec.kmove rfl rfl h11
        · -- 32: slot 79 := Op.binOp BinOp.neq 3 t77 t78 3
          refine StepOK.guarded (kn_stable _) 25 false 72 rfl rfl (fun ρ w _ _ hf => (hf 72).1 rfl) fun ρ w hρ hw hf => ?_
          have h77 : ρ (.tmp 77) = (.int .i64 O) := (hf 77).1 rfl
          have h78 : ρ (.tmp 78) = (.int .i64 O) := (hf 78).1 rfl
          exact Exec.same (v := .bool false) rfl (by simp [go_sem, hρ.const, h77, h78]) rfl
        · -- 33: slot 80 := Op.pick t72 (const (Value.bool true)) t79
          refine StepOK.plain (kn_stable _) rfl fun ρ w hρ hw hf => ?_
          have h72 : ρ (.tmp 72) = (.bool false) := (hf 72).1 rfl
          have h79 : ρ (.tmp 79) = (.bool false) := (hf 79).1 rfl
          exact Exec.kpickF rfl rfl h72 h79
      case fin =>
        intro ν w9 hfin hx9
        have h0 : ν 80 = .bool false := hfin 33 80 rfl
        simp only [Exit.then, ended, List.foldl_cons, List.foldl_nil, List.setIfInBounds_toArray, List.set_cons_succ, List.set_cons_zero, h0]
        go_wp2
        go_meet
        exact ⟨rfl, hx9⟩
    obtain ⟨rfl, hx9⟩ := hcut
    subst hg2
    clear hg3
    have HX9 := Lib.hid (HX8.out.trans hx9)
    have HG5c := Lib.hid (heap_ext hx9 HGB5.out); have HG2c := Lib.hid (heap_ext hx9 HGB1.out); have HG4c := Lib.hid (heap_ext HX9.out HG3.out)
    have HCX9 := Lib.hid (ColS.ext HCX.out (HXX8.out.trans hx9)); have HCA9 := Lib.hid (ColS.ext HCA.out HX9.out)
    clear hx9 HRS HRW HGB1 HGB2 HGB5 HGB6 HRT HSM HSN HCP HR5 HR6 HXX5 HXX6 HXX7 HXX8 HS7 HS8 HG5 HG6
    obtain ⟨w10, hw10⟩ : ∃ x, x = wc.alloc (.cells #[.int .i64 (-1)] 3) := ⟨_, rfl⟩
    have hgl := heap_alloc_new wc (.cells #[.int .i64 (-1)] 3)
    have hx10 : Ext wc w10 := by rw [hw10]; exact (Ch.refl _ _).alloc _
    rw [← hw10] at hgl
    have hsw := HX9.out.size
    have hsW := HX.out.size
    generalize hg12 : wc.heap.size = g12 at *
    have HX10 := Lib.hid (HX9.out.trans hx10); have HG12 := Lib.hid hgl; have HW10 := Lib.hid hw10
    have HG5d := Lib.hid (heap_ext hx10 HG5c.out); have HG2d := Lib.hid (heap_ext hx10 HG2c.out); have HG4d := Lib.hid (heap_ext hx10 HG4c.out)
    have HKY := Lib.hid (keys_any ra (.slice xo ra.cols.length xc) w10 (ColS.ext HCX9.out hx10) (by have := HL.out; omega))
    have HCA10 := Lib.hid (ColS.ext HCA9.out hx10)
    have HLT12 : Hid (w.heap.size ≤ g12) := Lib.hid (by omega)
    obtain ⟨x0, x1, x2, x3, x4⟩ := row_cells HG5d.out
    rw [hw10] at x0 x1 x2 x3 x4
    clear hgl hx10 hsw hsW hw10
    unfold relv strV at *
    go_wp2_with fail
    rw [← HW10.out]
    refine HKY.out.mono ?_
    rintro e w11 ⟨g, v, rfl, hx11, hgs, hr, hc⟩
    have HX11 := Lib.hid (HX10.out.trans hx11); have HB12 : Hid (Boxed w11 g12 3 (.int .i64 (-1))) := Lib.hid (heap_ext hx11 HG12.out)
    have HR4 : Hid (Boxed w11 g4 4 (.bool false)) := Lib.hid (heap_ext hx11 HG4d.out)
    have HA2 := Lib.hid (heap_ext hx11 HG2d.out); have HCA11 := Lib.hid (ColS.ext HCA10.out hx11); have HCV := Lib.hid hc; have HRG := Lib.hid hr
    clear x0 x1 x2 x3 x4 hx11 hgs hr hc HKY HG5c HG2c HG4c HCX9 HCA9 HG5d HG2d HG4d HCA10 HW10 HG12
    obtain ⟨N, hN⟩ : ∃ N : Nat → Prop, N = fun k => k = g12 ∨ w11.heap.size ≤ k := ⟨_, rfl⟩
    have HN := Lib.hid hN
    have HNb : Hid (∀ k, w11.heap.size ≤ k → N k) := Lib.hid (by rw [hN]; exact fun k h => .inr h)
    have HNs : Hid (∀ k, k < w11.heap.size → N k → k = g12) := Lib.hid (by rw [hN]; rintro k hk (h | h); exact h; omega)
    have HN12 : Hid (N g12) := Lib.hid (by rw [hN]; exact .inl rfl)
    clear hN
    have HNA : Hid (¬ N w.heap.size) := Lib.hid fun hn => by
      have h1 := HA2.out
      have e := HNs.out _ (Array.getElem?_eq_some_iff.1 h1).1 hn
      rw [e] at h1
      have h2 : w11.heap[g12]? = some (.cells #[.int .i64 (-1)] 3 (0, 0)) := HB12.out
      exact absurd (h1.symm.trans h2) (by simp)
    have HN4 : Hid (¬ N g4) := Lib.hid fun hn => by
      have h1 : w11.heap[g4]? = some (.cells #[.bool false] 4 (0, 0)) := HR4.out
      have e := HNs.out _ (Array.getElem?_eq_some_iff.1 h1).1 hn
      rw [e] at h1
      have h2 : w11.heap[g12]? = some (.cells #[.int .i64 (-1)] 3 (0, 0)) := HB12.out
      exact absurd (h1.symm.trans h2) (by simp)
    go_wp2_with fail
    refine (wpIn_wide (n := 4)).1 ?_
    refine with_frame fun L hL => ?_
    refine wpIn_rangeFunc_ownH rfl (by decide) (gf := 57) (lb := #[.pointer (some ⟨g, 0, none⟩)]) (by rw [hL]; rfl) trivial (enters_of Try.func57 (by kernel_rfl) rfl)
      (keys_stops_mem Fence.wide (4 - 1) trivial rfl (by decide) g v ra.cols N w11 HRG.out (fun W' h => colS_box HCV.out h HB12.out HNs.out) HNb.out) (fun h k => h.trans k) (chK_b HNb.out) (Below.refl _ _) (fun _ => rfl)
      (fun (pre : List (KdT ra.cols)) W' => Ch N w11 W' ∧ Boxed W' g12 3 (.int .i64 (lastOf (pre.map Subtype.val))))
      (fun _ pre _ => ¬ (pre.map Subtype.val <+: kd 0 ra.cols)) ?hI ?hIx ?h0
      (fun x a' W' => ∃ g14, a' = ⟨((((L.set 83 (.int .i64 (x.1.1 : Int))).set 84 (pcol x.1.2)).set 13 (.int .i64 (x.1.1 : Int))).set 14 (.pointer (some ⟨g14, 0, none⟩))).toArray, []⟩ ∧ w11.heap.size ≤ g14 ∧ W'.heap[g14]? = some (.cells (colv x.1.2) 49 (0, 0))) ?hAx ?assign ?body ?done ?stop
    case assign =>
      rintro l pre x W' K ⟨hch, hbx⟩ hK
      subst hL
      unfold encKd encK pcol colv strV
      gi_wp2
      obtain ⟨g14, hg14⟩ : ∃ g, g = W'.heap.size := ⟨_, rfl⟩
      have hnew := heap_alloc_new W' (.cells (colv x.1.2) 49)
      rw [← hg14] at hnew
      rw [← hg14]
      refine hK _ _ ((KeepsOthers.alloc W' _).from _) ((Ch.refl _ _).alloc _) ⟨hch.alloc _, hbx.alloc _⟩ ⟨g14, by simp only [List.set_cons_succ, List.set_cons_zero]; rfl, by rw [hg14]; exact hch.size, hnew⟩
    case hI =>
      rintro s A B row ⟨h1, h2⟩ hg hrow
      refine ⟨h1.grown hg fun k e => .inr (hrow k e).1, h2.kept hg fun e => ?_⟩
      obtain ⟨_, o, ho, hc⟩ := hrow g12 e.symm
      rw [show A.heap[g12]? = _ from h2] at ho; cases ho; cases hc
    case hIx => exact fun c s A B row h _ _ => h
    case h0 => exact ⟨Ch.refl _ _, HB12.out⟩
    case hAx =>
      rintro x a' s A B row ⟨g14, h1, h2, h3⟩ hg hrow
      refine ⟨g14, h1, h2, gby_heap hg h3 fun e => ?_⟩
      obtain ⟨_, o, ho, hc⟩ := hrow g14 e
      rw [h3] at ho; cases ho; cases hc
    case body =>
      rintro l pre x a' W' hl hlr ⟨hch, hbx⟩ ⟨g14, rfl, hg14, hrow⟩ hlen
      subst hL
      simp only [List.set_cons_succ, List.set_cons_zero]
      obtain ⟨⟨i, c⟩, hxm⟩ := x
      obtain ⟨_, hi, hci, hck⟩ := mem_kd_pos _ 0 hxm
      simp only [Nat.zero_add, Nat.sub_zero] at hi hci
      simp only at hck hrow ⊢
      obtain ⟨q, hq⟩ : ∃ q, q = pre ++ [(⟨(i, c), hxm⟩ : KdT ra.cols)] := ⟨_, rfl⟩
      have hqm : q.map Subtype.val = pre.map Subtype.val ++ [(i, c)] := by rw [hq]; simp
      have HQ1 : Hid (¬ lastOf (pre.map Subtype.val) < (i : Int) → ¬ (q.map Subtype.val <+: kd 0 ra.cols)) := Lib.hid fun h hp => by rw [hqm] at hp; exact h (next_gt hp)
      have HQ2 : Hid (lastOf (q.map Subtype.val) = (i : Int)) := Lib.hid (by rw [hqm, lastOf_snoc])
      have HQ3 : Hid (∀ (j : Nat) (cj : Col), lastOf (pre.map Subtype.val) < (j : Int) → j < i → ra.cols[j]? = some cj → cj.key = true → ¬ (q.map Subtype.val <+: kd 0 ra.cols)) := Lib.hid fun j cj h1 h2 h3 h4 hp => by
        rw [hqm] at hp
        have := next_none hp h1 h2 h3
        rw [h4] at this; cases this
      have hl0 := lastOf_min (pre.map Subtype.val)
      rw [← hq]
      clear hq hqm hxm hlen
      generalize lastOf (pre.map Subtype.val) = L at *
      obtain ⟨p0, p1, p2⟩ := row3 hrow
      rw [hck] at p2
      have l0 := hbx.cell; have lf := hbx.frozen
      have ha2 := (hch.block _ (Array.getElem?_eq_some_iff.1 HA2.out).1 HNA.out).trans HA2.out
      obtain ⟨-, -, -, -, a4⟩ := row5 ha2
      have h4 := (hch.block _ (Array.getElem?_eq_some_iff.1 (show w11.heap[g4]? = some (.cells #[.bool false] 4 (0, 0)) from HR4.out)).1 HN4.out).trans HR4.out
      have r0 : W'.cell? ⟨g4, 0, none⟩ = some (.bool false) := by rw [cell_of_row _ _ _ _ _ _ h4]; rfl
      have f0 := frozen_of_row _ _ 0 _ _ h4
      have hcs := colS_box HCA11.out hch HB12.out HNs.out
      obtain ⟨b, o, rfl, hra⟩ := colS_at hcs hi
      have hcc : ra.cols[i] = c := by have := List.getElem?_eq_getElem hi; rw [this] at hci; exact Option.some.inj hci
      obtain ⟨ci, chi, _, chs, _⟩ := info_parts infoRCZ
      have CHI := Lib.hid chi; have CHS := Lib.hid chs
      have hidx := run_indexSl W' Try.underlying25 chi chs b o ra.cols.length ac i hi
      have q0 : W'.cell? ⟨b, o + i * 3, none⟩ = some (.string ⟨c.name.toArray⟩) := by have := hra 0 _ rfl; rw [hcc] at this; simpa [strV] using this
      have q1 : W'.cell? ⟨b, o + i * 3 + 1, none⟩ = some (.int .u8 (c.ty : Nat)) := by have := hra 1 _ rfl; rw [hcc] at this; exact this
      have HCS := Lib.hid hcs; have HCH := Lib.hid hch; have HBX := Lib.hid hbx
      have hm30 := HL.out.1
      have H4 := Lib.hid h4
      clear hcs hch hra chi chs ha2 h4 hci hcc hrow hbx
      generalize hm : ra.cols.length = m at *
      have HM := Lib.hid hm; clear hm
      generalize w.heap.size = gA at *
      have A4 := Lib.hid a4; have L0 := Lib.hid l0; have P0 := Lib.hid p0; have P1 := Lib.hid p1; have P2 := Lib.hid p2; have Q0 := Lib.hid q0; have Q1 := Lib.hid q1
      have HI := Lib.hid hi
      by_cases hA : (i : Int) ≤ L
      · have d1 : decide ((i : Int) ≤ L) = true := decide_eq_true hA
        have HQ := Lib.hid (HQ1.out (by omega))
        clear hA
        gi_wp2_with fail
        refine wpIn_region_ext (tel17a i L) mixedV (by rfl) (by rfl) (by rfl) ?all ?fin
        case all =>
          refine ⟨?_, ?_, ?_, ?_, ?_, ?_, ?_, ?_, ?_, ?_, ?_, ?_, ?_, ?_, ?_, ?_, ?_, ?_, ?_, ?_, ?_, ?_, ?_, ?_, ?_, ?_, ?_, ?_, ?_, ?_, ?_, ?_, ?_, ?_, ?_, ?_, ?_, trivial⟩
          · -- 0: slot 85 := Op.move t13
            refine StepOK.plain (kn_stable _) rfl fun ρ w hρ hw hf => ?_
            have h13 : ρ (.tmp 13) = (.int .i64 (i : Nat)) := (hf 13).2 rfl rfl
            exact Exec.kmove rfl rfl h13
          · -- 1: slot 86 := Op.load 3 t12
            refine StepOK.plain (kn_stable _) rfl fun ρ w hρ hw hf => ?_
            have h12 : ρ (.tmp 12) = (.pointer (some ⟨g12, 0, none⟩)) := (hf 12).2 rfl rfl
            have hc := hw.cell (p := ⟨g12, 0, none⟩) (fun f => f) _ L0.out
            exact Exec.same (v := (.int .i64 L)) rfl (by simp [go_sem, hρ.const, h12, hc]) rfl
          · -- 2: slot 87 := Op.binOp BinOp.leq 3 t85 t86 3
            refine StepOK.plain (kn_stable _) rfl fun ρ w hρ hw hf => ?_
            have h85 : ρ (.tmp 85) = (.int .i64 (i : Nat)) := (hf 85).1 rfl
            have h86 : ρ (.tmp 86) = (.int .i64 L) := (hf 86).1 rfl
            exact Exec.same (v := .bool true) rfl (by simp [go_sem, hρ.const, h85, h86, d1]) rfl
          · -- 3: slot 88 := Op.move t87
            refine StepOK.plain (kn_stable _) rfl fun ρ w hρ hw hf => ?_
            have h87 : ρ (.tmp 87) = (.bool true) := (hf 87).1 rfl
            exact Exec.kmove rfl rfl h87
          · -- 4: slot 89 := Op.move t13
            exact StepOK.skipped (kn_stable _) (fun w => Ch.refl _ w) 3 false 88 rfl rfl (fun ρ w _ _ hf => (.inl ((hf 88).1 rfl))) (fun w d h => by cases h; rfl)
          · -- 5: slot 90 := Op.fieldAddr 27 t2 3
            exact StepOK.skipped (kn_stable _) (fun w => Ch.refl _ w) 3 false 88 rfl rfl (fun ρ w _ _ hf => (.inl ((hf 88).1 rfl))) (fun w d h => by cases h; rfl)
          · -- 6: slot 91 := Op.load 25 t90
            exact StepOK.skipped (kn_stable _) (fun w => Ch.refl _ w) 3 false 88 rfl rfl (fun ρ w _ _ hf => (.inl ((hf 88).1 rfl))) (fun w d h => by cases h; rfl)
          · -- 7: slot 92 := Op.call { builtin len, args := #[t91], argTypes := #[25] }
            exact StepOK.skipped (kn_stable _) (fun w => Ch.refl _ w) 3 false 88 rfl rfl (fun ρ w _ _ hf => (.inl ((hf 88).1 rfl))) (fun w d h => by cases h; rfl)
          · -- 8: slot 93 := Op.binOp BinOp.geq 3 t89 t92 3
            exact StepOK.skipped (kn_stable _) (fun w => Ch.refl _ w) 3 false 88 rfl rfl (fun ρ w _ _ hf => (.inl ((hf 88).1 rfl))) (fun w d h => by cases h; rfl)
          · -- 9: slot 94 := Op.pick t88 (const (Value.bool true)) t93
            refine StepOK.plain (kn_stable _) rfl fun ρ w hρ hw hf => ?_
            have h88 : ρ (.tmp 88) = (.bool true) := (hf 88).1 rfl
            have h93 : ρ (.tmp 93) = (undef) := (hf 93).1 rfl
            exact Exec.kpickT rfl rfl h88 (hρ.const _)
          · -- 10: slot 95 := Op.move t94
            refine StepOK.plain (kn_stable _) rfl fun ρ w hρ hw hf => ?_
            have h94 : ρ (.tmp 94) = (.bool true) := (hf 94).1 rfl
            exact Exec.kmove rfl rfl h94
          · -- 11: slot 96 := Op.fieldAddr 49 t14 2
            exact StepOK.skipped (kn_stable _) (fun w => Ch.refl _ w) 10 false 95 rfl rfl (fun ρ w _ _ hf => (.inl ((hf 95).1 rfl))) (fun w d h => by cases h; rfl)
          · -- 12: slot 97 := Op.load 4 t96
            exact StepOK.skipped (kn_stable _) (fun w => Ch.refl _ w) 10 false 95 rfl rfl (fun ρ w _ _ hf => (.inl ((hf 95).1 rfl))) (fun w d h => by cases h; rfl)
          · -- 13: slot 98 := Op.unOp UnOp.not 4 t97
            exact StepOK.skipped (kn_stable _) (fun w => Ch.refl _ w) 10 false 95 rfl rfl (fun ρ w _ _ hf => (.inl ((hf 95).1 rfl))) (fun w d h => by cases h; rfl)
          · -- 14: slot 99 := Op.pick t95 (const (Value.bool true)) t98
            refine StepOK.plain (kn_stable _) rfl fun ρ w hρ hw hf => ?_
            have h95 : ρ (.tmp 95) = (.bool true) := (hf 95).1 rfl
            have h98 : ρ (.tmp 98) = (undef) := (hf 98).1 rfl
            exact Exec.kpickT rfl rfl h95 (hρ.const _)
          · -- 15: slot 100 := Op.move t99
            refine StepOK.plain (kn_stable _) rfl fun ρ w hρ hw hf => ?_
            have h99 : ρ (.tmp 99) = (.bool true) := (hf 99).1 rfl
            exact Exec.kmove rfl rfl h99
          · -- 16: slot 101 := Op.fieldAddr 49 t14 0
            exact StepOK.skipped (kn_stable _) (fun w => Ch.refl _ w) 15 false 100 rfl rfl (fun ρ w _ _ hf => (.inl ((hf 100).1 rfl))) (fun w d h => by cases h; rfl)
          · -- 17: slot 102 := Op.load 9 t101
            exact StepOK.skipped (kn_stable _) (fun w => Ch.refl _ w) 15 false 100 rfl rfl (fun ρ w _ _ hf => (.inl ((hf 100).1 rfl))) (fun w d h => by cases h; rfl)
          · -- 18: slot 103 := Op.fieldAddr 27 t2 3
            exact StepOK.skipped (kn_stable _) (fun w => Ch.refl _ w) 15 false 100 rfl rfl (fun ρ w _ _ hf => (.inl ((hf 100).1 rfl))) (fun w d h => by cases h; rfl)
          · -- 19: slot 104 := Op.load 25 t103
            exact StepOK.skipped (kn_stable _) (fun w => Ch.refl _ w) 15 false 100 rfl rfl (fun ρ w _ _ hf => (.inl ((hf 100).1 rfl))) (fun w d h => by cases h; rfl)
          · -- 20: slot 105 := Op.move t13
            exact StepOK.skipped (kn_stable _) (fun w => Ch.refl _ w) 15 false 100 rfl rfl (fun ρ w _ _ hf => (.inl ((hf 100).1 rfl))) (fun w d h => by cases h; rfl)
          · -- 21: slot 106 := Op.indexAddr 25 t104 t105
            exact StepOK.skipped (kn_stable _) (fun w => Ch.refl _ w) 15 false 100 rfl rfl (fun ρ w _ _ hf => (.inl ((hf 100).1 rfl))) (fun w d h => by cases h; rfl)
          · -- 22: slot 107 := Op.fieldAddr 50 t106 0
            exact StepOK.skipped (kn_stable _) (fun w => Ch.refl _ w) 15 false 100 rfl rfl (fun ρ w _ _ hf => (.inl ((hf 100).1 rfl))) (fun w d h => by cases h; rfl)
          · -- 23: slot 108 := Op.load 9 t107
            exact StepOK.skipped (kn_stable _) (fun w => Ch.refl _ w) 15 false 100 rfl rfl (fun ρ w _ _ hf => (.inl ((hf 100).1 rfl))) (fun w d h => by cases h; rfl)
          · -- 24: slot 109 := Op.binOp BinOp.neq 9 t102 t108 9
            exact StepOK.skipped (kn_stable _) (fun w => Ch.refl _ w) 15 false 100 rfl rfl (fun ρ w _ _ hf => (.inl ((hf 100).1 rfl))) (fun w d h => by cases h; rfl)
          · -- 25: slot 110 := Op.pick t100 (const (Value.bool true)) t109
            refine StepOK.plain (kn_stable _) rfl fun ρ w hρ hw hf => ?_
            have h100 : ρ (.tmp 100) = (.bool true) := (hf 100).1 rfl
            have h109 : ρ (.tmp 109) = (undef) := (hf 109).1 rfl
            exact Exec.kpickT rfl rfl h100 (hρ.const _)
          · -- 26: slot 111 := Op.move t110
            refine StepOK.plain (kn_stable _) rfl fun ρ w hρ hw hf => ?_
            have h110 : ρ (.tmp 110) = (.bool true) := (hf 110).1 rfl
            exact Exec.kmove rfl rfl h110
          · -- 27: slot 112 := Op.fieldAddr 49 t14 1
            exact StepOK.skipped (kn_stable _) (fun w => Ch.refl _ w) 26 false 111 rfl rfl (fun ρ w _ _ hf => (.inl ((hf 111).1 rfl))) (fun w d h => by cases h; rfl)
          · -- 28: slot 113 := Op.load 5 t112
            exact StepOK.skipped (kn_stable _) (fun w => Ch.refl _ w) 26 false 111 rfl rfl (fun ρ w _ _ hf => (.inl ((hf 111).1 rfl))) (fun w d h => by cases h; rfl)
          · -- 29: slot 114 := Op.fieldAddr 27 t2 3
            exact StepOK.skipped (kn_stable _) (fun w => Ch.refl _ w) 26 false 111 rfl rfl (fun ρ w _ _ hf => (.inl ((hf 111).1 rfl))) (fun w d h => by cases h; rfl)
          · -- 30: slot 115 := Op.load 25 t114
            exact StepOK.skipped (kn_stable _) (fun w => Ch.refl _ w) 26 false 111 rfl rfl (fun ρ w _ _ hf => (.inl ((hf 111).1 rfl))) (fun w d h => by cases h; rfl)
          · -- 31: slot 116 := Op.move t13
            exact StepOK.skipped (kn_stable _) (fun w => Ch.refl _ w) 26 false 111 rfl rfl (fun ρ w _ _ hf => (.inl ((hf 111).1 rfl))) (fun w d h => by cases h; rfl)
          · -- 32: slot 117 := Op.indexAddr 25 t115 t116
            exact StepOK.skipped (kn_stable _) (fun w => Ch.refl _ w) 26 false 111 rfl rfl (fun ρ w _ _ hf => (.inl ((hf 111).1 rfl))) (fun w d h => by cases h; rfl)
          · -- 33: slot 118 := Op.fieldAddr 50 t117 1
            exact StepOK.skipped (kn_stable _) (fun w => Ch.refl _ w) 26 false 111 rfl rfl (fun ρ w _ _ hf => (.inl ((hf 111).1 rfl))) (fun w d h => by cases h; rfl)
          · -- 34: slot 119 := Op.load 5 t118
            exact StepOK.skipped (kn_stable _) (fun w => Ch.refl _ w) 26 false 111 rfl rfl (fun ρ w _ _ hf => (.inl ((hf 111).1 rfl))) (fun w d h => by cases h; rfl)
          · -- 35: slot 120 := Op.binOp BinOp.neq 5 t113 t119 5
            exact StepOK.skipped (kn_stable _) (fun w => Ch.refl _ w) 26 false 111 rfl rfl (fun ρ w _ _ hf => (.inl ((hf 111).1 rfl))) (fun w d h => by cases h; rfl)
          · -- 36: slot 121 := Op.pick t111 (const (Value.bool true)) t120
            refine StepOK.plain (kn_stable _) rfl fun ρ w hρ hw hf => ?_
            have h111 : ρ (.tmp 111) = (.bool true) := (hf 111).1 rfl
            have h120 : ρ (.tmp 120) = (undef) := (hf 120).1 rfl
            exact Exec.kpickT rfl rfl h111 (hρ.const _)
        case fin =>
          intro ν w9 hfin hx9
          have h0 : ν 121 = .bool true := hfin 36 121 rfl
          simp only [Exit.then, ended, List.foldl_cons, List.foldl_nil, List.setIfInBounds_toArray, List.set_cons_succ, List.set_cons_zero, h0]
          have h49 := heap_ext hx9 H4.out
          have r1 : w9.cell? ⟨g4, 0, none⟩ = some (.bool false) := by rw [cell_of_row _ _ _ _ _ _ h49]; rfl
          have f1 := frozen_of_row _ _ 0 _ _ h49
          have HX9 := Lib.hid hx9
          clear hfin hx9 h49 r0 f0 a4 l0 lf p0 p1 p2 q0 q1 hidx
          gi_wp2
          exact ⟨KeepsFrom.trans ⟨HX9.out.size, fun k o _ hk _ => heap_ext HX9.out hk⟩ ((KeepsOthers.setCell _ _ _).from _), HQ.out⟩
      · have d1 : decide ((i : Int) ≤ L) = false := decide_eq_false hA
        have hA2 : L < (i : Int) := by omega
        clear hA
        gi_wp2_with fail
        refine wpIn_region_ext (tel17c i L gA g14 b o ac m c) mixedV (by rfl) (by rfl) (by rfl) ?all ?fin
        case all =>
          refine ⟨?_, ?_, ?_, ?_, ?_, ?_, ?_, ?_, ?_, ?_, ?_, ?_, ?_, ?_, ?_, ?_, ?_, ?_, ?_, ?_, ?_, ?_, ?_, ?_, ?_, ?_, ?_, ?_, ?_, ?_, ?_, ?_, ?_, ?_, ?_, ?_, ?_, trivial⟩
          · -- 0: slot 85 := Op.move t13
            refine StepOK.plain (kn_stable _) rfl fun ρ w hρ hw hf => ?_
            have h13 : ρ (.tmp 13) = (.int .i64 (i : Nat)) := (hf 13).2 rfl rfl
            exact Exec.kmove rfl rfl h13
          · -- 1: slot 86 := Op.load 3 t12
            refine StepOK.plain (kn_stable _) rfl fun ρ w hρ hw hf => ?_
            have h12 : ρ (.tmp 12) = (.pointer (some ⟨g12, 0, none⟩)) := (hf 12).2 rfl rfl
            have hc := hw.cell (p := ⟨g12, 0, none⟩) (fun f => f) _ L0.out
            exact Exec.same (v := (.int .i64 L)) rfl (by simp [go_sem, hρ.const, h12, hc]) rfl
          · -- 2: slot 87 := Op.binOp BinOp.leq 3 t85 t86 3
            refine StepOK.plain (kn_stable _) rfl fun ρ w hρ hw hf => ?_
            have h85 : ρ (.tmp 85) = (.int .i64 (i : Nat)) := (hf 85).1 rfl
            have h86 : ρ (.tmp 86) = (.int .i64 L) := (hf 86).1 rfl
            exact Exec.same (v := .bool false) rfl (by simp [go_sem, hρ.const, h85, h86, d1]) rfl
          · -- 3: slot 88 := Op.move t87
            refine StepOK.plain (kn_stable _) rfl fun ρ w hρ hw hf => ?_
            have h87 : ρ (.tmp 87) = (.bool false) := (hf 87).1 rfl
            exact Exec.kmove rfl rfl h87
          · -- 4: slot 89 := Op.move t13
            refine StepOK.guarded (kn_stable _) 3 false 88 rfl rfl (fun ρ w _ _ hf => (hf 88).1 rfl) fun ρ w hρ hw hf => ?_
            have h13 : ρ (.tmp 13) = (.int .i64 (i : Nat)) := (hf 13).2 rfl rfl
            exact Exec.kmove rfl rfl h13
          · -- 5: slot 90 := Op.fieldAddr 27 t2 3
            refine StepOK.guarded (kn_stable _) 3 false 88 rfl rfl (fun ρ w _ _ hf => (hf 88).1 rfl) fun ρ w hρ hw hf => ?_
            have h2 : ρ (.tmp 2) = (.pointer (some ⟨gA, 0, none⟩)) := (hf 2).2 rfl rfl
            exact Exec.kfield rfl rfl h2 (fieldRR_3 w _) rfl
          · -- 6: slot 91 := Op.load 25 t90
            refine StepOK.guarded (kn_stable _) 3 false 88 rfl rfl (fun ρ w _ _ hf => (hf 88).1 rfl) fun ρ w hρ hw hf => ?_
            have h90 : ρ (.tmp 90) = (.pointer (some ⟨gA, 4, none⟩)) := (hf 90).1 rfl
            have hc := hw.cell (p := ⟨gA, 4, none⟩) (fun f => f) _ A4.out
            exact Exec.same (v := (.slice (some ⟨b, o, none⟩) m ac)) rfl (by simp [go_sem, hρ.const, h90, hc]) rfl
          · -- 7: slot 92 := Op.call { builtin len, args := #[t91], argTypes := #[25] }
            refine StepOK.guarded (kn_stable _) 3 false 88 rfl rfl (fun ρ w _ _ hf => (hf 88).1 rfl) fun ρ w hρ hw hf => ?_
            have h91 : ρ (.tmp 91) = (.slice (some ⟨b, o, none⟩) m ac) := (hf 91).1 rfl
            exact Exec.same (v := .int .i64 (m : Nat)) rfl (by simp [go_sem, hρ.const, h91]) rfl
          · -- 8: slot 93 := Op.binOp BinOp.geq 3 t89 t92 3
            refine StepOK.guarded (kn_stable _) 3 false 88 rfl rfl (fun ρ w _ _ hf => (hf 88).1 rfl) fun ρ w hρ hw hf => ?_
            have h89 : ρ (.tmp 89) = (.int .i64 (i : Nat)) := (hf 89).1 rfl
            have h92 : ρ (.tmp 92) = (.int .i64 (m : Nat)) := (hf 92).1 rfl
            have hge : decide ((m : Int) ≤ (i : Int)) = false := decide_eq_false (by have := HI.out; omega)
            exact Exec.same (v := .bool false) rfl (by simp [go_sem, hρ.const, h89, h92]; have := HI.out; omega) rfl
          · -- 9: slot 94 := Op.pick t88 (const (Value.bool true)) t93
            refine StepOK.plain (kn_stable _) rfl fun ρ w hρ hw hf => ?_
            have h88 : ρ (.tmp 88) = (.bool false) := (hf 88).1 rfl
            have h93 : ρ (.tmp 93) = (.bool false) := (hf 93).1 rfl
            exact Exec.kpickF rfl rfl h88 h93
          · -- 10: slot 95 := Op.move t94
            refine StepOK.plain (kn_stable _) rfl fun ρ w hρ hw hf => ?_
            have h94 : ρ (.tmp 94) = (.bool false) := (hf 94).1 rfl
            exact Exec.kmove rfl rfl h94
          · -- 11: slot 96 := Op.fieldAddr 49 t14 2
            refine StepOK.guarded (kn_stable _) 10 false 95 rfl rfl (fun ρ w _ _ hf => (hf 95).1 rfl) fun ρ w hρ hw hf => ?_
            have h14 : ρ (.tmp 14) = (.pointer (some ⟨g14, 0, none⟩)) := (hf 14).2 rfl rfl
            exact Exec.kfield rfl rfl h14 (fieldTc_2 w _) rfl
          · -- 12: slot 97 := Op.load 4 t96
            refine StepOK.guarded (kn_stable _) 10 false 95 rfl rfl (fun ρ w _ _ hf => (hf 95).1 rfl) fun ρ w hρ hw hf => ?_
            have h96 : ρ (.tmp 96) = (.pointer (some ⟨g14, 2, none⟩)) := (hf 96).1 rfl
            have hc := hw.cell (p := ⟨g14, 2, none⟩) (fun f => f) _ P2.out
            exact Exec.same (v := (.bool true)) rfl (by simp [go_sem, hρ.const, h96, hc]) rfl
          · -- 13: slot 98 := Op.unOp UnOp.not 4 t97
            refine StepOK.guarded (kn_stable _) 10 false 95 rfl rfl (fun ρ w _ _ hf => (hf 95).1 rfl) fun ρ w hρ hw hf => ?_
            have h97 : ρ (.tmp 97) = (.bool true) := (hf 97).1 rfl
            exact Exec.same (v := .bool false) rfl (by simp [go_sem, hρ.const, h97]) rfl
          · -- 14: slot 99 := Op.pick t95 (const (Value.bool true)) t98
            refine StepOK.plain (kn_stable _) rfl fun ρ w hρ hw hf => ?_
            have h95 : ρ (.tmp 95) = (.bool false) := (hf 95).1 rfl
            have h98 : ρ (.tmp 98) = (.bool false) := (hf 98).1 rfl
            exact Exec.kpickF rfl rfl h95 h98
          · -- 15: slot 100 := Op.move t99
            refine StepOK.plain (kn_stable _) rfl fun ρ w hρ hw hf => ?_
            have h99 : ρ (.tmp 99) = (.bool false) := (hf 99).1 rfl
            exact Exec.kmove rfl rfl h99
          · -- 16: slot 101 := Op.fieldAddr 49 t14 0
            refine StepOK.guarded (kn_stable _) 15 false 100 rfl rfl (fun ρ w _ _ hf => (hf 100).1 rfl) fun ρ w hρ hw hf => ?_
            have h14 : ρ (.tmp 14) = (.pointer (some ⟨g14, 0, none⟩)) := (hf 14).2 rfl rfl
            exact Exec.kfield rfl rfl h14 (fieldTc_0 w _) rfl
          · -- 17: slot 102 := Op.load 9 t101
            refine StepOK.guarded (kn_stable _) 15 false 100 rfl rfl (fun ρ w _ _ hf => (hf 100).1 rfl) fun ρ w hρ hw hf => ?_
            have h101 : ρ (.tmp 101) = (.pointer (some ⟨g14, 0, none⟩)) := (hf 101).1 rfl
            have hc := hw.cell (p := ⟨g14, 0, none⟩) (fun f => f) _ P0.out
            exact Exec.same (v := (strV c.name)) rfl (by simp [go_sem, hρ.const, h101, hc]) rfl
          · -- 18: slot 103 := Op.fieldAddr 27 t2 3
            refine StepOK.guarded (kn_stable _) 15 false 100 rfl rfl (fun ρ w _ _ hf => (hf 100).1 rfl) fun ρ w hρ hw hf => ?_
            have h2 : ρ (.tmp 2) = (.pointer (some ⟨gA, 0, none⟩)) := (hf 2).2 rfl rfl
            exact Exec.kfield rfl rfl h2 (fieldRR_3 w _) rfl
          · -- 19: slot 104 := Op.load 25 t103
            refine StepOK.guarded (kn_stable _) 15 false 100 rfl rfl (fun ρ w _ _ hf => (hf 100).1 rfl) fun ρ w hρ hw hf => ?_
            have h103 : ρ (.tmp 103) = (.pointer (some ⟨gA, 4, none⟩)) := (hf 103).1 rfl
            have hc := hw.cell (p := ⟨gA, 4, none⟩) (fun f => f) _ A4.out
            exact Exec.same (v := (.slice (some ⟨b, o, none⟩) m ac)) rfl (by simp [go_sem, hρ.const, h103, hc]) rfl
          · -- 20: slot 105 := Op.move t13
            refine StepOK.guarded (kn_stable _) 15 false 100 rfl rfl (fun ρ w _ _ hf => (hf 100).1 rfl) fun ρ w hρ hw hf => ?_
            have h13 : ρ (.tmp 13) = (.int .i64 (i : Nat)) := (hf 13).2 rfl rfl
            exact Exec.kmove rfl rfl h13
          · -- 21: slot 106 := Op.indexAddr 25 t104 t105
            refine StepOK.guarded (kn_stable _) 15 false 100 rfl rfl (fun ρ w _ _ hf => (hf 100).1 rfl) fun ρ w hρ hw hf => ?_
            have h104 : ρ (.tmp 104) = (.slice (some ⟨b, o, none⟩) m ac) := (hf 104).1 rfl
            have h105 : ρ (.tmp 105) = (.int .i64 (i : Nat)) := (hf 105).1 rfl
            exact Exec.kindex rfl rfl Try.underlying25 CHI.out CHS.out h104 h105 HI.out rfl
          · -- 22: slot 107 := Op.fieldAddr 50 t106 0
            refine StepOK.guarded (kn_stable _) 15 false 100 rfl rfl (fun ρ w _ _ hf => (hf 100).1 rfl) fun ρ w hρ hw hf => ?_
            have h106 : ρ (.tmp 106) = (.pointer (some ⟨b, o + i * 3, none⟩)) := (hf 106).1 rfl
            exact Exec.kfield rfl rfl h106 (fieldOw_C0 w _ _) rfl
          · -- 23: slot 108 := Op.load 9 t107
            refine StepOK.guarded (kn_stable _) 15 false 100 rfl rfl (fun ρ w _ _ hf => (hf 100).1 rfl) fun ρ w hρ hw hf => ?_
            have h107 : ρ (.tmp 107) = (.pointer (some ⟨b, o + i * 3, none⟩)) := (hf 107).1 rfl
            have hc := hw.cell (p := ⟨b, o + i * 3, none⟩) (fun f => f) _ Q0.out
            exact Exec.same (v := (.string ⟨c.name.toArray⟩)) rfl (by simp [go_sem, hρ.const, h107, hc]) rfl
          · -- 24: slot 109 := Op.binOp BinOp.neq 9 t102 t108 9
            refine StepOK.guarded (kn_stable _) 15 false 100 rfl rfl (fun ρ w _ _ hf => (hf 100).1 rfl) fun ρ w hρ hw hf => ?_
            have h102 : ρ (.tmp 102) = (strV c.name) := (hf 102).1 rfl
            have h108 : ρ (.tmp 108) = (strV c.name) := (hf 108).1 rfl
            exact Exec.kstrne rfl rfl Try.underlying9 h102 h108 (by simp; rfl)
          · -- 25: slot 110 := Op.pick t100 (const (Value.bool true)) t109
            refine StepOK.plain (kn_stable _) rfl fun ρ w hρ hw hf => ?_
            have h100 : ρ (.tmp 100) = (.bool false) := (hf 100).1 rfl
            have h109 : ρ (.tmp 109) = (.bool false) := (hf 109).1 rfl
            exact Exec.kpickF rfl rfl h100 h109
          · -- 26: slot 111 := Op.move t110
            refine StepOK.plain (kn_stable _) rfl fun ρ w hρ hw hf => ?_
            have h110 : ρ (.tmp 110) = (.bool false) := (hf 110).1 rfl
            exact Exec.kmove rfl rfl h110
          · -- 27: slot 112 := Op.fieldAddr 49 t14 1
            refine StepOK.guarded (kn_stable _) 26 false 111 rfl rfl (fun ρ w _ _ hf => (hf 111).1 rfl) fun ρ w hρ hw hf => ?_
            have h14 : ρ (.tmp 14) = (.pointer (some ⟨g14, 0, none⟩)) := (hf 14).2 rfl rfl
            exact Exec.kfield rfl rfl h14 (fieldTc_1 w _) rfl
          · -- 28: slot 113 := Op.load 5 t112
            refine StepOK.guarded (kn_stable _) 26 false 111 rfl rfl (fun ρ w _ _ hf => (hf 111).1 rfl) fun ρ w hρ hw hf => ?_
            have h112 : ρ (.tmp 112) = (.pointer (some ⟨g14, 1, none⟩)) := (hf 112).1 rfl
            have hc := hw.cell (p := ⟨g14, 1, none⟩) (fun f => f) _ P1.out
            exact Exec.same (v := (.int .u8 (c.ty : Nat))) rfl (by simp [go_sem, hρ.const, h112, hc]) rfl
          · -- 29: slot 114 := Op.fieldAddr 27 t2 3
            refine StepOK.guarded (kn_stable _) 26 false 111 rfl rfl (fun ρ w _ _ hf => (hf 111).1 rfl) fun ρ w hρ hw hf => ?_
            have h2 : ρ (.tmp 2) = (.pointer (some ⟨gA, 0, none⟩)) := (hf 2).2 rfl rfl
            exact Exec.kfield rfl rfl h2 (fieldRR_3 w _) rfl
          · -- 30: slot 115 := Op.load 25 t114
            refine StepOK.guarded (kn_stable _) 26 false 111 rfl rfl (fun ρ w _ _ hf => (hf 111).1 rfl) fun ρ w hρ hw hf => ?_
            have h114 : ρ (.tmp 114) = (.pointer (some ⟨gA, 4, none⟩)) := (hf 114).1 rfl
            have hc := hw.cell (p := ⟨gA, 4, none⟩) (fun f => f) _ A4.out
            exact Exec.same (v := (.slice (some ⟨b, o, none⟩) m ac)) rfl (by simp [go_sem, hρ.const, h114, hc]) rfl
          · -- 31: slot 116 := Op.move t13
            refine StepOK.guarded (kn_stable _) 26 false 111 rfl rfl (fun ρ w _ _ hf => (hf 111).1 rfl) fun ρ w hρ hw hf => ?_
            have h13 : ρ (.tmp 13) = (.int .i64 (i : Nat)) := (hf 13).2 rfl rfl
            exact Exec.kmove rfl rfl h13
          · -- 32: slot 117 := Op.indexAddr 25 t115 t116
            refine StepOK.guarded (kn_stable _) 26 false 111 rfl rfl (fun ρ w _ _ hf => (hf 111).1 rfl) fun ρ w hρ hw hf => ?_
            have h115 : ρ (.tmp 115) = (.slice (some ⟨b, o, none⟩) m ac) := (hf 115).1 rfl
            have h116 : ρ (.tmp 116) = (.int .i64 (i : Nat)) := (hf 116).1 rfl
            exact Exec.kindex rfl rfl Try.underlying25 CHI.out CHS.out h115 h116 HI.out rfl
          · -- 33: slot 118 := Op.fieldAddr 50 t117 1
            refine StepOK.guarded (kn_stable _) 26 false 111 rfl rfl (fun ρ w _ _ hf => (hf 111).1 rfl) fun ρ w hρ hw hf => ?_
            have h117 : ρ (.tmp 117) = (.pointer (some ⟨b, o + i * 3, none⟩)) := (hf 117).1 rfl
            exact Exec.kfield rfl rfl h117 (fieldOw_C1 w _ _) rfl
          · -- 34: slot 119 := Op.load 5 t118
            refine StepOK.guarded (kn_stable _) 26 false 111 rfl rfl (fun ρ w _ _ hf => (hf 111).1 rfl) fun ρ w hρ hw hf => ?_
            have h118 : ρ (.tmp 118) = (.pointer (some ⟨b, o + i * 3 + 1, none⟩)) := (hf 118).1 rfl
            have hc := hw.cell (p := ⟨b, o + i * 3 + 1, none⟩) (fun f => f) _ Q1.out
            exact Exec.same (v := (.int .u8 (c.ty : Nat))) rfl (by simp [go_sem, hρ.const, h118, hc]) rfl
          · -- 35: slot 120 := Op.binOp BinOp.neq 5 t113 t119 5
            refine StepOK.guarded (kn_stable _) 26 false 111 rfl rfl (fun ρ w _ _ hf => (hf 111).1 rfl) fun ρ w hρ hw hf => ?_
            have h113 : ρ (.tmp 113) = (.int .u8 (c.ty : Nat)) := (hf 113).1 rfl
            have h119 : ρ (.tmp 119) = (.int .u8 (c.ty : Nat)) := (hf 119).1 rfl
            exact Exec.same (v := .bool false) rfl (by simp [go_sem, hρ.const, h113, h119]) rfl
          · -- 36: slot 121 := Op.pick t111 (const (Value.bool true)) t120
            refine StepOK.plain (kn_stable _) rfl fun ρ w hρ hw hf => ?_
            have h111 : ρ (.tmp 111) = (.bool false) := (hf 111).1 rfl
            have h120 : ρ (.tmp 120) = (.bool false) := (hf 120).1 rfl
            exact Exec.kpickF rfl rfl h111 h120
        case fin =>
          intro ν w9 hfin hx9
          have h0 : ν 121 = .bool false := hfin 36 121 rfl
          simp only [Exit.then, ended, List.foldl_cons, List.foldl_nil, List.setIfInBounds_toArray, List.set_cons_succ, List.set_cons_zero, h0]
          have h49 := heap_ext hx9 H4.out
          have r1 : w9.cell? ⟨g4, 0, none⟩ = some (.bool false) := by rw [cell_of_row _ _ _ _ _ _ h49]; rfl
          have f1 := frozen_of_row _ _ 0 _ _ h49
          have hb9 : Boxed w9 g12 3 (.int .i64 L) := heap_ext hx9 HBX.out
          have l1 := hb9.cell; have lf1 := hb9.frozen
          have HB9 := Lib.hid hb9
          have a41 := hx9.cell (p := ⟨gA, 4, none⟩) (fun f => f) _ A4.out
          have HX9 := Lib.hid hx9
          clear hfin hx9 h49 r0 f0 a4 l0 lf p0 p1 p2 q0 q1 hidx hb9 h0 d1
          obtain ⟨K0, hK0⟩ : ∃ K0 : Nat, (K0 : Int) = L + 1 := ⟨(L + 1).toNat, by omega⟩
          have hwr : IntKind.i64.wrap (L + 1) = (K0 : Int) := by rw [IntKind.wrap_i64]; omega
          have HK0 := Lib.hid hK0
          have hk0i : K0 ≤ i := by omega
          clear hK0 hl0
          have HL2 := Lib.hid hA2; clear hA2
          gi_wp2
          gi_loopw [15] (fun ix wr => ∃ k : Nat, wr = w9 ∧ K0 ≤ k ∧ k ≤ i ∧ ix = .int .i64 k) (fun ix _ => i - (intOf ix).toNat)
          case atStart => exact ⟨K0, rfl, Nat.le_refl _, hk0i, rfl⟩
          case round =>
            obtain ⟨k, rfl, hk0, hk, rfl⟩ := hrel
            by_cases hlt : k < i
            · have hkm : k < m := by omega
              have hkl : k < ra.cols.length := by have := HM.out; omega
              obtain ⟨b', o', e, hra⟩ := colS_at (ColS.ext HCS.out HX9.out) hkl
              cases e
              have hidx := run_indexSl wr Try.underlying25 CHI.out CHS.out b o m ac k hkm
              have q2 : wr.cell? ⟨b, o + k * 3 + 2, none⟩ = some (.bool ra.cols[k].key) := hra 2 _ rfl
              have HQ4 := Lib.hid fun h : ra.cols[k].key = true => HQ3.out k ra.cols[k] (by have := HK0.out; omega) hlt (List.getElem?_eq_getElem hkl) h
              clear hra
              cases hkey : ra.cols[k].key with
              | true =>
                rw [hkey] at q2
                have HQ := Lib.hid (HQ4.out hkey)
                clear HQ4 hkey
                gi_wp2
                exact ⟨KeepsFrom.trans ⟨HX9.out.size, fun k o _ hk _ => heap_ext HX9.out hk⟩ ((KeepsOthers.setCell _ _ _).from _), HQ.out⟩
              | false =>
                rw [hkey] at q2
                clear HQ4 hkey
                gi_wp2
                go_roundw
                case rel => exact ⟨k + 1, by simp, by omega, by omega, by simp⟩
                case measure => simp [intOf]; omega
            · obtain rfl : k = i := by omega
              gi_wp2
              have hch2 : Ch N W' (wr.setCell ⟨g12, 0, none⟩ (.int .i64 (k : Nat))) := HX9.out.ch.setCell (p := ⟨g12, 0, none⟩) (.inl HN12.out) _
              exact ⟨KeepsFrom.trans ⟨HX9.out.size, fun k o _ hk _ => heap_ext HX9.out hk⟩ ((KeepsOthers.setCell _ _ _).from _), hch2, HCH.out.trans hch2, by rw [HQ2.out]; exact HB9.out.set _⟩
    case stop => exact fun D c pre W' hD hSp hIx hK => absurd hSp hIx
    case done =>
      rintro D ys W' hD hys ⟨hch, hbx⟩ hK
      rw [hys] at hbx
      subst hL
      have hbn := fun (j : Nat) (c : Col) h1 h2 => behind_none (l := ra.cols) (j := j) (c := c) h1 h2
      have hl0 := lastOf_min (kd 0 ra.cols)
      have hl1 := lastOf_lt (p := kd 0 ra.cols) (l := ra.cols) fun x h => h
      generalize lastOf (kd 0 ra.cols) = L at *
      have HBN := Lib.hid hbn
      have ha2 := (hch.block _ (Array.getElem?_eq_some_iff.1 HA2.out).1 HNA.out).trans HA2.out
      obtain ⟨-, -, -, -, a4⟩ := row5 ha2
      have h4 := (hch.block _ (Array.getElem?_eq_some_iff.1 (show w11.heap[g4]? = some (.cells #[.bool false] 4 (0, 0)) from HR4.out)).1 HN4.out).trans HR4.out
      have H4 := Lib.hid h4
      have l0 := hbx.cell; have lf := hbx.frozen
      have HCS := Lib.hid (colS_box HCA11.out hch HB12.out HNs.out)
      have HK := Lib.hid hK; have HD := Lib.hid hD
      have HSZ : Hid (w.heap.size ≤ g4) := HS4
      have HXW : Hid (Ext w W') := Lib.hid (((Ext.ch (HX.out.trans HX11.out)).trans hch).mono fun k hk h => (by
        have h11 : k < w11.heap.size := Nat.lt_of_lt_of_le hk (HX.out.trans HX11.out).size
        have := HNs.out k h11 h
        have := HLT12.out
        omega))
      have hm30 := HL.out.1
      obtain ⟨ci, chi, _, chs, _⟩ := info_parts infoRCZ
      have CHI := Lib.hid chi; have CHS := Lib.hid chs
      clear hch hbx hK hD hbn ha2 h4 chi chs hys
      generalize hm : ra.cols.length = m at *
      have HM := Lib.hid hm; clear hm
      obtain ⟨K0, hK0⟩ : ∃ K0 : Nat, (K0 : Int) = L + 1 := ⟨(L + 1).toNat, by omega⟩
      have hwr : IntKind.i64.wrap (L + 1) = (K0 : Int) := by rw [IntKind.wrap_i64]; omega
      have HK0 := Lib.hid hK0
      have hk0m : K0 ≤ m := by omega
      clear hK0 hl0 hl1
      go_wp2
      go_loopw [16] (fun ix wr => ∃ k : Nat, wr = W' ∧ K0 ≤ k ∧ k ≤ m ∧ ix = .int .i64 k) (fun ix _ => m - (intOf ix).toNat)
      case atStart => exact ⟨K0, rfl, Nat.le_refl _, hk0m, rfl⟩
      case round =>
        obtain ⟨k, rfl, hk0, hk, rfl⟩ := hrel
        by_cases hlt : k < m
        · have hkl : k < ra.cols.length := by have := HM.out; omega
          obtain ⟨b', o', rfl, hra⟩ := colS_at HCS.out hkl
          have hidx := run_indexSl wr Try.underlying25 CHI.out CHS.out b' o' m ac k hlt
          have q2 : wr.cell? ⟨b', o' + k * 3 + 2, none⟩ = some (.bool ra.cols[k].key) := hra 2 _ rfl
          rw [HBN.out k ra.cols[k] (by have := HK0.out; omega) (List.getElem?_eq_getElem hkl)] at q2
          clear hra
          go_wp2
          go_roundw
          case rel => exact ⟨k + 1, by simp, by omega, by omega, by simp⟩
          case measure => simp [intOf]; omega
        · obtain rfl : k = m := by omega
          go_wp2_with (go_at_call 22; refine (awake8_any _).mono ?_)
          rintro e w12 ⟨rfl, hx12⟩
          have h412 := heap_ext hx12 H4.out
          have r1 : w12.cell? ⟨g4, 0, none⟩ = some (.bool false) := by rw [cell_of_row _ _ _ _ _ _ h412]; rfl
          have f1 := frozen_of_row _ _ 0 _ _ h412
          have HX12 := Lib.hid hx12
          clear hx12 h412 a4 l0 lf
          go_wp2
          have hK' := (KeepsOthers.setCell w12 ⟨g4, 0, none⟩ (.bool true)).same D _ (heap_ext HX12.out HK.out) rfl
          refine ⟨by simp, .inl ⟨_, _, rfl, run_takeDeferred hK', ?_⟩⟩
          have hc5 := cell_kept (World.cell?_setCell_same' w12 ⟨g4, 0, none⟩ (.bool true) (by rw [r1]; rfl)) (grownBy_putObj' _ D (.deferred none)) (fun r e => by cases e; exact ⟨_, hK', rfl⟩)
          refine ⟨.bool true, ?_, rfl, ?_⟩
          · simp [results, Try.f3, go_sem, hc5]
          · exact ((HXW.out.trans HX12.out).setCell (p := ⟨g4, 0, none⟩) (.inr HSZ.out) _).grown (grownBy_putObj' _ D _) (fun k e => by
              cases e
              have h1 := HD.out
              have h2 := (HX.out.trans HX11.out).size
              exact .inr (by omega))
end Go.Proofs.Ytcejjckhhdgdnaa
