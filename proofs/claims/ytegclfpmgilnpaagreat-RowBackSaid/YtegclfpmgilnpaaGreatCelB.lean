import Derived.Test.YtegclfpmgilnpaaGreatGVal
import Derived.Test.YtegclfpmgilnpaaGreatValF
namespace Go.Proofs.YtegclfpmgilnpaaGreat
open Go.RowKit Go.Lac
def PRow (W : World) (g : Nat) (c : Cel) : Prop := W.heap[g]? = some (.cells (pcv c) 90 (0, 0))
def RRow (W : World) (g : Nat) (c : Cel) : Prop := W.heap[g]? = some (.cells (rcv c) 76 (0, 0))
section
variable {W W' : World} {g : Nat} {c : Cel}
theorem PRow.ext (h : PRow W g c) (k : Ext W W') : PRow W' g c := heap_of_ext k h
theorem RRow.ext (h : RRow W g c) (k : Ext W W') : RRow W' g c := heap_of_ext k h
theorem PRow.kind (h : PRow W g c) : W.cell? ⟨g, 0, none⟩ = some (.int .u8 (c.k : Nat)) := by rw [cell_of_row _ _ _ _ _ _ h]; rfl
theorem PRow.type (h : PRow W g c) : W.cell? ⟨g, 1, none⟩ = some (.int .u8 (c.v.ty : Nat)) := by rw [cell_of_row _ _ _ _ _ _ h]; rfl
theorem PRow.text (h : PRow W g c) : W.cell? ⟨g, 4, none⟩ = some (strV c.v.t) := by rw [cell_of_row _ _ _ _ _ _ h]; rfl
theorem PRow.cells (h : PRow W g c) : W.cell? ⟨g, 0, none⟩ = some (.int .u8 (c.k : Nat)) ∧ W.cell? ⟨g, 1, none⟩ = some (.int .u8 (c.v.ty : Nat)) ∧ W.cell? ⟨g, 2, none⟩ = some (.int .i64 c.v.i) ∧ W.cell? ⟨g, 3, none⟩ = some (.complex .f64 c.v.re c.v.im) ∧ W.cell? ⟨g, 4, none⟩ = some (strV c.v.t) := by
  refine ⟨?_, ?_, ?_, ?_, ?_⟩ <;> (rw [cell_of_row _ _ _ _ _ _ h]; rfl)
theorem RRow.cells (h : RRow W g c) : W.cell? ⟨g, 0, none⟩ = some (.int .u8 (c.k : Nat)) ∧ W.cell? ⟨g, 1, none⟩ = some (.int .u8 (c.v.ty : Nat)) ∧ W.cell? ⟨g, 2, none⟩ = some (.int .i64 c.v.i) ∧ W.cell? ⟨g, 3, none⟩ = some (.int .u64 (c.v.re : Nat)) ∧ W.cell? ⟨g, 4, none⟩ = some (.int .u64 (c.v.im : Nat)) ∧ W.cell? ⟨g, 5, none⟩ = some (strV c.v.t) := by
  refine ⟨?_, ?_, ?_, ?_, ?_, ?_⟩ <;> (rw [cell_of_row _ _ _ _ _ _ h]; rfl)
theorem RRow.kind (h : RRow W g c) : W.cell? ⟨g, 0, none⟩ = some (.int .u8 (c.k : Nat)) := by rw [cell_of_row _ _ _ _ _ _ h]; rfl
theorem RRow.type (h : RRow W g c) : W.cell? ⟨g, 1, none⟩ = some (.int .u8 (c.v.ty : Nat)) := by rw [cell_of_row _ _ _ _ _ _ h]; rfl
theorem RRow.text (h : RRow W g c) : W.cell? ⟨g, 5, none⟩ = some (strV c.v.t) := by rw [cell_of_row _ _ _ _ _ _ h]; rfl
theorem PRow.value (h : PRow W g c) : (Instr.loadAt 88 (.pointer (some ⟨g, 1, none⟩))).run Tryz.prog W = .ok (pv c.v) W :=
  load_mid _ 88 g 1 _ _ (pvals c.v) _ h (fun j v hv => by
    match j, hv with
    | 0, hv => exact hv
    | 1, hv => exact hv
    | 2, hv => exact hv
    | 3, hv => exact hv
    | j + 4, hv => simp [pvals] at hv) Tryz.underlying88 rfl (infoP c.v)
theorem RRow.value (h : RRow W g c) : (Instr.loadAt 74 (.pointer (some ⟨g, 1, none⟩))).run Tryz.prog W = .ok (rv c.v) W :=
  load_mid _ 74 g 1 _ _ (rvals c.v) _ h (fun j v hv => by
    match j, hv with
    | 0, hv => exact hv
    | 1, hv => exact hv
    | 2, hv => exact hv
    | 3, hv => exact hv
    | 4, hv => exact hv
    | j + 5, hv => simp [rvals] at hv) Tryz.underlying74 rfl (infoR c.v)
theorem PRow.whole (h : PRow W g c) : (Instr.loadAt 90 (.pointer (some ⟨g, 0, none⟩))).run Tryz.prog W = .ok (pc c) W :=
  load_mid _ 90 g 0 _ _ (pcv c) _ h (fun j v hv => by simpa using hv) Tryz.underlying90 rfl infoPC
theorem RRow.whole (h : RRow W g c) : (Instr.loadAt 76 (.pointer (some ⟨g, 0, none⟩))).run Tryz.prog W = .ok (rc c) W :=
  load_mid _ 76 g 0 _ _ (rcv c) _ h (fun j v hv => by simpa using hv) Tryz.underlying76 rfl infoRC
end
theorem box_p (c : Cel) (w : World) : PRow (w.alloc (.cells (pcv c) 90)) w.heap.size c := heap_alloc_new w _
theorem box_r (c : Cel) (w : World) : RRow (w.alloc (.cells (rcv c) 76)) w.heap.size c := heap_alloc_new w _
set_option maxRecDepth 20000 in
set_option maxHeartbeats 2000000 in
theorem cright_any (c : Cel) (kind : Nat) (w : World) :
    Calls Tryz.prog 63 #[pc c, .int .u8 (kind : Nat)] w fun e w' => e = .returned (.int .i64 (cErr c kind : Nat)) ∧ Ext w w' := by
  have hit := fun w => cIsType_any kind w
  have HTX := Lib.hid (fun w => cIsText_any kind w)
  have HRF := Lib.hid (fun w => rightFull_any c.v kind w)
  have HSM : Hid (∀ w, Calls Tryz.prog 70 #[pv c.v, .agg #[.int .u8 0, .int .i64 0, .complex .f64 0 0, .string ⟨#[]⟩]] w fun e w' => e = .returned (.bool (decide (c.v = .zero))) ∧ Ext w w') := Lib.hid (fun w => same_any c.v .zero w)
  have HB0 := Lib.hid (fun w => build61_0 w)
  obtain ⟨W, hW⟩ : ∃ W, W = w.alloc (.cells (pcv c) 90) := ⟨_, rfl⟩
  have HX0 : Hid (Ext w W) := Lib.hid (by rw [hW]; exact (Ch.refl _ _).alloc _)
  have HP : Hid (PRow W w.heap.size c) := Lib.hid (by rw [hW]; exact box_p c w)
  have HW := Lib.hid hW
  have hpc : pc c = .agg (pcv c) := rfl
  rw [hpc]
  obtain ⟨E, hE⟩ : ∃ E, E = cErr c kind := ⟨_, rfl⟩
  rw [← hE]
  unfold cErr at hE
  clear hW hpc
  by_cases h1 : kind < 1 ∨ 6 < kind
  · rw [if_pos h1] at hE
    have hit0 : ∀ w, Calls Tryz.prog 55 #[.int .u8 (kind : Nat)] w fun e w' => e = .returned (.bool false) ∧ Ext w w' := fun w => by have := hit w; rwa [decide_eq_false (by omega)] at this
    have HIT := Lib.hid hit0; have HE := Lib.hid hE; clear hit hit0 h1 hE
    go_enter Tryz.func63, Tryz.ntmps63
    go_wp2_with fail
    rw [← HW.out]
    refine (HIT.out _).mono ?_
    rintro e w1 ⟨rfl, hx⟩
    have HX := Lib.hid (HX0.out.trans hx); clear hx
    go_wp2
    go_ret
    exact ⟨by rw [HE.out]; rfl, HX.out⟩
  rw [if_neg h1] at hE
  have hit0 : ∀ w, Calls Tryz.prog 55 #[.int .u8 (kind : Nat)] w fun e w' => e = .returned (.bool true) ∧ Ext w w' := fun w => by have := hit w; rwa [decide_eq_true (by omega)] at this
  have HIT := Lib.hid hit0; clear hit hit0 h1
  go_enter Tryz.func63, Tryz.ntmps63
  go_wp2_with fail
  rw [← HW.out]
  refine (HIT.out _).mono ?_
  rintro e w1 ⟨rfl, hx⟩
  have HX := Lib.hid (HX0.out.trans hx)
  have hP1 := HP.out.ext hx
  have HP1 := Lib.hid hP1
  have hc := hP1.kind
  clear hx hP1 HP HX0 HW HIT
  by_cases h2 : 2 < c.k
  · rw [if_pos h2] at hE
    have HE := Lib.hid hE; clear hE
    go_wp2
    go_ret
    exact ⟨by rw [HE.out]; rfl, HX.out⟩
  rw [if_neg h2] at hE
  by_cases h3 : c.k = 2
  · have HE : Hid (E = fullE c.v kind) := Lib.hid (by rw [if_neg (by omega)] at hE; rw [hE]; rfl)
    obtain ⟨_, l1, l2, l3, l4⟩ := HP1.out.cells
    rw [h3] at hc
    clear hE h3 h2
    go_wp2_with fail
    refine (HRF.out _).mono ?_
    rintro e w2 ⟨rfl, hx⟩
    have HX2 := Lib.hid (HX.out.trans hx)
    clear hx hc l1 l2 l3 l4
    go_wp2
    go_ret
    exact ⟨by rw [HE.out]; rfl, HX2.out⟩
  have e2 : (((c.k : Nat) : Int) == 2) = false := by simp; omega
  obtain ⟨_, l1, l2, l3, l4⟩ := HP1.out.cells
  have hb0 := HB0.out w1
  rw [if_pos (show c.k < 2 by omega)] at hE
  have HE := Lib.hid hE; clear hE h3
  have HK := Lib.hid h2
  go_wp2_with fail
  refine (HSM.out _).mono ?_
  rintro e w2 ⟨rfl, hx⟩
  have HX2 := Lib.hid (HX.out.trans hx)
  have hc := (HP1.out.ext hx).kind
  clear hx l1 l2 l3 l4 hb0 e2
  by_cases h4 : c.v = .zero
  · rw [decide_eq_true h4]
    have HE2 := Lib.hid (HE.out.trans (if_neg (fun a => a h4))); clear h4
    by_cases h5 : c.k = 1
    · rw [h5] at hc
      have HE3 : Hid (E = if texty kind = false then 11 else 0) := Lib.hid (by rw [HE2.out]; simp [h5])
      clear h5 h2
      go_wp2_with fail
      refine (HTX.out _).mono ?_
      rintro e w3 ⟨rfl, rfl⟩
      have he := HE3.out
      cases ht : texty kind with
      | true =>
        rw [ht] at he
        have HF := Lib.hid he; clear he
        go_wp2
        go_ret
        exact ⟨by rw [HF.out]; rfl, HX2.out⟩
      | false =>
        rw [ht] at he
        have HF := Lib.hid he; clear he
        go_wp2
        go_ret
        exact ⟨by rw [HF.out]; rfl, HX2.out⟩
    · have e1 : (((c.k : Nat) : Int) == 1) = false := by simp; omega
      have HE3 : Hid (E = 0) := Lib.hid (by rw [HE2.out, if_neg (by omega)])
      clear h5 h2
      go_wp2
      go_ret
      exact ⟨by rw [HE3.out]; rfl, HX2.out⟩
  · rw [decide_eq_false h4]
    have HF := Lib.hid (HE.out.trans (if_pos h4)); clear h4
    go_wp2
    go_ret
    exact ⟨by rw [HF.out]; rfl, HX2.out⟩
theorem dec64 (n : Nat) : decide ((64 : Int) < (n : Int)) = decide (64 < n) := by rw [decide_eq_decide]; omega
set_option maxRecDepth 20000 in
set_option maxHeartbeats 2000000 in
theorem clarge_any (c : Cel) (w : World) :
    Calls Tryz.prog 69 #[pc c] w fun e w' => e = .returned (.bool (cLarge c)) ∧ Ext w w' := by
  have HTX := Lib.hid (fun w => cIsText_any c.v.ty w)
  obtain ⟨W, hW⟩ : ∃ W, W = w.alloc (.cells (pcv c) 90) := ⟨_, rfl⟩
  have HX0 : Hid (Ext w W) := Lib.hid (by rw [hW]; exact (Ch.refl _ _).alloc _)
  have hP : PRow W w.heap.size c := by rw [hW]; exact box_p c w
  have hsa : (⟨c.v.t.toArray⟩ : ByteArray).size = c.v.t.length := by simp [ByteArray.size]
  have c0 := hP.kind; have c1 := hP.type; have c4 := hP.text
  have hpc : pc c = .agg (pcv c) := rfl
  rw [hpc]
  have hL : cLarge c = (decide (c.k = 2) && texty c.v.ty && decide (64 < c.v.t.length)) := rfl
  rw [hL]
  clear hL hpc hP
  unfold strV at c4
  rw [hW] at c0 c1 c4
  have HW := Lib.hid hW
  clear hW
  generalize (⟨c.v.t.toArray⟩ : ByteArray) = A at *
  generalize c.v.t.length = n at *
  generalize c.v.ty = ty at *
  generalize c.k = k at *
  by_cases hk : k = 2
  · subst hk
    cases ht : texty ty with
    | true =>
      rw [ht] at HTX
      rw [← dec64]
      go_enter Tryz.func69, Tryz.ntmps69
      go_wp2_with (go_at_call 79; refine (HTX.out _).mono ?_; rintro e w' ⟨rfl, rfl⟩)
      go_ret
      rw [← HW.out]
      exact ⟨by simp, HX0.out⟩
    | false =>
      rw [ht] at HTX
      generalize decide (64 < n) = z
      go_enter Tryz.func69, Tryz.ntmps69
      go_wp2_with (go_at_call 79; refine (HTX.out _).mono ?_; rintro e w' ⟨rfl, rfl⟩)
      go_ret
      rw [← HW.out]
      exact ⟨rfl, HX0.out⟩
  · have e1 : (((k : Nat) : Int) == 2) = false := by simp; omega
    rw [decide_eq_false hk, Bool.false_and, Bool.false_and]
    clear hk
    go_enter Tryz.func69, Tryz.ntmps69
    go_wp2
    go_ret
    rw [← HW.out]
    exact ⟨rfl, HX0.out⟩
end Go.Proofs.YtegclfpmgilnpaaGreat
