/-
  Catalogs: EqualFunc over relations; the program's Same. MADE BY mkCatR.py
-/
import Derived.Test.YtegclfpmgilnpaaCatL
namespace Go.Proofs.Ytegclfpmgilnpaa
open Go.RowKit Go.Lac

theorem fieldCt (w : World) (b : Nat) : (Instr.fieldAt 103 (.pointer (some ⟨b, 0, none⟩)) 0).run Try.prog w = .ok (.pointer (some ⟨b, 0, none⟩)) w := by kernel_rfl
def csT (g1 g2 : Nat) (v1 v2 : Value) (D : Bool) : Tmp → Kn
  | 4 => .is (.bool D)
  | 5 => .is (.pointer (some ⟨g1, 0, none⟩))
  | 6 => .is (.pointer (some ⟨g1, 0, none⟩))
  | 7 => .is (.pointer (some ⟨g1, 0, none⟩))
  | 8 => .is v1
  | 9 => .is (.pointer (some ⟨g2, 0, none⟩))
  | 10 => .is (.pointer (some ⟨g2, 0, none⟩))
  | 11 => .is (.pointer (some ⟨g2, 0, none⟩))
  | 12 => .is v2
  | 13 => .is (.bool D)
  | _ => .any
set_option maxRecDepth 20000 in
set_option maxHeartbeats 2000000 in
theorem equalRl_any (v1 v2 : Value) (a b : List Rl) (w : World) (h1 : RlS (ColS w) w v1 a) (h2 : RlS (ColS w) w v2 b) :
    Calls Try.prog 57 #[v1, v2, .func (.func 58) #[] #[]] w fun e w' => e = .returned (.bool (decide (a = b))) ∧ Ext w w' := by
  have HA := Lib.hid h1; have HB := Lib.hid h2
  obtain ⟨ao, ac, rfl, k1, k2⟩ := h1.shape
  obtain ⟨bo, bc, rfl, k3, k4⟩ := h2.shape
  obtain ⟨ci, chi, _, chs, _⟩ := info_parts infoRlZ
  have CHI := Lib.hid chi; have CHS := Lib.hid chs
  have hm1 : a.length ≤ 9223372036854775807 := by unfold maxLen at k2; omega
  have hm2 : b.length ≤ 9223372036854775807 := by unfold maxLen at k4; omega
  clear h1 h2 k1 k2 k3 k4 chi chs
  by_cases hl : a.length = b.length
  case neg =>
    have HD : Hid (decide (a = b) = false) := Lib.hid (decide_eq_false fun e => hl (by rw [e]))
    have hle : (((a.length : Nat) : Int) == ((b.length : Nat) : Int)) = false := beq_eq_false_iff_ne.2 (by omega)
    have hle2 : (((a.length : Nat) : Int) != ((b.length : Nat) : Int)) = true := by rw [bne, hle]; rfl
    clear hl
    generalize a.length = n1 at *
    generalize b.length = n2 at *
    go_enter Try.func57, Try.ntmps57
    go_wp2
    go_ret
    exact ⟨by rw [HD.out]; rfl, Ch.refl _ _⟩
  generalize hn : b.length = n at *
  rw [hl] at HA hm1 ⊢
  have HN1 := Lib.hid hl; have HN2 := Lib.hid hn
  clear hl hn hm1
  go_enter Try.func57, Try.ntmps57
  go_wp2
  go_loopw [17] (fun ix wr => ∃ k : Nat, k ≤ n ∧ ix = .int .i64 k ∧ Hid (Ext w wr) ∧ Hid (∀ j (h : j < a.length) (h' : j < b.length), j < k → a[j] = b[j])) (fun ix _ => n - (intOf ix).toNat)
  case atStart => exact ⟨0, Nat.zero_le _, rfl, Lib.hid (Ch.refl _ _), Lib.hid fun j h h' hj => absurd hj (Nat.not_lt_zero _)⟩
  case round =>
    obtain ⟨k, hk, rfl, HX, HP⟩ := hrel
    by_cases hlt : k < n
    · have ha : k < a.length := by have := HN1.out; omega
      have hb : k < b.length := by have := HN2.out; omega
      obtain ⟨b1, o1, c1, rfl, hra0, hca0⟩ := rlS_at HA.out ha
      obtain ⟨b2, o2, c2, rfl, hrb0, hcb0⟩ := rlS_at HB.out hb
      have HNE : Hid (a[k] ≠ b[k] → decide (a = b) = false) := Lib.hid fun h => decide_eq_false fun e => h (by subst e; rfl)
      have HEQ : Hid (a[k] = b[k] → ∀ j (h : j < a.length) (h' : j < b.length), j < k + 1 → a[j] = b[j]) := Lib.hid fun e j h h' hj => by
        by_cases hjk : j < k
        · exact HP.out j h h' hjk
        · have : j = k := by omega
          subst this
          exact e
      generalize a[k] = x at *
      generalize b[k] = y at *
      obtain ⟨xo, xc, rfl, _⟩ := id hca0
      obtain ⟨yo, yc, rfl, _⟩ := id hcb0
      have hra : wr.rangeAt b1 (o1 + k * 5) (relv x (.slice xo x.cols.length xc)).toList := fun j u hu => HX.out.cell (p := ⟨b1, o1 + k * 5 + j, none⟩) (fun f => f) _ (hra0 j u hu)
      have hidxa := run_indexSl wr Try.underlying62 CHI.out CHS.out b1 o1 n ac k hlt
      obtain ⟨W1, hW1⟩ : ∃ W1, W1 = wr.alloc (.cells (relv x (.slice xo x.cols.length xc)) 39) := ⟨_, rfl⟩
      have hx1 : Ext wr W1 := by rw [hW1]; exact (Ch.refl _ _).alloc _
      have hrb : W1.rangeAt b2 (o2 + k * 5) (relv y (.slice yo y.cols.length yc)).toList := fun j u hu => (HX.out.trans hx1).cell (p := ⟨b2, o2 + k * 5 + j, none⟩) (fun f => f) _ (hrb0 j u hu)
      have hidxb := run_indexSl W1 Try.underlying62 CHI.out CHS.out b2 o2 n bc k hlt
      have q0 : wr.cell? ⟨b1, o1 + k * 5, none⟩ = some (.int .u32 (x.oid : Nat)) := by have := hra 0 _ rfl; simpa using this
      have q1 : wr.cell? ⟨b1, o1 + k * 5 + 1, none⟩ = some (.int .u32 (x.ver : Nat)) := hra 1 _ rfl
      have q2 : wr.cell? ⟨b1, o1 + k * 5 + 2, none⟩ = some (.string ⟨x.name.toArray⟩) := hra 2 _ rfl
      have q3 : wr.cell? ⟨b1, o1 + k * 5 + 3, none⟩ = some (.int .u8 (x.ident : Nat)) := hra 3 _ rfl
      have q4 : wr.cell? ⟨b1, o1 + k * 5 + 4, none⟩ = some (.slice xo x.cols.length xc) := hra 4 _ rfl
      have r0 : W1.cell? ⟨b2, o2 + k * 5, none⟩ = some (.int .u32 (y.oid : Nat)) := by have := hrb 0 _ rfl; simpa using this
      have r1 : W1.cell? ⟨b2, o2 + k * 5 + 1, none⟩ = some (.int .u32 (y.ver : Nat)) := hrb 1 _ rfl
      have r2 : W1.cell? ⟨b2, o2 + k * 5 + 2, none⟩ = some (.string ⟨y.name.toArray⟩) := hrb 2 _ rfl
      have r3 : W1.cell? ⟨b2, o2 + k * 5 + 3, none⟩ = some (.int .u8 (y.ident : Nat)) := hrb 3 _ rfl
      have r4 : W1.cell? ⟨b2, o2 + k * 5 + 4, none⟩ = some (.slice yo y.cols.length yc) := hrb 4 _ rfl
      obtain ⟨W2, hW2⟩ : ∃ W2, W2 = (wr.alloc (.cells (relv x (.slice xo x.cols.length xc)) 39)).alloc (.cells (relv y (.slice yo y.cols.length yc)) 39) := ⟨_, rfl⟩
      have HXX : Hid (Ext w W2) := Lib.hid (by rw [hW2]; exact (HX.out.alloc _).alloc _)
      have HAL := Lib.hid (relSame_any x y (.slice xo x.cols.length xc) (.slice yo y.cols.length yc) W2 (ColS.ext hca0 HXX.out) (ColS.ext hcb0 HXX.out))
      have HLT := Lib.hid hlt; have HW2 := Lib.hid hW2
      rw [hW1] at r0 r1 r2 r3 r4 hidxb
      clear hra0 hrb0 hra hrb ha hb hW1 hx1 hW2 hca0 hcb0
      unfold relv strV at HAL HW2 r0 r1 r2 r3 r4 hidxb
      go_wp2_with fail
      rw [← HW2.out]
      refine HAL.out.mono ?_
      rintro e w2 ⟨rfl, hx2⟩
      have HX2 := Lib.hid (HXX.out.trans hx2)
      clear hx2 HAL HXX q0 q1 q2 q3 q4 r0 r1 r2 r3 r4 hidxa hidxb
      by_cases hxy : x = y
      · have HPK := Lib.hid (HEQ.out hxy)
        rw [show decide (x = y) = true from decide_eq_true hxy]
        clear hxy HEQ HNE
        go_wp2
        go_roundw
        case rel => exact ⟨k + 1, HLT.out, by simp, HX2, HPK⟩
        case measure => simp [intOf]; have := HLT.out; omega
      · have HD := Lib.hid (HNE.out hxy)
        rw [show decide (x = y) = false from decide_eq_false hxy]
        clear hxy HEQ HNE
        go_wp2
        go_ret
        exact ⟨by rw [HD.out]; rfl, HX2.out⟩
    · obtain rfl : k = n := by omega
      have HD : Hid (decide (a = b) = true) := Lib.hid (decide_eq_true (List.ext_getElem (by rw [HN1.out, HN2.out]) fun j h h' => HP.out j h h' (by have := HN1.out; omega)))
      go_wp2
      go_ret
      exact ⟨by rw [HD.out]; rfl, HX.out⟩
set_option maxRecDepth 20000 in
set_option maxHeartbeats 2000000 in
theorem csame_any (b1 b2 : Nat) (p q : Value) (l m : List Rl) (w : World) (h1 : CatS b1 w p l) (h2 : CatS b2 w q m) :
    Calls Try.prog 30 #[p, q] w fun e w' => e = .returned (.bool (decide (l = m))) ∧ Ext w w' := by
  obtain ⟨g1, v1, rfl, _, k1, cs1, k2, k3⟩ := h1
  obtain ⟨g2, v2, rfl, _, k4, cs2, k5, k6⟩ := h2
  obtain ⟨vo1, vc1, hv1⟩ := owns_shape k3
  obtain ⟨vo2, vc2, hv2⟩ := owns_shape k6
  have C1 : Hid (w.cell? ⟨g1, 0, none⟩ = some v1) := Lib.hid (by rw [cell_of_row _ _ _ _ _ _ k1]; rfl)
  have C2 : Hid (w.cell? ⟨g2, 0, none⟩ = some v2) := Lib.hid (by rw [cell_of_row _ _ _ _ _ _ k4]; rfl)
  have HEQ : Hid (∀ w', Ext w w' → Calls Try.prog 57 #[v1, v2, .func (.func 58) #[] #[]] w' fun e w'' => e = .returned (.bool (decide (l = m))) ∧ Ext w' w'') := Lib.hid fun w' hx =>
    equalRl_any v1 v2 l m w' ⟨cs1, k2.imp fun u c h => Sl.ofOwns (OwnP.ext hx _ _ h), Sl.ofOwns (k3.ext hx)⟩ ⟨cs2, k5.imp fun u c h => Sl.ofOwns (OwnP.ext hx _ _ h), Sl.ofOwns (k6.ext hx)⟩
  subst hv1
  subst hv2
  generalize decide (l = m) = D at *
  clear k1 k2 k3 k4 k5 k6
  go_enter Try.func30, Try.ntmps30
  go_wp2
  refine wp_region_ext (csT g1 g2 (.slice vo1 l.length vc1) (.slice vo2 m.length vc2) D) mixedV (by rfl) (by rfl) ?all ?fin
  case all =>
    refine ⟨?_, ?_, ?_, ?_, ?_, ?_, ?_, ?_, ?_, ?_, trivial⟩
    · -- 0: slot 5 := Op.move t0
      refine StepOK.plain (kn_stable _) rfl fun ρ w hρ hw hf => ?_
      have h0 : ρ (.tmp 0) = (.pointer (some ⟨g1, 0, none⟩)) := (hf 0).2 rfl rfl
      exact Exec.kmove rfl rfl h0
    · -- 1: slot 6 := Op.nilCheck t5
      refine StepOK.plain (kn_stable _) rfl fun ρ w hρ hw hf => ?_
      have h5 : ρ (.tmp 5) = (.pointer (some ⟨g1, 0, none⟩)) := (hf 5).1 rfl
      exact Exec.same (v := .pointer (some ⟨g1, 0, none⟩)) rfl (by simp [go_sem, hρ.const, h5]) rfl
    · -- 2: slot 7 := Op.fieldAddr 103 t6 0
      refine StepOK.plain (kn_stable _) rfl fun ρ w hρ hw hf => ?_
      have h6 : ρ (.tmp 6) = (.pointer (some ⟨g1, 0, none⟩)) := (hf 6).1 rfl
      exact Exec.kfield rfl rfl h6 (fieldCt w _) rfl
    · -- 3: slot 8 := Op.load 62 t7
      refine StepOK.plain (kn_stable _) rfl fun ρ w hρ hw hf => ?_
      have h7 : ρ (.tmp 7) = (.pointer (some ⟨g1, 0, none⟩)) := (hf 7).1 rfl
      have hc : w.cell? ⟨g1, 0, none⟩ = some (.slice vo1 l.length vc1) := hw.cell (p := ⟨g1, 0, none⟩) (fun f => f) _ C1.out
      exact Exec.same (v := (.slice vo1 l.length vc1)) rfl (by simp [go_sem, hρ.const, h7, hc]) rfl
    · -- 4: slot 9 := Op.move t1
      refine StepOK.plain (kn_stable _) rfl fun ρ w hρ hw hf => ?_
      have h1 : ρ (.tmp 1) = (.pointer (some ⟨g2, 0, none⟩)) := (hf 1).2 rfl rfl
      exact Exec.kmove rfl rfl h1
    · -- 5: slot 10 := Op.nilCheck t9
      refine StepOK.plain (kn_stable _) rfl fun ρ w hρ hw hf => ?_
      have h9 : ρ (.tmp 9) = (.pointer (some ⟨g2, 0, none⟩)) := (hf 9).1 rfl
      exact Exec.same (v := .pointer (some ⟨g2, 0, none⟩)) rfl (by simp [go_sem, hρ.const, h9]) rfl
    · -- 6: slot 11 := Op.fieldAddr 103 t10 0
      refine StepOK.plain (kn_stable _) rfl fun ρ w hρ hw hf => ?_
      have h10 : ρ (.tmp 10) = (.pointer (some ⟨g2, 0, none⟩)) := (hf 10).1 rfl
      exact Exec.kfield rfl rfl h10 (fieldCt w _) rfl
    · -- 7: slot 12 := Op.load 62 t11
      refine StepOK.plain (kn_stable _) rfl fun ρ w hρ hw hf => ?_
      have h11 : ρ (.tmp 11) = (.pointer (some ⟨g2, 0, none⟩)) := (hf 11).1 rfl
      have hc : w.cell? ⟨g2, 0, none⟩ = some (.slice vo2 m.length vc2) := hw.cell (p := ⟨g2, 0, none⟩) (fun f => f) _ C2.out
      exact Exec.same (v := (.slice vo2 m.length vc2)) rfl (by simp [go_sem, hρ.const, h11, hc]) rfl
    · -- 8: slot 13 := Op.call { value (Operand.func 57), args := #[t8, t12, Operand.func 58]
      refine StepOK.plain (kn_stable _) rfl fun ρ w hρ hw hf => ?_
      have h8 : ρ (.tmp 8) = ((.slice vo1 l.length vc1)) := (hf 8).1 rfl
      have h12 : ρ (.tmp 12) = ((.slice vo2 m.length vc2)) := (hf 12).1 rfl
      refine Exec.kcall #[(.slice vo1 l.length vc1), (.slice vo2 m.length vc2), .func (.func 58) #[] #[]] hρ rfl rfl (by simp [h8, h12, hρ.func]) Try.func57 (by rfl) (by rfl) ((HEQ.out w hw).mono ?_)
      rintro e w' ⟨rfl, hx⟩
      exact ⟨_, rfl, rfl, hx⟩
    · -- 9: slot 4 := Op.assign t13
      refine StepOK.plain (kn_stable _) rfl fun ρ w hρ hw hf => ?_
      have h13 : ρ (.tmp 13) = (.bool D) := (hf 13).1 rfl
      exact Exec.kassign rfl rfl h13
  case fin =>
    intro ν w9 hfin hx9
    have e0 : ν 4 = .bool D := hfin 9 4 rfl
    simp only [Exit.then, ended, List.foldl_cons, List.foldl_nil, List.setIfInBounds_toArray, List.set_cons_succ, List.set_cons_zero, e0]
    clear hfin e0
    go_wp2
    go_ret
    exact ⟨rfl, hx9⟩
end Go.Proofs.Ytegclfpmgilnpaa
