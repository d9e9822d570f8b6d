/-
  Catalogs: the document's Same.
-/
import Derived.Test.YtegclfpmgilnpaaCatK
namespace Go.Proofs.Ytegclfpmgilnpaa
open Go.RowKit Go.Lac

def rsT (b1 o1 b2 o2 n ac bc k : Nat) (x y : Rl) (cx cy : Value) (D : Bool) : Tmp → Kn
  | 17 => .is (.slice (some ⟨b1, o1, none⟩) n ac)
  | 18 => .is (.int .i64 (k : Nat))
  | 19 => .is (.pointer (some ⟨b1, o1 + k * 5, none⟩))
  | 20 => .is (.agg (relv x cx))
  | 21 => .is (.slice (some ⟨b2, o2, none⟩) n bc)
  | 22 => .is (.int .i64 (k : Nat))
  | 23 => .is (.pointer (some ⟨b2, o2 + k * 5, none⟩))
  | 24 => .is (.agg (relv y cy))
  | 25 => .is (.bool D)
  | 26 => .is (.bool (!D))
  | _ => .any
set_option maxRecDepth 20000 in
set_option maxHeartbeats 2000000 in
theorem rSame9_any (v1 v2 : Value) (a b : List Rl) (w : World) (h1 : RlS (ColS w) w v1 a) (h2 : RlS (ColS w) w v2 b) :
    Calls Try.prog 21 #[v1, v2] w fun e w' => e = .returned (.bool (decide (a = b))) ∧ Ext w w' := by
  have HA := Lib.hid h1; have HB := Lib.hid h2
  obtain ⟨ao, ac, rfl, k1, k2⟩ := h1.shape
  obtain ⟨bo, bc, rfl, k3, k4⟩ := h2.shape
  obtain ⟨ci, chi, _, chs, _⟩ := info_parts infoQlZ
  have CHI := Lib.hid chi; have CHS := Lib.hid chs
  have hm1 : a.length ≤ 9223372036854775807 := by unfold maxLen at k2; omega
  have hm2 : b.length ≤ 9223372036854775807 := by unfold maxLen at k4; omega
  clear h1 h2 k1 k2 k3 k4 chi chs
  by_cases hl : a.length = b.length
  case neg =>
    have HD : Hid (decide (a = b) = false) := Lib.hid (decide_eq_false fun e => hl (by rw [e]))
    have hle : (((a.length : Nat) : Int) == ((b.length : Nat) : Int)) = false := beq_eq_false_iff_ne.2 (by omega)
    have hle2 : (((a.length : Nat) : Int) != ((b.length : Nat) : Int)) = true := by rw [bne, hle]; rfl
    clear hl
    generalize a.length = n1 at *
    generalize b.length = n2 at *
    go_enter Try.func21, Try.ntmps21
    go_wp2
    go_ret
    exact ⟨by rw [HD.out]; rfl, Ch.refl _ _⟩
  generalize hn : b.length = n at *
  rw [hl] at HA hm1 ⊢
  have HN1 := Lib.hid hl; have HN2 := Lib.hid hn
  clear hl hn hm1
  go_enter Try.func21, Try.ntmps21
  go_wp2
  go_loopw [5] (fun ix wr => ∃ k : Nat, k ≤ n ∧ ix = .int .i64 k ∧ Hid (Ext w wr) ∧ Hid (∀ j (h : j < a.length) (h' : j < b.length), j < k → a[j] = b[j])) (fun ix _ => n - (intOf ix).toNat)
  case atStart => exact ⟨0, Nat.zero_le _, rfl, Lib.hid (Ch.refl _ _), Lib.hid fun j h h' hj => absurd hj (Nat.not_lt_zero _)⟩
  case round =>
    obtain ⟨k, hk, rfl, HX, HP⟩ := hrel
    by_cases hlt : k < n
    · have ha : k < a.length := by have := HN1.out; omega
      have hb : k < b.length := by have := HN2.out; omega
      obtain ⟨b1, o1, c1, rfl, hra, hca⟩ := rlS_at HA.out ha
      obtain ⟨b2, o2, c2, rfl, hrb, hcb⟩ := rlS_at HB.out hb
      have HNE : Hid (a[k] ≠ b[k] → decide (a = b) = false) := Lib.hid fun h => decide_eq_false fun e => h (by subst e; rfl)
      have HEQ : Hid (a[k] = b[k] → ∀ j (h : j < a.length) (h' : j < b.length), j < k + 1 → a[j] = b[j]) := Lib.hid fun e j h h' hj => by
        by_cases hjk : j < k
        · exact HP.out j h h' hjk
        · have : j = k := by omega
          subst this
          exact e
      generalize a[k] = x at *
      generalize b[k] = y at *
      have RA : Hid (wr.rangeAt b1 (o1 + k * 5) (relv x c1).toList) := Lib.hid fun j u hu => HX.out.cell (p := ⟨b1, o1 + k * 5 + j, none⟩) (fun f => f) _ (hra j u hu)
      have RB : Hid (wr.rangeAt b2 (o2 + k * 5) (relv y c2).toList) := Lib.hid fun j u hu => HX.out.cell (p := ⟨b2, o2 + k * 5 + j, none⟩) (fun f => f) _ (hrb j u hu)
      have HSM := Lib.hid (fun w2 (hx : Ext wr w2) => refSame_any x y c1 c2 w2 (ColS.ext hca (HX.out.trans hx)) (ColS.ext hcb (HX.out.trans hx)))
      have HLT := Lib.hid hlt
      obtain ⟨D, hD⟩ : ∃ D, D = decide (x = y) := ⟨_, rfl⟩
      have HDE := Lib.hid hD
      rw [← hD] at HSM
      clear hra hrb hca hcb ha hb hD
      go_wp2
      refine wp_region_ext (rsT b1 o1 b2 o2 n ac bc k x y c1 c2 D) mixedV (by rfl) (by rfl) ?all ?fin
      case all =>
          refine ⟨?_, ?_, ?_, ?_, ?_, ?_, ?_, ?_, ?_, ?_, trivial⟩
          · -- 0: slot 17 := Op.move t0
            refine StepOK.plain (kn_stable _) rfl fun ρ w hρ hw hf => ?_
            have h0 : ρ (.tmp 0) = (.slice (some ⟨b1, o1, none⟩) n ac) := (hf 0).2 rfl rfl
            exact Exec.kmove rfl rfl h0
          · -- 1: slot 18 := Op.move t5
            refine StepOK.plain (kn_stable _) rfl fun ρ w hρ hw hf => ?_
            have h5 : ρ (.tmp 5) = (.int .i64 (k : Nat)) := (hf 5).2 rfl rfl
            exact Exec.kmove rfl rfl h5
          · -- 2: slot 19 := Op.indexAddr 61 t17 t18
            refine StepOK.plain (kn_stable _) rfl fun ρ w hρ hw hf => ?_
            have h17 : ρ (.tmp 17) = (.slice (some ⟨b1, o1, none⟩) n ac) := (hf 17).1 rfl
            have h18 : ρ (.tmp 18) = (.int .i64 (k : Nat)) := (hf 18).1 rfl
            exact Exec.kindex rfl rfl Try.underlying22 CHI.out CHS.out h17 h18 HLT.out rfl
          · -- 3: slot 20 := Op.load 27 t19
            refine StepOK.plain (kn_stable _) rfl fun ρ w hρ hw hf => ?_
            have h19 : ρ (.tmp 19) = (.pointer (some ⟨b1, o1 + k * 5, none⟩)) := (hf 19).1 rfl
            have hm : w.rangeAt b1 (o1 + k * 5) (relv x c1).toList := fun j u hu => hw.cell (p := ⟨b1, o1 + k * 5 + j, none⟩) (fun f => f) _ (RA.out j u hu)
            have hr := run_loadAt_mid (P := Try.prog) w b1 (o1 + k * 5) 33 (relv x c1).toList _ hm Try.underlying33 rfl infoQl
            exact Exec.same (v := .agg (relv x c1)) rfl (by unfold execOp; simp only [h19, Sem.run_bind, hr, Result.andThen_ok, Sem.run_pure]) rfl
          · -- 4: slot 21 := Op.move t1
            refine StepOK.plain (kn_stable _) rfl fun ρ w hρ hw hf => ?_
            have h1 : ρ (.tmp 1) = (.slice (some ⟨b2, o2, none⟩) n bc) := (hf 1).2 rfl rfl
            exact Exec.kmove rfl rfl h1
          · -- 5: slot 22 := Op.move t5
            refine StepOK.plain (kn_stable _) rfl fun ρ w hρ hw hf => ?_
            have h5 : ρ (.tmp 5) = (.int .i64 (k : Nat)) := (hf 5).2 rfl rfl
            exact Exec.kmove rfl rfl h5
          · -- 6: slot 23 := Op.indexAddr 61 t21 t22
            refine StepOK.plain (kn_stable _) rfl fun ρ w hρ hw hf => ?_
            have h21 : ρ (.tmp 21) = (.slice (some ⟨b2, o2, none⟩) n bc) := (hf 21).1 rfl
            have h22 : ρ (.tmp 22) = (.int .i64 (k : Nat)) := (hf 22).1 rfl
            exact Exec.kindex rfl rfl Try.underlying22 CHI.out CHS.out h21 h22 HLT.out rfl
          · -- 7: slot 24 := Op.load 27 t23
            refine StepOK.plain (kn_stable _) rfl fun ρ w hρ hw hf => ?_
            have h23 : ρ (.tmp 23) = (.pointer (some ⟨b2, o2 + k * 5, none⟩)) := (hf 23).1 rfl
            have hm : w.rangeAt b2 (o2 + k * 5) (relv y c2).toList := fun j u hu => hw.cell (p := ⟨b2, o2 + k * 5 + j, none⟩) (fun f => f) _ (RB.out j u hu)
            have hr := run_loadAt_mid (P := Try.prog) w b2 (o2 + k * 5) 33 (relv y c2).toList _ hm Try.underlying33 rfl infoQl
            exact Exec.same (v := .agg (relv y c2)) rfl (by unfold execOp; simp only [h23, Sem.run_bind, hr, Result.andThen_ok, Sem.run_pure]) rfl
          · -- 8: slot 25 := Op.call { value (Operand.func 19), args := #[t20, t24], argTypes := #[
            refine StepOK.plain (kn_stable _) rfl fun ρ w hρ hw hf => ?_
            have h20 : ρ (.tmp 20) = (.agg (relv x c1)) := (hf 20).1 rfl
            have h24 : ρ (.tmp 24) = (.agg (relv y c2)) := (hf 24).1 rfl
            refine Exec.kcall #[.agg (relv x c1), .agg (relv y c2)] hρ rfl rfl (by simp [h20, h24]) Try.func22 (by rfl) (by rfl) ((HSM.out w hw).mono ?_)
            rintro e w' ⟨rfl, hx⟩
            exact ⟨_, rfl, rfl, hx⟩
          · -- 9: slot 26 := Op.unOp UnOp.not 4 t25
            refine StepOK.plain (kn_stable _) rfl fun ρ w hρ hw hf => ?_
            have h25 : ρ (.tmp 25) = (.bool D) := (hf 25).1 rfl
            exact Exec.same (v := .bool (!D)) rfl (by simp [go_sem, hρ.const, h25]) rfl
      case fin =>
        intro ν w9 hfin hx9
        have e0 : ν 26 = .bool (!D) := hfin 9 26 rfl
        simp only [Exit.then, ended, List.foldl_cons, List.foldl_nil, List.setIfInBounds_toArray, List.set_cons_succ, List.set_cons_zero, e0]
        have HX9 := Lib.hid (HX.out.trans hx9)
        clear hfin hx9 e0
        by_cases hxy : x = y
        · have HPK := Lib.hid (HEQ.out hxy)
          rw [show D = true by rw [HDE.out]; exact decide_eq_true hxy]
          clear hxy HEQ HNE
          go_wp2
          go_roundw
          case rel => exact ⟨k + 1, HLT.out, by simp, HX9, HPK⟩
          case measure => simp [intOf]; have := HLT.out; omega
        · have HD := Lib.hid (HNE.out hxy)
          rw [show D = false by rw [HDE.out]; exact decide_eq_false hxy]
          clear hxy HEQ HNE
          go_wp2
          go_ret
          exact ⟨by rw [HD.out]; rfl, HX9.out⟩
    · obtain rfl : k = n := by omega
      have HD : Hid (decide (a = b) = true) := Lib.hid (decide_eq_true (List.ext_getElem (by rw [HN1.out, HN2.out]) fun j h h' => HP.out j h h' (by have := HN1.out; omega)))
      go_wp2
      go_ret
      exact ⟨by rw [HD.out]; rfl, HX.out⟩
end Go.Proofs.Ytegclfpmgilnpaa
