/-
  Values: what is wrong with one: the program's answer.
-/
import Derived.Test.YtcejjckhhdgdnaaValD
namespace Go.Proofs.Ytcejjckhhdgdnaa
open Go.RowKit Go.Lac

theorem vErr_own (v : Val) (h1 : 1 ≤ v.ty) (h6 : v.ty ≤ 6) :
    vErr v = if v ≠ ownV v then 3 else if v.ty = 1 ∧ v.i ≠ 0 ∧ v.i ≠ 1 then 4 else if 2048 < v.t.length then 2 else if v.ty = 5 ∧ plainB v.t = false then 3 else 0 := by
  have key : ((2 < v.ty ∧ v.i ≠ 0) ∨ (v.ty ≠ 3 ∧ v.ty ≠ 4 ∧ v.re ≠ 0) ∨ (v.ty ≠ 4 ∧ v.im ≠ 0) ∨ (v.ty < 5 ∧ v.t ≠ [])) ↔ v ≠ ownV v := by
    obtain ⟨k, n, re, im, t⟩ := v
    unfold ownV
    simp only at h1 h6 ⊢
    have hk : k = 1 ∨ k = 2 ∨ k = 3 ∨ k = 4 ∨ k = 5 ∨ k = 6 := by omega
    rcases hk with rfl | rfl | rfl | rfl | rfl | rfl <;> simp <;> by_cases a : n = 0 <;> by_cases b : re = 0 <;> by_cases c : im = 0 <;> by_cases d : t = [] <;> simp [a, b, c, d]
  unfold vErr
  rw [if_neg (by omega)]
  by_cases h : v ≠ ownV v
  · rw [if_pos (key.2 h), if_pos h]
  · rw [if_neg (fun g => h (key.1 g)), if_neg h]

def rightT (V OV : Value) (d : Bool) : Tmp → Kn
  | 9 => .is V
  | 10 => .is V
  | 11 => .is OV
  | 12 => .is (.bool d)
  | 13 => .is (.bool (!d))
  | 8 => .is (.bool (!d))
  | _ => .any

set_option maxRecDepth 20000 in
set_option maxHeartbeats 4000000 in
theorem vright_any (v : Val) (w : World) :
    Calls Try.prog 80 #[pv v] w fun e w' => e = .returned (.int .i64 (vErr v : Nat)) ∧ Ext w w' := by
  by_cases hk : 1 ≤ v.ty ∧ v.ty ≤ 6
  · have hve := vErr_own v hk.1 hk.2
    obtain ⟨OV, hOV⟩ : ∃ OV, OV = pv (ownV v) := ⟨_, rfl⟩
    obtain ⟨d, hd⟩ : ∃ d, d = decide (v = ownV v) := ⟨_, rfl⟩
    have HO : Hid (∀ w, Calls Try.prog 100 #[pv v] w fun e w' => e = .returned OV ∧ Ext w w') := Lib.hid fun w => by rw [hOV]; exact own_any v w hk.1 hk.2
    have HSAME : Hid (∀ w, Calls Try.prog 99 #[pv v, OV] w fun e w' => e = .returned (.bool d) ∧ Ext w w') := Lib.hid fun w => by rw [hOV, hd]; exact same_any v _ w
    have HD := Lib.hid hd
    have hit := isType_any v.ty
    rw [decide_eq_true hk] at hit
    have HIT := Lib.hid hit
    obtain ⟨E, hE⟩ : ∃ E, E = vErr v := ⟨_, rfl⟩
    have HE : Hid (d = decide (v = ownV v) ∧ E = _) := Lib.hid ⟨hd, hE.trans hve⟩
    rw [← hE]
    clear hE hve hd hOV hit HD
    have htx := fun w h => isText_any v.t w h
    have HLEN : Hid ((⟨v.t.toArray⟩ : ByteArray).size = v.t.length) := Lib.hid (by simp [ByteArray.size])
    generalize ownV v = ov at HE
    obtain ⟨k, n, re, im, t⟩ := v
    unfold pv pvals strV at *
    simp only at hk HE HIT htx HO HSAME HLEN ⊢
    generalize (⟨t.toArray⟩ : ByteArray) = A at *
    have HTX := Lib.hid htx
    have HP : Hid (∀ d', d' = d → E = if d' = false then 3 else if k = 1 ∧ n ≠ 0 ∧ n ≠ 1 then 4 else if 2048 < t.length then 2 else if k = 5 ∧ plainB t = false then 3 else 0) := Lib.hid fun d' h => by
      obtain ⟨h1, h2⟩ := HE.out
      rw [h2, h, h1]
      simp
    obtain ⟨w1, hw1⟩ : ∃ w1, w1 = w.alloc (.cells #[.int .u8 (k : Nat), .int .i64 n, .complex .f64 re im, .string A] 135) := ⟨_, rfl⟩
    have hr1 : w1.heap[w.heap.size]? = some (.cells #[.int .u8 (k : Nat), .int .i64 n, .complex .f64 re im, .string A] 135 (0, 0)) := by rw [hw1]; exact heap_alloc_new _ _
    have hx1 : Ext w w1 := by rw [hw1]; exact (Ch.refl _ _).alloc _
    have HR1 := Lib.hid hr1; have HX1 := Lib.hid hx1; have HW1 := Lib.hid hw1; have HK := Lib.hid hk
    clear hr1 hx1 hw1 htx HE hk
    go_enter Try.func80, Try.ntmps80
    go_wp2_with (go_at_call 98; refine (HIT.out _).mono ?_; rintro e w' ⟨rfl, rfl⟩)
    rw [← HW1.out]
    refine wp_region_ext (rightT (.agg #[.int .u8 (k : Nat), .int .i64 n, .complex .f64 re im, .string A]) OV d) mixedV (by rfl) (by rfl) ?all ?fin
    case all =>
      refine ⟨?_, ?_, ?_, ?_, ?_, ?_, trivial⟩
      · refine StepOK.plain (kn_stable _) rfl fun ρ w hρ hw hf => ?_
        have h1 : ρ (.tmp 1) = .pointer (some ⟨_, 0, none⟩) := (hf 1).2 rfl rfl
        exact Exec.kloadrow rfl rfl h1 ((hw.block _ (Array.getElem?_eq_some_iff.1 HR1.out).1 (fun f => f)).trans HR1.out) Try.underlying135 rfl info61 rfl
      · refine StepOK.plain (kn_stable _) rfl fun ρ w hρ hw hf => ?_
        have h1 : ρ (.tmp 1) = .pointer (some ⟨_, 0, none⟩) := (hf 1).2 rfl rfl
        exact Exec.kloadrow rfl rfl h1 ((hw.block _ (Array.getElem?_eq_some_iff.1 HR1.out).1 (fun f => f)).trans HR1.out) Try.underlying135 rfl info61 rfl
      · refine StepOK.plain (kn_stable _) rfl fun ρ w hρ hw hf => ?_
        have h10 : ρ (.tmp 10) = .agg #[.int .u8 (k : Nat), .int .i64 n, .complex .f64 re im, .string A] := (hf 10).1 rfl
        exact Exec.kcall #[.agg #[.int .u8 (k : Nat), .int .i64 n, .complex .f64 re im, .string A]] hρ rfl rfl (by simp [h10]) Try.func100 (by kernel_rfl) (by kernel_rfl) ((HO.out w).mono (by rintro e w' ⟨rfl, hx⟩; exact ⟨_, rfl, rfl, hx⟩))
      · refine StepOK.plain (kn_stable _) rfl fun ρ w hρ hw hf => ?_
        have h9 : ρ (.tmp 9) = .agg #[.int .u8 (k : Nat), .int .i64 n, .complex .f64 re im, .string A] := (hf 9).1 rfl
        have h11 : ρ (.tmp 11) = OV := (hf 11).1 rfl
        exact Exec.kcall #[.agg #[.int .u8 (k : Nat), .int .i64 n, .complex .f64 re im, .string A], OV] hρ rfl rfl (by simp [h9, h11]) Try.func99 (by kernel_rfl) (by kernel_rfl) ((HSAME.out w).mono (by rintro e w' ⟨rfl, hx⟩; exact ⟨_, rfl, rfl, hx⟩))
      · refine StepOK.plain (kn_stable _) rfl fun ρ w hρ hw hf => ?_
        have h12 : ρ (.tmp 12) = .bool d := (hf 12).1 rfl
        exact Exec.same (v := .bool (!d)) rfl (by simp [go_sem, hρ.const, h12]) rfl
      · refine StepOK.plain (kn_stable _) rfl fun ρ w hρ hw hf => ?_
        have h13 : ρ (.tmp 13) = .bool (!d) := (hf 13).1 rfl
        exact Exec.kassign rfl rfl h13
    case fin =>
      intro ν w2 hfin hext
      have e8 : ν 8 = .bool (!d) := hfin 5 8 rfl
      have HX2 := Lib.hid (HX1.out.trans hext)
      have hr2 := (hext.block w.heap.size (Array.getElem?_eq_some_iff.1 HR1.out).1 (fun f => f)).trans HR1.out
      have c0 : w2.cell? ⟨w.heap.size, 0, none⟩ = some (.int .u8 (k : Nat)) := by rw [cell_of_row _ _ _ _ _ _ hr2]; rfl
      have c1 : w2.cell? ⟨w.heap.size, 1, none⟩ = some (.int .i64 n) := by rw [cell_of_row _ _ _ _ _ _ hr2]; rfl
      have c3 : w2.cell? ⟨w.heap.size, 3, none⟩ = some (.string A) := by rw [cell_of_row _ _ _ _ _ _ hr2]; rfl
      simp only [Exit.then, ended, List.foldl_cons, List.foldl_nil, List.setIfInBounds_toArray, List.set_cons_succ, List.set_cons_zero, e8]
      clear hfin hext hr2 e8
      cases d with
      | false =>
        have HF : Hid (E = 3) := Lib.hid (by rw [HP.out false rfl]; rfl)
        clear HP HO HSAME HIT HTX
        go_wp2
        go_ret
        exact ⟨by rw [HF.out]; rfl, HX2.out⟩
      | true =>
        have hE := HP.out true rfl
        rw [if_neg (by decide)] at hE
        have hs := HLEN.out
        clear HP HO HSAME HIT
        have fin4 : ∀ (b : Bool), b = decide (k = 1 ∧ n ≠ 0 ∧ n ≠ 1) → b = true → E = 4 := fun b h1 h2 => by rw [hE, if_pos (by simpa [h1] using h2)]
        by_cases g1 : k = 1 ∧ n ≠ 0 ∧ n ≠ 1
        · have HF : Hid (E = 4) := Lib.hid (by rw [hE, if_pos g1])
          obtain ⟨rfl, g2, g3⟩ := g1
          have e2 : (n != 0) = true := by simpa using g2
          have e3 : (n != 1) = true := by simpa using g3
          clear hE HTX g2 g3 fin4
          go_wp2
          go_ret
          exact ⟨by rw [HF.out]; rfl, HX2.out⟩
        · rw [if_neg g1] at hE
          clear fin4
          by_cases g4 : 2048 < t.length
          · have HF : Hid (E = 2) := Lib.hid (by rw [hE, if_pos g4])
            clear hE HTX
            generalize t.length = m at *
            by_cases g5 : k = 1
            · have g6 : n = 0 ∨ n = 1 := by
                by_cases a : n = 0
                · exact .inl a
                · exact .inr (Decidable.byContradiction fun b => g1 ⟨g5, a, b⟩)
              clear g1
              rcases g6 with rfl | rfl
              · go_wp2
                go_ret
                exact ⟨by rw [HF.out]; rfl, HX2.out⟩
              · go_wp2
                go_ret
                exact ⟨by rw [HF.out]; rfl, HX2.out⟩
            · have e1 : (((k : Nat) : Int) == 1) = false := by simp; omega
              clear g1 g5
              go_wp2
              go_ret
              exact ⟨by rw [HF.out]; rfl, HX2.out⟩
          · rw [if_neg g4] at hE
            have HPL := Lib.hid (HTX.out w2 (by omega))
            generalize plainB t = pb at *
            have HE := Lib.hid hE
            generalize t.length = m at *
            have g4' : m ≤ 2048 := by omega
            clear hE HTX g4
            by_cases g5 : k = 1
            · have g6 : n = 0 ∨ n = 1 := by
                by_cases a : n = 0
                · exact .inl a
                · exact .inr (Decidable.byContradiction fun b => g1 ⟨g5, a, b⟩)
              have HF : Hid (E = 0) := Lib.hid (by rw [HE.out, if_neg (by omega)])
              subst g5
              clear g1 HE
              rcases g6 with rfl | rfl
              · go_wp2
                go_ret
                exact ⟨by rw [HF.out]; rfl, HX2.out⟩
              · go_wp2
                go_ret
                exact ⟨by rw [HF.out]; rfl, HX2.out⟩
            · have e1 : (((k : Nat) : Int) == 1) = false := by simp; omega
              clear g1 g5
              by_cases g7 : k = 5
              · have HF : Hid (E = if pb = false then 3 else 0) := Lib.hid (by rw [HE.out]; simp [g7])
                subst g7
                clear HE
                cases pb with
                | false =>
                  go_wp2_with (go_at_call 101; refine HPL.out.mono ?_; rintro e w' ⟨rfl, rfl⟩)
                  go_ret
                  exact ⟨by rw [HF.out]; rfl, HX2.out⟩
                | true =>
                  go_wp2_with (go_at_call 101; refine HPL.out.mono ?_; rintro e w' ⟨rfl, rfl⟩)
                  go_ret
                  exact ⟨by rw [HF.out]; rfl, HX2.out⟩
              · have HF : Hid (E = 0) := Lib.hid (by rw [HE.out, if_neg (fun h => g7 h.1)])
                have e5 : (((k : Nat) : Int) == 5) = false := by simp; omega
                clear HE g7
                go_wp2
                go_ret
                exact ⟨by rw [HF.out]; rfl, HX2.out⟩
  · have he : vErr v = 11 := by unfold vErr; rw [if_pos (by omega)]
    have hit := isType_any v.ty
    rw [decide_eq_false hk] at hit
    have HIT := Lib.hid hit
    rw [he]
    obtain ⟨k, n, re, im, t⟩ := v
    unfold pv pvals strV at *
    simp only at hk HIT ⊢
    clear he hit hk
    have HX : Hid (Ext w (w.alloc (.cells #[.int .u8 (k : Nat), .int .i64 n, .complex .f64 re im, .string ⟨t.toArray⟩] 135))) := Lib.hid ((Ch.refl _ _).alloc _)
    generalize (⟨t.toArray⟩ : ByteArray) = A at *
    go_enter Try.func80, Try.ntmps80
    go_wp2_with (go_at_call 98; refine (HIT.out _).mono ?_; rintro e w' ⟨rfl, rfl⟩)
    go_ret
    exact ⟨rfl, HX.out⟩
end Go.Proofs.Ytcejjckhhdgdnaa
