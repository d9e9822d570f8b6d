/-
  Relations: a column's form; refs compared.
-/
import Derived.Test.YtcejjckhhdgdnaaRelB
import Derived.Test.YtcejjckhhdgdnaaValC
namespace Go.Proofs.Ytcejjckhhdgdnaa
open Go.RowKit Go.Lac

set_option maxRecDepth 20000 in
set_option maxHeartbeats 800000 in
theorem form_any (c : Col) (w : World) (ht : c.ty < 128) :
    Calls Try.prog 46 #[pcol c] w fun e w' => e = .returned (.int .u8 (colForm c : Nat)) ∧ Ext w w' := by
  have hg := heap_alloc_new w (.cells (colv c) 49)
  obtain ⟨W, hW⟩ : ∃ W, W = w.alloc (.cells (colv c) 49) := ⟨_, rfl⟩
  have hx : Ext w W := by rw [hW]; exact (Ch.refl _ _).alloc _
  have c1 : W.cell? ⟨w.heap.size, 1, none⟩ = some (.int .u8 (c.ty : Nat)) := by rw [hW, cell_of_row _ _ _ _ _ _ hg]; rfl
  have c2 : W.cell? ⟨w.heap.size, 2, none⟩ = some (.bool c.key) := by rw [hW, cell_of_row _ _ _ _ _ _ hg]; rfl
  have HX := Lib.hid hx; have HW := Lib.hid hW
  have ho := or128 ht
  rw [hW] at c1 c2
  unfold colForm
  unfold pcol
  clear hg hx hW ht
  cases hk : c.key with
  | true =>
    rw [hk] at c2
    rw [if_pos rfl]
    clear hk
    generalize c.ty = k at *
    generalize colv c = cv at *
    go_enter Try.func46, Try.ntmps46
    go_wp2
    go_ret
    rw [← HW.out]
    exact ⟨rfl, HX.out⟩
  | false =>
    rw [hk] at c2
    rw [if_neg (by simp)]
    clear hk
    generalize c.ty = k at *
    generalize colv c = cv at *
    go_enter Try.func46, Try.ntmps46
    go_wp2
    go_ret
    rw [← HW.out]
    exact ⟨rfl, HX.out⟩
/-- cmp.Or of two. -/
def orN (a b : Int) : Int := if a ≠ 0 then a else b
set_option maxRecDepth 20000 in
set_option maxHeartbeats 800000 in
theorem or_any (g : Nat) (a b : Int) (w : World) (hg : w.heap[g]? = some (.cells #[.int .i64 a, .int .i64 b] 3 (0, 0))) :
    Calls Try.prog 54 #[.slice (some ⟨g, 0, none⟩) 2 2] w fun e w' => e = .returned (.int .i64 (orN a b)) ∧ w = w' := by
  have c0 : w.cell? ⟨g, 0, none⟩ = some (.int .i64 a) := by rw [cell_of_row _ _ _ _ _ _ hg]; rfl
  have c1 : w.cell? ⟨g, 1, none⟩ = some (.int .i64 b) := by rw [cell_of_row _ _ _ _ _ _ hg]; rfl
  have infoI : (Try.prog.info? 3).map (·.size) = some 1 := by kernel_rfl
  have hi0 : (Instr.indexAt 136 (.slice (some ⟨g, 0, none⟩) 2 2) (.int .i64 0)).run Try.prog w = .ok (.pointer (some ⟨g, 0, none⟩)) w := by
    cases hq : Try.prog.info? 3 with
    | none => rw [hq] at infoI; cases infoI
    | some i =>
      have hs : i.size = 1 := by rw [hq] at infoI; simpa using infoI
      exact run_indexSl w Try.underlying136 hq hs g 0 2 2 0 (by decide)
  have hi1 : (Instr.indexAt 136 (.slice (some ⟨g, 0, none⟩) 2 2) (.int .i64 1)).run Try.prog w = .ok (.pointer (some ⟨g, 1, none⟩)) w := by
    cases hq : Try.prog.info? 3 with
    | none => rw [hq] at infoI; cases infoI
    | some i =>
      have hs : i.size = 1 := by rw [hq] at infoI; simpa using infoI
      exact run_indexSl w Try.underlying136 hq hs g 0 2 2 1 (by decide)
  have HP : Hid ((a ≠ 0 → orN a b = a) ∧ (a = 0 → orN a b = b)) := Lib.hid ⟨fun h => by unfold orN; rw [if_pos h], fun h => by unfold orN; rw [if_neg (by simpa using h)]⟩
  generalize orN a b = D at *
  clear hg infoI
  go_enter Try.func54, Try.ntmps54
  go_wp2
  go_loop [8] (fun ix => ∃ k : Nat, k ≤ 2 ∧ ix = .int .i64 k ∧ Hid (0 < k → a = 0) ∧ Hid (1 < k → b = 0)) (fun ix => 2 - (intOf ix).toNat)
  case atStart => exact ⟨0, by decide, rfl, Lib.hid (fun h => absurd h (by decide)), Lib.hid (fun h => absurd h (by decide))⟩
  case round =>
    obtain ⟨k, hk, rfl, HA, HB⟩ := hrel
    have h3 : k = 0 ∨ k = 1 ∨ k = 2 := by omega
    rcases h3 with rfl | rfl | rfl
    · by_cases ha : a = 0
      · have e0 : (a != 0) = false := by simpa using ha
        have HR : Hid (0 < 0 + 1 → a = 0) := Lib.hid fun _ => ha
        clear ha
        go_wp2
        go_round
        case rel => exact ⟨1, by decide, rfl, HR, Lib.hid fun h => absurd h (by decide)⟩
        case measure => decide
      · have e0 : (a != 0) = true := by simpa using ha
        have HD := Lib.hid (HP.out.1 ha)
        clear ha
        go_wp2
        go_ret
        exact ⟨by rw [HD.out]; rfl, rfl⟩
    · have HA0 := Lib.hid (HA.out (by decide))
      by_cases hb : b = 0
      · have e0 : (b != 0) = false := by simpa using hb
        have HR := Lib.hid hb
        clear hb
        go_wp2
        go_round
        case rel => exact ⟨2, by decide, rfl, Lib.hid fun _ => HA0.out, Lib.hid fun _ => HR.out⟩
        case measure => decide
      · have e0 : (b != 0) = true := by simpa using hb
        have HD := Lib.hid (HP.out.2 HA0.out)
        clear hb
        go_wp2
        go_ret
        exact ⟨by rw [HD.out]; rfl, rfl⟩
    · have HD : Hid (D = 0) := Lib.hid (by rw [HP.out.2 (HA.out (by decide)), HB.out (by decide)])
      go_wp2
      go_ret
      exact ⟨by rw [HD.out]; rfl, rfl⟩
/-- Two numbers in a fresh row. -/
def Kn.two (x y : Int) : Kn := ⟨fun v w => ∃ g, v = .slice (some ⟨g, 0, none⟩) 2 2 ∧ w.heap[g]? = some (.cells #[.int .i64 x, .int .i64 y] 3 (0, 0)), fun _ _ _ k ⟨g, h1, h2⟩ => ⟨g, h1, heap_of_ext k h2⟩⟩
theorem fieldRf_0 (w : World) (b : Nat) : (Instr.fieldAt 29 (.pointer (some ⟨b, 0, none⟩)) 0).run Try.prog w = .ok (.pointer (some ⟨b, 0, none⟩)) w := by kernel_rfl
theorem fieldRf_1 (w : World) (b : Nat) : (Instr.fieldAt 29 (.pointer (some ⟨b, 0, none⟩)) 1).run Try.prog w = .ok (.pointer (some ⟨b, 1, none⟩)) w := by kernel_rfl
def cmpT (g1 g2 a1 a2 b1 b2 : Nat) : Tmp → Kn
  | 5 => .is (.pointer (some ⟨g1, 0, none⟩))
  | 6 => .is (.int .u32 (a1 : Nat))
  | 7 => .is (.pointer (some ⟨g2, 0, none⟩))
  | 8 => .is (.int .u32 (b1 : Nat))
  | 9 => .is (.int .i64 (cmpN a1 b1))
  | 10 => .is (.pointer (some ⟨g1, 1, none⟩))
  | 11 => .is (.int .u32 (a2 : Nat))
  | 12 => .is (.pointer (some ⟨g2, 1, none⟩))
  | 13 => .is (.int .u32 (b2 : Nat))
  | 14 => .is (.int .i64 (cmpN a2 b2))
  | 15 => Kn.two (cmpN a1 b1) (cmpN a2 b2)
  | 16 => .is (.int .i64 (orN (cmpN a1 b1) (cmpN a2 b2)))
  | 4 => .is (.int .i64 (orN (cmpN a1 b1) (cmpN a2 b2)))
  | _ => .any
theorem two_run (w : World) (x y : Int) : (Instr.buildSlice 136 2 #[(0, .int .i64 x), (1, .int .i64 y)]).run Try.prog w = .ok (.slice (some ⟨w.heap.size, 0, none⟩) 2 2) (w.alloc (.cells #[.int .i64 x, .int .i64 y] 3)) := by kernel_rfl
set_option maxRecDepth 20000 in
set_option maxHeartbeats 1600000 in
theorem refCompare_any (a1 a2 b1 b2 : Nat) (w : World) :
    Calls Try.prog 20 #[.agg #[.int .u32 (a1 : Nat), .int .u32 (a2 : Nat)], .agg #[.int .u32 (b1 : Nat), .int .u32 (b2 : Nat)]] w fun e w' => e = .returned (.int .i64 (orN (cmpN a1 b1) (cmpN a2 b2))) ∧ Ext w w' := by
  have h1 := heap_alloc2_old w (.cells #[.int .u32 (a1 : Nat), .int .u32 (a2 : Nat)] 29) (.cells #[.int .u32 (b1 : Nat), .int .u32 (b2 : Nat)] 29)
  have h2 := heap_alloc2_new w (.cells #[.int .u32 (a1 : Nat), .int .u32 (a2 : Nat)] 29) (.cells #[.int .u32 (b1 : Nat), .int .u32 (b2 : Nat)] 29)
  obtain ⟨W, hW⟩ : ∃ W, W = (w.alloc (.cells #[.int .u32 (a1 : Nat), .int .u32 (a2 : Nat)] 29)).alloc (.cells #[.int .u32 (b1 : Nat), .int .u32 (b2 : Nat)] 29) := ⟨_, rfl⟩
  have hx : Ext w W := by rw [hW]; exact ((Ch.refl _ _).alloc _).alloc _
  rw [← hW] at h1 h2
  have H1 := Lib.hid h1; have H2 := Lib.hid h2; have HX := Lib.hid hx; have HW := Lib.hid hW
  clear h1 h2 hx hW
  go_enter Try.func20, Try.ntmps20
  go_wp2
  rw [← HW.out]
  refine wp_region_ext (cmpT w.heap.size (w.heap.size + 1) a1 a2 b1 b2) mixedV (by rfl) (by rfl) ?all ?fin
  case all =>
    refine ⟨?_, ?_, ?_, ?_, ?_, ?_, ?_, ?_, ?_, ?_, ?_, ?_, ?_, trivial⟩
    · refine StepOK.plain (kn_stable _) rfl fun ρ w' hρ hw hf => ?_
      have h : ρ (.tmp 2) = .pointer (some ⟨w.heap.size, 0, none⟩) := (hf 2).2 rfl rfl
      exact Exec.kfield rfl rfl h (fieldRf_0 w' _) rfl
    · refine StepOK.plain (kn_stable _) rfl fun ρ w' hρ hw hf => ?_
      have h : ρ (.tmp 5) = .pointer (some ⟨w.heap.size, 0, none⟩) := (hf 5).1 rfl
      have hc : w'.cell? ⟨w.heap.size, 0, none⟩ = some (.int .u32 (a1 : Nat)) := by rw [cell_of_row _ _ _ _ _ _ (heap_of_ext hw H1.out)]; rfl
      exact Exec.same (v := .int .u32 (a1 : Nat)) rfl (by simp [go_sem, hρ.const, h, hc]) rfl
    · refine StepOK.plain (kn_stable _) rfl fun ρ w' hρ hw hf => ?_
      have h : ρ (.tmp 3) = .pointer (some ⟨w.heap.size + 1, 0, none⟩) := (hf 3).2 rfl rfl
      exact Exec.kfield rfl rfl h (fieldRf_0 w' _) rfl
    · refine StepOK.plain (kn_stable _) rfl fun ρ w' hρ hw hf => ?_
      have h : ρ (.tmp 7) = .pointer (some ⟨w.heap.size + 1, 0, none⟩) := (hf 7).1 rfl
      have hc : w'.cell? ⟨w.heap.size + 1, 0, none⟩ = some (.int .u32 (b1 : Nat)) := by rw [cell_of_row _ _ _ _ _ _ (heap_of_ext hw H2.out)]; rfl
      exact Exec.same (v := .int .u32 (b1 : Nat)) rfl (by simp [go_sem, hρ.const, h, hc]) rfl
    · refine StepOK.plain (kn_stable _) rfl fun ρ w' hρ hw hf => ?_
      have h6 : ρ (.tmp 6) = .int .u32 (a1 : Nat) := (hf 6).1 rfl
      have h8 : ρ (.tmp 8) = .int .u32 (b1 : Nat) := (hf 8).1 rfl
      exact Exec.kcall #[.int .u32 (a1 : Nat), .int .u32 (b1 : Nat)] hρ rfl rfl (by simp [h6, h8]) Try.func55 (by rfl) (by rfl) ((compare32_any a1 b1 w').mono (by rintro e w'' ⟨rfl, rfl⟩; exact ⟨_, rfl, rfl, Ch.refl _ _⟩))
    · refine StepOK.plain (kn_stable _) rfl fun ρ w' hρ hw hf => ?_
      have h : ρ (.tmp 2) = .pointer (some ⟨w.heap.size, 0, none⟩) := (hf 2).2 rfl rfl
      exact Exec.kfield rfl rfl h (fieldRf_1 w' _) rfl
    · refine StepOK.plain (kn_stable _) rfl fun ρ w' hρ hw hf => ?_
      have h : ρ (.tmp 10) = .pointer (some ⟨w.heap.size, 1, none⟩) := (hf 10).1 rfl
      have hc : w'.cell? ⟨w.heap.size, 1, none⟩ = some (.int .u32 (a2 : Nat)) := by rw [cell_of_row _ _ _ _ _ _ (heap_of_ext hw H1.out)]; rfl
      exact Exec.same (v := .int .u32 (a2 : Nat)) rfl (by simp [go_sem, hρ.const, h, hc]) rfl
    · refine StepOK.plain (kn_stable _) rfl fun ρ w' hρ hw hf => ?_
      have h : ρ (.tmp 3) = .pointer (some ⟨w.heap.size + 1, 0, none⟩) := (hf 3).2 rfl rfl
      exact Exec.kfield rfl rfl h (fieldRf_1 w' _) rfl
    · refine StepOK.plain (kn_stable _) rfl fun ρ w' hρ hw hf => ?_
      have h : ρ (.tmp 12) = .pointer (some ⟨w.heap.size + 1, 1, none⟩) := (hf 12).1 rfl
      have hc : w'.cell? ⟨w.heap.size + 1, 1, none⟩ = some (.int .u32 (b2 : Nat)) := by rw [cell_of_row _ _ _ _ _ _ (heap_of_ext hw H2.out)]; rfl
      exact Exec.same (v := .int .u32 (b2 : Nat)) rfl (by simp [go_sem, hρ.const, h, hc]) rfl
    · refine StepOK.plain (kn_stable _) rfl fun ρ w' hρ hw hf => ?_
      have h6 : ρ (.tmp 11) = .int .u32 (a2 : Nat) := (hf 11).1 rfl
      have h8 : ρ (.tmp 13) = .int .u32 (b2 : Nat) := (hf 13).1 rfl
      exact Exec.kcall #[.int .u32 (a2 : Nat), .int .u32 (b2 : Nat)] hρ rfl rfl (by simp [h6, h8]) Try.func55 (by rfl) (by rfl) ((compare32_any a2 b2 w').mono (by rintro e w'' ⟨rfl, rfl⟩; exact ⟨_, rfl, rfl, Ch.refl _ _⟩))
    · refine StepOK.plain (kn_stable _) rfl fun ρ w' hρ hw hf => ?_
      have h9 : ρ (.tmp 9) = .int .i64 (cmpN a1 b1) := (hf 9).1 rfl
      have h14 : ρ (.tmp 14) = .int .i64 (cmpN a2 b2) := (hf 14).1 rfl
      refine Exec.kalloc (v := .slice (some ⟨w'.heap.size, 0, none⟩) 2 2) (ob := .cells #[.int .i64 (cmpN a1 b1), .int .i64 (cmpN a2 b2)] 3) rfl ?_ ⟨w'.heap.size, rfl, heap_alloc_new w' _⟩
      unfold execOp
      simp only [List.map_toArray, List.map_cons, List.map_nil, h9, h14, Sem.run_bind, two_run w', Result.andThen_ok, Sem.run_pure]
    · refine StepOK.plain (kn_stable _) rfl fun ρ w' hρ hw hf => ?_
      have h15 : (Kn.two (cmpN a1 b1) (cmpN a2 b2)).holds (ρ (.tmp 15)) w' := (hf 15).1 rfl
      obtain ⟨g, h15, hg⟩ := h15
      exact Exec.kcall #[.slice (some ⟨g, 0, none⟩) 2 2] hρ rfl rfl (by simp [h15]) Try.func54 (by rfl) (by rfl) ((or_any g _ _ w' hg).mono (by rintro e w'' ⟨rfl, rfl⟩; exact ⟨_, rfl, rfl, Ch.refl _ _⟩))
    · refine StepOK.plain (kn_stable _) rfl fun ρ w' hρ hw hf => ?_
      have h16 : ρ (.tmp 16) = .int .i64 (orN (cmpN a1 b1) (cmpN a2 b2)) := (hf 16).1 rfl
      exact Exec.kassign rfl rfl h16
  case fin =>
    intro ν w2 hfin hext
    have h4 : ν 4 = .int .i64 (orN (cmpN a1 b1) (cmpN a2 b2)) := hfin 12 4 rfl
    simp only [Exit.then, ended, List.foldl_cons, List.foldl_nil, List.setIfInBounds_toArray, List.set_cons_succ, List.set_cons_zero, h4]
    have HX2 := Lib.hid (HX.out.trans hext)
    clear hfin hext h4
    go_wp2
    go_ret
    exact ⟨rfl, HX2.out⟩
end Go.Proofs.Ytcejjckhhdgdnaa
