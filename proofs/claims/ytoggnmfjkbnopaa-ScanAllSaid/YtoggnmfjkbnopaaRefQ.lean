/-
  The reference: what six bytes and more begin with: the walk.
-/
import Derived.Test.YtoggnmfjkbnopaaProg
import Derived.Test.YtoggnmfjkbnopaaLib
import Derived.Test.YtoggnmfjkbnopaaLibC
import Derived.Test.YtoggnmfjkbnopaaInfo
import Derived.Test.YtoggnmfjkbnopaaLibD
import Derived.Test.YtoggnmfjkbnopaaEqual
import Derived.Test.YtoggnmfjkbnopaaCrcG
import Derived.Test.YtoggnmfjkbnopaaFrD
import Derived.Test.YtoggnmfjkbnopaaFrE
import Derived.Test.YtoggnmfjkbnopaaFrF
import Derived.Test.YtoggnmfjkbnopaaRefP
import Derived.WalkKit
import Derived.Lib.Hide
import Derived.Outline
import Derived.Laws.BitsAllLaws
namespace Go.Proofs.Ytoggnmfjkbnopaa
open Go.RowKit Go.Lac

theorem info44 : (Try.prog.info? 44).map (·.size) = some 3 := by kernel_rfl
def refP9T (gb ob bl cap h4 h5' n : Nat) : Tmp → Kn
  | 5 => .is (.int .i64 (n : Nat))
  | 63 => .is (.slice (some ⟨gb, ob, none⟩) bl cap)
  | 64 => .is (.pointer (some ⟨gb, ob + 4, none⟩))
  | 65 => .is (.int .u8 (h4 : Nat))
  | 66 => .is (.int .i64 (h4 : Nat))
  | 67 => .is (.slice (some ⟨gb, ob, none⟩) bl cap)
  | 68 => .is (.pointer (some ⟨gb, ob + 5, none⟩))
  | 69 => .is (.int .u8 (h5' : Nat))
  | 70 => .is (.int .i64 (h5' : Nat))
  | 71 => .is (.int .i64 (256 * (h5' : Int)))
  | 72 => .is (.int .i64 (n : Nat))
  | _ => .any

def refP16T (gb ob bl cap h2 h3 n B : Nat) (b : List UInt8) : Tmp → Kn
  | 89 => .is (.slice (some ⟨gb, ob, none⟩) bl cap)
  | 90 => .is (.pointer (some ⟨gb, ob + 2, none⟩))
  | 91 => .is (.int .u8 (h2 : Nat))
  | 92 => .is (.slice (some ⟨gb, ob, none⟩) bl cap)
  | 93 => .is (.pointer (some ⟨gb, ob + 3, none⟩))
  | 94 => .is (.int .u8 (h3 : Nat))
  | 95 => Kn.empty B 5
  | 96 => .rd b
  | 97 => .is (.int .i64 (n : Nat))
  | 98 => .is (.int .i64 ((n + 6 : Nat) : Int))
  | 99 => .rd ((b.take (n + 6)).drop 6)
  | 100 => .own B 5 n (cellsB ((b.take (n + 6)).drop 6))
  | 101 => .fr B 5 h2 h3 n (cellsB ((b.take (n + 6)).drop 6))
  | 102 => .is (.int .i64 (n : Nat))
  | 103 => .is (.int .i64 ((n + 10 : Nat) : Int))
  | _ => .any
def refP16L (n : Nat) : Tmp → Kn
  | 102 => .is (.int .i64 (n : Nat))
  | 103 => .is (.int .i64 ((n + 10 : Nat) : Int))
  | 3 => .is (.int .i64 ((n + 10 : Nat) : Int))
  | 4 => .is (.int .i64 0)
  | _ => .any
theorem refP16_pass (gb ob bl cap h2 h3 n B : Nat) (b : List UInt8) : ∀ d v w w', d ∉ [3, 4] → (refP16T gb ob bl cap h2 h3 n B b d).holds v w → (refP16L n d).holds v w' := by
  intro d v w w' hd h
  unfold refP16L
  split
  · exact h
  · exact h
  · exact absurd (by simp) hd
  · exact absurd (by simp) hd
  · trivial

set_option maxRecDepth 20000 in
set_option maxHeartbeats 2000000 in
/-- From the length on: the frame's place g2, world w4. -/
theorem refParse_tail (b : List UInt8) (gb ob cap : Nat) (w : World) (h : Rd w (.slice (some ⟨gb, ob, none⟩) b.length cap) b) (hl : b.length ≤ 1000000) (h6 : 6 ≤ b.length)
    (q0 : hdAt b 0 = 76) (q1 : hdAt b 1 = 103) (q2 : hdAt b 2 = 1 ∨ hdAt b 2 = 2) (q3 : 1 ≤ hdAt b 3 ∧ hdAt b 3 ≤ 8) :
    Calls Try.prog 42 #[.slice (some ⟨gb, ob, none⟩) b.length cap] w (ParsePost b w) := by
  obtain ⟨i, hi, hz, hsz, hby⟩ := info_parts infoU8
  obtain ⟨_, _, e0, k1, _, g3⟩ := bytes_cell h rfl (by omega)
  cases e0
  have hce : ∀ j, j < 6 → w.cell? ⟨gb, ob + j, none⟩ = some (.int .u8 (hdAt b j : Nat)) := fun j hj => by rw [hdAt_in (show j < b.length by omega)]; exact g3 j (by omega)
  have hc0 : w.cell? ⟨gb, ob, none⟩ = some (.int .u8 76) := by have := hce 0 (by decide); rw [q0] at this; exact this
  have hc1 : w.cell? ⟨gb, ob + 1, none⟩ = some (.int .u8 103) := by have := hce 1 (by decide); rw [q1] at this; exact this
  have hc2 := hce 2 (by decide); have hc3 := hce 3 (by decide); have hc4 := hce 4 (by decide); have hc5 := hce 5 (by decide)
  have hgb : gb < w.heap.size := World.block_lt_of_cell? w _ hc0
  have H := Lib.hid h
  have he1 : 4096 < frN b → frErr b = 2 := fun h => frErr_right b q0 q1 2 (by unfold frRight; rw [if_neg (by omega), if_neg (by omega), if_pos h]) (by decide)
  have hr0 : ¬ 4096 < frN b → frRight (hdAt b 2) (hdAt b 3) (frN b) = 0 := fun h => by unfold frRight; rw [if_neg (by omega), if_neg (by omega), if_neg h]
  have he2 : ¬ 4096 < frN b → b.length < frN b + 10 → frErr b = 1 := fun h h2 => by unfold frErr; rw [if_neg (by omega), if_neg (by rw [hr0 h]; decide), if_pos h2]
  have he3 : ¬ 4096 < frN b → ¬ b.length < frN b + 10 → crcSigned (b.take (frN b + 10)) = false → frErr b = 6 := fun h h2 h3 => by unfold frErr; rw [if_neg (by omega), if_neg (by rw [hr0 h]; decide), if_neg h2, if_pos h3]
  have he4 : ¬ 4096 < frN b → ¬ b.length < frN b + 10 → crcSigned (b.take (frN b + 10)) = true → frErr b = 0 := fun h h2 h3 => by unfold frErr; rw [if_neg (by omega), if_neg (by rw [hr0 h]; decide), if_neg h2, if_neg (by rw [h3]; decide)]
  have hPE := fun (c : Nat) (w' : World) (h : frErr b = c) (hc : c ≠ 0) (hw : Ext w w') => ParsePost.err (w := w) (w' := w') h hc hw
  have hPO := fun (t : Value) (w' : World) (h : frErr b = 0) (hw : Ext w w') (ht : Rd w' t ((b.take (frN b + 6)).drop 6)) (hf : Fresh w.heap.size t) => ParsePost.ok h hw ht hf
  have hn : frN b = hdAt b 4 + 256 * hdAt b 5 := rfl
  have l4 := hdAt_lt b 4; have l5 := hdAt_lt b 5
  have hnl : frN b < 65536 := by omega
  generalize hdAt b 2 = h2 at *
  generalize hdAt b 3 = h3 at *
  generalize hdAt b 4 = h4 at *
  generalize hdAt b 5 = h5' at *
  generalize frN b = n at *
  have HB4 : Hid (IntKind.i64.wrap (h4 : Int) = (h4 : Int)) := Lib.hid (by rw [IntKind.wrap_i64]; omega)
  have HB5 : Hid (IntKind.i64.wrap (h5' : Int) = (h5' : Int)) := Lib.hid (by rw [IntKind.wrap_i64]; omega)
  have HB6 : Hid (IntKind.i64.wrap (256 * (h5' : Int)) = 256 * (h5' : Int)) := Lib.hid (by rw [IntKind.wrap_i64]; omega)
  have HB7 : Hid (IntKind.i64.wrap ((h4 : Int) + 256 * (h5' : Int)) = (n : Int)) := Lib.hid (by rw [IntKind.wrap_i64]; omega)
  have HE1 := Lib.hid he1; have HE2 := Lib.hid he2; have HE3 := Lib.hid he3; have HE4 := Lib.hid he4; have HPE := Lib.hid hPE; have HPO := Lib.hid hPO
  have HC2 := Lib.hid (((Ch.refl (fun _ => False) w).alloc (.cells #[.int .u8 0, .int .u8 0, .slice none 0 0] 44)).cell (p := ⟨gb, ob + 2, none⟩) (fun f => f) _ hc2)
  have HC3 := Lib.hid (((Ch.refl (fun _ => False) w).alloc (.cells #[.int .u8 0, .int .u8 0, .slice none 0 0] 44)).cell (p := ⟨gb, ob + 3, none⟩) (fun f => f) _ hc3)
  have HC4 := Lib.hid (((Ch.refl (fun _ => False) w).alloc (.cells #[.int .u8 0, .int .u8 0, .slice none 0 0] 44)).cell (p := ⟨gb, ob + 4, none⟩) (fun f => f) _ hc4)
  have HC5 := Lib.hid (((Ch.refl (fun _ => False) w).alloc (.cells #[.int .u8 0, .int .u8 0, .slice none 0 0] 44)).cell (p := ⟨gb, ob + 5, none⟩) (fun f => f) _ hc5)
  have HI := Lib.hid hi; have HZ := Lib.hid hz; have HSZ := Lib.hid hsz; have HBY := Lib.hid hby
  have HL6 := Lib.hid h6
  clear h hce hc4 hc5 hr0 he1 he2 he3 he4 hPE hPO hn l4 l5 hi hz hsz hby g3 q0 q1
  obtain ⟨bl, hbl⟩ : ∃ bl, bl = b.length := ⟨_, rfl⟩
  have HBL := Lib.hid hbl
  rw [← hbl] at hl h6 H HE2 HE3 HE4 HL6 k1 ⊢
  clear hbl
  have hx0 := (Ch.refl (fun _ => False) w).alloc (.cells #[.int .u8 0, .int .u8 0, .slice none 0 0] 44)
  have hg0 := heap_alloc_new w (.cells #[.int .u8 0, .int .u8 0, .slice none 0 0] 44)
  have HX0 := Lib.hid hx0; have HG0 := Lib.hid hg0; clear hx0 hg0
  have b2 : ((h2 : Int) != 1) = false ∨ (((h2 : Int) != 1) = true ∧ ((h2 : Int) != 2) = false) := by
    rcases q2 with rfl | rfl
    · exact .inl rfl
    · exact .inr ⟨rfl, rfl⟩
  obtain ⟨q3a, q3b⟩ := q3
  have HQ2 := Lib.hid q2
  clear q2
  rcases b2 with b2 | ⟨b2, b2'⟩
  all_goals
    go_enter Try.func42, Try.ntmps42
    go_wp2
    refine wp_region_ext (refP9T gb ob bl cap h4 h5' n) mixedEq (by rfl) (by rfl) ?all ?fin
    case all =>
      refine ⟨?_, ?_, ?_, ?_, ?_, ?_, ?_, ?_, ?_, ?_, ?_, trivial⟩
      · -- 0: slot 63 := Op.move t0
        refine StepOK.plain (kn_stable _) rfl fun ρ w hρ hw hf => ?_
        have h0 : ρ (.tmp 0) = (.slice (some ⟨gb, ob, none⟩) bl cap) := (hf 0).2 rfl rfl
        exact Exec.kmove rfl rfl h0
      · -- 1: slot 64 := Op.indexAddr 23 t63 (const (4:i64))
        refine StepOK.plain (kn_stable _) rfl fun ρ w hρ hw hf => ?_
        have h63 : ρ (.tmp 63) = (.slice (some ⟨gb, ob, none⟩) bl cap) := (hf 63).1 rfl
        exact Exec.kindex (i := 4) rfl rfl Try.underlying22 HI.out HSZ.out h63 (by rw [hρ.const]; rfl) (by have := HL6.out; omega) (by rw [Nat.mul_one]; exact rfl)
      · -- 2: slot 65 := Op.load 5 t64
        refine StepOK.plain (kn_stable _) rfl fun ρ w hρ hw hf => ?_
        have h64 : ρ (.tmp 64) = (.pointer (some ⟨gb, ob + 4, none⟩)) := (hf 64).1 rfl
        have hc := hw.cell (p := ⟨gb, ob + 4, none⟩) (fun f => f) _ HC4.out
        exact Exec.same (v := .int .u8 (h4 : Nat)) rfl (by simp [go_sem, hρ.const, h64, hc]) rfl
      · -- 3: slot 66 := Op.convert 5 3 t65
        refine StepOK.plain (kn_stable _) rfl fun ρ w hρ hw hf => ?_
        have h65 : ρ (.tmp 65) = (.int .u8 (h4 : Nat)) := (hf 65).1 rfl
        have hb := HB4.out
        exact Exec.same (v := .int .i64 (h4 : Nat)) rfl (by simp [go_sem, hρ.const, h65, hb]) rfl
      · -- 4: slot 67 := Op.move t0
        refine StepOK.plain (kn_stable _) rfl fun ρ w hρ hw hf => ?_
        have h0 : ρ (.tmp 0) = (.slice (some ⟨gb, ob, none⟩) bl cap) := (hf 0).2 rfl rfl
        exact Exec.kmove rfl rfl h0
      · -- 5: slot 68 := Op.indexAddr 23 t67 (const (5:i64))
        refine StepOK.plain (kn_stable _) rfl fun ρ w hρ hw hf => ?_
        have h67 : ρ (.tmp 67) = (.slice (some ⟨gb, ob, none⟩) bl cap) := (hf 67).1 rfl
        exact Exec.kindex (i := 5) rfl rfl Try.underlying22 HI.out HSZ.out h67 (by rw [hρ.const]; rfl) (by have := HL6.out; omega) (by rw [Nat.mul_one]; exact rfl)
      · -- 6: slot 69 := Op.load 5 t68
        refine StepOK.plain (kn_stable _) rfl fun ρ w hρ hw hf => ?_
        have h68 : ρ (.tmp 68) = (.pointer (some ⟨gb, ob + 5, none⟩)) := (hf 68).1 rfl
        have hc := hw.cell (p := ⟨gb, ob + 5, none⟩) (fun f => f) _ HC5.out
        exact Exec.same (v := .int .u8 (h5' : Nat)) rfl (by simp [go_sem, hρ.const, h68, hc]) rfl
      · -- 7: slot 70 := Op.convert 5 3 t69
        refine StepOK.plain (kn_stable _) rfl fun ρ w hρ hw hf => ?_
        have h69 : ρ (.tmp 69) = (.int .u8 (h5' : Nat)) := (hf 69).1 rfl
        have hb := HB5.out
        exact Exec.same (v := .int .i64 (h5' : Nat)) rfl (by simp [go_sem, hρ.const, h69, hb]) rfl
      · -- 8: slot 71 := Op.binOp BinOp.mul 3 (const (256:i64)) t70 3
        refine StepOK.plain (kn_stable _) rfl fun ρ w hρ hw hf => ?_
        have h70 : ρ (.tmp 70) = (.int .i64 (h5' : Nat)) := (hf 70).1 rfl
        have hb := HB6.out
        exact Exec.same (v := .int .i64 (256 * (h5' : Int))) rfl (by simp [go_sem, hρ.const, h70, hb]) rfl
      · -- 9: slot 72 := Op.binOp BinOp.add 3 t66 t71 3
        refine StepOK.plain (kn_stable _) rfl fun ρ w hρ hw hf => ?_
        have h66 : ρ (.tmp 66) = (.int .i64 (h4 : Nat)) := (hf 66).1 rfl
        have h71 : ρ (.tmp 71) = (.int .i64 (256 * (h5' : Int))) := (hf 71).1 rfl
        have hb := HB7.out
        exact Exec.same (v := .int .i64 (n : Nat)) rfl (by simp [go_sem, hρ.const, h66, h71, hb]) rfl
      · -- 10: slot 5 := Op.assign t72
        refine StepOK.plain (kn_stable _) rfl fun ρ w hρ hw hf => ?_
        have h72 : ρ (.tmp 72) = (.int .i64 (n : Nat)) := (hf 72).1 rfl
        exact Exec.kassign rfl rfl h72
    case fin =>
      intro ν w4 hfin hext
      have e5 : ν 5 = .int .i64 (n : Nat) := hfin 10 5 rfl
      simp only [Exit.then, ended, List.foldl_cons, List.foldl_nil, List.setIfInBounds_toArray, List.set_cons_succ, List.set_cons_zero, e5]
      have hg2 : w4.heap[w.heap.size]? = some (.cells #[.int .u8 0, .int .u8 0, .slice none 0 0] 44 (0, 0)) := by
        rw [hext.block _ (by simp) (fun f => f)]; exact HG0.out
      have HG4 := Lib.hid hg2; have HX4 := Lib.hid (HX0.out.trans hext); have HB := Lib.hid (H.out.ext (HX0.out.trans hext))
      have HD2 := Lib.hid (hext.cell (p := ⟨gb, ob + 2, none⟩) (fun f => f) _ HC2.out); have HD3 := Lib.hid (hext.cell (p := ⟨gb, ob + 3, none⟩) (fun f => f) _ HC3.out)
      have hsr : ∀ w' cs, Ext w w' → Ext w (w'.setRow w.heap.size cs) := fun w' cs h => h.setRow (.inr (Nat.le_refl _)) cs
      have HSR := Lib.hid hsr
      obtain ⟨g2, hg2'⟩ : ∃ g2, g2 = w.heap.size := ⟨_, rfl⟩
      rw [← hg2'] at HG4 HSR ⊢
      have HGE : Hid (w.heap.size ≤ g2) := Lib.hid (by omega)
      clear hg2 hext hfin e5 hsr hg2' HC2 HC3 HC4 HC5 HB4 HB5 HB6 HB7 HX0 HG0 H hc0 hc1 hc2 hc3
      by_cases hB : 4096 < n
      · have HFH := Lib.hid (HPE.out 2 _ (HE1.out hB) (by decide) (HSR.out w4 #[.int .u8 0, .int .u8 0, .slice none 0 0] HX4.out))
        clear HE1 HE2 HE3 HE4 HPE HPO
        go_wp2_with (refine wpList_store_rowTo rfl _ _ _ rfl rfl g2 #[.int .u8 0, .int .u8 0, .slice none 0 0] rfl rfl _ _ HG4.out info44 rfl (row_one _ _ _ _ _) ?_)
        refine bodyPost_ret (results_cell3 rfl _ _ g2 _ #[.int .u8 0, .int .u8 0, .slice none 0 0] _ _ rfl (setRow_heap _ _ _ _ _ _ HG4.out) Try.underlying44 rfl (by kernel_rfl)) rfl ?_
        exact HFH.out
      by_cases hC : bl < n + 10
      · have HFH := Lib.hid (HPE.out 1 _ (HE2.out hB hC) (by decide) (HSR.out w4 #[.int .u8 0, .int .u8 0, .slice none 0 0] HX4.out))
        clear HE1 HE2 HE3 HE4 HPE HPO
        go_wp2_with (refine wpList_store_rowTo rfl _ _ _ rfl rfl g2 #[.int .u8 0, .int .u8 0, .slice none 0 0] rfl rfl _ _ HG4.out info44 rfl (row_one _ _ _ _ _) ?_)
        refine bodyPost_ret (results_cell3 rfl _ _ g2 _ #[.int .u8 0, .int .u8 0, .slice none 0 0] _ _ rfl (setRow_heap _ _ _ _ _ _ HG4.out) Try.underlying44 rfl (by kernel_rfl)) rfl ?_
        exact HFH.out
      have hb := HB.out
      rw [HBL.out] at hb
      have hrt : Rd w4 (.slice (some ⟨gb, ob, none⟩) (n + 10) cap) (b.take (n + 10)) := hb.take (n + 10) (by rw [← HBL.out]; omega)
      have hsg := refSigned_any _ (b.take (n + 10)) w4 hrt (by rw [List.length_take]; omega)
      have hcap : n + 10 ≤ cap := by omega
      cases hD : crcSigned (b.take (n + 10)) with
      | false =>
        rw [hD] at hsg
        have HFE := Lib.hid (HE3.out hB hC hD)
        have HSG := Lib.hid hsg
        clear HE1 HE2 HE3 HE4 HPO hD hsg hrt hb
        go_wp2_with (go_at_call 78; refine HSG.out.mono ?_)
        rintro e w5 ⟨rfl, hx⟩
        have HX5 := Lib.hid (HX4.out.trans hx)
        have HG5 : Hid (w5.heap[g2]? = some (.cells #[.int .u8 0, .int .u8 0, .slice none 0 0] 44 (0, 0))) := Lib.hid (by
          rw [hx.block g2 (Array.getElem?_eq_some_iff.1 HG4.out).1 (fun f => f)]; exact HG4.out)
        have HFH := Lib.hid (HPE.out 6 _ HFE.out (by decide) (HSR.out w5 #[.int .u8 0, .int .u8 0, .slice none 0 0] HX5.out))
        clear hx HPE HSG
        go_wp2_with (refine wpList_store_rowTo rfl _ _ _ rfl rfl g2 #[.int .u8 0, .int .u8 0, .slice none 0 0] rfl rfl _ _ HG5.out info44 rfl (row_one _ _ _ _ _) ?_)
        refine bodyPost_ret (results_cell3 rfl _ _ g2 _ #[.int .u8 0, .int .u8 0, .slice none 0 0] _ _ rfl (setRow_heap _ _ _ _ _ _ HG5.out) Try.underlying44 rfl (by kernel_rfl)) rfl ?_
        exact HFH.out
      | true =>
        rw [hD] at hsg
        have HFE := Lib.hid (HE4.out hB hC hD)
        have HSG := Lib.hid hsg
        clear HE1 HE2 HE3 HE4 HPE hD hsg hrt hb
        go_wp2_with (go_at_call 78; refine HSG.out.mono ?_)
        rintro e w5 ⟨rfl, hx⟩
        have HEXT := Lib.hid (HX4.out.trans hx)
        have HGB : Hid (w5.heap[g2]? = some (.cells #[.int .u8 0, .int .u8 0, .slice none 0 0] 44 (0, 0))) := Lib.hid (by
          rw [hx.block g2 (Array.getElem?_eq_some_iff.1 HG4.out).1 (fun f => f)]; exact HG4.out)
        have HC2 := Lib.hid (hx.cell (p := ⟨gb, ob + 2, none⟩) (fun f => f) _ HD2.out)
        have HC3 := Lib.hid (hx.cell (p := ⟨gb, ob + 3, none⟩) (fun f => f) _ HD3.out)
        have HB := Lib.hid (HB.out.ext hx)
        obtain ⟨B, hB'⟩ : ∃ B, B = w5.heap.size := ⟨_, rfl⟩
        have HSIZE : Hid (B ≤ w5.heap.size) := Lib.hid (by omega)
        have HG2 : Hid (g2 < B) := Lib.hid (by rw [hB']; exact (Array.getElem?_eq_some_iff.1 HGB.out).1)
        have HN6 : Hid (n + 6 ≤ b.length) := Lib.hid (by rw [← HBL.out]; omega)
        have HN4 : Hid (n ≤ 4096) := Lib.hid (by omega)
        have HPL : Hid (((b.take (n + 6)).drop 6).length = n) := Lib.hid (by rw [List.length_drop, List.length_take]; have := HN6.out; omega)
        have HB8 : Hid (IntKind.i64.wrap (6 + (n : Int)) = (n : Int) + 6) := Lib.hid (by rw [IntKind.wrap_i64]; omega)
        have HB9 : Hid (IntKind.i64.wrap ((n : Int) + 10) = (n : Int) + 10) := Lib.hid (by rw [IntKind.wrap_i64]; omega)
        clear hx HSG HD2 HD3 hB'
        go_wp2
        refine wp_region_late (refP16T gb ob bl cap h2 h3 n B b) (refP16L n) 15 (fun w' => ∃ t, w'.heap[g2]? = some (.cells #[.int .u8 (h2 : Nat), .int .u8 (h3 : Nat), t] 44 (0, 0)) ∧ w'.ownsRow B 5 1 t n (cellsB ((b.take (n + 6)).drop 6)) ∧ Ext w w') mixedEq (by rfl) (by rfl) (by decide) ?all16 ?fin16
        case all16 =>
          refine ⟨?_, ?_, ?_, ?_, ?_, ?_, ?_, ?_, ?_, ?_, ?_, ?_, ?_, ?_, ?_, ?_, ?_, ?_, trivial⟩
          · -- 0: slot 89 := Op.move t0
            refine StepG.early (by rfl) (by decide) rfl fun ρ w hρ hw hf => ?_
            have h0 : ρ (.tmp 0) = (.slice (some ⟨gb, ob, none⟩) bl cap) := (hf 0).2 rfl rfl
            exact Exec.kmove rfl rfl h0
          · -- 1: slot 90 := Op.indexAddr 23 t89 (const (2:i64))
            refine StepG.early (by rfl) (by decide) rfl fun ρ w hρ hw hf => ?_
            have h89 : ρ (.tmp 89) = (.slice (some ⟨gb, ob, none⟩) bl cap) := (hf 89).1 rfl
            exact Exec.kindex (i := 2) rfl rfl Try.underlying22 HI.out HSZ.out h89 (by rw [hρ.const]; rfl) (by have := HL6.out; omega) (by rw [Nat.mul_one]; exact rfl)
          · -- 2: slot 91 := Op.load 5 t90
            refine StepG.early (by rfl) (by decide) rfl fun ρ w hρ hw hf => ?_
            have h90 : ρ (.tmp 90) = (.pointer (some ⟨gb, ob + 2, none⟩)) := (hf 90).1 rfl
            have hc := hw.cell (p := ⟨gb, ob + 2, none⟩) (fun f => f) _ HC2.out
            exact Exec.same (v := .int .u8 (h2 : Nat)) rfl (by simp [go_sem, hρ.const, h90, hc]) rfl
          · -- 3: slot 92 := Op.move t0
            refine StepG.early (by rfl) (by decide) rfl fun ρ w hρ hw hf => ?_
            have h0 : ρ (.tmp 0) = (.slice (some ⟨gb, ob, none⟩) bl cap) := (hf 0).2 rfl rfl
            exact Exec.kmove rfl rfl h0
          · -- 4: slot 93 := Op.indexAddr 23 t92 (const (3:i64))
            refine StepG.early (by rfl) (by decide) rfl fun ρ w hρ hw hf => ?_
            have h92 : ρ (.tmp 92) = (.slice (some ⟨gb, ob, none⟩) bl cap) := (hf 92).1 rfl
            exact Exec.kindex (i := 3) rfl rfl Try.underlying22 HI.out HSZ.out h92 (by rw [hρ.const]; rfl) (by have := HL6.out; omega) (by rw [Nat.mul_one]; exact rfl)
          · -- 5: slot 94 := Op.load 5 t93
            refine StepG.early (by rfl) (by decide) rfl fun ρ w hρ hw hf => ?_
            have h93 : ρ (.tmp 93) = (.pointer (some ⟨gb, ob + 3, none⟩)) := (hf 93).1 rfl
            have hc := hw.cell (p := ⟨gb, ob + 3, none⟩) (fun f => f) _ HC3.out
            exact Exec.same (v := .int .u8 (h3 : Nat)) rfl (by simp [go_sem, hρ.const, h93, hc]) rfl
          · -- 6: slot 95 := Op.buildSlice 23 0 #[]
            refine StepG.early (by rfl) (by decide) rfl fun ρ w hρ hw hf => ?_
            exact Exec.kempty rfl rfl empty23 (by have := hw.size; have := HSIZE.out; omega) fun g w' h => ⟨g, rfl, h⟩
          · -- 7: slot 96 := Op.move t0
            refine StepG.early (by rfl) (by decide) rfl fun ρ w hρ hw hf => ?_
            have h0 : ρ (.tmp 0) = (.slice (some ⟨gb, ob, none⟩) bl cap) := (hf 0).2 rfl rfl
            exact Exec.kmove rfl rfl (by rw [h0]; exact HB.out.ext hw)
          · -- 8: slot 97 := Op.move t5
            refine StepG.early (by rfl) (by decide) rfl fun ρ w hρ hw hf => ?_
            have h5 : ρ (.tmp 5) = (.int .i64 (n : Nat)) := (hf 5).2 rfl rfl
            exact Exec.kmove rfl rfl h5
          · -- 9: slot 98 := Op.binOp BinOp.add 3 (const (6:i64)) t97 3
            refine StepG.early (by rfl) (by decide) rfl fun ρ w hρ hw hf => ?_
            have h97 : ρ (.tmp 97) = (.int .i64 (n : Nat)) := (hf 97).1 rfl
            have hb := HB8.out
            exact Exec.same (v := .int .i64 ((n + 6 : Nat) : Int)) rfl (by simp [go_sem, hρ.const, h97, hb]) rfl
          · -- 10: slot 99 := Op.slice 23 t96 (some (const (6:i64))) (some t98) none
            refine StepG.early (by rfl) (by decide) rfl fun ρ w hρ hw hf => ?_
            have h96 : Rd w (ρ (.tmp 96)) (b) := (hf 96).1 rfl
            have h98 : ρ (.tmp 98) = (.int .i64 ((n + 6 : Nat) : Int)) := (hf 98).1 rfl
            exact Exec.kmid rfl rfl Try.underlying22 HI.out HSZ.out h96 (by rw [hρ.const]; rfl) h98 (by omega) HN6.out fun v hv => hv
          · -- 11: slot 100 := Op.call { builtin append, args := #[t95, t99], argTypes := #[23, 23] }
            refine StepG.early (by rfl) (by decide) rfl fun ρ w hρ hw hf => ?_
            have h95 : (Kn.empty B 5).holds (ρ (.tmp 95)) w := (hf 95).1 rfl
            have h99 : Rd w (ρ (.tmp 99)) (((b.take (n + 6)).drop 6)) := (hf 99).1 rfl
            refine Exec.kfresh rfl rfl Try.underlying22 HI.out HZ.out HSZ.out HBY.out rfl h95 (by have := h99; unfold Rd at this; rw [HPL.out] at this; exact this) (by rw [cellsB_length, HPL.out]) (cellsB_one _) (by have := HN4.out; omega) (by have := HN4.out; unfold maxLen; omega) (by have := hw.size; have := HSIZE.out; omega) fun v w' h => h
          · -- 12: slot 101 := Op.build 44 #[(0, t91), (1, t94), (2, t100)]
            refine StepG.early (by rfl) (by decide) rfl fun ρ w hρ hw hf => ?_
            have h91 : ρ (.tmp 91) = (.int .u8 (h2 : Nat)) := (hf 91).1 rfl
            have h94 : ρ (.tmp 94) = (.int .u8 (h3 : Nat)) := (hf 94).1 rfl
            have h100 : w.ownsRow B 5 1 (ρ (.tmp 100)) n (cellsB ((b.take (n + 6)).drop 6)) := (hf 100).1 rfl
            obtain ⟨a1, c1, e1⟩ := owns_shape h100
            exact Exec.kbuild3 rfl rfl h91 h94 e1 (build44 w h2 h3 a1 n c1) ⟨_, rfl, by rw [← e1]; exact h100⟩
          · -- 13: slot 102
            refine StepG.free (by decide) rfl (fun ρ w hρ hf => ?_) (fun ρ w hρ hf => ?_)
            · exact Exec.move rfl ⟨fun d hd => by cases hd; exact (hf 5).2 rfl rfl, rfl⟩
            · exact Exec.move rfl ⟨fun d hd => by cases hd; exact (hf 5).2 rfl rfl, rfl⟩
          · -- 14: slot 103
            refine StepG.free (by decide) rfl (fun ρ w hρ hf => ?_) (fun ρ w hρ hf => ?_)
            · have h102 : ρ (.tmp 102) = .int .i64 (n : Nat) := (hf 102).1 rfl
              have hb := HB9.out
              exact Exec.value (v := .int .i64 ((n + 10 : Nat) : Int)) (w' := w) (by simp [go_sem, hρ.const, h102, hb]) ⟨fun d hd => by cases hd; exact rfl, rfl⟩
            · have h102 : ρ (.tmp 102) = .int .i64 (n : Nat) := (hf 102).1 rfl
              have hb := HB9.out
              exact Exec.value (v := .int .i64 ((n + 10 : Nat) : Int)) (w' := w) (by simp [go_sem, hρ.const, h102, hb]) ⟨fun d hd => by cases hd; exact rfl, rfl⟩
          · -- 15: the store
            refine StepG.write (late := [3, 4]) (by rfl) rfl (refP16_pass gb ob bl cap h2 h3 n B b) fun ρ w hρ hw hf => ?_
            have h2' : ρ (.tmp 2) = .pointer (some ⟨g2, 0, none⟩) := (hf 2).2 rfl rfl
            obtain ⟨t, h101, ho⟩ : (Kn.fr B 5 h2 h3 n (cellsB ((b.take (n + 6)).drop 6))).holds (ρ (.tmp 101)) w := (hf 101).1 rfl
            have hg := hw.block g2 (by have := HSIZE.out; have := HG2.out; omega) (fun f => f)
            rw [HGB.out] at hg
            obtain ⟨a1, c1, e1⟩ := owns_shape ho
            refine (Exec.kstorerow rfl h2' h101 hg info44 rfl (by rw [e1]; exact row_one _ _ _ _ _)).mono ?_
            rintro _ w' rfl
            refine ⟨(fun d hd => by cases hd), t, ?_, ownsRow_setRow ho _ _ HG2.out, (HEXT.out.trans hw).setRow (.inr HGE.out) _⟩
            exact setRow_heap _ _ _ _ _ _ hg
          · -- 16: slot 3
            refine StepG.later (late := [3, 4]) (by rfl) (by decide) rfl rfl fun ρ w hρ hw hf => ?_
            exact Exec.assign rfl ⟨fun d hd => by cases hd; exact (hf 103).1 rfl, rfl⟩
          · -- 17: slot 4
            refine StepG.later (late := [3, 4]) (by rfl) (by decide) rfl rfl fun ρ w hρ hw hf => ?_
            exact Exec.assign rfl ⟨fun d hd => by cases hd; exact hρ.const _, rfl⟩
        case fin16 =>
          intro ν w6 hfin ⟨t, k1', k2', k3'⟩
          have e3 : ν 3 = .int .i64 ((n + 10 : Nat) : Int) := hfin 16 3 rfl
          have e4 : ν 4 = .int .i64 0 := hfin 17 4 rfl
          simp only [Exit.then, ended, List.foldl_cons, List.foldl_nil, List.setIfInBounds_toArray, List.set_cons_succ, List.set_cons_zero, e3, e4]
          have HFH := Lib.hid (HPO.out t w6 HFE.out k3' (Rd.ofOwns k2') (Fresh.ofOwns k2' (by have h1 := HGE.out; have h2 := HG2.out; omega)))
          have HK1 := Lib.hid k1'
          clear hfin k1' k2' k3' e3 e4 HPO HFE
          go_wp2
          refine bodyPost_ret (results_cell3 rfl _ _ g2 _ #[.int .u8 (h2 : Nat), .int .u8 (h3 : Nat), t] _ _ rfl HK1.out Try.underlying44 rfl (by kernel_rfl)) rfl ?_
          exact HFH.out

theorem refParse_any (v : Value) (b : List UInt8) (w : World) (h : Rd w v b) (hl : b.length ≤ 1000000) : Calls Try.prog 42 #[v] w (ParsePost b w) := by
  obtain ⟨ao, cap, rfl⟩ := h.shape
  by_cases l0 : b.length = 0
  · exact refParse_s0 b ao cap w h (by omega)
  by_cases q0 : hdAt b 0 = 76
  case neg => exact refParse_b0 b ao cap w h (by omega) q0
  by_cases l1 : b.length = 1
  · exact refParse_s1 b ao cap w h (by omega) (by omega) q0
  by_cases q1 : hdAt b 1 = 103
  case neg => exact refParse_b1 b ao cap w h (by omega) q0 q1
  by_cases l2 : b.length = 2
  · exact refParse_s2 b ao cap w h (by omega) (by omega) q0 q1
  by_cases q2 : hdAt b 2 = 1 ∨ hdAt b 2 = 2
  case neg => exact refParse_v b ao cap w h (by omega) q0 q1 (by omega)
  by_cases l3 : b.length = 3
  · rcases q2 with q2 | q2
    · exact refParse_s31 b ao cap w h (by omega) (by omega) q0 q1 q2
    · exact refParse_s32 b ao cap w h (by omega) (by omega) q0 q1 q2
  by_cases q3 : hdAt b 3 = 0
  · rcases q2 with q2 | q2
    · exact refParse_klo1 b ao cap w h (by omega) q0 q1 q2 q3
    · exact refParse_klo2 b ao cap w h (by omega) q0 q1 q2 q3
  by_cases q3' : 8 < hdAt b 3
  · rcases q2 with q2 | q2
    · exact refParse_khi1 b ao cap w h (by omega) q0 q1 q2 q3'
    · exact refParse_khi2 b ao cap w h (by omega) q0 q1 q2 q3'
  by_cases l6 : b.length < 6
  · rcases q2 with q2 | q2
    · exact refParse_s41 b ao cap w h (by omega) (by omega) q0 q1 q2 (by omega)
    · exact refParse_s42 b ao cap w h (by omega) (by omega) q0 q1 q2 (by omega)
  obtain ⟨gb, ob, rfl, _, _, _⟩ := bytes_cell h rfl (by omega)
  exact refParse_tail b gb ob cap w h hl (by omega) q0 q1 q2 (by omega)

end Go.Proofs.Ytoggnmfjkbnopaa
