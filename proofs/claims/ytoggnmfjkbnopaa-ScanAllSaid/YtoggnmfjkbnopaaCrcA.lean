/-
  crc.step, crc.table.
-/
import Derived.Test.YtoggnmfjkbnopaaProg
import Derived.Test.YtoggnmfjkbnopaaLib
import Derived.Test.YtoggnmfjkbnopaaInfo
import Derived.Test.YtoggnmfjkbnopaaCrcM
import Derived.WalkKit
import Derived.Lib.Hide
import Derived.Outline
import Derived.Great.BuildSlice
import Derived.Laws.BitsAllLaws
import Derived.Laws.Rows
namespace Go.Proofs.Ytoggnmfjkbnopaa
open Go.RowKit Go.Lac

theorem u32_xor (a b : Nat) (ha : a < 2 ^ 32) (hb : b < 2 ^ 32) : bits .xor .u32 (a : Int) (b : Int) = ((a ^^^ b : Nat) : Int) := u32_xor_nat a b ha hb

set_option maxRecDepth 20000 in
set_option maxHeartbeats 400000 in
theorem step_any (r : Nat) (w : World) (hr : r < 2 ^ 32) :
    Calls Try.prog 108 #[.int .u32 (r : Nat)] w fun e w' => e = .returned (.int .u32 (crcStep r : Nat)) ∧ w = w' := by
  have hx : bits .xor .u32 ((r : Int) / 2) 2197175160 = ((r / 2 ^^^ 2197175160 : Nat) : Int) := u32_xor (r / 2) 2197175160 (by omega) (by decide)
  have ha : bits .and .u32 (r : Int) 1 = ((r % 2 : Nat) : Int) := by
    have := u32_and_nat r 1 (by omega) (by decide)
    rw [Nat.and_one_is_mod] at this
    exact this
  have hs : crcStep r = if r % 2 = 1 then r / 2 ^^^ 2197175160 else r / 2 := rfl
  generalize crcStep r = y at hs
  have hr' : (r : Int) < 4294967296 := by omega
  by_cases h1 : r % 2 = 1
  · rw [if_pos h1] at hs
    subst hs
    have e : ((r % 2 : Nat) : Int) = 1 := by omega
    rw [e] at ha
    generalize r / 2 ^^^ 2197175160 = y at *
    clear e h1 hr
    go_enter Try.func108, Try.ntmps108
    go_wp2
    go_ret
    exact ⟨rfl, rfl⟩
  · rw [if_neg h1] at hs
    subst hs
    have e : ((r % 2 : Nat) : Int) = 0 := by omega
    rw [e] at ha
    clear e h1 hr hx
    go_enter Try.func108, Try.ntmps108
    go_wp2
    go_ret
    exact ⟨rfl, rfl⟩

/-- A table of 256 numbers. -/
def tabV (g : Nat → Nat) : Array Value := ((List.range 256).map fun x => Value.int .u32 (g x : Nat)).toArray
theorem tabV_size (g : Nat → Nat) : (tabV g).size = 256 := by simp [tabV]
theorem tabV_get (g : Nat → Nat) (x : Nat) (h : x < 256) : (tabV g)[x]? = some (.int .u32 (g x : Nat)) := by simp [tabV, h]
theorem tabV_one (g : Nat → Nat) : (tabV g).all (·.oneCell') = true := by
  unfold tabV; rw [List.all_toArray, List.all_map, List.all_eq_true]; intro x _; rfl
theorem tabV_congr {g h : Nat → Nat} (e : ∀ x, x < 256 → g x = h x) : tabV g = tabV h := by
  unfold tabV
  congr 1
  exact List.map_congr_left fun x hx => by rw [e x (by simpa using hx)]
theorem tabV_set (g : Nat → Nat) (x v : Nat) : (tabV g).setIfInBounds x (.int .u32 (v : Nat)) = tabV (fun y => if y = x then v else g y) := by
  unfold tabV
  rw [List.setIfInBounds_toArray]
  congr 1
  apply List.ext_getElem (by simp)
  intro j h1 h2
  rw [List.getElem_set]
  by_cases hj : x = j
  · subst hj; simp
  · simp [hj, Ne.symm hj]

theorem zeroTab (w : World) : (zeroValue 142).run Try.prog w = .ok (.agg (tabV fun _ => 0)) w := by
  kernel_rfl

theorem infoTab : (Try.prog.info? 142).map (·.size) = some 256 := by kernel_rfl

/-- The table while it is filled: whole multiples of e are done. -/
def outF (e x : Nat) : Nat := if x % e = 0 then crcT x else 0
def inF (d k x : Nat) : Nat := if x % (2 * d) = 0 ∨ (x % d = 0 ∧ x < k) then crcT x else 0

theorem outF_start : tabV (fun _ => 0) = tabV (outF (2 ^ 8)) := tabV_congr fun x hx => by
  unfold outF
  by_cases h : x % 2 ^ 8 = 0
  · have : x = 0 := by omega
    subst this
    decide
  · rw [if_neg h]
theorem outF_end : tabV (outF (2 ^ 0)) = tabV crcT := tabV_congr fun x _ => by unfold outF; rw [if_pos (Nat.mod_one x)]
theorem inF_start (i : Nat) : outF (2 ^ (i + 1)) = inF (2 ^ i) 0 := by
  funext x
  unfold outF inF
  rw [show 2 * 2 ^ i = 2 ^ (i + 1) by rw [Nat.pow_succ]; omega]
  by_cases h : x % 2 ^ (i + 1) = 0
  · rw [if_pos h, if_pos (.inl h)]
  · rw [if_neg h, if_neg]; omega
theorem inF_end (i : Nat) : tabV (inF (2 ^ i) 256) = tabV (outF (2 ^ i)) := tabV_congr fun x hx => by
  unfold outF inF
  by_cases h : x % 2 ^ i = 0
  · rw [if_pos h, if_pos (.inr ⟨h, hx⟩)]
  · rw [if_neg h, if_neg]
    rintro (h1 | h1)
    · exact h (by rw [← Nat.mod_mul_left_mod x 2 (2 ^ i), h1]; exact Nat.zero_mod _)
    · exact h h1.1
theorem eight {P : Nat → Prop} (h0 : P 0) (h1 : P 1) (h2 : P 2) (h3 : P 3) (h4 : P 4) (h5 : P 5) (h6 : P 6) (h7 : P 7) : ∀ i, i < 8 → P i
  | 0, _ => h0 | 1, _ => h1 | 2, _ => h2 | 3, _ => h3 | 4, _ => h4 | 5, _ => h5 | 6, _ => h6 | 7, _ => h7
theorem inF_bound (i K : Nat) (hi : i < 8) (hK : K % (2 * 2 ^ i) = 0) (hlt : K < 256) : K + 2 * 2 ^ i ≤ 256 ∧ (K + 2 * 2 ^ i) % (2 * 2 ^ i) = 0 := by
  refine ⟨?_, by rw [Nat.add_mod_right]; exact hK⟩
  revert hK
  exact eight (P := fun i => K % (2 * 2 ^ i) = 0 → K + 2 * 2 ^ i ≤ 256) (by simp; omega) (by simp; omega) (by simp; omega) (by simp; omega) (by simp; omega) (by simp; omega) (by simp; omega) (by simp; omega) i hi
theorem xor_add (i K : Nat) (hi : i < 8) (hK : K % (2 * 2 ^ i) = 0) (hlt : K < 256) : K ^^^ 2 ^ i = K + 2 ^ i := by
  have h : ∀ i, i < 8 → ∀ K, K < 256 → K % (2 * 2 ^ i) = 0 → K ^^^ 2 ^ i = K + 2 ^ i := by decide +kernel
  exact h i hi K hlt hK
theorem inF_at (i K : Nat) (hK : K % (2 * 2 ^ i) = 0) : inF (2 ^ i) K K = crcT K := by unfold inF; rw [if_pos (.inl hK)]
theorem inF_next (i K : Nat) (hi : i < 8) (hK : K % (2 * 2 ^ i) = 0) (hlt : K < 256) :
    (tabV (inF (2 ^ i) K)).setIfInBounds (K + 2 ^ i) (.int .u32 ((crcT (K + 2 ^ i) : Nat) : Int)) = tabV (inF (2 ^ i) (K + 2 * 2 ^ i)) := by
  rw [tabV_set]
  refine tabV_congr fun x hx => ?_
  by_cases h : x = K + 2 ^ i
  · subst h
    have h1 : (K + 2 ^ i) % 2 ^ i = 0 := by
      rw [Nat.add_mod_right, ← Nat.mod_mul_left_mod K 2 (2 ^ i), hK]; exact Nat.zero_mod _
    have hp : 0 < 2 ^ i := Nat.two_pow_pos i
    rw [if_pos rfl]
    unfold inF
    rw [if_pos (.inr ⟨h1, by omega⟩)]
  · rw [if_neg h]
    unfold inF
    by_cases h1 : x % (2 * 2 ^ i) = 0 ∨ (x % 2 ^ i = 0 ∧ x < K)
    · rw [if_pos h1, if_pos]
      rcases h1 with h1 | ⟨h1, h2⟩
      · exact .inl h1
      · exact .inr ⟨h1, by omega⟩
    · rw [if_neg h1, if_neg]
      rintro (h2 | ⟨h2, h3⟩)
      · exact h1 (.inl h2)
      · refine h1 (.inr ⟨h2, ?_⟩)
        have hb := inF_bound i K hi hK hlt
        have hx2 : ¬ x % (2 * 2 ^ i) = 0 := fun e => h1 (.inl e)
        clear h1 hb
        revert hK h h2 h3 hx2
        exact eight (P := fun i => K % (2 * 2 ^ i) = 0 → ¬ x = K + 2 ^ i → x % 2 ^ i = 0 → x < K + 2 * 2 ^ i → ¬ x % (2 * 2 ^ i) = 0 → x < K) (by simp; omega) (by simp; omega) (by simp; omega) (by simp; omega) (by simp; omega) (by simp; omega) (by simp; omega) (by simp; omega) i hi
theorem crcT_two (d : Nat) : crcStep (crcT (2 * d)) = crcT d := by
  unfold crcT
  rw [← crcSteps_succ]
  show crcSteps 8 (crcStep (2 * d)) = _
  congr 1
  unfold crcStep
  rw [if_neg (by omega)]
  omega
theorem crcT_lt' (x : Nat) (h : x ≤ 256) : crcT x < 2 ^ 32 := crcSteps_lt 8 (by omega)

/-- The two blocks. -/
def TabAt (w : World) (g : Nat → Nat) (wr : World) : Prop :=
  Ext w wr ∧ wr.heap[w.heap.size]? = some (.cells (tabV fun _ => 0) 142 (0, 0)) ∧ wr.heap[w.heap.size + 1]? = some (.cells (tabV g) 142 (0, 0))
theorem TabAt.start (w : World) : TabAt w (outF (2 ^ 8)) ((w.alloc (.cells (tabV fun _ => 0) 142)).alloc (.cells (tabV fun _ => 0) 142)) :=
  ⟨((Ch.refl _ _).alloc _).alloc _, heap_alloc2_old _ _ _, by rw [heap_alloc2_new]; rw [outF_start]⟩
theorem TabAt.cell {w wr : World} {g : Nat → Nat} (h : TabAt w g wr) (x : Nat) (hx : x < 256) : wr.cell? ⟨w.heap.size + 1, x, none⟩ = some (.int .u32 (g x : Nat)) := by
  rw [cell_of_row _ _ _ _ _ _ h.2.2, tabV_get _ _ hx]
theorem TabAt.next {w wr : World} {i K : Nat} (h : TabAt w (inF (2 ^ i) K) wr) (hi : i < 8) (hK : K % (2 * 2 ^ i) = 0) (hlt : K < 256) :
    TabAt w (inF (2 ^ i) (K + 2 * 2 ^ i)) (wr.setCell ⟨w.heap.size + 1, K + 2 ^ i, none⟩ (.int .u32 ((crcT (K + 2 ^ i) : Nat) : Int))) := by
  refine ⟨h.1.setCell (.inr (by show w.heap.size ≤ w.heap.size + 1; omega)) _, ?_, ?_⟩
  · rw [heap_setCell_other _ _ _ _ (by show w.heap.size ≠ w.heap.size + 1; omega)]; exact h.2.1
  · rw [heap_setCell_same _ _ _ _ _ _ h.2.2, inF_next i K hi hK hlt]

theorem chSetRow {M : Nat → Prop} {a w : World} (h : Ch M a w) {g : Nat} (hg : a.heap.size ≤ g) (cs : Array Value) : Ch M a (w.setRow g cs) :=
  ⟨h.os, h.tape, h.output, by have := h.size; simpa using this, fun k hk hm => by
    rw [setRow_other _ _ _ _ (by omega)]; exact h.block k hk hm⟩

set_option maxRecDepth 20000 in
set_option maxHeartbeats 800000 in
theorem table_any (w : World) :
    Calls Try.prog 107 #[] w fun e w' => e = .returned (.agg (tabV crcT)) ∧ Ext w w' := by
  have hal := zeroTab
  have hst := TabAt.start w
  have HST := Lib.hid hst; clear hst
  go_enter Try.func107, Try.ntmps107
  go_wp2
  clear hal
  obtain ⟨w1, hw1⟩ : ∃ w1, w1 = (w.alloc (.cells (tabV fun _ => 0) 142)).alloc (.cells (tabV fun _ => 0) 142) := ⟨_, rfl⟩
  have HST1 : Hid (TabAt w (outF (2 ^ 8)) w1) := Lib.hid (by rw [hw1]; exact HST.out)
  rw [← hw1]
  clear hw1 HST
  go_loopw [2, 3] (fun r b wr => ∃ j : Nat, j ≤ 8 ∧ b = .int .i64 ((2 ^ j / 2 : Nat) : Int) ∧ r = .int .u32 ((crcT (2 ^ j) : Nat) : Int) ∧ TabAt w (outF (2 ^ j)) wr) (fun _ b _ => (intOf b).toNat)
  case atStart => exact ⟨8, Nat.le_refl _, rfl, by rw [show crcT (2 ^ 8) = 1 by decide]; rfl, HST1.out⟩
  case round =>
    obtain ⟨j, hj, rfl, rfl, hr⟩ := hrel
    have HR := Lib.hid hr; clear hr
    match j, hj, HR with
    | 0, _, HR =>
      have h0 := HR.out.2.1
      have h1 : wr.heap[w.heap.size + 1]? = some (.cells (tabV crcT) 142 (0, 0)) := by rw [HR.out.2.2, outF_end]
      have hx := HR.out.1
      have HX := Lib.hid hx; have H0 := Lib.hid h0; have H1 := Lib.hid h1; clear hx h0 h1 HR hj
      go_wp2_with (first
        | (refine wpList_load_row rfl _ _ rfl (w.heap.size + 1) rfl _ _ _ _ H1.out Try.underlying142 rfl (by rw [infoTab, tabV_size]) ?_)
        | (refine wpList_store_rowTo rfl _ _ _ rfl rfl w.heap.size (tabV crcT) rfl rfl _ _ H0.out (by rw [infoTab, tabV_size]) (by rw [tabV_size, tabV_size]) (tabV_one _) ?_))
      refine bodyPost_ret (results_cell_row rfl _ _ w.heap.size _ (tabV crcT) _ _ rfl (setRow_heap _ _ _ _ _ _ H0.out) Try.underlying142 rfl (by rw [infoTab, tabV_size])) rfl ?_
      exact ⟨rfl, chSetRow HX.out (Nat.le_refl _) _⟩
    | i + 1, hj, HR =>
      have hi : i < 8 := by omega
      have hd8 : 2 ^ i ≤ 128 := by
        have : 2 ^ i ≤ 2 ^ 7 := Nat.pow_le_pow_right (by omega) (by omega)
        omega
      have hd1 : 1 ≤ 2 ^ i := Nat.two_pow_pos i
      have hb : 2 ^ (i + 1) / 2 = 2 ^ i := by rw [Nat.pow_succ]; omega
      have hst := step_any (crcT (2 ^ (i + 1)))
      rw [show (2 : Nat) ^ (i + 1) = 2 * 2 ^ i by rw [Nat.pow_succ]; omega, crcT_two] at hst
      have hst' := fun w => hst w (crcT_lt' _ (by omega))
      have HI : Hid (TabAt w (inF (2 ^ i) 0) wr) := Lib.hid (by rw [← inF_start]; exact HR.out)
      have hnx := fun K wr h => TabAt.next (w := w) (wr := wr) (i := i) (K := K) h hi
      have hbd := fun K => inF_bound i K hi
      have hat := inF_at i
      have hxa := fun K => xor_add i K hi
      have hen := inF_end i
      rw [hb, show (2 : Nat) ^ (i + 1) = 2 * 2 ^ i by rw [Nat.pow_succ]; omega]
      have hfin : ∀ wr, TabAt w (inF (2 ^ i) 256) wr → ∃ j, j ≤ 8 ∧ (Value.int .i64 ((2 ^ i : Nat) / 2 : Int)) = .int .i64 ((2 ^ j / 2 : Nat) : Int) ∧ Value.int .u32 ((crcT (2 ^ i) : Nat) : Int) = .int .u32 ((crcT (2 ^ j) : Nat) : Int) ∧ TabAt w (outF (2 ^ j)) wr :=
        fun wr h => ⟨i, by omega, by simp, rfl, h.1, h.2.1, by rw [h.2.2, hen]⟩
      have HS := Lib.hid hst'; have HN := Lib.hid hnx; have HB := Lib.hid hbd; have HA := Lib.hid hat; have HXA := Lib.hid hxa; have HF := Lib.hid hfin
      clear hst hst' hnx hbd hat hxa hen hfin hb HR hj hi
      generalize 2 ^ i = d at *
      go_wp2_with (go_at_call 108; refine (HS.out _).mono ?_; rintro e w' ⟨rfl, rfl⟩)
      have HI0 := HI
      clear HI
      obtain ⟨wo, hwo⟩ : ∃ wo : World, wo = wr := ⟨_, rfl⟩
      subst hwo
      go_loopw [4] (fun k wr => ∃ K : Nat, K ≤ 256 ∧ Hid (K % (2 * d) = 0) ∧ k = .int .i64 (K : Nat) ∧ TabAt w (inF d K) wr) (fun k _ => 256 - (intOf k).toNat)
      case atStart => exact ⟨0, Nat.zero_le _, Lib.hid (Nat.zero_mod _), rfl, HI0.out⟩
      case round =>
        obtain ⟨K, hK, HK, rfl, hr⟩ := hrel
        have HR := Lib.hid hr; clear hr
        by_cases hlt : K < 256
        · obtain ⟨hb1, hb2⟩ := HB.out K HK.out hlt
          have HB2 := Lib.hid hb2; clear hb2
          have hc : wr.cell? ⟨w.heap.size + 1, K, none⟩ = some (.int .u32 ((crcT K : Nat) : Int)) := by
            rw [HR.out.cell K hlt, HA.out K HK.out]
          have hc2 := HR.out.cell (K + d) (by omega)
          have hf := frozen_of_row _ _ (K + d) _ _ HR.out.2.2
          have hx : bits .xor .u32 ((crcT K : Nat) : Int) ((crcT d : Nat) : Int) = ((crcT (K + d) : Nat) : Int) := by
            rw [u32_xor _ _ (crcT_lt' _ (by omega)) (crcT_lt' _ (by omega)), ← crcT_xor, HXA.out K HK.out hlt]
          have HNX := Lib.hid (HN.out K wr HR.out HK.out hlt)
          generalize inF d K (K + d) = old at hc2
          go_wp2
          go_roundw
          case rel => exact ⟨K + 2 * d, hb1, HB2, by go_num, HNX.out⟩
          case measure => simp [intOf]; omega
        · have hk : K = 256 := by omega
          subst hk
          have HF1 := Lib.hid (HF.out _ HR.out)
          clear HR HK hK
          go_wp2
          go_roundw
          case rel => exact HF1.out
          case measure => simp [intOf]; omega
end Go.Proofs.Ytoggnmfjkbnopaa
