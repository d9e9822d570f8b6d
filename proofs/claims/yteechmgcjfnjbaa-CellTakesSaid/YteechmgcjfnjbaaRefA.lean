/-
  The reference's reader: its state; GiveUp, Left, End, Zag.
-/
import Derived.Test.YteechmgcjfnjbaaProg
import Derived.Test.YteechmgcjfnjbaaLib
import Derived.Test.YteechmgcjfnjbaaPrimD
import Derived.Test.YteechmgcjfnjbaaPrimE
import Derived.Test.YteechmgcjfnjbaaPrimG
import Derived.WalkKit
import Derived.Deep.QuietTactic
import Derived.BigQuiet
import Derived.Lib.Hide
namespace Go.Proofs.Yteechmgcjfnjbaa
open Go.RowKit Go.Lac

/-- Block q is a reader of the reference in this state. -/
def IsQ (w : World) (q : Nat) (s : RS) : Prop :=
  ∃ lv bs a, w.heap[q]? = some (.cells #[lv, .int .i64 (a : Nat), .int .i64 s.2] 55 (0, 0)) ∧ (Rd w lv bs ∧ Strict lv) ∧ a ≤ bs.length ∧ s.1 = if s.2 = 0 then bs.drop a else []

theorem IsQ.cells {w : World} {q : Nat} {s : RS} (h : IsQ w q s) : ∃ (bs : List UInt8) (a : Nat) (ao : Option Addr) (cap : Nat),
    w.cell? ⟨q, 0, none⟩ = some (.slice ao bs.length cap) ∧ w.cell? ⟨q, 1, none⟩ = some (.int .i64 (a : Nat)) ∧ w.cell? ⟨q, 2, none⟩ = some (.int .i64 s.2) ∧
    w.frozen? ⟨q, 1, none⟩ = false ∧ w.frozen? ⟨q, 2, none⟩ = false ∧ Rd w (.slice ao bs.length cap) bs ∧ a ≤ bs.length ∧ bs.length ≤ 9223372036854775807 ∧ (s.1 = if s.2 = 0 then bs.drop a else []) ∧
    w.heap[q]? = some (.cells #[.slice ao bs.length cap, .int .i64 (a : Nat), .int .i64 s.2] 55 (0, 0)) ∧ ∀ x, ao = some x → x.spot = none := by
  obtain ⟨lv, bs, a, h1, ⟨h2, h5⟩, h3, h4⟩ := h
  obtain ⟨ao, cap, rfl⟩ := h2.shape
  have hm : bs.length ≤ maxLen := by obtain ⟨_, _, _, g1, g2, _⟩ := h2; omega
  exact ⟨bs, a, ao, cap, cell_of_row w q 0 _ _ _ h1, cell_of_row w q 1 _ _ _ h1, cell_of_row w q 2 _ _ _ h1, frozen_of_row w q 1 _ _ h1, frozen_of_row w q 2 _ _ h1, h2, h3, by unfold maxLen at hm; omega, h4, h1, fun x hx => h5 x _ _ (by rw [hx])⟩

theorem IsQ.lt {w : World} {q : Nat} {s : RS} (h : IsQ w q s) : q < w.heap.size := by
  obtain ⟨_, _, _, h1, _⟩ := h
  exact (Array.getElem?_eq_some_iff.1 h1).1

theorem IsQ.ext {w w' : World} {q : Nat} {s : RS} (h : IsQ w q s) (k : Ext w w') : IsQ w' q s := by
  have hlt := h.lt
  obtain ⟨lv, bs, a, h1, h2, h3⟩ := h
  exact ⟨lv, bs, a, by rw [k.block q hlt (fun f => f)]; exact h1, ⟨h2.1.ext k, h2.2⟩, h3⟩

def QPtr (q : Nat) : Value := .pointer (some ⟨q, 0, none⟩)
def QPost (q : Nat) (v : Value) (s : RS) (w : World) (e : Ending) (w' : World) : Prop := e = .returned v ∧ Only q w w' ∧ IsQ w' q s

set_option maxRecDepth 20000 in
set_option maxHeartbeats 1000000 in
theorem giveUp_any (q : Nat) (s : RS) (e : Int) (w : World) (h : IsQ w q s) :
    Calls Try.prog 98 #[QPtr q, .int .i64 e] w (QPost q (.tuple #[]) (failR s e) w) := by
  obtain ⟨bs, a, ao, cap, c0, c1, c2, f1, f2, hrd, hle, hm, hs, hrow, hst⟩ := h.cells
  have H := Lib.hid h; have HS := Lib.hid hs; have HROW := Lib.hid hrow; have HRD := Lib.hid hrd; have C2 := Lib.hid c2; have HST := Lib.hid hst
  clear h hs hrow hrd hst
  unfold QPtr
  by_cases h1 : s.2 = 0
  · have e1 : (s.2 == 0) = true := by simp [h1]
    have H1 := Lib.hid h1; clear h1
    go_enter Try.func98, Try.ntmps98
    go_wp2
    refine bodyPost_end (results_none rfl _ _ _) rfl ?_
    refine ⟨rfl, Ch.setCell (M := fun b => b = q) (Ch.refl _ _) (.inl rfl) _, ?_⟩
    have hs := HS.out
    rw [if_pos H1.out] at hs
    have hf2 : (failR s e).2 = e := by
      unfold failR
      by_cases h2 : e = 0
      · rw [if_pos (.inr h2), H1.out, h2]
      · rw [if_neg (by have := H1.out; omega)]
    have hf1 : (failR s e).1 = if e = 0 then bs.drop a else [] := by
      unfold failR
      by_cases h2 : e = 0
      · rw [if_pos (.inr h2), if_pos h2]; exact hs
      · rw [if_neg (by have := H1.out; omega), if_neg h2]
    exact ⟨_, bs, a, by rw [hf2]; exact heap_setCell_same w q 2 _ _ _ HROW.out, ⟨HRD.out.setCell C2.out (noByte_i64 _) _, fun x l c hx => by cases hx; exact HST.out _ rfl⟩, hle, by rw [hf2]; exact hf1⟩
  · have e1 : (s.2 == 0) = false := by simp [h1]
    have H1 := Lib.hid h1; clear h1
    go_enter Try.func98, Try.ntmps98
    go_wp2
    refine bodyPost_end (results_none rfl _ _ _) rfl ?_
    exact ⟨rfl, Ch.refl _ _, by unfold failR; rw [if_pos (Or.inl H1.out)]; exact H.out⟩

set_option maxRecDepth 20000 in
set_option maxHeartbeats 1000000 in
theorem qleft_any (q : Nat) (s : RS) (w : World) (h : IsQ w q s) :
    Calls Try.prog 28 #[QPtr q] w fun e w' => e = .returned (.int .i64 s.1.length) ∧ ∃ n, w' = w.drewN n := by
  obtain ⟨bs, a, ao, cap, c0, c1, c2, f1, f2, hrd, hle, hm, hs, hrow, hst⟩ := h.cells
  have HS := Lib.hid hs
  clear h hs hrow hrd hst
  unfold QPtr
  by_cases h1 : s.2 = 0
  · have e1 : (s.2 != 0) = false := by simp [h1]
    have hl : s.1.length = bs.length - a := by rw [HS.out, if_pos h1, List.length_drop]
    rw [show ((s.1.length : Nat) : Int) = (bs.length : Int) - (a : Int) by omega]
    clear h1 hl
    go_enter Try.func28, Try.ntmps28
    go_wp2
    go_quiet (fail)
    go_wp2
    go_ret
    exact ⟨rfl, _, rfl⟩
  · have e1 : (s.2 != 0) = true := by simp [h1]
    have hl : s.1.length = 0 := by rw [HS.out, if_neg h1]; rfl
    rw [hl]
    clear h1 hl
    go_enter Try.func28, Try.ntmps28
    go_wp2
    go_ret
    exact ⟨rfl, 0, rfl⟩

theorem ext_drewN (w : World) (n : Nat) : Ext w (w.drewN n) := ⟨rfl, rfl, rfl, Nat.le_refl _, fun _ _ _ => rfl⟩

set_option maxRecDepth 20000 in
set_option maxHeartbeats 1000000 in
theorem qend_any (q : Nat) (s : RS) (w : World) (h : IsQ w q s) :
    Calls Try.prog 79 #[QPtr q] w fun e w' => e = .returned (.int .i64 (endR s)) ∧ ∃ n, w' = w.drewN n := by
  have hl := qleft_any q s w h
  have HL := Lib.hid hl; clear hl
  obtain ⟨bs, a, ao, cap, c0, c1, c2, f1, f2, hrd, hle, hm, hs, hrow, hst⟩ := h.cells
  clear h hs hrow hrd hst c0 c1 f1 f2 hle hm
  unfold QPtr at *
  by_cases h1 : s.2 = 0
  · have e1 : (s.2 == 0) = true := by simp [h1]
    by_cases h2 : 0 < s.1.length
    · have hE : endR s = 2 := by unfold endR; rw [if_pos ⟨h1, h2⟩]
      rw [hE]
      have H1 := Lib.hid h1; clear h1 hE
      go_enter Try.func79, Try.ntmps79
      go_wp2_with (go_at_call 28; refine HL.out.mono ?_; rintro e w' ⟨rfl, n, rfl⟩)
      go_ret
      exact ⟨rfl, _, rfl⟩
    · have hE : endR s = s.2 := by unfold endR; rw [if_neg (fun h => h2 h.2)]
      rw [hE]
      have H1 := Lib.hid h1; clear h1 hE
      go_enter Try.func79, Try.ntmps79
      go_wp2_with (go_at_call 28; refine HL.out.mono ?_; rintro e w' ⟨rfl, n, rfl⟩)
      go_ret
      exact ⟨rfl, _, rfl⟩
  · have e1 : (s.2 == 0) = false := by simp [h1]
    have hE : endR s = s.2 := by unfold endR; rw [if_neg (fun h => h1 h.1)]
    rw [hE]
    clear h1 hE
    go_enter Try.func79, Try.ntmps79
    go_wp2
    go_ret
    exact ⟨rfl, 0, rfl⟩

set_option maxRecDepth 20000 in
set_option maxHeartbeats 1000000 in
theorem qzag_any (u : Nat) (w : World) (hu : u < 2 ^ 64) :
    Calls Try.prog 149 #[.int .u64 u] w fun e w' => e = .returned (.int .i64 (zag u)) ∧ w = w' := by
  have hwr : IntKind.i64.wrap ((u : Int) / 2) = (u : Int) / 2 := by rw [IntKind.wrap_i64]; omega
  by_cases h1 : u % 2 = 1
  · have e1 : (((u : Int) % 2) == 1) = true := by simp; omega
    have hz : zag u = -((u : Int) / 2) - 1 := by unfold zag; rw [if_pos h1]; omega
    rw [hz]
    have hw2 : IntKind.i64.wrap (-((u : Int) / 2)) = -((u : Int) / 2) := by rw [IntKind.wrap_i64]; omega
    have hw3 : IntKind.i64.wrap (-((u : Int) / 2) - 1) = -((u : Int) / 2) - 1 := by rw [IntKind.wrap_i64]; omega
    clear hz h1
    go_enter Try.func149, Try.ntmps149
    go_wp2
    go_ret
    exact ⟨rfl, rfl⟩
  · have e1 : (((u : Int) % 2) == 1) = false := by simp; omega
    have hz : zag u = (u : Int) / 2 := by unfold zag; rw [if_neg h1]; omega
    rw [hz]
    clear hz h1
    go_enter Try.func149, Try.ntmps149
    go_wp2
    go_ret
    exact ⟨rfl, rfl⟩
end Go.Proofs.Yteechmgcjfnjbaa
