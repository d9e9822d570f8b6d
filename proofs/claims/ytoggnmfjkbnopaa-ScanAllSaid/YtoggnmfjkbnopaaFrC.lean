/-
  bytes.Clone; are two frames alike?
-/
import Derived.Test.YtoggnmfjkbnopaaProg
import Derived.Test.YtoggnmfjkbnopaaLib
import Derived.Test.YtoggnmfjkbnopaaLibC
import Derived.Test.YtoggnmfjkbnopaaLibD
import Derived.Test.YtoggnmfjkbnopaaInfo
import Derived.WalkKit
import Derived.Lib.SliceRun
import Derived.Lib.Hide
import Derived.Outline
namespace Go.Proofs.Ytoggnmfjkbnopaa
open Go.RowKit Go.Lac

set_option maxRecDepth 20000 in
set_option maxHeartbeats 800000 in
theorem clone_any (x : Addr) (cap : Nat) (bs : List UInt8) (w : World) (h : Rd w (.slice (some x) bs.length cap) bs) (hl : bs.length ≤ 1000000) :
    Calls Try.prog 77 #[.slice (some x) bs.length cap] w (Made 5 bs w) := by
  obtain ⟨i, hi, hz, hs, hb⟩ := info_parts infoU8
  have H := Lib.hid h; clear h
  have hown := World.ownsRow_made (e := 5) (size := 1) w #[] 0 (Nat.le_refl _) (by decide) (by simp)
  have hrd := Rd.ext H.out ((Ch.refl _ w).alloc (.cells #[] 5))
  unfold Rd at hrd
  have HOWN := Lib.hid hown; have HRD := Lib.hid hrd; clear hown hrd
  generalize hbl : bs.length = bl at *
  have HBL := Lib.hid hbl; clear hbl
  have hnil : ∀ w, (binOp .eql 22 (.slice (some x) bl cap) (.slice none 0 0)).run Try.prog w = .ok (.bool false) w := fun w => by rw [Lib.run_eql_slice_nil w _ 5 _ _ _ _ _ Try.underlying22]; rfl
  go_enter Try.func77, Try.ntmps77
  go_wp2_with (at_builtin; refine wpList_append_sl _ rfl _ _ 22 rfl w.heap.size 5 i (.int .u8 0) 1 1 Try.underlying22 hi hz hs hb rfl (by decide) _ _ _ rfl HOWN.out _ _ _ rfl HRD.out (by rw [cellsB_length, HBL.out, Nat.mul_one]) (cellsB_one _) (by omega) (by unfold maxLen; omega) (by simp) ?_)
  intro v1 w1 hown1 hgrow1
  have hx1 : Ext w w1 := ((Ch.refl _ w).alloc _).grown hgrow1 fun k hk => by have := (HOWN.out.lt k hk).1; exact .inr this
  obtain ⟨a1, c1, rfl⟩ := owns_shape hown1
  have HX1 := Lib.hid hx1; have HOWN1 := Lib.hid hown1; clear hx1 hown1 hgrow1
  go_wp2
  go_ret
  exact ⟨_, rfl, HX1.out, by rw [HBL.out]; exact HOWN1.out⟩

set_option maxRecDepth 20000 in
set_option maxHeartbeats 800000 in
theorem same4_any (x y x' y' : Nat) (s s' : Value) (p p' : List UInt8) (w : World) (h : Rd w s p) (h' : Rd w s' p') :
    Calls Try.prog 43 #[.agg #[.int .u8 (x : Nat), .int .u8 (y : Nat), s], .agg #[.int .u8 (x' : Nat), .int .u8 (y' : Nat), s']] w fun e w' => e = .returned (.bool (decide (x = x' ∧ y = y' ∧ p = p'))) ∧ Ext w w' := by
  obtain ⟨ao, cap, rfl⟩ := h.shape
  obtain ⟨ao', cap', rfl⟩ := h'.shape
  by_cases hx : x = x'
  · by_cases hy : y = y'
    · subst hx hy
      have hx2 : Ext w ((w.alloc (.cells #[.int .u8 (x : Nat), .int .u8 (y : Nat), .slice ao p.length cap] 44)).alloc (.cells #[.int .u8 (x : Nat), .int .u8 (y : Nat), .slice ao' p'.length cap'] 44)) := ((Ch.refl _ _).alloc _).alloc _
      have hs1 := run_toString (P := Try.prog) (h.ext hx2) (src := 22) (dst := 9) Try.underlying22 Try.underlying5 Try.underlying9
      have hs2 := run_toString (P := Try.prog) (h'.ext hx2) (src := 22) (dst := 9) Try.underlying22 Try.underlying5 Try.underlying9
      have hq := toList_beq p p'
      have hd : decide (x = x ∧ y = y ∧ p = p') = decide (p = p') := by simp
      rw [hd]
      generalize decide (p = p') = z at *
      unfold strV at hs1 hs2
      generalize (⟨p.toArray⟩ : ByteArray) = A1 at *
      generalize (⟨p'.toArray⟩ : ByteArray) = A2 at *
      generalize p.length = n at *
      generalize p'.length = n' at *
      clear h h' hx2 hd
      go_enter Try.func43, Try.ntmps43
      go_wp2
      go_ret
      exact ⟨rfl, ((Ch.refl _ _).alloc _).alloc _⟩
    · subst hx
      have b : ((y : Int) == y') = false := by simp; omega
      have hd : decide (x = x ∧ y = y' ∧ p = p') = false := decide_eq_false fun h => hy h.2.1
      rw [hd]
      clear h h' hy hd
      generalize p.length = n at *
      generalize p'.length = n' at *
      go_enter Try.func43, Try.ntmps43
      go_wp2
      go_ret
      exact ⟨rfl, ((Ch.refl _ _).alloc _).alloc _⟩
  · have b : ((x : Int) == x') = false := by simp; omega
    have hd : decide (x = x' ∧ y = y' ∧ p = p') = false := decide_eq_false fun h => hx h.1
    rw [hd]
    clear h h' hx hd
    generalize p.length = n at *
    generalize p'.length = n' at *
    go_enter Try.func43, Try.ntmps43
    go_wp2
    go_ret
    exact ⟨rfl, ((Ch.refl _ _).alloc _).alloc _⟩
end Go.Proofs.Ytoggnmfjkbnopaa
