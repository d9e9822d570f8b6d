/-
  Images: what may be, what is wrong with an old and with a new image (the program's). MADE BY mkImgJ.py
-/
import Derived.Test.YtdpebdbfphlmeaaImgI
namespace Go.Proofs.Ytdpebdbfphlmeaa
open Go.RowKit Go.Lac

def mayB (i k o : Nat) : Bool := if k = 4 then decide (o = 0) else if i = 0 then decide (k = 5 ∧ o = 0) else if i = 1 then decide (o = 1 ∨ k = 5 ∧ o = 0) else if i = 2 then decide (o = 2) else false
def oldE (r : Rl) (o : Nat) (b : List Cel) : Nat := if o = 1 then isKeyE r b else if o = 2 then isFullE r b else 0
def newE (r : Rl) (k : Nat) (a : List Cel) : Nat := if k = 4 then isFullE r a else if k = 5 then keyedE r a else 0
theorem u8_eq (a b : Nat) : (((a : Nat) : Int) == ((b : Nat) : Int)) = decide (a = b) := by rw [Bool.eq_iff_iff]; simp; omega
theorem u8_t {a : Nat} {z : Int} (h : (a : Int) = z) : (((a : Nat) : Int) == z) = true := by rw [h]; simp
theorem u8_f {a : Nat} {z : Int} (h : (a : Int) ≠ z) : (((a : Nat) : Int) == z) = false := beq_eq_false_iff_ne.2 h
theorem u8_nt {a : Nat} {z : Int} (h : (a : Int) = z) : (((a : Nat) : Int) != z) = false := by rw [bne, u8_t h]; rfl
theorem u8_nf {a : Nat} {z : Int} (h : (a : Int) ≠ z) : (((a : Nat) : Int) != z) = true := by rw [bne, u8_f h]; rfl
set_option maxRecDepth 20000 in
set_option maxHeartbeats 4000000 in
theorem mayBe_any (i k o : Nat) (w : World) :
    Calls Try.prog 32 #[.int .u8 (i : Nat), .int .u8 (k : Nat), .int .u8 (o : Nat)] w fun e w' => e = .returned (.bool (mayB i k o)) ∧ w = w' := by
  rcases (show k = 4 ∨ k = 5 ∨ (k ≠ 4 ∧ k ≠ 5) by omega) with hk | hk | hk
  · rcases (show o = 0 ∨ o ≠ 0 by omega) with ho | ho
    · have fk_4 := u8_t (a := k) (z := 4) (by omega)
      have gk_4 := u8_nt (a := k) (z := 4) (by omega)
      have fk_5 := u8_f (a := k) (z := 5) (by omega)
      have gk_5 := u8_nf (a := k) (z := 5) (by omega)
      have fo_0 := u8_t (a := o) (z := 0) (by omega)
      have go_0 := u8_nt (a := o) (z := 0) (by omega)
      have HM : Hid (mayB i k o = true) := Lib.hid (by unfold mayB; (repeat' split) <;> first | (exfalso; omega) | (apply decide_eq_true; omega) | (apply decide_eq_false; omega) | rfl)
      clear hk ho
      go_enter Try.func32, Try.ntmps32
      go_wp2
      go_ret
      exact ⟨by rw [HM.out]; rfl, rfl⟩
    · have fk_4 := u8_t (a := k) (z := 4) (by omega)
      have gk_4 := u8_nt (a := k) (z := 4) (by omega)
      have fk_5 := u8_f (a := k) (z := 5) (by omega)
      have gk_5 := u8_nf (a := k) (z := 5) (by omega)
      have fo_0 := u8_f (a := o) (z := 0) (by omega)
      have go_0 := u8_nf (a := o) (z := 0) (by omega)
      have HM : Hid (mayB i k o = false) := Lib.hid (by unfold mayB; (repeat' split) <;> first | (exfalso; omega) | (apply decide_eq_true; omega) | (apply decide_eq_false; omega) | rfl)
      clear hk ho
      go_enter Try.func32, Try.ntmps32
      go_wp2
      go_ret
      exact ⟨by rw [HM.out]; rfl, rfl⟩
  · rcases (show i = 0 ∨ i = 1 ∨ i = 2 ∨ (i ≠ 0 ∧ i ≠ 1 ∧ i ≠ 2) by omega) with hi | hi | hi | hi
    · rcases (show (o = 0) ∨ (o ≠ 0) by omega) with ho | ho
      · have fk_5 := u8_t (a := k) (z := 5) (by omega)
        have gk_5 := u8_nt (a := k) (z := 5) (by omega)
        have fk_4 := u8_f (a := k) (z := 4) (by omega)
        have gk_4 := u8_nf (a := k) (z := 4) (by omega)
        have fi_0 := u8_t (a := i) (z := 0) (by omega)
        have gi_0 := u8_nt (a := i) (z := 0) (by omega)
        have fi_1 := u8_f (a := i) (z := 1) (by omega)
        have gi_1 := u8_nf (a := i) (z := 1) (by omega)
        have fi_2 := u8_f (a := i) (z := 2) (by omega)
        have gi_2 := u8_nf (a := i) (z := 2) (by omega)
        have fo_0 := u8_t (a := o) (z := 0) (by omega)
        have go_0 := u8_nt (a := o) (z := 0) (by omega)
        have HM : Hid (mayB i k o = true) := Lib.hid (by unfold mayB; (repeat' split) <;> first | (exfalso; omega) | (apply decide_eq_true; omega) | (apply decide_eq_false; omega) | rfl)
        clear hk hi ho
        go_enter Try.func32, Try.ntmps32
        go_wp2
        go_ret
        exact ⟨by rw [HM.out]; rfl, rfl⟩
      · have fk_5 := u8_t (a := k) (z := 5) (by omega)
        have gk_5 := u8_nt (a := k) (z := 5) (by omega)
        have fk_4 := u8_f (a := k) (z := 4) (by omega)
        have gk_4 := u8_nf (a := k) (z := 4) (by omega)
        have fi_0 := u8_t (a := i) (z := 0) (by omega)
        have gi_0 := u8_nt (a := i) (z := 0) (by omega)
        have fi_1 := u8_f (a := i) (z := 1) (by omega)
        have gi_1 := u8_nf (a := i) (z := 1) (by omega)
        have fi_2 := u8_f (a := i) (z := 2) (by omega)
        have gi_2 := u8_nf (a := i) (z := 2) (by omega)
        have fo_0 := u8_f (a := o) (z := 0) (by omega)
        have go_0 := u8_nf (a := o) (z := 0) (by omega)
        have HM : Hid (mayB i k o = false) := Lib.hid (by unfold mayB; (repeat' split) <;> first | (exfalso; omega) | (apply decide_eq_true; omega) | (apply decide_eq_false; omega) | rfl)
        clear hk hi ho
        go_enter Try.func32, Try.ntmps32
        go_wp2
        go_ret
        exact ⟨by rw [HM.out]; rfl, rfl⟩
    · rcases (show (o = 0) ∨ (o = 1) ∨ (o ≠ 0 ∧ o ≠ 1) by omega) with ho | ho | ho
      · have fk_5 := u8_t (a := k) (z := 5) (by omega)
        have gk_5 := u8_nt (a := k) (z := 5) (by omega)
        have fk_4 := u8_f (a := k) (z := 4) (by omega)
        have gk_4 := u8_nf (a := k) (z := 4) (by omega)
        have fi_1 := u8_t (a := i) (z := 1) (by omega)
        have gi_1 := u8_nt (a := i) (z := 1) (by omega)
        have fi_0 := u8_f (a := i) (z := 0) (by omega)
        have gi_0 := u8_nf (a := i) (z := 0) (by omega)
        have fi_2 := u8_f (a := i) (z := 2) (by omega)
        have gi_2 := u8_nf (a := i) (z := 2) (by omega)
        have fo_0 := u8_t (a := o) (z := 0) (by omega)
        have go_0 := u8_nt (a := o) (z := 0) (by omega)
        have fo_1 := u8_f (a := o) (z := 1) (by omega)
        have go_1 := u8_nf (a := o) (z := 1) (by omega)
        have HM : Hid (mayB i k o = true) := Lib.hid (by unfold mayB; (repeat' split) <;> first | (exfalso; omega) | (apply decide_eq_true; omega) | (apply decide_eq_false; omega) | rfl)
        clear hk hi ho
        go_enter Try.func32, Try.ntmps32
        go_wp2
        go_ret
        exact ⟨by rw [HM.out]; rfl, rfl⟩
      · have fk_5 := u8_t (a := k) (z := 5) (by omega)
        have gk_5 := u8_nt (a := k) (z := 5) (by omega)
        have fk_4 := u8_f (a := k) (z := 4) (by omega)
        have gk_4 := u8_nf (a := k) (z := 4) (by omega)
        have fi_1 := u8_t (a := i) (z := 1) (by omega)
        have gi_1 := u8_nt (a := i) (z := 1) (by omega)
        have fi_0 := u8_f (a := i) (z := 0) (by omega)
        have gi_0 := u8_nf (a := i) (z := 0) (by omega)
        have fi_2 := u8_f (a := i) (z := 2) (by omega)
        have gi_2 := u8_nf (a := i) (z := 2) (by omega)
        have fo_1 := u8_t (a := o) (z := 1) (by omega)
        have go_1 := u8_nt (a := o) (z := 1) (by omega)
        have fo_0 := u8_f (a := o) (z := 0) (by omega)
        have go_0 := u8_nf (a := o) (z := 0) (by omega)
        have HM : Hid (mayB i k o = true) := Lib.hid (by unfold mayB; (repeat' split) <;> first | (exfalso; omega) | (apply decide_eq_true; omega) | (apply decide_eq_false; omega) | rfl)
        clear hk hi ho
        go_enter Try.func32, Try.ntmps32
        go_wp2
        go_ret
        exact ⟨by rw [HM.out]; rfl, rfl⟩
      · have fk_5 := u8_t (a := k) (z := 5) (by omega)
        have gk_5 := u8_nt (a := k) (z := 5) (by omega)
        have fk_4 := u8_f (a := k) (z := 4) (by omega)
        have gk_4 := u8_nf (a := k) (z := 4) (by omega)
        have fi_1 := u8_t (a := i) (z := 1) (by omega)
        have gi_1 := u8_nt (a := i) (z := 1) (by omega)
        have fi_0 := u8_f (a := i) (z := 0) (by omega)
        have gi_0 := u8_nf (a := i) (z := 0) (by omega)
        have fi_2 := u8_f (a := i) (z := 2) (by omega)
        have gi_2 := u8_nf (a := i) (z := 2) (by omega)
        have fo_0 := u8_f (a := o) (z := 0) (by omega)
        have fo_1 := u8_f (a := o) (z := 1) (by omega)
        have go_0 := u8_nf (a := o) (z := 0) (by omega)
        have go_1 := u8_nf (a := o) (z := 1) (by omega)
        have HM : Hid (mayB i k o = false) := Lib.hid (by unfold mayB; (repeat' split) <;> first | (exfalso; omega) | (apply decide_eq_true; omega) | (apply decide_eq_false; omega) | rfl)
        clear hk hi ho
        go_enter Try.func32, Try.ntmps32
        go_wp2
        go_ret
        exact ⟨by rw [HM.out]; rfl, rfl⟩
    · rcases (show (o = 2) ∨ (o ≠ 2) by omega) with ho | ho
      · have fk_5 := u8_t (a := k) (z := 5) (by omega)
        have gk_5 := u8_nt (a := k) (z := 5) (by omega)
        have fk_4 := u8_f (a := k) (z := 4) (by omega)
        have gk_4 := u8_nf (a := k) (z := 4) (by omega)
        have fi_2 := u8_t (a := i) (z := 2) (by omega)
        have gi_2 := u8_nt (a := i) (z := 2) (by omega)
        have fi_0 := u8_f (a := i) (z := 0) (by omega)
        have gi_0 := u8_nf (a := i) (z := 0) (by omega)
        have fi_1 := u8_f (a := i) (z := 1) (by omega)
        have gi_1 := u8_nf (a := i) (z := 1) (by omega)
        have fo_2 := u8_t (a := o) (z := 2) (by omega)
        have go_2 := u8_nt (a := o) (z := 2) (by omega)
        have HM : Hid (mayB i k o = true) := Lib.hid (by unfold mayB; (repeat' split) <;> first | (exfalso; omega) | (apply decide_eq_true; omega) | (apply decide_eq_false; omega) | rfl)
        clear hk hi ho
        go_enter Try.func32, Try.ntmps32
        go_wp2
        go_ret
        exact ⟨by rw [HM.out]; rfl, rfl⟩
      · have fk_5 := u8_t (a := k) (z := 5) (by omega)
        have gk_5 := u8_nt (a := k) (z := 5) (by omega)
        have fk_4 := u8_f (a := k) (z := 4) (by omega)
        have gk_4 := u8_nf (a := k) (z := 4) (by omega)
        have fi_2 := u8_t (a := i) (z := 2) (by omega)
        have gi_2 := u8_nt (a := i) (z := 2) (by omega)
        have fi_0 := u8_f (a := i) (z := 0) (by omega)
        have gi_0 := u8_nf (a := i) (z := 0) (by omega)
        have fi_1 := u8_f (a := i) (z := 1) (by omega)
        have gi_1 := u8_nf (a := i) (z := 1) (by omega)
        have fo_2 := u8_f (a := o) (z := 2) (by omega)
        have go_2 := u8_nf (a := o) (z := 2) (by omega)
        have HM : Hid (mayB i k o = false) := Lib.hid (by unfold mayB; (repeat' split) <;> first | (exfalso; omega) | (apply decide_eq_true; omega) | (apply decide_eq_false; omega) | rfl)
        clear hk hi ho
        go_enter Try.func32, Try.ntmps32
        go_wp2
        go_ret
        exact ⟨by rw [HM.out]; rfl, rfl⟩
    · have fk_5 := u8_t (a := k) (z := 5) (by omega)
      have gk_5 := u8_nt (a := k) (z := 5) (by omega)
      have fk_4 := u8_f (a := k) (z := 4) (by omega)
      have gk_4 := u8_nf (a := k) (z := 4) (by omega)
      have fi_0 := u8_f (a := i) (z := 0) (by omega)
      have fi_1 := u8_f (a := i) (z := 1) (by omega)
      have fi_2 := u8_f (a := i) (z := 2) (by omega)
      have gi_0 := u8_nf (a := i) (z := 0) (by omega)
      have gi_1 := u8_nf (a := i) (z := 1) (by omega)
      have gi_2 := u8_nf (a := i) (z := 2) (by omega)
      have HM : Hid (mayB i k o = false) := Lib.hid (by unfold mayB; (repeat' split) <;> first | (exfalso; omega) | (apply decide_eq_true; omega) | (apply decide_eq_false; omega) | rfl)
      clear hk hi
      go_enter Try.func32, Try.ntmps32
      go_wp2
      go_ret
      exact ⟨by rw [HM.out]; rfl, rfl⟩
  · rcases (show i = 0 ∨ i = 1 ∨ i = 2 ∨ (i ≠ 0 ∧ i ≠ 1 ∧ i ≠ 2) by omega) with hi | hi | hi | hi
    · have fk_4 := u8_f (a := k) (z := 4) (by omega)
      have fk_5 := u8_f (a := k) (z := 5) (by omega)
      have gk_4 := u8_nf (a := k) (z := 4) (by omega)
      have gk_5 := u8_nf (a := k) (z := 5) (by omega)
      have fi_0 := u8_t (a := i) (z := 0) (by omega)
      have gi_0 := u8_nt (a := i) (z := 0) (by omega)
      have fi_1 := u8_f (a := i) (z := 1) (by omega)
      have gi_1 := u8_nf (a := i) (z := 1) (by omega)
      have fi_2 := u8_f (a := i) (z := 2) (by omega)
      have gi_2 := u8_nf (a := i) (z := 2) (by omega)
      have HM : Hid (mayB i k o = false) := Lib.hid (by unfold mayB; (repeat' split) <;> first | (exfalso; omega) | (apply decide_eq_true; omega) | (apply decide_eq_false; omega) | rfl)
      clear hk hi
      go_enter Try.func32, Try.ntmps32
      go_wp2
      go_ret
      exact ⟨by rw [HM.out]; rfl, rfl⟩
    · rcases (show (o = 1) ∨ (o ≠ 1) by omega) with ho | ho
      · have fk_4 := u8_f (a := k) (z := 4) (by omega)
        have fk_5 := u8_f (a := k) (z := 5) (by omega)
        have gk_4 := u8_nf (a := k) (z := 4) (by omega)
        have gk_5 := u8_nf (a := k) (z := 5) (by omega)
        have fi_1 := u8_t (a := i) (z := 1) (by omega)
        have gi_1 := u8_nt (a := i) (z := 1) (by omega)
        have fi_0 := u8_f (a := i) (z := 0) (by omega)
        have gi_0 := u8_nf (a := i) (z := 0) (by omega)
        have fi_2 := u8_f (a := i) (z := 2) (by omega)
        have gi_2 := u8_nf (a := i) (z := 2) (by omega)
        have fo_1 := u8_t (a := o) (z := 1) (by omega)
        have go_1 := u8_nt (a := o) (z := 1) (by omega)
        have HM : Hid (mayB i k o = true) := Lib.hid (by unfold mayB; (repeat' split) <;> first | (exfalso; omega) | (apply decide_eq_true; omega) | (apply decide_eq_false; omega) | rfl)
        clear hk hi ho
        go_enter Try.func32, Try.ntmps32
        go_wp2
        go_ret
        exact ⟨by rw [HM.out]; rfl, rfl⟩
      · have fk_4 := u8_f (a := k) (z := 4) (by omega)
        have fk_5 := u8_f (a := k) (z := 5) (by omega)
        have gk_4 := u8_nf (a := k) (z := 4) (by omega)
        have gk_5 := u8_nf (a := k) (z := 5) (by omega)
        have fi_1 := u8_t (a := i) (z := 1) (by omega)
        have gi_1 := u8_nt (a := i) (z := 1) (by omega)
        have fi_0 := u8_f (a := i) (z := 0) (by omega)
        have gi_0 := u8_nf (a := i) (z := 0) (by omega)
        have fi_2 := u8_f (a := i) (z := 2) (by omega)
        have gi_2 := u8_nf (a := i) (z := 2) (by omega)
        have fo_1 := u8_f (a := o) (z := 1) (by omega)
        have go_1 := u8_nf (a := o) (z := 1) (by omega)
        have HM : Hid (mayB i k o = false) := Lib.hid (by unfold mayB; (repeat' split) <;> first | (exfalso; omega) | (apply decide_eq_true; omega) | (apply decide_eq_false; omega) | rfl)
        clear hk hi ho
        go_enter Try.func32, Try.ntmps32
        go_wp2
        go_ret
        exact ⟨by rw [HM.out]; rfl, rfl⟩
    · rcases (show (o = 2) ∨ (o ≠ 2) by omega) with ho | ho
      · have fk_4 := u8_f (a := k) (z := 4) (by omega)
        have fk_5 := u8_f (a := k) (z := 5) (by omega)
        have gk_4 := u8_nf (a := k) (z := 4) (by omega)
        have gk_5 := u8_nf (a := k) (z := 5) (by omega)
        have fi_2 := u8_t (a := i) (z := 2) (by omega)
        have gi_2 := u8_nt (a := i) (z := 2) (by omega)
        have fi_0 := u8_f (a := i) (z := 0) (by omega)
        have gi_0 := u8_nf (a := i) (z := 0) (by omega)
        have fi_1 := u8_f (a := i) (z := 1) (by omega)
        have gi_1 := u8_nf (a := i) (z := 1) (by omega)
        have fo_2 := u8_t (a := o) (z := 2) (by omega)
        have go_2 := u8_nt (a := o) (z := 2) (by omega)
        have HM : Hid (mayB i k o = true) := Lib.hid (by unfold mayB; (repeat' split) <;> first | (exfalso; omega) | (apply decide_eq_true; omega) | (apply decide_eq_false; omega) | rfl)
        clear hk hi ho
        go_enter Try.func32, Try.ntmps32
        go_wp2
        go_ret
        exact ⟨by rw [HM.out]; rfl, rfl⟩
      · have fk_4 := u8_f (a := k) (z := 4) (by omega)
        have fk_5 := u8_f (a := k) (z := 5) (by omega)
        have gk_4 := u8_nf (a := k) (z := 4) (by omega)
        have gk_5 := u8_nf (a := k) (z := 5) (by omega)
        have fi_2 := u8_t (a := i) (z := 2) (by omega)
        have gi_2 := u8_nt (a := i) (z := 2) (by omega)
        have fi_0 := u8_f (a := i) (z := 0) (by omega)
        have gi_0 := u8_nf (a := i) (z := 0) (by omega)
        have fi_1 := u8_f (a := i) (z := 1) (by omega)
        have gi_1 := u8_nf (a := i) (z := 1) (by omega)
        have fo_2 := u8_f (a := o) (z := 2) (by omega)
        have go_2 := u8_nf (a := o) (z := 2) (by omega)
        have HM : Hid (mayB i k o = false) := Lib.hid (by unfold mayB; (repeat' split) <;> first | (exfalso; omega) | (apply decide_eq_true; omega) | (apply decide_eq_false; omega) | rfl)
        clear hk hi ho
        go_enter Try.func32, Try.ntmps32
        go_wp2
        go_ret
        exact ⟨by rw [HM.out]; rfl, rfl⟩
    · have fk_4 := u8_f (a := k) (z := 4) (by omega)
      have fk_5 := u8_f (a := k) (z := 5) (by omega)
      have gk_4 := u8_nf (a := k) (z := 4) (by omega)
      have gk_5 := u8_nf (a := k) (z := 5) (by omega)
      have fi_0 := u8_f (a := i) (z := 0) (by omega)
      have fi_1 := u8_f (a := i) (z := 1) (by omega)
      have fi_2 := u8_f (a := i) (z := 2) (by omega)
      have gi_0 := u8_nf (a := i) (z := 0) (by omega)
      have gi_1 := u8_nf (a := i) (z := 1) (by omega)
      have gi_2 := u8_nf (a := i) (z := 2) (by omega)
      have HM : Hid (mayB i k o = false) := Lib.hid (by unfold mayB; (repeat' split) <;> first | (exfalso; omega) | (apply decide_eq_true; omega) | (apply decide_eq_false; omega) | rfl)
      clear hk hi
      go_enter Try.func32, Try.ntmps32
      go_wp2
      go_ret
      exact ⟨by rw [HM.out]; rfl, rfl⟩
set_option maxRecDepth 20000 in
set_option maxHeartbeats 4000000 in
theorem rightOld_any (r : Rl) (cv vw : Value) (o : Nat) (l : List Cel) (w : World) (hb : ColS w cv r.cols) (hf : r.fits) (hl : r.cols.length ≤ 1000000) (hv : PcS w vw l) :
    Calls Try.prog 33 #[.agg (relv r cv), .int .u8 (o : Nat), vw] w fun e w' => e = .returned (.int .i64 (oldE r o l : Nat)) ∧ Ext w w' := by
  obtain ⟨W, hW⟩ : ∃ W, W = w.alloc (.cells (relv r cv) 33) := ⟨_, rfl⟩
  have hx : Ext w W := by rw [hW]; exact (Ch.refl _ _).alloc _
  have HX := Lib.hid hx; have HW := Lib.hid hW
  have HA := Lib.hid (isKey_any r cv vw l W (ColS.ext hb hx) hf hl (PcS.ext hv hx))
  have HB := Lib.hid (isFull_any r cv vw l W (ColS.ext hb hx) hf hl (PcS.ext hv hx))
  have HE : Hid ((o = 1 → oldE r o l = isKeyE r l) ∧ (o = 2 → oldE r o l = isFullE r l) ∧ (o ≠ 1 ∧ o ≠ 2 → oldE r o l = 0)) := Lib.hid ⟨fun h => by unfold oldE; rw [if_pos h], fun h => by unfold oldE; rw [if_neg (by omega), if_pos h], fun h => by unfold oldE; rw [if_neg h.1, if_neg h.2]⟩
  generalize oldE r o l = E at *
  generalize isKeyE r l = E1 at *
  generalize isFullE r l = E2 at *
  obtain ⟨ao, cap, rfl, _⟩ := id hb
  obtain ⟨vo, vcap, rfl, _⟩ := hv.shape
  clear hb hf hl hv hx hW
  generalize r.cols.length = n at *
  generalize l.length = m at *
  unfold relv strV at *
  generalize (⟨r.name.toArray⟩ : ByteArray) = A1 at *
  generalize r.oid = o1 at *
  generalize r.ver = o2 at *
  generalize r.ident = o3 at *
  rcases (show o = 1 ∨ o = 2 ∨ (o ≠ 1 ∧ o ≠ 2) by omega) with ho | ho | ho
  · have HEE := Lib.hid (HE.out.1 ho)
    have f1 := u8_t (a := o) (z := 1) (by omega)
    clear ho HE HB
    go_enter Try.func33, Try.ntmps33
    go_wp2_with fail
    rw [← HW.out]
    refine HA.out.mono ?_
    rintro e w2 ⟨rfl, hx2⟩
    have HX2 := Lib.hid (HX.out.trans hx2); clear hx2
    go_wp2
    go_ret
    exact ⟨by rw [HEE.out]; rfl, HX2.out⟩
  · have HEE := Lib.hid (HE.out.2.1 ho)
    have f1 := u8_f (a := o) (z := 1) (by omega)
    have f2 := u8_t (a := o) (z := 2) (by omega)
    clear ho HE HA
    go_enter Try.func33, Try.ntmps33
    go_wp2_with fail
    rw [← HW.out]
    refine HB.out.mono ?_
    rintro e w2 ⟨rfl, hx2⟩
    have HX2 := Lib.hid (HX.out.trans hx2); clear hx2
    go_wp2
    go_ret
    exact ⟨by rw [HEE.out]; rfl, HX2.out⟩
  · have HEE := Lib.hid (HE.out.2.2 ho)
    have f1 := u8_f (a := o) (z := 1) (by omega)
    have f2 := u8_f (a := o) (z := 2) (by omega)
    clear ho HE HA HB
    go_enter Try.func33, Try.ntmps33
    go_wp2
    go_ret
    exact ⟨by rw [HEE.out]; rfl, by have := HX.out; rwa [HW.out] at this⟩
set_option maxRecDepth 20000 in
set_option maxHeartbeats 4000000 in
theorem rightNew_any (r : Rl) (cv vw : Value) (o : Nat) (l : List Cel) (w : World) (hb : ColS w cv r.cols) (hf : r.fits) (hl : r.cols.length ≤ 1000000) (hv : PcS w vw l) :
    Calls Try.prog 34 #[.agg (relv r cv), .int .u8 (o : Nat), vw] w fun e w' => e = .returned (.int .i64 (newE r o l : Nat)) ∧ Ext w w' := by
  obtain ⟨W, hW⟩ : ∃ W, W = w.alloc (.cells (relv r cv) 33) := ⟨_, rfl⟩
  have hx : Ext w W := by rw [hW]; exact (Ch.refl _ _).alloc _
  have HX := Lib.hid hx; have HW := Lib.hid hW
  have HA := Lib.hid (isFull_any r cv vw l W (ColS.ext hb hx) hf hl (PcS.ext hv hx))
  have HB := Lib.hid (keyed_any r cv vw l W (ColS.ext hb hx) hf hl (PcS.ext hv hx))
  have HE : Hid ((o = 4 → newE r o l = isFullE r l) ∧ (o = 5 → newE r o l = keyedE r l) ∧ (o ≠ 4 ∧ o ≠ 5 → newE r o l = 0)) := Lib.hid ⟨fun h => by unfold newE; rw [if_pos h], fun h => by unfold newE; rw [if_neg (by omega), if_pos h], fun h => by unfold newE; rw [if_neg h.1, if_neg h.2]⟩
  generalize newE r o l = E at *
  generalize isFullE r l = E1 at *
  generalize keyedE r l = E2 at *
  obtain ⟨ao, cap, rfl, _⟩ := id hb
  obtain ⟨vo, vcap, rfl, _⟩ := hv.shape
  clear hb hf hl hv hx hW
  generalize r.cols.length = n at *
  generalize l.length = m at *
  unfold relv strV at *
  generalize (⟨r.name.toArray⟩ : ByteArray) = A1 at *
  generalize r.oid = o1 at *
  generalize r.ver = o2 at *
  generalize r.ident = o3 at *
  rcases (show o = 4 ∨ o = 5 ∨ (o ≠ 4 ∧ o ≠ 5) by omega) with ho | ho | ho
  · have HEE := Lib.hid (HE.out.1 ho)
    have f1 := u8_t (a := o) (z := 4) (by omega)
    clear ho HE HB
    go_enter Try.func34, Try.ntmps34
    go_wp2_with fail
    rw [← HW.out]
    refine HA.out.mono ?_
    rintro e w2 ⟨rfl, hx2⟩
    have HX2 := Lib.hid (HX.out.trans hx2); clear hx2
    go_wp2
    go_ret
    exact ⟨by rw [HEE.out]; rfl, HX2.out⟩
  · have HEE := Lib.hid (HE.out.2.1 ho)
    have f1 := u8_f (a := o) (z := 4) (by omega)
    have f2 := u8_t (a := o) (z := 5) (by omega)
    clear ho HE HA
    go_enter Try.func34, Try.ntmps34
    go_wp2_with fail
    rw [← HW.out]
    refine HB.out.mono ?_
    rintro e w2 ⟨rfl, hx2⟩
    have HX2 := Lib.hid (HX.out.trans hx2); clear hx2
    go_wp2
    go_ret
    exact ⟨by rw [HEE.out]; rfl, HX2.out⟩
  · have HEE := Lib.hid (HE.out.2.2 ho)
    have f1 := u8_f (a := o) (z := 4) (by omega)
    have f2 := u8_f (a := o) (z := 5) (by omega)
    clear ho HE HA HB
    go_enter Try.func34, Try.ntmps34
    go_wp2
    go_ret
    exact ⟨by rw [HEE.out]; rfl, by have := HX.out; rwa [HW.out] at this⟩
end Go.Proofs.Ytdpebdbfphlmeaa
