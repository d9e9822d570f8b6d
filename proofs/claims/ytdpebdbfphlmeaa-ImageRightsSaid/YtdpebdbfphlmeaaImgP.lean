/-
  Images: Right (the document's). MADE BY mkImgP.py
-/
import Derived.Test.YtdpebdbfphlmeaaImgK
import Derived.Test.YtdpebdbfphlmeaaImgL
namespace Go.Proofs.Ytdpebdbfphlmeaa
open Go.RowKit Go.Lac

theorem old0 (r : Rl) (b : List Cel) : oldE r 0 b = 0 := rfl
theorem old1 (r : Rl) (b : List Cel) : oldE r 1 b = isKeyE r b := rfl
theorem old2 (r : Rl) (b : List Cel) : oldE r 2 b = isFullE r b := rfl
theorem new4 (r : Rl) (a : List Cel) : newE r 4 a = isFullE r a := rfl
theorem new5 (r : Rl) (a : List Cel) : newE r 5 a = keyedE r a := rfl
theorem new6 (r : Rl) (a : List Cel) : newE r 6 a = 0 := rfl
theorem beq_f {a b : Int} (h : a ≠ b) : (a == b) = false := beq_eq_false_iff_ne.2 h
theorem bne_t {a b : Int} (h : a ≠ b) : (a != b) = true := by rw [bne, beq_f h]; rfl
theorem may_big {i k o : Nat} (h : 2 < o) : mayB i k o = false := by
  unfold mayB
  (repeat' split) <;> first | (apply decide_eq_false; omega) | rfl
theorem rightE_big {r : Rl} {k o : Nat} {b a : List Cel} (hk : ¬ (k ≠ 4 ∧ k ≠ 5 ∧ k ≠ 6)) (h : 2 < o) : rightE r k o b a = 14 := by
  by_cases h2 : (o = 0 ∧ 0 < b.length) ∨ (k = 6 ∧ 0 < a.length)
  · exact rightE_len hk h2
  · exact rightE_may hk h2 (may_big h)
end Go.Proofs.Ytdpebdbfphlmeaa
