/-
  Images: Right (the program's). MADE BY mkImgK.py
-/
import Derived.Test.YtdpebdbfphlmeaaImgJ
namespace Go.Proofs.Ytdpebdbfphlmeaa
open Go.RowKit Go.Lac

def rightE (r : Rl) (k o : Nat) (b a : List Cel) : Nat :=
  if k ≠ 4 ∧ k ≠ 5 ∧ k ≠ 6 then 7 else if (o = 0 ∧ 0 < b.length) ∨ (k = 6 ∧ 0 < a.length) then 14 else if mayB r.ident k o = false then 14
  else if oldE r o b ≠ 0 then oldE r o b else if newE r k a ≠ 0 then newE r k a else if k = 5 ∧ o = 1 ∧ b = keyOf r.cols a then 13 else 0
section
variable {r : Rl} {k o : Nat} {b a : List Cel}
theorem rightE_kind (h : k ≠ 4 ∧ k ≠ 5 ∧ k ≠ 6) : rightE r k o b a = 7 := by unfold rightE; rw [if_pos h]
theorem rightE_len (hk : ¬ (k ≠ 4 ∧ k ≠ 5 ∧ k ≠ 6)) (h : (o = 0 ∧ 0 < b.length) ∨ (k = 6 ∧ 0 < a.length)) : rightE r k o b a = 14 := by unfold rightE; rw [if_neg hk, if_pos h]
theorem rightE_may (hk : ¬ (k ≠ 4 ∧ k ≠ 5 ∧ k ≠ 6)) (hl : ¬ ((o = 0 ∧ 0 < b.length) ∨ (k = 6 ∧ 0 < a.length))) (h : mayB r.ident k o = false) : rightE r k o b a = 14 := by unfold rightE; rw [if_neg hk, if_neg hl, if_pos h]
theorem rightE_old (hk : ¬ (k ≠ 4 ∧ k ≠ 5 ∧ k ≠ 6)) (hl : ¬ ((o = 0 ∧ 0 < b.length) ∨ (k = 6 ∧ 0 < a.length))) (hm : mayB r.ident k o = true) (h : oldE r o b ≠ 0) : rightE r k o b a = oldE r o b := by unfold rightE; rw [if_neg hk, if_neg hl, if_neg (by rw [hm]; decide), if_pos h]
theorem rightE_new (hk : ¬ (k ≠ 4 ∧ k ≠ 5 ∧ k ≠ 6)) (hl : ¬ ((o = 0 ∧ 0 < b.length) ∨ (k = 6 ∧ 0 < a.length))) (hm : mayB r.ident k o = true) (ho : oldE r o b = 0) (h : newE r k a ≠ 0) : rightE r k o b a = newE r k a := by unfold rightE; rw [if_neg hk, if_neg hl, if_neg (by rw [hm]; decide), if_neg (fun hn => hn ho), if_pos h]
theorem rightE_end (hk : ¬ (k ≠ 4 ∧ k ≠ 5 ∧ k ≠ 6)) (hl : ¬ ((o = 0 ∧ 0 < b.length) ∨ (k = 6 ∧ 0 < a.length))) (hm : mayB r.ident k o = true) (ho : oldE r o b = 0) (hn : newE r k a = 0) : rightE r k o b a = if k = 5 ∧ o = 1 ∧ b = keyOf r.cols a then 13 else 0 := by unfold rightE; rw [if_neg hk, if_neg hl, if_neg (by rw [hm]; decide), if_neg (fun h => h ho), if_neg (fun h => h hn)]
end
theorem ngt_t {a : Nat} {z : Nat} (h : a > z) : ((a : Nat) : Int) > (z : Nat) := by omega
end Go.Proofs.Ytdpebdbfphlmeaa
