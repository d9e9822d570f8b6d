import Derived.Test.YtegclfpmgilnpaaGreatCelC
namespace Go.Proofs.YtegclfpmgilnpaaGreat
open Go.RowKit Go.Lac
theorem run_rceq (a b : Cel) (w : World) : (binOp .eql 76 (rc a) (rc b)).run Tryz.prog w = .ok (.bool (decide (a = b))) w := by
  obtain ⟨q, k, n, re, im, t⟩ := a
  obtain ⟨q', k', n', re', im', t'⟩ := b
  have hp : Tryz.prog.stoodInHeld 76 = false := by kernel_rfl
  have hp2 : Tryz.prog.stoodInHeld 74 = false := by kernel_rfl
  have hq := toList_beq t t'
  have hd : decide ((⟨q, ⟨k, n, re, im, t⟩⟩ : Cel) = ⟨q', ⟨k', n', re', im', t'⟩⟩) = (decide (q = q') && (decide (k = k') && (decide (n = n') && (decide (re = re') && (decide (im = im') && decide (t = t')))))) := by
    rw [Bool.eq_iff_iff]; simp
  rw [hd, ← hq, ← nat_beq q, ← nat_beq k, ← nat_beq re, ← nat_beq im]
  have hn : decide (n = n') = (n == n') := by rw [Bool.eq_iff_iff]; simp
  rw [hn]
  unfold rc rcv strV
  simp only
  generalize (⟨t.toArray⟩ : ByteArray) = A1
  generalize (⟨t'.toArray⟩ : ByteArray) = A2
  generalize ((q : Nat) : Int) = q
  generalize ((q' : Nat) : Int) = q'
  generalize ((k : Nat) : Int) = k
  generalize ((k' : Nat) : Int) = k'
  generalize ((re : Nat) : Int) = re
  generalize ((re' : Nat) : Int) = re'
  generalize ((im : Nat) : Int) = im
  generalize ((im' : Nat) : Int) = im'
  clear hq hd
  rw [run_eql_struct, run_equalIn_agg _ _ _ _ _ (by kernel_rfl) hp]
  simp [go_sem, Program.fieldsOf, hp2]
  by_cases h0 : q = q' <;> by_cases h1 : k = k' <;> by_cases h2 : n = n' <;> by_cases h3 : re = re' <;> by_cases h4 : im = im' <;> by_cases h5 : A1.toList = A2.toList <;> simp [h0, h1, h2, h3, h4, h5]
end Go.Proofs.YtegclfpmgilnpaaGreat
