/-
  Cells of the document, compared.
-/
import Derived.Test.YtegclfpmgilnpaaCelC
namespace Go.Proofs.Ytegclfpmgilnpaa
open Go.RowKit Go.Lac

theorem run_rceq (a b : Cel) (w : World) : (binOp .eql 124 (rc a) (rc b)).run Try.prog w = .ok (.bool (decide (a = b))) w := by
  obtain ⟨q, k, n, re, im, t⟩ := a
  obtain ⟨q', k', n', re', im', t'⟩ := b
  have hp : Try.prog.stoodInHeld 124 = false := by kernel_rfl
  have hp2 : Try.prog.stoodInHeld 122 = false := by kernel_rfl
  have hq := toList_beq t t'
  have hd : decide ((⟨q, ⟨k, n, re, im, t⟩⟩ : Cel) = ⟨q', ⟨k', n', re', im', t'⟩⟩) = (decide (q = q') && (decide (k = k') && (decide (n = n') && (decide (re = re') && (decide (im = im') && decide (t = t')))))) := by
    rw [Bool.eq_iff_iff]; simp
  rw [hd, ← hq, ← nat_beq q, ← nat_beq k, ← nat_beq re, ← nat_beq im]
  have hn : decide (n = n') = (n == n') := by rw [Bool.eq_iff_iff]; simp
  rw [hn]
  unfold rc rcv strV
  simp only
  generalize (⟨t.toArray⟩ : ByteArray) = A1
  generalize (⟨t'.toArray⟩ : ByteArray) = A2
  generalize ((q : Nat) : Int) = q
  generalize ((q' : Nat) : Int) = q'
  generalize ((k : Nat) : Int) = k
  generalize ((k' : Nat) : Int) = k'
  generalize ((re : Nat) : Int) = re
  generalize ((re' : Nat) : Int) = re'
  generalize ((im : Nat) : Int) = im
  generalize ((im' : Nat) : Int) = im'
  clear hq hd
  rw [run_eql_struct, run_equalIn_agg _ _ _ _ _ (by kernel_rfl) hp]
  simp [go_sem, Program.fieldsOf, hp2]
  by_cases h0 : q = q' <;> by_cases h1 : k = k' <;> by_cases h2 : n = n' <;> by_cases h3 : re = re' <;> by_cases h4 : im = im' <;> by_cases h5 : A1.toList = A2.toList <;> simp [h0, h1, h2, h3, h4, h5]
theorem Exec.krceq {ρ : Operand → Value} {o : Oper} {w : World} {T : Tmp → Kn} {d : Tmp} {ty : TypeId} {x y : Operand} {a b : Cel} (ho : o.op = .binOp .eql 124 x y ty) (hd : o.dst = some d)
    (hx : ρ x = rc a) (hy : ρ y = rc b) (hv : (T d).holds (.bool (decide (a = b))) w) :
    Exec Try.prog ρ o w fun v w' => (∀ d, o.dst = some d → knV T d v w') ∧ Ext w w' :=
  Exec.same (v := .bool (decide (a = b))) hd (by
    unfold execOp; rw [ho]
    have hg : (eqGuard .eql 124 x y (rc a) (rc b)).run Try.prog w = .ok () w := run_eqGuard_agg w _ _ _ _ _ _ (by kernel_rfl)
    simp only [hx, hy, Sem.run_bind, hg, Result.andThen_ok, run_rceq, Sem.run_pure]) hv
end Go.Proofs.Ytegclfpmgilnpaa
