/-
  Values of the document compared by ==.
-/
import Derived.Test.YteechmgcjfnjbaaValD
import Derived.Laws.StructEq
namespace Go.Proofs.Yteechmgcjfnjbaa
open Go.RowKit Go.Lac

theorem infoR (v : Val) : (Try.prog.info? 24).map (·.size) = some (rvals v).size := info54
theorem infoP (v : Val) : (Try.prog.info? 29).map (·.size) = some (pvals v).size := info61
theorem emptyU8 (w : World) : (Instr.buildSlice 45 0 #[]).run Try.prog w = .ok (.slice (some ⟨w.heap.size, 0, none⟩) 0 0) (w.alloc (.cells #[] 5)) := by kernel_rfl
theorem nat_beq (a b : Nat) : (((a : Nat) : Int) == ((b : Nat) : Int)) = decide (a = b) := by
  rw [Bool.eq_iff_iff]; simp; omega
theorem run_rveq (a b : Val) (w : World) : (binOp .eql 24 (rv a) (rv b)).run Try.prog w = .ok (.bool (decide (a = b))) w := by
  obtain ⟨k, n, re, im, t⟩ := a
  obtain ⟨k', n', re', im', t'⟩ := b
  have hp : Try.prog.stoodInHeld 24 = false := by kernel_rfl
  have hq := toList_beq t t'
  have hd : decide ((⟨k, n, re, im, t⟩ : Val) = ⟨k', n', re', im', t'⟩) = (decide (k = k') && (decide (n = n') && (decide (re = re') && (decide (im = im') && decide (t = t'))))) := by
    rw [Bool.eq_iff_iff]; simp
  rw [hd, ← hq, ← nat_beq k, ← nat_beq re, ← nat_beq im]
  have hn : decide (n = n') = (n == n') := by rw [Bool.eq_iff_iff]; simp
  rw [hn]
  unfold rv rvals strV
  simp only
  generalize (⟨t.toArray⟩ : ByteArray) = A1
  generalize (⟨t'.toArray⟩ : ByteArray) = A2
  generalize ((k : Nat) : Int) = k
  generalize ((k' : Nat) : Int) = k'
  generalize ((re : Nat) : Int) = re
  generalize ((re' : Nat) : Int) = re'
  generalize ((im : Nat) : Int) = im
  generalize ((im' : Nat) : Int) = im'
  clear hq hd
  rw [run_eql_struct, run_equalIn_agg _ _ _ _ _ (by kernel_rfl) hp]
  simp [go_sem, Program.fieldsOf]
  by_cases h1 : k = k' <;> by_cases h2 : n = n' <;> by_cases h3 : re = re' <;> by_cases h4 : im = im' <;> by_cases h5 : A1.toList = A2.toList <;> simp [h1, h2, h3, h4, h5]
theorem Exec.krveq {ρ : Operand → Value} {o : Oper} {w : World} {T : Tmp → Kn} {d : Tmp} {ty : TypeId} {x y : Operand} {a b : Val} (ho : o.op = .binOp .eql 24 x y ty) (hd : o.dst = some d)
    (hx : ρ x = rv a) (hy : ρ y = rv b) (hv : (T d).holds (.bool (decide (a = b))) w) :
    Exec Try.prog ρ o w fun v w' => (∀ d, o.dst = some d → knV T d v w') ∧ Ext w w' :=
  Exec.same (v := .bool (decide (a = b))) hd (by
    unfold execOp; rw [ho]
    have hg : (eqGuard .eql 24 x y (rv a) (rv b)).run Try.prog w = .ok () w := run_eqGuard_agg w _ _ _ _ _ _ (by kernel_rfl)
    simp only [hx, hy, Sem.run_bind, hg, Result.andThen_ok, run_rveq, Sem.run_pure]) hv
end Go.Proofs.Yteechmgcjfnjbaa
