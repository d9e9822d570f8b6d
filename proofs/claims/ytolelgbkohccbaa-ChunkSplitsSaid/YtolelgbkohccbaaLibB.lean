/-
  A library of the verifier's own, over no program, second part: slices cut, lists built, in a region whose order is drawn.
-/
import Derived.Test.YtolelgbkohccbaaLib
import Derived.Great.BuildSlice
namespace Go.Lac
open Go Go.RowKit

theorem elem_eq {P : Program} {t e : TypeId} (h : P.underlying t = some (.slice e)) : P.elem t = e := by simp [Program.elem, h]

section
variable {P : Program} {w : World} {t e : TypeId} {inf : TypeInfo}

theorem run_cut_h (h : P.underlying t = some (.slice e)) (hinf : P.info? e = some inf) (hsz : inf.size = 1) (b off len cap n : Nat) (hn : n ≤ cap) :
    (Instr.sliceAt t (.slice (some ⟨b, off, none⟩) len cap) none (some (.int .i64 (n : Nat))) none).run P w = .ok (.slice (some ⟨b, off, none⟩) n cap) w := by
  have he := elem_eq h
  have h' : P.underlying t = some (.slice (P.elem t)) := by rw [he]; exact h
  rw [run_sliceAt_slice (h := h'), run_slice_h (ht := h') (h0 := by omega) (h2 := by omega), he]
  simp [sizeOf, typeInfo, hinf, hsz, sliced, Addr.add]
theorem run_cut_l (h : P.underlying t = some (.slice e)) (hinf : P.info? e = some inf) (hsz : inf.size = 1) (b off len cap n : Nat) (hn : n ≤ len) (hc : n < cap) :
    (Instr.sliceAt t (.slice (some ⟨b, off, none⟩) len cap) (some (.int .i64 (n : Nat))) none none).run P w = .ok (.slice (some ⟨b, off + n, none⟩) (len - n) (cap - n)) w := by
  have he := elem_eq h
  have h' : P.underlying t = some (.slice (P.elem t)) := by rw [he]; exact h
  rw [run_sliceAt_slice (h := h'), run_slice_l (ht := h') (h0 := by omega) (h1 := by omega), he]
  have hne : ¬ cap = n := by omega
  simp [sizeOf, typeInfo, hinf, hsz, sliced, hne, Addr.add_lit]
theorem run_cut_lh (h : P.underlying t = some (.slice e)) (hinf : P.info? e = some inf) (hsz : inf.size = 1) (b off len cap l n : Nat) (hl : l ≤ n) (hn : n ≤ cap) (hc : l < cap) :
    (Instr.sliceAt t (.slice (some ⟨b, off, none⟩) len cap) (some (.int .i64 (l : Nat))) (some (.int .i64 (n : Nat))) none).run P w = .ok (.slice (some ⟨b, off + l, none⟩) (n - l) (cap - l)) w := by
  have he := elem_eq h
  have h' : P.underlying t = some (.slice (P.elem t)) := by rw [he]; exact h
  rw [run_sliceAt_slice (h := h'), run_slice_lh (ht := h') (h0 := by omega) (h1 := by omega) (h2 := by omega), he]
  have hne : ¬ cap = l := by omega
  simp [sizeOf, typeInfo, hinf, hsz, sliced, hne, Addr.add_lit]

theorem run_list_one (hu : P.underlying t = some (.slice e)) (hie : P.info? e = some inf) (hz : inf.zero = some (.slice none 0 0)) (hsz : inf.size = 1) (a : Option Addr) (len cap : Nat) :
    (Instr.buildSlice t 1 #[(0, .slice a len cap)]).run P w = .ok (.slice (some ⟨w.heap.size, 0, none⟩) 1 1) (w.alloc (.cells #[.slice a len cap] e)) := by
  refine run_buildSlice w t e 1 _ _ inf _ hu hie hz (by rw [hsz]; decide) (by rw [hsz]; decide) ?_
  rw [hsz]
  simp [Instr.fill, Value.cells]
  rw [show Array.range 1 = #[0] from rfl]
  simp
end

section
variable {P : Program} {ρ : Operand → Value} {o : Oper} {w : World} {T : Tmp → Kn} {d : Tmp} {t e : TypeId} {inf : TypeInfo}
theorem Exec.kcut_h {x y : Operand} {b off len cap n : Nat} (ho : o.op = .slice t x none (some y) none) (hd : o.dst = some d) (h : P.underlying t = some (.slice e)) (hinf : P.info? e = some inf) (hsz : inf.size = 1)
    (hx : ρ x = .slice (some ⟨b, off, none⟩) len cap) (hy : ρ y = .int .i64 (n : Nat)) (hn : n ≤ cap) (hv : (T d).holds (.slice (some ⟨b, off, none⟩) n cap) w) :
    Exec P ρ o w fun v w' => (∀ d, o.dst = some d → knV T d v w') ∧ Ext w w' :=
  Exec.same hd (by unfold execOp; rw [ho]; simp only [Option.map_some, Option.map_none, hx, hy, Sem.run_bind, run_cut_h h hinf hsz b off len cap n hn, Result.andThen_ok, Sem.run_pure]) hv
theorem Exec.kcut_l {x y : Operand} {b off len cap n : Nat} (ho : o.op = .slice t x (some y) none none) (hd : o.dst = some d) (h : P.underlying t = some (.slice e)) (hinf : P.info? e = some inf) (hsz : inf.size = 1)
    (hx : ρ x = .slice (some ⟨b, off, none⟩) len cap) (hy : ρ y = .int .i64 (n : Nat)) (hn : n ≤ len) (hc : n < cap) (hv : (T d).holds (.slice (some ⟨b, off + n, none⟩) (len - n) (cap - n)) w) :
    Exec P ρ o w fun v w' => (∀ d, o.dst = some d → knV T d v w') ∧ Ext w w' :=
  Exec.same hd (by unfold execOp; rw [ho]; simp only [Option.map_some, Option.map_none, hx, hy, Sem.run_bind, run_cut_l h hinf hsz b off len cap n hn hc, Result.andThen_ok, Sem.run_pure]) hv
theorem Exec.kcut_lh {x y z : Operand} {b off len cap l n : Nat} (ho : o.op = .slice t x (some y) (some z) none) (hd : o.dst = some d) (h : P.underlying t = some (.slice e)) (hinf : P.info? e = some inf) (hsz : inf.size = 1)
    (hx : ρ x = .slice (some ⟨b, off, none⟩) len cap) (hy : ρ y = .int .i64 (l : Nat)) (hz : ρ z = .int .i64 (n : Nat)) (hl : l ≤ n) (hn : n ≤ cap) (hc : l < cap) (hv : (T d).holds (.slice (some ⟨b, off + l, none⟩) (n - l) (cap - l)) w) :
    Exec P ρ o w fun v w' => (∀ d, o.dst = some d → knV T d v w') ∧ Ext w w' :=
  Exec.same hd (by unfold execOp; rw [ho]; simp only [Option.map_some, Option.map_none, hx, hy, hz, Sem.run_bind, run_cut_lh h hinf hsz b off len cap l n hl hn hc, Result.andThen_ok, Sem.run_pure]) hv
/-- An operation that makes one new block. -/
theorem Exec.kalloc {v : Value} {ob : Obj} (hd : o.dst = some d) (hr : (execOp ρ o).run P w = .ok (.value v) (w.alloc ob)) (hv : (T d).holds v (w.alloc ob)) :
    Exec P ρ o w fun v w' => (∀ d, o.dst = some d → knV T d v w') ∧ Ext w w' :=
  .value hr ⟨fun d' h => by rw [hd] at h; cases h; exact hv, (Ch.refl _ _).alloc _⟩
theorem Exec.klist_one {x : Operand} {a : Option Addr} {len cap : Nat} (ho : o.op = .buildSlice t 1 #[(0, x)]) (hd : o.dst = some d) (hu : P.underlying t = some (.slice e)) (hie : P.info? e = some inf) (hz : inf.zero = some (.slice none 0 0)) (hsz : inf.size = 1)
    (hx : ρ x = .slice a len cap) (hv : (T d).holds (.slice (some ⟨w.heap.size, 0, none⟩) 1 1) (w.alloc (.cells #[.slice a len cap] e))) :
    Exec P ρ o w fun v w' => (∀ d, o.dst = some d → knV T d v w') ∧ Ext w w' :=
  Exec.kalloc hd (by unfold execOp; rw [ho]; simp only [List.map_toArray, List.map_cons, List.map_nil, hx, Sem.run_bind, run_list_one hu hie hz hsz a len cap, Result.andThen_ok, Sem.run_pure]) hv
end
end Go.Lac
