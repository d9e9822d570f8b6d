/-
  A slice of records of two numbers, opened.
-/
import Derived.Test.YtpbedbbggnhkbaaLib
import Derived.Test.YtpbedbbggnhkbaaOpen
import Derived.Deep.Slices
namespace Go.Lac
open Go Go.RowKit Go.ChangeShapes Go.WideShapes Go.ChangeAt

def actsV (l : List (Nat × Nat)) : List Value := l.flatMap fun x => [.int .u8 (x.1 : Nat), .int .u64 (x.2 : Nat)]
theorem actsV_get : ∀ (l : List (Nat × Nat)) (j : Nat), (actsV l)[j]? = (l[j / 2]?).map fun x => if j % 2 = 0 then .int .u8 (x.1 : Nat) else .int .u64 (x.2 : Nat)
  | [], j => by simp [actsV]
  | x :: l, 0 => by simp [actsV]
  | x :: l, 1 => by simp [actsV]
  | x :: l, j + 2 => by
    have := actsV_get l j
    have e1 : (j + 2) / 2 = j / 2 + 1 := by omega
    have e2 : (j + 2) % 2 = j % 2 := by omega
    rw [e1, e2]
    simpa [actsV] using this
theorem actsV_length (l : List (Nat × Nat)) : (actsV l).length = 2 * l.length := by
  induction l with
  | nil => rfl
  | cons x l ih => simp only [actsV, List.flatMap_cons, List.length_append, List.length_cons] at *; simp at *; omega

section
variable {H : Type} {enc : TypeId × Value → H} {P : Program} {w : World} {base : Nat} {held : Bool} {r : Reach} {b0 : Nat}

theorem open_acts {t e : TypeId} {v : Value} {d : DataW H} {ps : List MemPlace} {fs : Array Field} {f0 f1 : Field} (ht : P.underlying t = some (.slice e)) (he : P.underlying e = some (.struct fs)) (hce : P.cellsOf e = 2)
    (hsz : fs.size = 2) (hf0 : fs[0]? = some f0) (hf1 : fs[1]? = some f1) (t0 : P.underlying f0.type = some (.int .u8)) (t1 : P.underlying f1.type = some (.int .u64)) (o0 : f0.offset = 0) (o1 : f1.offset = 1) (c0 : P.cellsOf f0.type = 1) (c1 : P.cellsOf f1.type = 1)
    (hv : Value.okWide P w r b0 t v) (h : DataW.Trod enc P w base (fun _ => true) held t v d ps) : ∃ l : List (Nat × Nat), Sl w v l.length (actsV l) ∧ ∀ x ∈ l, x.1 < 256 ∧ x.2 < 2 ^ 64 := by
  obtain ⟨a, len, cap, rfl⟩ := okWide_slice ht hv
  obtain ⟨fuel, hf⟩ := h
  rcases Go.Deep.open_slice ht hf with ⟨hcs, _⟩ | ⟨x, l, c, m, n, D, Pl, hcs, _, hl, hm, hmm, _, hx⟩
  · simp [Value.cells] at hcs
    obtain ⟨rfl, rfl, rfl⟩ := hcs
    exact ⟨[], ⟨none, 0, rfl, Nat.le_refl _, Nat.zero_le _, fun _ => rfl, fun x hx => by cases hx⟩, fun x hx => by cases hx⟩
  · simp [Value.cells] at hcs
    obtain ⟨rfl, rfl, rfl⟩ := hcs
    simp only [if_true] at hmm
    subst hmm
    rw [hce] at hx
    have key : ∀ i, i < m → ∃ y : Nat × Nat, (y.1 < 256 ∧ y.2 < 2 ^ 64) ∧ w.cell? (x.add (i * 2)) = some (.int .u8 (y.1 : Nat)) ∧ w.cell? ((x.add (i * 2)).add 1) = some (.int .u64 (y.2 : Nat)) := fun i hi => by
      obtain ⟨cs', g1, g2⟩ := hx i hi
      obtain ⟨_, g3, g4⟩ := World.cells?_some g1
      obtain ⟨xs, n', _, _, _, g5, g6⟩ := DataW.trod_struct he g2
      match cs', g3, xs, g5.trans hsz with
      | [u0, u1], _, [y0, y1], _ =>
        have k0 := g6 0 f0 hf0
        have k1 := g6 1 f1 hf1
        simp [o0, c0] at k0
        simp [o1, c1] at k1
        obtain ⟨z0, hz0, _, w0⟩ := DataW.trod_int t0 k0
        obtain ⟨z1, hz1, _, w1⟩ := DataW.trod_int t1 k1
        cases hz0; cases hz1
        have b0 := wf_u8_bd w0
        have b1 := wf_u64_bd w1
        have p0 := g4 0 (by omega)
        have p1 := g4 1 (by omega)
        obtain ⟨z0, rfl⟩ := Int.eq_ofNat_of_zero_le b0.1
        obtain ⟨z1, rfl⟩ := Int.eq_ofNat_of_zero_le b1.1
        refine ⟨(z0, z1), ⟨by omega, by omega⟩, ?_, ?_⟩
        · simpa [Addr.add] using p0
        · simpa using p1
    obtain ⟨A, hA⟩ := Go.Deep.choose_lt (α := Nat × Nat) (p := fun i y => (y.1 < 256 ∧ y.2 < 2 ^ 64) ∧ w.cell? (x.add (i * 2)) = some (.int .u8 (y.1 : Nat)) ∧ w.cell? ((x.add (i * 2)).add 1) = some (.int .u64 (y.2 : Nat))) key
    refine ⟨(List.range len).map A, ⟨some x, m, by simp, by simpa using hl, hm, (fun h => by cases h), fun y hy j u hu => ?_⟩, fun y hy => ?_⟩
    · cases hy
      rw [actsV_get] at hu
      have hj : j / 2 < len := by
        rcases Nat.lt_or_ge (j / 2) len with h | h
        · exact h
        · rw [List.getElem?_eq_none (by simpa using h)] at hu; cases hu
      have hA' := hA (j / 2) (by omega)
      have hsp : x.spot = none := by
        have := World.cell?_spot (hA 0 (by omega)).2.1
        simpa [Addr.add] using this
      obtain ⟨b, off, sp⟩ := x
      cases hsp
      refine ⟨b, off, rfl, ?_⟩
      rw [Addr.add_lit, Addr.add_lit] at hA'
      simp [hj] at hu
      by_cases h2 : j % 2 = 0
      · rw [if_pos h2] at hu
        rw [show off + j = off + j / 2 * 2 by omega, hA'.2.1, ← hu]
      · rw [if_neg h2] at hu
        rw [show off + j = off + j / 2 * 2 + 1 by omega, hA'.2.2, ← hu]
    · obtain ⟨i, hi, rfl⟩ := List.mem_map.1 hy
      exact (hA i (by have := List.mem_range.1 hi; omega)).1
end

theorem acts_cell {w : World} {v : Value} {l : List (Nat × Nat)} (h : Sl w v l.length (actsV l)) {ao : Option Addr} {cap : Nat} (hv : v = .slice ao l.length cap) (h0 : 0 < l.length) :
    ∃ b off, ao = some ⟨b, off, none⟩ ∧ l.length ≤ cap ∧ cap ≤ maxLen ∧ ∀ j (hj : j < l.length), w.cell? ⟨b, off + j * 2, none⟩ = some (.int .u8 (l[j].1 : Nat)) ∧ w.cell? ⟨b, off + j * 2 + 1, none⟩ = some (.int .u64 (l[j].2 : Nat)) := by
  obtain ⟨ao', cap', e, h1, h2, h3, h4⟩ := h
  rw [hv] at e
  simp only [Value.slice.injEq, true_and] at e
  obtain ⟨rfl, rfl⟩ := e
  cases ao with
  | none => have := h3 rfl; omega
  | some x =>
    obtain ⟨b, off, rfl, _⟩ := h4 x rfl 0 (.int .u8 (l[0].1 : Nat)) (by rw [actsV_get]; simp [h0])
    refine ⟨b, off, rfl, h1, h2, fun j hj => ⟨?_, ?_⟩⟩
    · obtain ⟨b', off', e', h5⟩ := h4 _ rfl (j * 2) (.int .u8 (l[j].1 : Nat)) (by rw [actsV_get, show j * 2 / 2 = j by omega]; simp [hj])
      cases e'
      exact h5
    · obtain ⟨b', off', e', h5⟩ := h4 _ rfl (j * 2 + 1) (.int .u64 (l[j].2 : Nat)) (by rw [actsV_get, show (j * 2 + 1) / 2 = j by omega, show (j * 2 + 1) % 2 = 1 by omega]; simp [hj])
      cases e'
      exact h5
end Go.Lac
