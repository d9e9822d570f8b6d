/-
  Arguments opened: a list of refs.
-/
import Derived.Test.YtegclfpmgilnpaaGOpen
import Derived.Test.YtegclfpmgilnpaaCatU
namespace Go.Proofs.Ytegclfpmgilnpaa
open Go Go.RowKit Go.Lac Go.ChangeShapes Go.WideShapes Go.ChangeAt

theorem RfC_back : ∀ (l : List (Nat × Nat)) (i q : Nat) (hi : i < l.length) (u : Value), q < 2 → (RfC l)[i * 2 + q]? = some u → (refv l[i]).toList[q]? = some u
  | p :: l, 0, q, hi, u, hq, hu => by
    unfold RfC at hu
    rw [List.flatMap_cons, Nat.zero_mul, Nat.zero_add, List.getElem?_append_left (by simpa [refv] using hq)] at hu
    exact hu
  | p :: l, i + 1, q, hi, u, hq, hu => by
    refine RfC_back l i q (by simpa using hi) u hq ?_
    unfold RfC at hu ⊢
    rw [List.flatMap_cons, List.getElem?_append_right (by simp [refv]; omega)] at hu
    rwa [show (i + 1) * 2 + q - (refv p).toList.length = i * 2 + q by simp [refv]; omega] at hu
section
variable {H : Type} {enc : TypeId × Value → H} {w : World} {base : Nat} {held : Bool} {r : Reach} {b0 : Nat}
set_option maxRecDepth 20000 in
theorem open_refs {v : Value} {d : DataW H} {ps : List MemPlace} (hv : Value.okWide Try.prog w r b0 26 v) (h : DataW.Trod enc Try.prog w base (fun _ => true) held 26 v d ps) :
    ∃ l : List (Nat × Nat), RfS w v l := by
  obtain ⟨a, len, cap, rfl⟩ := okWide_slice Try.underlying26 hv
  obtain ⟨fuel, hf⟩ := h
  rcases Go.Deep.open_slice Try.underlying26 hf with ⟨hcs, _⟩ | ⟨x, l, c, m, n, D, Pl, hcs, _, hl, hm, hmm, _, hx⟩
  · simp [Value.cells] at hcs
    obtain ⟨rfl, rfl, rfl⟩ := hcs
    exact ⟨[], none, 0, rfl, Nat.le_refl _, Nat.zero_le _, fun _ => rfl, fun x hx => by cases hx⟩
  · simp [Value.cells] at hcs
    obtain ⟨rfl, rfl, rfl⟩ := hcs
    simp only [if_true] at hmm
    subst hmm
    rw [cellsRR] at hx
    have key : ∀ i, i < len → ∃ y : Nat × Nat, ∃ b o, some x = some ⟨b, o, none⟩ ∧ w.rangeAt b (o + i * 2) (refv y).toList := fun i hi => by
      obtain ⟨cs', g1, g2⟩ := hx i (by omega)
      obtain ⟨_, g3, g4⟩ := World.cells?_some g1
      obtain ⟨q, e1, e2⟩ := ref_cells g2
      subst e1
      have hsp : x.spot = none := by
        obtain ⟨cs0, q1, _⟩ := hx 0 (by omega)
        obtain ⟨_, q3, q4⟩ := World.cells?_some q1
        have q5 := q4 0 (by omega)
        rw [List.getElem?_eq_getElem (by omega)] at q5
        have := World.cell?_spot q5
        simpa [Addr.add] using this
      obtain ⟨b, o, sp⟩ := x
      cases hsp
      refine ⟨q, b, o, rfl, fun j u hj => ?_⟩
      have hj5 : j < 2 := by have := (List.getElem?_eq_some_iff.1 hj).1; simpa [refv] using this
      have := g4 j hj5
      rw [Addr.add_lit, Addr.add_lit, hj] at this
      exact this
    obtain ⟨L, h1, h2⟩ := choose_l len key
    subst h1
    refine ⟨L, some x, _, rfl, hl, by omega, (fun h => by cases h), fun y hy j u hu => ?_⟩
    have hj : j < L.length * 2 := by have := (List.getElem?_eq_some_iff.1 hu).1; rwa [RfC_length] at this
    obtain ⟨b, o, e, hr⟩ := h2 (j / 2) (by omega)
    rw [hy] at e; cases e
    refine ⟨b, o, rfl, ?_⟩
    have := hr (j % 2) u (RfC_back L (j / 2) (j % 2) (by omega) u (Nat.mod_lt _ (by decide)) (by rw [show j / 2 * 2 + j % 2 = j by omega]; exact hu))
    rwa [show o + j / 2 * 2 + j % 2 = o + j by omega] at this
end
end Go.Proofs.Ytegclfpmgilnpaa
