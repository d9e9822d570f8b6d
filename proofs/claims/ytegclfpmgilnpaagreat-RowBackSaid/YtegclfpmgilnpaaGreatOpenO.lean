import Derived.Test.YtegclfpmgilnpaaGreatOpenN
namespace Go.Proofs.YtegclfpmgilnpaaGreat
open Go Go.RowKit Go.Lac Go.ChangeShapes Go.WideShapes Go.ChangeAt
section
variable {H : Type} {enc : TypeId × Value → H} {w : World} {base : Nat} {held : Bool} {r : Reach} {b0 : Nat}
set_option maxRecDepth 20000 in
theorem cel_cellsO {fuel : Nat} {spare : Nat → Bool} {cs : List Value} {x : DataW H × List MemPlace} (h : DataW.trod enc Tryz.prog w base spare held fuel 76 cs = some x) : ∃ c : Cel, cs = (rcv c).toList ∧ c.ok := by
  obtain ⟨xs, n', _, _, hl, g5, g6⟩ := DataW.trod_struct Tryz.underlying76 h
  rw [cellsRcc] at hl
  match cs, hl, xs, g5 with
  | [u0, u1, u2, u3, u4, u5], _, [y0, y1], _ =>
    have k0 := g6 0 _ rfl
    have k1 := g6 1 _ rfl
    simp [cells1_u8, cellsRvv] at k0 k1
    obtain ⟨z0, hz0, _, w0⟩ := DataW.trod_int Tryz.underlying5 k0
    simp at hz0
    subst hz0
    have b0 := wf_u8_bd w0
    obtain ⟨z0, rfl⟩ := Int.eq_ofNat_of_zero_le b0.1
    obtain ⟨v, e1, e2, e3⟩ := open_val_cells Tryz.underlying74 rfl rfl rfl rfl rfl rfl Tryz.underlying5 Tryz.underlying3 Tryz.underlying72 Tryz.underlying72 Tryz.underlying9 rfl rfl rfl rfl rfl (by kernel_rfl) (by kernel_rfl) (by kernel_rfl) (by kernel_rfl) (by kernel_rfl) k1
    unfold rvals at e1
    simp only [Array.mk.injEq, List.cons.injEq, and_true] at e1
    obtain ⟨q1, q2, q3, q4, q5⟩ := e1
    exact ⟨⟨z0, v⟩, by rw [q1, q2, q3, q4, q5]; rfl, by simp only; omega, e2⟩
set_option maxRecDepth 20000 in
theorem rowc_cellsO {fuel : Nat} {cs : List Value} {x : DataW H × List MemPlace} (h : DataW.trod enc Tryz.prog w base (fun _ => true) held fuel 45 cs = some x) : ∃ (v : Value) (l : List Cel), cs = [v] ∧ RcS w v l ∧ ∀ c ∈ l, c.ok := by
  rcases Go.Deep.open_slice Tryz.underlying45 h with ⟨hcs, _⟩ | ⟨x, l, c, m, n, D, Pl, hcs, _, hl, hm, hmm, _, hx⟩
  · exact ⟨_, [], hcs, ⟨none, 0, rfl, Nat.le_refl _, Nat.zero_le _, fun _ => rfl, fun x hx => by cases hx⟩, by simp⟩
  · simp only [if_true] at hmm
    subst hmm
    rw [cellsRcc] at hx
    have key : ∀ i, i < l → ∃ y : Cel, y.ok ∧ (∃ b o, some x = some ⟨b, o, none⟩ ∧ w.rangeAt b (o + i * 6) (rcv y).toList) := fun i hi => by
      obtain ⟨cs', g1, g2⟩ := hx i (by omega)
      obtain ⟨_, g3, g4⟩ := World.cells?_some g1
      obtain ⟨y, e1, e2⟩ := cel_cellsO g2
      subst e1
      have hsp : x.spot = none := by
        obtain ⟨cs0, q1, _⟩ := hx 0 (by omega)
        obtain ⟨_, q3, q4⟩ := World.cells?_some q1
        have q5 := q4 0 (by omega)
        rw [List.getElem?_eq_getElem (by omega)] at q5
        have := World.cell?_spot q5
        simpa [Addr.add] using this
      obtain ⟨b, o, sp⟩ := x
      cases hsp
      refine ⟨y, e2, b, o, rfl, fun j u hj => ?_⟩
      have hj3 : j < 6 := by have := (List.getElem?_eq_some_iff.1 hj).1; simpa [rcv] using this
      have := g4 j hj3
      rw [Addr.add_lit, Addr.add_lit, hj] at this
      exact this
    obtain ⟨L, h1, h2⟩ := choose_l l key
    exact ⟨_, L, hcs, rcS_of_at h1.symm hl (by omega) (fun h => by cases h) fun i hi => (h2 i hi).2, fun c hc => by
      obtain ⟨i, hi, rfl⟩ := List.mem_iff_getElem.1 hc
      exact (h2 i hi).1⟩
set_option maxRecDepth 20000 in
theorem open_rowO {v : Value} {d : DataW H} {ps : List MemPlace} (hv : Value.okWide Tryz.prog w r b0 45 v) (h : DataW.Trod enc Tryz.prog w base (fun _ => true) held 45 v d ps) :
    ∃ l : List Cel, RcS w v l ∧ ∀ c ∈ l, c.ok := by
  obtain ⟨fuel, hf⟩ := h
  obtain ⟨u, l, h1, h2⟩ := rowc_cellsO hf
  have e : v = u := by
    obtain ⟨a, n, c, rfl⟩ := okWide_slice Tryz.underlying45 hv
    simpa [Value.cells] using h1
  subst e
  exact ⟨l, h2⟩
end
end Go.Proofs.YtegclfpmgilnpaaGreat
