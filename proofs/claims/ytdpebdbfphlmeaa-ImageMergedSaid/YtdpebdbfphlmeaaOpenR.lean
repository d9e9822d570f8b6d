/-
  Arguments opened: a row of the document; an event.
-/
import Derived.Test.YtdpebdbfphlmeaaOpenF
import Derived.Test.YtdpebdbfphlmeaaGOpen
import Derived.Test.YtdpebdbfphlmeaaImgA
namespace Go.Proofs.Ytdpebdbfphlmeaa
open Go Go.RowKit Go.Lac Go.ChangeShapes Go.WideShapes Go.ChangeAt

section
variable {H : Type} {enc : TypeId × Value → H} {w : World} {base : Nat} {held : Bool} {r : Reach} {b0 : Nat}
theorem cellsRcc : Try.prog.cellsOf 65 = 6 := by kernel_rfl
theorem cellsRvv : Try.prog.cellsOf 63 = 5 := by kernel_rfl
theorem cells1_i64 : Try.prog.cellsOf 3 = 1 := by kernel_rfl
theorem cells1_row : Try.prog.cellsOf 28 = 1 := by kernel_rfl
theorem cellsEv : Try.prog.cellsOf 48 = 4 := by kernel_rfl
set_option maxRecDepth 20000 in
theorem cel_cells {fuel : Nat} {spare : Nat → Bool} {cs : List Value} {x : DataW H × List MemPlace} (h : DataW.trod enc Try.prog w base spare held fuel 65 cs = some x) : ∃ c : Cel, cs = (rcv c).toList ∧ c.v.t.length ≤ maxLen := by
  obtain ⟨xs, n', _, _, hl, g5, g6⟩ := DataW.trod_struct Try.underlying65 h
  rw [cellsRcc] at hl
  match cs, hl, xs, g5 with
  | [u0, u1, u2, u3, u4, u5], _, [y0, y1], _ =>
    have k0 := g6 0 _ rfl
    have k1 := g6 1 _ rfl
    simp [cells1_u8, cellsRvv] at k0 k1
    obtain ⟨z0, hz0, _, w0⟩ := DataW.trod_int Try.underlying5 k0
    simp at hz0
    subst hz0
    have b0 := wf_u8_bd w0
    obtain ⟨z0, rfl⟩ := Int.eq_ofNat_of_zero_le b0.1
    obtain ⟨v, e1, _, e3⟩ := open_val_cells Try.underlying63 rfl rfl rfl rfl rfl rfl Try.underlying5 Try.underlying3 Try.underlying61 Try.underlying61 Try.underlying9 rfl rfl rfl rfl rfl (by kernel_rfl) (by kernel_rfl) (by kernel_rfl) (by kernel_rfl) (by kernel_rfl) k1
    unfold rvals at e1
    simp only [Array.mk.injEq, List.cons.injEq, and_true] at e1
    obtain ⟨q1, q2, q3, q4, q5⟩ := e1
    exact ⟨⟨z0, v⟩, by rw [q1, q2, q3, q4, q5]; rfl, e3⟩
set_option maxRecDepth 20000 in
theorem rcS_of_at {ao : Option Addr} {n cap : Nat} {l : List Cel} (hn : n = l.length) (h1 : n ≤ cap) (h2 : cap ≤ maxLen) (h3 : ao = none → cap = 0) (h : ∀ i (hi : i < l.length), ∃ b o, ao = some ⟨b, o, none⟩ ∧ w.rangeAt b (o + i * 6) (rcv l[i]).toList) : RcS w (.slice ao n cap) l := by
  subst hn
  refine ⟨ao, cap, rfl, h1, h2, h3, fun x hx j u hu => ?_⟩
  have hj : j < l.length * 6 := by have := (List.getElem?_eq_some_iff.1 hu).1; rwa [RcC_length] at this
  obtain ⟨b, o, e, hr⟩ := h (j / 6) (by omega)
  rw [hx] at e; cases e
  refine ⟨b, o, rfl, ?_⟩
  have hq : j % 6 < (rcv l[j / 6]).toList.length := by have := Nat.mod_lt j (show 0 < 6 by decide); simpa [rcv] using this
  have h5 := RcC_at l (j / 6) (by omega) (j % 6) _ (List.getElem?_eq_getElem hq)
  rw [show j / 6 * 6 + j % 6 = j by omega, hu] at h5
  have := hr (j % 6) u (by rw [List.getElem?_eq_getElem hq]; exact h5.symm)
  rwa [show o + j / 6 * 6 + j % 6 = o + j by omega] at this
set_option maxRecDepth 20000 in
theorem rowc_cells {fuel : Nat} {cs : List Value} {x : DataW H × List MemPlace} (h : DataW.trod enc Try.prog w base (fun _ => true) held fuel 28 cs = some x) : ∃ (v : Value) (l : List Cel), cs = [v] ∧ RcS w v l := by
  rcases Go.Deep.open_slice Try.underlying28 h with ⟨hcs, _⟩ | ⟨x, l, c, m, n, D, Pl, hcs, _, hl, hm, hmm, _, hx⟩
  · exact ⟨_, [], hcs, none, 0, rfl, Nat.le_refl _, Nat.zero_le _, fun _ => rfl, fun x hx => by cases hx⟩
  · simp only [if_true] at hmm
    subst hmm
    rw [cellsRcc] at hx
    have key : ∀ i, i < l → ∃ y : Cel, (∃ b o, some x = some ⟨b, o, none⟩ ∧ w.rangeAt b (o + i * 6) (rcv y).toList) := fun i hi => by
      obtain ⟨cs', g1, g2⟩ := hx i (by omega)
      obtain ⟨_, g3, g4⟩ := World.cells?_some g1
      obtain ⟨y, e1, e2⟩ := cel_cells g2
      subst e1
      have hsp : x.spot = none := by
        obtain ⟨cs0, q1, _⟩ := hx 0 (by omega)
        obtain ⟨_, q3, q4⟩ := World.cells?_some q1
        have q5 := q4 0 (by omega)
        rw [List.getElem?_eq_getElem (by omega)] at q5
        have := World.cell?_spot q5
        simpa [Addr.add] using this
      obtain ⟨b, o, sp⟩ := x
      cases hsp
      refine ⟨y, b, o, rfl, fun j u hj => ?_⟩
      have hj3 : j < 6 := by have := (List.getElem?_eq_some_iff.1 hj).1; simpa [rcv] using this
      have := g4 j hj3
      rw [Addr.add_lit, Addr.add_lit, hj] at this
      exact this
    obtain ⟨L, h1, h2⟩ := choose_l l key
    exact ⟨_, L, hcs, rcS_of_at h1.symm hl (by omega) (fun h => by cases h) fun i hi => h2 i hi⟩
set_option maxRecDepth 20000 in
theorem open_row {v : Value} {d : DataW H} {ps : List MemPlace} (hv : Value.okWide Try.prog w r b0 28 v) (h : DataW.Trod enc Try.prog w base (fun _ => true) held 28 v d ps) :
    ∃ l : List Cel, RcS w v l := by
  obtain ⟨fuel, hf⟩ := h
  obtain ⟨u, l, h1, h2⟩ := rowc_cells hf
  have e : v = u := by
    obtain ⟨a, n, c, rfl⟩ := okWide_slice Try.underlying28 hv
    simpa [Value.cells] using h1
  subst e
  exact ⟨l, h2⟩
set_option maxRecDepth 20000 in
theorem open_event {v : Value} {d : DataW H} {ps : List MemPlace} (hv : Value.okWide Try.prog w r b0 48 v) (h : DataW.Trod enc Try.prog w base (fun _ => true) held 48 v d ps) :
    ∃ (k o : Nat) (vb va : Value) (b a : List Cel), v = .agg #[.int .u8 (k : Nat), .int .u8 (o : Nat), vb, va] ∧ RcS w vb b ∧ RcS w va a ∧ k < 256 ∧ o < 256 := by
  obtain ⟨cs, rfl⟩ := agg_of Try.underlying48 hv
  obtain ⟨fuel, hf⟩ := h
  obtain ⟨xs, n', _, _, hl, g5, g6⟩ := DataW.trod_struct Try.underlying48 hf
  rw [cellsEv] at hl
  simp only [Value.cells] at hl g6
  obtain ⟨cs⟩ := cs
  match cs, hl, xs, g5 with
  | [u0, u1, u2, u3], _, [y0, y1, y2, y3], _ =>
    have k0 := g6 0 _ rfl
    have k1 := g6 1 _ rfl
    have k2 := g6 2 _ rfl
    have k3 := g6 3 _ rfl
    simp [cells1_u8, cells1_row] at k0 k1 k2 k3
    obtain ⟨z0, hz0, _, w0⟩ := DataW.trod_int Try.underlying5 k0
    obtain ⟨z1, hz1, _, w1⟩ := DataW.trod_int Try.underlying5 k1
    obtain ⟨vb, b, e2, hb⟩ := rowc_cells k2
    obtain ⟨va, a, e3, ha⟩ := rowc_cells k3
    simp at hz0 hz1 e2 e3
    subst hz0; subst hz1; subst e2; subst e3
    have b0 := wf_u8_bd w0
    have b1 := wf_u8_bd w1
    obtain ⟨z0, rfl⟩ := Int.eq_ofNat_of_zero_le b0.1
    obtain ⟨z1, rfl⟩ := Int.eq_ofNat_of_zero_le b1.1
    exact ⟨z0, z1, _, _, b, a, rfl, hb, ha, by omega, by omega⟩
end
end Go.Proofs.Ytdpebdbfphlmeaa
