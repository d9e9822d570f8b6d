/-
  Arguments opened, fifth part: a slice of frames.
-/
import Derived.Test.YtoggnmfjkbnopaaScG
import Derived.Test.YtoggnmfjkbnopaaOpen
import Derived.Test.YtoggnmfjkbnopaaOpenB
import Derived.Deep.Slices
import Derived.Deep.MidRow
namespace Go.Proofs.Ytoggnmfjkbnopaa
open Go Go.RowKit Go.Lac Go.ChangeShapes Go.WideShapes Go.ChangeAt

/-- A slice of frames. -/
def FrS (w : World) (v : Value) (l : List Mk) : Prop :=
  ∃ ao cap, v = .slice ao l.length cap ∧ l.length ≤ maxLen ∧ ∀ i (hi : i < l.length), ∃ b o s, ao = some ⟨b, o, none⟩ ∧ w.rangeAt b (o + i * 3) [.int .u8 (l[i].1 : Nat), .int .u8 (l[i].2.1 : Nat), s] ∧ l[i].1 < 256 ∧ l[i].2.1 < 256 ∧ Rd w s l[i].2.2

section
variable {H : Type} {enc : TypeId × Value → H} {P : Program} {w : World} {base : Nat} {held : Bool} {r : Reach} {b0 : Nat}
theorem open_frames {t e q : TypeId} {v : Value} {d : DataW H} {ps : List MemPlace} {fs : Array Field} {f0 f1 f2 : Field} (ht : P.underlying t = some (.slice e)) (he : P.underlying e = some (.struct fs)) (hce : P.cellsOf e = 3)
    (hsz : fs.size = 3) (hf0 : fs[0]? = some f0) (hf1 : fs[1]? = some f1) (hf2 : fs[2]? = some f2) (t0 : P.underlying f0.type = some (.int .u8)) (t1 : P.underlying f1.type = some (.int .u8)) (t2 : P.underlying f2.type = some (.slice q)) (tq : P.underlying q = some (.int .u8)) (cq : P.cellsOf q = 1)
    (o0 : f0.offset = 0) (o1 : f1.offset = 1) (o2 : f2.offset = 2) (c0 : P.cellsOf f0.type = 1) (c1 : P.cellsOf f1.type = 1) (c2 : P.cellsOf f2.type = 1)
    (hv : Value.okWide P w r b0 t v) (h : DataW.Trod enc P w base (fun _ => true) held t v d ps) : ∃ l : List Mk, FrS w v l := by
  obtain ⟨a, len, cap, rfl⟩ := okWide_slice ht hv
  obtain ⟨fuel, hf⟩ := h
  rcases Go.Deep.open_slice ht hf with ⟨hcs, _⟩ | ⟨x, l, c, m, n, D, Pl, hcs, _, hl, hm, hmm, _, hx⟩
  · simp [Value.cells] at hcs
    obtain ⟨rfl, rfl, rfl⟩ := hcs
    exact ⟨[], none, 0, rfl, Nat.zero_le _, fun i hi => absurd hi (Nat.not_lt_zero _)⟩
  · simp [Value.cells] at hcs
    obtain ⟨rfl, rfl, rfl⟩ := hcs
    simp only [if_true] at hmm
    subst hmm
    rw [hce] at hx
    have key : ∀ i, i < len → ∃ y : Mk, ∃ b o s, some x = some ⟨b, o, none⟩ ∧ w.rangeAt b (o + i * 3) [.int .u8 (y.1 : Nat), .int .u8 (y.2.1 : Nat), s] ∧ y.1 < 256 ∧ y.2.1 < 256 ∧ Rd w s y.2.2 := fun i hi => by
      obtain ⟨cs', g1, g2⟩ := hx i (by omega)
      obtain ⟨_, g3, g4⟩ := World.cells?_some g1
      obtain ⟨xs, n', _, _, _, g5, g6⟩ := DataW.trod_struct he g2
      match cs', g3, xs, g5.trans hsz with
      | [u0, u1, u2], _, [y0, y1, y2], _ =>
        have k0 := g6 0 f0 hf0
        have k1 := g6 1 f1 hf1
        have k2 := g6 2 f2 hf2
        simp [o0, c0] at k0
        simp [o1, c1] at k1
        simp [o2, c2] at k2
        obtain ⟨z0, hz0, _, w0⟩ := DataW.trod_int t0 k0
        obtain ⟨z1, hz1, _, w1⟩ := DataW.trod_int t1 k1
        cases hz0; cases hz1
        have b0 := wf_u8_bd w0
        have b1 := wf_u8_bd w1
        have p0 := g4 0 (by omega)
        have p1 := g4 1 (by omega)
        have p2 := g4 2 (by omega)
        obtain ⟨z0, rfl⟩ := Int.eq_ofNat_of_zero_le b0.1
        obtain ⟨z1, rfl⟩ := Int.eq_ofNat_of_zero_le b1.1
        have hsp : x.spot = none := by
          obtain ⟨cs0, q1, _⟩ := hx 0 (by omega)
          obtain ⟨_, q3, q4⟩ := World.cells?_some q1
          have q5 := q4 0 (by omega)
          rw [List.getElem?_eq_getElem (by omega)] at q5
          have := World.cell?_spot q5
          simpa [Addr.add] using this
        obtain ⟨b, o, sp⟩ := x
        cases hsp
        rw [Addr.add_lit, Addr.add_lit] at p0 p1 p2
        have hr : w.rangeAt b (o + i * 3) [.int .u8 (z0 : Nat), .int .u8 (z1 : Nat), u2] := fun j v hj => by
          match j, hj with
          | 0, hj => cases hj; simpa using p0
          | 1, hj => cases hj; simpa using p1
          | 2, hj => cases hj; simpa using p2
          | _ + 3, hj => simp at hj
        rcases open_ints t2 tq cq k2 with ⟨hcs, _⟩ | ⟨x', l', c', zs, hcs, _, hl', hm', hz, _, hcell, hwz⟩
        · simp at hcs
          subst hcs
          exact ⟨(z0, z1, []), b, o, _, rfl, hr, by simp only; omega, by simp only; omega, rd_nil w⟩
        · simp at hcs
          subst hcs
          obtain ⟨bs, _, h2⟩ := rd_of_row (w := w) (a := some x') (len := l') (cap := c') (zs := zs) (.inr ⟨x', rfl, hl', hm', by simpa using hz, hcell, hwz⟩)
          exact ⟨(z0, z1, bs), b, o, _, rfl, hr, by simp only; omega, by simp only; omega, h2⟩
    obtain ⟨L, h1, h2⟩ := choose_list len key
    exact ⟨L, some x, m, by rw [h1], by omega, fun i hi => h2 i hi⟩
end
end Go.Proofs.Ytoggnmfjkbnopaa
