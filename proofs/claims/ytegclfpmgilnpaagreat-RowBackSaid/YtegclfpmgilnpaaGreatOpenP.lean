import Derived.Test.YtegclfpmgilnpaaGreatGOpen
namespace Go.Lac
open Go Go.RowKit Go.ChangeShapes Go.WideShapes Go.ChangeAt
section
variable {H : Type} {enc : TypeId × Value → H} {P : Program} {w : World} {base : Nat} {held : Bool} {r : Reach} {b0 : Nat}
theorem arr_threeC {cs : Array Value} (h : cs.size = 3) : ∃ a b c, cs = #[a, b, c] := by
  obtain ⟨l⟩ := cs
  match l, h with
  | [a, b, c], _ => exact ⟨a, b, c, rfl⟩
theorem open_cut {t q : TypeId} {v : Value} {d : DataW H} {ps : List MemPlace} {fs : Array Field} {f0 f1 f2 : Field} (ht : P.underlying t = some (.struct fs)) (hct : P.cellsOf t = 3)
    (hsz : fs.size = 3) (hf0 : fs[0]? = some f0) (hf1 : fs[1]? = some f1) (hf2 : fs[2]? = some f2) (t0 : P.underlying f0.type = some (.int .u8)) (t1 : P.underlying f1.type = some (.slice q)) (tq : P.underlying q = some (.int .u8)) (cq : P.cellsOf q = 1) (t2 : P.underlying f2.type = some (.int .u16))
    (o0 : f0.offset = 0) (o1 : f1.offset = 1) (o2 : f2.offset = 2) (c0 : P.cellsOf f0.type = 1) (c1 : P.cellsOf f1.type = 1) (c2 : P.cellsOf f2.type = 1)
    (hv : Value.okWide P w r b0 t v) (h : DataW.Trod enc P w base (fun _ => true) held t v d ps) :
    ∃ (x : Nat) (s : Value) (bs : List UInt8) (y : Nat), v = .agg #[.int .u8 (x : Nat), s, .int .u16 (y : Nat)] ∧ x < 256 ∧ y < 65536 ∧ Rd w s bs := by
  obtain ⟨cs, rfl, hs⟩ : ∃ cs, v = .agg cs ∧ cs.size = P.cellsOf t := by
    simp only [Value.okWide, ht] at hv
    obtain ⟨cs, h1, h2, _⟩ := hv
    exact ⟨cs, h1, h2⟩
  obtain ⟨a, b, c, rfl⟩ := arr_threeC (hs.trans hct)
  obtain ⟨fuel, hf⟩ := h
  obtain ⟨xs, n', _, _, _, g5, g6⟩ := DataW.trod_struct ht hf
  match xs, g5.trans hsz with
  | [y0, y1, y2], _ =>
    have k0 := g6 0 f0 hf0
    have k1 := g6 1 f1 hf1
    have k2 := g6 2 f2 hf2
    simp [o0, c0, Value.cells] at k0
    simp [o1, c1, Value.cells] at k1
    simp [o2, c2, Value.cells] at k2
    obtain ⟨z0, hz0, _, w0⟩ := DataW.trod_int t0 k0
    obtain ⟨z2, hz2, _, w2⟩ := DataW.trod_int t2 k2
    cases hz0; cases hz2
    have b0 := wf_u8_bd w0
    have b2 := wf_u16_bd w2
    obtain ⟨z0, rfl⟩ := Int.eq_ofNat_of_zero_le b0.1
    obtain ⟨z2, rfl⟩ := Int.eq_ofNat_of_zero_le b2.1
    rcases open_ints t1 tq cq k1 with ⟨hcs, _⟩ | ⟨x, l, c', zs, hcs, _, hl, hm, hz, _, hcell, hwz⟩
    · simp at hcs
      subst hcs
      exact ⟨z0, _, [], z2, rfl, by omega, by omega, rd_nil w⟩
    · simp at hcs
      subst hcs
      obtain ⟨bs, _, h2⟩ := rd_of_row (w := w) (a := some x) (len := l) (cap := c') (zs := zs) (.inr ⟨x, rfl, hl, hm, by simpa using hz, hcell, hwz⟩)
      exact ⟨z0, _, bs, z2, rfl, by omega, by omega, h2⟩
end
end Go.Lac
