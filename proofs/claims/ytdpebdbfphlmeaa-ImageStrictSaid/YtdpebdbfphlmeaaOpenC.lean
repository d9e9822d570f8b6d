/-
  Arguments opened, third part: a value of the document.
-/
import Derived.Test.YtdpebdbfphlmeaaGVal
import Derived.Test.YtdpebdbfphlmeaaGOpen
namespace Go.Proofs.Ytdpebdbfphlmeaa
open Go Go.RowKit Go.Lac Go.ChangeShapes Go.WideShapes Go.ChangeAt

theorem arr_five {cs : Array Value} (h : cs.size = 5) : ∃ a b c d e, cs = #[a, b, c, d, e] := by
  obtain ⟨l⟩ := cs
  match l, h with
  | [a, b, c, d, e], _ => exact ⟨a, b, c, d, e, rfl⟩

section
variable {H : Type} {enc : TypeId × Value → H} {P : Program} {w : World} {base : Nat} {spare : Nat → Bool} {held : Bool} {r : Reach} {b0 : Nat}
/-- A record of a byte, a number with a sign, two numbers and a text. -/
theorem open_val {t : TypeId} {v : Value} {d : DataW H} {ps : List MemPlace} {fs : Array Field} {f0 f1 f2 f3 f4 : Field} (ht : P.underlying t = some (.struct fs)) (hct : P.cellsOf t = 5)
    (hsz : fs.size = 5) (hf0 : fs[0]? = some f0) (hf1 : fs[1]? = some f1) (hf2 : fs[2]? = some f2) (hf3 : fs[3]? = some f3) (hf4 : fs[4]? = some f4)
    (t0 : P.underlying f0.type = some (.int .u8)) (t1 : P.underlying f1.type = some (.int .i64)) (t2 : P.underlying f2.type = some (.int .u64)) (t3 : P.underlying f3.type = some (.int .u64)) (t4 : P.underlying f4.type = some .string)
    (o0 : f0.offset = 0) (o1 : f1.offset = 1) (o2 : f2.offset = 2) (o3 : f3.offset = 3) (o4 : f4.offset = 4)
    (c0 : P.cellsOf f0.type = 1) (c1 : P.cellsOf f1.type = 1) (c2 : P.cellsOf f2.type = 1) (c3 : P.cellsOf f3.type = 1) (c4 : P.cellsOf f4.type = 1)
    (hv : Value.okWide P w r b0 t v) (h : DataW.Trod enc P w base spare held t v d ps) :
    ∃ x : Val, v = rv x ∧ x.ok ∧ x.t.length ≤ maxLen := by
  obtain ⟨cs, rfl, hs⟩ : ∃ cs, v = .agg cs ∧ cs.size = P.cellsOf t := by
    simp only [Value.okWide, ht] at hv
    obtain ⟨cs, h1, h2, _⟩ := hv
    exact ⟨cs, h1, h2⟩
  obtain ⟨a, b, c, d', e, rfl⟩ := arr_five (hs.trans hct)
  obtain ⟨fuel, hf⟩ := h
  obtain ⟨xs, n', _, _, _, g5, g6⟩ := DataW.trod_struct ht hf
  match xs, g5.trans hsz with
  | [y0, y1, y2, y3, y4], _ =>
    have k0 := g6 0 f0 hf0
    have k1 := g6 1 f1 hf1
    have k2 := g6 2 f2 hf2
    have k3 := g6 3 f3 hf3
    have k4 := g6 4 f4 hf4
    simp [o0, c0, Value.cells] at k0
    simp [o1, c1, Value.cells] at k1
    simp [o2, c2, Value.cells] at k2
    simp [o3, c3, Value.cells] at k3
    simp [o4, c4, Value.cells] at k4
    obtain ⟨z0, hz0, _, w0⟩ := DataW.trod_int t0 k0
    obtain ⟨z1, hz1, _, w1⟩ := DataW.trod_int t1 k1
    obtain ⟨z2, hz2, _, w2⟩ := DataW.trod_int t2 k2
    obtain ⟨z3, hz3, _, w3⟩ := DataW.trod_int t3 k3
    obtain ⟨⟨⟨z4⟩⟩, hz4, _, w4⟩ := DataW.trod_string t4 k4
    cases hz0; cases hz1; cases hz2; cases hz3; cases hz4
    have b0 := wf_u8_bd w0
    have b1 := wf_i64_bd w1
    have b2 := wf_u64_bd w2
    have b3 := wf_u64_bd w3
    obtain ⟨z0, rfl⟩ := Int.eq_ofNat_of_zero_le b0.1
    obtain ⟨z2, rfl⟩ := Int.eq_ofNat_of_zero_le b2.1
    obtain ⟨z3, rfl⟩ := Int.eq_ofNat_of_zero_le b3.1
    exact ⟨⟨z0, z1, z2, z3, z4⟩, rfl, ⟨by simp only; omega, b1.1, b1.2, by simp only; omega, by simp only; omega⟩, by simpa [ByteArray.size] using w4⟩
end
end Go.Proofs.Ytdpebdbfphlmeaa
