/-
  Arguments opened, second part: slices of slices of bytes; records of two bytes and a slice.
-/
import Derived.Test.YtoggnmfjkbnopaaLib
import Derived.Test.YtoggnmfjkbnopaaLibC
import Derived.Test.YtoggnmfjkbnopaaOpen
import Derived.Deep.Matrix
import Derived.Deep.Slices
namespace Go.Lac
open Go Go.RowKit Go.ChangeShapes Go.WideShapes Go.ChangeAt

section
variable {H : Type} {enc : TypeId × Value → H} {P : Program} {w : World} {base : Nat} {spare : Nat → Bool} {held : Bool} {r : Reach} {b0 : Nat}

theorem rd_of_ints {a : Option Addr} {len cap : Nat} {zs : List Int} (h1 : len ≤ cap) (h2 : cap ≤ maxLen) (h3 : zs.length = cap) (hw : ∀ n ∈ zs, (Lit.int .u8 n).wf = true) (h0 : a = none → cap = 0)
    (hc : ∀ x, a = some x → ∀ c, c < cap → w.cell? (x.add c) = some (.int .u8 (zs.getD c 0))) : ∃ bs : List UInt8, bs.length = len ∧ Rd w (.slice a len cap) bs := by
  cases a with
  | none =>
    have hcap := h0 rfl
    obtain rfl : len = 0 := by omega
    subst hcap
    exact ⟨[], rfl, rd_nil w⟩
  | some x => exact rd_of_row (zs := zs) (.inr ⟨x, rfl, h1, h2, h3, fun i hi => hc x rfl i (by omega), hw⟩)

theorem choose_list {α : Type} {p : Nat → α → Prop} (n : Nat) (h : ∀ i, i < n → ∃ x, p i x) : ∃ l : List α, l.length = n ∧ ∀ i (hi : i < l.length), p i l[i] := by
  induction n with
  | zero => exact ⟨[], rfl, fun i hi => absurd hi (by simp)⟩
  | succ n ih =>
    obtain ⟨l, h1, h2⟩ := ih fun i hi => h i (by omega)
    obtain ⟨x, hx⟩ := h n (by omega)
    refine ⟨l ++ [x], by simp [h1], fun i hi => ?_⟩
    by_cases hin : i < l.length
    · rw [List.getElem_append_left hin]; exact h2 i hin
    · have : i = n := by simp at hi; omega
      subst this
      rw [List.getElem_append_right (by omega)]
      simpa [h1] using hx

/-- A slice of slices of bytes. -/
theorem open_parts {t e q : TypeId} {v : Value} {d : DataW H} {ps : List MemPlace} (ht : P.underlying t = some (.slice e)) (he : P.underlying e = some (.slice q)) (hq : P.underlying q = some (.int .u8)) (ce : P.cellsOf e = 1) (cq : P.cellsOf q = 1)
    (hv : Value.okWide P w r b0 t v) (h : DataW.Trod enc P w base (fun _ => true) held t v d ps) : ∃ bss, Parts w v bss := by
  obtain ⟨a, len, cap, rfl⟩ := okWide_slice ht hv
  obtain ⟨fuel, hf⟩ := h
  rcases Go.Deep.open_int_rows ht he hq ce cq hf with ⟨hcs, _⟩ | ⟨x, l, c, A, L, C, Z, hcs, _, hl, hm, _, hrow⟩
  · simp [Value.cells] at hcs
    obtain ⟨rfl, rfl, rfl⟩ := hcs
    exact ⟨[], parts_nil w⟩
  · simp [Value.cells] at hcs
    obtain ⟨rfl, rfl, rfl⟩ := hcs
    have key : ∀ i, i < len → ∃ bs : List UInt8, ∃ b off u, some x = some ⟨b, off, none⟩ ∧ w.cell? ⟨b, off + i, none⟩ = some u ∧ Rd w u bs := fun i hi => by
      obtain ⟨g1, g2, g3, g4, g5, g6, g7⟩ := hrow i (by omega)
      obtain ⟨bs, _, hb⟩ := rd_of_ints (w := w) g2 g3 g4 g5 g6 fun y hy c hc => (g7 y hy).2 c hc
      have hsp : x.spot = none := by
        have := World.cell?_spot (hrow 0 (by omega)).1
        simpa [Addr.add] using this
      obtain ⟨b, off, sp⟩ := x
      cases hsp
      rw [Addr.add_lit] at g1
      exact ⟨bs, b, off, _, rfl, g1, hb⟩
    obtain ⟨bss, h1, h2⟩ := choose_list len key
    refine ⟨bss, some x, cap, by rw [h1], by omega, fun k hk => h2 k hk⟩

theorem arr_three {cs : Array Value} (h : cs.size = 3) : ∃ a b c, cs = #[a, b, c] := by
  obtain ⟨l⟩ := cs
  match l, h with
  | [a, b, c], _ => exact ⟨a, b, c, rfl⟩

/-- A record of two bytes and a slice of bytes. -/
theorem open_frame {t q : TypeId} {v : Value} {d : DataW H} {ps : List MemPlace} {fs : Array Field} {f0 f1 f2 : Field} (ht : P.underlying t = some (.struct fs)) (hct : P.cellsOf t = 3)
    (hsz : fs.size = 3) (hf0 : fs[0]? = some f0) (hf1 : fs[1]? = some f1) (hf2 : fs[2]? = some f2) (t0 : P.underlying f0.type = some (.int .u8)) (t1 : P.underlying f1.type = some (.int .u8)) (t2 : P.underlying f2.type = some (.slice q)) (tq : P.underlying q = some (.int .u8)) (cq : P.cellsOf q = 1)
    (o0 : f0.offset = 0) (o1 : f1.offset = 1) (o2 : f2.offset = 2) (c0 : P.cellsOf f0.type = 1) (c1 : P.cellsOf f1.type = 1) (c2 : P.cellsOf f2.type = 1)
    (hv : Value.okWide P w r b0 t v) (h : DataW.Trod enc P w base (fun _ => true) held t v d ps) :
    ∃ (x y : Nat) (s : Value) (bs : List UInt8), v = .agg #[.int .u8 x, .int .u8 y, s] ∧ x < 256 ∧ y < 256 ∧ Rd w s bs := by
  obtain ⟨cs, rfl, hs⟩ : ∃ cs, v = .agg cs ∧ cs.size = P.cellsOf t := by
    simp only [Value.okWide, ht] at hv
    obtain ⟨cs, h1, h2, _⟩ := hv
    exact ⟨cs, h1, h2⟩
  obtain ⟨a, b, c, rfl⟩ := arr_three (hs.trans hct)
  obtain ⟨fuel, hf⟩ := h
  obtain ⟨xs, n', _, _, _, g5, g6⟩ := DataW.trod_struct ht hf
  match xs, g5.trans hsz with
  | [y0, y1, y2], _ =>
    have k0 := g6 0 f0 hf0
    have k1 := g6 1 f1 hf1
    have k2 := g6 2 f2 hf2
    simp [o0, c0, Value.cells] at k0
    simp [o1, c1, Value.cells] at k1
    simp [o2, c2, Value.cells] at k2
    obtain ⟨z0, hz0, _, w0⟩ := DataW.trod_int t0 k0
    obtain ⟨z1, hz1, _, w1⟩ := DataW.trod_int t1 k1
    cases hz0; cases hz1
    have b0 := wf_u8_bd w0
    have b1 := wf_u8_bd w1
    obtain ⟨z0, rfl⟩ := Int.eq_ofNat_of_zero_le b0.1
    obtain ⟨z1, rfl⟩ := Int.eq_ofNat_of_zero_le b1.1
    rcases open_ints t2 tq cq k2 with ⟨hcs, _⟩ | ⟨x, l, c', zs, hcs, _, hl, hm, hz, _, hcell, hwz⟩
    · simp at hcs
      subst hcs
      exact ⟨z0, z1, _, [], rfl, by omega, by omega, rd_nil w⟩
    · simp at hcs
      subst hcs
      obtain ⟨bs, _, h2⟩ := rd_of_row (w := w) (a := some x) (len := l) (cap := c') (zs := zs) (.inr ⟨x, rfl, hl, hm, by simpa using hz, hcell, hwz⟩)
      exact ⟨z0, z1, _, bs, rfl, by omega, by omega, h2⟩
end
end Go.Lac
