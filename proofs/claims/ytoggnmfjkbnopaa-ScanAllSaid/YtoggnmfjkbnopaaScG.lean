/-
  Of a list of what is found, a tail; numbers of a slice; the scanner over a beginning.
-/
import Derived.Test.YtoggnmfjkbnopaaScF
namespace Go.Proofs.Ytoggnmfjkbnopaa
open Go.RowKit Go.Lac

theorem FdC.drop {w : World} {ak : IntKind} {N : Nat → Prop} : ∀ {l : List Fnd} {cs : List Value} (n : Nat), FdC w ak N cs l → FdC w ak N (cs.drop (5 * n)) (l.drop n)
  | [], cs, n, h => by rw [show cs = [] from h]; simp; rfl
  | _ :: _, _, 0, h => by simpa using h
  | _ :: _, _, n + 1, ⟨t, rest, h1, h2, h3, h4⟩ => by
    rw [h1, show 5 * (n + 1) = 5 * n + 1 + 1 + 1 + 1 + 1 by omega]
    exact h4.drop n
theorem run_drop_fd {P : Program} {w : World} {t e : TypeId} {inf : TypeInfo} {ak : IntKind} (h : P.underlying t = some (.slice e)) (hinf : P.info? e = some inf) (hsz : inf.size = 5) {ao : Option Addr} {cap : Nat} {l : List Fnd} (hr : FdS w ak (.slice ao l.length cap) l) (n : Nat) (hn : n ≤ l.length) :
    ∃ v', (∀ w0, (Instr.sliceAt t (.slice ao l.length cap) (some (.int .i64 (n : Nat))) none none).run P w0 = .ok v' w0) ∧ FdS w ak v' (l.drop n) := by
  obtain ⟨cs, ⟨ao', cap', e0, g1, g2, g3, g5⟩, h2⟩ := hr
  cases e0
  have he := elem_eq h
  have h' : P.underlying t = some (.slice (P.elem t)) := by rw [he]; exact h
  refine ⟨sliced ao n l.length cap 5, fun w0 => ?_, cs.drop (5 * n), ?_, h2.drop n⟩
  · rw [run_sliceAt_slice (h := h'), run_slice_l (ht := h') (h0 := by omega) (h1 := by omega), he]
    simp [sizeOf, typeInfo, hinf, hsz]
  · rw [List.length_drop]
    unfold sliced
    by_cases hcn : cap = n
    · rw [if_pos hcn]
      refine ⟨ao, cap - n, rfl, by omega, by omega, fun h0 => by have := g3 h0; omega, fun x hx j u hu => ?_⟩
      have : (cs.drop (5 * n)) = [] := List.drop_eq_nil_of_le (by rw [h2.length]; omega)
      rw [this] at hu
      simp at hu
    · rw [if_neg hcn]
      refine ⟨ao.map (·.add (n * 5)), cap - n, rfl, by omega, by omega, fun h0 => by (cases ao with | none => have := g3 rfl; omega | some a => simp at h0), fun x hx j u hu => ?_⟩
      cases ao with
      | none => simp at hx
      | some a =>
        rw [List.getElem?_drop] at hu
        obtain ⟨b, off, rfl, h6⟩ := g5 a rfl _ u hu
        simp at hx
        subst hx
        exact ⟨b, off + n * 5, by rw [Addr.add_lit], by rw [show off + n * 5 + j = off + (5 * n + j) by omega]; exact h6⟩

/-- A slice of numbers of 16 bits. -/
def Us (w : World) (v : Value) (ps : List Nat) : Prop :=
  ∃ ao cap, v = .slice ao ps.length cap ∧ ps.length ≤ maxLen ∧ ∀ i (hi : i < ps.length), ∃ b o, ao = some ⟨b, o, none⟩ ∧ w.cell? ⟨b, o + i, none⟩ = some (.int .u16 (ps[i] : Nat)) ∧ ps[i] < 65536

/-- The scanner has been fed with these bytes. -/
def Fed (w : World) (r g : Nat) (b : List UInt8) : Prop :=
  IsS w r g (if (sc 0 b).2.2 = 0 then b.drop (sc 0 b).2.1 else []) (sc 0 b).2.1 (sc 0 b).2.2
theorem Fed.nil {w : World} {r g : Nat} (h : IsS w r g [] 0 0) : Fed w r g [] := by
  unfold Fed
  rw [sc_short 0 frErr_nil]
  exact h
/-- What is found next. -/
def nxt (b c : List UInt8) : List Fnd := (sc (sc 0 b).2.1 (b.drop (sc 0 b).2.1 ++ c)).1
theorem sc_at_le (b : List UInt8) : (sc 0 b).2.1 ≤ b.length := by
  have := (sc_append (b.length + 1) 0 b [] (by omega)).2.1
  omega
theorem nxt_ok {b c : List UInt8} (h : (sc 0 b).2.2 = 0) : sc 0 (b ++ c) = ((sc 0 b).1 ++ nxt b c, (sc (sc 0 b).2.1 (b.drop (sc 0 b).2.1 ++ c)).2) := by
  have := ((sc_append (b.length + 1) 0 b c (by omega)).2.2.1 h).1
  rw [Nat.sub_zero] at this
  exact this
theorem sc_stop {b c : List UInt8} (h : (sc 0 b).2.2 ≠ 0) : sc 0 (b ++ c) = sc 0 b := (sc_append (b.length + 1) 0 b c (by omega)).2.2.2 h

theorem fed_ok (w : World) (r g : Nat) (b c : List UInt8) (x : Value) (h : Fed w r g b) (h0 : (sc 0 b).2.2 = 0) (hx : Rd w x c) (hl : b.length + c.length ≤ 400000) :
    Calls Try.prog 15 #[.pointer (some ⟨r, 0, none⟩), x] w fun q w' => ∃ v, q = .returned (.tuple #[v, .int .i64 ((sc 0 (b ++ c)).2.2 : Nat)]) ∧ Ch (fun i => i = g ∨ i = r) w w' ∧ FdL w' w.heap.size w.heap.size 50 .u64 v (nxt b c) ∧ Fed w' r g (b ++ c) := by
  unfold Fed at h
  rw [h0, if_pos rfl] at h
  have hle := sc_at_le b
  have hn := nxt_ok (c := c) h0
  have hge := (sc_append ((b.drop (sc 0 b).2.1 ++ c).length + 1) (sc 0 b).2.1 (b.drop (sc 0 b).2.1 ++ c) [] (by omega)).1
  refine (feed_sc w r g _ _ x c h hx (by rw [List.length_drop]; omega) (by omega) (fs := nxt b c) (at' := (sc 0 (b ++ c)).2.1) (e := (sc 0 (b ++ c)).2.2) (k' := if (sc 0 (b ++ c)).2.2 = 0 then (b ++ c).drop (sc 0 (b ++ c)).2.1 else []) (by rw [hn]; rfl) ?_).mono ?_
  · rw [hn]
    simp only
    rw [← List.drop_append_of_le_length (l₂ := c) hle] at hge ⊢
    rw [List.drop_drop, Nat.add_sub_cancel' hge]
  · rintro q w' ⟨v, h1, h2, h3, h4⟩
    exact ⟨v, h1, h2, h3, h4⟩
theorem fed_stop (w : World) (r g : Nat) (b c : List UInt8) (x : Value) (h : Fed w r g b) (h0 : (sc 0 b).2.2 ≠ 0) :
    Calls Try.prog 15 #[.pointer (some ⟨r, 0, none⟩), x] w fun q w' => q = .returned (.tuple #[.slice none 0 0, .int .i64 ((sc 0 b).2.2 : Nat)]) ∧ Ext w w' ∧ Fed w' r g (b ++ c) := by
  refine (feed_err w r g _ _ _ x h h0).mono ?_
  rintro q w' ⟨h1, h2⟩
  refine ⟨h1, h2, ?_⟩
  unfold Fed at *
  rw [sc_stop h0, if_neg h0]
  rw [if_neg h0] at h
  exact h.keep h2 (fun f => f) (fun f => f)
end Go.Proofs.Ytoggnmfjkbnopaa
