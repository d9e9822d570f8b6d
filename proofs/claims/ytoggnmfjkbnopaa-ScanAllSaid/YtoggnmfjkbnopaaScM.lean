/-
  Frames out of bytes, one behind the other: the plain facts (layer 5). What is found of bytes in parts is what is found of the whole.
-/
import Derived.Test.YtoggnmfjkbnopaaFrE
import Derived.Test.YtoggnmfjkbnopaaFrM
namespace Go.Proofs.Ytoggnmfjkbnopaa
open Go.RowKit Go.Lac

theorem hdAt_append {b : List UInt8} (c : List UInt8) {i : Nat} (h : i < b.length) : hdAt (b ++ c) i = hdAt b i := by
  unfold hdAt
  simp only [List.getD_eq_getElem?_getD, List.getElem?_append_left h]
/-- A byte that is not the one that stands in for it is there. -/
theorem hdAt_there {b : List UInt8} {i : Nat} (h : hdAt b i ≠ (headD.getD i 0).toNat) : i < b.length := by
  rcases Nat.lt_or_ge i b.length with h1 | h1
  · exact h1
  · exact absurd (hdAt_out h1) h
theorem frErr_le (b : List UInt8) : frErr b = 0 ∨ frErr b = 1 ∨ frErr b = 2 ∨ frErr b = 3 ∨ frErr b = 6 ∨ frErr b = 7 ∨ frErr b = 18 := by
  unfold frErr
  split
  · omega
  · have := frRight_cases (hdAt b 2) (hdAt b 3) (frN b)
    split
    · omega
    · split
      · omega
      · split <;> omega
/-- What is found does not hang on what is behind it, once it is found. -/
theorem frErr_ext {b : List UInt8} (c : List UInt8) (h : frErr b ≠ 1) : frErr (b ++ c) = frErr b := by
  unfold frErr at h ⊢
  by_cases h0 : hdAt b 0 ≠ 76 ∨ hdAt b 1 ≠ 103
  · rw [if_pos h0]
    have : hdAt (b ++ c) 0 ≠ 76 ∨ hdAt (b ++ c) 1 ≠ 103 := by
      rcases h0 with h0 | h0
      · exact .inl (by rw [hdAt_append c (hdAt_there h0)]; exact h0)
      · exact .inr (by rw [hdAt_append c (hdAt_there h0)]; exact h0)
    rw [if_pos this]
  rw [if_neg h0] at h
  rw [if_neg h0]
  have hc := frRight_cases (hdAt b 2) (hdAt b 3) (frN b)
  by_cases h1 : frRight (hdAt b 2) (hdAt b 3) (frN b) ≠ 0
  · rw [if_pos h1]
    rcases hc with ⟨e, h2, h3⟩ | ⟨e, h2, h3⟩ | ⟨e, h2, h3, h4, h5⟩ | ⟨e, _⟩
    · have l2 : 2 < b.length := hdAt_there (show hdAt b 2 ≠ 1 from h2)
      have g0 : ¬ (hdAt (b ++ c) 0 ≠ 76 ∨ hdAt (b ++ c) 1 ≠ 103) := by
        rw [hdAt_append c (by omega), hdAt_append c (by omega)]; exact h0
      have g1 : frRight (hdAt (b ++ c) 2) (hdAt (b ++ c) 3) (frN (b ++ c)) = 18 := by
        rw [hdAt_append c l2]; unfold frRight; rw [if_pos ⟨h2, h3⟩]
      rw [if_neg g0, g1, e, if_pos (by decide)]
    · have l3 : 3 < b.length := hdAt_there (show hdAt b 3 ≠ 1 by omega)
      have g0 : ¬ (hdAt (b ++ c) 0 ≠ 76 ∨ hdAt (b ++ c) 1 ≠ 103) := by
        rw [hdAt_append c (by omega), hdAt_append c (by omega)]; exact h0
      have g1 : frRight (hdAt (b ++ c) 2) (hdAt (b ++ c) 3) (frN (b ++ c)) = 7 := by
        rw [hdAt_append c (by omega), hdAt_append c l3]; unfold frRight; rw [if_neg (by omega), if_pos h3]
      rw [if_neg g0, g1, e, if_pos (by decide)]
    · have l5 : 5 < b.length := by
        refine hdAt_there (show hdAt b 5 ≠ 0 from fun h => ?_)
        have := hdAt_lt b 4
        unfold frN at h5
        omega
      have g0 : ¬ (hdAt (b ++ c) 0 ≠ 76 ∨ hdAt (b ++ c) 1 ≠ 103) := by
        rw [hdAt_append c (by omega), hdAt_append c (by omega)]; exact h0
      have gn : frN (b ++ c) = frN b := by unfold frN; rw [hdAt_append c (by omega), hdAt_append c (by omega)]
      rw [if_neg g0, hdAt_append c (by omega), hdAt_append c (by omega), gn, if_pos h1]
    · exact absurd e h1
  rw [if_neg h1] at h
  rw [if_neg h1]
  by_cases h2 : b.length < frN b + 10
  · rw [if_pos h2] at h; exact absurd rfl h
  rw [if_neg h2]
  have g0 : ¬ (hdAt (b ++ c) 0 ≠ 76 ∨ hdAt (b ++ c) 1 ≠ 103) := by
    rw [hdAt_append c (by omega), hdAt_append c (by omega)]; exact h0
  have gn : frN (b ++ c) = frN b := by unfold frN; rw [hdAt_append c (by omega), hdAt_append c (by omega)]
  rw [if_neg g0, hdAt_append c (by omega), hdAt_append c (by omega), gn, if_neg h1, if_neg (by rw [List.length_append]; omega), List.take_append_of_le_length (by omega)]
theorem frErr_zero {b : List UInt8} (h : frErr b = 0) : frN b + 10 ≤ b.length ∧ frN b ≤ 4096 ∧ frSize b = frN b + 10 := by
  have hs : frSize b = frN b + 10 := by unfold frSize; rw [if_pos h]
  unfold frErr at h
  by_cases h0 : hdAt b 0 ≠ 76 ∨ hdAt b 1 ≠ 103
  · rw [if_pos h0] at h; cases h
  rw [if_neg h0] at h
  by_cases h1 : frRight (hdAt b 2) (hdAt b 3) (frN b) ≠ 0
  · rw [if_pos h1] at h; exact absurd h h1
  rw [if_neg h1] at h
  by_cases h2 : b.length < frN b + 10
  · rw [if_pos h2] at h; cases h
  have hc := frRight_cases (hdAt b 2) (hdAt b 3) (frN b)
  exact ⟨by omega, by omega, hs⟩
/-- A frame is the same, whatever is behind it. -/
theorem frame_ext {b : List UInt8} (c : List UInt8) (h : frErr b = 0) : frV (b ++ c) = frV b ∧ frK (b ++ c) = frK b ∧ frP (b ++ c) = frP b ∧ frSize (b ++ c) = frSize b := by
  have he : frErr (b ++ c) = 0 := by rw [frErr_ext c (by omega), h]
  obtain ⟨h1, h2, h3⟩ := frErr_zero h
  have gn : frN (b ++ c) = frN b := by unfold frN; rw [hdAt_append c (by omega), hdAt_append c (by omega)]
  unfold frV frK frP frSize
  rw [if_pos h, if_pos h, if_pos h, if_pos h, if_pos he, if_pos he, if_pos he, if_pos he, gn, hdAt_append c (by omega), hdAt_append c (by omega), List.take_append_of_le_length (by omega)]
  exact ⟨rfl, rfl, rfl, rfl⟩
/-- Bytes that lack of a frame are few. -/
theorem frErr_one {b : List UInt8} (h : frErr b = 1) : b.length ≤ 4105 := by
  unfold frErr at h
  by_cases h0 : hdAt b 0 ≠ 76 ∨ hdAt b 1 ≠ 103
  · rw [if_pos h0] at h; cases h
  rw [if_neg h0] at h
  have hc := frRight_cases (hdAt b 2) (hdAt b 3) (frN b)
  by_cases h1 : frRight (hdAt b 2) (hdAt b 3) (frN b) ≠ 0
  · rw [if_pos h1] at h; omega
  rw [if_neg h1] at h
  by_cases h2 : b.length < frN b + 10
  · omega
  rw [if_neg h2] at h
  split at h <;> cases h
theorem frErr_nil : frErr [] = 1 := by decide

/-- A frame that is found. -/
structure Fnd where
  v : Nat
  k : Nat
  p : List UInt8
  at' : Nat
  size : Nat
/-- Whole frames from the beginning on, where the last one ended, an error's number (0 where bytes lack, too): at most so many rounds. -/
def scF : Nat → Nat → List UInt8 → List Fnd × Nat × Nat
  | 0, a, _ => ([], a, 0)
  | n + 1, a, b =>
    if frErr b = 0 then
      let r := scF n (a + frSize b) (b.drop (frSize b))
      (⟨frV b, frK b, frP b, a, frSize b⟩ :: r.1, r.2.1, r.2.2)
    else ([], a, if frErr b = 1 then 0 else frErr b)
def sc (a : Nat) (b : List UInt8) : List Fnd × Nat × Nat := scF (b.length + 1) a b
theorem scF_enough : ∀ (n m a : Nat) (b : List UInt8), b.length < n → b.length < m → scF n a b = scF m a b
  | 0, _, _, _, h, _ => absurd h (Nat.not_lt_zero _)
  | _ + 1, 0, _, _, _, h => absurd h (Nat.not_lt_zero _)
  | n + 1, m + 1, a, b, h, h' => by
    unfold scF
    by_cases h0 : frErr b = 0
    · obtain ⟨h1, h2, h3⟩ := frErr_zero h0
      rw [if_pos h0, if_pos h0, scF_enough n m _ _ (by rw [List.length_drop]; omega) (by rw [List.length_drop]; omega)]
    · rw [if_neg h0, if_neg h0]
theorem sc_ok {b : List UInt8} (a : Nat) (h : frErr b = 0) : sc a b = (⟨frV b, frK b, frP b, a, frSize b⟩ :: (sc (a + frSize b) (b.drop (frSize b))).1, (sc (a + frSize b) (b.drop (frSize b))).2) := by
  obtain ⟨h1, h2, h3⟩ := frErr_zero h
  unfold sc
  rw [scF, if_pos h, scF_enough b.length ((b.drop (frSize b)).length + 1) _ _ (by rw [List.length_drop]; omega) (by omega)]
theorem sc_short {b : List UInt8} (a : Nat) (h : frErr b = 1) : sc a b = ([], a, 0) := by
  unfold sc
  rw [scF, if_neg (by omega), if_pos h]
theorem sc_err {b : List UInt8} (a : Nat) (h0 : frErr b ≠ 0) (h1 : frErr b ≠ 1) : sc a b = ([], a, frErr b) := by
  unfold sc
  rw [scF, if_neg h0, if_neg h1]

/-- By the number of rounds: what is found of a beginning, and then of what is left with what comes behind. -/
theorem sc_append : ∀ (n a : Nat) (b c : List UInt8), b.length < n →
    a ≤ (sc a b).2.1 ∧ (sc a b).2.1 ≤ a + b.length ∧
    ((sc a b).2.2 = 0 → sc a (b ++ c) = ((sc a b).1 ++ (sc (sc a b).2.1 (b.drop ((sc a b).2.1 - a) ++ c)).1, (sc (sc a b).2.1 (b.drop ((sc a b).2.1 - a) ++ c)).2) ∧ frErr (b.drop ((sc a b).2.1 - a)) = 1) ∧
    ((sc a b).2.2 ≠ 0 → sc a (b ++ c) = sc a b)
  | 0, _, _, _, h => absurd h (Nat.not_lt_zero _)
  | n + 1, a, b, c, h => by
    by_cases h0 : frErr b = 0
    · obtain ⟨h1, h2, h3⟩ := frErr_zero h0
      have hl : (b.drop (frSize b)).length = b.length - frSize b := List.length_drop
      obtain ⟨i1, i2, i3, i4⟩ := sc_append n (a + frSize b) (b.drop (frSize b)) c (by omega)
      have hx := frame_ext c h0
      have he : frErr (b ++ c) = 0 := by rw [frErr_ext c (by omega), h0]
      have hd : (b ++ c).drop (frSize b) = b.drop (frSize b) ++ c := List.drop_append_of_le_length (by omega)
      have e1 := sc_ok a h0
      have e2 := sc_ok a he
      rw [hx.1, hx.2.1, hx.2.2.1, hx.2.2.2, hd] at e2
      rw [e1]
      simp only
      generalize sc (a + frSize b) (b.drop (frSize b)) = r at *
      have hdd : (b.drop (frSize b)).drop (r.2.1 - (a + frSize b)) = b.drop (r.2.1 - a) := by rw [List.drop_drop]; congr 1; omega
      rw [hdd] at i3
      refine ⟨by omega, by omega, fun h => ?_, fun h => ?_⟩
      · obtain ⟨j1, j2⟩ := i3 h
        rw [e2, j1]
        exact ⟨rfl, j2⟩
      · rw [e2, i4 h]
    · by_cases h1 : frErr b = 1
      · rw [sc_short a h1]
        simp only [Nat.sub_self, List.drop_zero, List.nil_append]
        exact ⟨Nat.le_refl _, by omega, fun _ => ⟨trivial, h1⟩, fun h => absurd rfl h⟩
      · rw [sc_err a h0 h1]
        have he := frErr_ext c h1
        refine ⟨Nat.le_refl _, by simp, fun h => absurd h h0, fun _ => ?_⟩
        rw [sc_err a (by rw [he]; exact h0) (by rw [he]; exact h1), he]
/-- Frames to be made: a version, a kind, a payload. -/
abbrev Mk := Nat × Nat × List UInt8
def Mk.right (x : Mk) : Prop := frRight x.1 x.2.1 x.2.2.length = 0
def Mk.bytes (x : Mk) : List UInt8 := frBytes x.1 x.2.1 x.2.2
def fndsOf : Nat → List Mk → List Fnd
  | _, [] => []
  | a, x :: l => ⟨x.1, x.2.1, x.2.2, a, x.2.2.length + 10⟩ :: fndsOf (a + (x.2.2.length + 10)) l
theorem fndsOf_length : ∀ (a : Nat) (l : List Mk), (fndsOf a l).length = l.length
  | _, [] => rfl
  | a, x :: l => by rw [fndsOf, List.length_cons, List.length_cons, fndsOf_length]
/-- What is made is found, and then what is behind it. -/
theorem sc_made : ∀ (l : List Mk) (a : Nat) (t : List UInt8), (∀ x ∈ l, Mk.right x) →
    sc a (l.flatMap Mk.bytes ++ t) = (fndsOf a l ++ (sc (a + (l.flatMap Mk.bytes).length) t).1, (sc (a + (l.flatMap Mk.bytes).length) t).2)
  | [], a, t, _ => by simp [fndsOf]
  | x :: l, a, t, h => by
    have hx := h x (List.mem_cons_self ..)
    obtain ⟨m1, m2, m3, m4, m5⟩ := made_parse hx (l.flatMap Mk.bytes ++ t)
    have ih := sc_made l (a + (x.2.2.length + 10)) t fun y hy => h y (List.mem_cons_of_mem _ hy)
    have hlen : (frBytes x.1 x.2.1 x.2.2).length = x.2.2.length + 10 := made_length hx
    have e : (x :: l).flatMap Mk.bytes ++ t = frBytes x.1 x.2.1 x.2.2 ++ (l.flatMap Mk.bytes ++ t) := by
      rw [List.flatMap_cons, List.append_assoc]; rfl
    have e0 : frErr (frBytes x.1 x.2.1 x.2.2 ++ (l.flatMap Mk.bytes ++ t)) = 0 := by assumption
    have e1 : frSize (frBytes x.1 x.2.1 x.2.2 ++ (l.flatMap Mk.bytes ++ t)) = x.2.2.length + 10 := by assumption
    have e2 : frV (frBytes x.1 x.2.1 x.2.2 ++ (l.flatMap Mk.bytes ++ t)) = x.1 := by assumption
    have e3 : frK (frBytes x.1 x.2.1 x.2.2 ++ (l.flatMap Mk.bytes ++ t)) = x.2.1 := by assumption
    have e4 : frP (frBytes x.1 x.2.1 x.2.2 ++ (l.flatMap Mk.bytes ++ t)) = x.2.2 := by assumption
    have hd : (frBytes x.1 x.2.1 x.2.2 ++ (l.flatMap Mk.bytes ++ t)).drop (x.2.2.length + 10) = l.flatMap Mk.bytes ++ t := by rw [← hlen]; exact List.drop_left
    have hl2 : a + ((x :: l).flatMap Mk.bytes).length = a + (x.2.2.length + 10) + (l.flatMap Mk.bytes).length := by
      rw [List.flatMap_cons, List.length_append, show (Mk.bytes x).length = x.2.2.length + 10 from hlen]; omega
    rw [e, sc_ok a e0, e1, e2, e3, e4, hd, ih, hl2]
    rfl
/-- Where another byte stands at the beginning, it is no frame. -/
theorem frErr_form {b : List UInt8} {x : UInt8} (h : b[0]? = some x) (hx : x.toNat ≠ 76) : frErr b = 3 := by
  unfold frErr
  rw [if_pos (.inl (by rw [hdAt_get h]; exact hx))]
theorem made_first {x : Mk} (h : x.right) : x.bytes[0]? = some 76 := by
  unfold Mk.bytes
  rw [made_get h 0 (by decide)]
  rfl
end Go.Proofs.Ytoggnmfjkbnopaa
