/-
  The scanner fed with more bytes, whether it has stopped or not; two scanners.
-/
import Derived.Test.YtoggnmfjkbnopaaScG
namespace Go.Proofs.Ytoggnmfjkbnopaa
open Go.RowKit Go.Lac

theorem fed_any (w : World) (r g : Nat) (b c : List UInt8) (x : Value) (h : Fed w r g b) (hx : Rd w x c) (hl : b.length + c.length ≤ 400000) :
    Calls Try.prog 15 #[.pointer (some ⟨r, 0, none⟩), x] w fun q w' => ∃ v nx, q = .returned (.tuple #[v, .int .i64 ((sc 0 (b ++ c)).2.2 : Nat)]) ∧ Ch (fun i => i = g ∨ i = r) w w' ∧ FdL w' w.heap.size w.heap.size 50 .u64 v nx ∧ (sc 0 (b ++ c)).1 = (sc 0 b).1 ++ nx ∧ Fed w' r g (b ++ c) := by
  by_cases h0 : (sc 0 b).2.2 = 0
  · refine (fed_ok w r g b c x h h0 hx hl).mono ?_
    rintro q w' ⟨v, h1, h2, h3, h4⟩
    exact ⟨v, nxt b c, h1, h2, h3, by rw [nxt_ok h0], h4⟩
  · refine (fed_stop w r g b c x h h0).mono ?_
    rintro q w' ⟨h1, h2, h3⟩
    exact ⟨_, [], by rw [h1, sc_stop h0], h2.ch, FdL.nil _ _ _ _ _, by rw [sc_stop h0, List.append_nil], h3⟩
theorem Fed.keep {M : Nat → Prop} {w w' : World} {r g : Nat} {b : List UInt8} (h : Fed w r g b) (c : Ch M w w') (h1 : ¬ M r) (h2 : ¬ M g) : Fed w' r g b := IsS.keep h c h1 h2
theorem Fed.lt {w : World} {r g : Nat} {b : List UInt8} (h : Fed w r g b) : r < w.heap.size ∧ g < w.heap.size := IsS.lt h
theorem sc_len : ∀ (n a : Nat) (b : List UInt8), b.length < n → (sc a b).1.length * 10 ≤ b.length
  | 0, _, _, h => absurd h (Nat.not_lt_zero _)
  | n + 1, a, b, h => by
    by_cases h0 : frErr b = 0
    · obtain ⟨h1, h2, h3⟩ := frErr_zero h0
      rw [sc_ok a h0]
      have hl : (b.drop (frSize b)).length = b.length - frSize b := List.length_drop
      have := sc_len n (a + frSize b) (b.drop (frSize b)) (by omega)
      simp only [List.length_cons]
      omega
    · by_cases h1 : frErr b = 1
      · rw [sc_short a h1]; simp
      · rw [sc_err a h0 h1]; simp
theorem sc_bd : ∀ (n a : Nat) (b : List UInt8), b.length < n → ∀ f ∈ (sc a b).1, f.at' ≤ a + b.length
  | 0, _, _, h => absurd h (Nat.not_lt_zero _)
  | n + 1, a, b, h => fun f hf => by
    by_cases h0 : frErr b = 0
    · obtain ⟨h1, h2, h3⟩ := frErr_zero h0
      rw [sc_ok a h0] at hf
      rcases List.mem_cons.1 hf with rfl | hf
      · simp
      · have hl : (b.drop (frSize b)).length = b.length - frSize b := List.length_drop
        have := sc_bd n (a + frSize b) (b.drop (frSize b)) (by omega) f hf
        omega
    · by_cases h1 : frErr b = 1
      · rw [sc_short a h1] at hf; simp at hf
      · rw [sc_err a h0 h1] at hf; simp at hf
/-- Fed at once, from nothing. -/
def WholeTo (r g : Nat) (fs1 : List Fnd) (k : List UInt8) (a1 e1 : Nat) (w : World) (q : Ending) (w' : World) : Prop :=
  ∃ v, q = .returned (.tuple #[v, .int .i64 (e1 : Nat)]) ∧ Ch (fun i => i = g ∨ i = r) w w' ∧ FdL w' w.heap.size w.heap.size 50 .u64 v fs1 ∧ IsS w' r g k a1 e1
theorem fed_whole (w : World) (r g : Nat) (b : List UInt8) (x : Value) (h : Fed w r g []) (hx : Rd w x b) (hl : b.length ≤ 400000) {fs1 : List Fnd} {a1 e1 : Nat} (hS : sc 0 b = (fs1, a1, e1)) :
    Calls Try.prog 15 #[.pointer (some ⟨r, 0, none⟩), x] w (WholeTo r g fs1 (if e1 = 0 then b.drop a1 else []) a1 e1 w) := by
  refine (fed_any w r g [] b x h hx (by simpa using hl)).mono ?_
  rintro q w' ⟨v, nx, h1, h2, h3, h4, h5⟩
  rw [List.nil_append, hS] at h1 h4
  unfold Fed at h5
  rw [List.nil_append, hS] at h5
  have hn : nx = fs1 := by
    have : (sc 0 ([] : List UInt8)).1 = [] := by rw [sc_short 0 frErr_nil]
    rw [this, List.nil_append] at h4
    exact h4.symm
  subst hn
  exact ⟨v, h1, h2, h3, h5⟩
end Go.Proofs.Ytoggnmfjkbnopaa
