/-
  Pieces of texts as plain mathematics.
-/
import Derived.WalkKit
namespace Go.Lac
open Go

/-- How many pieces a text of n bytes has. -/
def cnt (n : Nat) : Nat := (n + 255) / 256
/-- The piece k of a text. -/
def piece (b : List UInt8) (k : Nat) : List UInt8 := (b.drop (k * 256)).take 256
/-- A text in pieces. -/
def pcs (b : List UInt8) : List (List UInt8) := (List.range (cnt b.length)).map (piece b)
/-- The walk: where each piece begins, and the piece. -/
def wl (b : List UInt8) : List (Nat × List UInt8) := (List.range (cnt b.length)).map fun k => (k * 256, piece b k)
def splitL (l : List (List UInt8)) : List (List UInt8) := l.flatMap pcs

theorem pcs_length (b : List UInt8) : (pcs b).length = cnt b.length := by simp [pcs]
theorem wl_length (b : List UInt8) : (wl b).length = cnt b.length := by simp [wl]
theorem wl_snd (b : List UInt8) : (wl b).map Prod.snd = pcs b := by simp [wl, pcs]
theorem wl_get (b : List UInt8) (k : Nat) (h : k < (wl b).length) : (wl b)[k] = (k * 256, piece b k) := by simp [wl]
theorem pcs_get (b : List UInt8) (k : Nat) (h : k < (pcs b).length) : (pcs b)[k] = piece b k := by simp [pcs]
theorem cnt_lt {n k : Nat} : k < cnt n ↔ k * 256 < n := by unfold cnt; omega
theorem cnt_bd (n : Nat) : n ≤ cnt n * 256 ∧ cnt n * 256 < n + 256 := by unfold cnt; omega
theorem cnt_zero {n : Nat} : cnt n = 0 ↔ n = 0 := by unfold cnt; omega
theorem piece_length (b : List UInt8) (k : Nat) : (piece b k).length = min (b.length - k * 256) 256 := by simp [piece]; omega
theorem piece_ne {b : List UInt8} {k : Nat} (h : k < cnt b.length) : 1 ≤ (piece b k).length ∧ (piece b k).length ≤ 256 := by
  rw [piece_length]; have := cnt_lt.1 h; omega
theorem take_pcs_flat (b : List UInt8) : ∀ k, k ≤ cnt b.length → ((pcs b).take k).flatten = b.take (k * 256)
  | 0, _ => by simp
  | k + 1, h => by
    have hk : k < (pcs b).length := by rw [pcs_length]; omega
    rw [List.take_succ_eq_append_getElem hk, List.flatten_append, take_pcs_flat b k (by omega), pcs_get, List.flatten_cons, List.flatten_nil, List.append_nil, piece,
      show (k + 1) * 256 = k * 256 + 256 by omega, List.take_add]
theorem pcs_flat (b : List UInt8) : (pcs b).flatten = b := by
  have := take_pcs_flat b (cnt b.length) (Nat.le_refl _)
  rw [← pcs_length, List.take_length, pcs_length] at this
  rw [this, List.take_of_length_le (cnt_bd _).1]
theorem pcs_take_le (b : List UInt8) (j : Nat) : ((pcs b).take j).length ≤ b.length := by
  have : cnt b.length ≤ b.length := by unfold cnt; omega
  rw [List.length_take, pcs_length]; omega
theorem pcs_nil : pcs [] = [] := rfl
/-- The last piece. -/
theorem pcs_last {b : List UInt8} {k : Nat} (h0 : k = 0 ∨ k * 256 < b.length) (h1 : b.length ≤ k * 256 + 256) :
    (pcs b).take k ++ (if b.drop (k * 256) = [] then [] else [b.drop (k * 256)]) = pcs b := by
  by_cases hb : b.length ≤ k * 256
  · obtain rfl : k = 0 := by omega
    have : b = [] := List.eq_nil_of_length_eq_zero (by omega)
    subst this
    simp [pcs, cnt]
  · have hc : cnt b.length = k + 1 := by unfold cnt; omega
    have hk : k < (pcs b).length := by rw [pcs_length]; omega
    have hd : b.drop (k * 256) ≠ [] := by
      intro e
      have := congrArg List.length e
      simp at this; omega
    rw [if_neg hd]
    have e : b.drop (k * 256) = (pcs b)[k] := by
      rw [pcs_get, piece, List.take_of_length_le (by simp; omega)]
    rw [e, ← List.take_succ_eq_append_getElem hk, List.take_of_length_le (by rw [pcs_length]; omega)]
/-- One piece more. -/
theorem pcs_more {b : List UInt8} {k : Nat} (h1 : k * 256 + 256 < b.length) :
    (pcs b).take (k + 1) = (pcs b).take k ++ [(b.drop (k * 256)).take 256] := by
  have hk : k < (pcs b).length := by rw [pcs_length]; unfold cnt; omega
  rw [List.take_succ_eq_append_getElem hk, pcs_get, piece]

theorem splitL_take_succ (l : List (List UInt8)) (i : Nat) (h : i < l.length) : splitL (l.take (i + 1)) = splitL (l.take i) ++ pcs l[i] := by
  unfold splitL
  rw [List.take_succ_eq_append_getElem h, List.flatMap_append, List.flatMap_cons, List.flatMap_nil, List.append_nil]
theorem splitL_flat (l : List (List UInt8)) : (splitL l).flatten = l.flatten := by
  induction l with
  | nil => rfl
  | cons b l ih =>
    rw [splitL] at ih ⊢
    rw [List.flatMap_cons, List.flatten_append, pcs_flat, ih, List.flatten_cons]
theorem splitL_mem {l : List (List UInt8)} {p : List UInt8} (h : p ∈ splitL l) : 1 ≤ p.length ∧ p.length ≤ 256 := by
  obtain ⟨b, _, hb⟩ := List.mem_flatMap.1 h
  obtain ⟨k, hk, rfl⟩ := List.mem_map.1 hb
  exact piece_ne (by simpa using hk)
theorem splitL_len_le {l : List (List UInt8)} {M : Nat} (h : ∀ b ∈ l, b.length ≤ M) : (splitL l).length ≤ l.length * M := by
  induction l with
  | nil => simp [splitL]
  | cons b l ih =>
    have h1 := ih fun x hx => h x (by simp [hx])
    have h2 := h b (by simp)
    have h3 : cnt b.length ≤ M := by unfold cnt; omega
    unfold splitL at *
    rw [List.flatMap_cons, List.length_append, pcs_length, List.length_cons, Nat.succ_mul]
    omega
/-- How many pieces texts of these sizes have. -/
def cntL (sizes : List Int) : Nat := (sizes.map fun n => cnt n.toNat).sum
def sizesL (l : List (List UInt8)) : List Int := l.map fun b => (b.length : Int)
theorem splitL_length (l : List (List UInt8)) : (splitL l).length = cntL (sizesL l) := by
  induction l with
  | nil => rfl
  | cons b l ih =>
    rw [splitL] at ih ⊢
    rw [List.flatMap_cons, List.length_append, pcs_length, ih]
    simp [sizesL, cntL]
theorem cntL_cons (n : Int) (l : List Int) : cntL (n :: l) = cnt n.toNat + cntL l := by simp [cntL]
theorem cntL_append (a b : List Int) : cntL (a ++ b) = cntL a + cntL b := by simp [cntL]
theorem cntL_take_succ (l : List Int) (i : Nat) (h : i < l.length) : cntL (l.take (i + 1)) = cntL (l.take i) + cnt (l[i].toNat) := by
  rw [List.take_succ_eq_append_getElem h, cntL_append]; simp [cntL]
theorem cntL_take_le (l : List Int) (i : Nat) : cntL (l.take i) ≤ cntL l := by
  have := cntL_append (l.take i) (l.drop i)
  rw [List.take_append_drop] at this; omega

theorem cntL_le {l : List Int} {M : Nat} (h : ∀ n ∈ l, n.toNat ≤ M) : cntL l ≤ l.length * M := by
  induction l with
  | nil => simp [cntL]
  | cons n l ih =>
    have h1 := ih fun x hx => h x (by simp [hx])
    have h2 := h n (by simp)
    have h3 : cnt n.toNat ≤ n.toNat := by unfold cnt; omega
    rw [cntL_cons, List.length_cons, Nat.succ_mul]
    omega
/-- How long the pieces of a text of n bytes are. -/
def lens (n : Nat) : List Nat := (List.range (cnt n)).map fun k => min (n - k * 256) 256
def lensL (sizes : List Int) : List Nat := sizes.flatMap fun n => lens n.toNat
theorem lens_length (n : Nat) : (lens n).length = cnt n := by simp [lens]
theorem lens_get (n k : Nat) (h : k < (lens n).length) : (lens n)[k] = min (n - k * 256) 256 := by simp [lens]
theorem lensL_length (l : List Int) : (lensL l).length = cntL l := by
  induction l with
  | nil => rfl
  | cons n l ih =>
    rw [lensL] at ih ⊢
    rw [List.flatMap_cons, List.length_append, lens_length, ih, cntL_cons]
theorem lensL_append (a b : List Int) : lensL (a ++ b) = lensL a ++ lensL b := by simp [lensL]
theorem lensL_cons (n : Int) (l : List Int) : lensL (n :: l) = lens n.toNat ++ lensL l := by simp [lensL]
theorem lens_take_le (n : Nat) (j : Nat) : ((lens n).take j).length ≤ n := by
  have : cnt n ≤ n := by unfold cnt; omega
  rw [List.length_take, lens_length]; omega
theorem lens_take_sum (n : Nat) : ∀ k, k ≤ cnt n → ((lens n).take k).sum = min (k * 256) n
  | 0, _ => by simp
  | k + 1, h => by
    have hk : k < (lens n).length := by rw [lens_length]; omega
    rw [List.take_succ_eq_append_getElem hk, List.sum_append_nat, lens_take_sum n k (by omega), lens_get]
    have := cnt_lt.1 (show k < cnt n by omega)
    simp; omega
theorem lens_sum (n : Nat) : (lens n).sum = n := by
  have := lens_take_sum n (cnt n) (Nat.le_refl _)
  rw [← lens_length, List.take_length, lens_length] at this
  have := cnt_bd n
  omega
/-- The last length, one more. -/
theorem lens_last {n k : Nat} (h0 : k = 0 ∨ k * 256 < n) (h1 : n ≤ k * 256 + 256) : (lens n).take k ++ (if n - k * 256 = 0 then [] else [n - k * 256]) = lens n := by
  by_cases hb : n ≤ k * 256
  · obtain rfl : k = 0 := by omega
    obtain rfl : n = 0 := by omega
    simp [lens, cnt]
  · have hc : cnt n = k + 1 := by unfold cnt; omega
    have hk : k < (lens n).length := by rw [lens_length]; omega
    rw [if_neg (by omega)]
    have e : n - k * 256 = (lens n)[k] := by rw [lens_get]; omega
    rw [e, ← List.take_succ_eq_append_getElem hk, List.take_of_length_le (by rw [lens_length]; omega)]
theorem lens_more {n k : Nat} (h1 : k * 256 + 256 < n) : (lens n).take (k + 1) = (lens n).take k ++ [256] := by
  have hk : k < (lens n).length := by rw [lens_length]; unfold cnt; omega
  rw [List.take_succ_eq_append_getElem hk, lens_get]
  congr 2; omega
theorem pcs_lens (b : List UInt8) : (pcs b).map List.length = lens b.length := by
  simp [pcs, lens, piece_length]
theorem splitL_lens (l : List (List UInt8)) : (splitL l).map List.length = lensL (sizesL l) := by
  induction l with
  | nil => rfl
  | cons b l ih =>
    rw [splitL] at ih ⊢
    rw [List.flatMap_cons, List.map_append, pcs_lens, ih]
    simp [sizesL, lensL]

/-- May these sizes be? -/
def sizesOk (sizes : List Int) : Prop := ∀ n ∈ sizes, 0 ≤ n ∧ n ≤ 2048
instance (sizes : List Int) : Decidable (sizesOk sizes) := inferInstanceAs (Decidable (∀ n ∈ sizes, 0 ≤ n ∧ n ≤ 2048))
/-- Texts of these sizes, out of one text. -/
def cutL : List UInt8 → List Int → List (List UInt8)
  | _, [] => []
  | b, n :: l => b.take n.toNat :: cutL (b.drop n.toNat) l
/-- The texts of pieces; an error's number. -/
def joinL (ps : List (List UInt8)) (sizes : List Int) : List (List UInt8) × Nat :=
  if ¬ sizesOk sizes then ([], 4) else if ps.map List.length ≠ lensL sizes then ([], 16) else (cutL ps.flatten sizes, 0)
theorem cutL_sizes : ∀ l : List (List UInt8), cutL l.flatten (sizesL l) = l
  | [] => rfl
  | b :: l => by
    rw [sizesL, List.map_cons, cutL, List.flatten_cons, Int.toNat_natCast, List.take_left, List.drop_left]
    congr 1
    exact cutL_sizes l
/-- What is split is joined as it was. -/
theorem join_split {l : List (List UInt8)} (h : ∀ b ∈ l, b.length ≤ 2048) : joinL (splitL l) (sizesL l) = (l, 0) := by
  have hs : sizesOk (sizesL l) := by
    intro n hn
    obtain ⟨b, hb, rfl⟩ := List.mem_map.1 hn
    have := h b hb
    omega
  unfold joinL
  rw [if_neg (by simpa using hs), if_neg (by simpa using splitL_lens l), splitL_flat, cutL_sizes]
theorem cutL_append : ∀ (a c : List Int) (b : List UInt8), cutL b (a ++ c) = cutL b a ++ cutL (b.drop ((a.map Int.toNat).sum)) c
  | [], c, b => by simp [cutL]
  | n :: a, c, b => by rw [List.cons_append, cutL, cutL, cutL_append a c, List.cons_append, List.map_cons, List.sum_cons, List.drop_drop]
theorem cutL_length : ∀ (a : List Int) (b : List UInt8), (cutL b a).length = a.length
  | [], _ => rfl
  | n :: a, b => by rw [cutL, List.length_cons, cutL_length a, List.length_cons]
theorem lensL_sum : ∀ l : List Int, (lensL l).sum = (l.map Int.toNat).sum
  | [] => rfl
  | n :: l => by rw [lensL_cons, List.sum_append_nat, lens_sum, lensL_sum l, List.map_cons, List.sum_cons]
theorem flat_length (ps : List (List UInt8)) : ps.flatten.length = (ps.map List.length).sum := by rw [List.length_flatten]

/-- Where the pieces of the text i begin. -/
theorem lensL_take (sizes : List Int) (i : Nat) (h : i < sizes.length) (a : List Nat) (ha : a = lensL sizes) : (a.drop (cntL (sizes.take i))).take (cnt sizes[i].toNat) = lens sizes[i].toNat := by
  subst ha
  have e : sizes = sizes.take i ++ sizes[i] :: sizes.drop (i + 1) := by rw [← List.drop_eq_getElem_cons h, List.take_append_drop]
  have e2 : lensL sizes = lensL (sizes.take i) ++ (lens sizes[i].toNat ++ lensL (sizes.drop (i + 1))) := by
    have := congrArg lensL e
    rwa [lensL_append, lensL_cons] at this
  rw [e2, ← lensL_length, List.drop_left, ← lens_length, List.take_left]
/-- Texts of these sizes, out of pieces. -/
def grp : List (List UInt8) → List Int → List (List UInt8)
  | _, [] => []
  | ps, n :: l => (ps.take (cnt n.toNat)).flatten :: grp (ps.drop (cnt n.toNat)) l
theorem grp_length : ∀ (l : List Int) (ps : List (List UInt8)), (grp ps l).length = l.length
  | [], _ => rfl
  | n :: l, ps => by rw [grp, List.length_cons, grp_length l, List.length_cons]
theorem grp_append : ∀ (a c : List Int) (ps : List (List UInt8)), grp ps (a ++ c) = grp ps a ++ grp (ps.drop (cntL a)) c
  | [], c, ps => by simp [grp, cntL]
  | n :: a, c, ps => by rw [List.cons_append, grp, grp, grp_append a c, List.cons_append, cntL_cons, List.drop_drop]
theorem grp_take_succ (ps : List (List UInt8)) (l : List Int) (i : Nat) (h : i < l.length) : grp ps (l.take (i + 1)) = grp ps (l.take i) ++ [((ps.drop (cntL (l.take i))).take (cnt l[i].toNat)).flatten] := by
  rw [List.take_succ_eq_append_getElem h, grp_append]; rfl
theorem grp_cut : ∀ (l : List Int) (ps : List (List UInt8)), ps.map List.length = lensL l → grp ps l = cutL ps.flatten l
  | [], _, _ => rfl
  | n :: l, ps, h => by
    rw [lensL_cons] at h
    have h1 : (ps.take (cnt n.toNat)).map List.length = lens n.toNat := by rw [List.map_take, h, ← lens_length, List.take_left]
    have h2 : (ps.drop (cnt n.toNat)).map List.length = lensL l := by rw [List.map_drop, h, ← lens_length, List.drop_left]
    have e : ps.flatten = (ps.take (cnt n.toNat)).flatten ++ (ps.drop (cnt n.toNat)).flatten := by rw [← List.flatten_append, List.take_append_drop]
    have e1 : (ps.take (cnt n.toNat)).flatten.length = n.toNat := by rw [flat_length, h1, lens_sum]
    have a1 := List.take_left (l₁ := (ps.take (cnt n.toNat)).flatten) (l₂ := (ps.drop (cnt n.toNat)).flatten)
    have a2 := List.drop_left (l₁ := (ps.take (cnt n.toNat)).flatten) (l₂ := (ps.drop (cnt n.toNat)).flatten)
    rw [e1, ← e] at a1 a2
    rw [grp, cutL, a1, a2, grp_cut l _ h2]
/-- One text more fits. -/
theorem fit_step {ps : List (List UInt8)} {l : List Int} {i : Nat} (h : i < l.length) (h0 : (ps.take (cntL (l.take i))).map List.length = lensL (l.take i)) (h1 : ((ps.drop (cntL (l.take i))).take (cnt l[i].toNat)).map List.length = lens l[i].toNat) :
    (ps.take (cntL (l.take (i + 1)))).map List.length = lensL (l.take (i + 1)) := by
  rw [cntL_take_succ l i h, List.take_add, List.map_append, h0, h1, List.take_succ_eq_append_getElem h, lensL_append, lensL_cons]
  simp [lensL]
theorem fit_not {ps : List (List UInt8)} {l : List Int} {i : Nat} (h : i < l.length) (h1 : ((ps.drop (cntL (l.take i))).take (cnt l[i].toNat)).map List.length ≠ lens l[i].toNat) : ps.map List.length ≠ lensL l := fun e =>
  h1 (by have := lensL_take l i h _ e; rwa [← List.map_drop, ← List.map_take] at this)
theorem fit_all {ps : List (List UInt8)} {l : List Int} (hl : ps.length = cntL l) (h : (ps.take (cntL l)).map List.length = lensL l) : ps.map List.length = lensL l := by
  rwa [List.take_of_length_le (by omega)] at h
theorem join_count {ps : List (List UInt8)} {l : List Int} (hl : ps.length ≠ cntL l) : ps.map List.length ≠ lensL l := fun e => hl (by rw [← lensL_length, ← e, List.length_map])
theorem join_wrong {ps : List (List UInt8)} {l : List Int} (hs : sizesOk l) (h : ps.map List.length ≠ lensL l) : joinL ps l = ([], 16) := by
  unfold joinL; rw [if_neg (by simpa using hs), if_pos h]
theorem join_range {ps : List (List UInt8)} {l : List Int} (hs : ¬ sizesOk l) : joinL ps l = ([], 4) := by
  unfold joinL; rw [if_pos hs]
theorem join_ok {ps : List (List UInt8)} {l : List Int} (hs : sizesOk l) (h : ps.map List.length = lensL l) : joinL ps l = (cutL ps.flatten l, 0) := by
  unfold joinL; rw [if_neg (by simpa using hs), if_neg (by simpa using h)]
theorem join_zero {ps : List (List UInt8)} {l : List Int} : (joinL ps l).2 = 0 ↔ sizesOk l ∧ ps.map List.length = lensL l := by
  unfold joinL
  split
  · simp_all
  · split <;> simp_all
theorem cnt_le (n : Nat) : cnt n ≤ n := by unfold cnt; omega
def sumN (l : List Int) : Nat := (l.map Int.toNat).sum
theorem sumN_append (a b : List Int) : sumN (a ++ b) = sumN a + sumN b := by simp [sumN]
theorem sumN_take_succ (l : List Int) (i : Nat) (h : i < l.length) : sumN (l.take (i + 1)) = sumN (l.take i) + l[i].toNat := by
  rw [List.take_succ_eq_append_getElem h, sumN_append]; simp [sumN]
theorem sumN_take_le (l : List Int) (i : Nat) : sumN (l.take i) ≤ sumN l := by
  have : sumN l = sumN (l.take i) + sumN (l.drop i) := by
    conv => lhs; rw [← List.take_append_drop i l]
    rw [sumN_append]
  omega
theorem cutL_take_succ (b : List UInt8) (l : List Int) (i : Nat) (h : i < l.length) : cutL b (l.take (i + 1)) = cutL b (l.take i) ++ [(b.drop (sumN (l.take i))).take l[i].toNat] := by
  rw [List.take_succ_eq_append_getElem h, cutL_append]; rfl
theorem lensL_le {l : List Int} {n : Nat} (h : n ∈ lensL l) : n ≤ 256 := by
  obtain ⟨x, _, hx⟩ := List.mem_flatMap.1 h
  obtain ⟨k, _, rfl⟩ := List.mem_map.1 hx
  exact Nat.min_le_right _ _
theorem flatten_take_succ (ps : List (List UInt8)) (i : Nat) (h : i < ps.length) : (ps.take (i + 1)).flatten = (ps.take i).flatten ++ ps[i] := by
  rw [List.take_succ_eq_append_getElem h, List.flatten_append, List.flatten_cons, List.flatten_nil, List.append_nil]
theorem flatten_sum {ps : List (List UInt8)} {l : List Int} (h : ps.map List.length = lensL l) : ps.flatten.length = sumN l := by
  rw [flat_length, h, lensL_sum]; rfl
end Go.Lac
