import Derived.Test.YtegclfpmgilnpaaGreatProg
import Derived.Test.YtegclfpmgilnpaaGreatGLib
import Derived.Test.YtegclfpmgilnpaaGreatBitB
namespace Go.Proofs.YtegclfpmgilnpaaGreat
open Go.RowKit Go.Lac
def valB : List UInt8 → Nat
  | [] => 0
  | b :: l => b.toNat + 256 * valB l
theorem valB_lt : ∀ l : List UInt8, valB l < 256 ^ l.length
  | [] => by simp [valB]
  | b :: l => by
    have h := valB_lt l
    have hb := b.toNat_lt
    simp only [valB, List.length_cons, Nat.pow_succ]
    omega
theorem valB_bit : ∀ (l : List UInt8) (k : Nat) (h : k / 8 < l.length), (valB l).testBit k = (l[k / 8]).toNat.testBit (k % 8)
  | [], k, h => by simp at h
  | b :: l, k, h => by
    have hb := b.toNat_lt
    have e : valB (b :: l) = 2 ^ 8 * valB l + b.toNat := by simp [valB]; omega
    rw [e, Nat.testBit_two_pow_mul_add _ (by simpa using hb)]
    by_cases hk : k < 8
    · have e1 : k / 8 = 0 := by omega
      have e2 : k % 8 = k := by omega
      simp [hk, e1, e2]
    · have h' : (k - 8) / 8 < l.length := by simp at h; omega
      rw [if_neg hk, valB_bit l (k - 8) h']
      have e1 : k / 8 = (k - 8) / 8 + 1 := by omega
      have e2 : (k - 8) % 8 = k % 8 := by omega
      simp [e1, e2]
theorem and_bit : ∀ x : Nat, x < 256 → ∀ j : Nat, j < 8 → (bits .and .u8 (x : Int) ((2 ^ j : Nat) : Int) == 0) = !(x.testBit j) := by decide +kernel
def bitsL (v n : Nat) : List Bool := (List.range n).map v.testBit
theorem bitsL_length (v n : Nat) : (bitsL v n).length = n := by simp [bitsL]
theorem bitsV_testBit : ∀ (l : List Bool) (k : Nat) (h : k < l.length), (bitsV l).testBit k = l[k]
  | [], k, h => by simp at h
  | b :: l, k, h => by
    have e : bitsV (b :: l) = 2 ^ 1 * bitsV l + b.toNat := by simp [bitsV]; omega
    rw [e, Nat.testBit_two_pow_mul_add _ (by cases b <;> decide)]
    cases k with
    | zero => cases b <;> rfl
    | succ k => simp [bitsV_testBit l k (by simpa using h)]
theorem bitsL_bitsV (l : List Bool) : bitsL (bitsV l) l.length = l := by
  apply List.ext_getElem (by simp [bitsL])
  intro k h1 h2
  simp [bitsL, bitsV_testBit l k h2]
theorem bitsV_bitsL : ∀ (n v : Nat), v < 2 ^ n → bitsV (bitsL v n) = v
  | 0, v, h => by simp [bitsL, bitsV]; omega
  | n + 1, v, h => by
    have hr : bitsL v (n + 1) = v.testBit 0 :: bitsL (v / 2) n := by
      simp [bitsL, List.range_succ_eq_map, Nat.testBit_succ]
    rw [hr, bitsV, bitsV_bitsL n (v / 2) (by rw [Nat.pow_succ] at h; omega), Nat.testBit_zero]
    rcases Nat.mod_two_eq_zero_or_one v with h0 | h0 <;> simp [h0] <;> omega
theorem valB_twoB {v sz : Nat} (hsz : sz ≤ 2) (hv : v < 256 ^ sz) : valB (twoB v sz) = v := by
  match sz, hsz with
  | 0, _ => simp at hv; subst hv; rfl
  | 1, _ => simp [twoB, valB]; omega
  | 2, _ => simp [twoB, valB]; omega
theorem twoB_valB {l : List UInt8} (h : l.length ≤ 2) : twoB (valB l) l.length = l := by
  match l, h with
  | [], _ => rfl
  | [a], _ => have := a.toNat_lt; simp [twoB, valB]
  | [a, b], _ =>
    have ha := a.toNat_lt
    have hb := b.toNat_lt
    have e1 : (a.toNat + 256 * b.toNat) % 256 = a.toNat := by omega
    have e2 : (a.toNat + 256 * b.toNat) / 256 % 256 = b.toNat := by omega
    simp [twoB, valB, e1, e2]
def unpAt (v n k : Nat) : List Bool := (List.range n).map fun j => decide (j < k) && v.testBit j
theorem unpAt_length (v n k : Nat) : (unpAt v n k).length = n := by simp [unpAt]
theorem unpAt_zero (v n : Nat) : unpAt v n 0 = List.replicate n false := by
  apply List.ext_getElem (by simp [unpAt])
  intro k h1 h2; simp [unpAt]
theorem unpAt_skip {v n k : Nat} (h : v.testBit k = false) : unpAt v n (k + 1) = unpAt v n k := by
  apply List.ext_getElem (by simp [unpAt])
  intro j h1 h2
  simp only [unpAt, List.getElem_map, List.getElem_range]
  by_cases hj : j = k
  · subst hj; simp [h]
  · have : decide (j < k + 1) = decide (j < k) := by by_cases h3 : j < k <;> simp [h3] <;> omega
    rw [this]
theorem unpAt_set {v n k : Nat} (h : v.testBit k = true) (hk : k < n) : (unpAt v n k).set k true = unpAt v n (k + 1) := by
  apply List.ext_getElem (by simp [unpAt])
  intro j h1 h2
  by_cases hj : j = k
  · subst hj; simp [unpAt, h]
  · have : decide (j < k + 1) = decide (j < k) := by by_cases h3 : j < k <;> simp [h3] <;> omega
    simp [unpAt, List.getElem_set, Ne.symm hj, this]
theorem unpAt_full {v n k : Nat} (h : n ≤ k) : unpAt v n k = bitsL v n := by
  apply List.ext_getElem (by simp [unpAt, bitsL])
  intro j h1 h2
  have : j < k := by simp [unpAt] at h1; omega
  simp [unpAt, bitsL, this]
theorem boolsV_set (l : List Bool) (k : Nat) (b : Bool) : (boolsV l).toArray.setIfInBounds k (.bool b) = (boolsV (l.set k b)).toArray := by
  simp [boolsV, List.map_set]
theorem made_bools (n : Nat) : madeCells (Value.bool false).cells (n * 1) = (boolsV (List.replicate n false)).toArray := by
  apply Array.ext'
  rw [show (Value.bool false).cells = #[.bool false] from rfl, toList_madeCells_one]
  simp [boolsV]
theorem bools_of_heap {w : World} {g n : Nat} {l : List Bool} {E : TypeId} (h : w.heap[g]? = some (.cells (boolsV l).toArray E (0, 0))) (hl : l.length = n) (hm : n ≤ maxLen) : RdBools w (.slice (some ⟨g, 0, none⟩) n n) l := by
  subst hl
  refine ⟨_, l.length, rfl, Nat.le_refl _, hm, (fun h => by cases h), fun x hx j u hu => ?_⟩
  cases hx
  refine ⟨g, 0, rfl, ?_⟩
  rw [Nat.zero_add, cell_of_row w g j _ _ _ h]
  simpa using hu
theorem rdBools_nil (w : World) : RdBools w (.slice none 0 0) [] :=
  ⟨none, 0, rfl, Nat.le_refl _, by unfold maxLen; omega, fun _ => rfl, fun x hx => by cases hx⟩
theorem bytes_cell {w : World} {v : Value} {l : List UInt8} (h : Rd w v l) {ao : Option Addr} {cap : Nat} (hv : v = .slice ao l.length cap) (h0 : 0 < l.length) :
    ∃ b off, ao = some ⟨b, off, none⟩ ∧ l.length ≤ cap ∧ cap ≤ maxLen ∧ ∀ j (hj : j < l.length), w.cell? ⟨b, off + j, none⟩ = some (.int .u8 (l[j].toNat : Nat)) := by
  obtain ⟨ao', cap', e, h1, h2, h3, h4⟩ := h
  rw [hv] at e
  simp only [Value.slice.injEq, true_and] at e
  obtain ⟨rfl, rfl⟩ := e
  cases ao with
  | none => have := h3 rfl; omega
  | some x =>
    obtain ⟨b, off, rfl, _⟩ := h4 x rfl 0 (cellB l[0]) (by simp [cellsB, h0])
    refine ⟨b, off, rfl, h1, h2, fun j hj => ?_⟩
    obtain ⟨b', off', e', h5⟩ := h4 _ rfl j (cellB l[j]) (by simp [cellsB, hj])
    cases e'
    exact h5
def unpC (bs : List UInt8) (n : Int) : Int :=
  if 0 ≤ n ∧ n ≤ 16 then (if bs.length < sizeN n.toNat then 1 else if sizeN n.toNat < bs.length then 2 else if valB bs < 2 ^ n.toNat then 0 else 3) else 17
def unpL (bs : List UInt8) (n : Int) : List Bool := if unpC bs n = 0 then bitsL (valB bs) n.toNat else []
def UnpackPost (bs : List UInt8) (n : Int) (w : World) (e : Ending) (w' : World) : Prop :=
  ∃ s, e = .returned (.tuple #[s, .int .i64 (unpC bs n)]) ∧ Ext w w' ∧ RdBools w' s (unpL bs n)
theorem UnpackPost.err {bs : List UInt8} {n : Int} {w w' : World} {c : Int} (h : unpC bs n = c) (hc : c ≠ 0) (hw : Ext w w') : UnpackPost bs n w (.returned (.tuple #[.slice none 0 0, .int .i64 c])) w' :=
  ⟨_, by rw [h], hw, by unfold unpL; rw [if_neg (by rw [h]; exact hc)]; exact rdBools_nil _⟩
theorem UnpackPost.ok {bs : List UInt8} {n : Int} {w w' : World} {s : Value} (h : unpC bs n = 0) (hw : Ext w w') (hs : RdBools w' s (bitsL (valB bs) n.toNat)) : UnpackPost bs n w (.returned (.tuple #[s, .int .i64 0])) w' :=
  ⟨s, by rw [h], hw, by unfold unpL; rw [if_pos h]; exact hs⟩
theorem unpC_big {bs : List UInt8} {n k : Nat} (h16 : n ≤ 16) (hl : bs.length = sizeN n) (hb : (valB bs).testBit k = true) (hk : n ≤ k) : unpC bs (n : Int) = 3 := by
  unfold unpC
  rw [if_pos (by omega), Int.toNat_natCast, if_neg (by omega), if_neg (by omega), if_neg]
  intro h
  have h2 : valB bs < 2 ^ k := Nat.lt_of_lt_of_le h (Nat.pow_le_pow_right (by omega) hk)
  rw [Nat.testBit_lt_two_pow h2] at hb; cases hb
theorem unpC_fits {bs : List UInt8} {n : Nat} (h16 : n ≤ 16) (hl : bs.length = sizeN n) (h : ∀ j, n ≤ j → j < 8 * bs.length → (valB bs).testBit j = false) : unpC bs (n : Int) = 0 := by
  unfold unpC
  rw [if_pos (by omega), Int.toNat_natCast, if_neg (by omega), if_neg (by omega), if_pos]
  apply Nat.lt_pow_two_of_testBit
  intro i hi
  by_cases h8 : i < 8 * bs.length
  · exact h i hi h8
  · have := valB_lt bs
    rw [show (256 : Nat) = 2 ^ 8 from rfl, ← Nat.pow_mul] at this
    exact Nat.testBit_lt_two_pow (Nat.lt_of_lt_of_le this (Nat.pow_le_pow_right (by omega) (by omega)))
theorem unpC_lt {bs : List UInt8} {n : Nat} (h16 : n ≤ 16) (hl : bs.length = sizeN n) : unpC bs (n : Int) = if valB bs < 2 ^ n then 0 else 3 := by
  unfold unpC
  rw [if_pos (by omega), Int.toNat_natCast, if_neg (by omega), if_neg (by omega)]
end Go.Proofs.YtegclfpmgilnpaaGreat
