import Derived.Test.YtegclfpmgilnpaaGreatProg
import Derived.Test.YtegclfpmgilnpaaGreatGLib
import Derived.WalkKit
import Derived.Lib.Hide
namespace Go.Proofs.YtegclfpmgilnpaaGreat
open Go.RowKit Go.Lac
def bitsV : List Bool → Nat
  | [] => 0
  | b :: l => b.toNat + 2 * bitsV l
theorem bitsV_lt : ∀ l : List Bool, bitsV l < 2 ^ l.length
  | [] => by simp [bitsV]
  | b :: l => by
    have h := bitsV_lt l
    have hb : b.toNat ≤ 1 := by cases b <;> decide
    simp only [bitsV, List.length_cons, Nat.pow_succ]
    omega
theorem bitsV_snoc : ∀ (l : List Bool) (b : Bool), bitsV (l ++ [b]) = bitsV l + b.toNat * 2 ^ l.length
  | [], b => by simp [bitsV]
  | a :: l, b => by
    simp only [List.cons_append, bitsV, bitsV_snoc l b, List.length_cons, Nat.pow_succ]
    rw [Nat.mul_add, Nat.mul_comm (2 ^ l.length) 2, ← Nat.mul_assoc, ← Nat.mul_assoc, Nat.mul_comm 2 b.toNat]
    omega
theorem bitsV_take (l : List Bool) (k : Nat) (h : k < l.length) : bitsV (l.take (k + 1)) = bitsV (l.take k) + l[k].toNat * 2 ^ k := by
  rw [List.take_succ_eq_append_getElem h, bitsV_snoc, List.length_take, Nat.min_eq_left (Nat.le_of_lt h)]
theorem bitsV_take_lt (l : List Bool) (k : Nat) (h : k ≤ l.length) : bitsV (l.take k) < 2 ^ k := by
  have := bitsV_lt (l.take k)
  rwa [List.length_take, Nat.min_eq_left h] at this
def sizeN (n : Nat) : Nat := (n + 7) / 8
def twoB (v sz : Nat) : List UInt8 := [UInt8.ofNat (v % 256), UInt8.ofNat (v / 256 % 256)].take sz
def mapB (l : List Bool) : List UInt8 := twoB (bitsV l) (sizeN l.length)
theorem twoB_length (v sz : Nat) (h : sz ≤ 2) : (twoB v sz).length = sz := by
  unfold twoB; rw [List.length_take]; simp; omega
theorem sizeN_le {n : Nat} (h : n ≤ 16) : sizeN n ≤ 2 := by unfold sizeN; omega
theorem mapB_length (l : List Bool) (h : l.length ≤ 16) : (mapB l).length = sizeN l.length := twoB_length _ _ (sizeN_le h)
theorem twoB_set {v k sz : Nat} (hv : v < 2 ^ k) (hk : k / 8 < sz) (hsz : sz ≤ 2) :
    (cellsB (twoB v sz))[k / 8]? = some (.int .u8 ((v / 256 ^ (k / 8) % 256 : Nat) : Int)) ∧
    ((cellsB (twoB v sz)).toArray.setIfInBounds (k / 8) (.int .u8 (bits .or .u8 ((v / 256 ^ (k / 8) % 256 : Nat) : Int) ((2 ^ (k % 8) : Nat) : Int)))) = (cellsB (twoB (v + 2 ^ k) sz)).toArray := by
  have h1 : v % 256 < 256 := by omega
  have h2 : v / 256 % 256 < 256 := by omega
  have key : ∀ x j : Nat, x < 2 ^ j → j < 8 → bits .or .u8 (x : Int) ((2 ^ j : Nat) : Int) = ((x + 2 ^ j : Nat) : Int) := by
    intro x j hx hj
    have hp : 2 ^ j ≤ 2 ^ 7 := Nat.pow_le_pow_right (by omega) (by omega)
    rw [u8_or_nat x (2 ^ j) (by omega) (by omega), Nat.or_comm, nat_join j (2 ^ j) x (Nat.mod_self _) hx, Nat.add_comm]
  by_cases h8 : k < 8
  · have e1 : k / 8 = 0 := by omega
    have e2 : k % 8 = k := by omega
    have hp : 2 ^ k ≤ 2 ^ 7 := Nat.pow_le_pow_right (by omega) (by omega)
    have e3 : v / 256 ^ 0 % 256 = v := by simp; omega
    rw [e1, e2, e3, key v k hv h8]
    have e4 : (v + 2 ^ k) % 256 = v + 2 ^ k := by omega
    have e5 : (v + 2 ^ k) / 256 = 0 := by omega
    have e6 : v / 256 = 0 := by omega
    have e7 : v % 256 = v := by omega
    match sz, hsz, hk with
    | 1, _, _ => simp only [twoB, List.take_succ_cons, List.take_zero, cellsB, List.map_cons, List.map_nil, e7, e4, cellB_ofNat (show v < 256 by omega), cellB_ofNat (show v + 2 ^ k < 256 by omega)]; simp
    | 2, _, _ => simp only [twoB, List.take_succ_cons, List.take_zero, cellsB, List.map_cons, List.map_nil, e7, e4, e5, e6, cellB_ofNat (show v < 256 by omega), cellB_ofNat (show v + 2 ^ k < 256 by omega)]; simp
  · have hk16 : k < 16 := by omega
    have e1 : k / 8 = 1 := by omega
    obtain ⟨j, rfl⟩ : ∃ j, k = j + 8 := ⟨k - 8, by omega⟩
    have e2 : (j + 8) % 8 = j := by omega
    have hpj : 2 ^ (j + 8) = 2 ^ j * 256 := by rw [Nat.pow_add]
    have hp : 2 ^ j ≤ 2 ^ 7 := Nat.pow_le_pow_right (by omega) (by omega)
    have hx : v / 256 < 2 ^ j := by rw [Nat.div_lt_iff_lt_mul (by omega), ← hpj]; exact hv
    have e3 : v / 256 ^ 1 % 256 = v / 256 := by rw [Nat.pow_one]; omega
    rw [e1, e2, e3, key (v / 256) j hx (by omega)]
    have e4 : (v + 2 ^ (j + 8)) % 256 = v % 256 := by rw [hpj]; omega
    have e5 : (v + 2 ^ (j + 8)) / 256 = v / 256 + 2 ^ j := by rw [hpj]; omega
    have e6 : (v / 256 + 2 ^ j) % 256 = v / 256 + 2 ^ j := by omega
    have e7 : v / 256 % 256 = v / 256 := by omega
    match sz, hsz, hk with
    | 1, _, hk => omega
    | 2, _, _ => simp only [twoB, List.take_succ_cons, List.take_zero, cellsB, List.map_cons, List.map_nil, e7, e4, e5, e6, cellB_ofNat (show v / 256 < 256 by omega), cellB_ofNat (show v / 256 + 2 ^ j < 256 by omega)]; simp
set_option maxRecDepth 20000 in
set_option maxHeartbeats 400000 in
theorem mapped_any (n : Int) (w : World) :
    Calls Tryz.prog 64 #[.int .i64 n] w fun e w' => e = .returned (.bool (decide (0 ≤ n ∧ n ≤ 16))) ∧ w = w' := by
  by_cases h0 : 0 ≤ n
  · by_cases h1 : n ≤ 16
    · have e : decide (0 ≤ n ∧ n ≤ 16) = true := decide_eq_true ⟨h0, h1⟩
      rw [e]; clear e
      go_enter Tryz.func64, Tryz.ntmps64
      go_wp2
      go_ret
      exact ⟨by simp [h0, h1], rfl⟩
    · have e : decide (0 ≤ n ∧ n ≤ 16) = false := decide_eq_false (fun h => h1 h.2)
      rw [e]; clear e
      go_enter Tryz.func64, Tryz.ntmps64
      go_wp2
      go_ret
      exact ⟨by simp [h0, h1], rfl⟩
  · have e : decide (0 ≤ n ∧ n ≤ 16) = false := decide_eq_false (fun h => h0 h.1)
    rw [e]; clear e
    go_enter Tryz.func64, Tryz.ntmps64
    go_wp2
    go_ret
    exact ⟨by simp [h0], rfl⟩
def sizeI (n : Int) : Int := if 0 ≤ n ∧ n ≤ 16 then ((sizeN n.toNat : Nat) : Int) else 0
set_option maxRecDepth 20000 in
set_option maxHeartbeats 400000 in
theorem size_any (n : Int) (w : World) :
    Calls Tryz.prog 51 #[.int .i64 n] w fun e w' => e = .returned (.int .i64 (sizeI n)) ∧ w = w' := by
  by_cases h0 : 0 ≤ n ∧ n ≤ 16
  · have e : decide (0 ≤ n ∧ n ≤ 16) = true := decide_eq_true h0
    have hm := fun w => mapped_any n w
    rw [e] at hm
    have HM := Lib.hid hm
    have hs : sizeI n = (n + 7) / 8 := by unfold sizeI sizeN; rw [if_pos h0]; omega
    rw [hs]
    obtain ⟨h1, h2⟩ := h0
    clear hm hs e
    go_enter Tryz.func51, Tryz.ntmps51
    go_wp2_with (go_at_call 64; refine (HM.out _).mono ?_; rintro e w' ⟨rfl, rfl⟩)
    go_ret
    exact ⟨rfl, rfl⟩
  · have e : decide (0 ≤ n ∧ n ≤ 16) = false := decide_eq_false h0
    have hm := fun w => mapped_any n w
    rw [e] at hm
    have HM := Lib.hid hm
    have hs : sizeI n = 0 := by unfold sizeI; rw [if_neg h0]
    rw [hs]
    clear hm hs e h0
    go_enter Tryz.func51, Tryz.ntmps51
    go_wp2_with (go_at_call 64; refine (HM.out _).mono ?_; rintro e w' ⟨rfl, rfl⟩)
    go_ret
    exact ⟨rfl, rfl⟩
set_option maxRecDepth 20000 in
set_option maxHeartbeats 400000 in
theorem bit_any (k : Nat) (w : World) (hk : k ≤ 1000) :
    Calls Tryz.prog 65 #[.int .i64 k] w fun e w' => e = .returned (.int .u8 ((2 ^ (k % 8) : Nat) : Int)) ∧ w = w' := by
  have hj : k % 8 < 8 := by omega
  have hq : ∀ j, j < 8 → (2 : Int) ^ j % 256 = ((2 ^ j : Nat) : Int) := by decide
  have HQ := Lib.hid (hq (k % 8) hj); clear hq hj
  go_enter Tryz.func65, Tryz.ntmps65
  go_wp2
  go_ret
  exact ⟨by rw [← HQ.out]; rfl, rfl⟩
def boolsV (l : List Bool) : List Value := l.map Value.bool
abbrev RdBools (w : World) (v : Value) (l : List Bool) : Prop := Sl w v l.length (boolsV l)
theorem bools_cell {w : World} {v : Value} {l : List Bool} (h : RdBools w v l) {ao : Option Addr} {cap : Nat} (hv : v = .slice ao l.length cap) (h0 : 0 < l.length) :
    ∃ b off, ao = some ⟨b, off, none⟩ ∧ l.length ≤ cap ∧ cap ≤ maxLen ∧ ∀ j (hj : j < l.length), w.cell? ⟨b, off + j, none⟩ = some (.bool l[j]) := by
  obtain ⟨ao', cap', e, h1, h2, h3, h4⟩ := h
  rw [hv] at e
  simp only [Value.slice.injEq, true_and] at e
  obtain ⟨rfl, rfl⟩ := e
  cases ao with
  | none => have := h3 rfl; omega
  | some x =>
    obtain ⟨b, off, rfl, _⟩ := h4 x rfl 0 (.bool l[0]) (by simp [boolsV, h0])
    refine ⟨b, off, rfl, h1, h2, fun j hj => ?_⟩
    obtain ⟨b', off', e', h5⟩ := h4 _ rfl j (.bool l[j]) (by simp [boolsV, hj])
    cases e'
    exact h5
theorem RdBools.shape {w : World} {v : Value} {l : List Bool} (h : RdBools w v l) : ∃ ao cap, v = .slice ao l.length cap := by
  obtain ⟨ao, cap, rfl, _⟩ := h
  exact ⟨_, _, rfl⟩
def countT (l : List Bool) : Nat := l.count true
end Go.Proofs.YtegclfpmgilnpaaGreat
