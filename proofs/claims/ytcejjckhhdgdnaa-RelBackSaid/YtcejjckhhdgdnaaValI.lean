/-
  bits.ReverseBytes64.
-/
import Derived.Test.YtcejjckhhdgdnaaValA
import Derived.Laws.BitsAllLaws
namespace Go.Proofs.Ytcejjckhhdgdnaa
open Go.RowKit Go.Lac

theorem u64_and_nat (a b : Nat) (ha : a < 18446744073709551616) (hb : b < 18446744073709551616) : bits .and .u64 (a : Int) (b : Int) = ((a &&& b : Nat) : Int) := by
  have h : a &&& b < 2 ^ 64 := Nat.and_lt_two_pow _ (by simpa using hb)
  have e : bits .and .u64 (a : Int) (b : Int) = IntKind.u64.wrap ((BitVec.ofInt 64 (a : Int) &&& BitVec.ofInt 64 (b : Int)).toNat : Int) := rfl
  rw [e, BitVec.toNat_and, ofInt_u64 a (by omega), ofInt_u64 b (by omega), IntKind.wrap_u64]
  omega
theorem u64_or_nat (a b : Nat) (ha : a < 18446744073709551616) (hb : b < 18446744073709551616) : bits .or .u64 (a : Int) (b : Int) = ((a ||| b : Nat) : Int) := by
  have h := Nat.or_lt_two_pow (n := 64) (by simpa using ha) (by simpa using hb)
  have e : bits .or .u64 (a : Int) (b : Int) = IntKind.u64.wrap ((BitVec.ofInt 64 (a : Int) ||| BitVec.ofInt 64 (b : Int)).toNat : Int) := rfl
  rw [e, BitVec.toNat_or, ofInt_u64 a (by omega), ofInt_u64 b (by omega), IntKind.wrap_u64]
  omega

/-- Digits to the base 256, the lowest first. -/
def dN : List Nat → Nat
  | [] => 0
  | b :: l => b + 256 * dN l
theorem dN_and (b c : Nat) (l m : List Nat) (hb : b < 256) (hc : c < 256) : dN (b :: l) &&& dN (c :: m) = (b &&& c) + 256 * (dN l &&& dN m) := by
  have h1 := Nat.and_mod_two_pow (a := dN (b :: l)) (b := dN (c :: m)) (n := 8)
  have h2 := Nat.and_div_two_pow (a := dN (b :: l)) (b := dN (c :: m)) (n := 8)
  simp only [dN] at h1 h2 ⊢
  rw [show (2 : Nat) ^ 8 = 256 by rfl] at h1 h2
  rw [show (b + 256 * dN l) % 256 = b by omega, show (c + 256 * dN m) % 256 = c by omega] at h1
  rw [show (b + 256 * dN l) / 256 = dN l by omega, show (c + 256 * dN m) / 256 = dN m by omega] at h2
  omega
theorem dN_or (b c : Nat) (l m : List Nat) (hb : b < 256) (hc : c < 256) : dN (b :: l) ||| dN (c :: m) = (b ||| c) + 256 * (dN l ||| dN m) := by
  have h1 := Nat.or_mod_two_pow (a := dN (b :: l)) (b := dN (c :: m)) (n := 8)
  have h2 := Nat.or_div_two_pow (a := dN (b :: l)) (b := dN (c :: m)) (n := 8)
  simp only [dN] at h1 h2 ⊢
  rw [show (2 : Nat) ^ 8 = 256 by rfl] at h1 h2
  rw [show (b + 256 * dN l) % 256 = b by omega, show (c + 256 * dN m) % 256 = c by omega] at h1
  rw [show (b + 256 * dN l) / 256 = dN l by omega, show (c + 256 * dN m) / 256 = dN m by omega] at h2
  omega
theorem and_ff {b : Nat} (h : b < 256) : b &&& 255 = b := by
  have := Nat.and_two_pow_sub_one_eq_mod b 8
  simp only [show (2 : Nat) ^ 8 - 1 = 255 by rfl] at this
  rw [this]
  omega
theorem and8 (a b : List Nat) (ha : ∀ x ∈ a, x < 256) (hb : ∀ x ∈ b, x < 256) (h : a.length = b.length) : dN a &&& dN b = dN (List.zipWith (· &&& ·) a b) := by
  induction a generalizing b with
  | nil => cases b with
    | nil => rfl
    | cons c m => simp at h
  | cons x l ih =>
    cases b with
    | nil => simp at h
    | cons c m =>
      rw [dN_and _ _ _ _ (ha x (by simp)) (hb c (by simp)), ih m (fun y hy => ha y (by simp [hy])) (fun y hy => hb y (by simp [hy])) (by simpa using h)]
      rfl
theorem or8 (a b : List Nat) (ha : ∀ x ∈ a, x < 256) (hb : ∀ x ∈ b, x < 256) (h : a.length = b.length) : dN a ||| dN b = dN (List.zipWith (· ||| ·) a b) := by
  induction a generalizing b with
  | nil => cases b with
    | nil => rfl
    | cons c m => simp at h
  | cons x l ih =>
    cases b with
    | nil => simp at h
    | cons c m =>
      rw [dN_or _ _ _ _ (ha x (by simp)) (hb c (by simp)), ih m (fun y hy => ha y (by simp [hy])) (fun y hy => hb y (by simp [hy])) (by simpa using h)]
      rfl

theorem dN_lt : ∀ l : List Nat, (∀ x ∈ l, x < 256) → dN l < 256 ^ l.length
  | [], _ => by simp [dN]
  | b :: l, h => by
    have h1 := dN_lt l fun x hx => h x (by simp [hx])
    have h2 := h b (by simp)
    rw [dN, List.length_cons, Nat.pow_succ]
    omega

section
variable {b0 b1 b2 b3 b4 b5 b6 b7 : Nat} (h0 : b0 < 256) (h1 : b1 < 256) (h2 : b2 < 256) (h3 : b3 < 256) (h4 : b4 < 256) (h5 : b5 < 256) (h6 : b6 < 256) (h7 : b7 < 256)
include h0 h1 h2 h3 h4 h5 h6 h7
theorem d8_lt : dN [b0, b1, b2, b3, b4, b5, b6, b7] < 18446744073709551616 := by
  have h := dN_lt [b0, b1, b2, b3, b4, b5, b6, b7] (by simp; omega)
  have e : 256 ^ [b0, b1, b2, b3, b4, b5, b6, b7].length = 18446744073709551616 := by simp
  rwa [e] at h
theorem st1 : (dN [b0, b1, b2, b3, b4, b5, b6, b7] / 256 &&& 71777214294589695) ||| ((dN [b0, b1, b2, b3, b4, b5, b6, b7] &&& 71777214294589695) * 256 % 18446744073709551616) = dN [b1, b0, b3, b2, b5, b4, b7, b6] := by
  have m : (71777214294589695 : Nat) = dN [255, 0, 255, 0, 255, 0, 255, 0] := by decide
  have s : dN [b0, b1, b2, b3, b4, b5, b6, b7] / 256 = dN [b1, b2, b3, b4, b5, b6, b7, 0] := by simp only [dN]; omega
  rw [m, s, and8 [b1, b2, b3, b4, b5, b6, b7, 0] [255, 0, 255, 0, 255, 0, 255, 0] (by simp; omega) (by simp) rfl, and8 [b0, b1, b2, b3, b4, b5, b6, b7] [255, 0, 255, 0, 255, 0, 255, 0] (by simp; omega) (by simp) rfl]
  simp only [List.zipWith_cons_cons, List.zipWith_nil_left, and_ff, h0, h1, h2, h3, h4, h5, h6, h7, Nat.and_zero, Nat.zero_and]
  have t : dN [b0, 0, b2, 0, b4, 0, b6, 0] * 256 % 18446744073709551616 = dN [0, b0, 0, b2, 0, b4, 0, b6] := by simp only [dN]; omega
  rw [t, or8 [b1, 0, b3, 0, b5, 0, b7, 0] [0, b0, 0, b2, 0, b4, 0, b6] (by simp; omega) (by simp; omega) rfl]
  simp only [List.zipWith_cons_cons, List.zipWith_nil_left, Nat.or_zero, Nat.zero_or]
theorem st2 : (dN [b0, b1, b2, b3, b4, b5, b6, b7] / 65536 &&& 281470681808895) ||| ((dN [b0, b1, b2, b3, b4, b5, b6, b7] &&& 281470681808895) * 65536 % 18446744073709551616) = dN [b2, b3, b0, b1, b6, b7, b4, b5] := by
  have m : (281470681808895 : Nat) = dN [255, 255, 0, 0, 255, 255, 0, 0] := by decide
  have s : dN [b0, b1, b2, b3, b4, b5, b6, b7] / 65536 = dN [b2, b3, b4, b5, b6, b7, 0, 0] := by simp only [dN]; omega
  rw [m, s, and8 [b2, b3, b4, b5, b6, b7, 0, 0] [255, 255, 0, 0, 255, 255, 0, 0] (by simp; omega) (by simp) rfl, and8 [b0, b1, b2, b3, b4, b5, b6, b7] [255, 255, 0, 0, 255, 255, 0, 0] (by simp; omega) (by simp) rfl]
  simp only [List.zipWith_cons_cons, List.zipWith_nil_left, and_ff, h0, h1, h2, h3, h4, h5, h6, h7, Nat.and_zero, Nat.zero_and]
  have t : dN [b0, b1, 0, 0, b4, b5, 0, 0] * 65536 % 18446744073709551616 = dN [0, 0, b0, b1, 0, 0, b4, b5] := by simp only [dN]; omega
  rw [t, or8 [b2, b3, 0, 0, b6, b7, 0, 0] [0, 0, b0, b1, 0, 0, b4, b5] (by simp; omega) (by simp; omega) rfl]
  simp only [List.zipWith_cons_cons, List.zipWith_nil_left, Nat.or_zero, Nat.zero_or]
theorem st3 : (dN [b0, b1, b2, b3, b4, b5, b6, b7] / 4294967296) ||| (dN [b0, b1, b2, b3, b4, b5, b6, b7] * 4294967296 % 18446744073709551616) = dN [b4, b5, b6, b7, b0, b1, b2, b3] := by
  have s : dN [b0, b1, b2, b3, b4, b5, b6, b7] / 4294967296 = dN [b4, b5, b6, b7, 0, 0, 0, 0] := by simp only [dN]; omega
  have t : dN [b0, b1, b2, b3, b4, b5, b6, b7] * 4294967296 % 18446744073709551616 = dN [0, 0, 0, 0, b0, b1, b2, b3] := by simp only [dN]; omega
  rw [s, t, or8 [b4, b5, b6, b7, 0, 0, 0, 0] [0, 0, 0, 0, b0, b1, b2, b3] (by simp; omega) (by simp; omega) rfl]
  simp only [List.zipWith_cons_cons, List.zipWith_nil_left, Nat.or_zero, Nat.zero_or]
theorem rev8_dN : rev8 (dN [b0, b1, b2, b3, b4, b5, b6, b7]) = dN [b7, b6, b5, b4, b3, b2, b1, b0] := by
  have e : ∀ b n, b < 256 → (b + 256 * n) % 256 = b := fun b n h => by omega
  have e' : ∀ b n, b < 256 → (b + 256 * n) / 256 = n := fun b n h => by omega
  have : leN 8 (dN [b0, b1, b2, b3, b4, b5, b6, b7]) = [UInt8.ofNat b0, UInt8.ofNat b1, UInt8.ofNat b2, UInt8.ofNat b3, UInt8.ofNat b4, UInt8.ofNat b5, UInt8.ofNat b6, UInt8.ofNat b7] := by
    simp only [leN, dN]
    rw [e' b0 _ h0, e' b1 _ h1, e' b2 _ h2, e' b3 _ h3, e' b4 _ h4, e' b5 _ h5, e' b6 _ h6]
    rw [e b0 _ h0, e b1 _ h1, e b2 _ h2, e b3 _ h3, e b4 _ h4, e b5 _ h5, e b6 _ h6, e b7 _ h7]
  unfold rev8
  rw [this]
  simp only [List.reverse_cons, List.reverse_nil, List.nil_append, List.cons_append, wordV, dN, toNat_ofNat_lt h0, toNat_ofNat_lt h1, toNat_ofNat_lt h2, toNat_ofNat_lt h3, toNat_ofNat_lt h4, toNat_ofNat_lt h5, toNat_ofNat_lt h6, toNat_ofNat_lt h7]
end

theorem digits8 (u : Nat) (h : u < 18446744073709551616) : ∃ b0 b1 b2 b3 b4 b5 b6 b7, b0 < 256 ∧ b1 < 256 ∧ b2 < 256 ∧ b3 < 256 ∧ b4 < 256 ∧ b5 < 256 ∧ b6 < 256 ∧ b7 < 256 ∧ u = dN [b0, b1, b2, b3, b4, b5, b6, b7] :=
  ⟨u % 256, u / 256 % 256, u / 65536 % 256, u / 16777216 % 256, u / 4294967296 % 256, u / 1099511627776 % 256, u / 281474976710656 % 256, u / 72057594037927936 % 256, by omega, by omega, by omega, by omega, by omega, by omega, by omega, by omega, by simp only [dN]; omega⟩

/-- What the walk comes to. -/
def revE1 (u : Int) : Int := bits .or .u64 (bits .and .u64 (u / 256) 71777214294589695) (IntKind.u64.wrap (bits .and .u64 u 71777214294589695 * 256))
def revE2 (x : Int) : Int := bits .or .u64 (bits .and .u64 (x / 65536) 281470681808895) (IntKind.u64.wrap (bits .and .u64 x 281470681808895 * 65536))
def revE3 (x : Int) : Int := bits .or .u64 (x / 4294967296) (IntKind.u64.wrap (x * 4294967296))
theorem half (op : Nat → Nat → Nat) (x s m : Nat) (hx : x < 18446744073709551616) (hs : 0 < s) (hs2 : s ≤ 4294967296) (hm : m < 18446744073709551616) :
    bits .or .u64 (bits .and .u64 ((x : Int) / (s : Nat)) (m : Nat)) (IntKind.u64.wrap (bits .and .u64 (x : Int) (m : Nat) * (s : Nat))) = (((x / s &&& m) ||| ((x &&& m) * s % 18446744073709551616) : Nat) : Int) := by
  have hd : x / s ≤ x := Nat.div_le_self _ _
  have e1 : ((x : Int) / (s : Nat)) = ((x / s : Nat) : Int) := by simp
  have hl : x / s &&& m < 2 ^ 64 := Nat.and_lt_two_pow _ (by simpa using hm)
  rw [e1, u64_and_nat _ _ (by omega) hm, u64_and_nat _ _ hx hm, IntKind.wrap_u64]
  have e2 : (((x &&& m : Nat) : Int) * (s : Nat)) % 18446744073709551616 = (((x &&& m) * s % 18446744073709551616 : Nat) : Int) := by simp
  rw [e2, u64_or_nat _ _ (by simpa using hl) (Nat.mod_lt _ (by decide))]
theorem revE_eq (u : Nat) (h : u < 18446744073709551616) : revE3 (revE2 (revE1 (u : Int))) = (rev8 u : Nat) := by
  obtain ⟨b0, b1, b2, b3, b4, b5, b6, b7, h0, h1, h2, h3, h4, h5, h6, h7, rfl⟩ := digits8 u h
  have e1 : revE1 ((dN [b0, b1, b2, b3, b4, b5, b6, b7] : Nat) : Int) = ((dN [b1, b0, b3, b2, b5, b4, b7, b6] : Nat) : Int) := by
    rw [← st1 h0 h1 h2 h3 h4 h5 h6 h7]
    exact half (· ||| ·) _ 256 71777214294589695 h (by decide) (by decide) (by decide)
  have l1 := d8_lt h1 h0 h3 h2 h5 h4 h7 h6
  have e2 : revE2 ((dN [b1, b0, b3, b2, b5, b4, b7, b6] : Nat) : Int) = ((dN [b3, b2, b1, b0, b7, b6, b5, b4] : Nat) : Int) := by
    rw [← st2 h1 h0 h3 h2 h5 h4 h7 h6]
    exact half (· ||| ·) _ 65536 281470681808895 l1 (by decide) (by decide) (by decide)
  have l2 := d8_lt h3 h2 h1 h0 h7 h6 h5 h4
  have e3 : revE3 ((dN [b3, b2, b1, b0, b7, b6, b5, b4] : Nat) : Int) = ((dN [b7, b6, b5, b4, b3, b2, b1, b0] : Nat) : Int) := by
    rw [← st3 h3 h2 h1 h0 h7 h6 h5 h4]
    unfold revE3
    generalize dN [b3, b2, b1, b0, b7, b6, b5, b4] = x at *
    have e1 : ((x : Int) / 4294967296) = ((x / 4294967296 : Nat) : Int) := by simp
    have e2 : ((x : Int) * 4294967296) % 18446744073709551616 = ((x * 4294967296 % 18446744073709551616 : Nat) : Int) := by simp
    rw [IntKind.wrap_u64, e1, e2, u64_or_nat _ _ (by omega) (Nat.mod_lt _ (by decide))]
  rw [e1, e2, e3, rev8_dN h0 h1 h2 h3 h4 h5 h6 h7]

end Go.Proofs.Ytcejjckhhdgdnaa
