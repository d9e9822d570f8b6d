import Derived.Test.YtegclfpmgilnpaaGreatGPrim
import Derived.Test.YtegclfpmgilnpaaGreatProg
import Derived.Test.YtegclfpmgilnpaaGreatGLib
import Derived.WalkKit
import Derived.WalkLawsBesides
import Derived.Lib.Hide
import Derived.Outline
import Derived.Laws.StructEq
import Derived.Laws.BitsAllLaws
import Derived.Deep.MidRow
namespace Go.Proofs.YtegclfpmgilnpaaGreat
open Go.RowKit Go.Lac
def leN : Nat → Nat → List UInt8
  | 0, _ => []
  | n + 1, w => UInt8.ofNat (w % 256) :: leN n (w / 256)
theorem leN_length : ∀ n w, (leN n w).length = n
  | 0, _ => rfl
  | n + 1, w => by rw [leN, List.length_cons, leN_length]
theorem leN_snoc : ∀ n w, leN (n + 1) w = leN n w ++ [UInt8.ofNat (w / 256 ^ n % 256)]
  | 0, w => by simp [leN]
  | n + 1, w => by
    rw [leN, leN_snoc n, leN, List.cons_append, Nat.div_div_eq_div_mul, Nat.pow_succ, Nat.mul_comm 256]
theorem wordV_leN : ∀ n w, w < 256 ^ n → wordV (leN n w) = w
  | 0, w, h => by simp at h; subst h; rfl
  | n + 1, w, h => by
    rw [leN, wordV, wordV_leN n (w / 256) (by rw [Nat.div_lt_iff_lt_mul (by decide)]; rwa [Nat.pow_succ] at h), toNat_ofNat_lt (Nat.mod_lt _ (by decide))]
    omega
theorem leN_wordV : ∀ l : List UInt8, leN l.length (wordV l) = l
  | [] => rfl
  | b :: l => by
    have hb := UInt8.toNat_lt b
    have e1 : (b.toNat + 256 * wordV l) % 256 = b.toNat := by omega
    have e2 : (b.toNat + 256 * wordV l) / 256 = wordV l := by omega
    rw [wordV, List.length_cons, leN, e1, e2, leN_wordV l, UInt8.ofNat_toNat]
def rev8 (w : Nat) : Nat := wordV (leN 8 w).reverse
theorem wordV_lt8 {l : List UInt8} (h : l.length ≤ 8) : wordV l < 18446744073709551616 := by
  have h1 := wordV_lt l
  have h2 : 256 ^ l.length ≤ 256 ^ 8 := Nat.pow_le_pow_right (by decide) h
  exact Nat.lt_of_lt_of_le h1 h2
theorem rev8_lt (w : Nat) : rev8 w < 18446744073709551616 := wordV_lt8 (by rw [List.length_reverse, leN_length]; exact Nat.le_refl _)
theorem rev8_rev8 {w : Nat} (h : w < 18446744073709551616) : rev8 (rev8 w) = w := by
  unfold rev8
  have e : leN 8 (wordV (leN 8 w).reverse) = (leN 8 w).reverse := by
    have := leN_wordV (leN 8 w).reverse
    rwa [List.length_reverse, leN_length] at this
  rw [e, List.reverse_reverse, wordV_leN 8 w h]
theorem rev8_zero : rev8 0 = 0 := by decide
def flt (ver w : Nat) : List UInt8 := if ver = 1 then leN 8 w else sev (rev8 w)
def fltR (ver : Nat) (s : RS) : Nat × RS := if ver = 1 then wordR s else (rev8 (uintR 18446744073709551615 s).1, (uintR 18446744073709551615 s).2)
theorem wordR_le (w : Nat) (rest : List UInt8) (h : w < 18446744073709551616) : wordR (leN 8 w ++ rest, 0) = (w, (rest, 0)) := by
  have := takeR_app (leN 8 w) rest 0
  rw [leN_length] at this
  unfold wordR
  rw [this, wordV_leN 8 w h]
theorem wordR_lt (s : RS) : (wordR s).1 < 18446744073709551616 := wordV_lt8 (takeR_length 8 s)
theorem wordR_inv (s : RS) (h : (wordR s).2.2 = 0) : s.1 = leN 8 (wordR s).1 ++ (wordR s).2.1 ∧ s.2 = 0 := by
  obtain ⟨h1, h2, h3⟩ := takeR_inv 8 s h
  refine ⟨?_, h3⟩
  have e := leN_wordV (takeR 8 s).1
  rw [h2] at e
  unfold wordR
  rw [e]
  exact h1
theorem takeR_short {n : Nat} {l : List UInt8} (h : l.length < n) : takeR n (l, 0) = ([], ([], 1)) := by
  unfold takeR
  rw [if_pos h]
  rfl
theorem takeR_gone {n : Nat} (h : 0 < n) : takeR n ([], 1) = ([], ([], 1)) := by
  unfold takeR
  simp [h, failR]
theorem uintR_gone (m : Nat) : uintR m ([], 1) = (0, ([], 1)) := by
  unfold uintR num numAt
  simp [failR]
theorem wordR_short {l : List UInt8} (h : l.length < 8) : wordR (l, 0) = (0, ([], 1)) := by unfold wordR; rw [takeR_short h]; rfl
theorem wordR_gone : wordR ([], 1) = (0, ([], 1)) := by unfold wordR; rw [takeR_gone (by decide)]; rfl
theorem byteR_cons (b : UInt8) (l : List UInt8) (e : Int) : byteR (b :: l, e) = (b.toNat, (l, e)) := by
  unfold byteR takeR
  simp
theorem byteR_nil : byteR ([], 0) = (0, ([], 1)) := by unfold byteR; rw [takeR_short (by decide)]
theorem byteR_inv (s : RS) (h : (byteR s).2.2 = 0) : s.1 = UInt8.ofNat (byteR s).1 :: (byteR s).2.1 ∧ s.2 = 0 ∧ (byteR s).1 < 256 := by
  obtain ⟨l, e⟩ := s
  cases l with
  | nil =>
    have : (byteR ([], e)).2.2 = (failR ([], e) 1).2 := by unfold byteR takeR; simp
    rw [this] at h
    exact absurd h (failR_ne _ _ (by decide))
  | cons b l =>
    rw [byteR_cons] at h ⊢
    exact ⟨by simp, h, UInt8.toNat_lt b⟩
theorem fltR_flt (ver w : Nat) (rest : List UInt8) (h : w < 18446744073709551616) : fltR ver (flt ver w ++ rest, 0) = (w, (rest, 0)) := by
  unfold fltR flt
  split
  · exact wordR_le w rest h
  · have := rev8_lt w
    rw [uintR_sev _ _ _ this, if_pos (by omega), rev8_rev8 h]
theorem fltR_lt (ver : Nat) (s : RS) : (fltR ver s).1 < 18446744073709551616 := by
  unfold fltR
  split
  · exact wordR_lt s
  · exact rev8_lt _
theorem fltR_inv (ver : Nat) (s : RS) (h : (fltR ver s).2.2 = 0) : s.1 = flt ver (fltR ver s).1 ++ (fltR ver s).2.1 ∧ s.2 = 0 := by
  unfold fltR at h ⊢
  unfold flt
  split
  · rename_i h1
    rw [if_pos h1] at h
    exact wordR_inv s h
  · rename_i h1
    rw [if_neg h1] at h
    obtain ⟨h2, h3⟩ := uintR_inv _ s h
    rw [rev8_rev8 (uintR_lt _ s)]
    exact ⟨h2, h3⟩
theorem fltR_cut (ver w k : Nat) (h : w < 18446744073709551616) (hk : k < (flt ver w).length) : fltR ver ((flt ver w).take k, 0) = (0, ([], 1)) := by
  unfold fltR flt at *
  split
  · rename_i h1
    rw [if_pos h1, leN_length] at hk
    exact wordR_short (by rw [List.length_take, leN_length]; omega)
  · rename_i h1
    rw [if_neg h1] at hk
    rw [uintR_cut _ _ _ (rev8_lt w) hk, rev8_zero]
theorem fltR_gone (ver : Nat) : fltR ver ([], 1) = (0, ([], 1)) := by
  unfold fltR
  split
  · exact wordR_gone
  · rw [uintR_gone, rev8_zero]
structure Val where
  ty : Nat
  i : Int
  re : Nat
  im : Nat
  t : List UInt8
deriving DecidableEq
def Val.zero : Val := ⟨0, 0, 0, 0, []⟩
def Val.ok (v : Val) : Prop := v.ty < 256 ∧ -9223372036854775808 ≤ v.i ∧ v.i ≤ 9223372036854775807 ∧ v.re < 18446744073709551616 ∧ v.im < 18446744073709551616
def plainB (t : List UInt8) : Bool := t.all fun b => decide (32 ≤ b.toNat) && decide (b.toNat ≤ 126)
def vErr (v : Val) : Nat :=
  if v.ty < 1 ∨ 6 < v.ty then 11
  else if (2 < v.ty ∧ v.i ≠ 0) ∨ (v.ty ≠ 3 ∧ v.ty ≠ 4 ∧ v.re ≠ 0) ∨ (v.ty ≠ 4 ∧ v.im ≠ 0) ∨ (v.ty < 5 ∧ v.t ≠ []) then 3
  else if v.ty = 1 ∧ v.i ≠ 0 ∧ v.i ≠ 1 then 4
  else if 2048 < v.t.length then 2
  else if v.ty = 5 ∧ plainB v.t = false then 3
  else 0
theorem vErr_zero {v : Val} (h : vErr v = 0) : 1 ≤ v.ty ∧ v.ty ≤ 6 ∧ (2 < v.ty → v.i = 0) ∧ (v.ty ≠ 3 → v.ty ≠ 4 → v.re = 0) ∧ (v.ty ≠ 4 → v.im = 0) ∧ (v.ty < 5 → v.t = []) ∧ (v.ty = 1 → v.i = 0 ∨ v.i = 1) ∧ v.t.length ≤ 2048 ∧ (v.ty = 5 → plainB v.t = true) := by
  unfold vErr at h
  by_cases h1 : v.ty < 1 ∨ 6 < v.ty
  · rw [if_pos h1] at h; cases h
  rw [if_neg h1] at h
  by_cases h2 : (2 < v.ty ∧ v.i ≠ 0) ∨ (v.ty ≠ 3 ∧ v.ty ≠ 4 ∧ v.re ≠ 0) ∨ (v.ty ≠ 4 ∧ v.im ≠ 0) ∨ (v.ty < 5 ∧ v.t ≠ [])
  · rw [if_pos h2] at h; cases h
  rw [if_neg h2] at h
  by_cases h3 : v.ty = 1 ∧ v.i ≠ 0 ∧ v.i ≠ 1
  · rw [if_pos h3] at h; cases h
  rw [if_neg h3] at h
  by_cases h4 : 2048 < v.t.length
  · rw [if_pos h4] at h; cases h
  rw [if_neg h4] at h
  by_cases h5 : v.ty = 5 ∧ plainB v.t = false
  · rw [if_pos h5] at h; cases h
  refine ⟨by omega, by omega, fun a => ?_, fun a b => ?_, fun a => ?_, fun a => ?_, fun a => ?_, by omega, fun a => ?_⟩
  · exact Decidable.byContradiction fun c => h2 (.inl ⟨a, c⟩)
  · exact Decidable.byContradiction fun c => h2 (.inr (.inl ⟨a, b, c⟩))
  · exact Decidable.byContradiction fun c => h2 (.inr (.inr (.inl ⟨a, c⟩)))
  · exact Decidable.byContradiction fun c => h2 (.inr (.inr (.inr ⟨a, c⟩)))
  · exact Decidable.byContradiction fun c => h3 ⟨a, fun d => c (.inl d), fun d => c (.inr d)⟩
  · exact Decidable.byContradiction fun c => h5 ⟨a, by simpa using c⟩
def i64u (i : Int) : Nat := (i % 18446744073709551616).toNat
def u64i (u : Nat) : Int := if u < 9223372036854775808 then (u : Int) else (u : Int) - 18446744073709551616
theorem i64u_lt (i : Int) : i64u i < 18446744073709551616 := by unfold i64u; omega
theorem u64i_i64u {i : Int} (h0 : -9223372036854775808 ≤ i) (h1 : i ≤ 9223372036854775807) : u64i (i64u i) = i := by unfold u64i i64u; split <;> omega
theorem i64u_u64i {u : Nat} (h : u < 18446744073709551616) : i64u (u64i u) = u := by unfold u64i i64u; split <;> omega
theorem u64i_bd {u : Nat} (h : u < 18446744073709551616) : -9223372036854775808 ≤ u64i u ∧ u64i u ≤ 9223372036854775807 := by unfold u64i; split <;> omega
def partB (w : Nat) : List UInt8 := if w = 0 then [] else flt 2 w
def cplxM (re im : Nat) : Nat := (if re = 0 then 0 else 1) + (if im = 0 then 0 else 2)
def cplx (re im : Nat) : List UInt8 := UInt8.ofNat (cplxM re im) :: (partB re ++ partB im)
def vBytes (ver : Nat) (v : Val) : List UInt8 :=
  if v.ty = 1 then [UInt8.ofNat v.i.toNat]
  else if v.ty = 2 then (if ver = 1 then leN 8 (i64u v.i) else sev (Lib.zigzag v.i))
  else if v.ty = 3 then flt ver v.re
  else if v.ty = 4 then (if ver = 1 then leN 8 v.re ++ leN 8 v.im else cplx v.re v.im)
  else txt v.t
def partR (there : Bool) (s : RS) : Nat × RS :=
  if there = true then ((fltR 2 s).1, if (fltR 2 s).1 = 0 then failR (fltR 2 s).2 3 else (fltR 2 s).2) else (0, s)
def cplxR (s : RS) : (Nat × Nat) × RS :=
  let m := byteR s
  let s1 := if 3 < m.1 then failR m.2 4 else m.2
  let r := partR (decide (m.1 % 2 = 1)) s1
  let q := partR (decide (m.1 / 2 % 2 = 1)) r.2
  ((r.1, q.1), q.2)
def rawR (ver k : Nat) (s : RS) : Val × RS :=
  if k = 1 then (⟨k, ((byteR s).1 : Int), 0, 0, []⟩, (byteR s).2)
  else if k = 2 then (if ver = 1 then (⟨k, u64i (wordR s).1, 0, 0, []⟩, (wordR s).2) else (⟨k, (intR s).1, 0, 0, []⟩, (intR s).2))
  else if k = 3 then (⟨k, 0, (fltR ver s).1, 0, []⟩, (fltR ver s).2)
  else if k = 4 then (if ver = 1 then (⟨k, 0, (wordR s).1, (wordR (wordR s).2).1, []⟩, (wordR (wordR s).2).2) else (⟨k, 0, (cplxR s).1.1, (cplxR s).1.2, []⟩, (cplxR s).2))
  else if k = 5 ∨ k = 6 then (⟨k, 0, 0, 0, (textR 2048 s).1⟩, (textR 2048 s).2)
  else (⟨k, 0, 0, 0, []⟩, s)
def vTake (ver k : Nat) (s : RS) : Val × RS :=
  if ver ≠ 1 ∧ ver ≠ 2 then (.zero, failR s 18)
  else if (failR (rawR ver k s).2 (vErr (rawR ver k s).1 : Nat)).2 ≠ 0 then (.zero, failR (rawR ver k s).2 (vErr (rawR ver k s).1 : Nat))
  else ((rawR ver k s).1, failR (rawR ver k s).2 (vErr (rawR ver k s).1 : Nat))
theorem partR_put (w : Nat) (rest : List UInt8) (h : w < 18446744073709551616) : partR (decide (w ≠ 0)) (partB w ++ rest, 0) = (w, (rest, 0)) := by
  unfold partR partB
  by_cases h0 : w = 0
  · simp [h0]
  · rw [if_pos (by simpa using h0), if_neg h0, fltR_flt 2 w rest h, if_neg h0]
theorem cplxM_lt (re im : Nat) : cplxM re im ≤ 3 := by unfold cplxM; split <;> split <;> omega
theorem cplxM_re (re im : Nat) : decide (cplxM re im % 2 = 1) = decide (re ≠ 0) := by unfold cplxM; split <;> split <;> simp_all
theorem cplxM_im (re im : Nat) : decide (cplxM re im / 2 % 2 = 1) = decide (im ≠ 0) := by unfold cplxM; split <;> split <;> simp_all
theorem cplxR_put (re im : Nat) (rest : List UInt8) (h : re < 18446744073709551616) (h' : im < 18446744073709551616) : cplxR (cplx re im ++ rest, 0) = ((re, im), (rest, 0)) := by
  unfold cplxR cplx
  have hm := cplxM_lt re im
  rw [List.cons_append, byteR_cons, toNat_ofNat_lt (by omega), List.append_assoc]
  simp only
  rw [if_neg (by omega), cplxM_re, cplxM_im, partR_put re _ h]
  simp only
  rw [partR_put im _ h']
theorem rawR_put {ver : Nat} {v : Val} (rest : List UInt8) (hv : v.ok) (h : vErr v = 0) : rawR ver v.ty (vBytes ver v ++ rest, 0) = (v, (rest, 0)) := by
  obtain ⟨e1, e2, e3, e4, e5, e6, e7, e8, e9⟩ := vErr_zero h
  obtain ⟨o1, o2, o3, o4, o5⟩ := hv
  obtain ⟨k, i, re, im, t⟩ := v
  simp only at *
  unfold rawR vBytes
  simp only
  by_cases k1 : k = 1
  · rw [if_pos k1, if_pos k1]
    have r0 := e4 (by omega) (by omega); have r1 := e5 (by omega); have r2 := e6 (by omega)
    subst r0 r1 r2
    rcases e7 k1 with rfl | rfl
    · rw [List.singleton_append, byteR_cons]; rfl
    · rw [List.singleton_append, byteR_cons]; rfl
  rw [if_neg k1, if_neg k1]
  by_cases k2 : k = 2
  · rw [if_pos k2, if_pos k2]
    have r0 := e4 (by omega) (by omega); have r1 := e5 (by omega); have r2 := e6 (by omega)
    subst r0 r1 r2
    split
    · rw [wordR_le _ _ (i64u_lt i), u64i_i64u o2 o3]
    · rw [intR_sev i rest o2 o3]
  rw [if_neg k2, if_neg k2]
  have r3 := e3 (by omega)
  subst r3
  by_cases k3 : k = 3
  · rw [if_pos k3, if_pos k3]
    have r1 := e5 (by omega); have r2 := e6 (by omega)
    subst r1 r2
    rw [fltR_flt ver re rest o4]
  rw [if_neg k3, if_neg k3]
  by_cases k4 : k = 4
  · rw [if_pos k4, if_pos k4]
    have r2 := e6 (by omega)
    subst r2
    split
    · rw [List.append_assoc, wordR_le _ _ o4]
      simp only
      rw [wordR_le _ _ o5]
    · rw [cplxR_put re im rest o4 o5]
  rw [if_neg k4, if_neg k4, if_pos (by omega)]
  have r0 := e4 k3 k4; have r1 := e5 k4
  subst r0 r1
  rw [textR_txt 2048 t rest (by omega), if_pos e8]
theorem vTake_put {ver : Nat} {v : Val} (rest : List UInt8) (hver : ver = 1 ∨ ver = 2) (hv : v.ok) (h : vErr v = 0) : vTake ver v.ty (vBytes ver v ++ rest, 0) = (v, (rest, 0)) := by
  have hf : failR (rest, 0) ((0 : Nat) : Int) = (rest, 0) := by unfold failR; simp
  unfold vTake
  rw [if_neg (by omega), rawR_put rest hv h]
  simp only
  rw [h, hf, if_neg (by simp)]
theorem partR_err (th : Bool) (s : RS) (h : s.2 ≠ 0) : (partR th s).2.2 ≠ 0 := by
  unfold partR
  split
  · have h1 : (fltR 2 s).2.2 ≠ 0 := by unfold fltR; rw [if_neg (by decide)]; exact uintR_err _ s h
    split
    · rw [failR_err _ _ h1]; exact h1
    · exact h1
  · exact h
theorem partR_inv (th : Bool) (s : RS) (h : (partR th s).2.2 = 0) : s.1 = partB (partR th s).1 ++ (partR th s).2.1 ∧ s.2 = 0 ∧ decide ((partR th s).1 ≠ 0) = th ∧ (partR th s).1 < 18446744073709551616 := by
  unfold partR at h ⊢
  by_cases ht : th = true
  · rw [if_pos ht] at h ⊢
    simp only at h ⊢
    by_cases h0 : (fltR 2 s).1 = 0
    · rw [if_pos h0] at h
      exact absurd h (failR_ne _ _ (by decide))
    · rw [if_neg h0] at h ⊢
      obtain ⟨h1, h2⟩ := fltR_inv 2 s h
      unfold partB
      rw [if_neg h0]
      exact ⟨h1, h2, by rw [ht]; simpa using h0, fltR_lt 2 s⟩
  · rw [if_neg ht] at h ⊢
    exact ⟨rfl, h, by simp at ht; rw [ht]; rfl, Nat.zero_lt_succ _⟩
theorem cplxR_inv (s : RS) (h : (cplxR s).2.2 = 0) : s.1 = cplx (cplxR s).1.1 (cplxR s).1.2 ++ (cplxR s).2.1 ∧ s.2 = 0 ∧ (cplxR s).1.1 < 18446744073709551616 ∧ (cplxR s).1.2 < 18446744073709551616 := by
  unfold cplxR at h ⊢
  simp only at h ⊢
  by_cases hm : 3 < (byteR s).1
  · rw [if_pos hm] at h
    have h1 : (failR (byteR s).2 4).2 ≠ 0 := failR_ne _ _ (by decide)
    exact absurd h (partR_err _ _ (partR_err _ _ h1))
  · rw [if_neg hm] at h ⊢
    obtain ⟨q1, q2, q3, q4⟩ := partR_inv _ _ h
    obtain ⟨p1, p2, p3, p4⟩ := partR_inv _ _ q2
    obtain ⟨b1, b2, b3⟩ := byteR_inv s p2
    refine ⟨?_, b2, p4, q4⟩
    generalize hre : (partR (decide ((byteR s).1 % 2 = 1)) (byteR s).2) = r at *
    generalize hr2 : (partR (decide ((byteR s).1 / 2 % 2 = 1)) r.2) = q at *
    generalize (byteR s).1 = m at *
    have hmm : cplxM r.1 q.1 = m := by
      unfold cplxM
      by_cases c1 : r.1 = 0
      · have d1 : ¬ m % 2 = 1 := by simpa [c1] using p3
        by_cases c2 : q.1 = 0
        · have d2 : ¬ m / 2 % 2 = 1 := by simpa [c2] using q3
          rw [if_pos c1, if_pos c2]; omega
        · have d2 : m / 2 % 2 = 1 := by simpa [c2] using q3
          rw [if_pos c1, if_neg c2]; omega
      · have d1 : m % 2 = 1 := by simpa [c1] using p3
        by_cases c2 : q.1 = 0
        · have d2 : ¬ m / 2 % 2 = 1 := by simpa [c2] using q3
          rw [if_neg c1, if_pos c2]; omega
        · have d2 : m / 2 % 2 = 1 := by simpa [c2] using q3
          rw [if_neg c1, if_neg c2]; omega
    unfold cplx
    rw [hmm, b1, p1, q1, List.cons_append, List.append_assoc]
theorem intR_inv (s : RS) (h : (intR s).2.2 = 0) : s.1 = sev (Lib.zigzag (intR s).1) ++ (intR s).2.1 ∧ s.2 = 0 ∧ -9223372036854775808 ≤ (intR s).1 ∧ (intR s).1 ≤ 9223372036854775807 := by
  obtain ⟨h1, h2⟩ := uintR_inv _ s h
  have hb := uintR_lt 18446744073709551615 s
  unfold intR
  simp only
  rw [zig_zag]
  refine ⟨h1, h2, ?_⟩
  unfold zag
  split <;> omega
theorem rawR_inv {ver k : Nat} {s : RS} (hk : k < 256) (h : (rawR ver k s).2.2 = 0) (he : vErr (rawR ver k s).1 = 0) :
    s.1 = vBytes ver (rawR ver k s).1 ++ (rawR ver k s).2.1 ∧ s.2 = 0 ∧ (rawR ver k s).1.ty = k ∧ (rawR ver k s).1.ok := by
  unfold rawR at h he ⊢
  by_cases k1 : k = 1
  · simp only [if_pos k1] at h he ⊢
    obtain ⟨b1, b2, b3⟩ := byteR_inv s h
    refine ⟨?_, b2, by trivial, by unfold Val.ok; simp only; omega⟩
    unfold vBytes
    simp only [if_pos k1]
    rw [Int.toNat_natCast, List.singleton_append]
    exact b1
  simp only [if_neg k1] at h he ⊢
  by_cases k2 : k = 2
  · simp only [if_pos k2] at h he ⊢
    by_cases hv : ver = 1
    · simp only [if_pos hv] at h he ⊢
      obtain ⟨b1, b2⟩ := wordR_inv s h
      have hl := wordR_lt s
      have hb := u64i_bd hl
      refine ⟨?_, b2, by trivial, by unfold Val.ok; simp only; omega⟩
      unfold vBytes
      simp only [if_neg k1, if_pos k2, if_pos hv]
      rw [i64u_u64i hl]
      exact b1
    · simp only [if_neg hv] at h he ⊢
      obtain ⟨b1, b2, b3, b4⟩ := intR_inv s h
      refine ⟨?_, b2, by trivial, by unfold Val.ok; simp only; omega⟩
      unfold vBytes
      simp only [if_neg k1, if_pos k2, if_neg hv]
      exact b1
  simp only [if_neg k2] at h he ⊢
  by_cases k3 : k = 3
  · simp only [if_pos k3] at h he ⊢
    obtain ⟨b1, b2⟩ := fltR_inv ver s h
    have hl := fltR_lt ver s
    refine ⟨?_, b2, by trivial, by unfold Val.ok; simp only; omega⟩
    unfold vBytes
    simp only [if_neg k1, if_neg k2, if_pos k3]
    exact b1
  simp only [if_neg k3] at h he ⊢
  by_cases k4 : k = 4
  · simp only [if_pos k4] at h he ⊢
    by_cases hv : ver = 1
    · simp only [if_pos hv] at h he ⊢
      obtain ⟨c1, c2⟩ := wordR_inv _ h
      obtain ⟨b1, b2⟩ := wordR_inv s c2
      have hl := wordR_lt s
      have hl' := wordR_lt (wordR s).2
      refine ⟨?_, b2, by trivial, by unfold Val.ok; simp only; omega⟩
      unfold vBytes
      simp only [if_neg k1, if_neg k2, if_neg k3, if_pos k4, if_pos hv]
      rw [List.append_assoc, ← c1]
      exact b1
    · simp only [if_neg hv] at h he ⊢
      obtain ⟨b1, b2, b3, b4⟩ := cplxR_inv s h
      refine ⟨?_, b2, by trivial, by unfold Val.ok; simp only; omega⟩
      unfold vBytes
      simp only [if_neg k1, if_neg k2, if_neg k3, if_pos k4, if_neg hv]
      exact b1
  simp only [if_neg k4] at h he ⊢
  by_cases k5 : k = 5 ∨ k = 6
  · simp only [if_pos k5] at h he ⊢
    obtain ⟨b1, b2⟩ := textR_inv 2048 s h
    refine ⟨?_, b2, by trivial, by unfold Val.ok; simp only; omega⟩
    unfold vBytes
    simp only [if_neg k1, if_neg k2, if_neg k3, if_neg k4]
    exact b1
  · simp only [if_neg k5] at he
    have := vErr_zero he
    simp only at this
    omega
theorem vTake_inv {ver k : Nat} {s : RS} (hk : k < 256) (h : (vTake ver k s).2.2 = 0) :
    (ver = 1 ∨ ver = 2) ∧ s.1 = vBytes ver (vTake ver k s).1 ++ (vTake ver k s).2.1 ∧ s.2 = 0 ∧ (vTake ver k s).1.ty = k ∧ (vTake ver k s).1.ok ∧ vErr (vTake ver k s).1 = 0 := by
  unfold vTake at h ⊢
  by_cases hv : ver ≠ 1 ∧ ver ≠ 2
  · rw [if_pos hv] at h
    exact absurd h (failR_ne _ _ (by decide))
  rw [if_neg hv] at h ⊢
  by_cases hb : (failR (rawR ver k s).2 (vErr (rawR ver k s).1 : Nat)).2 ≠ 0
  · rw [if_pos hb] at h
    exact absurd h hb
  rw [if_neg hb]
  have he : vErr (rawR ver k s).1 = 0 := by
    refine Decidable.byContradiction fun c => hb (failR_ne _ _ (by omega))
  have hf : failR (rawR ver k s).2 ((vErr (rawR ver k s).1 : Nat) : Int) = (rawR ver k s).2 := by rw [he]; unfold failR; simp
  rw [hf] at hb ⊢
  obtain ⟨h1, h2, h3, h4⟩ := rawR_inv hk (Decidable.not_not.1 hb) he
  exact ⟨by omega, h1, h2, h3, h4, he⟩
theorem partR_cut (w k : Nat) (h : w < 18446744073709551616) (hk : k < (partB w).length) : partR (decide (w ≠ 0)) ((partB w).take k, 0) = (0, ([], 1)) := by
  unfold partB at *
  by_cases h0 : w = 0
  · rw [if_pos h0] at hk; exact absurd hk (Nat.not_lt_zero _)
  · rw [if_neg h0] at hk ⊢
    unfold partR
    rw [if_pos (by simpa using h0), fltR_cut 2 w k h hk]
    rfl
theorem partR_gone (th : Bool) : partR th ([], 1) = (0, ([], 1)) := by
  unfold partR
  split
  · rw [fltR_gone]; rfl
  · rfl
theorem cplxR_cut (re im k : Nat) (h : re < 18446744073709551616) (h' : im < 18446744073709551616) (hk : k < (cplx re im).length) : cplxR ((cplx re im).take k, 0) = ((0, 0), ([], 1)) ∨ cplxR ((cplx re im).take k, 0) = ((re, 0), ([], 1)) := by
  have hm := cplxM_lt re im
  unfold cplx at hk ⊢
  unfold cplxR
  cases k with
  | zero =>
    left
    rw [List.take_zero, byteR_nil]
    simp only
    rw [if_neg (by decide), partR_gone]
    simp only
    rw [partR_gone]
  | succ k =>
    rw [List.take_succ_cons, byteR_cons, toNat_ofNat_lt (by omega)]
    simp only
    rw [if_neg (by omega), cplxM_re, cplxM_im]
    rw [List.length_cons, List.length_append] at hk
    by_cases c : k < (partB re).length
    · left
      rw [List.take_append_of_le_length (by omega), partR_cut re k h c]
      simp only
      rw [partR_gone]
    · right
      have e : (partB re ++ partB im).take k = partB re ++ (partB im).take (k - (partB re).length) := by
        rw [List.take_append, List.take_of_length_le (by omega)]
      rw [e, partR_put re _ h]
      simp only
      rw [partR_cut im _ h' (by omega)]
theorem rawR_cut {ver k : Nat} {v : Val} (hv : v.ok) (h : vErr v = 0) (hk : k < (vBytes ver v).length) : (rawR ver v.ty ((vBytes ver v).take k, 0)).2 = ([], 1) := by
  obtain ⟨e1, e2, e3, e4, e5, e6, e7, e8, e9⟩ := vErr_zero h
  obtain ⟨o1, o2, o3, o4, o5⟩ := hv
  obtain ⟨ty, i, re, im, t⟩ := v
  simp only at *
  unfold vBytes at hk ⊢
  unfold rawR
  simp only at hk ⊢
  by_cases k1 : ty = 1
  · simp only [if_pos k1] at hk ⊢
    rw [List.length_singleton] at hk
    obtain rfl : k = 0 := by omega
    rw [List.take_zero, byteR_nil]
  simp only [if_neg k1] at hk ⊢
  by_cases k2 : ty = 2
  · simp only [if_pos k2] at hk ⊢
    by_cases hv : ver = 1
    · simp only [if_pos hv] at hk ⊢
      rw [leN_length] at hk
      rw [wordR_short (by rw [List.length_take, leN_length]; omega)]
    · simp only [if_neg hv] at hk ⊢
      unfold intR
      rw [uintR_cut _ _ _ (zig_lt i o2 o3) hk]
  simp only [if_neg k2] at hk ⊢
  by_cases k3 : ty = 3
  · simp only [if_pos k3] at hk ⊢
    rw [fltR_cut ver re k o4 hk]
  simp only [if_neg k3] at hk ⊢
  by_cases k4 : ty = 4
  · simp only [if_pos k4] at hk ⊢
    by_cases hv : ver = 1
    · simp only [if_pos hv] at hk ⊢
      rw [List.length_append, leN_length, leN_length] at hk
      by_cases c : k < 8
      · rw [List.take_append_of_le_length (by rw [leN_length]; omega), wordR_short (by rw [List.length_take, leN_length]; omega)]
        simp only
        rw [wordR_gone]
      · have e : (leN 8 re ++ leN 8 im).take k = leN 8 re ++ (leN 8 im).take (k - 8) := by
          rw [List.take_append, List.take_of_length_le (by rw [leN_length]; omega), leN_length]
        rw [e, wordR_le _ _ o4]
        simp only
        rw [wordR_short (by rw [List.length_take, leN_length]; omega)]
    · simp only [if_neg hv] at hk ⊢
      rcases cplxR_cut re im k o4 o5 hk with e | e <;> rw [e]
  simp only [if_neg k4] at hk ⊢
  simp only [if_pos (show ty = 5 ∨ ty = 6 by omega)]
  rw [textR_cut 2048 k t (by omega) e8 hk]
theorem vTake_cut {ver k : Nat} {v : Val} (hver : ver = 1 ∨ ver = 2) (hv : v.ok) (h : vErr v = 0) (hk : k < (vBytes ver v).length) : vTake ver v.ty ((vBytes ver v).take k, 0) = (.zero, ([], 1)) := by
  have hr := rawR_cut hv h hk
  unfold vTake
  rw [if_neg (by omega), hr, failR_err _ _ (by decide), if_pos (by decide)]
end Go.Proofs.YtegclfpmgilnpaaGreat
namespace Go.Proofs.YtegclfpmgilnpaaGreat
open Go.RowKit Go.Lac
def pvals (v : Val) : Array Value := #[.int .u8 (v.ty : Nat), .int .i64 v.i, .complex .f64 v.re v.im, strV v.t]
def pv (v : Val) : Value := .agg (pvals v)
def rvals (v : Val) : Array Value := #[.int .u8 (v.ty : Nat), .int .i64 v.i, .int .u64 (v.re : Nat), .int .u64 (v.im : Nat), strV v.t]
def rv (v : Val) : Value := .agg (rvals v)
theorem run_bits (b : Nat) (w : World) : (callFunc 115 #[.float .f64 b]).run Tryz.prog w = .ok (.value (.int .u64 (b : Nat))) w :=
  run_callFunc_extern Tryz.func115 (by kernel_rfl) (by kernel_rfl) (by kernel_rfl) (e := Extern.MathFloatBits.float64bits) (by kernel_rfl) _ w
theorem run_frombits (b : Nat) (w : World) : (callFunc 116 #[.int .u64 (b : Nat)]).run Tryz.prog w = .ok (.value (.float .f64 b)) w :=
  run_callFunc_extern Tryz.func116 (by kernel_rfl) (by kernel_rfl) (by kernel_rfl) (e := Extern.MathFloatBits.float64frombits) (by kernel_rfl) _ w
set_option maxRecDepth 20000 in
set_option maxHeartbeats 400000 in
theorem bits_any (re im : Nat) (w : World) :
    Calls Tryz.prog 88 #[.complex .f64 re im] w fun e w' => e = .returned (.tuple #[.int .u64 (re : Nat), .int .u64 (im : Nat)]) ∧ w = w' := by
  have h1 := fun b => run_bits b w
  go_enter Tryz.func88, Tryz.ntmps88
  go_wp2
  refine bodyPost_ret (results_tmp2 rfl _ _ _) rfl ?_
  exact ⟨rfl, rfl⟩
set_option maxRecDepth 20000 in
set_option maxHeartbeats 400000 in
theorem of_any (re im : Nat) (w : World) :
    Calls Tryz.prog 90 #[.int .u64 (re : Nat), .int .u64 (im : Nat)] w fun e w' => e = .returned (.complex .f64 re im) ∧ w = w' := by
  have h1 := fun b => run_frombits b w
  go_enter Tryz.func90, Tryz.ntmps90
  go_wp2
  go_ret
  exact ⟨rfl, rfl⟩
set_option maxRecDepth 20000 in
set_option maxHeartbeats 400000 in
theorem isType_any (k : Nat) (w : World) :
    Calls Tryz.prog 96 #[.int .u8 (k : Nat)] w fun e w' => e = .returned (.bool (decide (1 ≤ k ∧ k ≤ 6))) ∧ w = w' := by
  by_cases h1 : k < 1
  · go_enter Tryz.func96, Tryz.ntmps96
    go_wp2
    go_ret
    refine ⟨?_, rfl⟩; simp; omega
  · have e : decide (1 ≤ k ∧ k ≤ 6) = decide ((k : Int) ≤ 6) := by rw [Bool.eq_iff_iff]; simp; omega
    rw [e]
    clear e
    go_enter Tryz.func96, Tryz.ntmps96
    go_wp2
    go_ret
    exact ⟨rfl, rfl⟩
set_option maxRecDepth 20000 in
set_option maxHeartbeats 400000 in
theorem isVersion_any (k : Nat) (w : World) :
    Calls Tryz.prog 104 #[.int .u8 (k : Nat)] w fun e w' => e = .returned (.bool (decide (k = 1 ∨ k = 2))) ∧ w = w' := by
  by_cases h1 : k = 1
  · subst h1
    go_enter Tryz.func104, Tryz.ntmps104
    go_wp2
    go_ret
    exact ⟨rfl, rfl⟩
  · by_cases h2 : k = 2
    · subst h2
      go_enter Tryz.func104, Tryz.ntmps104
      go_wp2
      go_ret
      exact ⟨rfl, rfl⟩
    · rw [decide_eq_false (show ¬ (k = 1 ∨ k = 2) by omega)]
      have e1 : (((k : Nat) : Int) == 1) = false := by simp; omega
      have e2 : (((k : Nat) : Int) == 2) = false := by simp; omega
      clear h1 h2
      go_enter Tryz.func104, Tryz.ntmps104
      go_wp2
      go_ret
      exact ⟨rfl, rfl⟩
def plainC (b : UInt8) : Bool := decide (32 ≤ b.toNat) && decide (b.toNat ≤ 126)
theorem plainB_all (t : List UInt8) : plainB t = t.all plainC := rfl
theorem plainB_bad {t : List UInt8} {k : Nat} (h : k < t.length) (hb : plainC t[k] = false) : plainB t = false := by
  rw [plainB_all, List.all_eq_false]
  exact ⟨t[k], List.getElem_mem _, by simp [hb]⟩
theorem plainB_next {t : List UInt8} {k : Nat} (h : k < t.length) (hp : (t.take k).all plainC = true) (hb : plainC t[k] = true) : (t.take (k + 1)).all plainC = true := by
  rw [List.take_succ_eq_append_getElem h, List.all_append, hp]
  simp [hb]
theorem run_strAt (t : List UInt8) (k : Nat) (h : k < t.length) (w : World) :
    (Instr.index 9 (.string ⟨t.toArray⟩) (.int .i64 (k : Nat))).run Tryz.prog w = .ok (.int .u8 (t[k].toNat : Nat)) w := by
  have hs : (⟨t.toArray⟩ : ByteArray).size = t.length := by simp [ByteArray.size]
  rw [run_index_string w _ _ _ _ Tryz.underlying9, dif_pos ⟨by omega, by rw [hs]; omega⟩]
  rfl
set_option maxRecDepth 20000 in
set_option maxHeartbeats 800000 in
theorem isText_any (t : List UInt8) (w : World) (hl : t.length ≤ 1099511627776) :
    Calls Tryz.prog 98 #[strV t] w fun e w' => e = .returned (.bool (plainB t)) ∧ w = w' := by
  have hidx : Hid (∀ k (h : k < t.length), (Instr.index 9 (.string ⟨t.toArray⟩) (.int .i64 (k : Nat))).run Tryz.prog w = .ok (.int .u8 (t[k].toNat : Nat)) w) := Lib.hid fun k h => run_strAt t k h w
  have hs : (⟨t.toArray⟩ : ByteArray).size = t.length := by simp [ByteArray.size]
  unfold strV
  generalize (⟨t.toArray⟩ : ByteArray) = A at *
  go_enter Tryz.func98, Tryz.ntmps98
  go_wp2
  go_loop [6] (fun ix => ∃ k : Nat, k ≤ t.length ∧ ix = .int .i64 k ∧ (t.take k).all plainC = true) (fun ix => t.length - (intOf ix).toNat)
  case atStart => exact ⟨0, Nat.zero_le _, rfl, rfl⟩
  case round =>
    obtain ⟨k, hk, rfl, hp⟩ := hrel
    have HP := Lib.hid hp; clear hp
    by_cases hlt : k < t.length
    · have hi := hidx.out k hlt
      have HB : Hid (plainC t[k] = false → plainB t = false) := Lib.hid (plainB_bad hlt)
      have HN : Hid (plainC t[k] = true → (t.take (k + 1)).all plainC = true) := Lib.hid (plainB_next hlt HP.out)
      have HC : Hid (plainC t[k] = (decide (32 ≤ t[k].toNat) && decide (t[k].toNat ≤ 126))) := Lib.hid rfl
      generalize t[k].toNat = c at *
      generalize plainC t[k] = pc at *
      by_cases h1 : c < 32
      · have HF : Hid (plainB t = false) := Lib.hid (HB.out (by rw [HC.out, decide_eq_false (by omega)]; rfl))
        clear HB HN HC
        go_wp2
        go_ret
        exact ⟨by rw [HF.out]; rfl, rfl⟩
      · by_cases h2 : 126 < c
        · have HF : Hid (plainB t = false) := Lib.hid (HB.out (by rw [HC.out, decide_eq_false (show ¬ c ≤ 126 by omega), Bool.and_false]))
          clear HB HN HC
          go_wp2
          go_ret
          exact ⟨by rw [HF.out]; rfl, rfl⟩
        · have HF := Lib.hid (HN.out (by rw [HC.out, decide_eq_true (by omega), decide_eq_true (by omega)]; rfl))
          have h3 : c ≤ 126 := by omega
          clear HB HN HC h2
          go_wp2
          go_round
          case rel => exact ⟨k + 1, by omega, by simp, HF.out⟩
          case measure => simp [intOf]; omega
    · obtain rfl : k = t.length := by omega
      have HF : Hid (plainB t = true) := Lib.hid (by have := HP.out; rwa [List.take_length] at this)
      go_wp2
      go_ret
      exact ⟨by rw [HF.out]; rfl, rfl⟩
set_option maxRecDepth 20000 in
set_option maxHeartbeats 800000 in
theorem plain_any (t : List UInt8) (w : World) (hl : t.length ≤ 1099511627776) :
    Calls Tryz.prog 89 #[strV t] w fun e w' => e = .returned (.bool (plainB t)) ∧ w = w' := by
  have hidx : Hid (∀ k (h : k < t.length), (Instr.index 9 (.string ⟨t.toArray⟩) (.int .i64 (k : Nat))).run Tryz.prog w = .ok (.int .u8 (t[k].toNat : Nat)) w) := Lib.hid fun k h => run_strAt t k h w
  have hs : (⟨t.toArray⟩ : ByteArray).size = t.length := by simp [ByteArray.size]
  unfold strV
  generalize (⟨t.toArray⟩ : ByteArray) = A at *
  go_enter Tryz.func89, Tryz.ntmps89
  go_wp2
  go_loop [3] (fun ix => ∃ k : Nat, k ≤ t.length ∧ ix = .int .i64 k ∧ (t.take k).all plainC = true) (fun ix => t.length - (intOf ix).toNat)
  case atStart => exact ⟨0, Nat.zero_le _, rfl, rfl⟩
  case round =>
    obtain ⟨k, hk, rfl, hp⟩ := hrel
    have HP := Lib.hid hp; clear hp
    by_cases hlt : k < t.length
    · have hi := hidx.out k hlt
      have HB : Hid (plainC t[k] = false → plainB t = false) := Lib.hid (plainB_bad hlt)
      have HN : Hid (plainC t[k] = true → (t.take (k + 1)).all plainC = true) := Lib.hid (plainB_next hlt HP.out)
      have HC : Hid (plainC t[k] = (decide (32 ≤ t[k].toNat) && decide (t[k].toNat ≤ 126))) := Lib.hid rfl
      generalize t[k].toNat = c at *
      generalize plainC t[k] = pc at *
      by_cases h1 : c < 32
      · have HF : Hid (plainB t = false) := Lib.hid (HB.out (by rw [HC.out, decide_eq_false (by omega)]; rfl))
        clear HB HN HC
        go_wp2
        go_ret
        exact ⟨by rw [HF.out]; rfl, rfl⟩
      · by_cases h2 : 126 < c
        · have HF : Hid (plainB t = false) := Lib.hid (HB.out (by rw [HC.out, decide_eq_false (show ¬ c ≤ 126 by omega), Bool.and_false]))
          clear HB HN HC
          go_wp2
          go_ret
          exact ⟨by rw [HF.out]; rfl, rfl⟩
        · have HF := Lib.hid (HN.out (by rw [HC.out, decide_eq_true (by omega), decide_eq_true (by omega)]; rfl))
          have h3 : c ≤ 126 := by omega
          clear HB HN HC h2
          go_wp2
          go_round
          case rel => exact ⟨k + 1, by omega, by simp, HF.out⟩
          case measure => simp [intOf]; omega
    · obtain rfl : k = t.length := by omega
      have HF : Hid (plainB t = true) := Lib.hid (by have := HP.out; rwa [List.take_length] at this)
      go_wp2
      go_ret
      exact ⟨by rw [HF.out]; rfl, rfl⟩
end Go.Proofs.YtegclfpmgilnpaaGreat
namespace Go.Proofs.YtegclfpmgilnpaaGreat
open Go.RowKit Go.Lac
set_option maxRecDepth 20000 in
set_option maxHeartbeats 800000 in
theorem same_any (a b : Val) (w : World) :
    Calls Tryz.prog 70 #[pv a, pv b] w fun e w' => e = .returned (.bool (decide (a = b))) ∧ Ext w w' := by
  obtain ⟨k, n, re, im, t⟩ := a
  obtain ⟨k', n', re', im', t'⟩ := b
  have hx2 : Ext w ((w.alloc (.cells #[.int .u8 (k : Nat), .int .i64 n, .complex .f64 re im, strV t] 88)).alloc (.cells #[.int .u8 (k' : Nat), .int .i64 n', .complex .f64 re' im', strV t'] 88)) := ((Ch.refl _ _).alloc _).alloc _
  have HX := Lib.hid hx2; clear hx2
  unfold pv pvals
  simp only
  by_cases h1 : k = k'
  · subst h1
    by_cases h2 : n = n'
    · subst h2
      by_cases h3 : re = re'
      · subst h3
        by_cases h4 : im = im'
        · subst h4
          have hd : decide ((⟨k, n, re, im, t⟩ : Val) = ⟨k, n, re, im, t'⟩) = decide (t = t') := by simp
          rw [hd]
          have hq := toList_beq t t'
          unfold strV at *
          generalize decide (t = t') = z at *
          generalize (⟨t.toArray⟩ : ByteArray) = A1 at *
          generalize (⟨t'.toArray⟩ : ByteArray) = A2 at *
          clear hd
          go_enter Tryz.func70, Tryz.ntmps70
          go_wp2_with (go_at_call 88; refine (bits_any _ _ _).mono ?_; rintro e w' ⟨rfl, rfl⟩)
          go_ret
          exact ⟨rfl, HX.out⟩
        · have hd : decide ((⟨k, n, re, im, t⟩ : Val) = ⟨k, n, re, im', t'⟩) = false := by simp [h4]
          rw [hd]
          have e : (((im : Nat) : Int) == (im' : Nat)) = false := by simp; omega
          unfold strV at *
          clear hd h4
          go_enter Tryz.func70, Tryz.ntmps70
          go_wp2_with (go_at_call 88; refine (bits_any _ _ _).mono ?_; rintro e w' ⟨rfl, rfl⟩)
          go_ret
          exact ⟨rfl, HX.out⟩
      · have hd : decide ((⟨k, n, re, im, t⟩ : Val) = ⟨k, n, re', im', t'⟩) = false := by simp [h3]
        rw [hd]
        have e : (((re : Nat) : Int) == (re' : Nat)) = false := by simp; omega
        unfold strV at *
        clear hd h3
        go_enter Tryz.func70, Tryz.ntmps70
        go_wp2_with (go_at_call 88; refine (bits_any _ _ _).mono ?_; rintro e w' ⟨rfl, rfl⟩)
        go_ret
        exact ⟨rfl, HX.out⟩
    · have hd : decide ((⟨k, n, re, im, t⟩ : Val) = ⟨k, n', re', im', t'⟩) = false := by simp [h2]
      rw [hd]
      have e : (n == n') = false := by simpa using h2
      unfold strV at *
      clear hd h2
      go_enter Tryz.func70, Tryz.ntmps70
      go_wp2_with (go_at_call 88; refine (bits_any _ _ _).mono ?_; rintro e w' ⟨rfl, rfl⟩)
      go_ret
      exact ⟨rfl, HX.out⟩
  · have hd : decide ((⟨k, n, re, im, t⟩ : Val) = ⟨k', n', re', im', t'⟩) = false := by simp [h1]
    rw [hd]
    have e : (((k : Nat) : Int) == (k' : Nat)) = false := by simp; omega
    unfold strV at *
    clear hd h1
    go_enter Tryz.func70, Tryz.ntmps70
    go_wp2_with (go_at_call 88; refine (bits_any _ _ _).mono ?_; rintro e w' ⟨rfl, rfl⟩)
    go_ret
    exact ⟨rfl, HX.out⟩
end Go.Proofs.YtegclfpmgilnpaaGreat
namespace Go.Proofs.YtegclfpmgilnpaaGreat
open Go.RowKit Go.Lac
theorem mixedV : Tryz.prog.follows .mixedOrders = true := by kernel_rfl
theorem info61 : (Tryz.prog.info? 88).map (·.size) = some 4 := by kernel_rfl
theorem info54 : (Tryz.prog.info? 74).map (·.size) = some 5 := by kernel_rfl
theorem prow_one (k n : Int) (re im : Nat) (A : ByteArray) : (#[.int .u8 k, .int .i64 n, .complex .f64 re im, .string A] : Array Value).all (·.oneCell') = true := by simp [Value.oneCell']
theorem rrow_one (k n re im : Int) (A : ByteArray) : (#[.int .u8 k, .int .i64 n, .int .u64 re, .int .u64 im, .string A] : Array Value).all (·.oneCell') = true := by simp [Value.oneCell']
def ownV (v : Val) : Val :=
  ⟨v.ty, if v.ty = 1 ∨ v.ty = 2 then v.i else 0, if v.ty = 3 ∨ v.ty = 4 then v.re else 0, if v.ty = 4 then v.im else 0, if v.ty = 5 ∨ v.ty = 6 then v.t else []⟩
def PvPost (v : Val) (w : World) (e : Ending) (w' : World) : Prop := e = .returned (pv v) ∧ Ext w w'
def RvPost (v : Val) (w : World) (e : Ending) (w' : World) : Prop := e = .returned (rv v) ∧ Ext w w'
theorem heap_alloc3 (w : World) (A B C : Obj) : (((w.alloc A).alloc B).alloc C).heap[w.heap.size]? = some A ∧ (((w.alloc A).alloc B).alloc C).heap[w.heap.size + 1]? = some B ∧ (((w.alloc A).alloc B).alloc C).heap[w.heap.size + 1 + 1]? = some C := by
  have e2 : ((w.alloc A).alloc B).heap.size = w.heap.size + 1 + 1 := by simp
  have h0 := heap_alloc2_old w A B
  have h1 := heap_alloc2_new w A B
  refine ⟨?_, ?_, ?_⟩
  · rw [heap_alloc_old _ _ (by rw [e2]; omega)]; exact h0
  · rw [heap_alloc_old _ _ (by rw [e2]; omega)]; exact h1
  · have := heap_alloc_new ((w.alloc A).alloc B) C
    rwa [e2] at this
set_option maxRecDepth 20000 in
set_option maxHeartbeats 1600000 in
theorem own_any (v : Val) (w : World) (h1 : 1 ≤ v.ty) (h6 : v.ty ≤ 6) :
    Calls Tryz.prog 97 #[pv v] w (PvPost (ownV v) w) := by
  obtain ⟨k, n, re, im, t⟩ := v
  unfold PvPost
  obtain ⟨V, hV⟩ : ∃ V, V = pv (ownV ⟨k, n, re, im, t⟩) := ⟨_, rfl⟩
  rw [← hV]
  unfold ownV pv pvals at hV
  unfold pv pvals
  simp only at h1 h6 hV ⊢
  have hk : k = 1 ∨ k = 2 ∨ k = 3 ∨ k = 4 ∨ k = 5 ∨ k = 6 := by omega
  unfold strV at *
  obtain ⟨A, hA⟩ : ∃ A, A = (⟨t.toArray⟩ : ByteArray) := ⟨_, rfl⟩
  rw [← hA]
  clear h1 h6
  obtain ⟨T, hT⟩ : ∃ T, T = 88 := ⟨_, rfl⟩
  obtain ⟨q0, q1, q2⟩ := heap_alloc3 w (.cells #[.int .u8 (k : Nat), .int .i64 n, .complex .f64 re im, .string A] 88) (.cells #[.int .u8 0, .int .i64 0, .complex .f64 0 0, .string ⟨#[]⟩] 88) (.cells #[.int .u8 0, .int .i64 0, .complex .f64 0 0, .string ⟨#[]⟩] 88)
  have hext : Ext w (((w.alloc (.cells #[.int .u8 (k : Nat), .int .i64 n, .complex .f64 re im, .string A] 88)).alloc (.cells #[.int .u8 0, .int .i64 0, .complex .f64 0 0, .string ⟨#[]⟩] 88)).alloc (.cells #[.int .u8 0, .int .i64 0, .complex .f64 0 0, .string ⟨#[]⟩] 88)) := (((Ch.refl _ _).alloc _).alloc _).alloc _
  obtain ⟨W1, hW1⟩ : ∃ W1, W1 = (((w.alloc (.cells #[.int .u8 (k : Nat), .int .i64 n, .complex .f64 re im, .string A] 88)).alloc (.cells #[.int .u8 0, .int .i64 0, .complex .f64 0 0, .string ⟨#[]⟩] 88)).alloc (.cells #[.int .u8 0, .int .i64 0, .complex .f64 0 0, .string ⟨#[]⟩] 88)) := ⟨_, rfl⟩
  have Q2 := Lib.hid q2
  rw [← hW1] at q0 q1 q2 hext
  obtain ⟨W2, hW2⟩ : ∃ W2, W2 = W1.setRow (w.heap.size + 1 + 1) #[.int .u8 (k : Nat), .int .i64 0, .complex .f64 0 0, .string ⟨#[]⟩] := ⟨_, rfl⟩
  have p2 : W2.heap[w.heap.size + 1 + 1]? = some (.cells #[.int .u8 (k : Nat), .int .i64 0, .complex .f64 0 0, .string ⟨#[]⟩] 88 (0, 0)) := by rw [hW2]; exact setRow_heap _ _ _ _ _ _ q2
  have p1 : W2.heap[w.heap.size + 1]? = some (.cells #[.int .u8 0, .int .i64 0, .complex .f64 0 0, .string ⟨#[]⟩] 88 (0, 0)) := by rw [hW2, setRow_other _ _ _ _ (by omega)]; exact q1
  have p0 : W2.heap[w.heap.size]? = some (.cells #[.int .u8 (k : Nat), .int .i64 n, .complex .f64 re im, .string A] 88 (0, 0)) := by rw [hW2, setRow_other _ _ _ _ (by omega)]; exact q0
  have hext2 : Ext w W2 := by rw [hW2]; exact hext.setRow (.inr (by omega)) _
  have c0 : W2.cell? ⟨w.heap.size, 0, none⟩ = some (.int .u8 (k : Nat)) := by rw [cell_of_row _ _ _ _ _ _ p0]; rfl
  have c1 : W2.cell? ⟨w.heap.size, 1, none⟩ = some (.int .i64 n) := by rw [cell_of_row _ _ _ _ _ _ p0]; rfl
  have c2 : W2.cell? ⟨w.heap.size, 2, none⟩ = some (.complex .f64 re im) := by rw [cell_of_row _ _ _ _ _ _ p0]; rfl
  have c3 : W2.cell? ⟨w.heap.size, 3, none⟩ = some (.string A) := by rw [cell_of_row _ _ _ _ _ _ p0]; rfl
  have d1 : W2.cell? ⟨w.heap.size + 1 + 1, 1, none⟩ = some (.int .i64 0) := by rw [cell_of_row _ _ _ _ _ _ p2]; rfl
  have d2 : W2.cell? ⟨w.heap.size + 1 + 1, 2, none⟩ = some (.complex .f64 0 0) := by rw [cell_of_row _ _ _ _ _ _ p2]; rfl
  have d3 : W2.cell? ⟨w.heap.size + 1 + 1, 3, none⟩ = some (.string ⟨#[]⟩) := by rw [cell_of_row _ _ _ _ _ _ p2]; rfl
  have f1 := frozen_of_row W2 (w.heap.size + 1 + 1) 1 _ _ p2
  have f2 := frozen_of_row W2 (w.heap.size + 1 + 1) 2 _ _ p2
  have f3 := frozen_of_row W2 (w.heap.size + 1 + 1) 3 _ _ p2
  have HQ2 := Lib.hid q2; have P1 := Lib.hid p1; have P2 := Lib.hid p2; have HX := Lib.hid hext2
  have HW1 := Lib.hid hW1; have HW2 := Lib.hid hW2;
  clear q0 q1 q2 p0 p1 p2 hext hext2 hW1 hW2 hT T
  rcases hk with hk | hk | hk | hk | hk | hk
  · have HK := Lib.hid hk
    have HV : Hid (V = .agg #[.int .u8 (k : Nat), .int .i64 n, .complex .f64 0 0, .string ⟨#[]⟩]) := Lib.hid (by rw [hV]; simp [hk, hA])
    clear hV hA
    have e1 : (((k : Nat) : Int) == 1) = true := by rw [hk]; rfl
    have p3 := heap_setCell_same W2 (w.heap.size + 1 + 1) 1 _ _ (.int .i64 n) P2.out
    have p4 : (W2.setCell ⟨w.heap.size + 1 + 1, 1, none⟩ (.int .i64 n)).heap[w.heap.size + 1]? = _ := (heap_setCell_other W2 ⟨w.heap.size + 1 + 1, 1, none⟩ (w.heap.size + 1) (.int .i64 n) (by simp)).trans P1.out
    have hx3 : Ext w (W2.setCell ⟨w.heap.size + 1 + 1, 1, none⟩ (.int .i64 n)) := HX.out.setCell (.inr (by simp; omega)) _
    have P3 : Hid ((W2.setCell ⟨w.heap.size + 1 + 1, 1, none⟩ (.int .i64 n)).heap[w.heap.size + 1 + 1]? = some (.cells #[.int .u8 (k : Nat), .int .i64 n, .complex .f64 0 0, .string ⟨#[]⟩] 88 (0, 0))) := Lib.hid p3
    have P4 := Lib.hid p4; have HX3 := Lib.hid hx3
    have hst : (store ⟨w.heap.size + 1 + 1, 1, none⟩ (.int .i64 n)).run Tryz.prog W2 = .ok () (W2.setCell ⟨w.heap.size + 1 + 1, 1, none⟩ (.int .i64 n)) := by
      rw [run_store Tryz.prog W2 _ _ _ rfl, d1]; simp [f1]
    clear p3 p4 hx3 hk
    go_enter Tryz.func97, Tryz.ntmps97
    go_wp2_with (first
      | (refine wpList_store_rowTo rfl _ _ _ rfl rfl (w.heap.size + 1 + 1) #[.int .u8 (k : Nat), .int .i64 0, .complex .f64 0 0, .string ⟨#[]⟩] rfl rfl _ _ Q2.out info61 rfl (prow_one _ _ _ _ _) ?_; rw [← HW1.out, ← HW2.out])
      | (refine wpList_load_row rfl _ _ rfl (w.heap.size + 1 + 1) rfl _ _ _ _ P3.out Tryz.underlying88 rfl info61 ?_)
      | (refine wpList_store_rowTo rfl _ _ _ rfl rfl (w.heap.size + 1) #[.int .u8 (k : Nat), .int .i64 n, .complex .f64 0 0, .string ⟨#[]⟩] rfl rfl _ _ P4.out info61 rfl (prow_one _ _ _ _ _) ?_))
    refine bodyPost_ret (results_cell_row rfl _ _ (w.heap.size + 1) _ #[.int .u8 (k : Nat), .int .i64 n, .complex .f64 0 0, .string ⟨#[]⟩] _ _ rfl (setRow_heap _ _ _ _ _ _ P4.out) Tryz.underlying88 rfl info61) rfl ?_
    exact ⟨by rw [HV.out], HX3.out.setRow (.inr (by omega)) _⟩
  · have HK := Lib.hid hk
    have HV : Hid (V = .agg #[.int .u8 (k : Nat), .int .i64 n, .complex .f64 0 0, .string ⟨#[]⟩]) := Lib.hid (by rw [hV]; simp [hk, hA])
    clear hV hA
    have e1 : (((k : Nat) : Int) == 1) = false := by rw [hk]; rfl
    have e2 : (((k : Nat) : Int) == 2) = true := by rw [hk]; rfl
    have p3 := heap_setCell_same W2 (w.heap.size + 1 + 1) 1 _ _ (.int .i64 n) P2.out
    have p4 : (W2.setCell ⟨w.heap.size + 1 + 1, 1, none⟩ (.int .i64 n)).heap[w.heap.size + 1]? = _ := (heap_setCell_other W2 ⟨w.heap.size + 1 + 1, 1, none⟩ (w.heap.size + 1) (.int .i64 n) (by simp)).trans P1.out
    have hx3 : Ext w (W2.setCell ⟨w.heap.size + 1 + 1, 1, none⟩ (.int .i64 n)) := HX.out.setCell (.inr (by simp; omega)) _
    have P3 : Hid ((W2.setCell ⟨w.heap.size + 1 + 1, 1, none⟩ (.int .i64 n)).heap[w.heap.size + 1 + 1]? = some (.cells #[.int .u8 (k : Nat), .int .i64 n, .complex .f64 0 0, .string ⟨#[]⟩] 88 (0, 0))) := Lib.hid p3
    have P4 := Lib.hid p4; have HX3 := Lib.hid hx3
    have hst : (store ⟨w.heap.size + 1 + 1, 1, none⟩ (.int .i64 n)).run Tryz.prog W2 = .ok () (W2.setCell ⟨w.heap.size + 1 + 1, 1, none⟩ (.int .i64 n)) := by
      rw [run_store Tryz.prog W2 _ _ _ rfl, d1]; simp [f1]
    clear p3 p4 hx3 hk
    go_enter Tryz.func97, Tryz.ntmps97
    go_wp2_with (first
      | (refine wpList_store_rowTo rfl _ _ _ rfl rfl (w.heap.size + 1 + 1) #[.int .u8 (k : Nat), .int .i64 0, .complex .f64 0 0, .string ⟨#[]⟩] rfl rfl _ _ Q2.out info61 rfl (prow_one _ _ _ _ _) ?_; rw [← HW1.out, ← HW2.out])
      | (refine wpList_load_row rfl _ _ rfl (w.heap.size + 1 + 1) rfl _ _ _ _ P3.out Tryz.underlying88 rfl info61 ?_)
      | (refine wpList_store_rowTo rfl _ _ _ rfl rfl (w.heap.size + 1) #[.int .u8 (k : Nat), .int .i64 n, .complex .f64 0 0, .string ⟨#[]⟩] rfl rfl _ _ P4.out info61 rfl (prow_one _ _ _ _ _) ?_))
    refine bodyPost_ret (results_cell_row rfl _ _ (w.heap.size + 1) _ #[.int .u8 (k : Nat), .int .i64 n, .complex .f64 0 0, .string ⟨#[]⟩] _ _ rfl (setRow_heap _ _ _ _ _ _ P4.out) Tryz.underlying88 rfl info61) rfl ?_
    exact ⟨by rw [HV.out], HX3.out.setRow (.inr (by omega)) _⟩
  · have HK := Lib.hid hk
    have HV : Hid (V = .agg #[.int .u8 (k : Nat), .int .i64 0, .complex .f64 re 0, .string ⟨#[]⟩]) := Lib.hid (by rw [hV]; simp [hk, hA])
    clear hV hA
    have e1 : (((k : Nat) : Int) == 1) = false := by rw [hk]; rfl
    have e2 : (((k : Nat) : Int) == 2) = false := by rw [hk]; rfl
    have e3 : (((k : Nat) : Int) == 3) = true := by rw [hk]; rfl
    have p3 := heap_setCell_same W2 (w.heap.size + 1 + 1) 2 _ _ (.complex .f64 re 0) P2.out
    have p4 : (W2.setCell ⟨w.heap.size + 1 + 1, 2, none⟩ (.complex .f64 re 0)).heap[w.heap.size + 1]? = _ := (heap_setCell_other W2 ⟨w.heap.size + 1 + 1, 2, none⟩ (w.heap.size + 1) (.complex .f64 re 0) (by simp)).trans P1.out
    have hx3 : Ext w (W2.setCell ⟨w.heap.size + 1 + 1, 2, none⟩ (.complex .f64 re 0)) := HX.out.setCell (.inr (by simp; omega)) _
    have P3 : Hid ((W2.setCell ⟨w.heap.size + 1 + 1, 2, none⟩ (.complex .f64 re 0)).heap[w.heap.size + 1 + 1]? = some (.cells #[.int .u8 (k : Nat), .int .i64 0, .complex .f64 re 0, .string ⟨#[]⟩] 88 (0, 0))) := Lib.hid p3
    have P4 := Lib.hid p4; have HX3 := Lib.hid hx3
    have hst : (store ⟨w.heap.size + 1 + 1, 2, none⟩ (.complex .f64 re 0)).run Tryz.prog W2 = .ok () (W2.setCell ⟨w.heap.size + 1 + 1, 2, none⟩ (.complex .f64 re 0)) := by
      rw [run_store Tryz.prog W2 _ _ _ rfl, d2]; simp [f2]
    clear p3 p4 hx3 hk
    go_enter Tryz.func97, Tryz.ntmps97
    go_wp2_with (first
      | (refine wpList_store_rowTo rfl _ _ _ rfl rfl (w.heap.size + 1 + 1) #[.int .u8 (k : Nat), .int .i64 0, .complex .f64 0 0, .string ⟨#[]⟩] rfl rfl _ _ Q2.out info61 rfl (prow_one _ _ _ _ _) ?_; rw [← HW1.out, ← HW2.out])
      | (refine wpList_load_row rfl _ _ rfl (w.heap.size + 1 + 1) rfl _ _ _ _ P3.out Tryz.underlying88 rfl info61 ?_)
      | (refine wpList_store_rowTo rfl _ _ _ rfl rfl (w.heap.size + 1) #[.int .u8 (k : Nat), .int .i64 0, .complex .f64 re 0, .string ⟨#[]⟩] rfl rfl _ _ P4.out info61 rfl (prow_one _ _ _ _ _) ?_))
    refine bodyPost_ret (results_cell_row rfl _ _ (w.heap.size + 1) _ #[.int .u8 (k : Nat), .int .i64 0, .complex .f64 re 0, .string ⟨#[]⟩] _ _ rfl (setRow_heap _ _ _ _ _ _ P4.out) Tryz.underlying88 rfl info61) rfl ?_
    exact ⟨by rw [HV.out], HX3.out.setRow (.inr (by omega)) _⟩
  · have HK := Lib.hid hk
    have HV : Hid (V = .agg #[.int .u8 (k : Nat), .int .i64 0, .complex .f64 re im, .string ⟨#[]⟩]) := Lib.hid (by rw [hV]; simp [hk, hA])
    clear hV hA
    have e1 : (((k : Nat) : Int) == 1) = false := by rw [hk]; rfl
    have e2 : (((k : Nat) : Int) == 2) = false := by rw [hk]; rfl
    have e3 : (((k : Nat) : Int) == 3) = false := by rw [hk]; rfl
    have e4 : (((k : Nat) : Int) == 4) = true := by rw [hk]; rfl
    have p3 := heap_setCell_same W2 (w.heap.size + 1 + 1) 2 _ _ (.complex .f64 re im) P2.out
    have p4 : (W2.setCell ⟨w.heap.size + 1 + 1, 2, none⟩ (.complex .f64 re im)).heap[w.heap.size + 1]? = _ := (heap_setCell_other W2 ⟨w.heap.size + 1 + 1, 2, none⟩ (w.heap.size + 1) (.complex .f64 re im) (by simp)).trans P1.out
    have hx3 : Ext w (W2.setCell ⟨w.heap.size + 1 + 1, 2, none⟩ (.complex .f64 re im)) := HX.out.setCell (.inr (by simp; omega)) _
    have P3 : Hid ((W2.setCell ⟨w.heap.size + 1 + 1, 2, none⟩ (.complex .f64 re im)).heap[w.heap.size + 1 + 1]? = some (.cells #[.int .u8 (k : Nat), .int .i64 0, .complex .f64 re im, .string ⟨#[]⟩] 88 (0, 0))) := Lib.hid p3
    have P4 := Lib.hid p4; have HX3 := Lib.hid hx3
    have hst : (store ⟨w.heap.size + 1 + 1, 2, none⟩ (.complex .f64 re im)).run Tryz.prog W2 = .ok () (W2.setCell ⟨w.heap.size + 1 + 1, 2, none⟩ (.complex .f64 re im)) := by
      rw [run_store Tryz.prog W2 _ _ _ rfl, d2]; simp [f2]
    clear p3 p4 hx3 hk
    go_enter Tryz.func97, Tryz.ntmps97
    go_wp2_with (first
      | (refine wpList_store_rowTo rfl _ _ _ rfl rfl (w.heap.size + 1 + 1) #[.int .u8 (k : Nat), .int .i64 0, .complex .f64 0 0, .string ⟨#[]⟩] rfl rfl _ _ Q2.out info61 rfl (prow_one _ _ _ _ _) ?_; rw [← HW1.out, ← HW2.out])
      | (refine wpList_load_row rfl _ _ rfl (w.heap.size + 1 + 1) rfl _ _ _ _ P3.out Tryz.underlying88 rfl info61 ?_)
      | (refine wpList_store_rowTo rfl _ _ _ rfl rfl (w.heap.size + 1) #[.int .u8 (k : Nat), .int .i64 0, .complex .f64 re im, .string ⟨#[]⟩] rfl rfl _ _ P4.out info61 rfl (prow_one _ _ _ _ _) ?_))
    refine bodyPost_ret (results_cell_row rfl _ _ (w.heap.size + 1) _ #[.int .u8 (k : Nat), .int .i64 0, .complex .f64 re im, .string ⟨#[]⟩] _ _ rfl (setRow_heap _ _ _ _ _ _ P4.out) Tryz.underlying88 rfl info61) rfl ?_
    exact ⟨by rw [HV.out], HX3.out.setRow (.inr (by omega)) _⟩
  · have HK := Lib.hid hk
    have HV : Hid (V = .agg #[.int .u8 (k : Nat), .int .i64 0, .complex .f64 0 0, .string A]) := Lib.hid (by rw [hV]; simp [hk, hA])
    clear hV hA
    have e1 : (((k : Nat) : Int) == 1) = false := by rw [hk]; rfl
    have e2 : (((k : Nat) : Int) == 2) = false := by rw [hk]; rfl
    have e3 : (((k : Nat) : Int) == 3) = false := by rw [hk]; rfl
    have e4 : (((k : Nat) : Int) == 4) = false := by rw [hk]; rfl
    have e5 : (((k : Nat) : Int) == 5) = true := by rw [hk]; rfl
    have p3 := heap_setCell_same W2 (w.heap.size + 1 + 1) 3 _ _ (.string A) P2.out
    have p4 : (W2.setCell ⟨w.heap.size + 1 + 1, 3, none⟩ (.string A)).heap[w.heap.size + 1]? = _ := (heap_setCell_other W2 ⟨w.heap.size + 1 + 1, 3, none⟩ (w.heap.size + 1) (.string A) (by simp)).trans P1.out
    have hx3 : Ext w (W2.setCell ⟨w.heap.size + 1 + 1, 3, none⟩ (.string A)) := HX.out.setCell (.inr (by simp; omega)) _
    have P3 : Hid ((W2.setCell ⟨w.heap.size + 1 + 1, 3, none⟩ (.string A)).heap[w.heap.size + 1 + 1]? = some (.cells #[.int .u8 (k : Nat), .int .i64 0, .complex .f64 0 0, .string A] 88 (0, 0))) := Lib.hid p3
    have P4 := Lib.hid p4; have HX3 := Lib.hid hx3
    have hst : (store ⟨w.heap.size + 1 + 1, 3, none⟩ (.string A)).run Tryz.prog W2 = .ok () (W2.setCell ⟨w.heap.size + 1 + 1, 3, none⟩ (.string A)) := by
      rw [run_store Tryz.prog W2 _ _ _ rfl, d3]; simp [f3]
    clear p3 p4 hx3 hk
    go_enter Tryz.func97, Tryz.ntmps97
    go_wp2_with (first
      | (refine wpList_store_rowTo rfl _ _ _ rfl rfl (w.heap.size + 1 + 1) #[.int .u8 (k : Nat), .int .i64 0, .complex .f64 0 0, .string ⟨#[]⟩] rfl rfl _ _ Q2.out info61 rfl (prow_one _ _ _ _ _) ?_; rw [← HW1.out, ← HW2.out])
      | (refine wpList_load_row rfl _ _ rfl (w.heap.size + 1 + 1) rfl _ _ _ _ P3.out Tryz.underlying88 rfl info61 ?_)
      | (refine wpList_store_rowTo rfl _ _ _ rfl rfl (w.heap.size + 1) #[.int .u8 (k : Nat), .int .i64 0, .complex .f64 0 0, .string A] rfl rfl _ _ P4.out info61 rfl (prow_one _ _ _ _ _) ?_))
    refine bodyPost_ret (results_cell_row rfl _ _ (w.heap.size + 1) _ #[.int .u8 (k : Nat), .int .i64 0, .complex .f64 0 0, .string A] _ _ rfl (setRow_heap _ _ _ _ _ _ P4.out) Tryz.underlying88 rfl info61) rfl ?_
    exact ⟨by rw [HV.out], HX3.out.setRow (.inr (by omega)) _⟩
  · have HK := Lib.hid hk
    have HV : Hid (V = .agg #[.int .u8 (k : Nat), .int .i64 0, .complex .f64 0 0, .string A]) := Lib.hid (by rw [hV]; simp [hk, hA])
    clear hV hA
    have e1 : (((k : Nat) : Int) == 1) = false := by rw [hk]; rfl
    have e2 : (((k : Nat) : Int) == 2) = false := by rw [hk]; rfl
    have e3 : (((k : Nat) : Int) == 3) = false := by rw [hk]; rfl
    have e4 : (((k : Nat) : Int) == 4) = false := by rw [hk]; rfl
    have e5 : (((k : Nat) : Int) == 5) = false := by rw [hk]; rfl
    have e6 : (((k : Nat) : Int) == 6) = true := by rw [hk]; rfl
    have p3 := heap_setCell_same W2 (w.heap.size + 1 + 1) 3 _ _ (.string A) P2.out
    have p4 : (W2.setCell ⟨w.heap.size + 1 + 1, 3, none⟩ (.string A)).heap[w.heap.size + 1]? = _ := (heap_setCell_other W2 ⟨w.heap.size + 1 + 1, 3, none⟩ (w.heap.size + 1) (.string A) (by simp)).trans P1.out
    have hx3 : Ext w (W2.setCell ⟨w.heap.size + 1 + 1, 3, none⟩ (.string A)) := HX.out.setCell (.inr (by simp; omega)) _
    have P3 : Hid ((W2.setCell ⟨w.heap.size + 1 + 1, 3, none⟩ (.string A)).heap[w.heap.size + 1 + 1]? = some (.cells #[.int .u8 (k : Nat), .int .i64 0, .complex .f64 0 0, .string A] 88 (0, 0))) := Lib.hid p3
    have P4 := Lib.hid p4; have HX3 := Lib.hid hx3
    have hst : (store ⟨w.heap.size + 1 + 1, 3, none⟩ (.string A)).run Tryz.prog W2 = .ok () (W2.setCell ⟨w.heap.size + 1 + 1, 3, none⟩ (.string A)) := by
      rw [run_store Tryz.prog W2 _ _ _ rfl, d3]; simp [f3]
    clear p3 p4 hx3 hk
    go_enter Tryz.func97, Tryz.ntmps97
    go_wp2_with (first
      | (refine wpList_store_rowTo rfl _ _ _ rfl rfl (w.heap.size + 1 + 1) #[.int .u8 (k : Nat), .int .i64 0, .complex .f64 0 0, .string ⟨#[]⟩] rfl rfl _ _ Q2.out info61 rfl (prow_one _ _ _ _ _) ?_; rw [← HW1.out, ← HW2.out])
      | (refine wpList_load_row rfl _ _ rfl (w.heap.size + 1 + 1) rfl _ _ _ _ P3.out Tryz.underlying88 rfl info61 ?_)
      | (refine wpList_store_rowTo rfl _ _ _ rfl rfl (w.heap.size + 1) #[.int .u8 (k : Nat), .int .i64 0, .complex .f64 0 0, .string A] rfl rfl _ _ P4.out info61 rfl (prow_one _ _ _ _ _) ?_))
    refine bodyPost_ret (results_cell_row rfl _ _ (w.heap.size + 1) _ #[.int .u8 (k : Nat), .int .i64 0, .complex .f64 0 0, .string A] _ _ rfl (setRow_heap _ _ _ _ _ _ P4.out) Tryz.underlying88 rfl info61) rfl ?_
    exact ⟨by rw [HV.out], HX3.out.setRow (.inr (by omega)) _⟩
end Go.Proofs.YtegclfpmgilnpaaGreat
namespace Go.Proofs.YtegclfpmgilnpaaGreat
open Go.RowKit Go.Lac
theorem field54_0 (w : World) (b : Nat) : (Instr.fieldAt 74 (.pointer (some ⟨b, 0, none⟩)) 0).run Tryz.prog w = .ok (.pointer (some ⟨b, 0, none⟩)) w := by kernel_rfl
theorem field54_1 (w : World) (b : Nat) : (Instr.fieldAt 74 (.pointer (some ⟨b, 0, none⟩)) 1).run Tryz.prog w = .ok (.pointer (some ⟨b, 1, none⟩)) w := by kernel_rfl
theorem field54_2 (w : World) (b : Nat) : (Instr.fieldAt 74 (.pointer (some ⟨b, 0, none⟩)) 2).run Tryz.prog w = .ok (.pointer (some ⟨b, 2, none⟩)) w := by kernel_rfl
theorem field54_3 (w : World) (b : Nat) : (Instr.fieldAt 74 (.pointer (some ⟨b, 0, none⟩)) 3).run Tryz.prog w = .ok (.pointer (some ⟨b, 3, none⟩)) w := by kernel_rfl
theorem field54_4 (w : World) (b : Nat) : (Instr.fieldAt 74 (.pointer (some ⟨b, 0, none⟩)) 4).run Tryz.prog w = .ok (.pointer (some ⟨b, 4, none⟩)) w := by kernel_rfl
theorem build61 (w : World) (k : Nat) (n : Int) (re im : Nat) (A : ByteArray) : (Instr.build 88 #[(0, .int .u8 (k : Nat)), (1, .int .i64 n), (2, .complex .f64 re im), (3, .string A)]).run Tryz.prog w = .ok (.agg #[.int .u8 (k : Nat), .int .i64 n, .complex .f64 re im, .string A]) w := by kernel_rfl
section
variable {P : Program} {ρ : Operand → Value} {o : Oper} {w : World} {T : Tmp → Kn} {d : Tmp} {t : TypeId}
theorem Exec.kbuild4 {x y z u : Operand} {vx vy vz vu r : Value} (ho : o.op = .build t #[(0, x), (1, y), (2, z), (3, u)]) (hd : o.dst = some d) (hx : ρ x = vx) (hy : ρ y = vy) (hz : ρ z = vz) (hu : ρ u = vu) (hr : (Instr.build t #[(0, vx), (1, vy), (2, vz), (3, vu)]).run P w = .ok r w) (hv : (T d).holds r w) :
    Exec P ρ o w fun v w' => (∀ d, o.dst = some d → knV T d v w') ∧ Ext w w' :=
  Exec.same hd (by unfold execOp; rw [ho]; simp only [List.map_toArray, List.map_cons, List.map_nil, hx, hy, hz, hu, Sem.run_bind, hr, Result.andThen_ok, Sem.run_pure]) hv
end
def ownLT (g k : Nat) (n : Int) (re im : Nat) (A : ByteArray) : Tmp → Kn
  | 3 => .is (.pointer (some ⟨g, 0, none⟩))
  | 4 => .is (.int .u8 (k : Nat))
  | 5 => .is (.pointer (some ⟨g, 1, none⟩))
  | 6 => .is (.int .i64 n)
  | 7 => .is (.pointer (some ⟨g, 2, none⟩))
  | 8 => .is (.int .u64 (re : Nat))
  | 9 => .is (.pointer (some ⟨g, 3, none⟩))
  | 10 => .is (.int .u64 (im : Nat))
  | 11 => .is (.complex .f64 re im)
  | 12 => .is (.pointer (some ⟨g, 4, none⟩))
  | 13 => .is (.string A)
  | 14 => .is (.agg #[.int .u8 (k : Nat), .int .i64 n, .complex .f64 re im, .string A])
  | _ => .any
theorem ownLT_pure (g k : Nat) (n : Int) (re im : Nat) (A : ByteArray) (d : Tmp) : (ownLT g k n re im A d).pure := by
  unfold ownLT
  split <;> first | exact Kn.is_pure _ | exact Kn.any_pure
set_option maxRecDepth 20000 in
set_option maxHeartbeats 2000000 in
theorem lawOwn_any (v : Val) (w : World) : Calls Tryz.prog 62 #[rv v] w (PvPost v w) := by
  obtain ⟨k, n, re, im, t⟩ := v
  unfold PvPost pv pvals rv rvals strV
  simp only
  generalize (⟨t.toArray⟩ : ByteArray) = A
  obtain ⟨w1, hw1⟩ : ∃ w1, w1 = (w.alloc (.cells #[.int .u8 (k : Nat), .int .i64 n, .int .u64 (re : Nat), .int .u64 (im : Nat), .string A] 74)).alloc (.cells #[.int .u8 0, .int .i64 0, .complex .f64 0 0, .string ⟨#[]⟩] 88) := ⟨_, rfl⟩
  obtain ⟨g1, hg1⟩ : ∃ g1, g1 = w.heap.size := ⟨_, rfl⟩
  obtain ⟨g2, hg2⟩ : ∃ g2, g2 = w.heap.size + 1 := ⟨_, rfl⟩
  have hext : Ext w w1 := by rw [hw1]; exact ((Ch.refl _ _).alloc _).alloc _
  have hgb : w1.heap[g2]? = some (.cells #[.int .u8 0, .int .i64 0, .complex .f64 0 0, .string ⟨#[]⟩] 88 (0, 0)) := by rw [hw1, hg2]; exact heap_alloc2_new _ _ _
  have hga : w1.heap[g1]? = some (.cells #[.int .u8 (k : Nat), .int .i64 n, .int .u64 (re : Nat), .int .u64 (im : Nat), .string A] 74 (0, 0)) := by rw [hw1, hg1]; exact heap_alloc2_old _ _ _
  have HC0 := Lib.hid (show w1.cell? ⟨g1, 0, none⟩ = some (.int .u8 (k : Nat)) by rw [cell_of_row _ _ _ _ _ _ hga]; rfl)
  have HC1 := Lib.hid (show w1.cell? ⟨g1, 1, none⟩ = some (.int .i64 n) by rw [cell_of_row _ _ _ _ _ _ hga]; rfl)
  have HC2 := Lib.hid (show w1.cell? ⟨g1, 2, none⟩ = some (.int .u64 (re : Nat)) by rw [cell_of_row _ _ _ _ _ _ hga]; rfl)
  have HC3 := Lib.hid (show w1.cell? ⟨g1, 3, none⟩ = some (.int .u64 (im : Nat)) by rw [cell_of_row _ _ _ _ _ _ hga]; rfl)
  have HC4 := Lib.hid (show w1.cell? ⟨g1, 4, none⟩ = some (.string A) by rw [cell_of_row _ _ _ _ _ _ hga]; rfl)
  have HG2 : Hid (g2 < w1.heap.size) := Lib.hid (Array.getElem?_eq_some_iff.1 hgb).1
  have HGE : Hid (w.heap.size ≤ g2) := Lib.hid (by omega)
  have HGB := Lib.hid hgb; have HEXT := Lib.hid hext
  have HW1 := Lib.hid hw1; have HG1 := Lib.hid hg1; have HG22 := Lib.hid hg2
  clear hext hgb hga hw1 hg1 hg2
  go_enter Tryz.func62, Tryz.ntmps62
  go_wp2
  rw [← HW1.out, ← HG22.out, ← HG1.out]
  refine wp_region_last (ownLT g1 k n re im A) 12 (fun w' => w'.heap[g2]? = some (.cells #[.int .u8 (k : Nat), .int .i64 n, .complex .f64 re im, .string A] 88 (0, 0)) ∧ Ext w w') mixedV (by rfl) (by rfl) (by decide) ?all ?fin
  case all =>
    refine ⟨?_, ?_, ?_, ?_, ?_, ?_, ?_, ?_, ?_, ?_, ?_, ?_, ?_, trivial⟩
    · refine StepOK.early (ownLT_pure _ _ _ _ _ _) (by rfl) (by decide) rfl fun ρ w hρ hw hf => ?_
      have h1 : ρ (.tmp 1) = (.pointer (some ⟨g1, 0, none⟩)) := (hf 1).2 rfl rfl
      exact Exec.kfield rfl rfl h1 (field54_0 w g1) rfl
    · refine StepOK.early (ownLT_pure _ _ _ _ _ _) (by rfl) (by decide) rfl fun ρ w hρ hw hf => ?_
      have h3 : ρ (.tmp 3) = (.pointer (some ⟨g1, 0, none⟩)) := (hf 3).1 rfl
      have hc := hw.cell (p := ⟨g1, 0, none⟩) (fun f => f) _ HC0.out
      exact Exec.same (v := .int .u8 (k : Nat)) rfl (by simp [go_sem, hρ.const, h3, hc]) rfl
    · refine StepOK.early (ownLT_pure _ _ _ _ _ _) (by rfl) (by decide) rfl fun ρ w hρ hw hf => ?_
      have h1 : ρ (.tmp 1) = (.pointer (some ⟨g1, 0, none⟩)) := (hf 1).2 rfl rfl
      exact Exec.kfield rfl rfl h1 (field54_1 w g1) rfl
    · refine StepOK.early (ownLT_pure _ _ _ _ _ _) (by rfl) (by decide) rfl fun ρ w hρ hw hf => ?_
      have h5 : ρ (.tmp 5) = (.pointer (some ⟨g1, 1, none⟩)) := (hf 5).1 rfl
      have hc := hw.cell (p := ⟨g1, 1, none⟩) (fun f => f) _ HC1.out
      exact Exec.same (v := .int .i64 n) rfl (by simp [go_sem, hρ.const, h5, hc]) rfl
    · refine StepOK.early (ownLT_pure _ _ _ _ _ _) (by rfl) (by decide) rfl fun ρ w hρ hw hf => ?_
      have h1 : ρ (.tmp 1) = (.pointer (some ⟨g1, 0, none⟩)) := (hf 1).2 rfl rfl
      exact Exec.kfield rfl rfl h1 (field54_2 w g1) rfl
    · refine StepOK.early (ownLT_pure _ _ _ _ _ _) (by rfl) (by decide) rfl fun ρ w hρ hw hf => ?_
      have h7 : ρ (.tmp 7) = (.pointer (some ⟨g1, 2, none⟩)) := (hf 7).1 rfl
      have hc := hw.cell (p := ⟨g1, 2, none⟩) (fun f => f) _ HC2.out
      exact Exec.same (v := .int .u64 (re : Nat)) rfl (by simp [go_sem, hρ.const, h7, hc]) rfl
    · refine StepOK.early (ownLT_pure _ _ _ _ _ _) (by rfl) (by decide) rfl fun ρ w hρ hw hf => ?_
      have h1 : ρ (.tmp 1) = (.pointer (some ⟨g1, 0, none⟩)) := (hf 1).2 rfl rfl
      exact Exec.kfield rfl rfl h1 (field54_3 w g1) rfl
    · refine StepOK.early (ownLT_pure _ _ _ _ _ _) (by rfl) (by decide) rfl fun ρ w hρ hw hf => ?_
      have h9 : ρ (.tmp 9) = (.pointer (some ⟨g1, 3, none⟩)) := (hf 9).1 rfl
      have hc := hw.cell (p := ⟨g1, 3, none⟩) (fun f => f) _ HC3.out
      exact Exec.same (v := .int .u64 (im : Nat)) rfl (by simp [go_sem, hρ.const, h9, hc]) rfl
    · refine StepOK.early (ownLT_pure _ _ _ _ _ _) (by rfl) (by decide) rfl fun ρ w hρ hw hf => ?_
      have h8 : ρ (.tmp 8) = (.int .u64 (re : Nat)) := (hf 8).1 rfl
      have h10 : ρ (.tmp 10) = (.int .u64 (im : Nat)) := (hf 10).1 rfl
      exact Exec.kcall #[.int .u64 (re : Nat), .int .u64 (im : Nat)] hρ rfl rfl (by simp [h8, h10]) Tryz.func90 (by kernel_rfl) (by kernel_rfl) ((of_any re im w).mono (by rintro e w' ⟨rfl, rfl⟩; exact ⟨_, rfl, rfl, Ch.refl _ _⟩))
    · refine StepOK.early (ownLT_pure _ _ _ _ _ _) (by rfl) (by decide) rfl fun ρ w hρ hw hf => ?_
      have h1 : ρ (.tmp 1) = (.pointer (some ⟨g1, 0, none⟩)) := (hf 1).2 rfl rfl
      exact Exec.kfield rfl rfl h1 (field54_4 w g1) rfl
    · refine StepOK.early (ownLT_pure _ _ _ _ _ _) (by rfl) (by decide) rfl fun ρ w hρ hw hf => ?_
      have h12 : ρ (.tmp 12) = (.pointer (some ⟨g1, 4, none⟩)) := (hf 12).1 rfl
      have hc := hw.cell (p := ⟨g1, 4, none⟩) (fun f => f) _ HC4.out
      exact Exec.same (v := .string A) rfl (by simp [go_sem, hρ.const, h12, hc]) rfl
    · refine StepOK.early (ownLT_pure _ _ _ _ _ _) (by rfl) (by decide) rfl fun ρ w hρ hw hf => ?_
      have h4 : ρ (.tmp 4) = (.int .u8 (k : Nat)) := (hf 4).1 rfl
      have h6 : ρ (.tmp 6) = (.int .i64 n) := (hf 6).1 rfl
      have h11 : ρ (.tmp 11) = (.complex .f64 re im) := (hf 11).1 rfl
      have h13 : ρ (.tmp 13) = (.string A) := (hf 13).1 rfl
      exact Exec.kbuild4 rfl rfl h4 h6 h11 h13 (build61 w k n re im A) rfl
    · refine StepOK.last (ownLT_pure _ _ _ _ _ _) rfl fun ρ w hρ hw hf => ?_
      have h2 : ρ (.tmp 2) = .pointer (some ⟨g2, 0, none⟩) := (hf 2).2 rfl rfl
      have h14 : ρ (.tmp 14) = (.agg #[.int .u8 (k : Nat), .int .i64 n, .complex .f64 re im, .string A]) := (hf 14).1 rfl
      have hg := hw.block g2 HG2.out (fun f => f)
      rw [HGB.out] at hg
      refine (Exec.kstorerow rfl h2 h14 hg info61 rfl (prow_one _ _ _ _ _)).mono ?_
      rintro _ w' rfl
      exact ⟨(fun d hd => by cases hd), setRow_heap _ _ _ _ _ _ hg, (HEXT.out.trans hw).setRow (.inr HGE.out) _⟩
  case fin =>
    intro ν w2 _ hfin
    obtain ⟨k1, k2⟩ := hfin
    simp only [Exit.then, ended, List.foldl_cons, List.foldl_nil, List.setIfInBounds_toArray, List.set_cons_succ, List.set_cons_zero]
    have K1 := Lib.hid k1; have K2 := Lib.hid k2
    clear k1 k2
    go_wp2
    refine bodyPost_ret (results_cell_row rfl _ _ g2 _ #[.int .u8 (k : Nat), .int .i64 n, .complex .f64 re im, .string A] _ _ rfl K1.out Tryz.underlying88 rfl info61) rfl ?_
    exact ⟨rfl, K2.out⟩
end Go.Proofs.YtegclfpmgilnpaaGreat
namespace Go.Proofs.YtegclfpmgilnpaaGreat
open Go.RowKit Go.Lac
theorem vErr_own (v : Val) (h1 : 1 ≤ v.ty) (h6 : v.ty ≤ 6) :
    vErr v = if v ≠ ownV v then 3 else if v.ty = 1 ∧ v.i ≠ 0 ∧ v.i ≠ 1 then 4 else if 2048 < v.t.length then 2 else if v.ty = 5 ∧ plainB v.t = false then 3 else 0 := by
  have key : ((2 < v.ty ∧ v.i ≠ 0) ∨ (v.ty ≠ 3 ∧ v.ty ≠ 4 ∧ v.re ≠ 0) ∨ (v.ty ≠ 4 ∧ v.im ≠ 0) ∨ (v.ty < 5 ∧ v.t ≠ [])) ↔ v ≠ ownV v := by
    obtain ⟨k, n, re, im, t⟩ := v
    unfold ownV
    simp only at h1 h6 ⊢
    have hk : k = 1 ∨ k = 2 ∨ k = 3 ∨ k = 4 ∨ k = 5 ∨ k = 6 := by omega
    rcases hk with rfl | rfl | rfl | rfl | rfl | rfl <;> simp <;> by_cases a : n = 0 <;> by_cases b : re = 0 <;> by_cases c : im = 0 <;> by_cases d : t = [] <;> simp [a, b, c, d]
  unfold vErr
  rw [if_neg (by omega)]
  by_cases h : v ≠ ownV v
  · rw [if_pos (key.2 h), if_pos h]
  · rw [if_neg (fun g => h (key.1 g)), if_neg h]
def rightT (V OV : Value) (d : Bool) : Tmp → Kn
  | 9 => .is V
  | 10 => .is V
  | 11 => .is OV
  | 12 => .is (.bool d)
  | 13 => .is (.bool (!d))
  | 8 => .is (.bool (!d))
  | _ => .any
set_option maxRecDepth 20000 in
set_option maxHeartbeats 4000000 in
theorem vright_any (v : Val) (w : World) :
    Calls Tryz.prog 75 #[pv v] w fun e w' => e = .returned (.int .i64 (vErr v : Nat)) ∧ Ext w w' := by
  by_cases hk : 1 ≤ v.ty ∧ v.ty ≤ 6
  · have hve := vErr_own v hk.1 hk.2
    obtain ⟨OV, hOV⟩ : ∃ OV, OV = pv (ownV v) := ⟨_, rfl⟩
    obtain ⟨d, hd⟩ : ∃ d, d = decide (v = ownV v) := ⟨_, rfl⟩
    have HO : Hid (∀ w, Calls Tryz.prog 97 #[pv v] w fun e w' => e = .returned OV ∧ Ext w w') := Lib.hid fun w => by rw [hOV]; exact own_any v w hk.1 hk.2
    have HSAME : Hid (∀ w, Calls Tryz.prog 70 #[pv v, OV] w fun e w' => e = .returned (.bool d) ∧ Ext w w') := Lib.hid fun w => by rw [hOV, hd]; exact same_any v _ w
    have HD := Lib.hid hd
    have hit := isType_any v.ty
    rw [decide_eq_true hk] at hit
    have HIT := Lib.hid hit
    obtain ⟨E, hE⟩ : ∃ E, E = vErr v := ⟨_, rfl⟩
    have HE : Hid (d = decide (v = ownV v) ∧ E = _) := Lib.hid ⟨hd, hE.trans hve⟩
    rw [← hE]
    clear hE hve hd hOV hit HD
    have htx := fun w h => isText_any v.t w h
    have HLEN : Hid ((⟨v.t.toArray⟩ : ByteArray).size = v.t.length) := Lib.hid (by simp [ByteArray.size])
    generalize ownV v = ov at HE
    obtain ⟨k, n, re, im, t⟩ := v
    unfold pv pvals strV at *
    simp only at hk HE HIT htx HO HSAME HLEN ⊢
    generalize (⟨t.toArray⟩ : ByteArray) = A at *
    have HTX := Lib.hid htx
    have HP : Hid (∀ d', d' = d → E = if d' = false then 3 else if k = 1 ∧ n ≠ 0 ∧ n ≠ 1 then 4 else if 2048 < t.length then 2 else if k = 5 ∧ plainB t = false then 3 else 0) := Lib.hid fun d' h => by
      obtain ⟨h1, h2⟩ := HE.out
      rw [h2, h, h1]
      simp
    obtain ⟨w1, hw1⟩ : ∃ w1, w1 = w.alloc (.cells #[.int .u8 (k : Nat), .int .i64 n, .complex .f64 re im, .string A] 88) := ⟨_, rfl⟩
    have hr1 : w1.heap[w.heap.size]? = some (.cells #[.int .u8 (k : Nat), .int .i64 n, .complex .f64 re im, .string A] 88 (0, 0)) := by rw [hw1]; exact heap_alloc_new _ _
    have hx1 : Ext w w1 := by rw [hw1]; exact (Ch.refl _ _).alloc _
    have HR1 := Lib.hid hr1; have HX1 := Lib.hid hx1; have HW1 := Lib.hid hw1; have HK := Lib.hid hk
    clear hr1 hx1 hw1 htx HE hk
    go_enter Tryz.func75, Tryz.ntmps75
    go_wp2_with (go_at_call 96; refine (HIT.out _).mono ?_; rintro e w' ⟨rfl, rfl⟩)
    rw [← HW1.out]
    refine wp_region_ext (rightT (.agg #[.int .u8 (k : Nat), .int .i64 n, .complex .f64 re im, .string A]) OV d) mixedV (by rfl) (by rfl) ?all ?fin
    case all =>
      refine ⟨?_, ?_, ?_, ?_, ?_, ?_, trivial⟩
      · refine StepOK.plain (kn_stable _) rfl fun ρ w hρ hw hf => ?_
        have h1 : ρ (.tmp 1) = .pointer (some ⟨_, 0, none⟩) := (hf 1).2 rfl rfl
        exact Exec.kloadrow rfl rfl h1 ((hw.block _ (Array.getElem?_eq_some_iff.1 HR1.out).1 (fun f => f)).trans HR1.out) Tryz.underlying88 rfl info61 rfl
      · refine StepOK.plain (kn_stable _) rfl fun ρ w hρ hw hf => ?_
        have h1 : ρ (.tmp 1) = .pointer (some ⟨_, 0, none⟩) := (hf 1).2 rfl rfl
        exact Exec.kloadrow rfl rfl h1 ((hw.block _ (Array.getElem?_eq_some_iff.1 HR1.out).1 (fun f => f)).trans HR1.out) Tryz.underlying88 rfl info61 rfl
      · refine StepOK.plain (kn_stable _) rfl fun ρ w hρ hw hf => ?_
        have h10 : ρ (.tmp 10) = .agg #[.int .u8 (k : Nat), .int .i64 n, .complex .f64 re im, .string A] := (hf 10).1 rfl
        exact Exec.kcall #[.agg #[.int .u8 (k : Nat), .int .i64 n, .complex .f64 re im, .string A]] hρ rfl rfl (by simp [h10]) Tryz.func97 (by kernel_rfl) (by kernel_rfl) ((HO.out w).mono (by rintro e w' ⟨rfl, hx⟩; exact ⟨_, rfl, rfl, hx⟩))
      · refine StepOK.plain (kn_stable _) rfl fun ρ w hρ hw hf => ?_
        have h9 : ρ (.tmp 9) = .agg #[.int .u8 (k : Nat), .int .i64 n, .complex .f64 re im, .string A] := (hf 9).1 rfl
        have h11 : ρ (.tmp 11) = OV := (hf 11).1 rfl
        exact Exec.kcall #[.agg #[.int .u8 (k : Nat), .int .i64 n, .complex .f64 re im, .string A], OV] hρ rfl rfl (by simp [h9, h11]) Tryz.func70 (by kernel_rfl) (by kernel_rfl) ((HSAME.out w).mono (by rintro e w' ⟨rfl, hx⟩; exact ⟨_, rfl, rfl, hx⟩))
      · refine StepOK.plain (kn_stable _) rfl fun ρ w hρ hw hf => ?_
        have h12 : ρ (.tmp 12) = .bool d := (hf 12).1 rfl
        exact Exec.same (v := .bool (!d)) rfl (by simp [go_sem, hρ.const, h12]) rfl
      · refine StepOK.plain (kn_stable _) rfl fun ρ w hρ hw hf => ?_
        have h13 : ρ (.tmp 13) = .bool (!d) := (hf 13).1 rfl
        exact Exec.kassign rfl rfl h13
    case fin =>
      intro ν w2 hfin hext
      have e8 : ν 8 = .bool (!d) := hfin 5 8 rfl
      have HX2 := Lib.hid (HX1.out.trans hext)
      have hr2 := (hext.block w.heap.size (Array.getElem?_eq_some_iff.1 HR1.out).1 (fun f => f)).trans HR1.out
      have c0 : w2.cell? ⟨w.heap.size, 0, none⟩ = some (.int .u8 (k : Nat)) := by rw [cell_of_row _ _ _ _ _ _ hr2]; rfl
      have c1 : w2.cell? ⟨w.heap.size, 1, none⟩ = some (.int .i64 n) := by rw [cell_of_row _ _ _ _ _ _ hr2]; rfl
      have c3 : w2.cell? ⟨w.heap.size, 3, none⟩ = some (.string A) := by rw [cell_of_row _ _ _ _ _ _ hr2]; rfl
      simp only [Exit.then, ended, List.foldl_cons, List.foldl_nil, List.setIfInBounds_toArray, List.set_cons_succ, List.set_cons_zero, e8]
      clear hfin hext hr2 e8
      cases d with
      | false =>
        have HF : Hid (E = 3) := Lib.hid (by rw [HP.out false rfl]; rfl)
        clear HP HO HSAME HIT HTX
        go_wp2
        go_ret
        exact ⟨by rw [HF.out]; rfl, HX2.out⟩
      | true =>
        have hE := HP.out true rfl
        rw [if_neg (by decide)] at hE
        have hs := HLEN.out
        clear HP HO HSAME HIT
        have fin4 : ∀ (b : Bool), b = decide (k = 1 ∧ n ≠ 0 ∧ n ≠ 1) → b = true → E = 4 := fun b h1 h2 => by rw [hE, if_pos (by simpa [h1] using h2)]
        by_cases g1 : k = 1 ∧ n ≠ 0 ∧ n ≠ 1
        · have HF : Hid (E = 4) := Lib.hid (by rw [hE, if_pos g1])
          obtain ⟨rfl, g2, g3⟩ := g1
          have e2 : (n != 0) = true := by simpa using g2
          have e3 : (n != 1) = true := by simpa using g3
          clear hE HTX g2 g3 fin4
          go_wp2
          go_ret
          exact ⟨by rw [HF.out]; rfl, HX2.out⟩
        · rw [if_neg g1] at hE
          clear fin4
          by_cases g4 : 2048 < t.length
          · have HF : Hid (E = 2) := Lib.hid (by rw [hE, if_pos g4])
            clear hE HTX
            generalize t.length = m at *
            by_cases g5 : k = 1
            · have g6 : n = 0 ∨ n = 1 := by
                by_cases a : n = 0
                · exact .inl a
                · exact .inr (Decidable.byContradiction fun b => g1 ⟨g5, a, b⟩)
              clear g1
              rcases g6 with rfl | rfl
              · go_wp2
                go_ret
                exact ⟨by rw [HF.out]; rfl, HX2.out⟩
              · go_wp2
                go_ret
                exact ⟨by rw [HF.out]; rfl, HX2.out⟩
            · have e1 : (((k : Nat) : Int) == 1) = false := by simp; omega
              clear g1 g5
              go_wp2
              go_ret
              exact ⟨by rw [HF.out]; rfl, HX2.out⟩
          · rw [if_neg g4] at hE
            have HPL := Lib.hid (HTX.out w2 (by omega))
            generalize plainB t = pb at *
            have HE := Lib.hid hE
            generalize t.length = m at *
            have g4' : m ≤ 2048 := by omega
            clear hE HTX g4
            by_cases g5 : k = 1
            · have g6 : n = 0 ∨ n = 1 := by
                by_cases a : n = 0
                · exact .inl a
                · exact .inr (Decidable.byContradiction fun b => g1 ⟨g5, a, b⟩)
              have HF : Hid (E = 0) := Lib.hid (by rw [HE.out, if_neg (by omega)])
              subst g5
              clear g1 HE
              rcases g6 with rfl | rfl
              · go_wp2
                go_ret
                exact ⟨by rw [HF.out]; rfl, HX2.out⟩
              · go_wp2
                go_ret
                exact ⟨by rw [HF.out]; rfl, HX2.out⟩
            · have e1 : (((k : Nat) : Int) == 1) = false := by simp; omega
              clear g1 g5
              by_cases g7 : k = 5
              · have HF : Hid (E = if pb = false then 3 else 0) := Lib.hid (by rw [HE.out]; simp [g7])
                subst g7
                clear HE
                cases pb with
                | false =>
                  go_wp2_with (go_at_call 98; refine HPL.out.mono ?_; rintro e w' ⟨rfl, rfl⟩)
                  go_ret
                  exact ⟨by rw [HF.out]; rfl, HX2.out⟩
                | true =>
                  go_wp2_with (go_at_call 98; refine HPL.out.mono ?_; rintro e w' ⟨rfl, rfl⟩)
                  go_ret
                  exact ⟨by rw [HF.out]; rfl, HX2.out⟩
              · have HF : Hid (E = 0) := Lib.hid (by rw [HE.out, if_neg (fun h => g7 h.1)])
                have e5 : (((k : Nat) : Int) == 5) = false := by simp; omega
                clear HE g7
                go_wp2
                go_ret
                exact ⟨by rw [HF.out]; rfl, HX2.out⟩
  · have he : vErr v = 11 := by unfold vErr; rw [if_pos (by omega)]
    have hit := isType_any v.ty
    rw [decide_eq_false hk] at hit
    have HIT := Lib.hid hit
    rw [he]
    obtain ⟨k, n, re, im, t⟩ := v
    unfold pv pvals strV at *
    simp only at hk HIT ⊢
    clear he hit hk
    have HX : Hid (Ext w (w.alloc (.cells #[.int .u8 (k : Nat), .int .i64 n, .complex .f64 re im, .string ⟨t.toArray⟩] 88))) := Lib.hid ((Ch.refl _ _).alloc _)
    generalize (⟨t.toArray⟩ : ByteArray) = A at *
    go_enter Tryz.func75, Tryz.ntmps75
    go_wp2_with (go_at_call 96; refine (HIT.out _).mono ?_; rintro e w' ⟨rfl, rfl⟩)
    go_ret
    exact ⟨rfl, HX.out⟩
end Go.Proofs.YtegclfpmgilnpaaGreat
namespace Go.Proofs.YtegclfpmgilnpaaGreat
open Go.RowKit Go.Lac
theorem infoR (v : Val) : (Tryz.prog.info? 74).map (·.size) = some (rvals v).size := info54
theorem infoP (v : Val) : (Tryz.prog.info? 88).map (·.size) = some (pvals v).size := info61
theorem nat_beq (a b : Nat) : (((a : Nat) : Int) == ((b : Nat) : Int)) = decide (a = b) := by
  rw [Bool.eq_iff_iff]; simp; omega
theorem run_rveq (a b : Val) (w : World) : (binOp .eql 74 (rv a) (rv b)).run Tryz.prog w = .ok (.bool (decide (a = b))) w := by
  obtain ⟨k, n, re, im, t⟩ := a
  obtain ⟨k', n', re', im', t'⟩ := b
  have hp : Tryz.prog.stoodInHeld 74 = false := by kernel_rfl
  have hq := toList_beq t t'
  have hd : decide ((⟨k, n, re, im, t⟩ : Val) = ⟨k', n', re', im', t'⟩) = (decide (k = k') && (decide (n = n') && (decide (re = re') && (decide (im = im') && decide (t = t'))))) := by
    rw [Bool.eq_iff_iff]; simp
  rw [hd, ← hq, ← nat_beq k, ← nat_beq re, ← nat_beq im]
  have hn : decide (n = n') = (n == n') := by rw [Bool.eq_iff_iff]; simp
  rw [hn]
  unfold rv rvals strV
  simp only
  generalize (⟨t.toArray⟩ : ByteArray) = A1
  generalize (⟨t'.toArray⟩ : ByteArray) = A2
  generalize ((k : Nat) : Int) = k
  generalize ((k' : Nat) : Int) = k'
  generalize ((re : Nat) : Int) = re
  generalize ((re' : Nat) : Int) = re'
  generalize ((im : Nat) : Int) = im
  generalize ((im' : Nat) : Int) = im'
  clear hq hd
  rw [run_eql_struct, run_equalIn_agg _ _ _ _ _ (by kernel_rfl) hp]
  simp [go_sem, Program.fieldsOf]
  by_cases h1 : k = k' <;> by_cases h2 : n = n' <;> by_cases h3 : re = re' <;> by_cases h4 : im = im' <;> by_cases h5 : A1.toList = A2.toList <;> simp [h1, h2, h3, h4, h5]
end Go.Proofs.YtegclfpmgilnpaaGreat
namespace Go.Proofs.YtegclfpmgilnpaaGreat
open Go.RowKit Go.Lac
theorem u64_and_nat (a b : Nat) (ha : a < 18446744073709551616) (hb : b < 18446744073709551616) : bits .and .u64 (a : Int) (b : Int) = ((a &&& b : Nat) : Int) := by
  have h : a &&& b < 2 ^ 64 := Nat.and_lt_two_pow _ (by simpa using hb)
  have e : bits .and .u64 (a : Int) (b : Int) = IntKind.u64.wrap ((BitVec.ofInt 64 (a : Int) &&& BitVec.ofInt 64 (b : Int)).toNat : Int) := rfl
  rw [e, BitVec.toNat_and, ofInt_u64 a (by omega), ofInt_u64 b (by omega), IntKind.wrap_u64]
  omega
theorem u64_or_nat (a b : Nat) (ha : a < 18446744073709551616) (hb : b < 18446744073709551616) : bits .or .u64 (a : Int) (b : Int) = ((a ||| b : Nat) : Int) := by
  have h := Nat.or_lt_two_pow (n := 64) (by simpa using ha) (by simpa using hb)
  have e : bits .or .u64 (a : Int) (b : Int) = IntKind.u64.wrap ((BitVec.ofInt 64 (a : Int) ||| BitVec.ofInt 64 (b : Int)).toNat : Int) := rfl
  rw [e, BitVec.toNat_or, ofInt_u64 a (by omega), ofInt_u64 b (by omega), IntKind.wrap_u64]
  omega
def dN : List Nat → Nat
  | [] => 0
  | b :: l => b + 256 * dN l
theorem dN_and (b c : Nat) (l m : List Nat) (hb : b < 256) (hc : c < 256) : dN (b :: l) &&& dN (c :: m) = (b &&& c) + 256 * (dN l &&& dN m) := by
  have h1 := Nat.and_mod_two_pow (a := dN (b :: l)) (b := dN (c :: m)) (n := 8)
  have h2 := Nat.and_div_two_pow (a := dN (b :: l)) (b := dN (c :: m)) (n := 8)
  simp only [dN] at h1 h2 ⊢
  rw [show (2 : Nat) ^ 8 = 256 by rfl] at h1 h2
  rw [show (b + 256 * dN l) % 256 = b by omega, show (c + 256 * dN m) % 256 = c by omega] at h1
  rw [show (b + 256 * dN l) / 256 = dN l by omega, show (c + 256 * dN m) / 256 = dN m by omega] at h2
  omega
theorem dN_or (b c : Nat) (l m : List Nat) (hb : b < 256) (hc : c < 256) : dN (b :: l) ||| dN (c :: m) = (b ||| c) + 256 * (dN l ||| dN m) := by
  have h1 := Nat.or_mod_two_pow (a := dN (b :: l)) (b := dN (c :: m)) (n := 8)
  have h2 := Nat.or_div_two_pow (a := dN (b :: l)) (b := dN (c :: m)) (n := 8)
  simp only [dN] at h1 h2 ⊢
  rw [show (2 : Nat) ^ 8 = 256 by rfl] at h1 h2
  rw [show (b + 256 * dN l) % 256 = b by omega, show (c + 256 * dN m) % 256 = c by omega] at h1
  rw [show (b + 256 * dN l) / 256 = dN l by omega, show (c + 256 * dN m) / 256 = dN m by omega] at h2
  omega
theorem and_ff {b : Nat} (h : b < 256) : b &&& 255 = b := by
  have := Nat.and_two_pow_sub_one_eq_mod b 8
  simp only [show (2 : Nat) ^ 8 - 1 = 255 by rfl] at this
  rw [this]
  omega
theorem and8 (a b : List Nat) (ha : ∀ x ∈ a, x < 256) (hb : ∀ x ∈ b, x < 256) (h : a.length = b.length) : dN a &&& dN b = dN (List.zipWith (· &&& ·) a b) := by
  induction a generalizing b with
  | nil => cases b with
    | nil => rfl
    | cons c m => simp at h
  | cons x l ih =>
    cases b with
    | nil => simp at h
    | cons c m =>
      rw [dN_and _ _ _ _ (ha x (by simp)) (hb c (by simp)), ih m (fun y hy => ha y (by simp [hy])) (fun y hy => hb y (by simp [hy])) (by simpa using h)]
      rfl
theorem or8 (a b : List Nat) (ha : ∀ x ∈ a, x < 256) (hb : ∀ x ∈ b, x < 256) (h : a.length = b.length) : dN a ||| dN b = dN (List.zipWith (· ||| ·) a b) := by
  induction a generalizing b with
  | nil => cases b with
    | nil => rfl
    | cons c m => simp at h
  | cons x l ih =>
    cases b with
    | nil => simp at h
    | cons c m =>
      rw [dN_or _ _ _ _ (ha x (by simp)) (hb c (by simp)), ih m (fun y hy => ha y (by simp [hy])) (fun y hy => hb y (by simp [hy])) (by simpa using h)]
      rfl
theorem dN_lt : ∀ l : List Nat, (∀ x ∈ l, x < 256) → dN l < 256 ^ l.length
  | [], _ => by simp [dN]
  | b :: l, h => by
    have h1 := dN_lt l fun x hx => h x (by simp [hx])
    have h2 := h b (by simp)
    rw [dN, List.length_cons, Nat.pow_succ]
    omega
section
variable {b0 b1 b2 b3 b4 b5 b6 b7 : Nat} (h0 : b0 < 256) (h1 : b1 < 256) (h2 : b2 < 256) (h3 : b3 < 256) (h4 : b4 < 256) (h5 : b5 < 256) (h6 : b6 < 256) (h7 : b7 < 256)
include h0 h1 h2 h3 h4 h5 h6 h7
theorem d8_lt : dN [b0, b1, b2, b3, b4, b5, b6, b7] < 18446744073709551616 := by
  have h := dN_lt [b0, b1, b2, b3, b4, b5, b6, b7] (by simp; omega)
  have e : 256 ^ [b0, b1, b2, b3, b4, b5, b6, b7].length = 18446744073709551616 := by simp
  rwa [e] at h
theorem st1 : (dN [b0, b1, b2, b3, b4, b5, b6, b7] / 256 &&& 71777214294589695) ||| ((dN [b0, b1, b2, b3, b4, b5, b6, b7] &&& 71777214294589695) * 256 % 18446744073709551616) = dN [b1, b0, b3, b2, b5, b4, b7, b6] := by
  have m : (71777214294589695 : Nat) = dN [255, 0, 255, 0, 255, 0, 255, 0] := by decide
  have s : dN [b0, b1, b2, b3, b4, b5, b6, b7] / 256 = dN [b1, b2, b3, b4, b5, b6, b7, 0] := by simp only [dN]; omega
  rw [m, s, and8 [b1, b2, b3, b4, b5, b6, b7, 0] [255, 0, 255, 0, 255, 0, 255, 0] (by simp; omega) (by simp) rfl, and8 [b0, b1, b2, b3, b4, b5, b6, b7] [255, 0, 255, 0, 255, 0, 255, 0] (by simp; omega) (by simp) rfl]
  simp only [List.zipWith_cons_cons, List.zipWith_nil_left, and_ff, h0, h1, h2, h3, h4, h5, h6, h7, Nat.and_zero, Nat.zero_and]
  have t : dN [b0, 0, b2, 0, b4, 0, b6, 0] * 256 % 18446744073709551616 = dN [0, b0, 0, b2, 0, b4, 0, b6] := by simp only [dN]; omega
  rw [t, or8 [b1, 0, b3, 0, b5, 0, b7, 0] [0, b0, 0, b2, 0, b4, 0, b6] (by simp; omega) (by simp; omega) rfl]
  simp only [List.zipWith_cons_cons, List.zipWith_nil_left, Nat.or_zero, Nat.zero_or]
theorem st2 : (dN [b0, b1, b2, b3, b4, b5, b6, b7] / 65536 &&& 281470681808895) ||| ((dN [b0, b1, b2, b3, b4, b5, b6, b7] &&& 281470681808895) * 65536 % 18446744073709551616) = dN [b2, b3, b0, b1, b6, b7, b4, b5] := by
  have m : (281470681808895 : Nat) = dN [255, 255, 0, 0, 255, 255, 0, 0] := by decide
  have s : dN [b0, b1, b2, b3, b4, b5, b6, b7] / 65536 = dN [b2, b3, b4, b5, b6, b7, 0, 0] := by simp only [dN]; omega
  rw [m, s, and8 [b2, b3, b4, b5, b6, b7, 0, 0] [255, 255, 0, 0, 255, 255, 0, 0] (by simp; omega) (by simp) rfl, and8 [b0, b1, b2, b3, b4, b5, b6, b7] [255, 255, 0, 0, 255, 255, 0, 0] (by simp; omega) (by simp) rfl]
  simp only [List.zipWith_cons_cons, List.zipWith_nil_left, and_ff, h0, h1, h2, h3, h4, h5, h6, h7, Nat.and_zero, Nat.zero_and]
  have t : dN [b0, b1, 0, 0, b4, b5, 0, 0] * 65536 % 18446744073709551616 = dN [0, 0, b0, b1, 0, 0, b4, b5] := by simp only [dN]; omega
  rw [t, or8 [b2, b3, 0, 0, b6, b7, 0, 0] [0, 0, b0, b1, 0, 0, b4, b5] (by simp; omega) (by simp; omega) rfl]
  simp only [List.zipWith_cons_cons, List.zipWith_nil_left, Nat.or_zero, Nat.zero_or]
theorem st3 : (dN [b0, b1, b2, b3, b4, b5, b6, b7] / 4294967296) ||| (dN [b0, b1, b2, b3, b4, b5, b6, b7] * 4294967296 % 18446744073709551616) = dN [b4, b5, b6, b7, b0, b1, b2, b3] := by
  have s : dN [b0, b1, b2, b3, b4, b5, b6, b7] / 4294967296 = dN [b4, b5, b6, b7, 0, 0, 0, 0] := by simp only [dN]; omega
  have t : dN [b0, b1, b2, b3, b4, b5, b6, b7] * 4294967296 % 18446744073709551616 = dN [0, 0, 0, 0, b0, b1, b2, b3] := by simp only [dN]; omega
  rw [s, t, or8 [b4, b5, b6, b7, 0, 0, 0, 0] [0, 0, 0, 0, b0, b1, b2, b3] (by simp; omega) (by simp; omega) rfl]
  simp only [List.zipWith_cons_cons, List.zipWith_nil_left, Nat.or_zero, Nat.zero_or]
theorem rev8_dN : rev8 (dN [b0, b1, b2, b3, b4, b5, b6, b7]) = dN [b7, b6, b5, b4, b3, b2, b1, b0] := by
  have e : ∀ b n, b < 256 → (b + 256 * n) % 256 = b := fun b n h => by omega
  have e' : ∀ b n, b < 256 → (b + 256 * n) / 256 = n := fun b n h => by omega
  have : leN 8 (dN [b0, b1, b2, b3, b4, b5, b6, b7]) = [UInt8.ofNat b0, UInt8.ofNat b1, UInt8.ofNat b2, UInt8.ofNat b3, UInt8.ofNat b4, UInt8.ofNat b5, UInt8.ofNat b6, UInt8.ofNat b7] := by
    simp only [leN, dN]
    rw [e' b0 _ h0, e' b1 _ h1, e' b2 _ h2, e' b3 _ h3, e' b4 _ h4, e' b5 _ h5, e' b6 _ h6]
    rw [e b0 _ h0, e b1 _ h1, e b2 _ h2, e b3 _ h3, e b4 _ h4, e b5 _ h5, e b6 _ h6, e b7 _ h7]
  unfold rev8
  rw [this]
  simp only [List.reverse_cons, List.reverse_nil, List.nil_append, List.cons_append, wordV, dN, toNat_ofNat_lt h0, toNat_ofNat_lt h1, toNat_ofNat_lt h2, toNat_ofNat_lt h3, toNat_ofNat_lt h4, toNat_ofNat_lt h5, toNat_ofNat_lt h6, toNat_ofNat_lt h7]
end
theorem digits8 (u : Nat) (h : u < 18446744073709551616) : ∃ b0 b1 b2 b3 b4 b5 b6 b7, b0 < 256 ∧ b1 < 256 ∧ b2 < 256 ∧ b3 < 256 ∧ b4 < 256 ∧ b5 < 256 ∧ b6 < 256 ∧ b7 < 256 ∧ u = dN [b0, b1, b2, b3, b4, b5, b6, b7] :=
  ⟨u % 256, u / 256 % 256, u / 65536 % 256, u / 16777216 % 256, u / 4294967296 % 256, u / 1099511627776 % 256, u / 281474976710656 % 256, u / 72057594037927936 % 256, by omega, by omega, by omega, by omega, by omega, by omega, by omega, by omega, by simp only [dN]; omega⟩
def revE1 (u : Int) : Int := bits .or .u64 (bits .and .u64 (u / 256) 71777214294589695) (IntKind.u64.wrap (bits .and .u64 u 71777214294589695 * 256))
def revE2 (x : Int) : Int := bits .or .u64 (bits .and .u64 (x / 65536) 281470681808895) (IntKind.u64.wrap (bits .and .u64 x 281470681808895 * 65536))
def revE3 (x : Int) : Int := bits .or .u64 (x / 4294967296) (IntKind.u64.wrap (x * 4294967296))
theorem half (op : Nat → Nat → Nat) (x s m : Nat) (hx : x < 18446744073709551616) (hs : 0 < s) (hs2 : s ≤ 4294967296) (hm : m < 18446744073709551616) :
    bits .or .u64 (bits .and .u64 ((x : Int) / (s : Nat)) (m : Nat)) (IntKind.u64.wrap (bits .and .u64 (x : Int) (m : Nat) * (s : Nat))) = (((x / s &&& m) ||| ((x &&& m) * s % 18446744073709551616) : Nat) : Int) := by
  have hd : x / s ≤ x := Nat.div_le_self _ _
  have e1 : ((x : Int) / (s : Nat)) = ((x / s : Nat) : Int) := by simp
  have hl : x / s &&& m < 2 ^ 64 := Nat.and_lt_two_pow _ (by simpa using hm)
  rw [e1, u64_and_nat _ _ (by omega) hm, u64_and_nat _ _ hx hm, IntKind.wrap_u64]
  have e2 : (((x &&& m : Nat) : Int) * (s : Nat)) % 18446744073709551616 = (((x &&& m) * s % 18446744073709551616 : Nat) : Int) := by simp
  rw [e2, u64_or_nat _ _ (by simpa using hl) (Nat.mod_lt _ (by decide))]
theorem revE_eq (u : Nat) (h : u < 18446744073709551616) : revE3 (revE2 (revE1 (u : Int))) = (rev8 u : Nat) := by
  obtain ⟨b0, b1, b2, b3, b4, b5, b6, b7, h0, h1, h2, h3, h4, h5, h6, h7, rfl⟩ := digits8 u h
  have e1 : revE1 ((dN [b0, b1, b2, b3, b4, b5, b6, b7] : Nat) : Int) = ((dN [b1, b0, b3, b2, b5, b4, b7, b6] : Nat) : Int) := by
    rw [← st1 h0 h1 h2 h3 h4 h5 h6 h7]
    exact half (· ||| ·) _ 256 71777214294589695 h (by decide) (by decide) (by decide)
  have l1 := d8_lt h1 h0 h3 h2 h5 h4 h7 h6
  have e2 : revE2 ((dN [b1, b0, b3, b2, b5, b4, b7, b6] : Nat) : Int) = ((dN [b3, b2, b1, b0, b7, b6, b5, b4] : Nat) : Int) := by
    rw [← st2 h1 h0 h3 h2 h5 h4 h7 h6]
    exact half (· ||| ·) _ 65536 281470681808895 l1 (by decide) (by decide) (by decide)
  have l2 := d8_lt h3 h2 h1 h0 h7 h6 h5 h4
  have e3 : revE3 ((dN [b3, b2, b1, b0, b7, b6, b5, b4] : Nat) : Int) = ((dN [b7, b6, b5, b4, b3, b2, b1, b0] : Nat) : Int) := by
    rw [← st3 h3 h2 h1 h0 h7 h6 h5 h4]
    unfold revE3
    generalize dN [b3, b2, b1, b0, b7, b6, b5, b4] = x at *
    have e1 : ((x : Int) / 4294967296) = ((x / 4294967296 : Nat) : Int) := by simp
    have e2 : ((x : Int) * 4294967296) % 18446744073709551616 = ((x * 4294967296 % 18446744073709551616 : Nat) : Int) := by simp
    rw [IntKind.wrap_u64, e1, e2, u64_or_nat _ _ (by omega) (Nat.mod_lt _ (by decide))]
  rw [e1, e2, e3, rev8_dN h0 h1 h2 h3 h4 h5 h6 h7]
set_option maxRecDepth 20000 in
set_option maxHeartbeats 1600000 in
theorem revBytes_any (u : Nat) (w : World) (hu : u < 18446744073709551616) :
    Calls Tryz.prog 122 #[.int .u64 (u : Nat)] w fun e w' => e = .returned (.int .u64 (rev8 u : Nat)) ∧ w = w' := by
  have HE := Lib.hid (revE_eq u hu)
  clear hu
  go_enter Tryz.func122, Tryz.ntmps122
  go_wp2
  go_ret
  exact ⟨congrArg (fun z => Ending.returned (Value.int .u64 z)) HE.out, rfl⟩
end Go.Proofs.YtegclfpmgilnpaaGreat
namespace Go.Proofs.YtegclfpmgilnpaaGreat
open Go.RowKit Go.Lac
def tByte (most : Nat) (s : RS) : Nat × RS := ((byteR s).1, if most < (byteR s).1 then failR (byteR s).2 4 else (byteR s).2)
def tInt (ver : Nat) (s : RS) : Int × RS := if ver = 1 then (u64i (wordR s).1, (wordR s).2) else intR s
def tPart (ver : Nat) (th : Bool) (s : RS) : Nat × RS := if th = true then ((fltR ver s).1, if (fltR ver s).1 = 0 then failR (fltR ver s).2 3 else (fltR ver s).2) else (0, s)
def tCplx (ver : Nat) (s : RS) : (Nat × Nat) × RS :=
  if ver = 1 then (((wordR s).1, (wordR (wordR s).2).1), (wordR (wordR s).2).2)
  else (((tPart ver (decide ((tByte 3 s).1 % 2 = 1)) (tByte 3 s).2).1, (tPart ver (decide ((tByte 3 s).1 / 2 % 2 = 1)) (tPart ver (decide ((tByte 3 s).1 % 2 = 1)) (tByte 3 s).2).2).1),
    (tPart ver (decide ((tByte 3 s).1 / 2 % 2 = 1)) (tPart ver (decide ((tByte 3 s).1 % 2 = 1)) (tByte 3 s).2).2).2)
def tText (s : RS) : List UInt8 × RS := ((textR 2048 s).1, if plainB (textR 2048 s).1 = false then failR (textR 2048 s).2 3 else (textR 2048 s).2)
theorem byteR_lt (s : RS) : (byteR s).1 < 256 := by
  unfold byteR
  cases (takeR 1 s).1 with
  | nil => simp
  | cons b l => exact UInt8.toNat_lt b
set_option maxRecDepth 20000 in
set_option maxHeartbeats 1000000 in
theorem takeByte_any (r : Nat) (s : RS) (most : Nat) (w : World) (h : IsR w r s) :
    Calls Tryz.prog 105 #[RPtr r, .int .u8 (most : Nat)] w (RPost r (.int .u8 (tByte most s).1) (tByte most s).2 w) := by
  have HB := Lib.hid (byte_any r s w h)
  unfold tByte
  generalize (byteR s).1 = b at *
  generalize (byteR s).2 = s1 at *
  clear h
  have HF := Lib.hid (fun w h => fail_any r s1 4 w h)
  unfold RPtr at *
  by_cases hb : most < b
  · simp only [if_pos hb]
    go_enter Tryz.func105, Tryz.ntmps105
    go_wp2_with (go_at_call 52; refine HB.out.mono ?_)
    rintro e w1 ⟨rfl, k1, k2⟩
    have K1 := Lib.hid k1; have K2 := Lib.hid k2; clear k1 k2
    go_wp2_with (go_at_call 26; refine (HF.out _ K2.out).mono ?_)
    rintro e w2 ⟨rfl, k1, k2⟩
    have K3 := Lib.hid (K1.out.trans k1); have K4 := Lib.hid k2; clear k1 k2
    go_wp2
    go_ret
    exact ⟨rfl, K3.out, K4.out⟩
  · simp only [if_neg hb]
    have hb' : b ≤ most := by omega
    clear hb
    go_enter Tryz.func105, Tryz.ntmps105
    go_wp2_with (go_at_call 52; refine HB.out.mono ?_)
    rintro e w1 ⟨rfl, k1, k2⟩
    have K1 := Lib.hid k1; have K2 := Lib.hid k2; clear k1 k2
    go_wp2
    go_ret
    exact ⟨rfl, K1.out, K2.out⟩
theorem u64i_wrap {u : Nat} (h : u < 18446744073709551616) : IntKind.i64.wrap (u : Int) = u64i u := by
  rw [IntKind.wrap_i64]
  unfold u64i
  split <;> omega
set_option maxRecDepth 20000 in
set_option maxHeartbeats 1000000 in
theorem takeInt_any (r : Nat) (s : RS) (ver : Nat) (w : World) (h : IsR w r s) :
    Calls Tryz.prog 106 #[RPtr r, .int .u8 (ver : Nat)] w (RPost r (.int .i64 (tInt ver s).1) (tInt ver s).2 w) := by
  unfold tInt
  by_cases hv : ver = 1
  · simp only [if_pos hv]
    subst hv
    have HB := Lib.hid (word_any r s w h)
    have HU := u64i_wrap (wordR_lt s)
    generalize (wordR s).1 = b at *
    generalize (wordR s).2 = s1 at *
    generalize u64i b = n at *
    clear h
    unfold RPtr at *
    go_enter Tryz.func106, Tryz.ntmps106
    go_wp2_with (go_at_call 120; refine HB.out.mono ?_)
    rintro e w1 ⟨rfl, k1, k2⟩
    have K1 := Lib.hid k1; have K2 := Lib.hid k2; clear k1 k2
    go_wp2
    go_ret
    exact ⟨rfl, K1.out, K2.out⟩
  · simp only [if_neg hv]
    have e1 : (((ver : Nat) : Int) == 1) = false := by simp; omega
    have HB := Lib.hid (int_any r s w h)
    generalize (intR s).1 = b at *
    generalize (intR s).2 = s1 at *
    clear h hv
    unfold RPtr at *
    go_enter Tryz.func106, Tryz.ntmps106
    go_wp2_with (go_at_call 121; refine HB.out.mono ?_)
    rintro e w1 ⟨rfl, k1, k2⟩
    have K1 := Lib.hid k1; have K2 := Lib.hid k2; clear k1 k2
    go_wp2
    go_ret
    exact ⟨rfl, K1.out, K2.out⟩
set_option maxRecDepth 20000 in
set_option maxHeartbeats 1000000 in
theorem takeFloat_any (r : Nat) (s : RS) (ver : Nat) (w : World) (h : IsR w r s) :
    Calls Tryz.prog 107 #[RPtr r, .int .u8 (ver : Nat)] w (RPost r (.int .u64 (fltR ver s).1) (fltR ver s).2 w) := by
  unfold fltR
  by_cases hv : ver = 1
  · simp only [if_pos hv]
    subst hv
    have HB := Lib.hid (word_any r s w h)
    generalize (wordR s).1 = b at *
    generalize (wordR s).2 = s1 at *
    clear h
    unfold RPtr at *
    go_enter Tryz.func107, Tryz.ntmps107
    go_wp2_with (go_at_call 120; refine HB.out.mono ?_)
    rintro e w1 ⟨rfl, k1, k2⟩
    have K1 := Lib.hid k1; have K2 := Lib.hid k2; clear k1 k2
    go_wp2
    go_ret
    exact ⟨rfl, K1.out, K2.out⟩
  · simp only [if_neg hv]
    have e1 : (((ver : Nat) : Int) == 1) = false := by simp; omega
    have HB := Lib.hid (uint_any r s 18446744073709551615 w h)
    have HR := Lib.hid (fun w => revBytes_any (uintR 18446744073709551615 s).1 w (by have := uintR_lt 18446744073709551615 s; omega))
    generalize (uintR 18446744073709551615 s).1 = b at *
    generalize (uintR 18446744073709551615 s).2 = s1 at *
    clear h hv
    unfold RPtr at *
    go_enter Tryz.func107, Tryz.ntmps107
    go_wp2_with (go_at_call 103; refine HB.out.mono ?_)
    rintro e w1 ⟨rfl, k1, k2⟩
    have K1 := Lib.hid k1; have K2 := Lib.hid k2; clear k1 k2
    go_wp2_with (go_at_call 122; refine (HR.out _).mono ?_; rintro e w' ⟨rfl, rfl⟩)
    go_ret
    exact ⟨rfl, K1.out, K2.out⟩
set_option maxRecDepth 20000 in
set_option maxHeartbeats 1000000 in
theorem takePart_any (r : Nat) (s : RS) (th : Bool) (ver : Nat) (w : World) (h : IsR w r s) :
    Calls Tryz.prog 123 #[RPtr r, .bool th, .int .u8 (ver : Nat)] w (RPost r (.int .u64 (tPart ver th s).1) (tPart ver th s).2 w) := by
  unfold tPart
  cases th with
  | false =>
    simp only [Bool.false_eq_true, if_false]
    have H := Lib.hid h
    clear h
    unfold RPtr
    go_enter Tryz.func123, Tryz.ntmps123
    go_wp2
    go_ret
    exact ⟨rfl, Ch.refl _ _, H.out⟩
  | true =>
    simp only [if_true]
    have HB := Lib.hid (takeFloat_any r s ver w h)
    generalize (fltR ver s).1 = b at *
    generalize (fltR ver s).2 = s1 at *
    clear h
    have HF := Lib.hid (fun w h => fail_any r s1 3 w h)
    unfold RPtr at *
    by_cases hb : b = 0
    · simp only [if_pos hb]
      subst hb
      go_enter Tryz.func123, Tryz.ntmps123
      go_wp2_with (go_at_call 107; refine HB.out.mono ?_)
      rintro e w1 ⟨rfl, k1, k2⟩
      have K1 := Lib.hid k1; have K2 := Lib.hid k2; clear k1 k2
      go_wp2_with (go_at_call 26; refine (HF.out _ K2.out).mono ?_)
      rintro e w2 ⟨rfl, k1, k2⟩
      have K3 := Lib.hid (K1.out.trans k1); have K4 := Lib.hid k2; clear k1 k2
      go_wp2
      go_ret
      exact ⟨rfl, K3.out, K4.out⟩
    · simp only [if_neg hb]
      have e1 : (((b : Nat) : Int) == 0) = false := by simp; omega
      clear hb
      go_enter Tryz.func123, Tryz.ntmps123
      go_wp2_with (go_at_call 107; refine HB.out.mono ?_)
      rintro e w1 ⟨rfl, k1, k2⟩
      have K1 := Lib.hid k1; have K2 := Lib.hid k2; clear k1 k2
      go_wp2
      go_ret
      exact ⟨rfl, K1.out, K2.out⟩
set_option maxRecDepth 20000 in
set_option maxHeartbeats 1000000 in
theorem takeText_any (r : Nat) (s : RS) (w : World) (h : IsR w r s) :
    Calls Tryz.prog 109 #[RPtr r] w (RPost r (strV (tText s).1) (tText s).2 w) := by
  have hb := text_any r s 2048 w h (by omega)
  have hl : (textR 2048 s).1.length ≤ 2048 := textR_length 2048 s
  unfold tText
  rw [show (2048 : Int).toNat = 2048 by rfl] at hb
  generalize (textR 2048 s).1 = t at *
  generalize (textR 2048 s).2 = s1 at *
  have HB := Lib.hid hb
  have HT := Lib.hid (fun w => isText_any t w (by omega))
  have HF := Lib.hid (fun w h => fail_any r s1 3 w h)
  clear h hb hl
  unfold RPtr strV at *
  generalize (⟨t.toArray⟩ : ByteArray) = A at *
  cases hp : plainB t with
  | false =>
    rw [hp] at HT
    simp only [if_true]
    clear hp
    go_enter Tryz.func109, Tryz.ntmps109
    go_wp2_with (go_at_call 110; refine HB.out.mono ?_)
    rintro e w1 ⟨rfl, k1, k2⟩
    have K1 := Lib.hid k1; have K2 := Lib.hid k2; clear k1 k2
    go_wp2_with (first
      | (go_at_call 98; refine (HT.out _).mono ?_; rintro e w' ⟨rfl, rfl⟩)
      | (go_at_call 26; refine (HF.out _ K2.out).mono ?_))
    rintro e w2 ⟨rfl, k1, k2⟩
    have K3 := Lib.hid (K1.out.trans k1); have K4 := Lib.hid k2; clear k1 k2
    go_wp2
    go_ret
    exact ⟨rfl, K3.out, K4.out⟩
  | true =>
    rw [hp] at HT
    simp only [Bool.true_eq_false, if_false]
    clear hp
    go_enter Tryz.func109, Tryz.ntmps109
    go_wp2_with (go_at_call 110; refine HB.out.mono ?_)
    rintro e w1 ⟨rfl, k1, k2⟩
    have K1 := Lib.hid k1; have K2 := Lib.hid k2; clear k1 k2
    go_wp2_with (go_at_call 98; refine (HT.out _).mono ?_; rintro e w' ⟨rfl, rfl⟩)
    go_ret
    exact ⟨rfl, K1.out, K2.out⟩
theorem and1_nat : ∀ x : Nat, x < 256 → x &&& 1 = x % 2 := by decide +kernel
theorem and2_nat : ∀ x : Nat, x < 256 → x &&& 2 = x / 2 % 2 * 2 := by decide +kernel
theorem and8_1 (m : Nat) (h : m < 256) : ((bits .and .u8 (m : Int) 1) != 0) = decide (m % 2 = 1) := by
  rw [show (1 : Int) = ((1 : Nat) : Int) by rfl, u8_and_nat m 1 h (by decide), and1_nat m h, Bool.eq_iff_iff]
  simp
  omega
theorem and8_2 (m : Nat) (h : m < 256) : ((bits .and .u8 (m : Int) 2) != 0) = decide (m / 2 % 2 = 1) := by
  rw [show (2 : Int) = ((2 : Nat) : Int) by rfl, u8_and_nat m 2 h (by decide), and2_nat m h, Bool.eq_iff_iff]
  simp
  omega
set_option maxRecDepth 20000 in
set_option maxHeartbeats 1000000 in
theorem takeComplex_any (r : Nat) (s : RS) (ver : Nat) (w : World) (h : IsR w r s) :
    Calls Tryz.prog 108 #[RPtr r, .int .u8 (ver : Nat)] w (RPost r (.complex .f64 (tCplx ver s).1.1 (tCplx ver s).1.2) (tCplx ver s).2 w) := by
  unfold tCplx
  by_cases hv : ver = 1
  · simp only [if_pos hv]
    subst hv
    have HB := Lib.hid (word_any r s w h)
    have HB2 := Lib.hid (fun w h => word_any r (wordR s).2 w h)
    generalize (wordR (wordR s).2).1 = b2 at *
    generalize (wordR (wordR s).2).2 = s2 at *
    generalize (wordR s).1 = b at *
    generalize (wordR s).2 = s1 at *
    clear h
    unfold RPtr at *
    go_enter Tryz.func108, Tryz.ntmps108
    go_wp2_with fail
    refine HB.out.mono ?_
    rintro e w1 ⟨rfl, k1, k2⟩
    have K1 := Lib.hid k1; have K2 := Lib.hid k2; clear k1 k2
    go_wp2_with fail
    refine (HB2.out _ K2.out).mono ?_
    rintro e w2 ⟨rfl, k1, k2⟩
    have K3 := Lib.hid (K1.out.trans k1); have K4 := Lib.hid k2; clear k1 k2
    go_wp2_with (go_at_call 90; refine (of_any _ _ _).mono ?_; rintro e w' ⟨rfl, rfl⟩)
    go_ret
    exact ⟨rfl, K3.out, K4.out⟩
  · simp only [if_neg hv]
    have e1 : (((ver : Nat) : Int) == 1) = false := by simp; omega
    have HB := Lib.hid (takeByte_any r s 3 w h)
    have hm : (tByte 3 s).1 < 256 := byteR_lt s
    generalize (tByte 3 s).1 = m at *
    generalize (tByte 3 s).2 = s1 at *
    have a1 := and8_1 m hm
    have a2 := and8_2 m hm
    have HP1 := Lib.hid (fun w h => takePart_any r s1 (decide (m % 2 = 1)) ver w h)
    have HP2 := Lib.hid (fun w h => takePart_any r (tPart ver (decide (m % 2 = 1)) s1).2 (decide (m / 2 % 2 = 1)) ver w h)
    generalize decide (m % 2 = 1) = d1 at *
    generalize decide (m / 2 % 2 = 1) = d2 at *
    generalize (tPart ver d2 (tPart ver d1 s1).2).1 = q2 at *
    generalize (tPart ver d2 (tPart ver d1 s1).2).2 = s3 at *
    generalize (tPart ver d1 s1).1 = q1 at *
    generalize (tPart ver d1 s1).2 = s2 at *
    clear h hv hm
    unfold RPtr at *
    go_enter Tryz.func108, Tryz.ntmps108
    go_wp2_with (go_at_call 105; refine HB.out.mono ?_)
    rintro e w1 ⟨rfl, k1, k2⟩
    have K1 := Lib.hid k1; have K2 := Lib.hid k2; clear k1 k2
    go_wp2_with fail
    refine (HP1.out _ K2.out).mono ?_
    rintro e w2 ⟨rfl, k1, k2⟩
    have K3 := Lib.hid (K1.out.trans k1); have K4 := Lib.hid k2; clear k1 k2
    go_wp2_with fail
    refine (HP2.out _ K4.out).mono ?_
    rintro e w3 ⟨rfl, k1, k2⟩
    have K5 := Lib.hid (K3.out.trans k1); have K6 := Lib.hid k2; clear k1 k2
    go_wp2_with (go_at_call 90; refine (of_any _ _ _).mono ?_; rintro e w' ⟨rfl, rfl⟩)
    go_ret
    exact ⟨rfl, K5.out, K6.out⟩
end Go.Proofs.YtegclfpmgilnpaaGreat
namespace Go.Proofs.YtegclfpmgilnpaaGreat
open Go.RowKit Go.Lac
def IsW (w : World) (r : Nat) (s : RS) : Prop :=
  ∃ ao cap, w.heap[r]? = some (.cells #[.slice ao s.1.length cap, .int .i64 s.2] 81 (0, 0))
theorem IsR.weak {w : World} {r : Nat} {s : RS} (h : IsR w r s) : IsW w r s := by
  obtain ⟨lv, h1, ⟨h2, _⟩, _⟩ := h
  obtain ⟨ao, cap, rfl⟩ := h2.shape
  exact ⟨ao, cap, h1⟩
theorem IsW.lt {w : World} {r : Nat} {s : RS} (h : IsW w r s) : r < w.heap.size := by
  obtain ⟨_, _, h1⟩ := h
  exact (Array.getElem?_eq_some_iff.1 h1).1
theorem IsW.ext {w w' : World} {r : Nat} {s : RS} (h : IsW w r s) (k : Ext w w') : IsW w' r s := by
  have hlt := h.lt
  obtain ⟨ao, cap, h1⟩ := h
  exact ⟨ao, cap, by rw [k.block r hlt (fun f => f)]; exact h1⟩
theorem IsW.same {w w' : World} {r : Nat} {s : RS} (h : IsW w r s) (k : w'.heap[r]? = w.heap[r]?) : IsW w' r s := by
  obtain ⟨ao, cap, h1⟩ := h
  exact ⟨ao, cap, by rw [k]; exact h1⟩
set_option maxRecDepth 20000 in
set_option maxHeartbeats 1000000 in
theorem err_w (r : Nat) (s : RS) (w : World) (h : IsW w r s) :
    Calls Tryz.prog 14 #[RPtr r] w fun e w' => e = .returned (.int .i64 s.2) ∧ w = w' := by
  obtain ⟨ao, cap, h1⟩ := h
  have c1 : w.cell? ⟨r, 1, none⟩ = some (.int .i64 s.2) := by rw [cell_of_row w r 1 _ _ _ h1]; rfl
  clear h1
  unfold RPtr
  go_enter Tryz.func14, Tryz.ntmps14
  go_wp2
  go_ret
  exact ⟨rfl, rfl⟩
theorem IsR.above {w w' : World} {r : Nat} {s : RS} (h : IsR w r s) (k : Ch (fun i => r < i) w w') : IsR w' r s := by
  have hlt := h.lt
  obtain ⟨lv, h1, ⟨h2, h4⟩, h3⟩ := h
  refine ⟨lv, by rw [k.block r hlt (fun f => by omega)]; exact h1, ⟨?_, h4⟩, h3⟩
  obtain ⟨ao, cap, g1, g2, g3, g4, g5⟩ := h2
  refine ⟨ao, cap, g1, g2, g3, g4, fun x hx j c hc => ?_⟩
  obtain ⟨b, off, rfl, g6⟩ := g5 x hx j c hc
  have hne : s.1 ≠ [] := by rintro e; rw [e] at hc; simp [cellsB] at hc
  have hb : b < r := h4.2 hne ⟨b, off, none⟩ _ _ (by rw [g1, hx])
  exact ⟨b, off, rfl, k.cell (p := ⟨b, off + j, none⟩) (fun (f : r < b) => by omega) c g6⟩
def TkPost (r : Nat) (v : Val) (s : RS) (w : World) (e : Ending) (w' : World) : Prop := e = .returned (pv v) ∧ Only r w w' ∧ IsR w' r s
def tRaw (ver k : Nat) (s : RS) : Val × RS :=
  if k = 1 then (⟨k, ((tByte 1 s).1 : Int), 0, 0, []⟩, (tByte 1 s).2)
  else if k = 2 then (⟨k, (tInt ver s).1, 0, 0, []⟩, (tInt ver s).2)
  else if k = 3 then (⟨k, 0, (fltR ver s).1, 0, []⟩, (fltR ver s).2)
  else if k = 4 then (⟨k, 0, (tCplx ver s).1.1, (tCplx ver s).1.2, []⟩, (tCplx ver s).2)
  else if k = 5 then (⟨k, 0, 0, 0, (tText s).1⟩, (tText s).2)
  else if k = 6 then (⟨k, 0, 0, 0, (textR 2048 s).1⟩, (textR 2048 s).2)
  else (⟨k, 0, 0, 0, []⟩, s)
def tPre (ver k : Nat) (s : RS) : RS :=
  let s1 := if ver = 1 ∨ ver = 2 then s else failR s 18
  if 1 ≤ k ∧ k ≤ 6 then s1 else failR s1 11
def tTake (ver k : Nat) (s : RS) : Val × RS :=
  (if (tRaw ver k (tPre ver k s)).2.2 ≠ 0 then .zero else (tRaw ver k (tPre ver k s)).1, (tRaw ver k (tPre ver k s)).2)
theorem heap_of_ext {w w' : World} {g : Nat} {o : Obj} (k : Ext w w') (h : w.heap[g]? = some o) : w'.heap[g]? = some o := by
  rw [k.block g (Array.getElem?_eq_some_iff.1 h).1 (fun f => f)]; exact h
theorem heap_of_only {w w' : World} {r g : Nat} {o : Obj} (k : Only r w w') (hg : g ≠ r) (h : w.heap[g]? = some o) : w'.heap[g]? = some o := by
  rw [k.block g (Array.getElem?_eq_some_iff.1 h).1 hg]; exact h
set_option maxRecDepth 20000 in
set_option maxHeartbeats 2000000 in
theorem take_ok_1 (r : Nat) (s : RS) (ver k : Nat) (w : World) (h : IsR w r s) (hv : ver = 1 ∨ ver = 2) (hk : k = 1) :
    Calls Tryz.prog 82 #[RPtr r, .int .u8 (k : Nat), .int .u8 (ver : Nat)] w (TkPost r (tTake ver k s).1 (tTake ver k s).2 w) := by
  have hiv := isVersion_any ver
  have hit := isType_any k
  rw [decide_eq_true hv] at hiv
  rw [decide_eq_true (show 1 ≤ k ∧ k ≤ 6 by omega)] at hit
  have hpre : tPre ver k s = s := by unfold tPre; simp only; rw [if_pos (show 1 ≤ k ∧ k ≤ 6 by omega), if_pos hv]
  have htt : tTake ver k s = (if (tRaw ver k s).2.2 ≠ 0 then .zero else (tRaw ver k s).1, (tRaw ver k s).2) := by unfold tTake; rw [hpre]
  rw [htt]
  have HIV := Lib.hid hiv; have HIT := Lib.hid hit
  clear hiv hit hpre htt
  have HRL := Lib.hid h.lt
  obtain ⟨S0, hS0⟩ : ∃ S0, S0 = s := ⟨_, rfl⟩
  rw [← hS0]
  have HS0 := Lib.hid hS0
  have hraw : tRaw ver k S0 = (⟨k, ((tByte 1 S0).1 : Int), 0, 0, []⟩, (tByte 1 S0).2) := by unfold tRaw;  rw [if_pos hk]
  rw [hraw]
  simp only
  clear hraw hS0
  have hrd := fun w h => takeByte_any r S0 1 w h
  have HRD := Lib.hid hrd
  clear hrd
  have hbl : (tByte 1 S0).1 < 256 := byteR_lt S0
  generalize (tByte 1 S0).1 = u at *
  generalize (tByte 1 S0).2 = s3 at *
  have hwr : IntKind.i64.wrap (u : Int) = (u : Int) := by rw [IntKind.wrap_i64]; omega
  obtain ⟨PO, hPO⟩ : ∃ PO, PO = TkPost r (if s3.2 ≠ 0 then Val.zero else ⟨k, (u : Int), 0, 0, []⟩) s3 w := ⟨_, rfl⟩
  have HPO : Hid (∀ v w', (if s3.2 ≠ 0 then Val.zero else ⟨k, (u : Int), 0, 0, []⟩) = v → Only r w w' → IsR w' r s3 → PO (.returned (pv v)) w') := Lib.hid fun v w' h1 h2 h3 => by
    rw [hPO, h1]
    exact ⟨rfl, h2, h3⟩
  rw [← hPO]
  clear hPO
  have H := Lib.hid h
  clear h
  have e1 : (((k : Nat) : Int) == 1) = true := by rw [hk]; rfl
  clear hk hv
  unfold RPtr at *
  have hg6 := heap_alloc_new w (.cells #[.int .u8 0, .int .i64 0, .complex .f64 0 0, .string ⟨#[]⟩] 88)
  have hx0 : Ext w (w.alloc (.cells #[.int .u8 0, .int .i64 0, .complex .f64 0 0, .string ⟨#[]⟩] 88)) := (Ch.refl _ _).alloc _
  have HX0 : Hid (Only r w (w.alloc (.cells #[.int .u8 0, .int .i64 0, .complex .f64 0 0, .string ⟨#[]⟩] 88))) := Lib.hid hx0.ch
  have HG0 := Lib.hid hg6
  have H0 := Lib.hid (H.out.ext hx0)
  clear hg6 hx0
  go_enter Tryz.func82, Tryz.ntmps82
  have HSW : Hid ((w.alloc (.cells #[.int .u8 0, .int .i64 0, .complex .f64 0 0, .string ⟨#[]⟩] 88)).heap.size = w.heap.size + 1) := Lib.hid (by simp)
  have HS0' := HS0.out
  subst HS0'
  have hq : ((w.alloc (.cells #[.int .u8 0, .int .i64 0, .complex .f64 0 0, .string ⟨#[]⟩] 88)).alloc (.cells #[.int .u8 0, .int .i64 0, .complex .f64 0 0, .string ⟨#[]⟩] 88)).heap[(w.heap.size + 1)]? = some (.cells #[.int .u8 0, .int .i64 0, .complex .f64 0 0, .string ⟨#[]⟩] 88 (0, 0)) := by have := heap_alloc2_new w (.cells #[.int .u8 0, .int .i64 0, .complex .f64 0 0, .string ⟨#[]⟩] 88) (.cells #[.int .u8 0, .int .i64 0, .complex .f64 0 0, .string ⟨#[]⟩] 88); exact this
  have HQ := Lib.hid hq
  obtain ⟨W3, hW3⟩ : ∃ W3, W3 = ((w.alloc (.cells #[.int .u8 0, .int .i64 0, .complex .f64 0 0, .string ⟨#[]⟩] 88)).alloc (.cells #[.int .u8 0, .int .i64 0, .complex .f64 0 0, .string ⟨#[]⟩] 88)).setRow (w.heap.size + 1) #[.int .u8 (k : Nat), .int .i64 0, .complex .f64 0 0, .string ⟨#[]⟩] := ⟨_, rfl⟩
  have hx3 : Ext (w.alloc (.cells #[.int .u8 0, .int .i64 0, .complex .f64 0 0, .string ⟨#[]⟩] 88)) W3 := by rw [hW3]; exact ((Ch.refl _ _).alloc _).setRow (.inr (by rw [HSW.out]; exact Nat.le_refl _)) _
  have HG3 : Hid (W3.heap[w.heap.size]? = some (.cells #[.int .u8 0, .int .i64 0, .complex .f64 0 0, .string ⟨#[]⟩] 88 (0, 0))) := Lib.hid (heap_of_ext hx3 HG0.out)
  have hg7 : W3.heap[(w.heap.size + 1)]? = some (.cells #[.int .u8 (k : Nat), .int .i64 0, .complex .f64 0 0, .string ⟨#[]⟩] 88 (0, 0)) := by rw [hW3]; exact setRow_heap _ _ _ _ _ _ hq
  have HG7 := Lib.hid hg7
  have HX3 : Hid (Only r w W3) := Lib.hid (HX0.out.trans hx3.ch)
  have H3 := Lib.hid (H0.out.ext hx3)
  have HLT : Hid (r < (w.heap.size + 1) ∧ w.heap.size < (w.heap.size + 1)) := Lib.hid (by have := HRL.out; omega)
  have HW3 := Lib.hid hW3
  clear hq hx3 hg7 hW3
  go_wp2_with (first
    | (go_at_call 104; refine (HIV.out _).mono ?_; rintro e w' ⟨rfl, rfl⟩)
    | (go_at_call 96; refine (HIT.out _).mono ?_; rintro e w' ⟨rfl, rfl⟩)
    | (refine wpList_store_rowTo rfl _ _ _ rfl rfl (w.heap.size + 1) #[.int .u8 (k : Nat), .int .i64 0, .complex .f64 0 0, .string ⟨#[]⟩] rfl rfl _ _ HQ.out info61 rfl (prow_one _ _ _ _ _) ?_; rw [← HW3.out])
    | (go_at_call 105; refine (HRD.out _ H3.out).mono ?_))
  rintro e w4 ⟨rfl, k1, k2⟩
  have HX4 := Lib.hid (HX3.out.trans k1); have H4 := Lib.hid k2
  have HG4 : Hid (w4.heap[w.heap.size]? = some (.cells #[.int .u8 0, .int .i64 0, .complex .f64 0 0, .string ⟨#[]⟩] 88 (0, 0))) := Lib.hid (heap_of_only k1 (by have := HRL.out; omega) HG3.out)
  have HG5 : Hid (w4.heap[(w.heap.size + 1)]? = some (.cells #[.int .u8 (k : Nat), .int .i64 0, .complex .f64 0 0, .string ⟨#[]⟩] 88 (0, 0))) := Lib.hid (heap_of_only k1 (by have := HLT.out; omega) HG7.out)
  clear k1 k2
  have d : w4.cell? ⟨(w.heap.size + 1), 1, none⟩ = some (.int .i64 0) := by rw [cell_of_row _ _ _ _ _ _ HG5.out]; rfl
  have f := frozen_of_row w4 (w.heap.size + 1) 1 _ _ HG5.out
  have hst : (store ⟨(w.heap.size + 1), 1, none⟩ (.int .i64 (u : Nat))).run Tryz.prog w4 = .ok () (w4.setCell ⟨(w.heap.size + 1), 1, none⟩ (.int .i64 (u : Nat))) := by
    rw [run_store Tryz.prog w4 _ _ _ rfl, d]; simp [f]
  obtain ⟨W5, hW5⟩ : ∃ W5, W5 = w4.setCell ⟨(w.heap.size + 1), 1, none⟩ (.int .i64 (u : Nat)) := ⟨_, rfl⟩
  have HG6 : Hid (W5.heap[(w.heap.size + 1)]? = some (.cells #[.int .u8 (k : Nat), .int .i64 (u : Nat), .complex .f64 0 0, .string ⟨#[]⟩] 88 (0, 0))) := Lib.hid (by rw [hW5]; exact heap_setCell_same w4 (w.heap.size + 1) 1 _ _ _ HG5.out)
  have HG8 : Hid (W5.heap[w.heap.size]? = some (.cells #[.int .u8 0, .int .i64 0, .complex .f64 0 0, .string ⟨#[]⟩] 88 (0, 0))) := Lib.hid (by rw [hW5, heap_setCell_other w4 ⟨(w.heap.size + 1), 1, none⟩ w.heap.size (.int .i64 (u : Nat)) (by have := HLT.out; simp <;> omega)]; exact HG4.out)
  have H5 : Hid (IsR W5 r s3) := Lib.hid (by rw [hW5]; exact H4.out.above (Ch.setCell (p := ⟨(w.heap.size + 1), 1, none⟩) (Ch.refl _ _) (.inl (by have := HLT.out; simp <;> omega)) (.int .i64 (u : Nat))))
  have HX5 : Hid (Only r w W5) := Lib.hid (by rw [hW5]; exact HX4.out.setCell (.inr (by have := HLT.out; simp <;> omega)) _)
  have HER := Lib.hid (err_w r s3 W5 H5.out.weak)
  have HW5 := Lib.hid hW5
  clear hW5
  unfold RPtr at HER
  by_cases he : s3.2 ≠ 0
  · have HE := Lib.hid he
    have eb : (s3.2 != 0) = true := by simpa using he
    clear he
    go_wp2_with (first
      | (go_at_call 14; rw [← HW5.out]; refine (HER.out).mono ?_; rintro e w' ⟨rfl, rfl⟩)
      | (refine wpList_store_rowTo rfl _ _ _ rfl rfl w.heap.size #[.int .u8 0, .int .i64 0, .complex .f64 0 0, .string ⟨#[]⟩] rfl rfl _ _ HG8.out info61 rfl (prow_one _ _ _ _ _) ?_))
    refine bodyPost_ret (results_cell_row rfl _ _ w.heap.size _ #[.int .u8 0, .int .i64 0, .complex .f64 0 0, .string ⟨#[]⟩] _ _ rfl (setRow_heap _ _ _ _ _ _ HG8.out) Tryz.underlying88 rfl info61) rfl ?_
    exact HPO.out Val.zero _ (by rw [if_pos HE.out]) (HX5.out.setRow (.inr (Nat.le_refl _)) _) (H5.out.above ((Ch.refl _ _).setRow (.inl (by have := HRL.out; omega)) _))
  · have HE := Lib.hid he
    have eb : (s3.2 != 0) = false := by simpa using he
    clear he
    go_wp2_with (first
      | (go_at_call 14; rw [← HW5.out]; refine (HER.out).mono ?_; rintro e w' ⟨rfl, rfl⟩)
      | (refine wpList_load_row rfl _ _ rfl (w.heap.size + 1) rfl _ _ _ _ HG6.out Tryz.underlying88 rfl info61 ?_)
      | (refine wpList_store_rowTo rfl _ _ _ rfl rfl w.heap.size #[.int .u8 (k : Nat), .int .i64 (u : Nat), .complex .f64 0 0, .string ⟨#[]⟩] rfl rfl _ _ HG8.out info61 rfl (prow_one _ _ _ _ _) ?_))
    refine bodyPost_ret (results_cell_row rfl _ _ w.heap.size _ #[.int .u8 (k : Nat), .int .i64 (u : Nat), .complex .f64 0 0, .string ⟨#[]⟩] _ _ rfl (setRow_heap _ _ _ _ _ _ HG8.out) Tryz.underlying88 rfl info61) rfl ?_
    exact HPO.out ⟨k, (u : Int), 0, 0, []⟩ _ (by rw [if_neg HE.out]) (HX5.out.setRow (.inr (Nat.le_refl _)) _) (H5.out.above ((Ch.refl _ _).setRow (.inl (by have := HRL.out; omega)) _))
set_option maxRecDepth 20000 in
set_option maxHeartbeats 2000000 in
theorem take_ok_2 (r : Nat) (s : RS) (ver k : Nat) (w : World) (h : IsR w r s) (hv : ver = 1 ∨ ver = 2) (hk : k = 2) :
    Calls Tryz.prog 82 #[RPtr r, .int .u8 (k : Nat), .int .u8 (ver : Nat)] w (TkPost r (tTake ver k s).1 (tTake ver k s).2 w) := by
  have hiv := isVersion_any ver
  have hit := isType_any k
  rw [decide_eq_true hv] at hiv
  rw [decide_eq_true (show 1 ≤ k ∧ k ≤ 6 by omega)] at hit
  have hpre : tPre ver k s = s := by unfold tPre; simp only; rw [if_pos (show 1 ≤ k ∧ k ≤ 6 by omega), if_pos hv]
  have htt : tTake ver k s = (if (tRaw ver k s).2.2 ≠ 0 then .zero else (tRaw ver k s).1, (tRaw ver k s).2) := by unfold tTake; rw [hpre]
  rw [htt]
  have HIV := Lib.hid hiv; have HIT := Lib.hid hit
  clear hiv hit hpre htt
  have HRL := Lib.hid h.lt
  obtain ⟨S0, hS0⟩ : ∃ S0, S0 = s := ⟨_, rfl⟩
  rw [← hS0]
  have HS0 := Lib.hid hS0
  have hraw : tRaw ver k S0 = (⟨k, (tInt ver S0).1, 0, 0, []⟩, (tInt ver S0).2) := by unfold tRaw; rw [if_neg (by omega)]; rw [if_pos hk]
  rw [hraw]
  simp only
  clear hraw hS0
  have hrd := fun w h => takeInt_any r S0 ver w h
  have HRD := Lib.hid hrd
  clear hrd
  generalize (tInt ver S0).1 = u at *
  generalize (tInt ver S0).2 = s3 at *
  obtain ⟨PO, hPO⟩ : ∃ PO, PO = TkPost r (if s3.2 ≠ 0 then Val.zero else ⟨k, u, 0, 0, []⟩) s3 w := ⟨_, rfl⟩
  have HPO : Hid (∀ v w', (if s3.2 ≠ 0 then Val.zero else ⟨k, u, 0, 0, []⟩) = v → Only r w w' → IsR w' r s3 → PO (.returned (pv v)) w') := Lib.hid fun v w' h1 h2 h3 => by
    rw [hPO, h1]
    exact ⟨rfl, h2, h3⟩
  rw [← hPO]
  clear hPO
  have H := Lib.hid h
  clear h
  have e1 : (((k : Nat) : Int) == 1) = false := by rw [hk]; rfl
  have e2 : (((k : Nat) : Int) == 2) = true := by rw [hk]; rfl
  clear hk hv
  unfold RPtr at *
  have hg6 := heap_alloc_new w (.cells #[.int .u8 0, .int .i64 0, .complex .f64 0 0, .string ⟨#[]⟩] 88)
  have hx0 : Ext w (w.alloc (.cells #[.int .u8 0, .int .i64 0, .complex .f64 0 0, .string ⟨#[]⟩] 88)) := (Ch.refl _ _).alloc _
  have HX0 : Hid (Only r w (w.alloc (.cells #[.int .u8 0, .int .i64 0, .complex .f64 0 0, .string ⟨#[]⟩] 88))) := Lib.hid hx0.ch
  have HG0 := Lib.hid hg6
  have H0 := Lib.hid (H.out.ext hx0)
  clear hg6 hx0
  go_enter Tryz.func82, Tryz.ntmps82
  have HSW : Hid ((w.alloc (.cells #[.int .u8 0, .int .i64 0, .complex .f64 0 0, .string ⟨#[]⟩] 88)).heap.size = w.heap.size + 1) := Lib.hid (by simp)
  have HS0' := HS0.out
  subst HS0'
  have hq : ((w.alloc (.cells #[.int .u8 0, .int .i64 0, .complex .f64 0 0, .string ⟨#[]⟩] 88)).alloc (.cells #[.int .u8 0, .int .i64 0, .complex .f64 0 0, .string ⟨#[]⟩] 88)).heap[(w.heap.size + 1)]? = some (.cells #[.int .u8 0, .int .i64 0, .complex .f64 0 0, .string ⟨#[]⟩] 88 (0, 0)) := by have := heap_alloc2_new w (.cells #[.int .u8 0, .int .i64 0, .complex .f64 0 0, .string ⟨#[]⟩] 88) (.cells #[.int .u8 0, .int .i64 0, .complex .f64 0 0, .string ⟨#[]⟩] 88); exact this
  have HQ := Lib.hid hq
  obtain ⟨W3, hW3⟩ : ∃ W3, W3 = ((w.alloc (.cells #[.int .u8 0, .int .i64 0, .complex .f64 0 0, .string ⟨#[]⟩] 88)).alloc (.cells #[.int .u8 0, .int .i64 0, .complex .f64 0 0, .string ⟨#[]⟩] 88)).setRow (w.heap.size + 1) #[.int .u8 (k : Nat), .int .i64 0, .complex .f64 0 0, .string ⟨#[]⟩] := ⟨_, rfl⟩
  have hx3 : Ext (w.alloc (.cells #[.int .u8 0, .int .i64 0, .complex .f64 0 0, .string ⟨#[]⟩] 88)) W3 := by rw [hW3]; exact ((Ch.refl _ _).alloc _).setRow (.inr (by rw [HSW.out]; exact Nat.le_refl _)) _
  have HG3 : Hid (W3.heap[w.heap.size]? = some (.cells #[.int .u8 0, .int .i64 0, .complex .f64 0 0, .string ⟨#[]⟩] 88 (0, 0))) := Lib.hid (heap_of_ext hx3 HG0.out)
  have hg7 : W3.heap[(w.heap.size + 1)]? = some (.cells #[.int .u8 (k : Nat), .int .i64 0, .complex .f64 0 0, .string ⟨#[]⟩] 88 (0, 0)) := by rw [hW3]; exact setRow_heap _ _ _ _ _ _ hq
  have HG7 := Lib.hid hg7
  have HX3 : Hid (Only r w W3) := Lib.hid (HX0.out.trans hx3.ch)
  have H3 := Lib.hid (H0.out.ext hx3)
  have HLT : Hid (r < (w.heap.size + 1) ∧ w.heap.size < (w.heap.size + 1)) := Lib.hid (by have := HRL.out; omega)
  have HW3 := Lib.hid hW3
  clear hq hx3 hg7 hW3
  go_wp2_with (first
    | (go_at_call 104; refine (HIV.out _).mono ?_; rintro e w' ⟨rfl, rfl⟩)
    | (go_at_call 96; refine (HIT.out _).mono ?_; rintro e w' ⟨rfl, rfl⟩)
    | (refine wpList_store_rowTo rfl _ _ _ rfl rfl (w.heap.size + 1) #[.int .u8 (k : Nat), .int .i64 0, .complex .f64 0 0, .string ⟨#[]⟩] rfl rfl _ _ HQ.out info61 rfl (prow_one _ _ _ _ _) ?_; rw [← HW3.out])
    | (go_at_call 106; refine (HRD.out _ H3.out).mono ?_))
  rintro e w4 ⟨rfl, k1, k2⟩
  have HX4 := Lib.hid (HX3.out.trans k1); have H4 := Lib.hid k2
  have HG4 : Hid (w4.heap[w.heap.size]? = some (.cells #[.int .u8 0, .int .i64 0, .complex .f64 0 0, .string ⟨#[]⟩] 88 (0, 0))) := Lib.hid (heap_of_only k1 (by have := HRL.out; omega) HG3.out)
  have HG5 : Hid (w4.heap[(w.heap.size + 1)]? = some (.cells #[.int .u8 (k : Nat), .int .i64 0, .complex .f64 0 0, .string ⟨#[]⟩] 88 (0, 0))) := Lib.hid (heap_of_only k1 (by have := HLT.out; omega) HG7.out)
  clear k1 k2
  have d : w4.cell? ⟨(w.heap.size + 1), 1, none⟩ = some (.int .i64 0) := by rw [cell_of_row _ _ _ _ _ _ HG5.out]; rfl
  have f := frozen_of_row w4 (w.heap.size + 1) 1 _ _ HG5.out
  have hst : (store ⟨(w.heap.size + 1), 1, none⟩ (.int .i64 u)).run Tryz.prog w4 = .ok () (w4.setCell ⟨(w.heap.size + 1), 1, none⟩ (.int .i64 u)) := by
    rw [run_store Tryz.prog w4 _ _ _ rfl, d]; simp [f]
  obtain ⟨W5, hW5⟩ : ∃ W5, W5 = w4.setCell ⟨(w.heap.size + 1), 1, none⟩ (.int .i64 u) := ⟨_, rfl⟩
  have HG6 : Hid (W5.heap[(w.heap.size + 1)]? = some (.cells #[.int .u8 (k : Nat), .int .i64 u, .complex .f64 0 0, .string ⟨#[]⟩] 88 (0, 0))) := Lib.hid (by rw [hW5]; exact heap_setCell_same w4 (w.heap.size + 1) 1 _ _ _ HG5.out)
  have HG8 : Hid (W5.heap[w.heap.size]? = some (.cells #[.int .u8 0, .int .i64 0, .complex .f64 0 0, .string ⟨#[]⟩] 88 (0, 0))) := Lib.hid (by rw [hW5, heap_setCell_other w4 ⟨(w.heap.size + 1), 1, none⟩ w.heap.size (.int .i64 u) (by have := HLT.out; simp <;> omega)]; exact HG4.out)
  have H5 : Hid (IsR W5 r s3) := Lib.hid (by rw [hW5]; exact H4.out.above (Ch.setCell (p := ⟨(w.heap.size + 1), 1, none⟩) (Ch.refl _ _) (.inl (by have := HLT.out; simp <;> omega)) (.int .i64 u)))
  have HX5 : Hid (Only r w W5) := Lib.hid (by rw [hW5]; exact HX4.out.setCell (.inr (by have := HLT.out; simp <;> omega)) _)
  have HER := Lib.hid (err_w r s3 W5 H5.out.weak)
  have HW5 := Lib.hid hW5
  clear hW5
  unfold RPtr at HER
  by_cases he : s3.2 ≠ 0
  · have HE := Lib.hid he
    have eb : (s3.2 != 0) = true := by simpa using he
    clear he
    go_wp2_with (first
      | (go_at_call 14; rw [← HW5.out]; refine (HER.out).mono ?_; rintro e w' ⟨rfl, rfl⟩)
      | (refine wpList_store_rowTo rfl _ _ _ rfl rfl w.heap.size #[.int .u8 0, .int .i64 0, .complex .f64 0 0, .string ⟨#[]⟩] rfl rfl _ _ HG8.out info61 rfl (prow_one _ _ _ _ _) ?_))
    refine bodyPost_ret (results_cell_row rfl _ _ w.heap.size _ #[.int .u8 0, .int .i64 0, .complex .f64 0 0, .string ⟨#[]⟩] _ _ rfl (setRow_heap _ _ _ _ _ _ HG8.out) Tryz.underlying88 rfl info61) rfl ?_
    exact HPO.out Val.zero _ (by rw [if_pos HE.out]) (HX5.out.setRow (.inr (Nat.le_refl _)) _) (H5.out.above ((Ch.refl _ _).setRow (.inl (by have := HRL.out; omega)) _))
  · have HE := Lib.hid he
    have eb : (s3.2 != 0) = false := by simpa using he
    clear he
    go_wp2_with (first
      | (go_at_call 14; rw [← HW5.out]; refine (HER.out).mono ?_; rintro e w' ⟨rfl, rfl⟩)
      | (refine wpList_load_row rfl _ _ rfl (w.heap.size + 1) rfl _ _ _ _ HG6.out Tryz.underlying88 rfl info61 ?_)
      | (refine wpList_store_rowTo rfl _ _ _ rfl rfl w.heap.size #[.int .u8 (k : Nat), .int .i64 u, .complex .f64 0 0, .string ⟨#[]⟩] rfl rfl _ _ HG8.out info61 rfl (prow_one _ _ _ _ _) ?_))
    refine bodyPost_ret (results_cell_row rfl _ _ w.heap.size _ #[.int .u8 (k : Nat), .int .i64 u, .complex .f64 0 0, .string ⟨#[]⟩] _ _ rfl (setRow_heap _ _ _ _ _ _ HG8.out) Tryz.underlying88 rfl info61) rfl ?_
    exact HPO.out ⟨k, u, 0, 0, []⟩ _ (by rw [if_neg HE.out]) (HX5.out.setRow (.inr (Nat.le_refl _)) _) (H5.out.above ((Ch.refl _ _).setRow (.inl (by have := HRL.out; omega)) _))
set_option maxRecDepth 20000 in
set_option maxHeartbeats 2000000 in
theorem take_ok_3 (r : Nat) (s : RS) (ver k : Nat) (w : World) (h : IsR w r s) (hv : ver = 1 ∨ ver = 2) (hk : k = 3) :
    Calls Tryz.prog 82 #[RPtr r, .int .u8 (k : Nat), .int .u8 (ver : Nat)] w (TkPost r (tTake ver k s).1 (tTake ver k s).2 w) := by
  have hiv := isVersion_any ver
  have hit := isType_any k
  rw [decide_eq_true hv] at hiv
  rw [decide_eq_true (show 1 ≤ k ∧ k ≤ 6 by omega)] at hit
  have hpre : tPre ver k s = s := by unfold tPre; simp only; rw [if_pos (show 1 ≤ k ∧ k ≤ 6 by omega), if_pos hv]
  have htt : tTake ver k s = (if (tRaw ver k s).2.2 ≠ 0 then .zero else (tRaw ver k s).1, (tRaw ver k s).2) := by unfold tTake; rw [hpre]
  rw [htt]
  have HIV := Lib.hid hiv; have HIT := Lib.hid hit
  clear hiv hit hpre htt
  have HRL := Lib.hid h.lt
  obtain ⟨S0, hS0⟩ : ∃ S0, S0 = s := ⟨_, rfl⟩
  rw [← hS0]
  have HS0 := Lib.hid hS0
  have hraw : tRaw ver k S0 = (⟨k, 0, (fltR ver S0).1, 0, []⟩, (fltR ver S0).2) := by unfold tRaw; rw [if_neg (by omega)]; rw [if_neg (by omega)]; rw [if_pos hk]
  rw [hraw]
  simp only
  clear hraw hS0
  have hrd := fun w h => takeFloat_any r S0 ver w h
  have HRD := Lib.hid hrd
  clear hrd
  have hbl : (fltR ver S0).1 < 18446744073709551616 := fltR_lt ver S0
  generalize (fltR ver S0).1 = u at *
  generalize (fltR ver S0).2 = s3 at *
  obtain ⟨PO, hPO⟩ : ∃ PO, PO = TkPost r (if s3.2 ≠ 0 then Val.zero else ⟨k, 0, u, 0, []⟩) s3 w := ⟨_, rfl⟩
  have HPO : Hid (∀ v w', (if s3.2 ≠ 0 then Val.zero else ⟨k, 0, u, 0, []⟩) = v → Only r w w' → IsR w' r s3 → PO (.returned (pv v)) w') := Lib.hid fun v w' h1 h2 h3 => by
    rw [hPO, h1]
    exact ⟨rfl, h2, h3⟩
  rw [← hPO]
  clear hPO
  have H := Lib.hid h
  clear h
  have e1 : (((k : Nat) : Int) == 1) = false := by rw [hk]; rfl
  have e2 : (((k : Nat) : Int) == 2) = false := by rw [hk]; rfl
  have e3 : (((k : Nat) : Int) == 3) = true := by rw [hk]; rfl
  clear hk hv
  unfold RPtr at *
  have hg6 := heap_alloc_new w (.cells #[.int .u8 0, .int .i64 0, .complex .f64 0 0, .string ⟨#[]⟩] 88)
  have hx0 : Ext w (w.alloc (.cells #[.int .u8 0, .int .i64 0, .complex .f64 0 0, .string ⟨#[]⟩] 88)) := (Ch.refl _ _).alloc _
  have HX0 : Hid (Only r w (w.alloc (.cells #[.int .u8 0, .int .i64 0, .complex .f64 0 0, .string ⟨#[]⟩] 88))) := Lib.hid hx0.ch
  have HG0 := Lib.hid hg6
  have H0 := Lib.hid (H.out.ext hx0)
  clear hg6 hx0
  go_enter Tryz.func82, Tryz.ntmps82
  have HSW : Hid ((w.alloc (.cells #[.int .u8 0, .int .i64 0, .complex .f64 0 0, .string ⟨#[]⟩] 88)).heap.size = w.heap.size + 1) := Lib.hid (by simp)
  have HS0' := HS0.out
  subst HS0'
  have hq : ((w.alloc (.cells #[.int .u8 0, .int .i64 0, .complex .f64 0 0, .string ⟨#[]⟩] 88)).alloc (.cells #[.int .u8 0, .int .i64 0, .complex .f64 0 0, .string ⟨#[]⟩] 88)).heap[(w.heap.size + 1)]? = some (.cells #[.int .u8 0, .int .i64 0, .complex .f64 0 0, .string ⟨#[]⟩] 88 (0, 0)) := by have := heap_alloc2_new w (.cells #[.int .u8 0, .int .i64 0, .complex .f64 0 0, .string ⟨#[]⟩] 88) (.cells #[.int .u8 0, .int .i64 0, .complex .f64 0 0, .string ⟨#[]⟩] 88); exact this
  have HQ := Lib.hid hq
  obtain ⟨W3, hW3⟩ : ∃ W3, W3 = ((w.alloc (.cells #[.int .u8 0, .int .i64 0, .complex .f64 0 0, .string ⟨#[]⟩] 88)).alloc (.cells #[.int .u8 0, .int .i64 0, .complex .f64 0 0, .string ⟨#[]⟩] 88)).setRow (w.heap.size + 1) #[.int .u8 (k : Nat), .int .i64 0, .complex .f64 0 0, .string ⟨#[]⟩] := ⟨_, rfl⟩
  have hx3 : Ext (w.alloc (.cells #[.int .u8 0, .int .i64 0, .complex .f64 0 0, .string ⟨#[]⟩] 88)) W3 := by rw [hW3]; exact ((Ch.refl _ _).alloc _).setRow (.inr (by rw [HSW.out]; exact Nat.le_refl _)) _
  have HG3 : Hid (W3.heap[w.heap.size]? = some (.cells #[.int .u8 0, .int .i64 0, .complex .f64 0 0, .string ⟨#[]⟩] 88 (0, 0))) := Lib.hid (heap_of_ext hx3 HG0.out)
  have hg7 : W3.heap[(w.heap.size + 1)]? = some (.cells #[.int .u8 (k : Nat), .int .i64 0, .complex .f64 0 0, .string ⟨#[]⟩] 88 (0, 0)) := by rw [hW3]; exact setRow_heap _ _ _ _ _ _ hq
  have HG7 := Lib.hid hg7
  have HX3 : Hid (Only r w W3) := Lib.hid (HX0.out.trans hx3.ch)
  have H3 := Lib.hid (H0.out.ext hx3)
  have HLT : Hid (r < (w.heap.size + 1) ∧ w.heap.size < (w.heap.size + 1)) := Lib.hid (by have := HRL.out; omega)
  have HW3 := Lib.hid hW3
  clear hq hx3 hg7 hW3
  go_wp2_with (first
    | (go_at_call 104; refine (HIV.out _).mono ?_; rintro e w' ⟨rfl, rfl⟩)
    | (go_at_call 96; refine (HIT.out _).mono ?_; rintro e w' ⟨rfl, rfl⟩)
    | (refine wpList_store_rowTo rfl _ _ _ rfl rfl (w.heap.size + 1) #[.int .u8 (k : Nat), .int .i64 0, .complex .f64 0 0, .string ⟨#[]⟩] rfl rfl _ _ HQ.out info61 rfl (prow_one _ _ _ _ _) ?_; rw [← HW3.out])
    | (go_at_call 107; refine (HRD.out _ H3.out).mono ?_))
  rintro e w4 ⟨rfl, k1, k2⟩
  have HX4 := Lib.hid (HX3.out.trans k1); have H4 := Lib.hid k2
  have HG4 : Hid (w4.heap[w.heap.size]? = some (.cells #[.int .u8 0, .int .i64 0, .complex .f64 0 0, .string ⟨#[]⟩] 88 (0, 0))) := Lib.hid (heap_of_only k1 (by have := HRL.out; omega) HG3.out)
  have HG5 : Hid (w4.heap[(w.heap.size + 1)]? = some (.cells #[.int .u8 (k : Nat), .int .i64 0, .complex .f64 0 0, .string ⟨#[]⟩] 88 (0, 0))) := Lib.hid (heap_of_only k1 (by have := HLT.out; omega) HG7.out)
  clear k1 k2
  have d : w4.cell? ⟨(w.heap.size + 1), 2, none⟩ = some (.complex .f64 0 0) := by rw [cell_of_row _ _ _ _ _ _ HG5.out]; rfl
  have f := frozen_of_row w4 (w.heap.size + 1) 2 _ _ HG5.out
  have hst : (store ⟨(w.heap.size + 1), 2, none⟩ (.complex .f64 u 0)).run Tryz.prog w4 = .ok () (w4.setCell ⟨(w.heap.size + 1), 2, none⟩ (.complex .f64 u 0)) := by
    rw [run_store Tryz.prog w4 _ _ _ rfl, d]; simp [f]
  obtain ⟨W5, hW5⟩ : ∃ W5, W5 = w4.setCell ⟨(w.heap.size + 1), 2, none⟩ (.complex .f64 u 0) := ⟨_, rfl⟩
  have HG6 : Hid (W5.heap[(w.heap.size + 1)]? = some (.cells #[.int .u8 (k : Nat), .int .i64 0, .complex .f64 u 0, .string ⟨#[]⟩] 88 (0, 0))) := Lib.hid (by rw [hW5]; exact heap_setCell_same w4 (w.heap.size + 1) 2 _ _ _ HG5.out)
  have HG8 : Hid (W5.heap[w.heap.size]? = some (.cells #[.int .u8 0, .int .i64 0, .complex .f64 0 0, .string ⟨#[]⟩] 88 (0, 0))) := Lib.hid (by rw [hW5, heap_setCell_other w4 ⟨(w.heap.size + 1), 2, none⟩ w.heap.size (.complex .f64 u 0) (by have := HLT.out; simp <;> omega)]; exact HG4.out)
  have H5 : Hid (IsR W5 r s3) := Lib.hid (by rw [hW5]; exact H4.out.above (Ch.setCell (p := ⟨(w.heap.size + 1), 2, none⟩) (Ch.refl _ _) (.inl (by have := HLT.out; simp <;> omega)) (.complex .f64 u 0)))
  have HX5 : Hid (Only r w W5) := Lib.hid (by rw [hW5]; exact HX4.out.setCell (.inr (by have := HLT.out; simp <;> omega)) _)
  have HER := Lib.hid (err_w r s3 W5 H5.out.weak)
  have HW5 := Lib.hid hW5
  clear hW5
  unfold RPtr at HER
  by_cases he : s3.2 ≠ 0
  · have HE := Lib.hid he
    have eb : (s3.2 != 0) = true := by simpa using he
    clear he
    go_wp2_with (first
      | (go_at_call 90; refine (of_any _ 0 _).mono ?_; rintro e w' ⟨rfl, rfl⟩)
      | (go_at_call 14; rw [← HW5.out]; refine (HER.out).mono ?_; rintro e w' ⟨rfl, rfl⟩)
      | (refine wpList_store_rowTo rfl _ _ _ rfl rfl w.heap.size #[.int .u8 0, .int .i64 0, .complex .f64 0 0, .string ⟨#[]⟩] rfl rfl _ _ HG8.out info61 rfl (prow_one _ _ _ _ _) ?_))
    refine bodyPost_ret (results_cell_row rfl _ _ w.heap.size _ #[.int .u8 0, .int .i64 0, .complex .f64 0 0, .string ⟨#[]⟩] _ _ rfl (setRow_heap _ _ _ _ _ _ HG8.out) Tryz.underlying88 rfl info61) rfl ?_
    exact HPO.out Val.zero _ (by rw [if_pos HE.out]) (HX5.out.setRow (.inr (Nat.le_refl _)) _) (H5.out.above ((Ch.refl _ _).setRow (.inl (by have := HRL.out; omega)) _))
  · have HE := Lib.hid he
    have eb : (s3.2 != 0) = false := by simpa using he
    clear he
    go_wp2_with (first
      | (go_at_call 90; refine (of_any _ 0 _).mono ?_; rintro e w' ⟨rfl, rfl⟩)
      | (go_at_call 14; rw [← HW5.out]; refine (HER.out).mono ?_; rintro e w' ⟨rfl, rfl⟩)
      | (refine wpList_load_row rfl _ _ rfl (w.heap.size + 1) rfl _ _ _ _ HG6.out Tryz.underlying88 rfl info61 ?_)
      | (refine wpList_store_rowTo rfl _ _ _ rfl rfl w.heap.size #[.int .u8 (k : Nat), .int .i64 0, .complex .f64 u 0, .string ⟨#[]⟩] rfl rfl _ _ HG8.out info61 rfl (prow_one _ _ _ _ _) ?_))
    refine bodyPost_ret (results_cell_row rfl _ _ w.heap.size _ #[.int .u8 (k : Nat), .int .i64 0, .complex .f64 u 0, .string ⟨#[]⟩] _ _ rfl (setRow_heap _ _ _ _ _ _ HG8.out) Tryz.underlying88 rfl info61) rfl ?_
    exact HPO.out ⟨k, 0, u, 0, []⟩ _ (by rw [if_neg HE.out]) (HX5.out.setRow (.inr (Nat.le_refl _)) _) (H5.out.above ((Ch.refl _ _).setRow (.inl (by have := HRL.out; omega)) _))
set_option maxRecDepth 20000 in
set_option maxHeartbeats 2000000 in
theorem take_ok_4 (r : Nat) (s : RS) (ver k : Nat) (w : World) (h : IsR w r s) (hv : ver = 1 ∨ ver = 2) (hk : k = 4) :
    Calls Tryz.prog 82 #[RPtr r, .int .u8 (k : Nat), .int .u8 (ver : Nat)] w (TkPost r (tTake ver k s).1 (tTake ver k s).2 w) := by
  have hiv := isVersion_any ver
  have hit := isType_any k
  rw [decide_eq_true hv] at hiv
  rw [decide_eq_true (show 1 ≤ k ∧ k ≤ 6 by omega)] at hit
  have hpre : tPre ver k s = s := by unfold tPre; simp only; rw [if_pos (show 1 ≤ k ∧ k ≤ 6 by omega), if_pos hv]
  have htt : tTake ver k s = (if (tRaw ver k s).2.2 ≠ 0 then .zero else (tRaw ver k s).1, (tRaw ver k s).2) := by unfold tTake; rw [hpre]
  rw [htt]
  have HIV := Lib.hid hiv; have HIT := Lib.hid hit
  clear hiv hit hpre htt
  have HRL := Lib.hid h.lt
  obtain ⟨S0, hS0⟩ : ∃ S0, S0 = s := ⟨_, rfl⟩
  rw [← hS0]
  have HS0 := Lib.hid hS0
  have hraw : tRaw ver k S0 = (⟨k, 0, (tCplx ver S0).1.1, (tCplx ver S0).1.2, []⟩, (tCplx ver S0).2) := by unfold tRaw; rw [if_neg (by omega)]; rw [if_neg (by omega)]; rw [if_neg (by omega)]; rw [if_pos hk]
  rw [hraw]
  simp only
  clear hraw hS0
  have hrd := fun w h => takeComplex_any r S0 ver w h
  have HRD := Lib.hid hrd
  clear hrd
  generalize (tCplx ver S0).1.1 = u1 at *
  generalize (tCplx ver S0).1.2 = u2 at *
  generalize (tCplx ver S0).2 = s3 at *
  obtain ⟨PO, hPO⟩ : ∃ PO, PO = TkPost r (if s3.2 ≠ 0 then Val.zero else ⟨k, 0, u1, u2, []⟩) s3 w := ⟨_, rfl⟩
  have HPO : Hid (∀ v w', (if s3.2 ≠ 0 then Val.zero else ⟨k, 0, u1, u2, []⟩) = v → Only r w w' → IsR w' r s3 → PO (.returned (pv v)) w') := Lib.hid fun v w' h1 h2 h3 => by
    rw [hPO, h1]
    exact ⟨rfl, h2, h3⟩
  rw [← hPO]
  clear hPO
  have H := Lib.hid h
  clear h
  have e1 : (((k : Nat) : Int) == 1) = false := by rw [hk]; rfl
  have e2 : (((k : Nat) : Int) == 2) = false := by rw [hk]; rfl
  have e3 : (((k : Nat) : Int) == 3) = false := by rw [hk]; rfl
  have e4 : (((k : Nat) : Int) == 4) = true := by rw [hk]; rfl
  clear hk hv
  unfold RPtr at *
  have hg6 := heap_alloc_new w (.cells #[.int .u8 0, .int .i64 0, .complex .f64 0 0, .string ⟨#[]⟩] 88)
  have hx0 : Ext w (w.alloc (.cells #[.int .u8 0, .int .i64 0, .complex .f64 0 0, .string ⟨#[]⟩] 88)) := (Ch.refl _ _).alloc _
  have HX0 : Hid (Only r w (w.alloc (.cells #[.int .u8 0, .int .i64 0, .complex .f64 0 0, .string ⟨#[]⟩] 88))) := Lib.hid hx0.ch
  have HG0 := Lib.hid hg6
  have H0 := Lib.hid (H.out.ext hx0)
  clear hg6 hx0
  go_enter Tryz.func82, Tryz.ntmps82
  have HSW : Hid ((w.alloc (.cells #[.int .u8 0, .int .i64 0, .complex .f64 0 0, .string ⟨#[]⟩] 88)).heap.size = w.heap.size + 1) := Lib.hid (by simp)
  have HS0' := HS0.out
  subst HS0'
  have hq : ((w.alloc (.cells #[.int .u8 0, .int .i64 0, .complex .f64 0 0, .string ⟨#[]⟩] 88)).alloc (.cells #[.int .u8 0, .int .i64 0, .complex .f64 0 0, .string ⟨#[]⟩] 88)).heap[(w.heap.size + 1)]? = some (.cells #[.int .u8 0, .int .i64 0, .complex .f64 0 0, .string ⟨#[]⟩] 88 (0, 0)) := by have := heap_alloc2_new w (.cells #[.int .u8 0, .int .i64 0, .complex .f64 0 0, .string ⟨#[]⟩] 88) (.cells #[.int .u8 0, .int .i64 0, .complex .f64 0 0, .string ⟨#[]⟩] 88); exact this
  have HQ := Lib.hid hq
  obtain ⟨W3, hW3⟩ : ∃ W3, W3 = ((w.alloc (.cells #[.int .u8 0, .int .i64 0, .complex .f64 0 0, .string ⟨#[]⟩] 88)).alloc (.cells #[.int .u8 0, .int .i64 0, .complex .f64 0 0, .string ⟨#[]⟩] 88)).setRow (w.heap.size + 1) #[.int .u8 (k : Nat), .int .i64 0, .complex .f64 0 0, .string ⟨#[]⟩] := ⟨_, rfl⟩
  have hx3 : Ext (w.alloc (.cells #[.int .u8 0, .int .i64 0, .complex .f64 0 0, .string ⟨#[]⟩] 88)) W3 := by rw [hW3]; exact ((Ch.refl _ _).alloc _).setRow (.inr (by rw [HSW.out]; exact Nat.le_refl _)) _
  have HG3 : Hid (W3.heap[w.heap.size]? = some (.cells #[.int .u8 0, .int .i64 0, .complex .f64 0 0, .string ⟨#[]⟩] 88 (0, 0))) := Lib.hid (heap_of_ext hx3 HG0.out)
  have hg7 : W3.heap[(w.heap.size + 1)]? = some (.cells #[.int .u8 (k : Nat), .int .i64 0, .complex .f64 0 0, .string ⟨#[]⟩] 88 (0, 0)) := by rw [hW3]; exact setRow_heap _ _ _ _ _ _ hq
  have HG7 := Lib.hid hg7
  have HX3 : Hid (Only r w W3) := Lib.hid (HX0.out.trans hx3.ch)
  have H3 := Lib.hid (H0.out.ext hx3)
  have HLT : Hid (r < (w.heap.size + 1) ∧ w.heap.size < (w.heap.size + 1)) := Lib.hid (by have := HRL.out; omega)
  have HW3 := Lib.hid hW3
  clear hq hx3 hg7 hW3
  go_wp2_with (first
    | (go_at_call 104; refine (HIV.out _).mono ?_; rintro e w' ⟨rfl, rfl⟩)
    | (go_at_call 96; refine (HIT.out _).mono ?_; rintro e w' ⟨rfl, rfl⟩)
    | (refine wpList_store_rowTo rfl _ _ _ rfl rfl (w.heap.size + 1) #[.int .u8 (k : Nat), .int .i64 0, .complex .f64 0 0, .string ⟨#[]⟩] rfl rfl _ _ HQ.out info61 rfl (prow_one _ _ _ _ _) ?_; rw [← HW3.out])
    | (go_at_call 108; refine (HRD.out _ H3.out).mono ?_))
  rintro e w4 ⟨rfl, k1, k2⟩
  have HX4 := Lib.hid (HX3.out.trans k1); have H4 := Lib.hid k2
  have HG4 : Hid (w4.heap[w.heap.size]? = some (.cells #[.int .u8 0, .int .i64 0, .complex .f64 0 0, .string ⟨#[]⟩] 88 (0, 0))) := Lib.hid (heap_of_only k1 (by have := HRL.out; omega) HG3.out)
  have HG5 : Hid (w4.heap[(w.heap.size + 1)]? = some (.cells #[.int .u8 (k : Nat), .int .i64 0, .complex .f64 0 0, .string ⟨#[]⟩] 88 (0, 0))) := Lib.hid (heap_of_only k1 (by have := HLT.out; omega) HG7.out)
  clear k1 k2
  have d : w4.cell? ⟨(w.heap.size + 1), 2, none⟩ = some (.complex .f64 0 0) := by rw [cell_of_row _ _ _ _ _ _ HG5.out]; rfl
  have f := frozen_of_row w4 (w.heap.size + 1) 2 _ _ HG5.out
  have hst : (store ⟨(w.heap.size + 1), 2, none⟩ (.complex .f64 u1 u2)).run Tryz.prog w4 = .ok () (w4.setCell ⟨(w.heap.size + 1), 2, none⟩ (.complex .f64 u1 u2)) := by
    rw [run_store Tryz.prog w4 _ _ _ rfl, d]; simp [f]
  obtain ⟨W5, hW5⟩ : ∃ W5, W5 = w4.setCell ⟨(w.heap.size + 1), 2, none⟩ (.complex .f64 u1 u2) := ⟨_, rfl⟩
  have HG6 : Hid (W5.heap[(w.heap.size + 1)]? = some (.cells #[.int .u8 (k : Nat), .int .i64 0, .complex .f64 u1 u2, .string ⟨#[]⟩] 88 (0, 0))) := Lib.hid (by rw [hW5]; exact heap_setCell_same w4 (w.heap.size + 1) 2 _ _ _ HG5.out)
  have HG8 : Hid (W5.heap[w.heap.size]? = some (.cells #[.int .u8 0, .int .i64 0, .complex .f64 0 0, .string ⟨#[]⟩] 88 (0, 0))) := Lib.hid (by rw [hW5, heap_setCell_other w4 ⟨(w.heap.size + 1), 2, none⟩ w.heap.size (.complex .f64 u1 u2) (by have := HLT.out; simp <;> omega)]; exact HG4.out)
  have H5 : Hid (IsR W5 r s3) := Lib.hid (by rw [hW5]; exact H4.out.above (Ch.setCell (p := ⟨(w.heap.size + 1), 2, none⟩) (Ch.refl _ _) (.inl (by have := HLT.out; simp <;> omega)) (.complex .f64 u1 u2)))
  have HX5 : Hid (Only r w W5) := Lib.hid (by rw [hW5]; exact HX4.out.setCell (.inr (by have := HLT.out; simp <;> omega)) _)
  have HER := Lib.hid (err_w r s3 W5 H5.out.weak)
  have HW5 := Lib.hid hW5
  clear hW5
  unfold RPtr at HER
  by_cases he : s3.2 ≠ 0
  · have HE := Lib.hid he
    have eb : (s3.2 != 0) = true := by simpa using he
    clear he
    go_wp2_with (first
      | (go_at_call 14; rw [← HW5.out]; refine (HER.out).mono ?_; rintro e w' ⟨rfl, rfl⟩)
      | (refine wpList_store_rowTo rfl _ _ _ rfl rfl w.heap.size #[.int .u8 0, .int .i64 0, .complex .f64 0 0, .string ⟨#[]⟩] rfl rfl _ _ HG8.out info61 rfl (prow_one _ _ _ _ _) ?_))
    refine bodyPost_ret (results_cell_row rfl _ _ w.heap.size _ #[.int .u8 0, .int .i64 0, .complex .f64 0 0, .string ⟨#[]⟩] _ _ rfl (setRow_heap _ _ _ _ _ _ HG8.out) Tryz.underlying88 rfl info61) rfl ?_
    exact HPO.out Val.zero _ (by rw [if_pos HE.out]) (HX5.out.setRow (.inr (Nat.le_refl _)) _) (H5.out.above ((Ch.refl _ _).setRow (.inl (by have := HRL.out; omega)) _))
  · have HE := Lib.hid he
    have eb : (s3.2 != 0) = false := by simpa using he
    clear he
    go_wp2_with (first
      | (go_at_call 14; rw [← HW5.out]; refine (HER.out).mono ?_; rintro e w' ⟨rfl, rfl⟩)
      | (refine wpList_load_row rfl _ _ rfl (w.heap.size + 1) rfl _ _ _ _ HG6.out Tryz.underlying88 rfl info61 ?_)
      | (refine wpList_store_rowTo rfl _ _ _ rfl rfl w.heap.size #[.int .u8 (k : Nat), .int .i64 0, .complex .f64 u1 u2, .string ⟨#[]⟩] rfl rfl _ _ HG8.out info61 rfl (prow_one _ _ _ _ _) ?_))
    refine bodyPost_ret (results_cell_row rfl _ _ w.heap.size _ #[.int .u8 (k : Nat), .int .i64 0, .complex .f64 u1 u2, .string ⟨#[]⟩] _ _ rfl (setRow_heap _ _ _ _ _ _ HG8.out) Tryz.underlying88 rfl info61) rfl ?_
    exact HPO.out ⟨k, 0, u1, u2, []⟩ _ (by rw [if_neg HE.out]) (HX5.out.setRow (.inr (Nat.le_refl _)) _) (H5.out.above ((Ch.refl _ _).setRow (.inl (by have := HRL.out; omega)) _))
set_option maxRecDepth 20000 in
set_option maxHeartbeats 2000000 in
theorem take_ok_5 (r : Nat) (s : RS) (ver k : Nat) (w : World) (h : IsR w r s) (hv : ver = 1 ∨ ver = 2) (hk : k = 5) :
    Calls Tryz.prog 82 #[RPtr r, .int .u8 (k : Nat), .int .u8 (ver : Nat)] w (TkPost r (tTake ver k s).1 (tTake ver k s).2 w) := by
  have hiv := isVersion_any ver
  have hit := isType_any k
  rw [decide_eq_true hv] at hiv
  rw [decide_eq_true (show 1 ≤ k ∧ k ≤ 6 by omega)] at hit
  have hpre : tPre ver k s = s := by unfold tPre; simp only; rw [if_pos (show 1 ≤ k ∧ k ≤ 6 by omega), if_pos hv]
  have htt : tTake ver k s = (if (tRaw ver k s).2.2 ≠ 0 then .zero else (tRaw ver k s).1, (tRaw ver k s).2) := by unfold tTake; rw [hpre]
  rw [htt]
  have HIV := Lib.hid hiv; have HIT := Lib.hid hit
  clear hiv hit hpre htt
  have HRL := Lib.hid h.lt
  obtain ⟨S0, hS0⟩ : ∃ S0, S0 = s := ⟨_, rfl⟩
  rw [← hS0]
  have HS0 := Lib.hid hS0
  have hraw : tRaw ver k S0 = (⟨k, 0, 0, 0, (tText S0).1⟩, (tText S0).2) := by unfold tRaw; rw [if_neg (by omega)]; rw [if_neg (by omega)]; rw [if_neg (by omega)]; rw [if_neg (by omega)]; rw [if_pos hk]
  rw [hraw]
  simp only
  clear hraw hS0
  have hrd := fun w h => takeText_any r S0 w h
  unfold strV at hrd
  have HRD := Lib.hid hrd
  clear hrd
  generalize (tText S0).1 = u at *
  generalize (tText S0).2 = s3 at *
  obtain ⟨PO, hPO⟩ : ∃ PO, PO = TkPost r (if s3.2 ≠ 0 then Val.zero else ⟨k, 0, 0, 0, u⟩) s3 w := ⟨_, rfl⟩
  have HPO : Hid (∀ v w', (if s3.2 ≠ 0 then Val.zero else ⟨k, 0, 0, 0, u⟩) = v → Only r w w' → IsR w' r s3 → PO (.returned (pv v)) w') := Lib.hid fun v w' h1 h2 h3 => by
    rw [hPO, h1]
    exact ⟨rfl, h2, h3⟩
  rw [← hPO]
  clear hPO
  have H := Lib.hid h
  clear h
  have e1 : (((k : Nat) : Int) == 1) = false := by rw [hk]; rfl
  have e2 : (((k : Nat) : Int) == 2) = false := by rw [hk]; rfl
  have e3 : (((k : Nat) : Int) == 3) = false := by rw [hk]; rfl
  have e4 : (((k : Nat) : Int) == 4) = false := by rw [hk]; rfl
  have e5 : (((k : Nat) : Int) == 5) = true := by rw [hk]; rfl
  clear hk hv
  unfold RPtr at *
  have hg6 := heap_alloc_new w (.cells #[.int .u8 0, .int .i64 0, .complex .f64 0 0, .string ⟨#[]⟩] 88)
  have hx0 : Ext w (w.alloc (.cells #[.int .u8 0, .int .i64 0, .complex .f64 0 0, .string ⟨#[]⟩] 88)) := (Ch.refl _ _).alloc _
  have HX0 : Hid (Only r w (w.alloc (.cells #[.int .u8 0, .int .i64 0, .complex .f64 0 0, .string ⟨#[]⟩] 88))) := Lib.hid hx0.ch
  have HG0 := Lib.hid hg6
  have H0 := Lib.hid (H.out.ext hx0)
  clear hg6 hx0
  go_enter Tryz.func82, Tryz.ntmps82
  have HSW : Hid ((w.alloc (.cells #[.int .u8 0, .int .i64 0, .complex .f64 0 0, .string ⟨#[]⟩] 88)).heap.size = w.heap.size + 1) := Lib.hid (by simp)
  have HS0' := HS0.out
  subst HS0'
  have hq : ((w.alloc (.cells #[.int .u8 0, .int .i64 0, .complex .f64 0 0, .string ⟨#[]⟩] 88)).alloc (.cells #[.int .u8 0, .int .i64 0, .complex .f64 0 0, .string ⟨#[]⟩] 88)).heap[(w.heap.size + 1)]? = some (.cells #[.int .u8 0, .int .i64 0, .complex .f64 0 0, .string ⟨#[]⟩] 88 (0, 0)) := by have := heap_alloc2_new w (.cells #[.int .u8 0, .int .i64 0, .complex .f64 0 0, .string ⟨#[]⟩] 88) (.cells #[.int .u8 0, .int .i64 0, .complex .f64 0 0, .string ⟨#[]⟩] 88); exact this
  have HQ := Lib.hid hq
  obtain ⟨W3, hW3⟩ : ∃ W3, W3 = ((w.alloc (.cells #[.int .u8 0, .int .i64 0, .complex .f64 0 0, .string ⟨#[]⟩] 88)).alloc (.cells #[.int .u8 0, .int .i64 0, .complex .f64 0 0, .string ⟨#[]⟩] 88)).setRow (w.heap.size + 1) #[.int .u8 (k : Nat), .int .i64 0, .complex .f64 0 0, .string ⟨#[]⟩] := ⟨_, rfl⟩
  have hx3 : Ext (w.alloc (.cells #[.int .u8 0, .int .i64 0, .complex .f64 0 0, .string ⟨#[]⟩] 88)) W3 := by rw [hW3]; exact ((Ch.refl _ _).alloc _).setRow (.inr (by rw [HSW.out]; exact Nat.le_refl _)) _
  have HG3 : Hid (W3.heap[w.heap.size]? = some (.cells #[.int .u8 0, .int .i64 0, .complex .f64 0 0, .string ⟨#[]⟩] 88 (0, 0))) := Lib.hid (heap_of_ext hx3 HG0.out)
  have hg7 : W3.heap[(w.heap.size + 1)]? = some (.cells #[.int .u8 (k : Nat), .int .i64 0, .complex .f64 0 0, .string ⟨#[]⟩] 88 (0, 0)) := by rw [hW3]; exact setRow_heap _ _ _ _ _ _ hq
  have HG7 := Lib.hid hg7
  have HX3 : Hid (Only r w W3) := Lib.hid (HX0.out.trans hx3.ch)
  have H3 := Lib.hid (H0.out.ext hx3)
  have HLT : Hid (r < (w.heap.size + 1) ∧ w.heap.size < (w.heap.size + 1)) := Lib.hid (by have := HRL.out; omega)
  have HW3 := Lib.hid hW3
  clear hq hx3 hg7 hW3
  go_wp2_with (first
    | (go_at_call 104; refine (HIV.out _).mono ?_; rintro e w' ⟨rfl, rfl⟩)
    | (go_at_call 96; refine (HIT.out _).mono ?_; rintro e w' ⟨rfl, rfl⟩)
    | (refine wpList_store_rowTo rfl _ _ _ rfl rfl (w.heap.size + 1) #[.int .u8 (k : Nat), .int .i64 0, .complex .f64 0 0, .string ⟨#[]⟩] rfl rfl _ _ HQ.out info61 rfl (prow_one _ _ _ _ _) ?_; rw [← HW3.out])
    | (go_at_call 109; refine (HRD.out _ H3.out).mono ?_))
  rintro e w4 ⟨rfl, k1, k2⟩
  have HX4 := Lib.hid (HX3.out.trans k1); have H4 := Lib.hid k2
  have HG4 : Hid (w4.heap[w.heap.size]? = some (.cells #[.int .u8 0, .int .i64 0, .complex .f64 0 0, .string ⟨#[]⟩] 88 (0, 0))) := Lib.hid (heap_of_only k1 (by have := HRL.out; omega) HG3.out)
  have HG5 : Hid (w4.heap[(w.heap.size + 1)]? = some (.cells #[.int .u8 (k : Nat), .int .i64 0, .complex .f64 0 0, .string ⟨#[]⟩] 88 (0, 0))) := Lib.hid (heap_of_only k1 (by have := HLT.out; omega) HG7.out)
  clear k1 k2
  have d : w4.cell? ⟨(w.heap.size + 1), 3, none⟩ = some (.string ⟨#[]⟩) := by rw [cell_of_row _ _ _ _ _ _ HG5.out]; rfl
  have f := frozen_of_row w4 (w.heap.size + 1) 3 _ _ HG5.out
  have hst : (store ⟨(w.heap.size + 1), 3, none⟩ (.string ⟨u.toArray⟩)).run Tryz.prog w4 = .ok () (w4.setCell ⟨(w.heap.size + 1), 3, none⟩ (.string ⟨u.toArray⟩)) := by
    rw [run_store Tryz.prog w4 _ _ _ rfl, d]; simp [f]
  obtain ⟨W5, hW5⟩ : ∃ W5, W5 = w4.setCell ⟨(w.heap.size + 1), 3, none⟩ (.string ⟨u.toArray⟩) := ⟨_, rfl⟩
  have HG6 : Hid (W5.heap[(w.heap.size + 1)]? = some (.cells #[.int .u8 (k : Nat), .int .i64 0, .complex .f64 0 0, .string ⟨u.toArray⟩] 88 (0, 0))) := Lib.hid (by rw [hW5]; exact heap_setCell_same w4 (w.heap.size + 1) 3 _ _ _ HG5.out)
  have HG8 : Hid (W5.heap[w.heap.size]? = some (.cells #[.int .u8 0, .int .i64 0, .complex .f64 0 0, .string ⟨#[]⟩] 88 (0, 0))) := Lib.hid (by rw [hW5, heap_setCell_other w4 ⟨(w.heap.size + 1), 3, none⟩ w.heap.size (.string ⟨u.toArray⟩) (by have := HLT.out; simp <;> omega)]; exact HG4.out)
  have H5 : Hid (IsR W5 r s3) := Lib.hid (by rw [hW5]; exact H4.out.above (Ch.setCell (p := ⟨(w.heap.size + 1), 3, none⟩) (Ch.refl _ _) (.inl (by have := HLT.out; simp <;> omega)) (.string ⟨u.toArray⟩)))
  have HX5 : Hid (Only r w W5) := Lib.hid (by rw [hW5]; exact HX4.out.setCell (.inr (by have := HLT.out; simp <;> omega)) _)
  have HER := Lib.hid (err_w r s3 W5 H5.out.weak)
  have HW5 := Lib.hid hW5
  clear hW5
  unfold RPtr at HER
  by_cases he : s3.2 ≠ 0
  · have HE := Lib.hid he
    have eb : (s3.2 != 0) = true := by simpa using he
    clear he
    go_wp2_with (first
      | (go_at_call 14; rw [← HW5.out]; refine (HER.out).mono ?_; rintro e w' ⟨rfl, rfl⟩)
      | (refine wpList_store_rowTo rfl _ _ _ rfl rfl w.heap.size #[.int .u8 0, .int .i64 0, .complex .f64 0 0, .string ⟨#[]⟩] rfl rfl _ _ HG8.out info61 rfl (prow_one _ _ _ _ _) ?_))
    refine bodyPost_ret (results_cell_row rfl _ _ w.heap.size _ #[.int .u8 0, .int .i64 0, .complex .f64 0 0, .string ⟨#[]⟩] _ _ rfl (setRow_heap _ _ _ _ _ _ HG8.out) Tryz.underlying88 rfl info61) rfl ?_
    exact HPO.out Val.zero _ (by rw [if_pos HE.out]) (HX5.out.setRow (.inr (Nat.le_refl _)) _) (H5.out.above ((Ch.refl _ _).setRow (.inl (by have := HRL.out; omega)) _))
  · have HE := Lib.hid he
    have eb : (s3.2 != 0) = false := by simpa using he
    clear he
    go_wp2_with (first
      | (go_at_call 14; rw [← HW5.out]; refine (HER.out).mono ?_; rintro e w' ⟨rfl, rfl⟩)
      | (refine wpList_load_row rfl _ _ rfl (w.heap.size + 1) rfl _ _ _ _ HG6.out Tryz.underlying88 rfl info61 ?_)
      | (refine wpList_store_rowTo rfl _ _ _ rfl rfl w.heap.size #[.int .u8 (k : Nat), .int .i64 0, .complex .f64 0 0, .string ⟨u.toArray⟩] rfl rfl _ _ HG8.out info61 rfl (prow_one _ _ _ _ _) ?_))
    refine bodyPost_ret (results_cell_row rfl _ _ w.heap.size _ #[.int .u8 (k : Nat), .int .i64 0, .complex .f64 0 0, .string ⟨u.toArray⟩] _ _ rfl (setRow_heap _ _ _ _ _ _ HG8.out) Tryz.underlying88 rfl info61) rfl ?_
    exact HPO.out ⟨k, 0, 0, 0, u⟩ _ (by rw [if_neg HE.out]) (HX5.out.setRow (.inr (Nat.le_refl _)) _) (H5.out.above ((Ch.refl _ _).setRow (.inl (by have := HRL.out; omega)) _))
set_option maxRecDepth 20000 in
set_option maxHeartbeats 2000000 in
theorem take_ok_6 (r : Nat) (s : RS) (ver k : Nat) (w : World) (h : IsR w r s) (hv : ver = 1 ∨ ver = 2) (hk : k = 6) :
    Calls Tryz.prog 82 #[RPtr r, .int .u8 (k : Nat), .int .u8 (ver : Nat)] w (TkPost r (tTake ver k s).1 (tTake ver k s).2 w) := by
  have hiv := isVersion_any ver
  have hit := isType_any k
  rw [decide_eq_true hv] at hiv
  rw [decide_eq_true (show 1 ≤ k ∧ k ≤ 6 by omega)] at hit
  have hpre : tPre ver k s = s := by unfold tPre; simp only; rw [if_pos (show 1 ≤ k ∧ k ≤ 6 by omega), if_pos hv]
  have htt : tTake ver k s = (if (tRaw ver k s).2.2 ≠ 0 then .zero else (tRaw ver k s).1, (tRaw ver k s).2) := by unfold tTake; rw [hpre]
  rw [htt]
  have HIV := Lib.hid hiv; have HIT := Lib.hid hit
  clear hiv hit hpre htt
  have HRL := Lib.hid h.lt
  obtain ⟨S0, hS0⟩ : ∃ S0, S0 = s := ⟨_, rfl⟩
  rw [← hS0]
  have HS0 := Lib.hid hS0
  have hraw : tRaw ver k S0 = (⟨k, 0, 0, 0, (textR 2048 S0).1⟩, (textR 2048 S0).2) := by unfold tRaw; rw [if_neg (by omega)]; rw [if_neg (by omega)]; rw [if_neg (by omega)]; rw [if_neg (by omega)]; rw [if_neg (by omega)]; rw [if_pos hk]
  rw [hraw]
  simp only
  clear hraw hS0
  have hrd := fun w h => text_any r S0 2048 w h (by omega)
  rw [show (2048 : Int).toNat = 2048 by rfl] at hrd
  unfold strV at hrd
  have HRD := Lib.hid hrd
  clear hrd
  generalize (textR 2048 S0).1 = u at *
  generalize (textR 2048 S0).2 = s3 at *
  obtain ⟨PO, hPO⟩ : ∃ PO, PO = TkPost r (if s3.2 ≠ 0 then Val.zero else ⟨k, 0, 0, 0, u⟩) s3 w := ⟨_, rfl⟩
  have HPO : Hid (∀ v w', (if s3.2 ≠ 0 then Val.zero else ⟨k, 0, 0, 0, u⟩) = v → Only r w w' → IsR w' r s3 → PO (.returned (pv v)) w') := Lib.hid fun v w' h1 h2 h3 => by
    rw [hPO, h1]
    exact ⟨rfl, h2, h3⟩
  rw [← hPO]
  clear hPO
  have H := Lib.hid h
  clear h
  have e1 : (((k : Nat) : Int) == 1) = false := by rw [hk]; rfl
  have e2 : (((k : Nat) : Int) == 2) = false := by rw [hk]; rfl
  have e3 : (((k : Nat) : Int) == 3) = false := by rw [hk]; rfl
  have e4 : (((k : Nat) : Int) == 4) = false := by rw [hk]; rfl
  have e5 : (((k : Nat) : Int) == 5) = false := by rw [hk]; rfl
  have e6 : (((k : Nat) : Int) == 6) = true := by rw [hk]; rfl
  clear hk hv
  unfold RPtr at *
  have hg6 := heap_alloc_new w (.cells #[.int .u8 0, .int .i64 0, .complex .f64 0 0, .string ⟨#[]⟩] 88)
  have hx0 : Ext w (w.alloc (.cells #[.int .u8 0, .int .i64 0, .complex .f64 0 0, .string ⟨#[]⟩] 88)) := (Ch.refl _ _).alloc _
  have HX0 : Hid (Only r w (w.alloc (.cells #[.int .u8 0, .int .i64 0, .complex .f64 0 0, .string ⟨#[]⟩] 88))) := Lib.hid hx0.ch
  have HG0 := Lib.hid hg6
  have H0 := Lib.hid (H.out.ext hx0)
  clear hg6 hx0
  go_enter Tryz.func82, Tryz.ntmps82
  have HSW : Hid ((w.alloc (.cells #[.int .u8 0, .int .i64 0, .complex .f64 0 0, .string ⟨#[]⟩] 88)).heap.size = w.heap.size + 1) := Lib.hid (by simp)
  have HS0' := HS0.out
  subst HS0'
  have hq : ((w.alloc (.cells #[.int .u8 0, .int .i64 0, .complex .f64 0 0, .string ⟨#[]⟩] 88)).alloc (.cells #[.int .u8 0, .int .i64 0, .complex .f64 0 0, .string ⟨#[]⟩] 88)).heap[(w.heap.size + 1)]? = some (.cells #[.int .u8 0, .int .i64 0, .complex .f64 0 0, .string ⟨#[]⟩] 88 (0, 0)) := by have := heap_alloc2_new w (.cells #[.int .u8 0, .int .i64 0, .complex .f64 0 0, .string ⟨#[]⟩] 88) (.cells #[.int .u8 0, .int .i64 0, .complex .f64 0 0, .string ⟨#[]⟩] 88); exact this
  have HQ := Lib.hid hq
  obtain ⟨W3, hW3⟩ : ∃ W3, W3 = ((w.alloc (.cells #[.int .u8 0, .int .i64 0, .complex .f64 0 0, .string ⟨#[]⟩] 88)).alloc (.cells #[.int .u8 0, .int .i64 0, .complex .f64 0 0, .string ⟨#[]⟩] 88)).setRow (w.heap.size + 1) #[.int .u8 (k : Nat), .int .i64 0, .complex .f64 0 0, .string ⟨#[]⟩] := ⟨_, rfl⟩
  have hx3 : Ext (w.alloc (.cells #[.int .u8 0, .int .i64 0, .complex .f64 0 0, .string ⟨#[]⟩] 88)) W3 := by rw [hW3]; exact ((Ch.refl _ _).alloc _).setRow (.inr (by rw [HSW.out]; exact Nat.le_refl _)) _
  have HG3 : Hid (W3.heap[w.heap.size]? = some (.cells #[.int .u8 0, .int .i64 0, .complex .f64 0 0, .string ⟨#[]⟩] 88 (0, 0))) := Lib.hid (heap_of_ext hx3 HG0.out)
  have hg7 : W3.heap[(w.heap.size + 1)]? = some (.cells #[.int .u8 (k : Nat), .int .i64 0, .complex .f64 0 0, .string ⟨#[]⟩] 88 (0, 0)) := by rw [hW3]; exact setRow_heap _ _ _ _ _ _ hq
  have HG7 := Lib.hid hg7
  have HX3 : Hid (Only r w W3) := Lib.hid (HX0.out.trans hx3.ch)
  have H3 := Lib.hid (H0.out.ext hx3)
  have HLT : Hid (r < (w.heap.size + 1) ∧ w.heap.size < (w.heap.size + 1)) := Lib.hid (by have := HRL.out; omega)
  have HW3 := Lib.hid hW3
  clear hq hx3 hg7 hW3
  go_wp2_with (first
    | (go_at_call 104; refine (HIV.out _).mono ?_; rintro e w' ⟨rfl, rfl⟩)
    | (go_at_call 96; refine (HIT.out _).mono ?_; rintro e w' ⟨rfl, rfl⟩)
    | (refine wpList_store_rowTo rfl _ _ _ rfl rfl (w.heap.size + 1) #[.int .u8 (k : Nat), .int .i64 0, .complex .f64 0 0, .string ⟨#[]⟩] rfl rfl _ _ HQ.out info61 rfl (prow_one _ _ _ _ _) ?_; rw [← HW3.out])
    | (go_at_call 110; refine (HRD.out _ H3.out).mono ?_))
  rintro e w4 ⟨rfl, k1, k2⟩
  have HX4 := Lib.hid (HX3.out.trans k1); have H4 := Lib.hid k2
  have HG4 : Hid (w4.heap[w.heap.size]? = some (.cells #[.int .u8 0, .int .i64 0, .complex .f64 0 0, .string ⟨#[]⟩] 88 (0, 0))) := Lib.hid (heap_of_only k1 (by have := HRL.out; omega) HG3.out)
  have HG5 : Hid (w4.heap[(w.heap.size + 1)]? = some (.cells #[.int .u8 (k : Nat), .int .i64 0, .complex .f64 0 0, .string ⟨#[]⟩] 88 (0, 0))) := Lib.hid (heap_of_only k1 (by have := HLT.out; omega) HG7.out)
  clear k1 k2
  have d : w4.cell? ⟨(w.heap.size + 1), 3, none⟩ = some (.string ⟨#[]⟩) := by rw [cell_of_row _ _ _ _ _ _ HG5.out]; rfl
  have f := frozen_of_row w4 (w.heap.size + 1) 3 _ _ HG5.out
  have hst : (store ⟨(w.heap.size + 1), 3, none⟩ (.string ⟨u.toArray⟩)).run Tryz.prog w4 = .ok () (w4.setCell ⟨(w.heap.size + 1), 3, none⟩ (.string ⟨u.toArray⟩)) := by
    rw [run_store Tryz.prog w4 _ _ _ rfl, d]; simp [f]
  obtain ⟨W5, hW5⟩ : ∃ W5, W5 = w4.setCell ⟨(w.heap.size + 1), 3, none⟩ (.string ⟨u.toArray⟩) := ⟨_, rfl⟩
  have HG6 : Hid (W5.heap[(w.heap.size + 1)]? = some (.cells #[.int .u8 (k : Nat), .int .i64 0, .complex .f64 0 0, .string ⟨u.toArray⟩] 88 (0, 0))) := Lib.hid (by rw [hW5]; exact heap_setCell_same w4 (w.heap.size + 1) 3 _ _ _ HG5.out)
  have HG8 : Hid (W5.heap[w.heap.size]? = some (.cells #[.int .u8 0, .int .i64 0, .complex .f64 0 0, .string ⟨#[]⟩] 88 (0, 0))) := Lib.hid (by rw [hW5, heap_setCell_other w4 ⟨(w.heap.size + 1), 3, none⟩ w.heap.size (.string ⟨u.toArray⟩) (by have := HLT.out; simp <;> omega)]; exact HG4.out)
  have H5 : Hid (IsR W5 r s3) := Lib.hid (by rw [hW5]; exact H4.out.above (Ch.setCell (p := ⟨(w.heap.size + 1), 3, none⟩) (Ch.refl _ _) (.inl (by have := HLT.out; simp <;> omega)) (.string ⟨u.toArray⟩)))
  have HX5 : Hid (Only r w W5) := Lib.hid (by rw [hW5]; exact HX4.out.setCell (.inr (by have := HLT.out; simp <;> omega)) _)
  have HER := Lib.hid (err_w r s3 W5 H5.out.weak)
  have HW5 := Lib.hid hW5
  clear hW5
  unfold RPtr at HER
  by_cases he : s3.2 ≠ 0
  · have HE := Lib.hid he
    have eb : (s3.2 != 0) = true := by simpa using he
    clear he
    go_wp2_with (first
      | (go_at_call 14; rw [← HW5.out]; refine (HER.out).mono ?_; rintro e w' ⟨rfl, rfl⟩)
      | (refine wpList_store_rowTo rfl _ _ _ rfl rfl w.heap.size #[.int .u8 0, .int .i64 0, .complex .f64 0 0, .string ⟨#[]⟩] rfl rfl _ _ HG8.out info61 rfl (prow_one _ _ _ _ _) ?_))
    refine bodyPost_ret (results_cell_row rfl _ _ w.heap.size _ #[.int .u8 0, .int .i64 0, .complex .f64 0 0, .string ⟨#[]⟩] _ _ rfl (setRow_heap _ _ _ _ _ _ HG8.out) Tryz.underlying88 rfl info61) rfl ?_
    exact HPO.out Val.zero _ (by rw [if_pos HE.out]) (HX5.out.setRow (.inr (Nat.le_refl _)) _) (H5.out.above ((Ch.refl _ _).setRow (.inl (by have := HRL.out; omega)) _))
  · have HE := Lib.hid he
    have eb : (s3.2 != 0) = false := by simpa using he
    clear he
    go_wp2_with (first
      | (go_at_call 14; rw [← HW5.out]; refine (HER.out).mono ?_; rintro e w' ⟨rfl, rfl⟩)
      | (refine wpList_load_row rfl _ _ rfl (w.heap.size + 1) rfl _ _ _ _ HG6.out Tryz.underlying88 rfl info61 ?_)
      | (refine wpList_store_rowTo rfl _ _ _ rfl rfl w.heap.size #[.int .u8 (k : Nat), .int .i64 0, .complex .f64 0 0, .string ⟨u.toArray⟩] rfl rfl _ _ HG8.out info61 rfl (prow_one _ _ _ _ _) ?_))
    refine bodyPost_ret (results_cell_row rfl _ _ w.heap.size _ #[.int .u8 (k : Nat), .int .i64 0, .complex .f64 0 0, .string ⟨u.toArray⟩] _ _ rfl (setRow_heap _ _ _ _ _ _ HG8.out) Tryz.underlying88 rfl info61) rfl ?_
    exact HPO.out ⟨k, 0, 0, 0, u⟩ _ (by rw [if_neg HE.out]) (HX5.out.setRow (.inr (Nat.le_refl _)) _) (H5.out.above ((Ch.refl _ _).setRow (.inl (by have := HRL.out; omega)) _))
set_option maxRecDepth 20000 in
set_option maxHeartbeats 2000000 in
theorem take_ok_bt (r : Nat) (s : RS) (ver k : Nat) (w : World) (h : IsR w r s) (hv : ver = 1 ∨ ver = 2) (hk : k < 1 ∨ 6 < k) :
    Calls Tryz.prog 82 #[RPtr r, .int .u8 (k : Nat), .int .u8 (ver : Nat)] w (TkPost r (tTake ver k s).1 (tTake ver k s).2 w) := by
  have hiv := isVersion_any ver
  have hit := isType_any k
  rw [decide_eq_true hv] at hiv
  rw [decide_eq_false (show ¬ (1 ≤ k ∧ k ≤ 6) by omega)] at hit
  have hpre : tPre ver k s = (failR s 11) := by unfold tPre; simp only; rw [if_neg (show ¬ (1 ≤ k ∧ k ≤ 6) by omega), if_pos hv]
  have htt : tTake ver k s = (if (tRaw ver k (failR s 11)).2.2 ≠ 0 then .zero else (tRaw ver k (failR s 11)).1, (tRaw ver k (failR s 11)).2) := by unfold tTake; rw [hpre]
  rw [htt]
  have HIV := Lib.hid hiv; have HIT := Lib.hid hit
  clear hiv hit hpre htt
  have HF2 := Lib.hid (fun w h => fail_any r s 11 w h)
  have HRL := Lib.hid h.lt
  obtain ⟨S0, hS0⟩ : ∃ S0, S0 = (failR s 11) := ⟨_, rfl⟩
  rw [← hS0]
  have HS0 := Lib.hid hS0
  have hraw : tRaw ver k S0 = (⟨k, 0, 0, 0, []⟩, S0) := by unfold tRaw; rw [if_neg (by omega), if_neg (by omega), if_neg (by omega), if_neg (by omega), if_neg (by omega), if_neg (by omega)]
  rw [hraw]
  simp only
  clear hraw hS0
  obtain ⟨PO, hPO⟩ : ∃ PO, PO = TkPost r (if S0.2 ≠ 0 then Val.zero else ⟨k, 0, 0, 0, []⟩) S0 w := ⟨_, rfl⟩
  have HPO : Hid (∀ v w', (if S0.2 ≠ 0 then Val.zero else ⟨k, 0, 0, 0, []⟩) = v → Only r w w' → IsR w' r S0 → PO (.returned (pv v)) w') := Lib.hid fun v w' h1 h2 h3 => by
    rw [hPO, h1]
    exact ⟨rfl, h2, h3⟩
  rw [← hPO]
  clear hPO
  have H := Lib.hid h
  clear h
  have e1 : (((k : Nat) : Int) == 1) = false := by simp; omega
  have e2 : (((k : Nat) : Int) == 2) = false := by simp; omega
  have e3 : (((k : Nat) : Int) == 3) = false := by simp; omega
  have e4 : (((k : Nat) : Int) == 4) = false := by simp; omega
  have e5 : (((k : Nat) : Int) == 5) = false := by simp; omega
  have e6 : (((k : Nat) : Int) == 6) = false := by simp; omega
  clear hk hv
  unfold RPtr at *
  have hg6 := heap_alloc_new w (.cells #[.int .u8 0, .int .i64 0, .complex .f64 0 0, .string ⟨#[]⟩] 88)
  have hx0 : Ext w (w.alloc (.cells #[.int .u8 0, .int .i64 0, .complex .f64 0 0, .string ⟨#[]⟩] 88)) := (Ch.refl _ _).alloc _
  have HX0 : Hid (Only r w (w.alloc (.cells #[.int .u8 0, .int .i64 0, .complex .f64 0 0, .string ⟨#[]⟩] 88))) := Lib.hid hx0.ch
  have HG0 := Lib.hid hg6
  have H0 := Lib.hid (H.out.ext hx0)
  clear hg6 hx0
  go_enter Tryz.func82, Tryz.ntmps82
  go_wp2_with (first
    | (go_at_call 104; refine (HIV.out _).mono ?_; rintro e w' ⟨rfl, rfl⟩)
    | (go_at_call 96; refine (HIT.out _).mono ?_; rintro e w' ⟨rfl, rfl⟩)
    | (go_at_call 26; refine (HF2.out _ H0.out).mono ?_))
  rintro e wB ⟨rfl, k1, k2⟩
  have HXB := Lib.hid (HX0.out.trans k1); have HB := Lib.hid k2
  have HGB : Hid (wB.heap[w.heap.size]? = some (.cells #[.int .u8 0, .int .i64 0, .complex .f64 0 0, .string ⟨#[]⟩] 88 (0, 0))) := Lib.hid (heap_of_only k1 (by have := HRL.out; omega) HG0.out)
  clear k1 k2
  rw [← HS0.out] at HB
  have hq : (wB.alloc (.cells #[.int .u8 0, .int .i64 0, .complex .f64 0 0, .string ⟨#[]⟩] 88)).heap[wB.heap.size]? = some (.cells #[.int .u8 0, .int .i64 0, .complex .f64 0 0, .string ⟨#[]⟩] 88 (0, 0)) := heap_alloc_new _ _
  have HQ := Lib.hid hq
  obtain ⟨W3, hW3⟩ : ∃ W3, W3 = (wB.alloc (.cells #[.int .u8 0, .int .i64 0, .complex .f64 0 0, .string ⟨#[]⟩] 88)).setRow wB.heap.size #[.int .u8 (k : Nat), .int .i64 0, .complex .f64 0 0, .string ⟨#[]⟩] := ⟨_, rfl⟩
  have hx3 : Ext wB W3 := by rw [hW3]; exact ((Ch.refl _ _).alloc _).setRow (.inr (Nat.le_refl _)) _
  have HG3 : Hid (W3.heap[w.heap.size]? = some (.cells #[.int .u8 0, .int .i64 0, .complex .f64 0 0, .string ⟨#[]⟩] 88 (0, 0))) := Lib.hid (heap_of_ext hx3 HGB.out)
  have hg7 : W3.heap[wB.heap.size]? = some (.cells #[.int .u8 (k : Nat), .int .i64 0, .complex .f64 0 0, .string ⟨#[]⟩] 88 (0, 0)) := by rw [hW3]; exact setRow_heap _ _ _ _ _ _ hq
  have HG7 := Lib.hid hg7
  have HX3 : Hid (Only r w W3) := Lib.hid (HXB.out.trans hx3.ch)
  have H3 := Lib.hid (HB.out.ext hx3)
  have HLT : Hid (r < wB.heap.size ∧ w.heap.size < wB.heap.size) := Lib.hid (by have h1 := (Array.getElem?_eq_some_iff.1 HGB.out).1; have := HRL.out; omega)
  have HW3 := Lib.hid hW3
  clear hq hx3 hg7 hW3
  have HSZ : Hid (wB.heap.size = wB.heap.size) := Lib.hid rfl
  have HER := Lib.hid (err_w r S0 W3 H3.out.weak)
  have H5 := Lib.hid H3.out
  have HG6 := Lib.hid HG7.out; have HG8 := Lib.hid HG3.out; have HX5 := Lib.hid HX3.out
  unfold RPtr at HER
  by_cases he : S0.2 ≠ 0
  · have HE := Lib.hid he
    have eb : (S0.2 != 0) = true := by simpa using he
    clear he
    go_wp2_with (first
      | (refine wpList_store_rowTo rfl _ _ _ rfl rfl wB.heap.size #[.int .u8 (k : Nat), .int .i64 0, .complex .f64 0 0, .string ⟨#[]⟩] rfl rfl _ _ HQ.out info61 rfl (prow_one _ _ _ _ _) ?_; rw [← HW3.out])
      | (go_at_call 104; refine (HIV.out _).mono ?_; rintro e w' ⟨rfl, rfl⟩)
      | (go_at_call 96; refine (HIT.out _).mono ?_; rintro e w' ⟨rfl, rfl⟩)
      | (go_at_call 14; refine (HER.out).mono ?_; rintro e w' ⟨rfl, rfl⟩)
      | (refine wpList_store_rowTo rfl _ _ _ rfl rfl w.heap.size #[.int .u8 0, .int .i64 0, .complex .f64 0 0, .string ⟨#[]⟩] rfl rfl _ _ HG8.out info61 rfl (prow_one _ _ _ _ _) ?_))
    refine bodyPost_ret (results_cell_row rfl _ _ w.heap.size _ #[.int .u8 0, .int .i64 0, .complex .f64 0 0, .string ⟨#[]⟩] _ _ rfl (setRow_heap _ _ _ _ _ _ HG8.out) Tryz.underlying88 rfl info61) rfl ?_
    exact HPO.out Val.zero _ (by rw [if_pos HE.out]) (HX5.out.setRow (.inr (Nat.le_refl _)) _) (H5.out.above ((Ch.refl _ _).setRow (.inl (by have := HRL.out; omega)) _))
  · have HE := Lib.hid he
    have eb : (S0.2 != 0) = false := by simpa using he
    clear he
    go_wp2_with (first
      | (refine wpList_store_rowTo rfl _ _ _ rfl rfl wB.heap.size #[.int .u8 (k : Nat), .int .i64 0, .complex .f64 0 0, .string ⟨#[]⟩] rfl rfl _ _ HQ.out info61 rfl (prow_one _ _ _ _ _) ?_; rw [← HW3.out])
      | (go_at_call 104; refine (HIV.out _).mono ?_; rintro e w' ⟨rfl, rfl⟩)
      | (go_at_call 96; refine (HIT.out _).mono ?_; rintro e w' ⟨rfl, rfl⟩)
      | (go_at_call 14; refine (HER.out).mono ?_; rintro e w' ⟨rfl, rfl⟩)
      | (refine wpList_load_row rfl _ _ rfl wB.heap.size rfl _ _ _ _ HG6.out Tryz.underlying88 rfl info61 ?_)
      | (refine wpList_store_rowTo rfl _ _ _ rfl rfl w.heap.size #[.int .u8 (k : Nat), .int .i64 0, .complex .f64 0 0, .string ⟨#[]⟩] rfl rfl _ _ HG8.out info61 rfl (prow_one _ _ _ _ _) ?_))
    refine bodyPost_ret (results_cell_row rfl _ _ w.heap.size _ #[.int .u8 (k : Nat), .int .i64 0, .complex .f64 0 0, .string ⟨#[]⟩] _ _ rfl (setRow_heap _ _ _ _ _ _ HG8.out) Tryz.underlying88 rfl info61) rfl ?_
    exact HPO.out ⟨k, 0, 0, 0, []⟩ _ (by rw [if_neg HE.out]) (HX5.out.setRow (.inr (Nat.le_refl _)) _) (H5.out.above ((Ch.refl _ _).setRow (.inl (by have := HRL.out; omega)) _))
set_option maxRecDepth 20000 in
set_option maxHeartbeats 2000000 in
theorem take_bv_1 (r : Nat) (s : RS) (ver k : Nat) (w : World) (h : IsR w r s) (hv : ver ≠ 1 ∧ ver ≠ 2) (hk : k = 1) :
    Calls Tryz.prog 82 #[RPtr r, .int .u8 (k : Nat), .int .u8 (ver : Nat)] w (TkPost r (tTake ver k s).1 (tTake ver k s).2 w) := by
  have hiv := isVersion_any ver
  have hit := isType_any k
  rw [decide_eq_false (show ¬ (ver = 1 ∨ ver = 2) by omega)] at hiv
  rw [decide_eq_true (show 1 ≤ k ∧ k ≤ 6 by omega)] at hit
  have hpre : tPre ver k s = (failR s 18) := by unfold tPre; simp only; rw [if_pos (show 1 ≤ k ∧ k ≤ 6 by omega), if_neg (show ¬ (ver = 1 ∨ ver = 2) by omega)]
  have htt : tTake ver k s = (if (tRaw ver k (failR s 18)).2.2 ≠ 0 then .zero else (tRaw ver k (failR s 18)).1, (tRaw ver k (failR s 18)).2) := by unfold tTake; rw [hpre]
  rw [htt]
  have HIV := Lib.hid hiv; have HIT := Lib.hid hit
  clear hiv hit hpre htt
  have HF1 := Lib.hid (fun w h => fail_any r s 18 w h)
  have HRL := Lib.hid h.lt
  obtain ⟨S0, hS0⟩ : ∃ S0, S0 = (failR s 18) := ⟨_, rfl⟩
  rw [← hS0]
  have HS0 := Lib.hid hS0
  have hraw : tRaw ver k S0 = (⟨k, ((tByte 1 S0).1 : Int), 0, 0, []⟩, (tByte 1 S0).2) := by unfold tRaw;  rw [if_pos hk]
  rw [hraw]
  simp only
  clear hraw hS0
  have hrd := fun w h => takeByte_any r S0 1 w h
  have HRD := Lib.hid hrd
  clear hrd
  have hbl : (tByte 1 S0).1 < 256 := byteR_lt S0
  generalize (tByte 1 S0).1 = u at *
  generalize (tByte 1 S0).2 = s3 at *
  have hwr : IntKind.i64.wrap (u : Int) = (u : Int) := by rw [IntKind.wrap_i64]; omega
  obtain ⟨PO, hPO⟩ : ∃ PO, PO = TkPost r (if s3.2 ≠ 0 then Val.zero else ⟨k, (u : Int), 0, 0, []⟩) s3 w := ⟨_, rfl⟩
  have HPO : Hid (∀ v w', (if s3.2 ≠ 0 then Val.zero else ⟨k, (u : Int), 0, 0, []⟩) = v → Only r w w' → IsR w' r s3 → PO (.returned (pv v)) w') := Lib.hid fun v w' h1 h2 h3 => by
    rw [hPO, h1]
    exact ⟨rfl, h2, h3⟩
  rw [← hPO]
  clear hPO
  have H := Lib.hid h
  clear h
  have e1 : (((k : Nat) : Int) == 1) = true := by rw [hk]; rfl
  clear hk hv
  unfold RPtr at *
  have hg6 := heap_alloc_new w (.cells #[.int .u8 0, .int .i64 0, .complex .f64 0 0, .string ⟨#[]⟩] 88)
  have hx0 : Ext w (w.alloc (.cells #[.int .u8 0, .int .i64 0, .complex .f64 0 0, .string ⟨#[]⟩] 88)) := (Ch.refl _ _).alloc _
  have HX0 : Hid (Only r w (w.alloc (.cells #[.int .u8 0, .int .i64 0, .complex .f64 0 0, .string ⟨#[]⟩] 88))) := Lib.hid hx0.ch
  have HG0 := Lib.hid hg6
  have H0 := Lib.hid (H.out.ext hx0)
  clear hg6 hx0
  go_enter Tryz.func82, Tryz.ntmps82
  go_wp2_with (first
    | (go_at_call 104; refine (HIV.out _).mono ?_; rintro e w' ⟨rfl, rfl⟩)
    | (go_at_call 26; refine (HF1.out _ H0.out).mono ?_))
  rintro e wA ⟨rfl, k1, k2⟩
  have HXA := Lib.hid (HX0.out.trans k1); have HA := Lib.hid k2
  have HGA : Hid (wA.heap[w.heap.size]? = some (.cells #[.int .u8 0, .int .i64 0, .complex .f64 0 0, .string ⟨#[]⟩] 88 (0, 0))) := Lib.hid (heap_of_only k1 (by have := HRL.out; omega) HG0.out)
  clear k1 k2
  rw [← HS0.out] at HA
  have hq : (wA.alloc (.cells #[.int .u8 0, .int .i64 0, .complex .f64 0 0, .string ⟨#[]⟩] 88)).heap[wA.heap.size]? = some (.cells #[.int .u8 0, .int .i64 0, .complex .f64 0 0, .string ⟨#[]⟩] 88 (0, 0)) := heap_alloc_new _ _
  have HQ := Lib.hid hq
  obtain ⟨W3, hW3⟩ : ∃ W3, W3 = (wA.alloc (.cells #[.int .u8 0, .int .i64 0, .complex .f64 0 0, .string ⟨#[]⟩] 88)).setRow wA.heap.size #[.int .u8 (k : Nat), .int .i64 0, .complex .f64 0 0, .string ⟨#[]⟩] := ⟨_, rfl⟩
  have hx3 : Ext wA W3 := by rw [hW3]; exact ((Ch.refl _ _).alloc _).setRow (.inr (Nat.le_refl _)) _
  have HG3 : Hid (W3.heap[w.heap.size]? = some (.cells #[.int .u8 0, .int .i64 0, .complex .f64 0 0, .string ⟨#[]⟩] 88 (0, 0))) := Lib.hid (heap_of_ext hx3 HGA.out)
  have hg7 : W3.heap[wA.heap.size]? = some (.cells #[.int .u8 (k : Nat), .int .i64 0, .complex .f64 0 0, .string ⟨#[]⟩] 88 (0, 0)) := by rw [hW3]; exact setRow_heap _ _ _ _ _ _ hq
  have HG7 := Lib.hid hg7
  have HX3 : Hid (Only r w W3) := Lib.hid (HXA.out.trans hx3.ch)
  have H3 := Lib.hid (HA.out.ext hx3)
  have HLT : Hid (r < wA.heap.size ∧ w.heap.size < wA.heap.size) := Lib.hid (by have h1 := (Array.getElem?_eq_some_iff.1 HGA.out).1; have := HRL.out; omega)
  have HW3 := Lib.hid hW3
  clear hq hx3 hg7 hW3
  have HSZ : Hid (wA.heap.size = wA.heap.size) := Lib.hid rfl
  go_wp2_with (first
    | (go_at_call 104; refine (HIV.out _).mono ?_; rintro e w' ⟨rfl, rfl⟩)
    | (go_at_call 96; refine (HIT.out _).mono ?_; rintro e w' ⟨rfl, rfl⟩)
    | (refine wpList_store_rowTo rfl _ _ _ rfl rfl wA.heap.size #[.int .u8 (k : Nat), .int .i64 0, .complex .f64 0 0, .string ⟨#[]⟩] rfl rfl _ _ HQ.out info61 rfl (prow_one _ _ _ _ _) ?_; rw [← HW3.out])
    | (go_at_call 105; refine (HRD.out _ H3.out).mono ?_))
  rintro e w4 ⟨rfl, k1, k2⟩
  have HX4 := Lib.hid (HX3.out.trans k1); have H4 := Lib.hid k2
  have HG4 : Hid (w4.heap[w.heap.size]? = some (.cells #[.int .u8 0, .int .i64 0, .complex .f64 0 0, .string ⟨#[]⟩] 88 (0, 0))) := Lib.hid (heap_of_only k1 (by have := HRL.out; omega) HG3.out)
  have HG5 : Hid (w4.heap[wA.heap.size]? = some (.cells #[.int .u8 (k : Nat), .int .i64 0, .complex .f64 0 0, .string ⟨#[]⟩] 88 (0, 0))) := Lib.hid (heap_of_only k1 (by have := HLT.out; omega) HG7.out)
  clear k1 k2
  have d : w4.cell? ⟨wA.heap.size, 1, none⟩ = some (.int .i64 0) := by rw [cell_of_row _ _ _ _ _ _ HG5.out]; rfl
  have f := frozen_of_row w4 wA.heap.size 1 _ _ HG5.out
  have hst : (store ⟨wA.heap.size, 1, none⟩ (.int .i64 (u : Nat))).run Tryz.prog w4 = .ok () (w4.setCell ⟨wA.heap.size, 1, none⟩ (.int .i64 (u : Nat))) := by
    rw [run_store Tryz.prog w4 _ _ _ rfl, d]; simp [f]
  obtain ⟨W5, hW5⟩ : ∃ W5, W5 = w4.setCell ⟨wA.heap.size, 1, none⟩ (.int .i64 (u : Nat)) := ⟨_, rfl⟩
  have HG6 : Hid (W5.heap[wA.heap.size]? = some (.cells #[.int .u8 (k : Nat), .int .i64 (u : Nat), .complex .f64 0 0, .string ⟨#[]⟩] 88 (0, 0))) := Lib.hid (by rw [hW5]; exact heap_setCell_same w4 wA.heap.size 1 _ _ _ HG5.out)
  have HG8 : Hid (W5.heap[w.heap.size]? = some (.cells #[.int .u8 0, .int .i64 0, .complex .f64 0 0, .string ⟨#[]⟩] 88 (0, 0))) := Lib.hid (by rw [hW5, heap_setCell_other w4 ⟨wA.heap.size, 1, none⟩ w.heap.size (.int .i64 (u : Nat)) (by have := HLT.out; simp <;> omega)]; exact HG4.out)
  have H5 : Hid (IsR W5 r s3) := Lib.hid (by rw [hW5]; exact H4.out.above (Ch.setCell (p := ⟨wA.heap.size, 1, none⟩) (Ch.refl _ _) (.inl (by have := HLT.out; simp <;> omega)) (.int .i64 (u : Nat))))
  have HX5 : Hid (Only r w W5) := Lib.hid (by rw [hW5]; exact HX4.out.setCell (.inr (by have := HLT.out; simp <;> omega)) _)
  have HER := Lib.hid (err_w r s3 W5 H5.out.weak)
  have HW5 := Lib.hid hW5
  clear hW5
  unfold RPtr at HER
  by_cases he : s3.2 ≠ 0
  · have HE := Lib.hid he
    have eb : (s3.2 != 0) = true := by simpa using he
    clear he
    go_wp2_with (first
      | (go_at_call 14; rw [← HW5.out]; refine (HER.out).mono ?_; rintro e w' ⟨rfl, rfl⟩)
      | (refine wpList_store_rowTo rfl _ _ _ rfl rfl w.heap.size #[.int .u8 0, .int .i64 0, .complex .f64 0 0, .string ⟨#[]⟩] rfl rfl _ _ HG8.out info61 rfl (prow_one _ _ _ _ _) ?_))
    refine bodyPost_ret (results_cell_row rfl _ _ w.heap.size _ #[.int .u8 0, .int .i64 0, .complex .f64 0 0, .string ⟨#[]⟩] _ _ rfl (setRow_heap _ _ _ _ _ _ HG8.out) Tryz.underlying88 rfl info61) rfl ?_
    exact HPO.out Val.zero _ (by rw [if_pos HE.out]) (HX5.out.setRow (.inr (Nat.le_refl _)) _) (H5.out.above ((Ch.refl _ _).setRow (.inl (by have := HRL.out; omega)) _))
  · have HE := Lib.hid he
    have eb : (s3.2 != 0) = false := by simpa using he
    clear he
    go_wp2_with (first
      | (go_at_call 14; rw [← HW5.out]; refine (HER.out).mono ?_; rintro e w' ⟨rfl, rfl⟩)
      | (refine wpList_load_row rfl _ _ rfl wA.heap.size rfl _ _ _ _ HG6.out Tryz.underlying88 rfl info61 ?_)
      | (refine wpList_store_rowTo rfl _ _ _ rfl rfl w.heap.size #[.int .u8 (k : Nat), .int .i64 (u : Nat), .complex .f64 0 0, .string ⟨#[]⟩] rfl rfl _ _ HG8.out info61 rfl (prow_one _ _ _ _ _) ?_))
    refine bodyPost_ret (results_cell_row rfl _ _ w.heap.size _ #[.int .u8 (k : Nat), .int .i64 (u : Nat), .complex .f64 0 0, .string ⟨#[]⟩] _ _ rfl (setRow_heap _ _ _ _ _ _ HG8.out) Tryz.underlying88 rfl info61) rfl ?_
    exact HPO.out ⟨k, (u : Int), 0, 0, []⟩ _ (by rw [if_neg HE.out]) (HX5.out.setRow (.inr (Nat.le_refl _)) _) (H5.out.above ((Ch.refl _ _).setRow (.inl (by have := HRL.out; omega)) _))
set_option maxRecDepth 20000 in
set_option maxHeartbeats 2000000 in
theorem take_bv_2 (r : Nat) (s : RS) (ver k : Nat) (w : World) (h : IsR w r s) (hv : ver ≠ 1 ∧ ver ≠ 2) (hk : k = 2) :
    Calls Tryz.prog 82 #[RPtr r, .int .u8 (k : Nat), .int .u8 (ver : Nat)] w (TkPost r (tTake ver k s).1 (tTake ver k s).2 w) := by
  have hiv := isVersion_any ver
  have hit := isType_any k
  rw [decide_eq_false (show ¬ (ver = 1 ∨ ver = 2) by omega)] at hiv
  rw [decide_eq_true (show 1 ≤ k ∧ k ≤ 6 by omega)] at hit
  have hpre : tPre ver k s = (failR s 18) := by unfold tPre; simp only; rw [if_pos (show 1 ≤ k ∧ k ≤ 6 by omega), if_neg (show ¬ (ver = 1 ∨ ver = 2) by omega)]
  have htt : tTake ver k s = (if (tRaw ver k (failR s 18)).2.2 ≠ 0 then .zero else (tRaw ver k (failR s 18)).1, (tRaw ver k (failR s 18)).2) := by unfold tTake; rw [hpre]
  rw [htt]
  have HIV := Lib.hid hiv; have HIT := Lib.hid hit
  clear hiv hit hpre htt
  have HF1 := Lib.hid (fun w h => fail_any r s 18 w h)
  have HRL := Lib.hid h.lt
  obtain ⟨S0, hS0⟩ : ∃ S0, S0 = (failR s 18) := ⟨_, rfl⟩
  rw [← hS0]
  have HS0 := Lib.hid hS0
  have hraw : tRaw ver k S0 = (⟨k, (tInt ver S0).1, 0, 0, []⟩, (tInt ver S0).2) := by unfold tRaw; rw [if_neg (by omega)]; rw [if_pos hk]
  rw [hraw]
  simp only
  clear hraw hS0
  have hrd := fun w h => takeInt_any r S0 ver w h
  have HRD := Lib.hid hrd
  clear hrd
  generalize (tInt ver S0).1 = u at *
  generalize (tInt ver S0).2 = s3 at *
  obtain ⟨PO, hPO⟩ : ∃ PO, PO = TkPost r (if s3.2 ≠ 0 then Val.zero else ⟨k, u, 0, 0, []⟩) s3 w := ⟨_, rfl⟩
  have HPO : Hid (∀ v w', (if s3.2 ≠ 0 then Val.zero else ⟨k, u, 0, 0, []⟩) = v → Only r w w' → IsR w' r s3 → PO (.returned (pv v)) w') := Lib.hid fun v w' h1 h2 h3 => by
    rw [hPO, h1]
    exact ⟨rfl, h2, h3⟩
  rw [← hPO]
  clear hPO
  have H := Lib.hid h
  clear h
  have e1 : (((k : Nat) : Int) == 1) = false := by rw [hk]; rfl
  have e2 : (((k : Nat) : Int) == 2) = true := by rw [hk]; rfl
  clear hk hv
  unfold RPtr at *
  have hg6 := heap_alloc_new w (.cells #[.int .u8 0, .int .i64 0, .complex .f64 0 0, .string ⟨#[]⟩] 88)
  have hx0 : Ext w (w.alloc (.cells #[.int .u8 0, .int .i64 0, .complex .f64 0 0, .string ⟨#[]⟩] 88)) := (Ch.refl _ _).alloc _
  have HX0 : Hid (Only r w (w.alloc (.cells #[.int .u8 0, .int .i64 0, .complex .f64 0 0, .string ⟨#[]⟩] 88))) := Lib.hid hx0.ch
  have HG0 := Lib.hid hg6
  have H0 := Lib.hid (H.out.ext hx0)
  clear hg6 hx0
  go_enter Tryz.func82, Tryz.ntmps82
  go_wp2_with (first
    | (go_at_call 104; refine (HIV.out _).mono ?_; rintro e w' ⟨rfl, rfl⟩)
    | (go_at_call 26; refine (HF1.out _ H0.out).mono ?_))
  rintro e wA ⟨rfl, k1, k2⟩
  have HXA := Lib.hid (HX0.out.trans k1); have HA := Lib.hid k2
  have HGA : Hid (wA.heap[w.heap.size]? = some (.cells #[.int .u8 0, .int .i64 0, .complex .f64 0 0, .string ⟨#[]⟩] 88 (0, 0))) := Lib.hid (heap_of_only k1 (by have := HRL.out; omega) HG0.out)
  clear k1 k2
  rw [← HS0.out] at HA
  have hq : (wA.alloc (.cells #[.int .u8 0, .int .i64 0, .complex .f64 0 0, .string ⟨#[]⟩] 88)).heap[wA.heap.size]? = some (.cells #[.int .u8 0, .int .i64 0, .complex .f64 0 0, .string ⟨#[]⟩] 88 (0, 0)) := heap_alloc_new _ _
  have HQ := Lib.hid hq
  obtain ⟨W3, hW3⟩ : ∃ W3, W3 = (wA.alloc (.cells #[.int .u8 0, .int .i64 0, .complex .f64 0 0, .string ⟨#[]⟩] 88)).setRow wA.heap.size #[.int .u8 (k : Nat), .int .i64 0, .complex .f64 0 0, .string ⟨#[]⟩] := ⟨_, rfl⟩
  have hx3 : Ext wA W3 := by rw [hW3]; exact ((Ch.refl _ _).alloc _).setRow (.inr (Nat.le_refl _)) _
  have HG3 : Hid (W3.heap[w.heap.size]? = some (.cells #[.int .u8 0, .int .i64 0, .complex .f64 0 0, .string ⟨#[]⟩] 88 (0, 0))) := Lib.hid (heap_of_ext hx3 HGA.out)
  have hg7 : W3.heap[wA.heap.size]? = some (.cells #[.int .u8 (k : Nat), .int .i64 0, .complex .f64 0 0, .string ⟨#[]⟩] 88 (0, 0)) := by rw [hW3]; exact setRow_heap _ _ _ _ _ _ hq
  have HG7 := Lib.hid hg7
  have HX3 : Hid (Only r w W3) := Lib.hid (HXA.out.trans hx3.ch)
  have H3 := Lib.hid (HA.out.ext hx3)
  have HLT : Hid (r < wA.heap.size ∧ w.heap.size < wA.heap.size) := Lib.hid (by have h1 := (Array.getElem?_eq_some_iff.1 HGA.out).1; have := HRL.out; omega)
  have HW3 := Lib.hid hW3
  clear hq hx3 hg7 hW3
  have HSZ : Hid (wA.heap.size = wA.heap.size) := Lib.hid rfl
  go_wp2_with (first
    | (go_at_call 104; refine (HIV.out _).mono ?_; rintro e w' ⟨rfl, rfl⟩)
    | (go_at_call 96; refine (HIT.out _).mono ?_; rintro e w' ⟨rfl, rfl⟩)
    | (refine wpList_store_rowTo rfl _ _ _ rfl rfl wA.heap.size #[.int .u8 (k : Nat), .int .i64 0, .complex .f64 0 0, .string ⟨#[]⟩] rfl rfl _ _ HQ.out info61 rfl (prow_one _ _ _ _ _) ?_; rw [← HW3.out])
    | (go_at_call 106; refine (HRD.out _ H3.out).mono ?_))
  rintro e w4 ⟨rfl, k1, k2⟩
  have HX4 := Lib.hid (HX3.out.trans k1); have H4 := Lib.hid k2
  have HG4 : Hid (w4.heap[w.heap.size]? = some (.cells #[.int .u8 0, .int .i64 0, .complex .f64 0 0, .string ⟨#[]⟩] 88 (0, 0))) := Lib.hid (heap_of_only k1 (by have := HRL.out; omega) HG3.out)
  have HG5 : Hid (w4.heap[wA.heap.size]? = some (.cells #[.int .u8 (k : Nat), .int .i64 0, .complex .f64 0 0, .string ⟨#[]⟩] 88 (0, 0))) := Lib.hid (heap_of_only k1 (by have := HLT.out; omega) HG7.out)
  clear k1 k2
  have d : w4.cell? ⟨wA.heap.size, 1, none⟩ = some (.int .i64 0) := by rw [cell_of_row _ _ _ _ _ _ HG5.out]; rfl
  have f := frozen_of_row w4 wA.heap.size 1 _ _ HG5.out
  have hst : (store ⟨wA.heap.size, 1, none⟩ (.int .i64 u)).run Tryz.prog w4 = .ok () (w4.setCell ⟨wA.heap.size, 1, none⟩ (.int .i64 u)) := by
    rw [run_store Tryz.prog w4 _ _ _ rfl, d]; simp [f]
  obtain ⟨W5, hW5⟩ : ∃ W5, W5 = w4.setCell ⟨wA.heap.size, 1, none⟩ (.int .i64 u) := ⟨_, rfl⟩
  have HG6 : Hid (W5.heap[wA.heap.size]? = some (.cells #[.int .u8 (k : Nat), .int .i64 u, .complex .f64 0 0, .string ⟨#[]⟩] 88 (0, 0))) := Lib.hid (by rw [hW5]; exact heap_setCell_same w4 wA.heap.size 1 _ _ _ HG5.out)
  have HG8 : Hid (W5.heap[w.heap.size]? = some (.cells #[.int .u8 0, .int .i64 0, .complex .f64 0 0, .string ⟨#[]⟩] 88 (0, 0))) := Lib.hid (by rw [hW5, heap_setCell_other w4 ⟨wA.heap.size, 1, none⟩ w.heap.size (.int .i64 u) (by have := HLT.out; simp <;> omega)]; exact HG4.out)
  have H5 : Hid (IsR W5 r s3) := Lib.hid (by rw [hW5]; exact H4.out.above (Ch.setCell (p := ⟨wA.heap.size, 1, none⟩) (Ch.refl _ _) (.inl (by have := HLT.out; simp <;> omega)) (.int .i64 u)))
  have HX5 : Hid (Only r w W5) := Lib.hid (by rw [hW5]; exact HX4.out.setCell (.inr (by have := HLT.out; simp <;> omega)) _)
  have HER := Lib.hid (err_w r s3 W5 H5.out.weak)
  have HW5 := Lib.hid hW5
  clear hW5
  unfold RPtr at HER
  by_cases he : s3.2 ≠ 0
  · have HE := Lib.hid he
    have eb : (s3.2 != 0) = true := by simpa using he
    clear he
    go_wp2_with (first
      | (go_at_call 14; rw [← HW5.out]; refine (HER.out).mono ?_; rintro e w' ⟨rfl, rfl⟩)
      | (refine wpList_store_rowTo rfl _ _ _ rfl rfl w.heap.size #[.int .u8 0, .int .i64 0, .complex .f64 0 0, .string ⟨#[]⟩] rfl rfl _ _ HG8.out info61 rfl (prow_one _ _ _ _ _) ?_))
    refine bodyPost_ret (results_cell_row rfl _ _ w.heap.size _ #[.int .u8 0, .int .i64 0, .complex .f64 0 0, .string ⟨#[]⟩] _ _ rfl (setRow_heap _ _ _ _ _ _ HG8.out) Tryz.underlying88 rfl info61) rfl ?_
    exact HPO.out Val.zero _ (by rw [if_pos HE.out]) (HX5.out.setRow (.inr (Nat.le_refl _)) _) (H5.out.above ((Ch.refl _ _).setRow (.inl (by have := HRL.out; omega)) _))
  · have HE := Lib.hid he
    have eb : (s3.2 != 0) = false := by simpa using he
    clear he
    go_wp2_with (first
      | (go_at_call 14; rw [← HW5.out]; refine (HER.out).mono ?_; rintro e w' ⟨rfl, rfl⟩)
      | (refine wpList_load_row rfl _ _ rfl wA.heap.size rfl _ _ _ _ HG6.out Tryz.underlying88 rfl info61 ?_)
      | (refine wpList_store_rowTo rfl _ _ _ rfl rfl w.heap.size #[.int .u8 (k : Nat), .int .i64 u, .complex .f64 0 0, .string ⟨#[]⟩] rfl rfl _ _ HG8.out info61 rfl (prow_one _ _ _ _ _) ?_))
    refine bodyPost_ret (results_cell_row rfl _ _ w.heap.size _ #[.int .u8 (k : Nat), .int .i64 u, .complex .f64 0 0, .string ⟨#[]⟩] _ _ rfl (setRow_heap _ _ _ _ _ _ HG8.out) Tryz.underlying88 rfl info61) rfl ?_
    exact HPO.out ⟨k, u, 0, 0, []⟩ _ (by rw [if_neg HE.out]) (HX5.out.setRow (.inr (Nat.le_refl _)) _) (H5.out.above ((Ch.refl _ _).setRow (.inl (by have := HRL.out; omega)) _))
set_option maxRecDepth 20000 in
set_option maxHeartbeats 2000000 in
theorem take_bv_3 (r : Nat) (s : RS) (ver k : Nat) (w : World) (h : IsR w r s) (hv : ver ≠ 1 ∧ ver ≠ 2) (hk : k = 3) :
    Calls Tryz.prog 82 #[RPtr r, .int .u8 (k : Nat), .int .u8 (ver : Nat)] w (TkPost r (tTake ver k s).1 (tTake ver k s).2 w) := by
  have hiv := isVersion_any ver
  have hit := isType_any k
  rw [decide_eq_false (show ¬ (ver = 1 ∨ ver = 2) by omega)] at hiv
  rw [decide_eq_true (show 1 ≤ k ∧ k ≤ 6 by omega)] at hit
  have hpre : tPre ver k s = (failR s 18) := by unfold tPre; simp only; rw [if_pos (show 1 ≤ k ∧ k ≤ 6 by omega), if_neg (show ¬ (ver = 1 ∨ ver = 2) by omega)]
  have htt : tTake ver k s = (if (tRaw ver k (failR s 18)).2.2 ≠ 0 then .zero else (tRaw ver k (failR s 18)).1, (tRaw ver k (failR s 18)).2) := by unfold tTake; rw [hpre]
  rw [htt]
  have HIV := Lib.hid hiv; have HIT := Lib.hid hit
  clear hiv hit hpre htt
  have HF1 := Lib.hid (fun w h => fail_any r s 18 w h)
  have HRL := Lib.hid h.lt
  obtain ⟨S0, hS0⟩ : ∃ S0, S0 = (failR s 18) := ⟨_, rfl⟩
  rw [← hS0]
  have HS0 := Lib.hid hS0
  have hraw : tRaw ver k S0 = (⟨k, 0, (fltR ver S0).1, 0, []⟩, (fltR ver S0).2) := by unfold tRaw; rw [if_neg (by omega)]; rw [if_neg (by omega)]; rw [if_pos hk]
  rw [hraw]
  simp only
  clear hraw hS0
  have hrd := fun w h => takeFloat_any r S0 ver w h
  have HRD := Lib.hid hrd
  clear hrd
  have hbl : (fltR ver S0).1 < 18446744073709551616 := fltR_lt ver S0
  generalize (fltR ver S0).1 = u at *
  generalize (fltR ver S0).2 = s3 at *
  obtain ⟨PO, hPO⟩ : ∃ PO, PO = TkPost r (if s3.2 ≠ 0 then Val.zero else ⟨k, 0, u, 0, []⟩) s3 w := ⟨_, rfl⟩
  have HPO : Hid (∀ v w', (if s3.2 ≠ 0 then Val.zero else ⟨k, 0, u, 0, []⟩) = v → Only r w w' → IsR w' r s3 → PO (.returned (pv v)) w') := Lib.hid fun v w' h1 h2 h3 => by
    rw [hPO, h1]
    exact ⟨rfl, h2, h3⟩
  rw [← hPO]
  clear hPO
  have H := Lib.hid h
  clear h
  have e1 : (((k : Nat) : Int) == 1) = false := by rw [hk]; rfl
  have e2 : (((k : Nat) : Int) == 2) = false := by rw [hk]; rfl
  have e3 : (((k : Nat) : Int) == 3) = true := by rw [hk]; rfl
  clear hk hv
  unfold RPtr at *
  have hg6 := heap_alloc_new w (.cells #[.int .u8 0, .int .i64 0, .complex .f64 0 0, .string ⟨#[]⟩] 88)
  have hx0 : Ext w (w.alloc (.cells #[.int .u8 0, .int .i64 0, .complex .f64 0 0, .string ⟨#[]⟩] 88)) := (Ch.refl _ _).alloc _
  have HX0 : Hid (Only r w (w.alloc (.cells #[.int .u8 0, .int .i64 0, .complex .f64 0 0, .string ⟨#[]⟩] 88))) := Lib.hid hx0.ch
  have HG0 := Lib.hid hg6
  have H0 := Lib.hid (H.out.ext hx0)
  clear hg6 hx0
  go_enter Tryz.func82, Tryz.ntmps82
  go_wp2_with (first
    | (go_at_call 104; refine (HIV.out _).mono ?_; rintro e w' ⟨rfl, rfl⟩)
    | (go_at_call 26; refine (HF1.out _ H0.out).mono ?_))
  rintro e wA ⟨rfl, k1, k2⟩
  have HXA := Lib.hid (HX0.out.trans k1); have HA := Lib.hid k2
  have HGA : Hid (wA.heap[w.heap.size]? = some (.cells #[.int .u8 0, .int .i64 0, .complex .f64 0 0, .string ⟨#[]⟩] 88 (0, 0))) := Lib.hid (heap_of_only k1 (by have := HRL.out; omega) HG0.out)
  clear k1 k2
  rw [← HS0.out] at HA
  have hq : (wA.alloc (.cells #[.int .u8 0, .int .i64 0, .complex .f64 0 0, .string ⟨#[]⟩] 88)).heap[wA.heap.size]? = some (.cells #[.int .u8 0, .int .i64 0, .complex .f64 0 0, .string ⟨#[]⟩] 88 (0, 0)) := heap_alloc_new _ _
  have HQ := Lib.hid hq
  obtain ⟨W3, hW3⟩ : ∃ W3, W3 = (wA.alloc (.cells #[.int .u8 0, .int .i64 0, .complex .f64 0 0, .string ⟨#[]⟩] 88)).setRow wA.heap.size #[.int .u8 (k : Nat), .int .i64 0, .complex .f64 0 0, .string ⟨#[]⟩] := ⟨_, rfl⟩
  have hx3 : Ext wA W3 := by rw [hW3]; exact ((Ch.refl _ _).alloc _).setRow (.inr (Nat.le_refl _)) _
  have HG3 : Hid (W3.heap[w.heap.size]? = some (.cells #[.int .u8 0, .int .i64 0, .complex .f64 0 0, .string ⟨#[]⟩] 88 (0, 0))) := Lib.hid (heap_of_ext hx3 HGA.out)
  have hg7 : W3.heap[wA.heap.size]? = some (.cells #[.int .u8 (k : Nat), .int .i64 0, .complex .f64 0 0, .string ⟨#[]⟩] 88 (0, 0)) := by rw [hW3]; exact setRow_heap _ _ _ _ _ _ hq
  have HG7 := Lib.hid hg7
  have HX3 : Hid (Only r w W3) := Lib.hid (HXA.out.trans hx3.ch)
  have H3 := Lib.hid (HA.out.ext hx3)
  have HLT : Hid (r < wA.heap.size ∧ w.heap.size < wA.heap.size) := Lib.hid (by have h1 := (Array.getElem?_eq_some_iff.1 HGA.out).1; have := HRL.out; omega)
  have HW3 := Lib.hid hW3
  clear hq hx3 hg7 hW3
  have HSZ : Hid (wA.heap.size = wA.heap.size) := Lib.hid rfl
  go_wp2_with (first
    | (go_at_call 104; refine (HIV.out _).mono ?_; rintro e w' ⟨rfl, rfl⟩)
    | (go_at_call 96; refine (HIT.out _).mono ?_; rintro e w' ⟨rfl, rfl⟩)
    | (refine wpList_store_rowTo rfl _ _ _ rfl rfl wA.heap.size #[.int .u8 (k : Nat), .int .i64 0, .complex .f64 0 0, .string ⟨#[]⟩] rfl rfl _ _ HQ.out info61 rfl (prow_one _ _ _ _ _) ?_; rw [← HW3.out])
    | (go_at_call 107; refine (HRD.out _ H3.out).mono ?_))
  rintro e w4 ⟨rfl, k1, k2⟩
  have HX4 := Lib.hid (HX3.out.trans k1); have H4 := Lib.hid k2
  have HG4 : Hid (w4.heap[w.heap.size]? = some (.cells #[.int .u8 0, .int .i64 0, .complex .f64 0 0, .string ⟨#[]⟩] 88 (0, 0))) := Lib.hid (heap_of_only k1 (by have := HRL.out; omega) HG3.out)
  have HG5 : Hid (w4.heap[wA.heap.size]? = some (.cells #[.int .u8 (k : Nat), .int .i64 0, .complex .f64 0 0, .string ⟨#[]⟩] 88 (0, 0))) := Lib.hid (heap_of_only k1 (by have := HLT.out; omega) HG7.out)
  clear k1 k2
  have d : w4.cell? ⟨wA.heap.size, 2, none⟩ = some (.complex .f64 0 0) := by rw [cell_of_row _ _ _ _ _ _ HG5.out]; rfl
  have f := frozen_of_row w4 wA.heap.size 2 _ _ HG5.out
  have hst : (store ⟨wA.heap.size, 2, none⟩ (.complex .f64 u 0)).run Tryz.prog w4 = .ok () (w4.setCell ⟨wA.heap.size, 2, none⟩ (.complex .f64 u 0)) := by
    rw [run_store Tryz.prog w4 _ _ _ rfl, d]; simp [f]
  obtain ⟨W5, hW5⟩ : ∃ W5, W5 = w4.setCell ⟨wA.heap.size, 2, none⟩ (.complex .f64 u 0) := ⟨_, rfl⟩
  have HG6 : Hid (W5.heap[wA.heap.size]? = some (.cells #[.int .u8 (k : Nat), .int .i64 0, .complex .f64 u 0, .string ⟨#[]⟩] 88 (0, 0))) := Lib.hid (by rw [hW5]; exact heap_setCell_same w4 wA.heap.size 2 _ _ _ HG5.out)
  have HG8 : Hid (W5.heap[w.heap.size]? = some (.cells #[.int .u8 0, .int .i64 0, .complex .f64 0 0, .string ⟨#[]⟩] 88 (0, 0))) := Lib.hid (by rw [hW5, heap_setCell_other w4 ⟨wA.heap.size, 2, none⟩ w.heap.size (.complex .f64 u 0) (by have := HLT.out; simp <;> omega)]; exact HG4.out)
  have H5 : Hid (IsR W5 r s3) := Lib.hid (by rw [hW5]; exact H4.out.above (Ch.setCell (p := ⟨wA.heap.size, 2, none⟩) (Ch.refl _ _) (.inl (by have := HLT.out; simp <;> omega)) (.complex .f64 u 0)))
  have HX5 : Hid (Only r w W5) := Lib.hid (by rw [hW5]; exact HX4.out.setCell (.inr (by have := HLT.out; simp <;> omega)) _)
  have HER := Lib.hid (err_w r s3 W5 H5.out.weak)
  have HW5 := Lib.hid hW5
  clear hW5
  unfold RPtr at HER
  by_cases he : s3.2 ≠ 0
  · have HE := Lib.hid he
    have eb : (s3.2 != 0) = true := by simpa using he
    clear he
    go_wp2_with (first
      | (go_at_call 90; refine (of_any _ 0 _).mono ?_; rintro e w' ⟨rfl, rfl⟩)
      | (go_at_call 14; rw [← HW5.out]; refine (HER.out).mono ?_; rintro e w' ⟨rfl, rfl⟩)
      | (refine wpList_store_rowTo rfl _ _ _ rfl rfl w.heap.size #[.int .u8 0, .int .i64 0, .complex .f64 0 0, .string ⟨#[]⟩] rfl rfl _ _ HG8.out info61 rfl (prow_one _ _ _ _ _) ?_))
    refine bodyPost_ret (results_cell_row rfl _ _ w.heap.size _ #[.int .u8 0, .int .i64 0, .complex .f64 0 0, .string ⟨#[]⟩] _ _ rfl (setRow_heap _ _ _ _ _ _ HG8.out) Tryz.underlying88 rfl info61) rfl ?_
    exact HPO.out Val.zero _ (by rw [if_pos HE.out]) (HX5.out.setRow (.inr (Nat.le_refl _)) _) (H5.out.above ((Ch.refl _ _).setRow (.inl (by have := HRL.out; omega)) _))
  · have HE := Lib.hid he
    have eb : (s3.2 != 0) = false := by simpa using he
    clear he
    go_wp2_with (first
      | (go_at_call 90; refine (of_any _ 0 _).mono ?_; rintro e w' ⟨rfl, rfl⟩)
      | (go_at_call 14; rw [← HW5.out]; refine (HER.out).mono ?_; rintro e w' ⟨rfl, rfl⟩)
      | (refine wpList_load_row rfl _ _ rfl wA.heap.size rfl _ _ _ _ HG6.out Tryz.underlying88 rfl info61 ?_)
      | (refine wpList_store_rowTo rfl _ _ _ rfl rfl w.heap.size #[.int .u8 (k : Nat), .int .i64 0, .complex .f64 u 0, .string ⟨#[]⟩] rfl rfl _ _ HG8.out info61 rfl (prow_one _ _ _ _ _) ?_))
    refine bodyPost_ret (results_cell_row rfl _ _ w.heap.size _ #[.int .u8 (k : Nat), .int .i64 0, .complex .f64 u 0, .string ⟨#[]⟩] _ _ rfl (setRow_heap _ _ _ _ _ _ HG8.out) Tryz.underlying88 rfl info61) rfl ?_
    exact HPO.out ⟨k, 0, u, 0, []⟩ _ (by rw [if_neg HE.out]) (HX5.out.setRow (.inr (Nat.le_refl _)) _) (H5.out.above ((Ch.refl _ _).setRow (.inl (by have := HRL.out; omega)) _))
set_option maxRecDepth 20000 in
set_option maxHeartbeats 2000000 in
theorem take_bv_4 (r : Nat) (s : RS) (ver k : Nat) (w : World) (h : IsR w r s) (hv : ver ≠ 1 ∧ ver ≠ 2) (hk : k = 4) :
    Calls Tryz.prog 82 #[RPtr r, .int .u8 (k : Nat), .int .u8 (ver : Nat)] w (TkPost r (tTake ver k s).1 (tTake ver k s).2 w) := by
  have hiv := isVersion_any ver
  have hit := isType_any k
  rw [decide_eq_false (show ¬ (ver = 1 ∨ ver = 2) by omega)] at hiv
  rw [decide_eq_true (show 1 ≤ k ∧ k ≤ 6 by omega)] at hit
  have hpre : tPre ver k s = (failR s 18) := by unfold tPre; simp only; rw [if_pos (show 1 ≤ k ∧ k ≤ 6 by omega), if_neg (show ¬ (ver = 1 ∨ ver = 2) by omega)]
  have htt : tTake ver k s = (if (tRaw ver k (failR s 18)).2.2 ≠ 0 then .zero else (tRaw ver k (failR s 18)).1, (tRaw ver k (failR s 18)).2) := by unfold tTake; rw [hpre]
  rw [htt]
  have HIV := Lib.hid hiv; have HIT := Lib.hid hit
  clear hiv hit hpre htt
  have HF1 := Lib.hid (fun w h => fail_any r s 18 w h)
  have HRL := Lib.hid h.lt
  obtain ⟨S0, hS0⟩ : ∃ S0, S0 = (failR s 18) := ⟨_, rfl⟩
  rw [← hS0]
  have HS0 := Lib.hid hS0
  have hraw : tRaw ver k S0 = (⟨k, 0, (tCplx ver S0).1.1, (tCplx ver S0).1.2, []⟩, (tCplx ver S0).2) := by unfold tRaw; rw [if_neg (by omega)]; rw [if_neg (by omega)]; rw [if_neg (by omega)]; rw [if_pos hk]
  rw [hraw]
  simp only
  clear hraw hS0
  have hrd := fun w h => takeComplex_any r S0 ver w h
  have HRD := Lib.hid hrd
  clear hrd
  generalize (tCplx ver S0).1.1 = u1 at *
  generalize (tCplx ver S0).1.2 = u2 at *
  generalize (tCplx ver S0).2 = s3 at *
  obtain ⟨PO, hPO⟩ : ∃ PO, PO = TkPost r (if s3.2 ≠ 0 then Val.zero else ⟨k, 0, u1, u2, []⟩) s3 w := ⟨_, rfl⟩
  have HPO : Hid (∀ v w', (if s3.2 ≠ 0 then Val.zero else ⟨k, 0, u1, u2, []⟩) = v → Only r w w' → IsR w' r s3 → PO (.returned (pv v)) w') := Lib.hid fun v w' h1 h2 h3 => by
    rw [hPO, h1]
    exact ⟨rfl, h2, h3⟩
  rw [← hPO]
  clear hPO
  have H := Lib.hid h
  clear h
  have e1 : (((k : Nat) : Int) == 1) = false := by rw [hk]; rfl
  have e2 : (((k : Nat) : Int) == 2) = false := by rw [hk]; rfl
  have e3 : (((k : Nat) : Int) == 3) = false := by rw [hk]; rfl
  have e4 : (((k : Nat) : Int) == 4) = true := by rw [hk]; rfl
  clear hk hv
  unfold RPtr at *
  have hg6 := heap_alloc_new w (.cells #[.int .u8 0, .int .i64 0, .complex .f64 0 0, .string ⟨#[]⟩] 88)
  have hx0 : Ext w (w.alloc (.cells #[.int .u8 0, .int .i64 0, .complex .f64 0 0, .string ⟨#[]⟩] 88)) := (Ch.refl _ _).alloc _
  have HX0 : Hid (Only r w (w.alloc (.cells #[.int .u8 0, .int .i64 0, .complex .f64 0 0, .string ⟨#[]⟩] 88))) := Lib.hid hx0.ch
  have HG0 := Lib.hid hg6
  have H0 := Lib.hid (H.out.ext hx0)
  clear hg6 hx0
  go_enter Tryz.func82, Tryz.ntmps82
  go_wp2_with (first
    | (go_at_call 104; refine (HIV.out _).mono ?_; rintro e w' ⟨rfl, rfl⟩)
    | (go_at_call 26; refine (HF1.out _ H0.out).mono ?_))
  rintro e wA ⟨rfl, k1, k2⟩
  have HXA := Lib.hid (HX0.out.trans k1); have HA := Lib.hid k2
  have HGA : Hid (wA.heap[w.heap.size]? = some (.cells #[.int .u8 0, .int .i64 0, .complex .f64 0 0, .string ⟨#[]⟩] 88 (0, 0))) := Lib.hid (heap_of_only k1 (by have := HRL.out; omega) HG0.out)
  clear k1 k2
  rw [← HS0.out] at HA
  have hq : (wA.alloc (.cells #[.int .u8 0, .int .i64 0, .complex .f64 0 0, .string ⟨#[]⟩] 88)).heap[wA.heap.size]? = some (.cells #[.int .u8 0, .int .i64 0, .complex .f64 0 0, .string ⟨#[]⟩] 88 (0, 0)) := heap_alloc_new _ _
  have HQ := Lib.hid hq
  obtain ⟨W3, hW3⟩ : ∃ W3, W3 = (wA.alloc (.cells #[.int .u8 0, .int .i64 0, .complex .f64 0 0, .string ⟨#[]⟩] 88)).setRow wA.heap.size #[.int .u8 (k : Nat), .int .i64 0, .complex .f64 0 0, .string ⟨#[]⟩] := ⟨_, rfl⟩
  have hx3 : Ext wA W3 := by rw [hW3]; exact ((Ch.refl _ _).alloc _).setRow (.inr (Nat.le_refl _)) _
  have HG3 : Hid (W3.heap[w.heap.size]? = some (.cells #[.int .u8 0, .int .i64 0, .complex .f64 0 0, .string ⟨#[]⟩] 88 (0, 0))) := Lib.hid (heap_of_ext hx3 HGA.out)
  have hg7 : W3.heap[wA.heap.size]? = some (.cells #[.int .u8 (k : Nat), .int .i64 0, .complex .f64 0 0, .string ⟨#[]⟩] 88 (0, 0)) := by rw [hW3]; exact setRow_heap _ _ _ _ _ _ hq
  have HG7 := Lib.hid hg7
  have HX3 : Hid (Only r w W3) := Lib.hid (HXA.out.trans hx3.ch)
  have H3 := Lib.hid (HA.out.ext hx3)
  have HLT : Hid (r < wA.heap.size ∧ w.heap.size < wA.heap.size) := Lib.hid (by have h1 := (Array.getElem?_eq_some_iff.1 HGA.out).1; have := HRL.out; omega)
  have HW3 := Lib.hid hW3
  clear hq hx3 hg7 hW3
  have HSZ : Hid (wA.heap.size = wA.heap.size) := Lib.hid rfl
  go_wp2_with (first
    | (go_at_call 104; refine (HIV.out _).mono ?_; rintro e w' ⟨rfl, rfl⟩)
    | (go_at_call 96; refine (HIT.out _).mono ?_; rintro e w' ⟨rfl, rfl⟩)
    | (refine wpList_store_rowTo rfl _ _ _ rfl rfl wA.heap.size #[.int .u8 (k : Nat), .int .i64 0, .complex .f64 0 0, .string ⟨#[]⟩] rfl rfl _ _ HQ.out info61 rfl (prow_one _ _ _ _ _) ?_; rw [← HW3.out])
    | (go_at_call 108; refine (HRD.out _ H3.out).mono ?_))
  rintro e w4 ⟨rfl, k1, k2⟩
  have HX4 := Lib.hid (HX3.out.trans k1); have H4 := Lib.hid k2
  have HG4 : Hid (w4.heap[w.heap.size]? = some (.cells #[.int .u8 0, .int .i64 0, .complex .f64 0 0, .string ⟨#[]⟩] 88 (0, 0))) := Lib.hid (heap_of_only k1 (by have := HRL.out; omega) HG3.out)
  have HG5 : Hid (w4.heap[wA.heap.size]? = some (.cells #[.int .u8 (k : Nat), .int .i64 0, .complex .f64 0 0, .string ⟨#[]⟩] 88 (0, 0))) := Lib.hid (heap_of_only k1 (by have := HLT.out; omega) HG7.out)
  clear k1 k2
  have d : w4.cell? ⟨wA.heap.size, 2, none⟩ = some (.complex .f64 0 0) := by rw [cell_of_row _ _ _ _ _ _ HG5.out]; rfl
  have f := frozen_of_row w4 wA.heap.size 2 _ _ HG5.out
  have hst : (store ⟨wA.heap.size, 2, none⟩ (.complex .f64 u1 u2)).run Tryz.prog w4 = .ok () (w4.setCell ⟨wA.heap.size, 2, none⟩ (.complex .f64 u1 u2)) := by
    rw [run_store Tryz.prog w4 _ _ _ rfl, d]; simp [f]
  obtain ⟨W5, hW5⟩ : ∃ W5, W5 = w4.setCell ⟨wA.heap.size, 2, none⟩ (.complex .f64 u1 u2) := ⟨_, rfl⟩
  have HG6 : Hid (W5.heap[wA.heap.size]? = some (.cells #[.int .u8 (k : Nat), .int .i64 0, .complex .f64 u1 u2, .string ⟨#[]⟩] 88 (0, 0))) := Lib.hid (by rw [hW5]; exact heap_setCell_same w4 wA.heap.size 2 _ _ _ HG5.out)
  have HG8 : Hid (W5.heap[w.heap.size]? = some (.cells #[.int .u8 0, .int .i64 0, .complex .f64 0 0, .string ⟨#[]⟩] 88 (0, 0))) := Lib.hid (by rw [hW5, heap_setCell_other w4 ⟨wA.heap.size, 2, none⟩ w.heap.size (.complex .f64 u1 u2) (by have := HLT.out; simp <;> omega)]; exact HG4.out)
  have H5 : Hid (IsR W5 r s3) := Lib.hid (by rw [hW5]; exact H4.out.above (Ch.setCell (p := ⟨wA.heap.size, 2, none⟩) (Ch.refl _ _) (.inl (by have := HLT.out; simp <;> omega)) (.complex .f64 u1 u2)))
  have HX5 : Hid (Only r w W5) := Lib.hid (by rw [hW5]; exact HX4.out.setCell (.inr (by have := HLT.out; simp <;> omega)) _)
  have HER := Lib.hid (err_w r s3 W5 H5.out.weak)
  have HW5 := Lib.hid hW5
  clear hW5
  unfold RPtr at HER
  by_cases he : s3.2 ≠ 0
  · have HE := Lib.hid he
    have eb : (s3.2 != 0) = true := by simpa using he
    clear he
    go_wp2_with (first
      | (go_at_call 14; rw [← HW5.out]; refine (HER.out).mono ?_; rintro e w' ⟨rfl, rfl⟩)
      | (refine wpList_store_rowTo rfl _ _ _ rfl rfl w.heap.size #[.int .u8 0, .int .i64 0, .complex .f64 0 0, .string ⟨#[]⟩] rfl rfl _ _ HG8.out info61 rfl (prow_one _ _ _ _ _) ?_))
    refine bodyPost_ret (results_cell_row rfl _ _ w.heap.size _ #[.int .u8 0, .int .i64 0, .complex .f64 0 0, .string ⟨#[]⟩] _ _ rfl (setRow_heap _ _ _ _ _ _ HG8.out) Tryz.underlying88 rfl info61) rfl ?_
    exact HPO.out Val.zero _ (by rw [if_pos HE.out]) (HX5.out.setRow (.inr (Nat.le_refl _)) _) (H5.out.above ((Ch.refl _ _).setRow (.inl (by have := HRL.out; omega)) _))
  · have HE := Lib.hid he
    have eb : (s3.2 != 0) = false := by simpa using he
    clear he
    go_wp2_with (first
      | (go_at_call 14; rw [← HW5.out]; refine (HER.out).mono ?_; rintro e w' ⟨rfl, rfl⟩)
      | (refine wpList_load_row rfl _ _ rfl wA.heap.size rfl _ _ _ _ HG6.out Tryz.underlying88 rfl info61 ?_)
      | (refine wpList_store_rowTo rfl _ _ _ rfl rfl w.heap.size #[.int .u8 (k : Nat), .int .i64 0, .complex .f64 u1 u2, .string ⟨#[]⟩] rfl rfl _ _ HG8.out info61 rfl (prow_one _ _ _ _ _) ?_))
    refine bodyPost_ret (results_cell_row rfl _ _ w.heap.size _ #[.int .u8 (k : Nat), .int .i64 0, .complex .f64 u1 u2, .string ⟨#[]⟩] _ _ rfl (setRow_heap _ _ _ _ _ _ HG8.out) Tryz.underlying88 rfl info61) rfl ?_
    exact HPO.out ⟨k, 0, u1, u2, []⟩ _ (by rw [if_neg HE.out]) (HX5.out.setRow (.inr (Nat.le_refl _)) _) (H5.out.above ((Ch.refl _ _).setRow (.inl (by have := HRL.out; omega)) _))
set_option maxRecDepth 20000 in
set_option maxHeartbeats 2000000 in
theorem take_bv_5 (r : Nat) (s : RS) (ver k : Nat) (w : World) (h : IsR w r s) (hv : ver ≠ 1 ∧ ver ≠ 2) (hk : k = 5) :
    Calls Tryz.prog 82 #[RPtr r, .int .u8 (k : Nat), .int .u8 (ver : Nat)] w (TkPost r (tTake ver k s).1 (tTake ver k s).2 w) := by
  have hiv := isVersion_any ver
  have hit := isType_any k
  rw [decide_eq_false (show ¬ (ver = 1 ∨ ver = 2) by omega)] at hiv
  rw [decide_eq_true (show 1 ≤ k ∧ k ≤ 6 by omega)] at hit
  have hpre : tPre ver k s = (failR s 18) := by unfold tPre; simp only; rw [if_pos (show 1 ≤ k ∧ k ≤ 6 by omega), if_neg (show ¬ (ver = 1 ∨ ver = 2) by omega)]
  have htt : tTake ver k s = (if (tRaw ver k (failR s 18)).2.2 ≠ 0 then .zero else (tRaw ver k (failR s 18)).1, (tRaw ver k (failR s 18)).2) := by unfold tTake; rw [hpre]
  rw [htt]
  have HIV := Lib.hid hiv; have HIT := Lib.hid hit
  clear hiv hit hpre htt
  have HF1 := Lib.hid (fun w h => fail_any r s 18 w h)
  have HRL := Lib.hid h.lt
  obtain ⟨S0, hS0⟩ : ∃ S0, S0 = (failR s 18) := ⟨_, rfl⟩
  rw [← hS0]
  have HS0 := Lib.hid hS0
  have hraw : tRaw ver k S0 = (⟨k, 0, 0, 0, (tText S0).1⟩, (tText S0).2) := by unfold tRaw; rw [if_neg (by omega)]; rw [if_neg (by omega)]; rw [if_neg (by omega)]; rw [if_neg (by omega)]; rw [if_pos hk]
  rw [hraw]
  simp only
  clear hraw hS0
  have hrd := fun w h => takeText_any r S0 w h
  unfold strV at hrd
  have HRD := Lib.hid hrd
  clear hrd
  generalize (tText S0).1 = u at *
  generalize (tText S0).2 = s3 at *
  obtain ⟨PO, hPO⟩ : ∃ PO, PO = TkPost r (if s3.2 ≠ 0 then Val.zero else ⟨k, 0, 0, 0, u⟩) s3 w := ⟨_, rfl⟩
  have HPO : Hid (∀ v w', (if s3.2 ≠ 0 then Val.zero else ⟨k, 0, 0, 0, u⟩) = v → Only r w w' → IsR w' r s3 → PO (.returned (pv v)) w') := Lib.hid fun v w' h1 h2 h3 => by
    rw [hPO, h1]
    exact ⟨rfl, h2, h3⟩
  rw [← hPO]
  clear hPO
  have H := Lib.hid h
  clear h
  have e1 : (((k : Nat) : Int) == 1) = false := by rw [hk]; rfl
  have e2 : (((k : Nat) : Int) == 2) = false := by rw [hk]; rfl
  have e3 : (((k : Nat) : Int) == 3) = false := by rw [hk]; rfl
  have e4 : (((k : Nat) : Int) == 4) = false := by rw [hk]; rfl
  have e5 : (((k : Nat) : Int) == 5) = true := by rw [hk]; rfl
  clear hk hv
  unfold RPtr at *
  have hg6 := heap_alloc_new w (.cells #[.int .u8 0, .int .i64 0, .complex .f64 0 0, .string ⟨#[]⟩] 88)
  have hx0 : Ext w (w.alloc (.cells #[.int .u8 0, .int .i64 0, .complex .f64 0 0, .string ⟨#[]⟩] 88)) := (Ch.refl _ _).alloc _
  have HX0 : Hid (Only r w (w.alloc (.cells #[.int .u8 0, .int .i64 0, .complex .f64 0 0, .string ⟨#[]⟩] 88))) := Lib.hid hx0.ch
  have HG0 := Lib.hid hg6
  have H0 := Lib.hid (H.out.ext hx0)
  clear hg6 hx0
  go_enter Tryz.func82, Tryz.ntmps82
  go_wp2_with (first
    | (go_at_call 104; refine (HIV.out _).mono ?_; rintro e w' ⟨rfl, rfl⟩)
    | (go_at_call 26; refine (HF1.out _ H0.out).mono ?_))
  rintro e wA ⟨rfl, k1, k2⟩
  have HXA := Lib.hid (HX0.out.trans k1); have HA := Lib.hid k2
  have HGA : Hid (wA.heap[w.heap.size]? = some (.cells #[.int .u8 0, .int .i64 0, .complex .f64 0 0, .string ⟨#[]⟩] 88 (0, 0))) := Lib.hid (heap_of_only k1 (by have := HRL.out; omega) HG0.out)
  clear k1 k2
  rw [← HS0.out] at HA
  have hq : (wA.alloc (.cells #[.int .u8 0, .int .i64 0, .complex .f64 0 0, .string ⟨#[]⟩] 88)).heap[wA.heap.size]? = some (.cells #[.int .u8 0, .int .i64 0, .complex .f64 0 0, .string ⟨#[]⟩] 88 (0, 0)) := heap_alloc_new _ _
  have HQ := Lib.hid hq
  obtain ⟨W3, hW3⟩ : ∃ W3, W3 = (wA.alloc (.cells #[.int .u8 0, .int .i64 0, .complex .f64 0 0, .string ⟨#[]⟩] 88)).setRow wA.heap.size #[.int .u8 (k : Nat), .int .i64 0, .complex .f64 0 0, .string ⟨#[]⟩] := ⟨_, rfl⟩
  have hx3 : Ext wA W3 := by rw [hW3]; exact ((Ch.refl _ _).alloc _).setRow (.inr (Nat.le_refl _)) _
  have HG3 : Hid (W3.heap[w.heap.size]? = some (.cells #[.int .u8 0, .int .i64 0, .complex .f64 0 0, .string ⟨#[]⟩] 88 (0, 0))) := Lib.hid (heap_of_ext hx3 HGA.out)
  have hg7 : W3.heap[wA.heap.size]? = some (.cells #[.int .u8 (k : Nat), .int .i64 0, .complex .f64 0 0, .string ⟨#[]⟩] 88 (0, 0)) := by rw [hW3]; exact setRow_heap _ _ _ _ _ _ hq
  have HG7 := Lib.hid hg7
  have HX3 : Hid (Only r w W3) := Lib.hid (HXA.out.trans hx3.ch)
  have H3 := Lib.hid (HA.out.ext hx3)
  have HLT : Hid (r < wA.heap.size ∧ w.heap.size < wA.heap.size) := Lib.hid (by have h1 := (Array.getElem?_eq_some_iff.1 HGA.out).1; have := HRL.out; omega)
  have HW3 := Lib.hid hW3
  clear hq hx3 hg7 hW3
  have HSZ : Hid (wA.heap.size = wA.heap.size) := Lib.hid rfl
  go_wp2_with (first
    | (go_at_call 104; refine (HIV.out _).mono ?_; rintro e w' ⟨rfl, rfl⟩)
    | (go_at_call 96; refine (HIT.out _).mono ?_; rintro e w' ⟨rfl, rfl⟩)
    | (refine wpList_store_rowTo rfl _ _ _ rfl rfl wA.heap.size #[.int .u8 (k : Nat), .int .i64 0, .complex .f64 0 0, .string ⟨#[]⟩] rfl rfl _ _ HQ.out info61 rfl (prow_one _ _ _ _ _) ?_; rw [← HW3.out])
    | (go_at_call 109; refine (HRD.out _ H3.out).mono ?_))
  rintro e w4 ⟨rfl, k1, k2⟩
  have HX4 := Lib.hid (HX3.out.trans k1); have H4 := Lib.hid k2
  have HG4 : Hid (w4.heap[w.heap.size]? = some (.cells #[.int .u8 0, .int .i64 0, .complex .f64 0 0, .string ⟨#[]⟩] 88 (0, 0))) := Lib.hid (heap_of_only k1 (by have := HRL.out; omega) HG3.out)
  have HG5 : Hid (w4.heap[wA.heap.size]? = some (.cells #[.int .u8 (k : Nat), .int .i64 0, .complex .f64 0 0, .string ⟨#[]⟩] 88 (0, 0))) := Lib.hid (heap_of_only k1 (by have := HLT.out; omega) HG7.out)
  clear k1 k2
  have d : w4.cell? ⟨wA.heap.size, 3, none⟩ = some (.string ⟨#[]⟩) := by rw [cell_of_row _ _ _ _ _ _ HG5.out]; rfl
  have f := frozen_of_row w4 wA.heap.size 3 _ _ HG5.out
  have hst : (store ⟨wA.heap.size, 3, none⟩ (.string ⟨u.toArray⟩)).run Tryz.prog w4 = .ok () (w4.setCell ⟨wA.heap.size, 3, none⟩ (.string ⟨u.toArray⟩)) := by
    rw [run_store Tryz.prog w4 _ _ _ rfl, d]; simp [f]
  obtain ⟨W5, hW5⟩ : ∃ W5, W5 = w4.setCell ⟨wA.heap.size, 3, none⟩ (.string ⟨u.toArray⟩) := ⟨_, rfl⟩
  have HG6 : Hid (W5.heap[wA.heap.size]? = some (.cells #[.int .u8 (k : Nat), .int .i64 0, .complex .f64 0 0, .string ⟨u.toArray⟩] 88 (0, 0))) := Lib.hid (by rw [hW5]; exact heap_setCell_same w4 wA.heap.size 3 _ _ _ HG5.out)
  have HG8 : Hid (W5.heap[w.heap.size]? = some (.cells #[.int .u8 0, .int .i64 0, .complex .f64 0 0, .string ⟨#[]⟩] 88 (0, 0))) := Lib.hid (by rw [hW5, heap_setCell_other w4 ⟨wA.heap.size, 3, none⟩ w.heap.size (.string ⟨u.toArray⟩) (by have := HLT.out; simp <;> omega)]; exact HG4.out)
  have H5 : Hid (IsR W5 r s3) := Lib.hid (by rw [hW5]; exact H4.out.above (Ch.setCell (p := ⟨wA.heap.size, 3, none⟩) (Ch.refl _ _) (.inl (by have := HLT.out; simp <;> omega)) (.string ⟨u.toArray⟩)))
  have HX5 : Hid (Only r w W5) := Lib.hid (by rw [hW5]; exact HX4.out.setCell (.inr (by have := HLT.out; simp <;> omega)) _)
  have HER := Lib.hid (err_w r s3 W5 H5.out.weak)
  have HW5 := Lib.hid hW5
  clear hW5
  unfold RPtr at HER
  by_cases he : s3.2 ≠ 0
  · have HE := Lib.hid he
    have eb : (s3.2 != 0) = true := by simpa using he
    clear he
    go_wp2_with (first
      | (go_at_call 14; rw [← HW5.out]; refine (HER.out).mono ?_; rintro e w' ⟨rfl, rfl⟩)
      | (refine wpList_store_rowTo rfl _ _ _ rfl rfl w.heap.size #[.int .u8 0, .int .i64 0, .complex .f64 0 0, .string ⟨#[]⟩] rfl rfl _ _ HG8.out info61 rfl (prow_one _ _ _ _ _) ?_))
    refine bodyPost_ret (results_cell_row rfl _ _ w.heap.size _ #[.int .u8 0, .int .i64 0, .complex .f64 0 0, .string ⟨#[]⟩] _ _ rfl (setRow_heap _ _ _ _ _ _ HG8.out) Tryz.underlying88 rfl info61) rfl ?_
    exact HPO.out Val.zero _ (by rw [if_pos HE.out]) (HX5.out.setRow (.inr (Nat.le_refl _)) _) (H5.out.above ((Ch.refl _ _).setRow (.inl (by have := HRL.out; omega)) _))
  · have HE := Lib.hid he
    have eb : (s3.2 != 0) = false := by simpa using he
    clear he
    go_wp2_with (first
      | (go_at_call 14; rw [← HW5.out]; refine (HER.out).mono ?_; rintro e w' ⟨rfl, rfl⟩)
      | (refine wpList_load_row rfl _ _ rfl wA.heap.size rfl _ _ _ _ HG6.out Tryz.underlying88 rfl info61 ?_)
      | (refine wpList_store_rowTo rfl _ _ _ rfl rfl w.heap.size #[.int .u8 (k : Nat), .int .i64 0, .complex .f64 0 0, .string ⟨u.toArray⟩] rfl rfl _ _ HG8.out info61 rfl (prow_one _ _ _ _ _) ?_))
    refine bodyPost_ret (results_cell_row rfl _ _ w.heap.size _ #[.int .u8 (k : Nat), .int .i64 0, .complex .f64 0 0, .string ⟨u.toArray⟩] _ _ rfl (setRow_heap _ _ _ _ _ _ HG8.out) Tryz.underlying88 rfl info61) rfl ?_
    exact HPO.out ⟨k, 0, 0, 0, u⟩ _ (by rw [if_neg HE.out]) (HX5.out.setRow (.inr (Nat.le_refl _)) _) (H5.out.above ((Ch.refl _ _).setRow (.inl (by have := HRL.out; omega)) _))
set_option maxRecDepth 20000 in
set_option maxHeartbeats 2000000 in
theorem take_bv_6 (r : Nat) (s : RS) (ver k : Nat) (w : World) (h : IsR w r s) (hv : ver ≠ 1 ∧ ver ≠ 2) (hk : k = 6) :
    Calls Tryz.prog 82 #[RPtr r, .int .u8 (k : Nat), .int .u8 (ver : Nat)] w (TkPost r (tTake ver k s).1 (tTake ver k s).2 w) := by
  have hiv := isVersion_any ver
  have hit := isType_any k
  rw [decide_eq_false (show ¬ (ver = 1 ∨ ver = 2) by omega)] at hiv
  rw [decide_eq_true (show 1 ≤ k ∧ k ≤ 6 by omega)] at hit
  have hpre : tPre ver k s = (failR s 18) := by unfold tPre; simp only; rw [if_pos (show 1 ≤ k ∧ k ≤ 6 by omega), if_neg (show ¬ (ver = 1 ∨ ver = 2) by omega)]
  have htt : tTake ver k s = (if (tRaw ver k (failR s 18)).2.2 ≠ 0 then .zero else (tRaw ver k (failR s 18)).1, (tRaw ver k (failR s 18)).2) := by unfold tTake; rw [hpre]
  rw [htt]
  have HIV := Lib.hid hiv; have HIT := Lib.hid hit
  clear hiv hit hpre htt
  have HF1 := Lib.hid (fun w h => fail_any r s 18 w h)
  have HRL := Lib.hid h.lt
  obtain ⟨S0, hS0⟩ : ∃ S0, S0 = (failR s 18) := ⟨_, rfl⟩
  rw [← hS0]
  have HS0 := Lib.hid hS0
  have hraw : tRaw ver k S0 = (⟨k, 0, 0, 0, (textR 2048 S0).1⟩, (textR 2048 S0).2) := by unfold tRaw; rw [if_neg (by omega)]; rw [if_neg (by omega)]; rw [if_neg (by omega)]; rw [if_neg (by omega)]; rw [if_neg (by omega)]; rw [if_pos hk]
  rw [hraw]
  simp only
  clear hraw hS0
  have hrd := fun w h => text_any r S0 2048 w h (by omega)
  rw [show (2048 : Int).toNat = 2048 by rfl] at hrd
  unfold strV at hrd
  have HRD := Lib.hid hrd
  clear hrd
  generalize (textR 2048 S0).1 = u at *
  generalize (textR 2048 S0).2 = s3 at *
  obtain ⟨PO, hPO⟩ : ∃ PO, PO = TkPost r (if s3.2 ≠ 0 then Val.zero else ⟨k, 0, 0, 0, u⟩) s3 w := ⟨_, rfl⟩
  have HPO : Hid (∀ v w', (if s3.2 ≠ 0 then Val.zero else ⟨k, 0, 0, 0, u⟩) = v → Only r w w' → IsR w' r s3 → PO (.returned (pv v)) w') := Lib.hid fun v w' h1 h2 h3 => by
    rw [hPO, h1]
    exact ⟨rfl, h2, h3⟩
  rw [← hPO]
  clear hPO
  have H := Lib.hid h
  clear h
  have e1 : (((k : Nat) : Int) == 1) = false := by rw [hk]; rfl
  have e2 : (((k : Nat) : Int) == 2) = false := by rw [hk]; rfl
  have e3 : (((k : Nat) : Int) == 3) = false := by rw [hk]; rfl
  have e4 : (((k : Nat) : Int) == 4) = false := by rw [hk]; rfl
  have e5 : (((k : Nat) : Int) == 5) = false := by rw [hk]; rfl
  have e6 : (((k : Nat) : Int) == 6) = true := by rw [hk]; rfl
  clear hk hv
  unfold RPtr at *
  have hg6 := heap_alloc_new w (.cells #[.int .u8 0, .int .i64 0, .complex .f64 0 0, .string ⟨#[]⟩] 88)
  have hx0 : Ext w (w.alloc (.cells #[.int .u8 0, .int .i64 0, .complex .f64 0 0, .string ⟨#[]⟩] 88)) := (Ch.refl _ _).alloc _
  have HX0 : Hid (Only r w (w.alloc (.cells #[.int .u8 0, .int .i64 0, .complex .f64 0 0, .string ⟨#[]⟩] 88))) := Lib.hid hx0.ch
  have HG0 := Lib.hid hg6
  have H0 := Lib.hid (H.out.ext hx0)
  clear hg6 hx0
  go_enter Tryz.func82, Tryz.ntmps82
  go_wp2_with (first
    | (go_at_call 104; refine (HIV.out _).mono ?_; rintro e w' ⟨rfl, rfl⟩)
    | (go_at_call 26; refine (HF1.out _ H0.out).mono ?_))
  rintro e wA ⟨rfl, k1, k2⟩
  have HXA := Lib.hid (HX0.out.trans k1); have HA := Lib.hid k2
  have HGA : Hid (wA.heap[w.heap.size]? = some (.cells #[.int .u8 0, .int .i64 0, .complex .f64 0 0, .string ⟨#[]⟩] 88 (0, 0))) := Lib.hid (heap_of_only k1 (by have := HRL.out; omega) HG0.out)
  clear k1 k2
  rw [← HS0.out] at HA
  have hq : (wA.alloc (.cells #[.int .u8 0, .int .i64 0, .complex .f64 0 0, .string ⟨#[]⟩] 88)).heap[wA.heap.size]? = some (.cells #[.int .u8 0, .int .i64 0, .complex .f64 0 0, .string ⟨#[]⟩] 88 (0, 0)) := heap_alloc_new _ _
  have HQ := Lib.hid hq
  obtain ⟨W3, hW3⟩ : ∃ W3, W3 = (wA.alloc (.cells #[.int .u8 0, .int .i64 0, .complex .f64 0 0, .string ⟨#[]⟩] 88)).setRow wA.heap.size #[.int .u8 (k : Nat), .int .i64 0, .complex .f64 0 0, .string ⟨#[]⟩] := ⟨_, rfl⟩
  have hx3 : Ext wA W3 := by rw [hW3]; exact ((Ch.refl _ _).alloc _).setRow (.inr (Nat.le_refl _)) _
  have HG3 : Hid (W3.heap[w.heap.size]? = some (.cells #[.int .u8 0, .int .i64 0, .complex .f64 0 0, .string ⟨#[]⟩] 88 (0, 0))) := Lib.hid (heap_of_ext hx3 HGA.out)
  have hg7 : W3.heap[wA.heap.size]? = some (.cells #[.int .u8 (k : Nat), .int .i64 0, .complex .f64 0 0, .string ⟨#[]⟩] 88 (0, 0)) := by rw [hW3]; exact setRow_heap _ _ _ _ _ _ hq
  have HG7 := Lib.hid hg7
  have HX3 : Hid (Only r w W3) := Lib.hid (HXA.out.trans hx3.ch)
  have H3 := Lib.hid (HA.out.ext hx3)
  have HLT : Hid (r < wA.heap.size ∧ w.heap.size < wA.heap.size) := Lib.hid (by have h1 := (Array.getElem?_eq_some_iff.1 HGA.out).1; have := HRL.out; omega)
  have HW3 := Lib.hid hW3
  clear hq hx3 hg7 hW3
  have HSZ : Hid (wA.heap.size = wA.heap.size) := Lib.hid rfl
  go_wp2_with (first
    | (go_at_call 104; refine (HIV.out _).mono ?_; rintro e w' ⟨rfl, rfl⟩)
    | (go_at_call 96; refine (HIT.out _).mono ?_; rintro e w' ⟨rfl, rfl⟩)
    | (refine wpList_store_rowTo rfl _ _ _ rfl rfl wA.heap.size #[.int .u8 (k : Nat), .int .i64 0, .complex .f64 0 0, .string ⟨#[]⟩] rfl rfl _ _ HQ.out info61 rfl (prow_one _ _ _ _ _) ?_; rw [← HW3.out])
    | (go_at_call 110; refine (HRD.out _ H3.out).mono ?_))
  rintro e w4 ⟨rfl, k1, k2⟩
  have HX4 := Lib.hid (HX3.out.trans k1); have H4 := Lib.hid k2
  have HG4 : Hid (w4.heap[w.heap.size]? = some (.cells #[.int .u8 0, .int .i64 0, .complex .f64 0 0, .string ⟨#[]⟩] 88 (0, 0))) := Lib.hid (heap_of_only k1 (by have := HRL.out; omega) HG3.out)
  have HG5 : Hid (w4.heap[wA.heap.size]? = some (.cells #[.int .u8 (k : Nat), .int .i64 0, .complex .f64 0 0, .string ⟨#[]⟩] 88 (0, 0))) := Lib.hid (heap_of_only k1 (by have := HLT.out; omega) HG7.out)
  clear k1 k2
  have d : w4.cell? ⟨wA.heap.size, 3, none⟩ = some (.string ⟨#[]⟩) := by rw [cell_of_row _ _ _ _ _ _ HG5.out]; rfl
  have f := frozen_of_row w4 wA.heap.size 3 _ _ HG5.out
  have hst : (store ⟨wA.heap.size, 3, none⟩ (.string ⟨u.toArray⟩)).run Tryz.prog w4 = .ok () (w4.setCell ⟨wA.heap.size, 3, none⟩ (.string ⟨u.toArray⟩)) := by
    rw [run_store Tryz.prog w4 _ _ _ rfl, d]; simp [f]
  obtain ⟨W5, hW5⟩ : ∃ W5, W5 = w4.setCell ⟨wA.heap.size, 3, none⟩ (.string ⟨u.toArray⟩) := ⟨_, rfl⟩
  have HG6 : Hid (W5.heap[wA.heap.size]? = some (.cells #[.int .u8 (k : Nat), .int .i64 0, .complex .f64 0 0, .string ⟨u.toArray⟩] 88 (0, 0))) := Lib.hid (by rw [hW5]; exact heap_setCell_same w4 wA.heap.size 3 _ _ _ HG5.out)
  have HG8 : Hid (W5.heap[w.heap.size]? = some (.cells #[.int .u8 0, .int .i64 0, .complex .f64 0 0, .string ⟨#[]⟩] 88 (0, 0))) := Lib.hid (by rw [hW5, heap_setCell_other w4 ⟨wA.heap.size, 3, none⟩ w.heap.size (.string ⟨u.toArray⟩) (by have := HLT.out; simp <;> omega)]; exact HG4.out)
  have H5 : Hid (IsR W5 r s3) := Lib.hid (by rw [hW5]; exact H4.out.above (Ch.setCell (p := ⟨wA.heap.size, 3, none⟩) (Ch.refl _ _) (.inl (by have := HLT.out; simp <;> omega)) (.string ⟨u.toArray⟩)))
  have HX5 : Hid (Only r w W5) := Lib.hid (by rw [hW5]; exact HX4.out.setCell (.inr (by have := HLT.out; simp <;> omega)) _)
  have HER := Lib.hid (err_w r s3 W5 H5.out.weak)
  have HW5 := Lib.hid hW5
  clear hW5
  unfold RPtr at HER
  by_cases he : s3.2 ≠ 0
  · have HE := Lib.hid he
    have eb : (s3.2 != 0) = true := by simpa using he
    clear he
    go_wp2_with (first
      | (go_at_call 14; rw [← HW5.out]; refine (HER.out).mono ?_; rintro e w' ⟨rfl, rfl⟩)
      | (refine wpList_store_rowTo rfl _ _ _ rfl rfl w.heap.size #[.int .u8 0, .int .i64 0, .complex .f64 0 0, .string ⟨#[]⟩] rfl rfl _ _ HG8.out info61 rfl (prow_one _ _ _ _ _) ?_))
    refine bodyPost_ret (results_cell_row rfl _ _ w.heap.size _ #[.int .u8 0, .int .i64 0, .complex .f64 0 0, .string ⟨#[]⟩] _ _ rfl (setRow_heap _ _ _ _ _ _ HG8.out) Tryz.underlying88 rfl info61) rfl ?_
    exact HPO.out Val.zero _ (by rw [if_pos HE.out]) (HX5.out.setRow (.inr (Nat.le_refl _)) _) (H5.out.above ((Ch.refl _ _).setRow (.inl (by have := HRL.out; omega)) _))
  · have HE := Lib.hid he
    have eb : (s3.2 != 0) = false := by simpa using he
    clear he
    go_wp2_with (first
      | (go_at_call 14; rw [← HW5.out]; refine (HER.out).mono ?_; rintro e w' ⟨rfl, rfl⟩)
      | (refine wpList_load_row rfl _ _ rfl wA.heap.size rfl _ _ _ _ HG6.out Tryz.underlying88 rfl info61 ?_)
      | (refine wpList_store_rowTo rfl _ _ _ rfl rfl w.heap.size #[.int .u8 (k : Nat), .int .i64 0, .complex .f64 0 0, .string ⟨u.toArray⟩] rfl rfl _ _ HG8.out info61 rfl (prow_one _ _ _ _ _) ?_))
    refine bodyPost_ret (results_cell_row rfl _ _ w.heap.size _ #[.int .u8 (k : Nat), .int .i64 0, .complex .f64 0 0, .string ⟨u.toArray⟩] _ _ rfl (setRow_heap _ _ _ _ _ _ HG8.out) Tryz.underlying88 rfl info61) rfl ?_
    exact HPO.out ⟨k, 0, 0, 0, u⟩ _ (by rw [if_neg HE.out]) (HX5.out.setRow (.inr (Nat.le_refl _)) _) (H5.out.above ((Ch.refl _ _).setRow (.inl (by have := HRL.out; omega)) _))
set_option maxRecDepth 20000 in
set_option maxHeartbeats 2000000 in
theorem take_bv_bt (r : Nat) (s : RS) (ver k : Nat) (w : World) (h : IsR w r s) (hv : ver ≠ 1 ∧ ver ≠ 2) (hk : k < 1 ∨ 6 < k) :
    Calls Tryz.prog 82 #[RPtr r, .int .u8 (k : Nat), .int .u8 (ver : Nat)] w (TkPost r (tTake ver k s).1 (tTake ver k s).2 w) := by
  have hiv := isVersion_any ver
  have hit := isType_any k
  rw [decide_eq_false (show ¬ (ver = 1 ∨ ver = 2) by omega)] at hiv
  rw [decide_eq_false (show ¬ (1 ≤ k ∧ k ≤ 6) by omega)] at hit
  have hpre : tPre ver k s = (failR (failR s 18) 11) := by unfold tPre; simp only; rw [if_neg (show ¬ (1 ≤ k ∧ k ≤ 6) by omega), if_neg (show ¬ (ver = 1 ∨ ver = 2) by omega)]
  have htt : tTake ver k s = (if (tRaw ver k (failR (failR s 18) 11)).2.2 ≠ 0 then .zero else (tRaw ver k (failR (failR s 18) 11)).1, (tRaw ver k (failR (failR s 18) 11)).2) := by unfold tTake; rw [hpre]
  rw [htt]
  have HIV := Lib.hid hiv; have HIT := Lib.hid hit
  clear hiv hit hpre htt
  have HF1 := Lib.hid (fun w h => fail_any r s 18 w h)
  have HF2 := Lib.hid (fun w h => fail_any r (failR s 18) 11 w h)
  have HRL := Lib.hid h.lt
  obtain ⟨S0, hS0⟩ : ∃ S0, S0 = (failR (failR s 18) 11) := ⟨_, rfl⟩
  rw [← hS0]
  have HS0 := Lib.hid hS0
  have hraw : tRaw ver k S0 = (⟨k, 0, 0, 0, []⟩, S0) := by unfold tRaw; rw [if_neg (by omega), if_neg (by omega), if_neg (by omega), if_neg (by omega), if_neg (by omega), if_neg (by omega)]
  rw [hraw]
  simp only
  clear hraw hS0
  obtain ⟨PO, hPO⟩ : ∃ PO, PO = TkPost r (if S0.2 ≠ 0 then Val.zero else ⟨k, 0, 0, 0, []⟩) S0 w := ⟨_, rfl⟩
  have HPO : Hid (∀ v w', (if S0.2 ≠ 0 then Val.zero else ⟨k, 0, 0, 0, []⟩) = v → Only r w w' → IsR w' r S0 → PO (.returned (pv v)) w') := Lib.hid fun v w' h1 h2 h3 => by
    rw [hPO, h1]
    exact ⟨rfl, h2, h3⟩
  rw [← hPO]
  clear hPO
  have H := Lib.hid h
  clear h
  have e1 : (((k : Nat) : Int) == 1) = false := by simp; omega
  have e2 : (((k : Nat) : Int) == 2) = false := by simp; omega
  have e3 : (((k : Nat) : Int) == 3) = false := by simp; omega
  have e4 : (((k : Nat) : Int) == 4) = false := by simp; omega
  have e5 : (((k : Nat) : Int) == 5) = false := by simp; omega
  have e6 : (((k : Nat) : Int) == 6) = false := by simp; omega
  clear hk hv
  unfold RPtr at *
  have hg6 := heap_alloc_new w (.cells #[.int .u8 0, .int .i64 0, .complex .f64 0 0, .string ⟨#[]⟩] 88)
  have hx0 : Ext w (w.alloc (.cells #[.int .u8 0, .int .i64 0, .complex .f64 0 0, .string ⟨#[]⟩] 88)) := (Ch.refl _ _).alloc _
  have HX0 : Hid (Only r w (w.alloc (.cells #[.int .u8 0, .int .i64 0, .complex .f64 0 0, .string ⟨#[]⟩] 88))) := Lib.hid hx0.ch
  have HG0 := Lib.hid hg6
  have H0 := Lib.hid (H.out.ext hx0)
  clear hg6 hx0
  go_enter Tryz.func82, Tryz.ntmps82
  go_wp2_with (first
    | (go_at_call 104; refine (HIV.out _).mono ?_; rintro e w' ⟨rfl, rfl⟩)
    | (go_at_call 26; refine (HF1.out _ H0.out).mono ?_))
  rintro e wA ⟨rfl, k1, k2⟩
  have HXA := Lib.hid (HX0.out.trans k1); have HA := Lib.hid k2
  have HGA : Hid (wA.heap[w.heap.size]? = some (.cells #[.int .u8 0, .int .i64 0, .complex .f64 0 0, .string ⟨#[]⟩] 88 (0, 0))) := Lib.hid (heap_of_only k1 (by have := HRL.out; omega) HG0.out)
  clear k1 k2
  go_wp2_with (first
    | (go_at_call 104; refine (HIV.out _).mono ?_; rintro e w' ⟨rfl, rfl⟩)
    | (go_at_call 96; refine (HIT.out _).mono ?_; rintro e w' ⟨rfl, rfl⟩)
    | (go_at_call 26; refine (HF2.out _ HA.out).mono ?_))
  rintro e wB ⟨rfl, k1, k2⟩
  have HXB := Lib.hid (HXA.out.trans k1); have HB := Lib.hid k2
  have HGB : Hid (wB.heap[w.heap.size]? = some (.cells #[.int .u8 0, .int .i64 0, .complex .f64 0 0, .string ⟨#[]⟩] 88 (0, 0))) := Lib.hid (heap_of_only k1 (by have := HRL.out; omega) HGA.out)
  clear k1 k2
  rw [← HS0.out] at HB
  have hq : (wB.alloc (.cells #[.int .u8 0, .int .i64 0, .complex .f64 0 0, .string ⟨#[]⟩] 88)).heap[wB.heap.size]? = some (.cells #[.int .u8 0, .int .i64 0, .complex .f64 0 0, .string ⟨#[]⟩] 88 (0, 0)) := heap_alloc_new _ _
  have HQ := Lib.hid hq
  obtain ⟨W3, hW3⟩ : ∃ W3, W3 = (wB.alloc (.cells #[.int .u8 0, .int .i64 0, .complex .f64 0 0, .string ⟨#[]⟩] 88)).setRow wB.heap.size #[.int .u8 (k : Nat), .int .i64 0, .complex .f64 0 0, .string ⟨#[]⟩] := ⟨_, rfl⟩
  have hx3 : Ext wB W3 := by rw [hW3]; exact ((Ch.refl _ _).alloc _).setRow (.inr (Nat.le_refl _)) _
  have HG3 : Hid (W3.heap[w.heap.size]? = some (.cells #[.int .u8 0, .int .i64 0, .complex .f64 0 0, .string ⟨#[]⟩] 88 (0, 0))) := Lib.hid (heap_of_ext hx3 HGB.out)
  have hg7 : W3.heap[wB.heap.size]? = some (.cells #[.int .u8 (k : Nat), .int .i64 0, .complex .f64 0 0, .string ⟨#[]⟩] 88 (0, 0)) := by rw [hW3]; exact setRow_heap _ _ _ _ _ _ hq
  have HG7 := Lib.hid hg7
  have HX3 : Hid (Only r w W3) := Lib.hid (HXB.out.trans hx3.ch)
  have H3 := Lib.hid (HB.out.ext hx3)
  have HLT : Hid (r < wB.heap.size ∧ w.heap.size < wB.heap.size) := Lib.hid (by have h1 := (Array.getElem?_eq_some_iff.1 HGB.out).1; have := HRL.out; omega)
  have HW3 := Lib.hid hW3
  clear hq hx3 hg7 hW3
  have HSZ : Hid (wB.heap.size = wB.heap.size) := Lib.hid rfl
  have HER := Lib.hid (err_w r S0 W3 H3.out.weak)
  have H5 := Lib.hid H3.out
  have HG6 := Lib.hid HG7.out; have HG8 := Lib.hid HG3.out; have HX5 := Lib.hid HX3.out
  unfold RPtr at HER
  by_cases he : S0.2 ≠ 0
  · have HE := Lib.hid he
    have eb : (S0.2 != 0) = true := by simpa using he
    clear he
    go_wp2_with (first
      | (refine wpList_store_rowTo rfl _ _ _ rfl rfl wB.heap.size #[.int .u8 (k : Nat), .int .i64 0, .complex .f64 0 0, .string ⟨#[]⟩] rfl rfl _ _ HQ.out info61 rfl (prow_one _ _ _ _ _) ?_; rw [← HW3.out])
      | (go_at_call 104; refine (HIV.out _).mono ?_; rintro e w' ⟨rfl, rfl⟩)
      | (go_at_call 96; refine (HIT.out _).mono ?_; rintro e w' ⟨rfl, rfl⟩)
      | (go_at_call 14; refine (HER.out).mono ?_; rintro e w' ⟨rfl, rfl⟩)
      | (refine wpList_store_rowTo rfl _ _ _ rfl rfl w.heap.size #[.int .u8 0, .int .i64 0, .complex .f64 0 0, .string ⟨#[]⟩] rfl rfl _ _ HG8.out info61 rfl (prow_one _ _ _ _ _) ?_))
    refine bodyPost_ret (results_cell_row rfl _ _ w.heap.size _ #[.int .u8 0, .int .i64 0, .complex .f64 0 0, .string ⟨#[]⟩] _ _ rfl (setRow_heap _ _ _ _ _ _ HG8.out) Tryz.underlying88 rfl info61) rfl ?_
    exact HPO.out Val.zero _ (by rw [if_pos HE.out]) (HX5.out.setRow (.inr (Nat.le_refl _)) _) (H5.out.above ((Ch.refl _ _).setRow (.inl (by have := HRL.out; omega)) _))
  · have HE := Lib.hid he
    have eb : (S0.2 != 0) = false := by simpa using he
    clear he
    go_wp2_with (first
      | (refine wpList_store_rowTo rfl _ _ _ rfl rfl wB.heap.size #[.int .u8 (k : Nat), .int .i64 0, .complex .f64 0 0, .string ⟨#[]⟩] rfl rfl _ _ HQ.out info61 rfl (prow_one _ _ _ _ _) ?_; rw [← HW3.out])
      | (go_at_call 104; refine (HIV.out _).mono ?_; rintro e w' ⟨rfl, rfl⟩)
      | (go_at_call 96; refine (HIT.out _).mono ?_; rintro e w' ⟨rfl, rfl⟩)
      | (go_at_call 14; refine (HER.out).mono ?_; rintro e w' ⟨rfl, rfl⟩)
      | (refine wpList_load_row rfl _ _ rfl wB.heap.size rfl _ _ _ _ HG6.out Tryz.underlying88 rfl info61 ?_)
      | (refine wpList_store_rowTo rfl _ _ _ rfl rfl w.heap.size #[.int .u8 (k : Nat), .int .i64 0, .complex .f64 0 0, .string ⟨#[]⟩] rfl rfl _ _ HG8.out info61 rfl (prow_one _ _ _ _ _) ?_))
    refine bodyPost_ret (results_cell_row rfl _ _ w.heap.size _ #[.int .u8 (k : Nat), .int .i64 0, .complex .f64 0 0, .string ⟨#[]⟩] _ _ rfl (setRow_heap _ _ _ _ _ _ HG8.out) Tryz.underlying88 rfl info61) rfl ?_
    exact HPO.out ⟨k, 0, 0, 0, []⟩ _ (by rw [if_neg HE.out]) (HX5.out.setRow (.inr (Nat.le_refl _)) _) (H5.out.above ((Ch.refl _ _).setRow (.inl (by have := HRL.out; omega)) _))
end Go.Proofs.YtegclfpmgilnpaaGreat
namespace Go.Proofs.YtegclfpmgilnpaaGreat
open Go.RowKit Go.Lac
section
variable {e : Int} (he : e ≠ 0)
include he
theorem failR_gone (c : Int) : failR ([], e) c = ([], e) := by unfold failR; rw [if_pos (.inl he)]
theorem takeR_gone' (n : Nat) : takeR n ([], e) = ([], ([], e)) := by
  unfold takeR
  split
  · rw [failR_gone he]
  · simp
theorem byteR_gone' : byteR ([], e) = (0, ([], e)) := by unfold byteR; rw [takeR_gone' he]
theorem wordR_gone' : wordR ([], e) = (0, ([], e)) := by unfold wordR; rw [takeR_gone' he]; rfl
theorem uintR_gone' (m : Nat) : uintR m ([], e) = (0, ([], e)) := by
  unfold uintR num numAt
  simp [failR_gone he]
theorem intR_gone' : intR ([], e) = (0, ([], e)) := by unfold intR; rw [uintR_gone' he]; simp [zag]
theorem textR_gone' (m : Nat) : textR m ([], e) = ([], ([], e)) := by unfold textR; rw [uintR_gone' he]; exact takeR_gone' he 0
theorem fltR_gone' (ver : Nat) : (fltR ver ([], e)).2 = ([], e) := by
  unfold fltR
  split
  · rw [wordR_gone' he]
  · rw [uintR_gone' he]
theorem tByte_gone (m : Nat) : (tByte m ([], e)).2 = ([], e) := by
  unfold tByte
  rw [byteR_gone' he]
  simp
theorem tInt_gone (ver : Nat) : (tInt ver ([], e)).2 = ([], e) := by
  unfold tInt
  split
  · rw [wordR_gone' he]
  · rw [intR_gone' he]
theorem tPart_gone (ver : Nat) (th : Bool) : (tPart ver th ([], e)).2 = ([], e) := by
  unfold tPart
  split
  · simp only
    split
    · rw [fltR_gone' he, failR_gone he]
    · rw [fltR_gone' he]
  · rfl
theorem tCplx_gone (ver : Nat) : (tCplx ver ([], e)).2 = ([], e) := by
  unfold tCplx
  split
  · rw [wordR_gone' he, wordR_gone' he]
  · simp only
    rw [tByte_gone he, tPart_gone he, tPart_gone he]
theorem tText_gone : (tText ([], e)).2 = ([], e) := by
  unfold tText
  rw [textR_gone' he]
  simp only
  split
  · rw [failR_gone he]
  · rfl
theorem tRaw_gone (ver k : Nat) : (tRaw ver k ([], e)).2 = ([], e) := by
  unfold tRaw
  split
  · exact tByte_gone he 1
  split
  · exact tInt_gone he ver
  split
  · exact fltR_gone' he ver
  split
  · exact tCplx_gone he ver
  split
  · exact tText_gone he
  split
  · simp only; rw [textR_gone' he]
  · rfl
end
theorem failR_zero (s : RS) : failR s 0 = s := by unfold failR; simp
theorem tCplx_two (s : RS) : tCplx 2 s = cplxR s := rfl
theorem tTake_eq (ver k : Nat) (l : List UInt8) : tTake ver k (l, 0) = vTake ver k (l, 0) := by
  have hf : ∀ c : Int, c ≠ 0 → failR (l, 0) c = ([], c) := fun c hc => by unfold failR; simp [hc]
  by_cases hv : ver = 1 ∨ ver = 2
  · unfold vTake
    rw [if_neg (by omega)]
    by_cases hk : 1 ≤ k ∧ k ≤ 6
    · have hp : tPre ver k (l, 0) = (l, 0) := by unfold tPre; simp only; rw [if_pos hk, if_pos hv]
      unfold tTake
      rw [hp]
      generalize (l, (0 : Int)) = s
      have key : (tRaw ver k s).1 = (rawR ver k s).1 ∧ (tRaw ver k s).2 = failR (rawR ver k s).2 (vErr (rawR ver k s).1 : Nat) := by
        have hk' : k = 1 ∨ k = 2 ∨ k = 3 ∨ k = 4 ∨ k = 5 ∨ k = 6 := by omega
        rcases hk' with rfl | rfl | rfl | rfl | rfl | rfl
        · refine ⟨rfl, ?_⟩
          unfold tRaw rawR tByte
          simp only [if_true]
          by_cases h1 : 1 < (byteR s).1
          · have hve : vErr ⟨1, ((byteR s).1 : Int), 0, 0, []⟩ = 4 := by unfold vErr; simp; omega
            rw [if_pos h1, hve]
            rfl
          · have hve : vErr ⟨1, ((byteR s).1 : Int), 0, 0, []⟩ = 0 := by unfold vErr; simp; omega
            rw [if_neg h1, hve]
            exact (failR_zero _).symm
        · have hve : ∀ n, vErr ⟨2, n, 0, 0, []⟩ = 0 := fun n => by unfold vErr; simp
          rcases hv with rfl | rfl
          · refine ⟨rfl, ?_⟩
            show (wordR s).2 = failR (wordR s).2 (vErr ⟨2, u64i (wordR s).1, 0, 0, []⟩ : Nat)
            rw [hve]
            exact (failR_zero _).symm
          · refine ⟨rfl, ?_⟩
            show (intR s).2 = failR (intR s).2 (vErr ⟨2, (intR s).1, 0, 0, []⟩ : Nat)
            rw [hve]
            exact (failR_zero _).symm
        · have hve : ∀ n, vErr ⟨3, 0, n, 0, []⟩ = 0 := fun n => by unfold vErr; simp
          refine ⟨rfl, ?_⟩
          show (fltR ver s).2 = failR (fltR ver s).2 (vErr ⟨3, 0, (fltR ver s).1, 0, []⟩ : Nat)
          rw [hve]
          exact (failR_zero _).symm
        · have hve : ∀ n m, vErr ⟨4, 0, n, m, []⟩ = 0 := fun n m => by unfold vErr; simp
          rcases hv with rfl | rfl
          · refine ⟨rfl, ?_⟩
            show (wordR (wordR s).2).2 = failR (wordR (wordR s).2).2 (vErr ⟨4, 0, (wordR s).1, (wordR (wordR s).2).1, []⟩ : Nat)
            rw [hve]
            exact (failR_zero _).symm
          · refine ⟨rfl, ?_⟩
            show (cplxR s).2 = failR (cplxR s).2 (vErr ⟨4, 0, (cplxR s).1.1, (cplxR s).1.2, []⟩ : Nat)
            rw [hve]
            exact (failR_zero _).symm
        · refine ⟨rfl, ?_⟩
          have hl := textR_length 2048 s
          show (if plainB (textR 2048 s).1 = false then failR (textR 2048 s).2 3 else (textR 2048 s).2) = failR (textR 2048 s).2 (vErr ⟨5, 0, 0, 0, (textR 2048 s).1⟩ : Nat)
          by_cases hp : plainB (textR 2048 s).1 = false
          · have hve : vErr ⟨5, 0, 0, 0, (textR 2048 s).1⟩ = 3 := by unfold vErr; simp [hp]; omega
            rw [if_pos hp, hve]
            rfl
          · have hve : vErr ⟨5, 0, 0, 0, (textR 2048 s).1⟩ = 0 := by unfold vErr; simp [hp]; omega
            rw [if_neg hp, hve]
            exact (failR_zero _).symm
        · refine ⟨rfl, ?_⟩
          have hl := textR_length 2048 s
          have hve : vErr ⟨6, 0, 0, 0, (textR 2048 s).1⟩ = 0 := by unfold vErr; simp; omega
          show (textR 2048 s).2 = failR (textR 2048 s).2 (vErr ⟨6, 0, 0, 0, (textR 2048 s).1⟩ : Nat)
          rw [hve]
          exact (failR_zero _).symm
      rw [key.1, key.2]
      split <;> rfl
    · have hp : tPre ver k (l, 0) = ([], 11) := by unfold tPre; simp only; rw [if_neg hk, if_pos hv, hf 11 (by decide)]
      have hr : rawR ver k (l, 0) = (⟨k, 0, 0, 0, []⟩, (l, 0)) := by
        unfold rawR
        rw [if_neg (by omega), if_neg (by omega), if_neg (by omega), if_neg (by omega), if_neg (by omega)]
      have hve : vErr ⟨k, 0, 0, 0, []⟩ = 11 := by unfold vErr; rw [if_pos (show k < 1 ∨ 6 < k by omega)]
      unfold tTake
      rw [hp, tRaw_gone (by decide), hr]
      simp only
      rw [hve, show ((11 : Nat) : Int) = 11 by rfl, hf 11 (by decide)]
      simp
  · unfold vTake
    rw [if_pos (by omega)]
    have hp : tPre ver k (l, 0) = ([], 18) := by
      unfold tPre
      simp only
      rw [if_neg hv, hf 18 (by decide), failR_gone (by decide)]
      split <;> rfl
    unfold tTake
    rw [hp, tRaw_gone (by decide), hf 18 (by decide)]
    simp
end Go.Proofs.YtegclfpmgilnpaaGreat
namespace Go.Proofs.YtegclfpmgilnpaaGreat
open Go.RowKit Go.Lac
structure Cel where
  k : Nat
  v : Val
deriving DecidableEq
def Cel.zero : Cel := ⟨0, .zero⟩
def Cel.ok (c : Cel) : Prop := c.k < 256 ∧ c.v.ok
def texty (k : Nat) : Bool := decide (k = 5 ∨ k = 6)
def cLarge (c : Cel) : Bool := decide (c.k = 2) && texty c.v.ty && decide (64 < c.v.t.length)
def cErr (c : Cel) (kind : Nat) : Nat :=
  if kind < 1 ∨ 6 < kind then 11
  else if 2 < c.k then 7
  else if c.k < 2 then (if c.v ≠ .zero then 3 else if c.k = 1 ∧ texty kind = false then 11 else 0)
  else if vErr c.v ≠ 0 then vErr c.v
  else if c.v.ty ≠ kind then 11 else 0
def cpErr (ver : Nat) (c : Cel) (kind : Nat) : Nat := if ver ≠ 1 ∧ ver ≠ 2 then 18 else if cErr c kind ≠ 0 then cErr c kind else if c.k = 0 then 12 else 0
def cBytes (ver : Nat) (c : Cel) : List UInt8 :=
  if c.k = 1 then [0]
  else if cLarge c = true then UInt8.ofNat (3 - ver) :: sev c.v.t.length
  else if ver = 1 then 1 :: vBytes 1 c.v
  else if texty c.v.ty = true then sev (c.v.t.length + 2) ++ c.v.t
  else vBytes 2 c.v
def bigC (kind : Nat) : Cel := ⟨2, ⟨kind, 0, 0, 0, []⟩⟩
def sameC : Cel := ⟨1, .zero⟩
def awayR (s : RS) : Nat × RS := ((uintR 2048 s).1, if (uintR 2048 s).1 < 65 then failR (uintR 2048 s).2 4 else (uintR 2048 s).2)
def hereR (kind n : Nat) (s : RS) : Cel × RS := (⟨2, ⟨kind, 0, 0, 0, (takeR n s).1⟩⟩, failR (takeR n s).2 (vErr ⟨kind, 0, 0, 0, (takeR n s).1⟩ : Nat))
def headR (kind : Nat) (s : RS) : RS := if 2 < (byteR s).1 ∨ ((byteR s).1 ≠ 1 ∧ texty kind = false) then failR (byteR s).2 7 else (byteR s).2
def partedR (kind : Nat) (s : RS) : (Cel × Nat) × RS :=
  if (byteR s).1 = 0 then ((sameC, 0), headR kind s)
  else if (byteR s).1 = 2 then ((bigC kind, (awayR (headR kind s)).1), (awayR (headR kind s)).2)
  else if texty kind = true then (((hereR kind (uintR 64 (headR kind s)).1 (uintR 64 (headR kind s)).2).1, 0), (hereR kind (uintR 64 (headR kind s)).1 (uintR 64 (headR kind s)).2).2)
  else ((⟨2, (vTake 1 kind (headR kind s)).1⟩, 0), (vTake 1 kind (headR kind s)).2)
def joinedR (kind : Nat) (s : RS) : (Cel × Nat) × RS :=
  if (uintR 66 s).1 = 0 then ((sameC, 0), (uintR 66 s).2)
  else if (uintR 66 s).1 = 1 then ((bigC kind, (awayR (uintR 66 s).2).1), (awayR (uintR 66 s).2).2)
  else (((hereR kind ((uintR 66 s).1 - 2) (uintR 66 s).2).1, 0), (hereR kind ((uintR 66 s).1 - 2) (uintR 66 s).2).2)
def cRaw (ver kind : Nat) (s : RS) : (Cel × Nat) × RS :=
  if ver = 1 then partedR kind s
  else if texty kind = true then joinedR kind s
  else ((⟨2, (vTake ver kind s).1⟩, 0), (vTake ver kind s).2)
def cTake (ver kind : Nat) (s : RS) : (Cel × Nat) × RS :=
  if (cRaw ver kind (tPre ver kind s)).2.2 ≠ 0 then ((.zero, 0), (cRaw ver kind (tPre ver kind s)).2) else cRaw ver kind (tPre ver kind s)
def cOut (c : Cel) : Cel := if cLarge c = true then bigC c.v.ty else c
def cLen (c : Cel) : Nat := if cLarge c = true then c.v.t.length else 0
def fillC (c : Cel) (n : Nat) : Cel := ⟨c.k, ⟨c.v.ty, c.v.i, c.v.re, c.v.im, c.v.t ++ List.replicate n 97⟩⟩
theorem fillC_zero (c : Cel) : fillC c 0 = c := by unfold fillC; simp
theorem texty_iff (k : Nat) : texty k = true ↔ k = 5 ∨ k = 6 := by unfold texty; simp
theorem cErr_zero {c : Cel} {kind : Nat} (h : cErr c kind = 0) : 1 ≤ kind ∧ kind ≤ 6 ∧ c.k ≤ 2 ∧ (c.k < 2 → c.v = .zero) ∧ (c.k = 1 → texty kind = true) ∧ (c.k = 2 → vErr c.v = 0 ∧ c.v.ty = kind) := by
  unfold cErr at h
  by_cases h1 : kind < 1 ∨ 6 < kind
  · rw [if_pos h1] at h; cases h
  rw [if_neg h1] at h
  by_cases h2 : 2 < c.k
  · rw [if_pos h2] at h; cases h
  rw [if_neg h2] at h
  by_cases h3 : c.k < 2
  · rw [if_pos h3] at h
    by_cases h4 : c.v ≠ .zero
    · rw [if_pos h4] at h; cases h
    rw [if_neg h4] at h
    by_cases h5 : c.k = 1 ∧ texty kind = false
    · rw [if_pos h5] at h; cases h
    refine ⟨by omega, by omega, by omega, fun _ => Decidable.byContradiction h4, fun a => ?_, fun a => by omega⟩
    cases ht : texty kind with
    | true => rfl
    | false => exact absurd ⟨a, ht⟩ h5
  · rw [if_neg h3] at h
    by_cases h4 : vErr c.v ≠ 0
    · rw [if_pos h4] at h; exact absurd h h4
    rw [if_neg h4] at h
    by_cases h5 : c.v.ty ≠ kind
    · rw [if_pos h5] at h; cases h
    exact ⟨by omega, by omega, by omega, fun a => by omega, fun a => by omega, fun _ => ⟨by omega, by omega⟩⟩
theorem textual {v : Val} (h : vErr v = 0) (ht : texty v.ty = true) : v = ⟨v.ty, 0, 0, 0, v.t⟩ ∧ v.t.length ≤ 2048 := by
  obtain ⟨e1, e2, e3, e4, e5, e6, e7, e8, e9⟩ := vErr_zero h
  rw [texty_iff] at ht
  obtain ⟨ty, i, re, im, t⟩ := v
  simp only at *
  have r0 := e3 (by omega); have r1 := e4 (by omega) (by omega); have r2 := e5 (by omega)
  subst r0 r1 r2
  exact ⟨rfl, e8⟩
theorem vBytes_text {ver : Nat} {v : Val} (ht : texty v.ty = true) : vBytes ver v = txt v.t := by
  rw [texty_iff] at ht
  unfold vBytes
  rw [if_neg (by omega), if_neg (by omega), if_neg (by omega), if_neg (by omega)]
theorem tPre_ok {ver kind : Nat} (s : RS) (hv : ver = 1 ∨ ver = 2) (h1 : 1 ≤ kind) (h6 : kind ≤ 6) : tPre ver kind s = s := by
  unfold tPre
  simp only
  rw [if_pos ⟨h1, h6⟩, if_pos hv]
theorem hereR_ok {kind : Nat} {t : List UInt8} (rest : List UInt8) (h : vErr ⟨kind, 0, 0, 0, t⟩ = 0) : hereR kind t.length (t ++ rest, 0) = (⟨2, ⟨kind, 0, 0, 0, t⟩⟩, (rest, 0)) := by
  unfold hereR
  rw [takeR_app]
  simp only
  rw [h]
  exact congrArg (Prod.mk _) (failR_zero _)
theorem awayR_ok {n : Nat} (rest : List UInt8) (h : 64 < n) (h2 : n ≤ 2048) : awayR (sev n ++ rest, 0) = (n, (rest, 0)) := by
  unfold awayR
  rw [uintR_sev 2048 n rest (by omega), if_pos h2]
  simp only
  rw [if_neg (by omega)]
theorem cTake_of {ver kind : Nat} {s : RS} {x : Cel × Nat} {rest : List UInt8} (hv : ver = 1 ∨ ver = 2) (h1 : 1 ≤ kind) (h6 : kind ≤ 6) (h : cRaw ver kind s = (x, (rest, 0))) : cTake ver kind s = (x, (rest, 0)) := by
  unfold cTake
  rw [tPre_ok s hv h1 h6, h]
  simp
theorem cBytes_large {ver : Nat} {v : Val} (hL : cLarge ⟨2, v⟩ = true) : cBytes ver ⟨2, v⟩ = UInt8.ofNat (3 - ver) :: sev v.t.length := by
  unfold cBytes; rw [if_neg (by simp), if_pos hL]
theorem cBytes_1 {v : Val} (hL : ¬ cLarge ⟨2, v⟩ = true) : cBytes 1 ⟨2, v⟩ = 1 :: vBytes 1 v := by
  unfold cBytes; rw [if_neg (by simp), if_neg hL, if_pos rfl]
theorem cBytes_2t {v : Val} (hL : ¬ cLarge ⟨2, v⟩ = true) (ht : texty v.ty = true) : cBytes 2 ⟨2, v⟩ = sev (v.t.length + 2) ++ v.t := by
  unfold cBytes; rw [if_neg (by simp), if_neg hL, if_neg (by decide), if_pos ht]
theorem cBytes_2p {v : Val} (hL : ¬ cLarge ⟨2, v⟩ = true) (ht : ¬ texty v.ty = true) : cBytes 2 ⟨2, v⟩ = vBytes 2 v := by
  unfold cBytes; rw [if_neg (by simp), if_neg hL, if_neg (by decide), if_neg ht]
theorem cRaw_1 (kind : Nat) (s : RS) : cRaw 1 kind s = partedR kind s := if_pos rfl
theorem cRaw_2t {kind : Nat} (s : RS) (h : texty kind = true) : cRaw 2 kind s = joinedR kind s := by unfold cRaw; rw [if_neg (by decide), if_pos h]
theorem cRaw_2p {kind : Nat} (s : RS) (h : ¬ texty kind = true) : cRaw 2 kind s = ((⟨2, (vTake 2 kind s).1⟩, 0), (vTake 2 kind s).2) := by unfold cRaw; rw [if_neg (by decide), if_neg h]
theorem cTake_put {ver kind : Nat} {c : Cel} (rest : List UInt8) (hver : ver = 1 ∨ ver = 2) (hc : c.ok) (h : cErr c kind = 0) (h0 : c.k ≠ 0) : cTake ver kind (cBytes ver c ++ rest, 0) = ((cOut c, cLen c), (rest, 0)) := by
  obtain ⟨e1, e2, e3, e4, e5, e6⟩ := cErr_zero h
  refine cTake_of hver e1 e2 ?_
  obtain ⟨k, v⟩ := c
  simp only at e3 e4 e5 e6 h0
  have hk : k = 1 ∨ k = 2 := by omega
  rcases hk with rfl | rfl
  · have hv := e4 (by omega)
    subst hv
    have ht := e5 rfl
    have hL : cLarge ⟨1, .zero⟩ = false := rfl
    have hB : cBytes ver ⟨1, .zero⟩ = [0] := rfl
    rw [hB]
    unfold cOut cLen
    rw [hL]
    simp only [Bool.false_eq_true, if_false]
    rcases hver with rfl | rfl
    · rw [cRaw_1]
      unfold partedR headR
      rw [List.singleton_append, byteR_cons, if_pos (by rfl), if_neg (by rw [ht]; simp)]
      rfl
    · rw [cRaw_2t _ ht]
      unfold joinedR
      have hu : uintR 66 ([0] ++ rest, 0) = (0, (rest, 0)) := by
        have := uintR_sev 66 0 rest (by decide)
        rw [if_pos (by decide), sev_small (by decide)] at this
        exact this
      rw [hu, if_pos rfl]
      rfl
  · obtain ⟨hv, hty⟩ := e6 rfl
    subst hty
    by_cases hL : cLarge ⟨2, v⟩ = true
    · have hL' := hL
      unfold cLarge at hL'
      simp only [Bool.and_eq_true, decide_eq_true_eq] at hL'
      obtain ⟨⟨_, ht⟩, hlen⟩ := hL'
      obtain ⟨_, h48⟩ := textual hv ht
      unfold cOut cLen
      rw [if_pos hL, if_pos hL, cBytes_large hL]
      simp only
      rcases hver with rfl | rfl
      · rw [cRaw_1]
        have hb : byteR ((UInt8.ofNat (3 - 1) :: sev v.t.length) ++ rest, 0) = (2, (sev v.t.length ++ rest, 0)) := by rw [List.cons_append, byteR_cons]; rfl
        have hh : headR v.ty ((UInt8.ofNat (3 - 1) :: sev v.t.length) ++ rest, 0) = (sev v.t.length ++ rest, 0) := by
          unfold headR
          rw [hb, if_neg (by rw [ht]; simp)]
        unfold partedR
        rw [hb, hh, if_neg (by simp), if_pos rfl, awayR_ok rest hlen h48]
      · rw [cRaw_2t _ ht]
        have hb : uintR 66 ((UInt8.ofNat (3 - 2) :: sev v.t.length) ++ rest, 0) = (1, (sev v.t.length ++ rest, 0)) := by
          have := uintR_sev 66 1 (sev v.t.length ++ rest) (by decide)
          rw [if_pos (by decide), sev_small (by decide)] at this
          exact this
        unfold joinedR
        rw [hb, if_neg (by simp), if_pos rfl, awayR_ok rest hlen h48]
    · unfold cOut cLen
      rw [if_neg hL, if_neg hL]
      by_cases ht : texty v.ty = true
      · obtain ⟨hvt, h48⟩ := textual hv ht
        have hlen : v.t.length ≤ 64 := by
          unfold cLarge at hL
          simp only [Bool.and_eq_true, decide_eq_true_eq] at hL
          exact Nat.le_of_not_lt fun h => hL ⟨⟨trivial, ht⟩, h⟩
        have hv' : vErr ⟨v.ty, 0, 0, 0, v.t⟩ = 0 := by rw [← hvt]; exact hv
        rcases hver with rfl | rfl
        · rw [cBytes_1 hL, cRaw_1, vBytes_text ht]
          have hb : byteR ((1 :: txt v.t) ++ rest, 0) = (1, (txt v.t ++ rest, 0)) := by rw [List.cons_append, byteR_cons]; rfl
          have hh : headR v.ty ((1 :: txt v.t) ++ rest, 0) = (txt v.t ++ rest, 0) := by
            unfold headR
            rw [hb, if_neg (by simp)]
          have hu : uintR 64 (txt v.t ++ rest, 0) = (v.t.length, (v.t ++ rest, 0)) := by
            unfold txt
            rw [List.append_assoc, uintR_sev 64 v.t.length _ (by omega), if_pos hlen]
          unfold partedR
          rw [hb, hh, if_neg (by simp), if_neg (by simp), if_pos ht, hu]
          simp only
          rw [hereR_ok rest hv', ← hvt]
        · rw [cBytes_2t hL ht, cRaw_2t _ ht]
          have hu : uintR 66 (sev (v.t.length + 2) ++ v.t ++ rest, 0) = (v.t.length + 2, (v.t ++ rest, 0)) := by
            rw [List.append_assoc, uintR_sev 66 (v.t.length + 2) _ (by omega), if_pos (by omega)]
          unfold joinedR
          rw [hu, if_neg (by simp), if_neg (by simp)]
          simp only
          rw [Nat.add_sub_cancel, hereR_ok rest hv', ← hvt]
      · rcases hver with rfl | rfl
        · rw [cBytes_1 hL, cRaw_1]
          have hb : byteR ((1 :: vBytes 1 v) ++ rest, 0) = (1, (vBytes 1 v ++ rest, 0)) := by rw [List.cons_append, byteR_cons]; rfl
          have hh : headR v.ty ((1 :: vBytes 1 v) ++ rest, 0) = (vBytes 1 v ++ rest, 0) := by
            unfold headR
            rw [hb, if_neg (by simp)]
          unfold partedR
          rw [hb, hh, if_neg (by simp), if_neg (by simp), if_neg ht, vTake_put rest (.inl rfl) hc.2 hv]
        · rw [cBytes_2p hL ht, cRaw_2p _ ht, vTake_put rest (.inr rfl) hc.2 hv]
theorem failR_inv {s : RS} {e : Int} (h : (failR s e).2 = 0) : s.2 = 0 ∧ e = 0 ∧ failR s e = s := by
  have he : e = 0 := Decidable.byContradiction fun c => failR_ne s e c h
  subst he
  rw [failR_zero] at h ⊢
  exact ⟨h, rfl, rfl⟩
theorem awayR_inv {s : RS} (h : (awayR s).2.2 = 0) : s.1 = sev (awayR s).1 ++ (awayR s).2.1 ∧ s.2 = 0 ∧ 64 < (awayR s).1 ∧ (awayR s).1 ≤ 2048 := by
  unfold awayR at h ⊢
  simp only at h ⊢
  by_cases hn : (uintR 2048 s).1 < 65
  · rw [if_pos hn] at h; exact absurd (failR_inv h).2.1 (by decide)
  · rw [if_neg hn] at h ⊢
    obtain ⟨h1, h2⟩ := uintR_inv _ s h
    exact ⟨h1, h2, by omega, uintR_le _ _⟩
theorem hereR_inv {kind n : Nat} {s : RS} (h : (hereR kind n s).2.2 = 0) : ∃ t, t.length = n ∧ (hereR kind n s).1 = ⟨2, ⟨kind, 0, 0, 0, t⟩⟩ ∧ vErr ⟨kind, 0, 0, 0, t⟩ = 0 ∧ s.1 = t ++ (hereR kind n s).2.1 ∧ s.2 = 0 := by
  unfold hereR at h ⊢
  simp only at h ⊢
  obtain ⟨h1, h2, h3⟩ := failR_inv h
  obtain ⟨k1, k2, k3⟩ := takeR_inv n s h1
  refine ⟨_, k2, rfl, by omega, ?_, k3⟩
  rw [h3]
  exact k1
theorem fill_err {kind n : Nat} (hk : texty kind = true) (hn : n ≤ 2048) : vErr ⟨kind, 0, 0, 0, List.replicate n 97⟩ = 0 := by
  rw [texty_iff] at hk
  have hp : plainB (List.replicate n 97) = true := by
    unfold plainB
    rw [List.all_eq_true]
    intro b hb
    rw [List.eq_of_mem_replicate hb]
    rfl
  unfold vErr
  rw [if_neg (by simp only; omega), if_neg (by simp; omega), if_neg (by simp only; omega), if_neg (by simp; omega), if_neg (by simp [hp])]
theorem big_fill {kind n : Nat} : fillC (bigC kind) n = ⟨2, ⟨kind, 0, 0, 0, List.replicate n 97⟩⟩ := by unfold fillC bigC; simp
theorem big_large {kind n : Nat} (hk : texty kind = true) (hn : 64 < n) : cLarge ⟨2, ⟨kind, 0, 0, 0, List.replicate n 97⟩⟩ = true := by unfold cLarge; simp [hk, hn]
theorem cErr_full {v : Val} {kind : Nat} (h1 : 1 ≤ kind) (h6 : kind ≤ 6) (h : vErr v = 0) (hk : v.ty = kind) : cErr ⟨2, v⟩ kind = 0 := by
  unfold cErr
  rw [if_neg (by omega), if_neg (by simp), if_neg (by simp), if_neg (by simp only; omega), if_neg (by simp only; omega)]
theorem cErr_same {kind : Nat} (h1 : 1 ≤ kind) (h6 : kind ≤ 6) (hk : texty kind = true) : cErr sameC kind = 0 := by
  unfold cErr sameC
  rw [if_neg (by omega), if_neg (by simp), if_pos (by simp), if_neg (by simp), if_neg (by simp [hk])]
theorem okText {kind : Nat} {t : List UInt8} (h : kind < 256) : Cel.ok ⟨2, ⟨kind, 0, 0, 0, t⟩⟩ := by unfold Cel.ok Val.ok; simp; omega
theorem cTake_inv {ver kind : Nat} {s : RS} (hk : kind < 256) (h : (cTake ver kind s).2.2 = 0) :
    (ver = 1 ∨ ver = 2) ∧ s.2 = 0 ∧ cErr (fillC (cTake ver kind s).1.1 (cTake ver kind s).1.2) kind = 0 ∧ (fillC (cTake ver kind s).1.1 (cTake ver kind s).1.2).k ≠ 0 ∧ (fillC (cTake ver kind s).1.1 (cTake ver kind s).1.2).ok ∧
      s.1 = cBytes ver (fillC (cTake ver kind s).1.1 (cTake ver kind s).1.2) ++ (cTake ver kind s).2.1 ∧ (cTake ver kind s).1.2 ≤ 2048 := by
  have hraw : (cRaw ver kind (tPre ver kind s)).2.2 = 0 ∧ cTake ver kind s = cRaw ver kind (tPre ver kind s) := by
    unfold cTake at h ⊢
    by_cases hc : (cRaw ver kind (tPre ver kind s)).2.2 ≠ 0
    · rw [if_pos hc] at h; exact absurd h hc
    · exact ⟨by omega, by rw [if_neg hc]⟩
  obtain ⟨hr, he⟩ := hraw
  rw [he]
  have gone : ∀ s' : RS, s'.2 ≠ 0 → (cRaw ver kind s').2.2 ≠ 0 := by
    intro s' hs'
    have hb : (byteR s').2.2 ≠ 0 := fun c => hs' (byteR_inv s' c).2.1
    have hu : ∀ m, (uintR m s').2.2 ≠ 0 := fun m => uintR_err m s' hs'
    have hh : (headR kind s').2 ≠ 0 := by
      unfold headR
      split
      · rw [failR_err _ _ hb]; exact hb
      · exact hb
    have ha : ∀ q : RS, q.2 ≠ 0 → (awayR q).2.2 ≠ 0 := fun q hq c => hq (awayR_inv c).2.1
    have hre : ∀ n (q : RS), q.2 ≠ 0 → (hereR kind n q).2.2 ≠ 0 := fun n q hq c => by
      obtain ⟨_, _, _, _, _, c5⟩ := hereR_inv c
      exact hq c5
    have hvt : ∀ q : RS, q.2 ≠ 0 → (vTake ver kind q).2.2 ≠ 0 := fun q hq c => hq (vTake_inv hk c).2.2.1
    unfold cRaw
    split
    · unfold partedR
      split
      · exact hh
      split
      · exact ha _ hh
      split
      · exact hre _ _ (uintR_err _ _ hh)
      · exact fun c => hh (vTake_inv hk c).2.2.1
    split
    · unfold joinedR
      split
      · exact hu _
      split
      · exact ha _ (hu _)
      · exact hre _ _ (hu _)
    · exact hvt _ hs'
  have hpre : (tPre ver kind s).2 = 0 := Decidable.byContradiction fun c => gone _ c hr
  have hvk : (ver = 1 ∨ ver = 2) ∧ 1 ≤ kind ∧ kind ≤ 6 := by
    unfold tPre at hpre
    simp only at hpre
    by_cases hkk : 1 ≤ kind ∧ kind ≤ 6
    · rw [if_pos hkk] at hpre
      by_cases hv : ver = 1 ∨ ver = 2
      · exact ⟨hv, hkk⟩
      · rw [if_neg hv] at hpre; exact absurd (failR_inv hpre).2.1 (by decide)
    · rw [if_neg hkk] at hpre; exact absurd (failR_inv hpre).2.1 (by decide)
  obtain ⟨hv, hk1, hk6⟩ := hvk
  rw [tPre_ok s hv hk1 hk6] at hr hpre ⊢
  refine ⟨hv, hpre, ?_⟩
  have big : ∀ (q : RS), texty kind = true → (awayR q).2.2 = 0 → cErr (fillC (bigC kind) (awayR q).1) kind = 0 ∧ (fillC (bigC kind) (awayR q).1).k ≠ 0 ∧ (fillC (bigC kind) (awayR q).1).ok ∧ (cBytes ver (fillC (bigC kind) (awayR q).1) ++ (awayR q).2.1 = UInt8.ofNat (3 - ver) :: q.1) ∧ (awayR q).1 ≤ 2048 := by
    intro q ht hq
    obtain ⟨a1, a2, a3, a4⟩ := awayR_inv hq
    rw [big_fill]
    refine ⟨cErr_full hk1 hk6 (fill_err ht a4) rfl, by simp, okText hk, ?_, a4⟩
    unfold cBytes
    rw [if_neg (by simp), if_pos (big_large ht a3)]
    simp only [List.length_replicate, List.cons_append]
    rw [← a1]
  have here : ∀ (n : Nat) (q : RS), texty kind = true → n ≤ 64 → (hereR kind n q).2.2 = 0 → ∃ t, t.length = n ∧ (hereR kind n q).1 = ⟨2, ⟨kind, 0, 0, 0, t⟩⟩ ∧ cErr ⟨2, ⟨kind, 0, 0, 0, t⟩⟩ kind = 0 ∧ cLarge ⟨2, ⟨kind, 0, 0, 0, t⟩⟩ = false ∧ q.1 = t ++ (hereR kind n q).2.1 := by
    intro n q ht hn hq
    obtain ⟨t, b1, b2, b3, b4, b5⟩ := hereR_inv hq
    refine ⟨t, b1, b2, cErr_full hk1 hk6 b3 rfl, ?_, b4⟩
    unfold cLarge
    simp [ht]; omega
  have plain : ∀ (q : RS), texty kind = false → (vTake ver kind q).2.2 = 0 → cErr ⟨2, (vTake ver kind q).1⟩ kind = 0 ∧ Cel.ok ⟨2, (vTake ver kind q).1⟩ ∧ q.1 = vBytes ver (vTake ver kind q).1 ++ (vTake ver kind q).2.1 ∧ (vTake ver kind q).1.ty = kind := by
    intro q ht hq
    obtain ⟨c1, c2, c3, c4, c5, c6⟩ := vTake_inv hk hq
    exact ⟨cErr_full hk1 hk6 c6 c4, ⟨by simp, c5⟩, c2, c4⟩
  have notL : ∀ v : Val, v.ty = kind → texty kind = false → cLarge ⟨2, v⟩ = false := fun v e ht => by unfold cLarge; rw [e, ht]; simp
  unfold cRaw at hr ⊢
  rcases hv with rfl | rfl
  · rw [if_pos rfl] at hr ⊢
    unfold partedR at hr ⊢
    have hhead : (headR kind s).2 = 0 → s.1 = UInt8.ofNat (byteR s).1 :: (headR kind s).1 ∧ (byteR s).1 ≤ 2 ∧ ((byteR s).1 ≠ 1 → texty kind = true) := by
      intro hh
      unfold headR at hh ⊢
      by_cases hc : 2 < (byteR s).1 ∨ ((byteR s).1 ≠ 1 ∧ texty kind = false)
      · rw [if_pos hc] at hh; exact absurd (failR_inv hh).2.1 (by decide)
      · rw [if_neg hc] at hh ⊢
        obtain ⟨d1, d2, d3⟩ := byteR_inv s hh
        refine ⟨d1, by omega, fun c => ?_⟩
        cases ht : texty kind with
        | true => rfl
        | false => exact absurd (.inr ⟨c, ht⟩) hc
    by_cases f0 : (byteR s).1 = 0
    · rw [if_pos f0] at hr ⊢
      simp only at hr ⊢
      obtain ⟨d1, d2, d3⟩ := hhead hr
      have ht := d3 (by omega)
      rw [fillC_zero]
      refine ⟨cErr_same hk1 hk6 ht, by decide, by unfold Cel.ok sameC Val.ok Val.zero; simp, ?_, by omega⟩
      rw [d1, f0]
      rfl
    rw [if_neg f0] at hr ⊢
    by_cases f2 : (byteR s).1 = 2
    · rw [if_pos f2] at hr ⊢
      simp only at hr ⊢
      have hh := (awayR_inv hr).2.1
      obtain ⟨d1, d2, d3⟩ := hhead hh
      obtain ⟨g1, g2, g3, g4, g5⟩ := big _ (d3 (by omega)) hr
      refine ⟨g1, g2, g3, ?_, g5⟩
      rw [g4, d1, f2]
    rw [if_neg f2] at hr ⊢
    by_cases ht : texty kind = true
    · rw [if_pos ht] at hr ⊢
      simp only at hr ⊢
      obtain ⟨_, _, _, _, _, hu⟩ := hereR_inv hr
      obtain ⟨u1, u2⟩ := uintR_inv _ _ hu
      obtain ⟨d1, d2, d3⟩ := hhead u2
      obtain ⟨t, b1, b2, b3, b4, b5⟩ := here _ _ ht (uintR_le _ _) hr
      rw [b2, fillC_zero]
      refine ⟨b3, by simp, okText hk, ?_, by omega⟩
      unfold cBytes
      rw [if_neg (by simp), if_neg (by rw [b4]; simp), if_pos rfl, vBytes_text ht]
      unfold txt
      simp only
      rw [d1, show (byteR s).1 = 1 by omega, u1, b5, b1]
      simp
    · rw [if_neg ht] at hr ⊢
      simp only at hr ⊢
      have htf : texty kind = false := by simpa using ht
      have hh := (vTake_inv hk hr).2.2.1
      obtain ⟨d1, d2, d3⟩ := hhead hh
      obtain ⟨g1, g2, g3, g4⟩ := plain _ htf hr
      rw [fillC_zero]
      refine ⟨g1, by simp, g2, ?_, by omega⟩
      unfold cBytes
      rw [if_neg (by simp), if_neg (by rw [notL _ g4 htf]; simp), if_pos rfl, d1, show (byteR s).1 = 1 by omega, g3]
      rfl
  · rw [if_neg (by decide)] at hr ⊢
    by_cases ht : texty kind = true
    · rw [if_pos ht] at hr ⊢
      unfold joinedR at hr ⊢
      by_cases f0 : (uintR 66 s).1 = 0
      · rw [if_pos f0] at hr ⊢
        simp only at hr ⊢
        obtain ⟨u1, u2⟩ := uintR_inv _ _ hr
        rw [fillC_zero]
        refine ⟨cErr_same hk1 hk6 ht, by decide, by unfold Cel.ok sameC Val.ok Val.zero; simp, ?_, by omega⟩
        rw [u1, f0, sev_small (by decide)]
        rfl
      rw [if_neg f0] at hr ⊢
      by_cases f1 : (uintR 66 s).1 = 1
      · rw [if_pos f1] at hr ⊢
        simp only at hr ⊢
        obtain ⟨u1, u2⟩ := uintR_inv _ _ (awayR_inv hr).2.1
        obtain ⟨g1, g2, g3, g4, g5⟩ := big _ ht hr
        refine ⟨g1, g2, g3, ?_, g5⟩
        rw [g4, u1, f1, sev_small (by decide)]
        rfl
      · rw [if_neg f1] at hr ⊢
        simp only at hr ⊢
        obtain ⟨_, _, _, _, _, hu⟩ := hereR_inv hr
        obtain ⟨u1, u2⟩ := uintR_inv _ _ hu
        have hle := uintR_le 66 s
        obtain ⟨t, b1, b2, b3, b4, b5⟩ := here _ _ ht (by omega) hr
        rw [b2, fillC_zero]
        refine ⟨b3, by simp, okText hk, ?_, by omega⟩
        unfold cBytes
        rw [if_neg (by simp), if_neg (by rw [b4]; simp), if_neg (by decide), if_pos ht]
        simp only
        rw [u1, b5, b1, show (uintR 66 s).1 - 2 + 2 = (uintR 66 s).1 by omega, List.append_assoc]
    · rw [if_neg ht] at hr ⊢
      simp only at hr ⊢
      have htf : texty kind = false := by simpa using ht
      obtain ⟨g1, g2, g3, g4⟩ := plain _ htf hr
      rw [fillC_zero]
      refine ⟨g1, by simp, g2, ?_, by omega⟩
      unfold cBytes
      rw [if_neg (by simp), if_neg (by rw [notL _ g4 htf]; simp), if_neg (by decide), if_neg (by simp only; rw [g4]; exact ht), g3]
end Go.Proofs.YtegclfpmgilnpaaGreat
namespace Go.Proofs.YtegclfpmgilnpaaGreat
open Go.RowKit Go.Lac
def pcv (c : Cel) : Array Value := #[.int .u8 (c.k : Nat), .int .u8 (c.v.ty : Nat), .int .i64 c.v.i, .complex .f64 c.v.re c.v.im, strV c.v.t]
def pc (c : Cel) : Value := .agg (pcv c)
def rcv (c : Cel) : Array Value := #[.int .u8 (c.k : Nat), .int .u8 (c.v.ty : Nat), .int .i64 c.v.i, .int .u64 (c.v.re : Nat), .int .u64 (c.v.im : Nat), strV c.v.t]
def rc (c : Cel) : Value := .agg (rcv c)
theorem infoPC : (Tryz.prog.info? 90).map (·.size) = some 5 := by kernel_rfl
theorem infoRC : (Tryz.prog.info? 76).map (·.size) = some 6 := by kernel_rfl
theorem build61_1 (w : World) (k : Nat) : (Instr.build 88 #[(0, .int .u8 (k : Nat))]).run Tryz.prog w = .ok (.agg #[.int .u8 (k : Nat), .int .i64 0, .complex .f64 0 0, .string ⟨#[]⟩]) w := by kernel_rfl
theorem build61_0 (w : World) : (Instr.build 88 #[]).run Tryz.prog w = .ok (.agg #[.int .u8 0, .int .i64 0, .complex .f64 0 0, .string ⟨#[]⟩]) w := by kernel_rfl
theorem build54_0 (w : World) : (Instr.build 74 #[]).run Tryz.prog w = .ok (.agg #[.int .u8 0, .int .i64 0, .int .u64 0, .int .u64 0, .string ⟨#[]⟩]) w := by kernel_rfl
theorem load_mid (w : World) (T : TypeId) (b o : Nat) (C : Array Value) (t : TypeId) (cs : Array Value) (d : TypeDesc) (hb : w.heap[b]? = some (.cells C t (0, 0))) (hc : ∀ j v, cs.toList[j]? = some v → C[o + j]? = some v)
    (hu : Tryz.prog.underlying T = some d) (hd : d.isRow = true) (hi : (Tryz.prog.info? T).map (·.size) = some cs.size) : (Instr.loadAt T (.pointer (some ⟨b, o, none⟩))).run Tryz.prog w = .ok (.agg cs) w := by
  have := run_loadAt_mid (P := Tryz.prog) w b o T cs.toList d (fun j v hv => by rw [cell_of_row w b (o + j) C t _ hb]; exact hc j v hv) hu hd (by simpa using hi)
  simpa using this
theorem vErr_only (k : Nat) : vErr ⟨k, 0, 0, 0, []⟩ = if k < 1 ∨ 6 < k then 11 else 0 := by
  unfold vErr
  by_cases h : k < 1 ∨ 6 < k
  · rw [if_pos h, if_pos h]
  · rw [if_neg h, if_neg h]; simp [plainB]
set_option maxRecDepth 20000 in
theorem cIsType_any (k : Nat) (w : World) :
    Calls Tryz.prog 55 #[.int .u8 (k : Nat)] w fun e w' => e = .returned (.bool (decide (1 ≤ k ∧ k ≤ 6))) ∧ Ext w w' := by
  have hb := build61_1 w k
  have hr := vright_any ⟨k, 0, 0, 0, []⟩ w
  rw [vErr_only] at hr
  unfold pv pvals strV at hr
  by_cases h : k < 1 ∨ 6 < k
  · rw [if_pos h] at hr
    rw [decide_eq_false (by omega)]
    have HR := Lib.hid hr; clear hr h
    go_enter Tryz.func55, Tryz.ntmps55
    go_wp2_with fail
    refine HR.out.mono ?_
    rintro e w1 ⟨rfl, hx⟩
    have HX := Lib.hid hx; clear hx
    go_wp2
    go_ret
    exact ⟨rfl, HX.out⟩
  · rw [if_neg h] at hr
    rw [decide_eq_true (by omega)]
    have HR := Lib.hid hr; clear hr h
    go_enter Tryz.func55, Tryz.ntmps55
    go_wp2_with fail
    refine HR.out.mono ?_
    rintro e w1 ⟨rfl, hx⟩
    have HX := Lib.hid hx; clear hx
    go_wp2
    go_ret
    exact ⟨rfl, HX.out⟩
set_option maxRecDepth 20000 in
theorem cIsText_any (k : Nat) (w : World) :
    Calls Tryz.prog 79 #[.int .u8 (k : Nat)] w fun e w' => e = .returned (.bool (texty k)) ∧ w = w' := by
  unfold texty
  by_cases h1 : k = 5
  · subst h1
    go_enter Tryz.func79, Tryz.ntmps79
    go_wp2
    go_ret
    exact ⟨rfl, rfl⟩
  · have e1 : (((k : Nat) : Int) == 5) = false := by simp; omega
    by_cases h2 : k = 6
    · subst h2
      go_enter Tryz.func79, Tryz.ntmps79
      go_wp2
      go_ret
      exact ⟨rfl, rfl⟩
    · have e2 : (((k : Nat) : Int) == 6) = false := by simp; omega
      rw [decide_eq_false (by omega)]
      clear h1 h2
      go_enter Tryz.func79, Tryz.ntmps79
      go_wp2
      go_ret
      exact ⟨rfl, rfl⟩
set_option maxRecDepth 20000 in
theorem rTexty_any (k : Nat) (w : World) :
    Calls Tryz.prog 60 #[.int .u8 (k : Nat)] w fun e w' => e = .returned (.bool (texty k)) ∧ w = w' := by
  unfold texty
  by_cases h1 : k = 5
  · subst h1
    go_enter Tryz.func60, Tryz.ntmps60
    go_wp2
    go_ret
    exact ⟨rfl, rfl⟩
  · have e1 : (((k : Nat) : Int) == 5) = false := by simp; omega
    by_cases h2 : k = 6
    · subst h2
      go_enter Tryz.func60, Tryz.ntmps60
      go_wp2
      go_ret
      exact ⟨rfl, rfl⟩
    · have e2 : (((k : Nat) : Int) == 6) = false := by simp; omega
      rw [decide_eq_false (by omega)]
      clear h1 h2
      go_enter Tryz.func60, Tryz.ntmps60
      go_wp2
      go_ret
      exact ⟨rfl, rfl⟩
set_option maxRecDepth 20000 in
theorem cIsVersion_any (k : Nat) (w : World) :
    Calls Tryz.prog 54 #[.int .u8 (k : Nat)] w fun e w' => e = .returned (.bool (decide (k = 1 ∨ k = 2))) ∧ w = w' := by
  by_cases h1 : k = 1
  · subst h1
    go_enter Tryz.func54, Tryz.ntmps54
    go_wp2
    go_ret
    exact ⟨rfl, rfl⟩
  · have e1 : (((k : Nat) : Int) == 1) = false := by simp; omega
    by_cases h2 : k = 2
    · subst h2
      go_enter Tryz.func54, Tryz.ntmps54
      go_wp2
      go_ret
      exact ⟨rfl, rfl⟩
    · have e2 : (((k : Nat) : Int) == 2) = false := by simp; omega
      rw [decide_eq_false (by omega)]
      clear h1 h2
      go_enter Tryz.func54, Tryz.ntmps54
      go_wp2
      go_ret
      exact ⟨rfl, rfl⟩
def fullE (v : Val) (kind : Nat) : Nat := if vErr v ≠ 0 then vErr v else if v.ty ≠ kind then 11 else 0
set_option maxRecDepth 20000 in
theorem rightFull_any (v : Val) (kind : Nat) (w : World) :
    Calls Tryz.prog 91 #[pv v, .int .u8 (kind : Nat)] w fun e w' => e = .returned (.int .i64 (fullE v kind : Nat)) ∧ Ext w w' := by
  have hr := fun w => vright_any v w
  unfold fullE
  generalize vErr v = E at *
  obtain ⟨k, n, re, im, t⟩ := v
  unfold pv pvals strV at *
  simp only at *
  generalize (⟨t.toArray⟩ : ByteArray) = A at *
  have HR := Lib.hid hr; clear hr
  have hg := heap_alloc_new w (.cells #[.int .u8 (k : Nat), .int .i64 n, .complex .f64 re im, .string A] 88)
  have hl := load_mid _ 88 w.heap.size 0 _ _ #[.int .u8 (k : Nat), .int .i64 n, .complex .f64 re im, .string A] _ hg (fun j v hv => by simpa using hv) Tryz.underlying88 rfl info61
  have hx0 : Ext w (w.alloc (.cells #[.int .u8 (k : Nat), .int .i64 n, .complex .f64 re im, .string A] 88)) := (Ch.refl _ _).alloc _
  have HX0 := Lib.hid hx0; have HG := Lib.hid hg; clear hx0 hg
  go_enter Tryz.func91, Tryz.ntmps91
  go_wp2_with fail
  refine (HR.out _).mono ?_
  rintro e w1 ⟨rfl, hx⟩
  have hc := hx.cell (p := ⟨w.heap.size, 0, none⟩) (fun f => f) _ (by rw [cell_of_row _ _ _ _ _ _ HG.out]; rfl)
  have HX := Lib.hid (HX0.out.trans hx); clear hx hl HX0 HG
  by_cases hE : E = 0
  · subst hE
    by_cases hk : k = kind
    · subst hk
      have e1 : (((k : Nat) : Int) != (k : Nat)) = false := by simp
      go_wp2
      go_ret
      exact ⟨by simp, HX.out⟩
    · have e1 : (((k : Nat) : Int) != (kind : Nat)) = true := by simp; omega
      have HK := Lib.hid hk; clear hk
      go_wp2
      go_ret
      exact ⟨by simp [HK.out], HX.out⟩
  · have e1 : (((E : Nat) : Int) != 0) = true := by simp; omega
    have HE := Lib.hid hE; clear hE
    go_wp2
    go_ret
    exact ⟨by simp [HE.out], HX.out⟩
end Go.Proofs.YtegclfpmgilnpaaGreat
