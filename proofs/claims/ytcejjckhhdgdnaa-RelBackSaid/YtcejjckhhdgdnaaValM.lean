/-
  Values and their bytes: the plain facts (layer 6): what is put is taken as it was, and from no other bytes; cut, bytes lack.
-/
import Derived.Test.YtcejjckhhdgdnaaPrimD
import Derived.Test.YtcejjckhhdgdnaaPrimE
import Derived.Test.YtcejjckhhdgdnaaPrimF
import Derived.Test.YtcejjckhhdgdnaaPrimH
namespace Go.Proofs.Ytcejjckhhdgdnaa
open Go.RowKit Go.Lac

/-! ### a number's bytes, the lowest first -/
def leN : Nat → Nat → List UInt8
  | 0, _ => []
  | n + 1, w => UInt8.ofNat (w % 256) :: leN n (w / 256)
theorem leN_length : ∀ n w, (leN n w).length = n
  | 0, _ => rfl
  | n + 1, w => by rw [leN, List.length_cons, leN_length]
theorem leN_snoc : ∀ n w, leN (n + 1) w = leN n w ++ [UInt8.ofNat (w / 256 ^ n % 256)]
  | 0, w => by simp [leN]
  | n + 1, w => by
    rw [leN, leN_snoc n, leN, List.cons_append, Nat.div_div_eq_div_mul, Nat.pow_succ, Nat.mul_comm 256]
theorem wordV_leN : ∀ n w, w < 256 ^ n → wordV (leN n w) = w
  | 0, w, h => by simp at h; subst h; rfl
  | n + 1, w, h => by
    rw [leN, wordV, wordV_leN n (w / 256) (by rw [Nat.div_lt_iff_lt_mul (by decide)]; rwa [Nat.pow_succ] at h), toNat_ofNat_lt (Nat.mod_lt _ (by decide))]
    omega
theorem leN_wordV : ∀ l : List UInt8, leN l.length (wordV l) = l
  | [] => rfl
  | b :: l => by
    have hb := UInt8.toNat_lt b
    have e1 : (b.toNat + 256 * wordV l) % 256 = b.toNat := by omega
    have e2 : (b.toNat + 256 * wordV l) / 256 = wordV l := by omega
    rw [wordV, List.length_cons, leN, e1, e2, leN_wordV l, UInt8.ofNat_toNat]
/-- A number with its 8 bytes turned round. -/
def rev8 (w : Nat) : Nat := wordV (leN 8 w).reverse
theorem wordV_lt8 {l : List UInt8} (h : l.length ≤ 8) : wordV l < 18446744073709551616 := by
  have h1 := wordV_lt l
  have h2 : 256 ^ l.length ≤ 256 ^ 8 := Nat.pow_le_pow_right (by decide) h
  exact Nat.lt_of_lt_of_le h1 h2
theorem rev8_lt (w : Nat) : rev8 w < 18446744073709551616 := wordV_lt8 (by rw [List.length_reverse, leN_length]; exact Nat.le_refl _)
theorem rev8_rev8 {w : Nat} (h : w < 18446744073709551616) : rev8 (rev8 w) = w := by
  unfold rev8
  have e : leN 8 (wordV (leN 8 w).reverse) = (leN 8 w).reverse := by
    have := leN_wordV (leN 8 w).reverse
    rwa [List.length_reverse, leN_length] at this
  rw [e, List.reverse_reverse, wordV_leN 8 w h]
theorem rev8_zero : rev8 0 = 0 := by decide
theorem rev8_eq_zero {w : Nat} (h : w < 18446744073709551616) : rev8 w = 0 ↔ w = 0 :=
  ⟨fun e => by rw [← rev8_rev8 h, e, rev8_zero], fun e => by rw [e, rev8_zero]⟩

/-! ### floats -/
def flt (ver w : Nat) : List UInt8 := if ver = 1 then leN 8 w else sev (rev8 w)
def fltR (ver : Nat) (s : RS) : Nat × RS := if ver = 1 then wordR s else (rev8 (uintR 18446744073709551615 s).1, (uintR 18446744073709551615 s).2)
theorem wordR_le (w : Nat) (rest : List UInt8) (h : w < 18446744073709551616) : wordR (leN 8 w ++ rest, 0) = (w, (rest, 0)) := by
  have := takeR_app (leN 8 w) rest 0
  rw [leN_length] at this
  unfold wordR
  rw [this, wordV_leN 8 w h]
theorem wordR_lt (s : RS) : (wordR s).1 < 18446744073709551616 := wordV_lt8 (takeR_length 8 s)
theorem wordR_inv (s : RS) (h : (wordR s).2.2 = 0) : s.1 = leN 8 (wordR s).1 ++ (wordR s).2.1 ∧ s.2 = 0 := by
  obtain ⟨h1, h2, h3⟩ := takeR_inv 8 s h
  refine ⟨?_, h3⟩
  have e := leN_wordV (takeR 8 s).1
  rw [h2] at e
  unfold wordR
  rw [e]
  exact h1
theorem takeR_short {n : Nat} {l : List UInt8} (h : l.length < n) : takeR n (l, 0) = ([], ([], 1)) := by
  unfold takeR
  rw [if_pos h]
  rfl
theorem takeR_gone {n : Nat} (h : 0 < n) : takeR n ([], 1) = ([], ([], 1)) := by
  unfold takeR
  simp [h, failR]
theorem uintR_gone (m : Nat) : uintR m ([], 1) = (0, ([], 1)) := by
  unfold uintR num numAt
  simp [failR]
theorem wordR_short {l : List UInt8} (h : l.length < 8) : wordR (l, 0) = (0, ([], 1)) := by unfold wordR; rw [takeR_short h]; rfl
theorem wordR_gone : wordR ([], 1) = (0, ([], 1)) := by unfold wordR; rw [takeR_gone (by decide)]; rfl
theorem byteR_cons (b : UInt8) (l : List UInt8) (e : Int) : byteR (b :: l, e) = (b.toNat, (l, e)) := by
  unfold byteR takeR
  simp
theorem byteR_nil : byteR ([], 0) = (0, ([], 1)) := by unfold byteR; rw [takeR_short (by decide)]
theorem byteR_inv (s : RS) (h : (byteR s).2.2 = 0) : s.1 = UInt8.ofNat (byteR s).1 :: (byteR s).2.1 ∧ s.2 = 0 ∧ (byteR s).1 < 256 := by
  obtain ⟨l, e⟩ := s
  cases l with
  | nil =>
    have : (byteR ([], e)).2.2 = (failR ([], e) 1).2 := by unfold byteR takeR; simp
    rw [this] at h
    exact absurd h (failR_ne _ _ (by decide))
  | cons b l =>
    rw [byteR_cons] at h ⊢
    exact ⟨by simp, h, UInt8.toNat_lt b⟩
theorem fltR_flt (ver w : Nat) (rest : List UInt8) (h : w < 18446744073709551616) : fltR ver (flt ver w ++ rest, 0) = (w, (rest, 0)) := by
  unfold fltR flt
  split
  · exact wordR_le w rest h
  · have := rev8_lt w
    rw [uintR_sev _ _ _ this, if_pos (by omega), rev8_rev8 h]
theorem fltR_lt (ver : Nat) (s : RS) : (fltR ver s).1 < 18446744073709551616 := by
  unfold fltR
  split
  · exact wordR_lt s
  · exact rev8_lt _
theorem fltR_inv (ver : Nat) (s : RS) (h : (fltR ver s).2.2 = 0) : s.1 = flt ver (fltR ver s).1 ++ (fltR ver s).2.1 ∧ s.2 = 0 := by
  unfold fltR at h ⊢
  unfold flt
  split
  · rename_i h1
    rw [if_pos h1] at h
    exact wordR_inv s h
  · rename_i h1
    rw [if_neg h1] at h
    obtain ⟨h2, h3⟩ := uintR_inv _ s h
    rw [rev8_rev8 (uintR_lt _ s)]
    exact ⟨h2, h3⟩
theorem fltR_cut (ver w k : Nat) (h : w < 18446744073709551616) (hk : k < (flt ver w).length) : fltR ver ((flt ver w).take k, 0) = (0, ([], 1)) := by
  unfold fltR flt at *
  split
  · rename_i h1
    rw [if_pos h1, leN_length] at hk
    exact wordR_short (by rw [List.length_take, leN_length]; omega)
  · rename_i h1
    rw [if_neg h1] at hk
    rw [uintR_cut _ _ _ (rev8_lt w) hk, rev8_zero]
theorem fltR_gone (ver : Nat) : fltR ver ([], 1) = (0, ([], 1)) := by
  unfold fltR
  split
  · exact wordR_gone
  · rw [uintR_gone, rev8_zero]

/-! ### values -/
structure Val where
  ty : Nat
  i : Int
  re : Nat
  im : Nat
  t : List UInt8
deriving DecidableEq
def Val.zero : Val := ⟨0, 0, 0, 0, []⟩
def Val.ok (v : Val) : Prop := v.ty < 256 ∧ -9223372036854775808 ≤ v.i ∧ v.i ≤ 9223372036854775807 ∧ v.re < 18446744073709551616 ∧ v.im < 18446744073709551616
def plainB (t : List UInt8) : Bool := t.all fun b => decide (32 ≤ b.toNat) && decide (b.toNat ≤ 126)
/-- What is wrong with a value: an error's number. -/
def vErr (v : Val) : Nat :=
  if v.ty < 1 ∨ 6 < v.ty then 11
  else if (2 < v.ty ∧ v.i ≠ 0) ∨ (v.ty ≠ 3 ∧ v.ty ≠ 4 ∧ v.re ≠ 0) ∨ (v.ty ≠ 4 ∧ v.im ≠ 0) ∨ (v.ty < 5 ∧ v.t ≠ []) then 3
  else if v.ty = 1 ∧ v.i ≠ 0 ∧ v.i ≠ 1 then 4
  else if 2048 < v.t.length then 2
  else if v.ty = 5 ∧ plainB v.t = false then 3
  else 0
theorem vErr_zero {v : Val} (h : vErr v = 0) : 1 ≤ v.ty ∧ v.ty ≤ 6 ∧ (2 < v.ty → v.i = 0) ∧ (v.ty ≠ 3 → v.ty ≠ 4 → v.re = 0) ∧ (v.ty ≠ 4 → v.im = 0) ∧ (v.ty < 5 → v.t = []) ∧ (v.ty = 1 → v.i = 0 ∨ v.i = 1) ∧ v.t.length ≤ 2048 ∧ (v.ty = 5 → plainB v.t = true) := by
  unfold vErr at h
  by_cases h1 : v.ty < 1 ∨ 6 < v.ty
  · rw [if_pos h1] at h; cases h
  rw [if_neg h1] at h
  by_cases h2 : (2 < v.ty ∧ v.i ≠ 0) ∨ (v.ty ≠ 3 ∧ v.ty ≠ 4 ∧ v.re ≠ 0) ∨ (v.ty ≠ 4 ∧ v.im ≠ 0) ∨ (v.ty < 5 ∧ v.t ≠ [])
  · rw [if_pos h2] at h; cases h
  rw [if_neg h2] at h
  by_cases h3 : v.ty = 1 ∧ v.i ≠ 0 ∧ v.i ≠ 1
  · rw [if_pos h3] at h; cases h
  rw [if_neg h3] at h
  by_cases h4 : 2048 < v.t.length
  · rw [if_pos h4] at h; cases h
  rw [if_neg h4] at h
  by_cases h5 : v.ty = 5 ∧ plainB v.t = false
  · rw [if_pos h5] at h; cases h
  refine ⟨by omega, by omega, fun a => ?_, fun a b => ?_, fun a => ?_, fun a => ?_, fun a => ?_, by omega, fun a => ?_⟩
  · exact Decidable.byContradiction fun c => h2 (.inl ⟨a, c⟩)
  · exact Decidable.byContradiction fun c => h2 (.inr (.inl ⟨a, b, c⟩))
  · exact Decidable.byContradiction fun c => h2 (.inr (.inr (.inl ⟨a, c⟩)))
  · exact Decidable.byContradiction fun c => h2 (.inr (.inr (.inr ⟨a, c⟩)))
  · exact Decidable.byContradiction fun c => h3 ⟨a, fun d => c (.inl d), fun d => c (.inr d)⟩
  · exact Decidable.byContradiction fun c => h5 ⟨a, by simpa using c⟩
/-- An int as a number without a sign, and back. -/
def i64u (i : Int) : Nat := (i % 18446744073709551616).toNat
def u64i (u : Nat) : Int := if u < 9223372036854775808 then (u : Int) else (u : Int) - 18446744073709551616
theorem i64u_lt (i : Int) : i64u i < 18446744073709551616 := by unfold i64u; omega
theorem u64i_i64u {i : Int} (h0 : -9223372036854775808 ≤ i) (h1 : i ≤ 9223372036854775807) : u64i (i64u i) = i := by unfold u64i i64u; split <;> omega
theorem i64u_u64i {u : Nat} (h : u < 18446744073709551616) : i64u (u64i u) = u := by unfold u64i i64u; split <;> omega
theorem u64i_bd {u : Nat} (h : u < 18446744073709551616) : -9223372036854775808 ≤ u64i u ∧ u64i u ≤ 9223372036854775807 := by unfold u64i; split <;> omega

def partB (w : Nat) : List UInt8 := if w = 0 then [] else flt 2 w
def cplxM (re im : Nat) : Nat := (if re = 0 then 0 else 1) + (if im = 0 then 0 else 2)
def cplx (re im : Nat) : List UInt8 := UInt8.ofNat (cplxM re im) :: (partB re ++ partB im)
/-- The bytes of a value. -/
def vBytes (ver : Nat) (v : Val) : List UInt8 :=
  if v.ty = 1 then [UInt8.ofNat v.i.toNat]
  else if v.ty = 2 then (if ver = 1 then leN 8 (i64u v.i) else sev (Lib.zigzag v.i))
  else if v.ty = 3 then flt ver v.re
  else if v.ty = 4 then (if ver = 1 then leN 8 v.re ++ leN 8 v.im else cplx v.re v.im)
  else txt v.t
def partR (there : Bool) (s : RS) : Nat × RS :=
  if there = true then ((fltR 2 s).1, if (fltR 2 s).1 = 0 then failR (fltR 2 s).2 3 else (fltR 2 s).2) else (0, s)
def cplxR (s : RS) : (Nat × Nat) × RS :=
  let m := byteR s
  let s1 := if 3 < m.1 then failR m.2 4 else m.2
  let r := partR (decide (m.1 % 2 = 1)) s1
  let q := partR (decide (m.1 / 2 % 2 = 1)) r.2
  ((r.1, q.1), q.2)
/-- A value of a type, as it comes. -/
def rawR (ver k : Nat) (s : RS) : Val × RS :=
  if k = 1 then (⟨k, ((byteR s).1 : Int), 0, 0, []⟩, (byteR s).2)
  else if k = 2 then (if ver = 1 then (⟨k, u64i (wordR s).1, 0, 0, []⟩, (wordR s).2) else (⟨k, (intR s).1, 0, 0, []⟩, (intR s).2))
  else if k = 3 then (⟨k, 0, (fltR ver s).1, 0, []⟩, (fltR ver s).2)
  else if k = 4 then (if ver = 1 then (⟨k, 0, (wordR s).1, (wordR (wordR s).2).1, []⟩, (wordR (wordR s).2).2) else (⟨k, 0, (cplxR s).1.1, (cplxR s).1.2, []⟩, (cplxR s).2))
  else if k = 5 ∨ k = 6 then (⟨k, 0, 0, 0, (textR 2048 s).1⟩, (textR 2048 s).2)
  else (⟨k, 0, 0, 0, []⟩, s)
/-- The next value of a type. -/
def vTake (ver k : Nat) (s : RS) : Val × RS :=
  if ver ≠ 1 ∧ ver ≠ 2 then (.zero, failR s 18)
  else if (failR (rawR ver k s).2 (vErr (rawR ver k s).1 : Nat)).2 ≠ 0 then (.zero, failR (rawR ver k s).2 (vErr (rawR ver k s).1 : Nat))
  else ((rawR ver k s).1, failR (rawR ver k s).2 (vErr (rawR ver k s).1 : Nat))

theorem partR_put (w : Nat) (rest : List UInt8) (h : w < 18446744073709551616) : partR (decide (w ≠ 0)) (partB w ++ rest, 0) = (w, (rest, 0)) := by
  unfold partR partB
  by_cases h0 : w = 0
  · simp [h0]
  · rw [if_pos (by simpa using h0), if_neg h0, fltR_flt 2 w rest h, if_neg h0]
theorem cplxM_lt (re im : Nat) : cplxM re im ≤ 3 := by unfold cplxM; split <;> split <;> omega
theorem cplxM_re (re im : Nat) : decide (cplxM re im % 2 = 1) = decide (re ≠ 0) := by unfold cplxM; split <;> split <;> simp_all
theorem cplxM_im (re im : Nat) : decide (cplxM re im / 2 % 2 = 1) = decide (im ≠ 0) := by unfold cplxM; split <;> split <;> simp_all
theorem cplxR_put (re im : Nat) (rest : List UInt8) (h : re < 18446744073709551616) (h' : im < 18446744073709551616) : cplxR (cplx re im ++ rest, 0) = ((re, im), (rest, 0)) := by
  unfold cplxR cplx
  have hm := cplxM_lt re im
  rw [List.cons_append, byteR_cons, toNat_ofNat_lt (by omega), List.append_assoc]
  simp only
  rw [if_neg (by omega), cplxM_re, cplxM_im, partR_put re _ h]
  simp only
  rw [partR_put im _ h']
theorem rawR_put {ver : Nat} {v : Val} (rest : List UInt8) (hv : v.ok) (h : vErr v = 0) : rawR ver v.ty (vBytes ver v ++ rest, 0) = (v, (rest, 0)) := by
  obtain ⟨e1, e2, e3, e4, e5, e6, e7, e8, e9⟩ := vErr_zero h
  obtain ⟨o1, o2, o3, o4, o5⟩ := hv
  obtain ⟨k, i, re, im, t⟩ := v
  simp only at *
  unfold rawR vBytes
  simp only
  by_cases k1 : k = 1
  · rw [if_pos k1, if_pos k1]
    have r0 := e4 (by omega) (by omega); have r1 := e5 (by omega); have r2 := e6 (by omega)
    subst r0 r1 r2
    rcases e7 k1 with rfl | rfl
    · rw [List.singleton_append, byteR_cons]; rfl
    · rw [List.singleton_append, byteR_cons]; rfl
  rw [if_neg k1, if_neg k1]
  by_cases k2 : k = 2
  · rw [if_pos k2, if_pos k2]
    have r0 := e4 (by omega) (by omega); have r1 := e5 (by omega); have r2 := e6 (by omega)
    subst r0 r1 r2
    split
    · rw [wordR_le _ _ (i64u_lt i), u64i_i64u o2 o3]
    · rw [intR_sev i rest o2 o3]
  rw [if_neg k2, if_neg k2]
  have r3 := e3 (by omega)
  subst r3
  by_cases k3 : k = 3
  · rw [if_pos k3, if_pos k3]
    have r1 := e5 (by omega); have r2 := e6 (by omega)
    subst r1 r2
    rw [fltR_flt ver re rest o4]
  rw [if_neg k3, if_neg k3]
  by_cases k4 : k = 4
  · rw [if_pos k4, if_pos k4]
    have r2 := e6 (by omega)
    subst r2
    split
    · rw [List.append_assoc, wordR_le _ _ o4]
      simp only
      rw [wordR_le _ _ o5]
    · rw [cplxR_put re im rest o4 o5]
  rw [if_neg k4, if_neg k4, if_pos (by omega)]
  have r0 := e4 k3 k4; have r1 := e5 k4
  subst r0 r1
  rw [textR_txt 2048 t rest (by omega), if_pos e8]
/-- WHAT IS PUT IS TAKEN AS IT WAS. -/
theorem vTake_put {ver : Nat} {v : Val} (rest : List UInt8) (hver : ver = 1 ∨ ver = 2) (hv : v.ok) (h : vErr v = 0) : vTake ver v.ty (vBytes ver v ++ rest, 0) = (v, (rest, 0)) := by
  have hf : failR (rest, 0) ((0 : Nat) : Int) = (rest, 0) := by unfold failR; simp
  unfold vTake
  rw [if_neg (by omega), rawR_put rest hv h]
  simp only
  rw [h, hf, if_neg (by simp)]
/-- NO TWO VALUES OF ONE TYPE HAVE THE SAME BYTES. -/
theorem vBytes_inj {ver : Nat} {v u : Val} (hver : ver = 1 ∨ ver = 2) (hv : v.ok) (hu : u.ok) (h : vErr v = 0) (h' : vErr u = 0) (ht : v.ty = u.ty) (he : vBytes ver v = vBytes ver u) : v = u := by
  have a := vTake_put [] hver hv h
  have b := vTake_put [] hver hu h'
  rw [ht, he, b] at a
  exact (congrArg Prod.fst a).symm

theorem partR_err (th : Bool) (s : RS) (h : s.2 ≠ 0) : (partR th s).2.2 ≠ 0 := by
  unfold partR
  split
  · have h1 : (fltR 2 s).2.2 ≠ 0 := by unfold fltR; rw [if_neg (by decide)]; exact uintR_err _ s h
    split
    · rw [failR_err _ _ h1]; exact h1
    · exact h1
  · exact h
theorem partR_inv (th : Bool) (s : RS) (h : (partR th s).2.2 = 0) : s.1 = partB (partR th s).1 ++ (partR th s).2.1 ∧ s.2 = 0 ∧ decide ((partR th s).1 ≠ 0) = th ∧ (partR th s).1 < 18446744073709551616 := by
  unfold partR at h ⊢
  by_cases ht : th = true
  · rw [if_pos ht] at h ⊢
    simp only at h ⊢
    by_cases h0 : (fltR 2 s).1 = 0
    · rw [if_pos h0] at h
      exact absurd h (failR_ne _ _ (by decide))
    · rw [if_neg h0] at h ⊢
      obtain ⟨h1, h2⟩ := fltR_inv 2 s h
      unfold partB
      rw [if_neg h0]
      exact ⟨h1, h2, by rw [ht]; simpa using h0, fltR_lt 2 s⟩
  · rw [if_neg ht] at h ⊢
    exact ⟨rfl, h, by simp at ht; rw [ht]; rfl, Nat.zero_lt_succ _⟩
theorem cplxR_inv (s : RS) (h : (cplxR s).2.2 = 0) : s.1 = cplx (cplxR s).1.1 (cplxR s).1.2 ++ (cplxR s).2.1 ∧ s.2 = 0 ∧ (cplxR s).1.1 < 18446744073709551616 ∧ (cplxR s).1.2 < 18446744073709551616 := by
  unfold cplxR at h ⊢
  simp only at h ⊢
  by_cases hm : 3 < (byteR s).1
  · rw [if_pos hm] at h
    have h1 : (failR (byteR s).2 4).2 ≠ 0 := failR_ne _ _ (by decide)
    exact absurd h (partR_err _ _ (partR_err _ _ h1))
  · rw [if_neg hm] at h ⊢
    obtain ⟨q1, q2, q3, q4⟩ := partR_inv _ _ h
    obtain ⟨p1, p2, p3, p4⟩ := partR_inv _ _ q2
    obtain ⟨b1, b2, b3⟩ := byteR_inv s p2
    refine ⟨?_, b2, p4, q4⟩
    generalize hre : (partR (decide ((byteR s).1 % 2 = 1)) (byteR s).2) = r at *
    generalize hr2 : (partR (decide ((byteR s).1 / 2 % 2 = 1)) r.2) = q at *
    generalize (byteR s).1 = m at *
    have hmm : cplxM r.1 q.1 = m := by
      unfold cplxM
      by_cases c1 : r.1 = 0
      · have d1 : ¬ m % 2 = 1 := by simpa [c1] using p3
        by_cases c2 : q.1 = 0
        · have d2 : ¬ m / 2 % 2 = 1 := by simpa [c2] using q3
          rw [if_pos c1, if_pos c2]; omega
        · have d2 : m / 2 % 2 = 1 := by simpa [c2] using q3
          rw [if_pos c1, if_neg c2]; omega
      · have d1 : m % 2 = 1 := by simpa [c1] using p3
        by_cases c2 : q.1 = 0
        · have d2 : ¬ m / 2 % 2 = 1 := by simpa [c2] using q3
          rw [if_neg c1, if_pos c2]; omega
        · have d2 : m / 2 % 2 = 1 := by simpa [c2] using q3
          rw [if_neg c1, if_neg c2]; omega
    unfold cplx
    rw [hmm, b1, p1, q1, List.cons_append, List.append_assoc]
theorem intR_inv (s : RS) (h : (intR s).2.2 = 0) : s.1 = sev (Lib.zigzag (intR s).1) ++ (intR s).2.1 ∧ s.2 = 0 ∧ -9223372036854775808 ≤ (intR s).1 ∧ (intR s).1 ≤ 9223372036854775807 := by
  obtain ⟨h1, h2⟩ := uintR_inv _ s h
  have hb := uintR_lt 18446744073709551615 s
  unfold intR
  simp only
  rw [zig_zag]
  refine ⟨h1, h2, ?_⟩
  unfold zag
  split <;> omega
theorem rawR_inv {ver k : Nat} {s : RS} (hk : k < 256) (h : (rawR ver k s).2.2 = 0) (he : vErr (rawR ver k s).1 = 0) :
    s.1 = vBytes ver (rawR ver k s).1 ++ (rawR ver k s).2.1 ∧ s.2 = 0 ∧ (rawR ver k s).1.ty = k ∧ (rawR ver k s).1.ok := by
  unfold rawR at h he ⊢
  by_cases k1 : k = 1
  · simp only [if_pos k1] at h he ⊢
    obtain ⟨b1, b2, b3⟩ := byteR_inv s h
    refine ⟨?_, b2, by trivial, by unfold Val.ok; simp only; omega⟩
    unfold vBytes
    simp only [if_pos k1]
    rw [Int.toNat_natCast, List.singleton_append]
    exact b1
  simp only [if_neg k1] at h he ⊢
  by_cases k2 : k = 2
  · simp only [if_pos k2] at h he ⊢
    by_cases hv : ver = 1
    · simp only [if_pos hv] at h he ⊢
      obtain ⟨b1, b2⟩ := wordR_inv s h
      have hl := wordR_lt s
      have hb := u64i_bd hl
      refine ⟨?_, b2, by trivial, by unfold Val.ok; simp only; omega⟩
      unfold vBytes
      simp only [if_neg k1, if_pos k2, if_pos hv]
      rw [i64u_u64i hl]
      exact b1
    · simp only [if_neg hv] at h he ⊢
      obtain ⟨b1, b2, b3, b4⟩ := intR_inv s h
      refine ⟨?_, b2, by trivial, by unfold Val.ok; simp only; omega⟩
      unfold vBytes
      simp only [if_neg k1, if_pos k2, if_neg hv]
      exact b1
  simp only [if_neg k2] at h he ⊢
  by_cases k3 : k = 3
  · simp only [if_pos k3] at h he ⊢
    obtain ⟨b1, b2⟩ := fltR_inv ver s h
    have hl := fltR_lt ver s
    refine ⟨?_, b2, by trivial, by unfold Val.ok; simp only; omega⟩
    unfold vBytes
    simp only [if_neg k1, if_neg k2, if_pos k3]
    exact b1
  simp only [if_neg k3] at h he ⊢
  by_cases k4 : k = 4
  · simp only [if_pos k4] at h he ⊢
    by_cases hv : ver = 1
    · simp only [if_pos hv] at h he ⊢
      obtain ⟨c1, c2⟩ := wordR_inv _ h
      obtain ⟨b1, b2⟩ := wordR_inv s c2
      have hl := wordR_lt s
      have hl' := wordR_lt (wordR s).2
      refine ⟨?_, b2, by trivial, by unfold Val.ok; simp only; omega⟩
      unfold vBytes
      simp only [if_neg k1, if_neg k2, if_neg k3, if_pos k4, if_pos hv]
      rw [List.append_assoc, ← c1]
      exact b1
    · simp only [if_neg hv] at h he ⊢
      obtain ⟨b1, b2, b3, b4⟩ := cplxR_inv s h
      refine ⟨?_, b2, by trivial, by unfold Val.ok; simp only; omega⟩
      unfold vBytes
      simp only [if_neg k1, if_neg k2, if_neg k3, if_pos k4, if_neg hv]
      exact b1
  simp only [if_neg k4] at h he ⊢
  by_cases k5 : k = 5 ∨ k = 6
  · simp only [if_pos k5] at h he ⊢
    obtain ⟨b1, b2⟩ := textR_inv 2048 s h
    refine ⟨?_, b2, by trivial, by unfold Val.ok; simp only; omega⟩
    unfold vBytes
    simp only [if_neg k1, if_neg k2, if_neg k3, if_neg k4]
    exact b1
  · simp only [if_neg k5] at he
    have := vErr_zero he
    simp only at this
    omega
/-- AND FROM NO OTHER BYTES. -/
theorem vTake_inv {ver k : Nat} {s : RS} (hk : k < 256) (h : (vTake ver k s).2.2 = 0) :
    (ver = 1 ∨ ver = 2) ∧ s.1 = vBytes ver (vTake ver k s).1 ++ (vTake ver k s).2.1 ∧ s.2 = 0 ∧ (vTake ver k s).1.ty = k ∧ (vTake ver k s).1.ok ∧ vErr (vTake ver k s).1 = 0 := by
  unfold vTake at h ⊢
  by_cases hv : ver ≠ 1 ∧ ver ≠ 2
  · rw [if_pos hv] at h
    exact absurd h (failR_ne _ _ (by decide))
  rw [if_neg hv] at h ⊢
  by_cases hb : (failR (rawR ver k s).2 (vErr (rawR ver k s).1 : Nat)).2 ≠ 0
  · rw [if_pos hb] at h
    exact absurd h hb
  rw [if_neg hb]
  have he : vErr (rawR ver k s).1 = 0 := by
    refine Decidable.byContradiction fun c => hb (failR_ne _ _ (by omega))
  have hf : failR (rawR ver k s).2 ((vErr (rawR ver k s).1 : Nat) : Int) = (rawR ver k s).2 := by rw [he]; unfold failR; simp
  rw [hf] at hb ⊢
  obtain ⟨h1, h2, h3, h4⟩ := rawR_inv hk (Decidable.not_not.1 hb) he
  exact ⟨by omega, h1, h2, h3, h4, he⟩

/-! ### cut -/
theorem partR_cut (w k : Nat) (h : w < 18446744073709551616) (hk : k < (partB w).length) : partR (decide (w ≠ 0)) ((partB w).take k, 0) = (0, ([], 1)) := by
  unfold partB at *
  by_cases h0 : w = 0
  · rw [if_pos h0] at hk; exact absurd hk (Nat.not_lt_zero _)
  · rw [if_neg h0] at hk ⊢
    unfold partR
    rw [if_pos (by simpa using h0), fltR_cut 2 w k h hk]
    rfl
theorem partR_gone (th : Bool) : partR th ([], 1) = (0, ([], 1)) := by
  unfold partR
  split
  · rw [fltR_gone]; rfl
  · rfl
theorem cplxR_cut (re im k : Nat) (h : re < 18446744073709551616) (h' : im < 18446744073709551616) (hk : k < (cplx re im).length) : cplxR ((cplx re im).take k, 0) = ((0, 0), ([], 1)) ∨ cplxR ((cplx re im).take k, 0) = ((re, 0), ([], 1)) := by
  have hm := cplxM_lt re im
  unfold cplx at hk ⊢
  unfold cplxR
  cases k with
  | zero =>
    left
    rw [List.take_zero, byteR_nil]
    simp only
    rw [if_neg (by decide), partR_gone]
    simp only
    rw [partR_gone]
  | succ k =>
    rw [List.take_succ_cons, byteR_cons, toNat_ofNat_lt (by omega)]
    simp only
    rw [if_neg (by omega), cplxM_re, cplxM_im]
    rw [List.length_cons, List.length_append] at hk
    by_cases c : k < (partB re).length
    · left
      rw [List.take_append_of_le_length (by omega), partR_cut re k h c]
      simp only
      rw [partR_gone]
    · right
      have e : (partB re ++ partB im).take k = partB re ++ (partB im).take (k - (partB re).length) := by
        rw [List.take_append, List.take_of_length_le (by omega)]
      rw [e, partR_put re _ h]
      simp only
      rw [partR_cut im _ h' (by omega)]
theorem rawR_cut {ver k : Nat} {v : Val} (hv : v.ok) (h : vErr v = 0) (hk : k < (vBytes ver v).length) : (rawR ver v.ty ((vBytes ver v).take k, 0)).2 = ([], 1) := by
  obtain ⟨e1, e2, e3, e4, e5, e6, e7, e8, e9⟩ := vErr_zero h
  obtain ⟨o1, o2, o3, o4, o5⟩ := hv
  obtain ⟨ty, i, re, im, t⟩ := v
  simp only at *
  unfold vBytes at hk ⊢
  unfold rawR
  simp only at hk ⊢
  by_cases k1 : ty = 1
  · simp only [if_pos k1] at hk ⊢
    rw [List.length_singleton] at hk
    obtain rfl : k = 0 := by omega
    rw [List.take_zero, byteR_nil]
  simp only [if_neg k1] at hk ⊢
  by_cases k2 : ty = 2
  · simp only [if_pos k2] at hk ⊢
    by_cases hv : ver = 1
    · simp only [if_pos hv] at hk ⊢
      rw [leN_length] at hk
      rw [wordR_short (by rw [List.length_take, leN_length]; omega)]
    · simp only [if_neg hv] at hk ⊢
      unfold intR
      rw [uintR_cut _ _ _ (zig_lt i o2 o3) hk]
  simp only [if_neg k2] at hk ⊢
  by_cases k3 : ty = 3
  · simp only [if_pos k3] at hk ⊢
    rw [fltR_cut ver re k o4 hk]
  simp only [if_neg k3] at hk ⊢
  by_cases k4 : ty = 4
  · simp only [if_pos k4] at hk ⊢
    by_cases hv : ver = 1
    · simp only [if_pos hv] at hk ⊢
      rw [List.length_append, leN_length, leN_length] at hk
      by_cases c : k < 8
      · rw [List.take_append_of_le_length (by rw [leN_length]; omega), wordR_short (by rw [List.length_take, leN_length]; omega)]
        simp only
        rw [wordR_gone]
      · have e : (leN 8 re ++ leN 8 im).take k = leN 8 re ++ (leN 8 im).take (k - 8) := by
          rw [List.take_append, List.take_of_length_le (by rw [leN_length]; omega), leN_length]
        rw [e, wordR_le _ _ o4]
        simp only
        rw [wordR_short (by rw [List.length_take, leN_length]; omega)]
    · simp only [if_neg hv] at hk ⊢
      rcases cplxR_cut re im k o4 o5 hk with e | e <;> rw [e]
  simp only [if_neg k4] at hk ⊢
  simp only [if_pos (show ty = 5 ∨ ty = 6 by omega)]
  rw [textR_cut 2048 k t (by omega) e8 hk]
/-- CUT ANYWHERE a value is too short. -/
theorem vTake_cut {ver k : Nat} {v : Val} (hver : ver = 1 ∨ ver = 2) (hv : v.ok) (h : vErr v = 0) (hk : k < (vBytes ver v).length) : vTake ver v.ty ((vBytes ver v).take k, 0) = (.zero, ([], 1)) := by
  have hr := rawR_cut hv h hk
  unfold vTake
  rw [if_neg (by omega), hr, failR_err _ _ (by decide), if_pos (by decide)]
theorem vBytes_pos {ver : Nat} {v : Val} (h : vErr v = 0) : 0 < (vBytes ver v).length := by
  unfold vBytes
  have hs : ∀ n, 0 < (sev n).length := fun n => by
    by_cases c : n < 128
    · rw [sev_small c]; exact Nat.zero_lt_one
    · rw [sev_big c]; exact Nat.succ_pos _
  split
  · exact Nat.zero_lt_one
  split
  · split
    · rw [leN_length]; decide
    · exact hs _
  split
  · unfold flt; split
    · rw [leN_length]; decide
    · exact hs _
  split
  · split
    · rw [List.length_append, leN_length]; omega
    · exact Nat.succ_pos _
  · unfold txt; rw [List.length_append]; have := hs v.t.length; omega
end Go.Proofs.Ytcejjckhhdgdnaa
