/-
  Relations as plain mathematics: what is wrong with one, its bytes, taken back.
-/
import Derived.Test.YtcejjckhhdgdnaaRelA
import Derived.Test.YtcejjckhhdgdnaaTakC
namespace Go.Proofs.Ytcejjckhhdgdnaa
open Go.RowKit Go.Lac

structure Col where
  name : List UInt8
  ty : Nat
  key : Bool
deriving DecidableEq
structure Rl where
  oid : Nat
  ver : Nat
  name : List UInt8
  ident : Nat
  cols : List Col
deriving DecidableEq
def Rl.zero : Rl := ⟨0, 0, [], 0, []⟩
def Col.ok (c : Col) : Prop := c.ty < 256
def Rl.ok (r : Rl) : Prop := r.oid < 4294967296 ∧ r.ver < 4294967296 ∧ r.ident < 256 ∧ ∀ c ∈ r.cols, c.ok
/-- What is wrong with a column behind others. -/
def colErr (ahead : List Col) (c : Col) : Nat :=
  if ¬ NameOk c.name then 3 else if ∃ o ∈ ahead, o.name = c.name then 9 else if c.ty < 1 ∨ 6 < c.ty then 11 else 0
def colsErr (ahead : List Col) : List Col → Nat
  | [] => 0
  | c :: l => if colErr ahead c ≠ 0 then colErr ahead c else colsErr (ahead ++ [c]) l
def rlErr (r : Rl) : Nat :=
  if r.oid = 0 ∨ r.ver = 0 then 4 else if ¬ NameOk r.name then 3 else if 2 < r.ident then 7
  else if r.cols.length = 0 ∨ 16 < r.cols.length then 17 else if colsErr [] r.cols ≠ 0 then colsErr [] r.cols
  else if r.ident = 1 ∧ ¬ (∃ c ∈ r.cols, c.key = true) then 13 else 0
def colForm (c : Col) : Nat := if c.key = true then c.ty + 128 else c.ty
def colB (c : Col) : List UInt8 := txt c.name ++ [UInt8.ofNat (colForm c)]
def rlBytes (r : Rl) : List UInt8 := sev r.oid ++ sev r.ver ++ txt r.name ++ [UInt8.ofNat r.ident] ++ sev r.cols.length ++ r.cols.flatMap colB
def colR (s : RS) : Col × RS := (⟨(textR 31 s).1, (byteR (textR 31 s).2).1 % 128, decide (128 ≤ (byteR (textR 31 s).2).1)⟩, (byteR (textR 31 s).2).2)
def colsR : Nat → RS → List Col × RS
  | 0, s => ([], s)
  | n + 1, s => ((colR s).1 :: (colsR n (colR s).2).1, (colsR n (colR s).2).2)
def rl1 (s : RS) : Nat × RS := uintR 4294967295 s
def rlR (s : RS) : Rl × RS :=
  (⟨(rl1 s).1, (rl1 (rl1 s).2).1, (textR 31 (rl1 (rl1 s).2).2).1, (byteR (textR 31 (rl1 (rl1 s).2).2).2).1,
    (colsR (uintR 16 (byteR (textR 31 (rl1 (rl1 s).2).2).2).2).1 (uintR 16 (byteR (textR 31 (rl1 (rl1 s).2).2).2).2).2).1⟩,
    (colsR (uintR 16 (byteR (textR 31 (rl1 (rl1 s).2).2).2).2).1 (uintR 16 (byteR (textR 31 (rl1 (rl1 s).2).2).2).2).2).2)
/-- Decode. -/
def rlDec (b : List UInt8) : Rl × Int :=
  if endR (rlR (b, 0)).2 ≠ 0 then (.zero, endR (rlR (b, 0)).2) else if rlErr (rlR (b, 0)).1 ≠ 0 then (.zero, (rlErr (rlR (b, 0)).1 : Nat)) else ((rlR (b, 0)).1, 0)

theorem colErr_zero {ahead : List Col} {c : Col} (h : colErr ahead c = 0) : NameOk c.name ∧ 1 ≤ c.ty ∧ c.ty ≤ 6 := by
  unfold colErr at h
  split at h
  · cases h
  rename_i h1
  split at h
  · cases h
  split at h
  · cases h
  rename_i h3
  exact ⟨Decidable.byContradiction h1, by omega, by omega⟩
theorem colsErr_zero : ∀ (l ahead : List Col), colsErr ahead l = 0 → ∀ c ∈ l, NameOk c.name ∧ 1 ≤ c.ty ∧ c.ty ≤ 6
  | [], _, _, c, hc => by cases hc
  | x :: l, ahead, h, c, hc => by
    unfold colsErr at h
    split at h
    · rename_i h1; exact absurd h h1
    · rename_i h1
      rcases List.mem_cons.1 hc with rfl | hc
      · exact colErr_zero (ahead := ahead) (by omega)
      · exact colsErr_zero l _ h c hc
theorem rlErr_zero {r : Rl} (h : rlErr r = 0) : r.oid ≠ 0 ∧ r.ver ≠ 0 ∧ NameOk r.name ∧ r.ident ≤ 2 ∧ 1 ≤ r.cols.length ∧ r.cols.length ≤ 16 ∧ colsErr [] r.cols = 0 ∧ (r.ident = 1 → ∃ c ∈ r.cols, c.key = true) := by
  unfold rlErr at h
  split at h
  · cases h
  rename_i h1
  split at h
  · cases h
  rename_i h2
  split at h
  · cases h
  rename_i h3
  split at h
  · cases h
  rename_i h4
  split at h
  · rename_i h5; exact absurd h h5
  rename_i h5
  split at h
  · cases h
  rename_i h6
  exact ⟨fun e => h1 (.inl e), fun e => h1 (.inr e), Decidable.byContradiction h2, by omega, by omega, by omega, by omega, fun e => Decidable.byContradiction fun g => h6 ⟨e, g⟩⟩
theorem colR_put {c : Col} (rest : List UInt8) (hn : NameOk c.name) (ht : c.ty ≤ 6) : colR (colB c ++ rest, 0) = (c, (rest, 0)) := by
  have hl : c.name.length ≤ 31 := hn.2.1
  have h1 : textR 31 (colB c ++ rest, 0) = (c.name, (UInt8.ofNat (colForm c) :: rest, 0)) := by
    unfold colB
    rw [List.append_assoc, textR_txt 31 c.name _ (by omega), if_pos hl]
    rfl
  unfold colR
  rw [h1]
  simp only
  rw [byteR_cons]
  obtain ⟨nm, ty, key⟩ := c
  unfold colForm
  simp only at *
  cases key with
  | true =>
    have : (UInt8.ofNat (ty + 128)).toNat = ty + 128 := by simp; omega
    simp [this]
    omega
  | false =>
    have : (UInt8.ofNat ty).toNat = ty := by simp; omega
    simp [this]
    omega
theorem colsR_put : ∀ (l : List Col) (rest : List UInt8), (∀ c ∈ l, NameOk c.name ∧ 1 ≤ c.ty ∧ c.ty ≤ 6) → colsR l.length (l.flatMap colB ++ rest, 0) = (l, (rest, 0))
  | [], rest, _ => by simp [colsR]
  | c :: l, rest, h => by
    have hc := h c (List.mem_cons_self ..)
    rw [List.length_cons, colsR, List.flatMap_cons, List.append_assoc, colR_put _ hc.1 hc.2.2]
    simp only
    rw [colsR_put l rest fun x hx => h x (List.mem_cons_of_mem _ hx)]
/-- WHAT IS ENCODED IS TAKEN. -/
theorem rlR_put {r : Rl} (rest : List UInt8) (hok : r.ok) (h : rlErr r = 0) : rlR (rlBytes r ++ rest, 0) = (r, (rest, 0)) := by
  obtain ⟨e1, e2, e3, e4, e5, e6, e7, e8⟩ := rlErr_zero h
  have hcs := colsErr_zero _ _ e7
  obtain ⟨oid, ver, nm, ident, cols⟩ := r
  simp only at *
  obtain ⟨o1, o2, o3, o4⟩ := hok
  simp only at o1 o2 o3
  have hl : nm.length ≤ 31 := e3.2.1
  have hb : rlBytes ⟨oid, ver, nm, ident, cols⟩ ++ rest = sev oid ++ (sev ver ++ (txt nm ++ (UInt8.ofNat ident :: (sev cols.length ++ (cols.flatMap colB ++ rest))))) := by simp [rlBytes]
  have a1 : rl1 (rlBytes ⟨oid, ver, nm, ident, cols⟩ ++ rest, 0) = (oid, (sev ver ++ (txt nm ++ (UInt8.ofNat ident :: (sev cols.length ++ (cols.flatMap colB ++ rest)))), 0)) := by
    unfold rl1; rw [hb, uintR_sev _ _ _ (by omega), if_pos (by omega)]
  have a2 : rl1 (sev ver ++ (txt nm ++ (UInt8.ofNat ident :: (sev cols.length ++ (cols.flatMap colB ++ rest)))), 0) = (ver, (txt nm ++ (UInt8.ofNat ident :: (sev cols.length ++ (cols.flatMap colB ++ rest))), 0)) := by
    unfold rl1; rw [uintR_sev _ _ _ (by omega), if_pos (by omega)]
  have a3 : textR 31 (txt nm ++ (UInt8.ofNat ident :: (sev cols.length ++ (cols.flatMap colB ++ rest))), 0) = (nm, (UInt8.ofNat ident :: (sev cols.length ++ (cols.flatMap colB ++ rest)), 0)) := by
    rw [textR_txt 31 nm _ (by omega), if_pos hl]
  have a5 : uintR 16 (sev cols.length ++ (cols.flatMap colB ++ rest), 0) = (cols.length, (cols.flatMap colB ++ rest, 0)) := by
    rw [uintR_sev _ _ _ (by omega), if_pos (by omega)]
  have hi : (UInt8.ofNat ident).toNat = ident := by simp; omega
  unfold rlR
  simp only [a1, a2, a3, byteR_cons, a5, colsR_put cols rest hcs, hi]
theorem colR_inv {s : RS} (h : (colR s).2.2 = 0) : s.1 = colB (colR s).1 ++ (colR s).2.1 ∧ s.2 = 0 := by
  unfold colR at h ⊢
  simp only at h ⊢
  obtain ⟨b1, b2, b3⟩ := byteR_inv _ h
  obtain ⟨t1, t2⟩ := textR_inv 31 s b2
  refine ⟨?_, t2⟩
  have hf : colForm ⟨(textR 31 s).1, (byteR (textR 31 s).2).1 % 128, decide (128 ≤ (byteR (textR 31 s).2).1)⟩ = (byteR (textR 31 s).2).1 := by
    unfold colForm
    simp only [decide_eq_true_eq]
    split <;> omega
  unfold colB
  rw [hf, List.append_assoc]
  rw [t1]
  congr 1
theorem colsR_inv : ∀ (n : Nat) (s : RS), (colsR n s).2.2 = 0 → s.1 = (colsR n s).1.flatMap colB ++ (colsR n s).2.1 ∧ s.2 = 0 ∧ (colsR n s).1.length = n
  | 0, s, h => ⟨by simp [colsR], h, rfl⟩
  | n + 1, s, h => by
    unfold colsR at h ⊢
    simp only at h ⊢
    obtain ⟨i1, i2, i3⟩ := colsR_inv n _ h
    obtain ⟨j1, j2⟩ := colR_inv i2
    refine ⟨?_, j2, by rw [List.length_cons, i3]⟩
    rw [List.flatMap_cons, List.append_assoc, ← i1, ← j1]
theorem colR_ty (s : RS) : (colR s).1.ty < 256 := by unfold colR; simp only; omega
theorem colsR_ty : ∀ (n : Nat) (s : RS), ∀ c ∈ (colsR n s).1, c.ok
  | 0, _, c, hc => by cases hc
  | n + 1, s, c, hc => by
    unfold colsR at hc
    rcases List.mem_cons.1 hc with rfl | hc
    · exact colR_ty s
    · exact colsR_ty n _ c hc
/-- AND FROM NO OTHER BYTES. -/
theorem rlR_inv {s : RS} (h : (rlR s).2.2 = 0) : s.1 = rlBytes (rlR s).1 ++ (rlR s).2.1 ∧ s.2 = 0 ∧ (rlR s).1.ok := by
  rcases ho : rl1 s with ⟨x1, s1⟩
  rcases hv : rl1 s1 with ⟨x2, s2⟩
  rcases ht : textR 31 s2 with ⟨x3, s3⟩
  rcases hi : byteR s3 with ⟨x4, s4⟩
  rcases hn : uintR 16 s4 with ⟨x5, s5⟩
  rcases hc : colsR x5 s5 with ⟨x6, s6⟩
  have hR : rlR s = (⟨x1, x2, x3, x4, x6⟩, s6) := by unfold rlR; simp only [ho, hv, ht, hi, hn, hc]
  rw [hR] at h ⊢
  simp only at h ⊢
  have qc := colsR_inv x5 s5 (by rw [hc]; exact h)
  have qt := colsR_ty x5 s5
  rw [hc] at qc qt
  simp only at qc qt
  have qn := uintR_inv 16 s4 (by rw [hn]; exact qc.2.1)
  rw [hn] at qn
  simp only at qn
  have qi := byteR_inv s3 (by rw [hi]; exact qn.2)
  rw [hi] at qi
  simp only at qi
  have qx := textR_inv 31 s2 (by rw [ht]; exact qi.2.1)
  rw [ht] at qx
  simp only at qx
  have qv := uintR_inv 4294967295 s1 (by rw [show uintR 4294967295 s1 = (x2, s2) from hv]; exact qx.2)
  have lv := uintR_le 4294967295 s1
  rw [show uintR 4294967295 s1 = (x2, s2) from hv] at qv lv
  simp only at qv lv
  have qo := uintR_inv 4294967295 s (by rw [show uintR 4294967295 s = (x1, s1) from ho]; exact qv.2)
  have lo := uintR_le 4294967295 s
  rw [show uintR 4294967295 s = (x1, s1) from ho] at qo lo
  simp only at qo lo
  refine ⟨?_, qo.2, by show x1 < _; omega, by show x2 < _; omega, qi.2.2, qt⟩
  unfold rlBytes
  simp only
  rw [qc.2.2, qo.1, qv.1, qx.1, qi.1, qn.1, qc.1]
  simp
theorem rlDec_put {r : Rl} (hok : r.ok) (h : rlErr r = 0) : rlDec (rlBytes r) = (r, 0) := by
  have := rlR_put [] hok h
  rw [List.append_nil] at this
  unfold rlDec
  rw [this]
  simp [endR, h]
theorem rlDec_inv {b : List UInt8} (h : (rlDec b).2 = 0) : b = rlBytes (rlDec b).1 ∧ rlErr (rlDec b).1 = 0 ∧ (rlDec b).1.ok := by
  have hinv := fun h => rlR_inv (s := (b, 0)) h
  unfold rlDec at h ⊢
  generalize rlR (b, 0) = R at *
  obtain ⟨x, s'⟩ := R
  simp only at h hinv ⊢
  by_cases h1 : endR s' ≠ 0
  · rw [if_pos h1] at h; exact absurd h h1
  rw [if_neg h1] at h ⊢
  by_cases h2 : rlErr x ≠ 0
  · rw [if_pos h2] at h; simp only at h; omega
  rw [if_neg h2] at h ⊢
  have h3 : endR s' = 0 := by omega
  have h4 : s'.2 = 0 ∧ s'.1 = [] := by
    unfold endR at h3
    split at h3
    · cases h3
    · rename_i hn
      refine ⟨h3, ?_⟩
      cases hl : s'.1 with
      | nil => rfl
      | cons x l => exact absurd ⟨h3, by rw [hl]; simp⟩ hn
  obtain ⟨i1, _, i3⟩ := hinv h4.1
  exact ⟨by rw [h4.2, List.append_nil] at i1; exact i1, by simp only; omega, i3⟩
end Go.Proofs.Ytcejjckhhdgdnaa
