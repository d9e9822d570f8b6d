/-
  The reader of prim: its state, and each of its calls.
-/
import Derived.Test.YtcejjckhhdgdnaaProg
import Derived.Test.YtcejjckhhdgdnaaLib
import Derived.Test.YtcejjckhhdgdnaaPrimA
import Derived.Test.YtcejjckhhdgdnaaPrimC
import Derived.WalkKit
import Derived.Lib.Hide
namespace Go.Proofs.Ytcejjckhhdgdnaa
open Go.RowKit Go.Lac

/-- A reader's state: the bytes that are left, the error's number. -/
abbrev RS := List UInt8 × Int

/-- A slice's address is that of a cell. -/
def Strict (v : Value) : Prop := ∀ x l c, v = .slice (some x) l c → x.spot = none
theorem strict_nil : Strict (.slice none 0 0) := fun _ _ _ h => by cases h
theorem strict_lit (b off l c : Nat) : Strict (.slice (some ⟨b, off, none⟩) l c) := fun _ _ _ h => by cases h; rfl

/-- Block r is a reader in this state. -/
def IsR (w : World) (r : Nat) (s : RS) : Prop :=
  ∃ lv, w.heap[r]? = some (.cells #[lv, .int .i64 s.2] 140 (0, 0)) ∧ (Rd w lv s.1 ∧ (Strict lv ∧ (s.1 ≠ [] → ∀ x l c, lv = .slice (some x) l c → x.block < r))) ∧ (s.2 ≠ 0 → s.1 = [])

/-- Only block r has changed. -/
abbrev Only (r : Nat) (w w' : World) : Prop := Ch (fun b => b = r) w w'

def RPtr (r : Nat) : Value := .pointer (some ⟨r, 0, none⟩)

theorem IsR.cells {w : World} {r : Nat} {s : RS} (h : IsR w r s) : ∃ ao cap, w.cell? ⟨r, 0, none⟩ = some (.slice ao s.1.length cap) ∧ w.cell? ⟨r, 1, none⟩ = some (.int .i64 s.2) ∧
    w.frozen? ⟨r, 0, none⟩ = false ∧ w.frozen? ⟨r, 1, none⟩ = false ∧ Rd w (.slice ao s.1.length cap) s.1 ∧ ∀ x, ao = some x → x.spot = none := by
  obtain ⟨lv, h1, ⟨h2, h4⟩, h3⟩ := h
  obtain ⟨ao, cap, rfl⟩ := h2.shape
  exact ⟨ao, cap, cell_of_row w r 0 _ _ _ h1, cell_of_row w r 1 _ _ _ h1, frozen_of_row w r 0 _ _ h1, frozen_of_row w r 1 _ _ h1, h2, fun x hx => h4.1 x _ _ (by rw [hx])⟩

/-- The bytes lie in an older block than the reader. -/
theorem IsR.low {w : World} {r : Nat} {s : RS} (h : IsR w r s) {ao : Option Addr} {n cap : Nat} (hc : w.cell? ⟨r, 0, none⟩ = some (.slice ao n cap)) (hne : s.1 ≠ []) : ∀ x, ao = some x → x.block < r := by
  obtain ⟨lv, h1, ⟨h2, h4⟩, h3⟩ := h
  rw [cell_of_row w r 0 _ _ _ h1] at hc
  cases hc
  exact fun x hx => h4.2 hne x _ _ (by rw [hx])
theorem IsR.set0 {w : World} {r : Nat} {s : RS} (h : IsR w r s) {lv : Value} {bs : List UInt8} (hl : Rd w lv bs) (hst : Strict lv) (hlow : bs ≠ [] → ∀ x l c, lv = .slice (some x) l c → x.block < r) (he : s.2 ≠ 0 → bs = []) : IsR (w.setCell ⟨r, 0, none⟩ lv) r (bs, s.2) := by
  obtain ⟨lv0, h1, ⟨h2, _⟩, h3⟩ := h
  obtain ⟨ao, cap, rfl⟩ := h2.shape
  exact ⟨lv, heap_setCell_same w r 0 _ _ _ h1, ⟨hl.setCell (cell_of_row w r 0 _ _ _ h1) (noByte_slice _ _ _) _, hst, hlow⟩, he⟩

theorem IsR.set1 {w : World} {r : Nat} {bs : List UInt8} {e0 : Int} (h : IsR w r (bs, e0)) (e : Int) (he : e ≠ 0 → bs = []) : IsR (w.setCell ⟨r, 1, none⟩ (.int .i64 e)) r (bs, e) := by
  obtain ⟨lv0, h1, ⟨h2, h4⟩, h3⟩ := h
  exact ⟨lv0, heap_setCell_same w r 1 _ _ _ h1, ⟨h2.setCell (cell_of_row w r 1 _ _ _ h1) (noByte_i64 _) _, h4⟩, he⟩

theorem IsR.lt {w : World} {r : Nat} {s : RS} (h : IsR w r s) : r < w.heap.size := by
  obtain ⟨lv, h1, _⟩ := h
  exact (Array.getElem?_eq_some_iff.1 h1).1

theorem IsR.ext {w w' : World} {r : Nat} {s : RS} (h : IsR w r s) (k : Ext w w') : IsR w' r s := by
  have hlt := h.lt
  obtain ⟨lv, h1, h2, h3⟩ := h
  exact ⟨lv, by rw [k.block r hlt (fun f => f)]; exact h1, ⟨h2.1.ext k, h2.2⟩, h3⟩

/-- What is done to another reader is not seen. -/
theorem IsR.other {w w' : World} {r q : Nat} {s u : RS} (h : IsR w r s) (hq : IsR w q u) (hne : r ≠ q) (k : Only q w w') : IsR w' r s := by
  have hlt := h.lt
  obtain ⟨lv, h1, ⟨h2, h4⟩, h3⟩ := h
  refine ⟨lv, by rw [k.block r hlt hne]; exact h1, ⟨?_, h4⟩, h3⟩
  obtain ⟨qv, q1, ⟨q2, _⟩, _⟩ := hq
  obtain ⟨qa, qc, rfl⟩ := q2.shape
  obtain ⟨ao, cap, g1, g2, g3, g4, g5⟩ := h2
  refine ⟨ao, cap, g1, g2, g3, g4, fun x hx j c hc => ?_⟩
  obtain ⟨b, off, rfl, g6⟩ := g5 x hx j c hc
  refine ⟨b, off, rfl, k.cell (p := ⟨b, off + j, none⟩) ?_ c g6⟩
  rintro (rfl : b = q)
  obtain ⟨y, _, rfl⟩ := List.mem_map.1 (List.mem_of_getElem? hc)
  rw [cell_of_row w b (off + j) _ _ _ q1] at g6
  have hm := Array.mem_of_getElem? g6
  simp [cellB] at hm

/-- It gives up. -/
def failR (s : RS) (e : Int) : RS := if s.2 ≠ 0 ∨ e = 0 then s else ([], e)

/-- A call that leaves the reader so, and answers v. -/
def RPost (r : Nat) (v : Value) (s : RS) (w : World) (e : Ending) (w' : World) : Prop := e = .returned v ∧ Only r w w' ∧ IsR w' r s

set_option maxRecDepth 20000 in
set_option maxHeartbeats 1000000 in
theorem fail_any (r : Nat) (s : RS) (e : Int) (w : World) (h : IsR w r s) :
    Calls Try.prog 103 #[RPtr r, .int .i64 e] w (RPost r (.tuple #[]) (failR s e) w) := by
  obtain ⟨ao, cap, c0, c1, f0, f1, hrd, hst⟩ := h.cells
  have H := Lib.hid h; have HRD := Lib.hid hrd; clear h hrd hst
  unfold RPtr
  by_cases h1 : s.2 = 0
  · have e1 : (s.2 != 0) = false := by simp [h1]
    by_cases h2 : e = 0
    · have e2 : (e == 0) = true := by simp [h2]
      have H1 := Lib.hid h1; have H2 := Lib.hid h2; clear h1 h2
      go_enter Try.func103, Try.ntmps103
      go_wp2
      refine bodyPost_ret (results_none rfl _ _ _) rfl ?_
      exact ⟨rfl, Ch.refl _ _, by unfold failR; rw [if_pos (Or.inr H2.out)]; exact H.out⟩
    · have e2 : (e == 0) = false := by simp [h2]
      have H1 := Lib.hid h1; have H2 := Lib.hid h2; clear h1 h2
      go_enter Try.func103, Try.ntmps103
      go_wp2
      refine bodyPost_end (results_none rfl _ _ _) rfl ?_
      have h3 := (H.out.set0 (lv := .slice none 0 0) (bs := []) ⟨none, 0, rfl, Nat.le_refl _, Nat.zero_le _, fun _ => rfl, fun x hx => by cases hx⟩ strict_nil (fun h => absurd rfl h) (fun _ => rfl)).set1 e (fun _ => rfl)
      refine ⟨rfl, Ch.setCell (M := fun b => b = r) (Ch.setCell (M := fun b => b = r) (Ch.refl _ _) (.inl rfl) _) (.inl rfl) _, ?_⟩
      unfold failR
      rw [if_neg (by have := H1.out; have := H2.out; omega)]
      exact h3
  · have e1 : (s.2 != 0) = true := by simp [h1]
    have H1 := Lib.hid h1; clear h1
    go_enter Try.func103, Try.ntmps103
    go_wp2
    refine bodyPost_ret (results_none rfl _ _ _) rfl ?_
    exact ⟨rfl, Ch.refl _ _, by unfold failR; rw [if_pos (Or.inl H1.out)]; exact H.out⟩

theorem numAt_ok : ∀ (l : List UInt8) (n v v' n' : Nat), numAt n v l = (v', n', 0) → v < 128 ^ n → n ≤ 9 → n < n' ∧ n' - n ≤ l.length ∧ v' < 2 ^ 64
  | [], n, v, v', n', h, _, _ => by simp [numAt] at h
  | d :: l, n, v, v', n', h, hv, h9 => by
    have hd := UInt8.toNat_lt d
    rw [numAt] at h
    split at h
    · simp at h
    · rename_i h1
      split at h
      · rename_i h2
        have h9' : n < 9 := by omega
        have hb : v + d.toNat % 128 * 128 ^ n < 128 ^ (n + 1) := by
          have h3 : d.toNat % 128 * 128 ^ n ≤ 127 * 128 ^ n := Nat.mul_le_mul_right _ (by omega)
          rw [Nat.pow_succ]; omega
        have := numAt_ok l (n + 1) _ v' n' h hb (by omega)
        simp only [List.length_cons]
        omega
      · split at h
        · simp at h
        · simp only [Prod.mk.injEq, and_true] at h
          obtain ⟨rfl, rfl⟩ := h
          simp only [List.length_cons]
          refine ⟨by omega, by omega, ?_⟩
          by_cases h8 : n = 9
          · subst h8
            have h3 : d.toNat % 128 * 128 ^ 9 ≤ 1 * 128 ^ 9 := Nat.mul_le_mul_right _ (by omega)
            omega
          · have h3 : d.toNat % 128 * 128 ^ n ≤ 127 * 128 ^ n := Nat.mul_le_mul_right _ (by omega)
            have h4 : 128 ^ (n + 1) ≤ 128 ^ 9 := Nat.pow_le_pow_right (by omega) (by omega)
            rw [Nat.pow_succ] at h4
            omega

theorem num_ok {l : List UInt8} {v n : Nat} (h : num l = (v, n, 0)) : 0 < n ∧ n ≤ l.length ∧ v < 2 ^ 64 := by
  have := numAt_ok l 0 0 v n h (by decide) (by decide)
  omega

theorem numAt_err : ∀ (l : List UInt8) (n v : Nat), (numAt n v l).2.2 = 0 ∨ (numAt n v l).2.2 = 1 ∨ (numAt n v l).2.2 = 5
  | [], n, v => by simp [numAt]
  | d :: l, n, v => by
    rw [numAt]
    split
    · simp
    · split
      · exact numAt_err l _ _
      · split <;> simp

/-- The next number: what is answered, and the state then. -/
def uintR (most : Nat) (s : RS) : Nat × RS :=
  if (num s.1).2.2 ≠ 0 then (0, failR s (num s.1).2.2)
  else if most < (num s.1).1 then (0, failR s 4)
  else ((num s.1).1, (s.1.drop (num s.1).2.1, s.2))

theorem uintR_lt (most : Nat) (s : RS) : (uintR most s).1 < 2 ^ 64 := by
  unfold uintR
  split
  · exact Nat.two_pow_pos 64
  · rename_i h
    split
    · exact Nat.two_pow_pos 64
    · have h0 : (num s.1).2.2 = 0 := by simpa using h
      exact (num_ok (l := s.1) (v := (num s.1).1) (n := (num s.1).2.1) (by rw [← h0])).2.2

theorem uintR_le (most : Nat) (s : RS) : (uintR most s).1 ≤ most := by
  unfold uintR
  split
  · exact Nat.zero_le _
  · split
    · exact Nat.zero_le _
    · show (num s.1).1 ≤ most
      omega

theorem number_q {vb : Value} {l : List UInt8} {w : World} (hb : Rd w vb l) {v n : Nat} {er : Int} (h : num l = (v, n, er)) :
    Calls Try.prog 102 #[vb] w fun e w' => e = .returned (.tuple #[.int .u64 v, .int .i64 n, .int .i64 er]) ∧ w = w' :=
  (number_any vb l w hb).mono fun e w' ⟨h1, h2⟩ => by rw [h] at h1; exact ⟨h1, h2⟩

set_option maxRecDepth 20000 in
set_option maxHeartbeats 1000000 in
theorem uint_any (r : Nat) (s : RS) (most : Nat) (w : World) (h : IsR w r s) :
    Calls Try.prog 83 #[RPtr r, .int .u64 most] w (RPost r (.int .u64 (uintR most s).1) (uintR most s).2 w) := by
  obtain ⟨ao, cap, c0, c1, f0, f1, hrd, hst⟩ := h.cells
  have H := Lib.hid h; have HRD := Lib.hid hrd; clear h hrd hst
  have HF := Lib.hid (fun e => fail_any r s e w H.out)
  obtain ⟨⟨v, n, er⟩, hq⟩ : ∃ q, num s.1 = q := ⟨_, rfl⟩
  have HN := Lib.hid (number_q HRD.out hq)
  unfold RPtr at *
  by_cases h0 : er = 0
  · obtain ⟨n1, n2, n3⟩ := num_ok (show num s.1 = (v, n, 0) by rw [hq, h0])
    have N3 := Lib.hid n3; clear n3
    subst h0
    by_cases hm : most < v
    · have e2 : decide ((most : Int) < (v : Int)) = true := by simp; omega
      have hu : uintR most s = (0, failR s 4) := by unfold uintR; rw [hq]; simp [hm]
      have HU := Lib.hid hu
      clear hu hq
      go_enter Try.func83, Try.ntmps83
      go_wp2_with (go_at_call 102; refine HN.out.mono ?_; rintro e w' ⟨rfl, rfl⟩)
      refine (HF.out 4).mono ?_
      rintro e w1 ⟨rfl, k1, k2⟩
      have K1 := Lib.hid k1; have K2 := Lib.hid k2; clear k1 k2
      go_wp2
      go_ret
      rw [HU.out]
      exact ⟨rfl, K1.out, K2.out⟩
    · have e2 : decide ((most : Int) < (v : Int)) = false := by simp; omega
      have hu : uintR most s = (v, (s.1.drop n, s.2)) := by unfold uintR; rw [hq]; simp [hm]
      have HU := Lib.hid hu
      have hs2 : s.2 = 0 := by
        obtain ⟨lv, g1, g2, g3⟩ := H.out
        rcases Decidable.em (s.2 = 0) with g | g
        · exact g
        · have := g3 g
          rw [this] at n2; simp at n2; omega
      obtain ⟨b, off, rfl, g1, g2, g3⟩ := cell_of_rd HRD.out rfl (by omega)
      have HS2 := Lib.hid hs2
      clear hu hq hs2 g3
      unfold maxLen at g2
      by_cases hcap : cap = n
      · have hrd2 := Rd.drop HRD.out n n2 (some ⟨b, off, none⟩) (.inr ⟨by omega, _, rfl⟩)
        subst hcap
        rw [show s.1.length - cap = 0 by omega, Nat.sub_self] at hrd2
        have hfin := H.out.set0 hrd2 (strict_lit _ _ _ _) (fun hne x l c e => by cases e; exact (H.out.low c0 (fun h => hne (by rw [h]; simp)) ⟨b, off, none⟩ rfl : b < r)) (fun hne => absurd HS2.out hne)
        have HFIN := Lib.hid hfin
        clear hrd2 hfin
        go_enter Try.func83, Try.ntmps83
        go_wp2_with (go_at_call 102; refine HN.out.mono ?_; rintro e w' ⟨rfl, rfl⟩)
        go_ret
        rw [HU.out]
        exact ⟨rfl, Ch.setCell (M := fun b => b = r) (Ch.refl _ _) (.inl rfl) _, HFIN.out⟩
      · have hrd2 := Rd.drop HRD.out n n2 (some ⟨b, off + n, none⟩) (.inl rfl)
        have hfin := H.out.set0 hrd2 (strict_lit _ _ _ _) (fun hne x l c e => by cases e; exact (H.out.low c0 (fun h => hne (by rw [h]; simp)) ⟨b, off, none⟩ rfl : b < r)) (fun hne => absurd HS2.out hne)
        have HFIN := Lib.hid hfin
        clear hrd2 hfin
        go_enter Try.func83, Try.ntmps83
        go_wp2_with (go_at_call 102; refine HN.out.mono ?_; rintro e w' ⟨rfl, rfl⟩)
        go_ret
        rw [HU.out]
        exact ⟨rfl, Ch.setCell (M := fun b => b = r) (Ch.refl _ _) (.inl rfl) _, HFIN.out⟩
  · have e0 : (er == 0) = false := by simp [h0]
    have e1 : (er != 0) = true := by simp [h0]
    have hu : uintR most s = (0, failR s er) := by unfold uintR; rw [hq]; simp [h0]
    have HU := Lib.hid hu
    clear hu hq h0
    go_enter Try.func83, Try.ntmps83
    go_wp2_with (go_at_call 102; refine HN.out.mono ?_; rintro e w' ⟨rfl, rfl⟩)
    refine (HF.out er).mono ?_
    rintro e w1 ⟨rfl, k1, k2⟩
    have K1 := Lib.hid k1; have K2 := Lib.hid k2; clear k1 k2
    go_wp2
    go_ret
    rw [HU.out]
    exact ⟨rfl, K1.out, K2.out⟩

/-- The next n bytes (n not negative): what is answered, and the state then. -/
def takeR (n : Nat) (s : RS) : List UInt8 × RS :=
  if s.1.length < n then ([], failR s 1) else (s.1.take n, (s.1.drop n, s.2))

/-- A call that answers bytes. -/
def TakePost (r : Nat) (bs : List UInt8) (s : RS) (w : World) (e : Ending) (w' : World) : Prop := ∃ v, e = .returned v ∧ Only r w w' ∧ IsR w' r s ∧ Rd w' v bs

theorem rd_nil (w : World) : Rd w (.slice none 0 0) [] := ⟨none, 0, rfl, Nat.le_refl _, Nat.zero_le _, fun _ => rfl, fun x hx => by cases hx⟩

set_option maxRecDepth 20000 in
set_option maxHeartbeats 1000000 in
theorem take_any (r : Nat) (s : RS) (n : Nat) (w : World) (h : IsR w r s) (hn : n ≤ 9223372036854775807) :
    Calls Try.prog 104 #[RPtr r, .int .i64 n] w (TakePost r (takeR n s).1 (takeR n s).2 w) := by
  obtain ⟨ao, cap, c0, c1, f0, f1, hrd, hst⟩ := h.cells
  have H := Lib.hid h; have HRD := Lib.hid hrd
  have HF := Lib.hid (fail_any r s 1 w h)
  unfold RPtr at *
  by_cases hlt : s.1.length < n
  · have hu : takeR n s = ([], failR s 1) := by unfold takeR; rw [if_pos hlt]
    have HU := Lib.hid hu
    clear hu h hrd
    go_enter Try.func104, Try.ntmps104
    go_wp2_with (go_at_call 103; refine HF.out.mono ?_)
    rintro e w1 ⟨rfl, k1, k2⟩
    have K1 := Lib.hid k1; have K2 := Lib.hid k2; clear k1 k2
    go_wp2
    go_ret
    rw [HU.out]
    exact ⟨_, rfl, K1.out, K2.out, rd_nil _⟩
  · have hu : takeR n s = (s.1.take n, (s.1.drop n, s.2)) := by unfold takeR; rw [if_neg hlt]
    have HU := Lib.hid hu
    obtain ⟨ao', cap', he, g2, g3, g4, g5⟩ := hrd
    cases he
    have hs2 : s.2 ≠ 0 → s.1.drop n = [] := fun hne => by
      obtain ⟨lv, g1, g2, g3⟩ := h
      rw [g3 hne]; simp
    have HS2 := Lib.hid hs2
    clear hu hs2 h
    cases ao with
    | none =>
      obtain rfl : cap = 0 := g4 rfl
      have hl0 : s.1 = [] := List.eq_nil_of_length_eq_zero (by omega)
      obtain rfl : n = 0 := by omega
      obtain ⟨bs, er⟩ := s
      simp only at hl0
      subst hl0
      clear g4 g5 hst
      have hfin := H.out.set0 (rd_nil w) strict_nil (fun h => absurd rfl h) (fun _ => rfl)
      have HFIN := Lib.hid hfin; clear hfin
      go_enter Try.func104, Try.ntmps104
      go_wp2
      go_ret
      rw [HU.out]
      exact ⟨_, rfl, Ch.setCell (M := fun b => b = r) (Ch.refl _ _) (.inl rfl) _, HFIN.out, rd_nil _⟩
    | some x =>
      have hsp := hst _ rfl
      obtain ⟨b, off, sp⟩ := x
      simp only at hsp
      subst hsp
      clear g4 g5 hst
      have hle : n ≤ s.1.length := by omega
      have ht := Rd.take HRD.out n hle
      have ht' := ht.setCell c0 (noByte_slice _ _ _)
      unfold maxLen at g3
      by_cases hcap : cap = n
      · have hrd2 := Rd.drop HRD.out n hle (some ⟨b, off, none⟩) (.inr ⟨by omega, _, rfl⟩)
        subst hcap
        rw [show s.1.length - cap = 0 by omega, Nat.sub_self] at hrd2
        have hfin := H.out.set0 hrd2 (strict_lit _ _ _ _) (fun hne x l c e => by cases e; exact (H.out.low c0 (fun h => hne (by rw [h]; simp)) ⟨b, off, none⟩ rfl : b < r)) HS2.out
        have HFIN := Lib.hid hfin; have HT := Lib.hid (ht' (.slice (some ⟨b, off, none⟩) 0 0))
        clear hrd2 hfin ht' ht
        go_enter Try.func104, Try.ntmps104
        go_wp2
        go_ret
        rw [HU.out]
        exact ⟨_, rfl, Ch.setCell (M := fun b => b = r) (Ch.refl _ _) (.inl rfl) _, HFIN.out, HT.out⟩
      · have hrd2 := Rd.drop HRD.out n hle (some ⟨b, off + n, none⟩) (.inl rfl)
        have hfin := H.out.set0 hrd2 (strict_lit _ _ _ _) (fun hne x l c e => by cases e; exact (H.out.low c0 (fun h => hne (by rw [h]; simp)) ⟨b, off, none⟩ rfl : b < r)) HS2.out
        have HFIN := Lib.hid hfin; have HT := Lib.hid (ht' (.slice (some ⟨b, off + n, none⟩) (s.1.length - n) (cap - n)))
        clear hrd2 hfin ht' ht
        go_enter Try.func104, Try.ntmps104
        go_wp2
        go_ret
        rw [HU.out]
        exact ⟨_, rfl, Ch.setCell (M := fun b => b = r) (Ch.refl _ _) (.inl rfl) _, HFIN.out, HT.out⟩

/-- The next text, of at most m bytes. -/
def textR (m : Nat) (s : RS) : List UInt8 × RS := takeR (uintR m s).1 (uintR m s).2

set_option maxRecDepth 20000 in
set_option maxHeartbeats 1000000 in
theorem text_any (r : Nat) (s : RS) (m : Int) (w : World) (h : IsR w r s) (hm : m ≤ 9223372036854775807) :
    Calls Try.prog 84 #[RPtr r, .int .i64 m] w (RPost r (strV (textR m.toNat s).1) (textR m.toNat s).2 w) := by
  have HU := Lib.hid (uint_any r s m.toNat w h)
  have hle : (uintR m.toNat s).1 ≤ 9223372036854775807 := Nat.le_trans (uintR_le _ _) (by omega)
  have HT := fun w' (h' : IsR w' r (uintR m.toNat s).2) => take_any r (uintR m.toNat s).2 (uintR m.toNat s).1 w' h' hle
  have HTX : textR m.toNat s = takeR (uintR m.toNat s).1 (uintR m.toNat s).2 := rfl
  rw [HTX]
  clear HTX
  generalize takeR (uintR m.toNat s).1 (uintR m.toNat s).2 = tk at *
  generalize hus : (uintR m.toNat s).2 = us at *
  generalize hun : (uintR m.toNat s).1 = un at *
  have HT := Lib.hid HT
  clear hus hun h
  unfold RPtr at *
  by_cases h0 : 0 ≤ m
  · obtain ⟨k, rfl⟩ := Int.eq_ofNat_of_zero_le h0
    rw [Int.toNat_natCast] at HU
    clear h0
    go_enter Try.func84, Try.ntmps84
    go_wp2_with (go_at_call 83; refine HU.out.mono ?_)
    rintro e w1 ⟨rfl, k1, k2⟩
    have K1 := Lib.hid k1; have K2 := Lib.hid k2; clear k1 k2
    go_wp2_with (go_at_call 104; refine (HT.out _ K2.out).mono ?_)
    rintro e w2 ⟨v, rfl, k3, k4, k5⟩
    have K3 := Lib.hid k3; have K4 := Lib.hid k4
    obtain ⟨ao, cap, rfl⟩ := k5.shape
    have hcv := run_toString (P := Try.prog) k5 (src := 34) (dst := 9) Try.underlying34 Try.underlying5 Try.underlying9
    clear k3 k4 k5
    go_wp2
    go_ret
    exact ⟨rfl, K1.out.trans K3.out, K4.out⟩
  · have hk : m.toNat = 0 := by omega
    rw [hk] at HU
    clear hk
    have hneg : m < 0 := by omega
    clear h0
    go_enter Try.func84, Try.ntmps84
    go_wp2_with (go_at_call 83; refine HU.out.mono ?_)
    rintro e w1 ⟨rfl, k1, k2⟩
    have K1 := Lib.hid k1; have K2 := Lib.hid k2; clear k1 k2
    go_wp2_with (go_at_call 104; refine (HT.out _ K2.out).mono ?_)
    rintro e w2 ⟨v, rfl, k3, k4, k5⟩
    have K3 := Lib.hid k3; have K4 := Lib.hid k4
    obtain ⟨ao, cap, rfl⟩ := k5.shape
    have hcv := run_toString (P := Try.prog) k5 (src := 34) (dst := 9) Try.underlying34 Try.underlying5 Try.underlying9
    clear k3 k4 k5
    go_wp2
    go_ret
    exact ⟨rfl, K1.out.trans K3.out, K4.out⟩

/-- What is wrong at the end. -/
def endR (s : RS) : Int := if s.2 = 0 ∧ 0 < s.1.length then 2 else s.2

set_option maxRecDepth 20000 in
set_option maxHeartbeats 1000000 in
theorem end_any (r : Nat) (s : RS) (w : World) (h : IsR w r s) :
    Calls Try.prog 60 #[RPtr r] w fun e w' => e = .returned (.int .i64 (endR s)) ∧ w = w' := by
  obtain ⟨ao, cap, c0, c1, f0, f1, hrd, hst⟩ := h.cells
  clear hrd h hst
  unfold RPtr
  by_cases h1 : s.2 = 0
  · have e1 : (s.2 == 0) = true := by simp [h1]
    by_cases h2 : 0 < s.1.length
    · have hE : endR s = 2 := by unfold endR; rw [if_pos ⟨h1, h2⟩]
      rw [hE]
      have H1 := Lib.hid h1; clear h1 hE
      go_enter Try.func60, Try.ntmps60
      go_wp2
      go_ret
      exact ⟨rfl, rfl⟩
    · have hE : endR s = s.2 := by unfold endR; rw [if_neg (fun h => h2 h.2)]
      rw [hE]
      have H1 := Lib.hid h1; clear h1 hE
      go_enter Try.func60, Try.ntmps60
      go_wp2
      go_ret
      exact ⟨rfl, rfl⟩
  · have e1 : (s.2 == 0) = false := by simp [h1]
    have hE : endR s = s.2 := by unfold endR; rw [if_neg (fun h => h1 h.1)]
    rw [hE]
    clear h1 hE
    go_enter Try.func60, Try.ntmps60
    go_wp2
    go_ret
    exact ⟨rfl, rfl⟩
end Go.Proofs.Ytcejjckhhdgdnaa
