/-
  Cells as plain mathematics.
-/
import Derived.Test.YtcejjckhhdgdnaaTakC
namespace Go.Proofs.Ytcejjckhhdgdnaa
open Go.RowKit Go.Lac

structure Cel where
  k : Nat
  v : Val
deriving DecidableEq
def Cel.zero : Cel := ⟨0, .zero⟩
def Cel.ok (c : Cel) : Prop := c.k < 256 ∧ c.v.ok
def texty (k : Nat) : Bool := decide (k = 5 ∨ k = 6)
def cLarge (c : Cel) : Bool := decide (c.k = 2) && texty c.v.ty && decide (64 < c.v.t.length)
/-- What is wrong with a cell in a column. -/
def cErr (c : Cel) (kind : Nat) : Nat :=
  if kind < 1 ∨ 6 < kind then 11
  else if 2 < c.k then 7
  else if c.k < 2 then (if c.v ≠ .zero then 3 else if c.k = 1 ∧ texty kind = false then 11 else 0)
  else if vErr c.v ≠ 0 then vErr c.v
  else if c.v.ty ≠ kind then 11 else 0
/-- Why it is not put. -/
def cpErr (ver : Nat) (c : Cel) (kind : Nat) : Nat := if ver ≠ 1 ∧ ver ≠ 2 then 18 else if cErr c kind ≠ 0 then cErr c kind else if c.k = 0 then 12 else 0
def cBytes (ver : Nat) (c : Cel) : List UInt8 :=
  if c.k = 1 then [0]
  else if cLarge c = true then UInt8.ofNat (3 - ver) :: sev c.v.t.length
  else if ver = 1 then 1 :: vBytes 1 c.v
  else if texty c.v.ty = true then sev (c.v.t.length + 2) ++ c.v.t
  else vBytes 2 c.v
def bigC (kind : Nat) : Cel := ⟨2, ⟨kind, 0, 0, 0, []⟩⟩
def sameC : Cel := ⟨1, .zero⟩
def awayR (s : RS) : Nat × RS := ((uintR 2048 s).1, if (uintR 2048 s).1 < 65 then failR (uintR 2048 s).2 4 else (uintR 2048 s).2)
def hereR (kind n : Nat) (s : RS) : Cel × RS := (⟨2, ⟨kind, 0, 0, 0, (takeR n s).1⟩⟩, failR (takeR n s).2 (vErr ⟨kind, 0, 0, 0, (takeR n s).1⟩ : Nat))
def headR (kind : Nat) (s : RS) : RS := if 2 < (byteR s).1 ∨ ((byteR s).1 ≠ 1 ∧ texty kind = false) then failR (byteR s).2 7 else (byteR s).2
def partedR (kind : Nat) (s : RS) : (Cel × Nat) × RS :=
  if (byteR s).1 = 0 then ((sameC, 0), headR kind s)
  else if (byteR s).1 = 2 then ((bigC kind, (awayR (headR kind s)).1), (awayR (headR kind s)).2)
  else if texty kind = true then (((hereR kind (uintR 64 (headR kind s)).1 (uintR 64 (headR kind s)).2).1, 0), (hereR kind (uintR 64 (headR kind s)).1 (uintR 64 (headR kind s)).2).2)
  else ((⟨2, (vTake 1 kind (headR kind s)).1⟩, 0), (vTake 1 kind (headR kind s)).2)
def joinedR (kind : Nat) (s : RS) : (Cel × Nat) × RS :=
  if (uintR 66 s).1 = 0 then ((sameC, 0), (uintR 66 s).2)
  else if (uintR 66 s).1 = 1 then ((bigC kind, (awayR (uintR 66 s).2).1), (awayR (uintR 66 s).2).2)
  else (((hereR kind ((uintR 66 s).1 - 2) (uintR 66 s).2).1, 0), (hereR kind ((uintR 66 s).1 - 2) (uintR 66 s).2).2)
def cRaw (ver kind : Nat) (s : RS) : (Cel × Nat) × RS :=
  if ver = 1 then partedR kind s
  else if texty kind = true then joinedR kind s
  else ((⟨2, (vTake ver kind s).1⟩, 0), (vTake ver kind s).2)
def cTake (ver kind : Nat) (s : RS) : (Cel × Nat) × RS :=
  if (cRaw ver kind (tPre ver kind s)).2.2 ≠ 0 then ((.zero, 0), (cRaw ver kind (tPre ver kind s)).2) else cRaw ver kind (tPre ver kind s)
def cOut (c : Cel) : Cel := if cLarge c = true then bigC c.v.ty else c
def cLen (c : Cel) : Nat := if cLarge c = true then c.v.t.length else 0
def fillC (c : Cel) (n : Nat) : Cel := ⟨c.k, ⟨c.v.ty, c.v.i, c.v.re, c.v.im, c.v.t ++ List.replicate n 97⟩⟩
theorem fillC_zero (c : Cel) : fillC c 0 = c := by unfold fillC; simp
theorem texty_iff (k : Nat) : texty k = true ↔ k = 5 ∨ k = 6 := by unfold texty; simp
theorem texty_not (k : Nat) : texty k = false ↔ k ≠ 5 ∧ k ≠ 6 := by unfold texty; simp

theorem cErr_zero {c : Cel} {kind : Nat} (h : cErr c kind = 0) : 1 ≤ kind ∧ kind ≤ 6 ∧ c.k ≤ 2 ∧ (c.k < 2 → c.v = .zero) ∧ (c.k = 1 → texty kind = true) ∧ (c.k = 2 → vErr c.v = 0 ∧ c.v.ty = kind) := by
  unfold cErr at h
  by_cases h1 : kind < 1 ∨ 6 < kind
  · rw [if_pos h1] at h; cases h
  rw [if_neg h1] at h
  by_cases h2 : 2 < c.k
  · rw [if_pos h2] at h; cases h
  rw [if_neg h2] at h
  by_cases h3 : c.k < 2
  · rw [if_pos h3] at h
    by_cases h4 : c.v ≠ .zero
    · rw [if_pos h4] at h; cases h
    rw [if_neg h4] at h
    by_cases h5 : c.k = 1 ∧ texty kind = false
    · rw [if_pos h5] at h; cases h
    refine ⟨by omega, by omega, by omega, fun _ => Decidable.byContradiction h4, fun a => ?_, fun a => by omega⟩
    cases ht : texty kind with
    | true => rfl
    | false => exact absurd ⟨a, ht⟩ h5
  · rw [if_neg h3] at h
    by_cases h4 : vErr c.v ≠ 0
    · rw [if_pos h4] at h; exact absurd h h4
    rw [if_neg h4] at h
    by_cases h5 : c.v.ty ≠ kind
    · rw [if_pos h5] at h; cases h
    exact ⟨by omega, by omega, by omega, fun a => by omega, fun a => by omega, fun _ => ⟨by omega, by omega⟩⟩
theorem textual {v : Val} (h : vErr v = 0) (ht : texty v.ty = true) : v = ⟨v.ty, 0, 0, 0, v.t⟩ ∧ v.t.length ≤ 2048 := by
  obtain ⟨e1, e2, e3, e4, e5, e6, e7, e8, e9⟩ := vErr_zero h
  rw [texty_iff] at ht
  obtain ⟨ty, i, re, im, t⟩ := v
  simp only at *
  have r0 := e3 (by omega); have r1 := e4 (by omega) (by omega); have r2 := e5 (by omega)
  subst r0 r1 r2
  exact ⟨rfl, e8⟩
theorem vBytes_text {ver : Nat} {v : Val} (ht : texty v.ty = true) : vBytes ver v = txt v.t := by
  rw [texty_iff] at ht
  unfold vBytes
  rw [if_neg (by omega), if_neg (by omega), if_neg (by omega), if_neg (by omega)]
theorem tPre_ok {ver kind : Nat} (s : RS) (hv : ver = 1 ∨ ver = 2) (h1 : 1 ≤ kind) (h6 : kind ≤ 6) : tPre ver kind s = s := by
  unfold tPre
  simp only
  rw [if_pos ⟨h1, h6⟩, if_pos hv]
theorem hereR_ok {kind : Nat} {t : List UInt8} (rest : List UInt8) (h : vErr ⟨kind, 0, 0, 0, t⟩ = 0) : hereR kind t.length (t ++ rest, 0) = (⟨2, ⟨kind, 0, 0, 0, t⟩⟩, (rest, 0)) := by
  unfold hereR
  rw [takeR_app]
  simp only
  rw [h]
  exact congrArg (Prod.mk _) (failR_zero _)
theorem awayR_ok {n : Nat} (rest : List UInt8) (h : 64 < n) (h2 : n ≤ 2048) : awayR (sev n ++ rest, 0) = (n, (rest, 0)) := by
  unfold awayR
  rw [uintR_sev 2048 n rest (by omega), if_pos h2]
  simp only
  rw [if_neg (by omega)]
theorem cTake_of {ver kind : Nat} {s : RS} {x : Cel × Nat} {rest : List UInt8} (hv : ver = 1 ∨ ver = 2) (h1 : 1 ≤ kind) (h6 : kind ≤ 6) (h : cRaw ver kind s = (x, (rest, 0))) : cTake ver kind s = (x, (rest, 0)) := by
  unfold cTake
  rw [tPre_ok s hv h1 h6, h]
  simp
theorem cBytes_large {ver : Nat} {v : Val} (hL : cLarge ⟨2, v⟩ = true) : cBytes ver ⟨2, v⟩ = UInt8.ofNat (3 - ver) :: sev v.t.length := by
  unfold cBytes; rw [if_neg (by simp), if_pos hL]
theorem cBytes_1 {v : Val} (hL : ¬ cLarge ⟨2, v⟩ = true) : cBytes 1 ⟨2, v⟩ = 1 :: vBytes 1 v := by
  unfold cBytes; rw [if_neg (by simp), if_neg hL, if_pos rfl]
theorem cBytes_2t {v : Val} (hL : ¬ cLarge ⟨2, v⟩ = true) (ht : texty v.ty = true) : cBytes 2 ⟨2, v⟩ = sev (v.t.length + 2) ++ v.t := by
  unfold cBytes; rw [if_neg (by simp), if_neg hL, if_neg (by decide), if_pos ht]
theorem cBytes_2p {v : Val} (hL : ¬ cLarge ⟨2, v⟩ = true) (ht : ¬ texty v.ty = true) : cBytes 2 ⟨2, v⟩ = vBytes 2 v := by
  unfold cBytes; rw [if_neg (by simp), if_neg hL, if_neg (by decide), if_neg ht]
theorem cRaw_1 (kind : Nat) (s : RS) : cRaw 1 kind s = partedR kind s := if_pos rfl
theorem cRaw_2t {kind : Nat} (s : RS) (h : texty kind = true) : cRaw 2 kind s = joinedR kind s := by unfold cRaw; rw [if_neg (by decide), if_pos h]
theorem cRaw_2p {kind : Nat} (s : RS) (h : ¬ texty kind = true) : cRaw 2 kind s = ((⟨2, (vTake 2 kind s).1⟩, 0), (vTake 2 kind s).2) := by unfold cRaw; rw [if_neg (by decide), if_neg h]
/-- WHAT IS PUT IS TAKEN. -/
theorem cTake_put {ver kind : Nat} {c : Cel} (rest : List UInt8) (hver : ver = 1 ∨ ver = 2) (hc : c.ok) (h : cErr c kind = 0) (h0 : c.k ≠ 0) : cTake ver kind (cBytes ver c ++ rest, 0) = ((cOut c, cLen c), (rest, 0)) := by
  obtain ⟨e1, e2, e3, e4, e5, e6⟩ := cErr_zero h
  refine cTake_of hver e1 e2 ?_
  obtain ⟨k, v⟩ := c
  simp only at e3 e4 e5 e6 h0
  have hk : k = 1 ∨ k = 2 := by omega
  rcases hk with rfl | rfl
  · have hv := e4 (by omega)
    subst hv
    have ht := e5 rfl
    have hL : cLarge ⟨1, .zero⟩ = false := rfl
    have hB : cBytes ver ⟨1, .zero⟩ = [0] := rfl
    rw [hB]
    unfold cOut cLen
    rw [hL]
    simp only [Bool.false_eq_true, if_false]
    rcases hver with rfl | rfl
    · rw [cRaw_1]
      unfold partedR headR
      rw [List.singleton_append, byteR_cons, if_pos (by rfl), if_neg (by rw [ht]; simp)]
      rfl
    · rw [cRaw_2t _ ht]
      unfold joinedR
      have hu : uintR 66 ([0] ++ rest, 0) = (0, (rest, 0)) := by
        have := uintR_sev 66 0 rest (by decide)
        rw [if_pos (by decide), sev_small (by decide)] at this
        exact this
      rw [hu, if_pos rfl]
      rfl
  · obtain ⟨hv, hty⟩ := e6 rfl
    subst hty
    by_cases hL : cLarge ⟨2, v⟩ = true
    · have hL' := hL
      unfold cLarge at hL'
      simp only [Bool.and_eq_true, decide_eq_true_eq] at hL'
      obtain ⟨⟨_, ht⟩, hlen⟩ := hL'
      obtain ⟨_, h48⟩ := textual hv ht
      unfold cOut cLen
      rw [if_pos hL, if_pos hL, cBytes_large hL]
      simp only
      rcases hver with rfl | rfl
      · rw [cRaw_1]
        have hb : byteR ((UInt8.ofNat (3 - 1) :: sev v.t.length) ++ rest, 0) = (2, (sev v.t.length ++ rest, 0)) := by rw [List.cons_append, byteR_cons]; rfl
        have hh : headR v.ty ((UInt8.ofNat (3 - 1) :: sev v.t.length) ++ rest, 0) = (sev v.t.length ++ rest, 0) := by
          unfold headR
          rw [hb, if_neg (by rw [ht]; simp)]
        unfold partedR
        rw [hb, hh, if_neg (by simp), if_pos rfl, awayR_ok rest hlen h48]
      · rw [cRaw_2t _ ht]
        have hb : uintR 66 ((UInt8.ofNat (3 - 2) :: sev v.t.length) ++ rest, 0) = (1, (sev v.t.length ++ rest, 0)) := by
          have := uintR_sev 66 1 (sev v.t.length ++ rest) (by decide)
          rw [if_pos (by decide), sev_small (by decide)] at this
          exact this
        unfold joinedR
        rw [hb, if_neg (by simp), if_pos rfl, awayR_ok rest hlen h48]
    · unfold cOut cLen
      rw [if_neg hL, if_neg hL]
      by_cases ht : texty v.ty = true
      · obtain ⟨hvt, h48⟩ := textual hv ht
        have hlen : v.t.length ≤ 64 := by
          unfold cLarge at hL
          simp only [Bool.and_eq_true, decide_eq_true_eq] at hL
          exact Nat.le_of_not_lt fun h => hL ⟨⟨trivial, ht⟩, h⟩
        have hv' : vErr ⟨v.ty, 0, 0, 0, v.t⟩ = 0 := by rw [← hvt]; exact hv
        rcases hver with rfl | rfl
        · rw [cBytes_1 hL, cRaw_1, vBytes_text ht]
          have hb : byteR ((1 :: txt v.t) ++ rest, 0) = (1, (txt v.t ++ rest, 0)) := by rw [List.cons_append, byteR_cons]; rfl
          have hh : headR v.ty ((1 :: txt v.t) ++ rest, 0) = (txt v.t ++ rest, 0) := by
            unfold headR
            rw [hb, if_neg (by simp)]
          have hu : uintR 64 (txt v.t ++ rest, 0) = (v.t.length, (v.t ++ rest, 0)) := by
            unfold txt
            rw [List.append_assoc, uintR_sev 64 v.t.length _ (by omega), if_pos hlen]
          unfold partedR
          rw [hb, hh, if_neg (by simp), if_neg (by simp), if_pos ht, hu]
          simp only
          rw [hereR_ok rest hv', ← hvt]
        · rw [cBytes_2t hL ht, cRaw_2t _ ht]
          have hu : uintR 66 (sev (v.t.length + 2) ++ v.t ++ rest, 0) = (v.t.length + 2, (v.t ++ rest, 0)) := by
            rw [List.append_assoc, uintR_sev 66 (v.t.length + 2) _ (by omega), if_pos (by omega)]
          unfold joinedR
          rw [hu, if_neg (by simp), if_neg (by simp)]
          simp only
          rw [Nat.add_sub_cancel, hereR_ok rest hv', ← hvt]
      · rcases hver with rfl | rfl
        · rw [cBytes_1 hL, cRaw_1]
          have hb : byteR ((1 :: vBytes 1 v) ++ rest, 0) = (1, (vBytes 1 v ++ rest, 0)) := by rw [List.cons_append, byteR_cons]; rfl
          have hh : headR v.ty ((1 :: vBytes 1 v) ++ rest, 0) = (vBytes 1 v ++ rest, 0) := by
            unfold headR
            rw [hb, if_neg (by simp)]
          unfold partedR
          rw [hb, hh, if_neg (by simp), if_neg (by simp), if_neg ht, vTake_put rest (.inl rfl) hc.2 hv]
        · rw [cBytes_2p hL ht, cRaw_2p _ ht, vTake_put rest (.inr rfl) hc.2 hv]
theorem failR_inv {s : RS} {e : Int} (h : (failR s e).2 = 0) : s.2 = 0 ∧ e = 0 ∧ failR s e = s := by
  have he : e = 0 := Decidable.byContradiction fun c => failR_ne s e c h
  subst he
  rw [failR_zero] at h ⊢
  exact ⟨h, rfl, rfl⟩
theorem awayR_inv {s : RS} (h : (awayR s).2.2 = 0) : s.1 = sev (awayR s).1 ++ (awayR s).2.1 ∧ s.2 = 0 ∧ 64 < (awayR s).1 ∧ (awayR s).1 ≤ 2048 := by
  unfold awayR at h ⊢
  simp only at h ⊢
  by_cases hn : (uintR 2048 s).1 < 65
  · rw [if_pos hn] at h; exact absurd (failR_inv h).2.1 (by decide)
  · rw [if_neg hn] at h ⊢
    obtain ⟨h1, h2⟩ := uintR_inv _ s h
    exact ⟨h1, h2, by omega, uintR_le _ _⟩
theorem hereR_inv {kind n : Nat} {s : RS} (h : (hereR kind n s).2.2 = 0) : ∃ t, t.length = n ∧ (hereR kind n s).1 = ⟨2, ⟨kind, 0, 0, 0, t⟩⟩ ∧ vErr ⟨kind, 0, 0, 0, t⟩ = 0 ∧ s.1 = t ++ (hereR kind n s).2.1 ∧ s.2 = 0 := by
  unfold hereR at h ⊢
  simp only at h ⊢
  obtain ⟨h1, h2, h3⟩ := failR_inv h
  obtain ⟨k1, k2, k3⟩ := takeR_inv n s h1
  refine ⟨_, k2, rfl, by omega, ?_, k3⟩
  rw [h3]
  exact k1
theorem fill_err {kind n : Nat} (hk : texty kind = true) (hn : n ≤ 2048) : vErr ⟨kind, 0, 0, 0, List.replicate n 97⟩ = 0 := by
  rw [texty_iff] at hk
  have hp : plainB (List.replicate n 97) = true := by
    unfold plainB
    rw [List.all_eq_true]
    intro b hb
    rw [List.eq_of_mem_replicate hb]
    rfl
  unfold vErr
  rw [if_neg (by simp only; omega), if_neg (by simp; omega), if_neg (by simp only; omega), if_neg (by simp; omega), if_neg (by simp [hp])]
theorem big_fill {kind n : Nat} : fillC (bigC kind) n = ⟨2, ⟨kind, 0, 0, 0, List.replicate n 97⟩⟩ := by unfold fillC bigC; simp
theorem big_large {kind n : Nat} (hk : texty kind = true) (hn : 64 < n) : cLarge ⟨2, ⟨kind, 0, 0, 0, List.replicate n 97⟩⟩ = true := by unfold cLarge; simp [hk, hn]
theorem cErr_full {v : Val} {kind : Nat} (h1 : 1 ≤ kind) (h6 : kind ≤ 6) (h : vErr v = 0) (hk : v.ty = kind) : cErr ⟨2, v⟩ kind = 0 := by
  unfold cErr
  rw [if_neg (by omega), if_neg (by simp), if_neg (by simp), if_neg (by simp only; omega), if_neg (by simp only; omega)]
theorem cErr_same {kind : Nat} (h1 : 1 ≤ kind) (h6 : kind ≤ 6) (hk : texty kind = true) : cErr sameC kind = 0 := by
  unfold cErr sameC
  rw [if_neg (by omega), if_neg (by simp), if_pos (by simp), if_neg (by simp), if_neg (by simp [hk])]
theorem okText {kind : Nat} {t : List UInt8} (h : kind < 256) : Cel.ok ⟨2, ⟨kind, 0, 0, 0, t⟩⟩ := by unfold Cel.ok Val.ok; simp; omega
/-- AND FROM NO OTHER BYTES. -/
theorem cTake_inv {ver kind : Nat} {s : RS} (hk : kind < 256) (h : (cTake ver kind s).2.2 = 0) :
    (ver = 1 ∨ ver = 2) ∧ s.2 = 0 ∧ cErr (fillC (cTake ver kind s).1.1 (cTake ver kind s).1.2) kind = 0 ∧ (fillC (cTake ver kind s).1.1 (cTake ver kind s).1.2).k ≠ 0 ∧ (fillC (cTake ver kind s).1.1 (cTake ver kind s).1.2).ok ∧
      s.1 = cBytes ver (fillC (cTake ver kind s).1.1 (cTake ver kind s).1.2) ++ (cTake ver kind s).2.1 ∧ (cTake ver kind s).1.2 ≤ 2048 := by
  have hraw : (cRaw ver kind (tPre ver kind s)).2.2 = 0 ∧ cTake ver kind s = cRaw ver kind (tPre ver kind s) := by
    unfold cTake at h ⊢
    by_cases hc : (cRaw ver kind (tPre ver kind s)).2.2 ≠ 0
    · rw [if_pos hc] at h; exact absurd h hc
    · exact ⟨by omega, by rw [if_neg hc]⟩
  obtain ⟨hr, he⟩ := hraw
  rw [he]
  have gone : ∀ s' : RS, s'.2 ≠ 0 → (cRaw ver kind s').2.2 ≠ 0 := by
    intro s' hs'
    have hb : (byteR s').2.2 ≠ 0 := fun c => hs' (byteR_inv s' c).2.1
    have hu : ∀ m, (uintR m s').2.2 ≠ 0 := fun m => uintR_err m s' hs'
    have hh : (headR kind s').2 ≠ 0 := by
      unfold headR
      split
      · rw [failR_err _ _ hb]; exact hb
      · exact hb
    have ha : ∀ q : RS, q.2 ≠ 0 → (awayR q).2.2 ≠ 0 := fun q hq c => hq (awayR_inv c).2.1
    have hre : ∀ n (q : RS), q.2 ≠ 0 → (hereR kind n q).2.2 ≠ 0 := fun n q hq c => by
      obtain ⟨_, _, _, _, _, c5⟩ := hereR_inv c
      exact hq c5
    have hvt : ∀ q : RS, q.2 ≠ 0 → (vTake ver kind q).2.2 ≠ 0 := fun q hq c => hq (vTake_inv hk c).2.2.1
    unfold cRaw
    split
    · unfold partedR
      split
      · exact hh
      split
      · exact ha _ hh
      split
      · exact hre _ _ (uintR_err _ _ hh)
      · exact fun c => hh (vTake_inv hk c).2.2.1
    split
    · unfold joinedR
      split
      · exact hu _
      split
      · exact ha _ (hu _)
      · exact hre _ _ (hu _)
    · exact hvt _ hs'
  have hpre : (tPre ver kind s).2 = 0 := Decidable.byContradiction fun c => gone _ c hr
  have hvk : (ver = 1 ∨ ver = 2) ∧ 1 ≤ kind ∧ kind ≤ 6 := by
    unfold tPre at hpre
    simp only at hpre
    by_cases hkk : 1 ≤ kind ∧ kind ≤ 6
    · rw [if_pos hkk] at hpre
      by_cases hv : ver = 1 ∨ ver = 2
      · exact ⟨hv, hkk⟩
      · rw [if_neg hv] at hpre; exact absurd (failR_inv hpre).2.1 (by decide)
    · rw [if_neg hkk] at hpre; exact absurd (failR_inv hpre).2.1 (by decide)
  obtain ⟨hv, hk1, hk6⟩ := hvk
  rw [tPre_ok s hv hk1 hk6] at hr hpre ⊢
  refine ⟨hv, hpre, ?_⟩
  have big : ∀ (q : RS), texty kind = true → (awayR q).2.2 = 0 → cErr (fillC (bigC kind) (awayR q).1) kind = 0 ∧ (fillC (bigC kind) (awayR q).1).k ≠ 0 ∧ (fillC (bigC kind) (awayR q).1).ok ∧ (cBytes ver (fillC (bigC kind) (awayR q).1) ++ (awayR q).2.1 = UInt8.ofNat (3 - ver) :: q.1) ∧ (awayR q).1 ≤ 2048 := by
    intro q ht hq
    obtain ⟨a1, a2, a3, a4⟩ := awayR_inv hq
    rw [big_fill]
    refine ⟨cErr_full hk1 hk6 (fill_err ht a4) rfl, by simp, okText hk, ?_, a4⟩
    unfold cBytes
    rw [if_neg (by simp), if_pos (big_large ht a3)]
    simp only [List.length_replicate, List.cons_append]
    rw [← a1]
  have here : ∀ (n : Nat) (q : RS), texty kind = true → n ≤ 64 → (hereR kind n q).2.2 = 0 → ∃ t, t.length = n ∧ (hereR kind n q).1 = ⟨2, ⟨kind, 0, 0, 0, t⟩⟩ ∧ cErr ⟨2, ⟨kind, 0, 0, 0, t⟩⟩ kind = 0 ∧ cLarge ⟨2, ⟨kind, 0, 0, 0, t⟩⟩ = false ∧ q.1 = t ++ (hereR kind n q).2.1 := by
    intro n q ht hn hq
    obtain ⟨t, b1, b2, b3, b4, b5⟩ := hereR_inv hq
    refine ⟨t, b1, b2, cErr_full hk1 hk6 b3 rfl, ?_, b4⟩
    unfold cLarge
    simp [ht]; omega
  have plain : ∀ (q : RS), texty kind = false → (vTake ver kind q).2.2 = 0 → cErr ⟨2, (vTake ver kind q).1⟩ kind = 0 ∧ Cel.ok ⟨2, (vTake ver kind q).1⟩ ∧ q.1 = vBytes ver (vTake ver kind q).1 ++ (vTake ver kind q).2.1 ∧ (vTake ver kind q).1.ty = kind := by
    intro q ht hq
    obtain ⟨c1, c2, c3, c4, c5, c6⟩ := vTake_inv hk hq
    exact ⟨cErr_full hk1 hk6 c6 c4, ⟨by simp, c5⟩, c2, c4⟩
  have notL : ∀ v : Val, v.ty = kind → texty kind = false → cLarge ⟨2, v⟩ = false := fun v e ht => by unfold cLarge; rw [e, ht]; simp
  unfold cRaw at hr ⊢
  rcases hv with rfl | rfl
  · rw [if_pos rfl] at hr ⊢
    unfold partedR at hr ⊢
    have hhead : (headR kind s).2 = 0 → s.1 = UInt8.ofNat (byteR s).1 :: (headR kind s).1 ∧ (byteR s).1 ≤ 2 ∧ ((byteR s).1 ≠ 1 → texty kind = true) := by
      intro hh
      unfold headR at hh ⊢
      by_cases hc : 2 < (byteR s).1 ∨ ((byteR s).1 ≠ 1 ∧ texty kind = false)
      · rw [if_pos hc] at hh; exact absurd (failR_inv hh).2.1 (by decide)
      · rw [if_neg hc] at hh ⊢
        obtain ⟨d1, d2, d3⟩ := byteR_inv s hh
        refine ⟨d1, by omega, fun c => ?_⟩
        cases ht : texty kind with
        | true => rfl
        | false => exact absurd (.inr ⟨c, ht⟩) hc
    by_cases f0 : (byteR s).1 = 0
    · rw [if_pos f0] at hr ⊢
      simp only at hr ⊢
      obtain ⟨d1, d2, d3⟩ := hhead hr
      have ht := d3 (by omega)
      rw [fillC_zero]
      refine ⟨cErr_same hk1 hk6 ht, by decide, by unfold Cel.ok sameC Val.ok Val.zero; simp, ?_, by omega⟩
      rw [d1, f0]
      rfl
    rw [if_neg f0] at hr ⊢
    by_cases f2 : (byteR s).1 = 2
    · rw [if_pos f2] at hr ⊢
      simp only at hr ⊢
      have hh := (awayR_inv hr).2.1
      obtain ⟨d1, d2, d3⟩ := hhead hh
      obtain ⟨g1, g2, g3, g4, g5⟩ := big _ (d3 (by omega)) hr
      refine ⟨g1, g2, g3, ?_, g5⟩
      rw [g4, d1, f2]
    rw [if_neg f2] at hr ⊢
    by_cases ht : texty kind = true
    · rw [if_pos ht] at hr ⊢
      simp only at hr ⊢
      obtain ⟨_, _, _, _, _, hu⟩ := hereR_inv hr
      obtain ⟨u1, u2⟩ := uintR_inv _ _ hu
      obtain ⟨d1, d2, d3⟩ := hhead u2
      obtain ⟨t, b1, b2, b3, b4, b5⟩ := here _ _ ht (uintR_le _ _) hr
      rw [b2, fillC_zero]
      refine ⟨b3, by simp, okText hk, ?_, by omega⟩
      unfold cBytes
      rw [if_neg (by simp), if_neg (by rw [b4]; simp), if_pos rfl, vBytes_text ht]
      unfold txt
      simp only
      rw [d1, show (byteR s).1 = 1 by omega, u1, b5, b1]
      simp
    · rw [if_neg ht] at hr ⊢
      simp only at hr ⊢
      have htf : texty kind = false := by simpa using ht
      have hh := (vTake_inv hk hr).2.2.1
      obtain ⟨d1, d2, d3⟩ := hhead hh
      obtain ⟨g1, g2, g3, g4⟩ := plain _ htf hr
      rw [fillC_zero]
      refine ⟨g1, by simp, g2, ?_, by omega⟩
      unfold cBytes
      rw [if_neg (by simp), if_neg (by rw [notL _ g4 htf]; simp), if_pos rfl, d1, show (byteR s).1 = 1 by omega, g3]
      rfl
  · rw [if_neg (by decide)] at hr ⊢
    by_cases ht : texty kind = true
    · rw [if_pos ht] at hr ⊢
      unfold joinedR at hr ⊢
      by_cases f0 : (uintR 66 s).1 = 0
      · rw [if_pos f0] at hr ⊢
        simp only at hr ⊢
        obtain ⟨u1, u2⟩ := uintR_inv _ _ hr
        rw [fillC_zero]
        refine ⟨cErr_same hk1 hk6 ht, by decide, by unfold Cel.ok sameC Val.ok Val.zero; simp, ?_, by omega⟩
        rw [u1, f0, sev_small (by decide)]
        rfl
      rw [if_neg f0] at hr ⊢
      by_cases f1 : (uintR 66 s).1 = 1
      · rw [if_pos f1] at hr ⊢
        simp only at hr ⊢
        obtain ⟨u1, u2⟩ := uintR_inv _ _ (awayR_inv hr).2.1
        obtain ⟨g1, g2, g3, g4, g5⟩ := big _ ht hr
        refine ⟨g1, g2, g3, ?_, g5⟩
        rw [g4, u1, f1, sev_small (by decide)]
        rfl
      · rw [if_neg f1] at hr ⊢
        simp only at hr ⊢
        obtain ⟨_, _, _, _, _, hu⟩ := hereR_inv hr
        obtain ⟨u1, u2⟩ := uintR_inv _ _ hu
        have hle := uintR_le 66 s
        obtain ⟨t, b1, b2, b3, b4, b5⟩ := here _ _ ht (by omega) hr
        rw [b2, fillC_zero]
        refine ⟨b3, by simp, okText hk, ?_, by omega⟩
        unfold cBytes
        rw [if_neg (by simp), if_neg (by rw [b4]; simp), if_neg (by decide), if_pos ht]
        simp only
        rw [u1, b5, b1, show (uintR 66 s).1 - 2 + 2 = (uintR 66 s).1 by omega, List.append_assoc]
    · rw [if_neg ht] at hr ⊢
      simp only at hr ⊢
      have htf : texty kind = false := by simpa using ht
      obtain ⟨g1, g2, g3, g4⟩ := plain _ htf hr
      rw [fillC_zero]
      refine ⟨g1, by simp, g2, ?_, by omega⟩
      unfold cBytes
      rw [if_neg (by simp), if_neg (by rw [notL _ g4 htf]; simp), if_neg (by decide), if_neg (by simp only; rw [g4]; exact ht), g3]
end Go.Proofs.Ytcejjckhhdgdnaa
