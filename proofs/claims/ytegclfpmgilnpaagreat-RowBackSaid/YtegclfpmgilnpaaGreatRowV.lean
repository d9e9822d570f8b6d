import Derived.Test.YtegclfpmgilnpaaGreatGRowC
namespace Go.Proofs.YtegclfpmgilnpaaGreat
open Go.RowKit Go.Lac
theorem partedR_lack {kind : Nat} {s : RS} (h : byteR s = (0, ([], 1))) : (partedR kind s).2 = ([], 1) := by
  unfold partedR headR
  rw [h, if_pos rfl]
  simp only
  split
  · exact failR_gone (by decide) _
  · rfl
theorem joinedR_lack {kind : Nat} {s : RS} (h : uintR 66 s = (0, ([], 1))) : (joinedR kind s).2 = ([], 1) := by
  unfold joinedR
  rw [h, if_pos rfl]
theorem hereR_lack {kind n : Nat} {s : RS} (h : (takeR n s).2 = ([], 1)) : (hereR kind n s).2 = ([], 1) := by
  unfold hereR
  simp only
  rw [h]
  exact failR_gone (by decide) _
theorem awayR_lack {s : RS} (h : uintR 2048 s = (0, ([], 1))) : (awayR s).2 = ([], 1) := by
  unfold awayR
  rw [h]
  simp only
  rw [if_pos (by decide)]
  exact failR_gone (by decide) _
theorem cRaw_lack {ver kind : Nat} (hver : ver = 1 ∨ ver = 2) : (cRaw ver kind ([], 1)).2 = ([], 1) := by
  rcases hver with rfl | rfl
  · rw [cRaw_1]
    exact partedR_lack (byteR_gone' (by decide))
  · by_cases ht : texty kind = true
    · rw [cRaw_2t _ ht]
      exact joinedR_lack (uintR_gone 66)
    · rw [cRaw_2p _ ht, vTake_gone (by decide)]
theorem cTake_lack {ver kind : Nat} {s : RS} (hver : ver = 1 ∨ ver = 2) (h1 : 1 ≤ kind) (h6 : kind ≤ 6) (h : (cRaw ver kind s).2 = ([], 1)) : (cTake ver kind s).2 = ([], 1) := by
  unfold cTake
  rw [tPre_ok s hver h1 h6, h, if_pos (by decide)]
theorem uintR_nil (m : Nat) : uintR m ([], 0) = (0, ([], 1)) := by
  have := uintR_cut m 0 0 (by decide) (by rw [sev_small (by decide)]; decide)
  rwa [List.take_zero] at this
theorem cRaw_cut {ver kind : Nat} {c : Cel} (hver : ver = 1 ∨ ver = 2) (hc : c.ok) (h : cErr c kind = 0) (h0 : c.k ≠ 0) {m : Nat} (hm : m < (cBytes ver c).length) : (cRaw ver kind ((cBytes ver c).take m, 0)).2 = ([], 1) := by
  obtain ⟨e1, e2, e3, e4, e5, e6⟩ := cErr_zero h
  have nil : (cRaw ver kind ([], 0)).2 = ([], 1) := by
    rcases hver with rfl | rfl
    · rw [cRaw_1]; exact partedR_lack byteR_nil
    · by_cases ht : texty kind = true
      · rw [cRaw_2t _ ht]; exact joinedR_lack (uintR_nil 66)
      · rw [cRaw_2p _ ht]
        obtain ⟨hv, hty⟩ := e6 (Nat.le_antisymm e3 (Nat.succ_le_of_lt (Nat.lt_of_le_of_ne (Nat.one_le_iff_ne_zero.2 h0) fun e => ht (e5 e.symm))))
        subst hty
        have hlen : 0 < (vBytes 2 c.v).length := by
          have hL : ¬ cLarge c = true := by unfold cLarge; simp [ht]
          have : cBytes 2 c = vBytes 2 c.v := by
            unfold cBytes
            rw [if_neg (fun e => ht (e5 e)), if_neg hL, if_neg (by decide), if_neg ht]
          rw [this] at hm; omega
        have := vTake_cut (ver := 2) (k := 0) (by decide) hc.2 hv hlen
        rw [List.take_zero] at this
        rw [this]
  match m, hm with
  | 0, _ => rw [List.take_zero]; exact nil
  | m + 1, hm =>
  clear nil
  obtain ⟨k, v⟩ := c
  simp only at e3 e4 e5 e6 h0
  have hk : k = 1 ∨ k = 2 := by omega
  rcases hk with rfl | rfl
  · have hB : (cBytes ver ⟨1, v⟩).length = 1 := by unfold cBytes; rw [if_pos rfl]; rfl
    omega
  obtain ⟨hv, hty⟩ := e6 rfl
  subst hty
  by_cases hL : cLarge ⟨2, v⟩ = true
  · have hL' := hL
    unfold cLarge at hL'
    simp only [Bool.and_eq_true, decide_eq_true_eq] at hL'
    obtain ⟨⟨_, ht⟩, hlen⟩ := hL'
    obtain ⟨_, h48⟩ := textual hv ht
    rw [cBytes_large hL] at hm ⊢
    rw [List.take_succ_cons]
    rw [List.length_cons] at hm
    have hcut := uintR_cut 2048 v.t.length m (by omega) (by omega)
    rcases hver with rfl | rfl
    · rw [cRaw_1]
      have hb : byteR (UInt8.ofNat (3 - 1) :: (sev v.t.length).take m, 0) = (2, ((sev v.t.length).take m, 0)) := by rw [byteR_cons]; rfl
      have hh : headR v.ty (UInt8.ofNat (3 - 1) :: (sev v.t.length).take m, 0) = ((sev v.t.length).take m, 0) := by
        unfold headR
        rw [hb, if_neg (by rw [ht]; simp)]
      unfold partedR
      rw [hb, hh, if_neg (by simp), if_pos rfl]
      exact awayR_lack hcut
    · rw [cRaw_2t _ ht]
      have hb : uintR 66 (UInt8.ofNat (3 - 2) :: (sev v.t.length).take m, 0) = (1, ((sev v.t.length).take m, 0)) := by
        have := uintR_sev 66 1 ((sev v.t.length).take m) (by decide)
        rw [if_pos (by decide), sev_small (by decide)] at this
        exact this
      unfold joinedR
      rw [hb, if_neg (by simp), if_pos rfl]
      exact awayR_lack hcut
  by_cases ht : texty v.ty = true
  · have hlen : v.t.length ≤ 64 := by
      unfold cLarge at hL
      simp only [Bool.and_eq_true, decide_eq_true_eq] at hL
      exact Nat.le_of_not_lt fun h => hL ⟨⟨trivial, ht⟩, h⟩
    rcases hver with rfl | rfl
    · rw [cBytes_1 hL, vBytes_text ht] at hm ⊢
      rw [cRaw_1, List.take_succ_cons]
      rw [List.length_cons] at hm
      have hb : byteR (1 :: (txt v.t).take m, 0) = (1, ((txt v.t).take m, 0)) := by rw [byteR_cons]; rfl
      have hh : headR v.ty (1 :: (txt v.t).take m, 0) = ((txt v.t).take m, 0) := by
        unfold headR
        rw [hb, if_neg (by simp)]
      unfold partedR
      rw [hb, hh, if_neg (by simp), if_neg (by simp), if_pos ht]
      simp only
      unfold txt at hm ⊢
      rw [List.length_append] at hm
      by_cases hs : m < (sev v.t.length).length
      · rw [List.take_append_of_le_length (by omega), uintR_cut 64 v.t.length m (by omega) hs]
        exact hereR_lack (by unfold takeR; simp)
      · rw [List.take_append, List.take_of_length_le (by omega), uintR_sev 64 v.t.length _ (by omega), if_pos hlen]
        exact hereR_lack (by rw [takeR_short (by rw [List.length_take]; omega)])
    · rw [cBytes_2t hL ht] at hm ⊢
      rw [cRaw_2t _ ht]
      rw [List.length_append] at hm
      unfold joinedR
      by_cases hs : m + 1 < (sev (v.t.length + 2)).length
      · rw [List.take_append_of_le_length (by omega), uintR_cut 66 _ _ (by omega) hs, if_pos rfl]
      · rw [List.take_append, List.take_of_length_le (by omega), uintR_sev 66 (v.t.length + 2) _ (by omega), if_pos (show v.t.length + 2 ≤ 66 by omega)]
        simp only
        rw [if_neg (show ¬ v.t.length + 2 = 0 by omega), if_neg (show ¬ v.t.length + 2 = 1 by omega), Nat.add_sub_cancel]
        exact hereR_lack (by rw [takeR_short (by rw [List.length_take]; omega)])
  · rcases hver with rfl | rfl
    · rw [cBytes_1 hL] at hm ⊢
      rw [cRaw_1, List.take_succ_cons]
      rw [List.length_cons] at hm
      have hb : byteR (1 :: (vBytes 1 v).take m, 0) = (1, ((vBytes 1 v).take m, 0)) := by rw [byteR_cons]; rfl
      have hh : headR v.ty (1 :: (vBytes 1 v).take m, 0) = ((vBytes 1 v).take m, 0) := by
        unfold headR
        rw [hb, if_neg (by simp)]
      unfold partedR
      rw [hb, hh, if_neg (by simp), if_neg (by simp), if_neg ht]
      simp only
      rw [vTake_cut (ver := 1) (k := m) (v := v) (by decide) hc.2 hv (by omega)]
    · rw [cBytes_2p hL ht] at hm ⊢
      rw [cRaw_2p _ ht, vTake_cut (by decide) hc.2 hv hm]
theorem cut_cell {ver kind : Nat} {c : Cel} (hver : ver = 1 ∨ ver = 2) (hc : c.ok) (h : cErr c kind = 0) (h0 : c.k ≠ 0) : CutAt (fun s => (cTake ver kind s).2) (cBytes ver c) := by
  obtain ⟨e1, e2, _⟩ := cErr_zero h
  exact ⟨fun k hk => cTake_lack hver e1 e2 (cRaw_cut hver hc h h0 hk), cTake_lack hver e1 e2 (cRaw_lack hver)⟩
theorem encC_take (ver : Nat) {l : List Cel} {k : Nat} (h : k < l.length) : encC ver (l.take (k + 1)) = encC ver (l.take k) ++ (if l[k].k = 0 then [] else cBytes ver l[k]) := by
  rw [List.take_succ_eq_append_getElem h, encC_snoc]
theorem rowAt_go {ver : Nat} {r : Rl} {l : List Cel} (hver : ver = 1 ∨ ver = 2) (hok : ∀ c ∈ l, c.ok) (hf : fitsE r l = 0) :
    ∀ k, k ≤ l.length → ∀ rest, (rowAt ver (nullsOf l) r.cols (encC ver (l.take k) ++ rest, 0) k).2 = (rest, 0)
  | 0, _, rest => by simp [rowAt, encC]
  | k + 1, h, rest => by
    obtain ⟨_, hlen, hcz⟩ := fits_zero hf
    have hk : k < l.length := by omega
    have hce := hcz k hk (by omega)
    rw [rowAt, nullsOf_getD hk, colTy_at (show k < r.cols.length by omega), encC_take ver hk, List.append_assoc]
    have ih := rowAt_go hver hok hf k (by omega) ((if l[k].k = 0 then [] else cBytes ver l[k]) ++ rest)
    by_cases h0 : l[k].k = 0
    · rw [decide_eq_true h0, rowStep_null, ih, if_pos h0]; rfl
    · rw [decide_eq_false h0, rowStep_full, ih, if_neg h0]
      simp only
      rw [cTake_put _ hver (hok _ (List.getElem_mem hk)) hce h0]
def rowSt (ver : Nat) (nulls : List Bool) (cols : List Col) (k : Nat) (s : RS) : RS := (rowAt ver nulls cols s k).2
theorem rowSt_null {ver : Nat} {nulls : List Bool} {cols : List Col} {k : Nat} (h : nulls.getD k false = true) (s : RS) : rowSt ver nulls cols (k + 1) s = rowSt ver nulls cols k s := by
  unfold rowSt
  rw [rowAt, h, rowStep_null]
theorem rowSt_full {ver : Nat} {nulls : List Bool} {cols : List Col} {k : Nat} (h : nulls.getD k false = false) (s : RS) : rowSt ver nulls cols (k + 1) s = (cTake ver (colTy cols k) (rowSt ver nulls cols k s)).2 := by
  unfold rowSt
  rw [rowAt, h, rowStep_full]
theorem rowSt_zero (ver : Nat) (nulls : List Bool) (cols : List Col) (s : RS) : rowSt ver nulls cols 0 s = s := rfl
theorem rowSt_go {ver : Nat} {r : Rl} {l : List Cel} (hver : ver = 1 ∨ ver = 2) (hok : ∀ c ∈ l, c.ok) (hf : fitsE r l = 0) {k : Nat} (hk : k ≤ l.length) (rest : List UInt8) : rowSt ver (nullsOf l) r.cols k (encC ver (l.take k) ++ rest, 0) = (rest, 0) := rowAt_go hver hok hf k hk rest
theorem cut_at {ver : Nat} {r : Rl} {l : List Cel} (hver : ver = 1 ∨ ver = 2) (hok : ∀ c ∈ l, c.ok) (hf : fitsE r l = 0) (k : Nat) : k ≤ l.length → CutAt (rowSt ver (nullsOf l) r.cols k) (encC ver (l.take k)) := by
  induction k with
  | zero => exact fun _ => ⟨fun k hk => by simp [encC] at hk, rowSt_zero _ _ _ _⟩
  | succ k ih =>
    intro h
    obtain ⟨_, hlen, hcz⟩ := fits_zero hf
    have hk : k < l.length := by omega
    have hce := hcz k hk (by omega)
    have ih := ih (by omega)
    have hg := fun rest => rowSt_go hver hok hf (show k ≤ l.length by omega) rest
    rw [encC_take ver hk]
    by_cases h0 : l[k].k = 0
    · have e : rowSt ver (nullsOf l) r.cols (k + 1) = rowSt ver (nullsOf l) r.cols k := funext fun s => rowSt_null (by rw [nullsOf_getD hk, decide_eq_true h0]) s
      rw [e, if_pos h0, List.append_nil]
      exact ih
    · have e : rowSt ver (nullsOf l) r.cols (k + 1) = fun s => (cTake ver (colTy r.cols k) (rowSt ver (nullsOf l) r.cols k s)).2 := funext fun s => rowSt_full (by rw [nullsOf_getD hk, decide_eq_false h0]) s
      rw [e, if_neg h0]
      generalize rowSt ver (nullsOf l) r.cols k = p at *
      have hcell : CutAt (fun s => (cTake ver (colTy r.cols k) s).2) (cBytes ver l[k]) := by
        rw [colTy_at (show k < r.cols.length by omega)]
        exact cut_cell hver (hok _ (List.getElem_mem hk)) hce h0
      exact cut_seq (q := fun s => (cTake ver (colTy r.cols k) s).2) hg ih hcell
theorem rowTake_cut {ver : Nat} {r : Rl} {l : List Cel} {m : Nat} (hver : ver = 1 ∨ ver = 2) (hok : ∀ c ∈ l, c.ok) (hf : fitsE r l = 0) (hm : m < (encB ver l).length) :
    rowTake ver r ((encB ver l).take m, 0) = (([], []), ([], 1)) := by
  obtain ⟨h1, h2, _⟩ := fits_zero hf
  have h16 := fits_len16 hf
  have hn : (nullsOf l).length = r.cols.length := by simp [nullsOf, h2]
  have hsz : (mapB (nullsOf l)).length = sizeN r.cols.length := by rw [mapB_length _ (by omega), hn]
  obtain ⟨u1, u2⟩ := unp_pack (l := nullsOf l) (by omega)
  rw [hn] at u1 u2
  unfold encB at hm ⊢
  rw [List.length_append] at hm
  unfold rowTake
  rw [rowPre_ok _ hver h1, if_neg (by simp)]
  by_cases hs : m < (mapB (nullsOf l)).length
  · rw [List.take_append_of_le_length (by omega), takeR_short (by rw [List.length_take]; omega)]
    simp
  · have ht : takeR (sizeN r.cols.length) ((mapB (nullsOf l) ++ encC ver l).take m, 0) = (mapB (nullsOf l), ((encC ver l).take (m - (mapB (nullsOf l)).length), 0)) := by
      rw [List.take_append, List.take_of_length_le (by omega), ← hsz, takeR_app]
    have hc := (cut_at hver hok hf l.length (Nat.le_refl _)).1 (m - (mapB (nullsOf l)).length) (by rw [List.take_length]; omega)
    unfold rowSt at hc
    rw [List.take_length] at hc
    rw [ht]
    simp only
    rw [if_neg (by simp), u1, if_neg (by simp), u2, ← h2, hc, if_pos (by simp)]
end Go.Proofs.YtegclfpmgilnpaaGreat
