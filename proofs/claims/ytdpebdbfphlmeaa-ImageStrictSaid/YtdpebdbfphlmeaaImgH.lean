/-
  Images: IsKey and IsFull, the program's; the document's keyed, IsKey, IsFull. MADE BY mkImgH.py
-/
import Derived.Test.YtdpebdbfphlmeaaImgG
namespace Go.Proofs.Ytdpebdbfphlmeaa
open Go.RowKit Go.Lac

theorem isKey_err {r : Rl} {l : List Cel} (h : keyedE r l ≠ 0) : isKeyE r l = keyedE r l := by unfold isKeyE; rw [if_pos h]
theorem isKey_first {r : Rl} {l : List Cel} (h : keyedE r l = 0) : isKeyE r l = firstN (two isKeyC l r.cols) l.length := by unfold isKeyE; rw [if_neg (fun hn => hn h)]
theorem isFull_err {r : Rl} {l : List Cel} (h : keyedE r l ≠ 0) : isFullE r l = keyedE r l := by unfold isFullE; rw [if_pos h]
theorem isFull_first {r : Rl} {l : List Cel} (h : keyedE r l = 0) : isFullE r l = firstN (two isFullC l r.cols) l.length := by unfold isFullE; rw [if_neg (fun hn => hn h)]
theorem keyed_len {r : Rl} {l : List Cel} (h : keyedE r l = 0) : l.length = r.cols.length := fits_len (keyed_fits h)
theorem isFullC_1 {c : Cel} {q : Col} (h : c.k = 1) : isFullC c q = 14 := by unfold isFullC; rw [if_pos h]
theorem isFullC_n {c : Cel} {q : Col} (h : ¬ c.k = 1) : isFullC c q = 0 := by unfold isFullC; rw [if_neg h]
theorem isKeyC_k {c : Cel} {q : Col} (h : q.key = true) : isKeyC c q = 0 := by unfold isKeyC; rw [h]; simp
theorem isKeyC_0 {c : Cel} {q : Col} (h : c.k = 0) : isKeyC c q = 0 := by unfold isKeyC; rw [if_neg]; exact fun h' => h'.2 h
theorem isKeyC_n {c : Cel} {q : Col} (h : q.key = false) (h' : ¬ c.k = 0) : isKeyC c q = 14 := by unfold isKeyC; rw [if_pos ⟨h, h'⟩]
theorem keyC_0 {c : Cel} {q : Col} (h : q.key = true) (h' : c.k = 0) : keyC c q = 12 := by rw [keyC_on h, if_pos h']
theorem keyC_1 {c : Cel} {q : Col} (h : q.key = true) (h' : c.k = 1) : keyC c q = 13 := by rw [keyC_on h, if_neg (by omega), if_pos h']
theorem keyC_n {c : Cel} {q : Col} (h : q.key = true) (h0 : ¬ c.k = 0) (h1 : ¬ c.k = 1) : keyC c q = 0 := by rw [keyC_on h, if_neg h0, if_neg h1]
theorem first_snoc {f : Cel → Col → Nat} {l : List Cel} {qs : List Col} {k : Nat} (h : ∀ j, j < k → two f l qs j = 0) (hk : two f l qs k = 0) : ∀ j, j < k + 1 → two f l qs j = 0 := fun j hj => by
  rcases Nat.lt_or_ge j k with h' | h'
  · exact h j h'
  · obtain rfl : j = k := by omega
    exact hk
set_option maxRecDepth 20000 in
set_option maxHeartbeats 4000000 in
theorem rkeyed_any (r : Rl) (cv vw : Value) (l : List Cel) (w : World) (hb : ColS w cv r.cols) (hf : r.fits) (hl : r.cols.length ≤ 1000000) (hv : RcS w vw l) :
    Calls Try.prog 30 #[.agg (relv r cv), vw] w fun e w' => e = .returned (.int .i64 (keyedE r l : Nat)) ∧ Ext w w' := by
  have h1 := heap_alloc_new w (.cells (relv r cv) 27)
  obtain ⟨W, hW⟩ : ∃ W, W = w.alloc (.cells (relv r cv) 27) := ⟨_, rfl⟩
  have hx : Ext w W := by rw [hW]; exact (Ch.refl _ _).alloc _
  rw [← hW] at h1
  have HB := Lib.hid (ColS.ext hb hx); have HV := Lib.hid (RcS.ext hv hx)
  have HKD := Lib.hid (rfits_any r cv vw l W HB.out hf HV.out)
  obtain ⟨ao, cap, rfl, hlc, hcm, _⟩ := id hb
  obtain ⟨vo, vcap, rfl, k1, k2⟩ := hv.shape
  have c4 : W.cell? ⟨w.heap.size, 4, none⟩ = some (.slice ao r.cols.length cap) := by rw [cell_of_row _ _ _ _ _ _ h1]; rfl
  have HC4 := Lib.hid c4; have HX := Lib.hid hx; have HW := Lib.hid hW
  have HF1 := Lib.hid (@keyed_err r l); have HF2 := Lib.hid (@keyed_first r l); have HFL := Lib.hid (@fits_len r l)
  generalize keyedE r l = E at *
  have hvl : l.length ≤ 9223372036854775807 := by unfold maxLen at k2; omega
  obtain ⟨ci, chi, _, chs, _⟩ := info_parts infoRrZ
  have CHV := Lib.hid chi; have CSV := Lib.hid chs
  obtain ⟨qi, qhi, _, qhs, _⟩ := info_parts infoRCZ
  have CHQ := Lib.hid qhi; have CSQ := Lib.hid qhs
  clear h1 hx hW hb hf hv c4 chi chs qhi qhs hlc hcm k1 k2 hl
  by_cases hE : fitsE r l = 0
  case neg =>
    have HEE := Lib.hid (HF1.out hE)
    have hne : (((fitsE r l : Nat) : Int) == 0) = false := beq_eq_false_iff_ne.2 (by omega)
    have hne2 : (((fitsE r l : Nat) : Int) != 0) = true := by rw [bne, hne]; rfl
    clear HF1 HF2 HFL hE hvl HB HV
    generalize fitsE r l = E0 at *
    generalize r.cols.length = nq at *
    generalize l.length = nv at *
    unfold relv strV at *
    generalize (⟨r.name.toArray⟩ : ByteArray) = A1 at *
    generalize r.oid = o1 at *
    generalize r.ver = o2 at *
    generalize r.ident = o3 at *
    go_enter Try.func30, Try.ntmps30
    go_wp2_with fail
    rw [← HW.out]
    refine HKD.out.mono ?_
    rintro e w2 ⟨rfl, hx2⟩
    have HX2 := Lib.hid hx2; clear hx2
    go_wp2
    go_ret
    exact ⟨by rw [HEE.out]; rfl, HX.out.trans HX2.out⟩
  have HKD0 : Hid (Calls Try.prog 43 #[.slice vo l.length vcap, .agg (relv r (.slice ao r.cols.length cap))] W fun e w' => e = .returned (.int .i64 0) ∧ Ext W w') := Lib.hid (HKD.out.mono fun e w' h => ⟨by rw [h.1, hE]; rfl, h.2⟩)
  have HEE := Lib.hid (HF2.out hE); have hlen := HFL.out hE
  clear HF1 HF2 HFL hE HKD
  generalize hn : r.cols.length = n at *
  rw [hlen] at HV HEE HKD0 hvl ⊢
  have HNV := Lib.hid hlen; have HNQ := Lib.hid hn
  clear hlen hn
  generalize r.cols = qs at *
  unfold relv strV at *
  generalize (⟨r.name.toArray⟩ : ByteArray) = A1 at *
  generalize r.oid = o1 at *
  generalize r.ver = o2 at *
  generalize r.ident = o3 at *
  go_enter Try.func30, Try.ntmps30
  go_wp2_with fail
  rw [← HW.out]
  refine HKD0.out.mono ?_
  rintro e w2 ⟨rfl, hx2⟩
  have HX2 := Lib.hid hx2; clear hx2 HKD0
  go_wp2
  go_loopw [6] (fun ix wr => ∃ k : Nat, k ≤ n ∧ ix = .int .i64 k ∧ Hid (Ext W wr) ∧ Hid (∀ j, j < k → two keyC l qs j = 0)) (fun ix _ => n - (intOf ix).toNat)
  case atStart => exact ⟨0, Nat.zero_le _, rfl, HX2, Lib.hid fun j hj => absurd hj (Nat.not_lt_zero _)⟩
  case round =>
    obtain ⟨k, hk, rfl, HXR, HP⟩ := hrel
    by_cases hlt : k < n
    · have hkv : k < l.length := by have := HNV.out; omega
      have hkq : k < qs.length := by have := HNQ.out; omega
      obtain ⟨vb, vo2, rfl, hra0⟩ := HV.out.at hkv
      obtain ⟨cb, co, rfl, hrq0⟩ := colS_at (ColS.ext HB.out HXR.out) hkq
      have hra := rangeAt_ext hra0 HXR.out
      have HT2 := Lib.hid (two_at keyC hkv hkq)
      generalize l[k] = x at *
      have HQ2 : Hid (W.cell? ⟨cb, co + k * 3 + 2, none⟩ = some (.bool qs[k].key)) := Lib.hid (by
        obtain ⟨cb', co', e, hr0⟩ := colS_at HB.out hkq
        cases e; exact hr0 2 _ rfl)
      generalize qs[k] = q at *
      have HLT := Lib.hid hlt
      have hidx := run_indexSl wr Try.underlying28 CHV.out CSV.out vb vo2 n vcap k hlt
      have q0 : wr.cell? ⟨vb, vo2 + k * 6, none⟩ = some (.int .u8 (x.k : Nat)) := by have := hra 0 _ rfl; simpa using this
      have HX3 := HXR
      have hidq := run_indexSl wr Try.underlying25 CHQ.out CSQ.out cb co n cap k hlt
      have p2 : wr.cell? ⟨cb, co + k * 3 + 2, none⟩ = some (.bool q.key) := HX3.out.cell (p := ⟨cb, co + k * 3 + 2, none⟩) (fun f => f) _ HQ2.out
      have c4 : wr.cell? ⟨w.heap.size, 4, none⟩ = some (.slice (some ⟨cb, co, none⟩) n cap) := HX3.out.cell (p := ⟨w.heap.size, 4, none⟩) (fun f => f) _ HC4.out
      clear hra0 hra hrq0 hkv hkq
      cases hkq : q.key with
      | false =>
        · rw [hkq] at p2
          have HPK := Lib.hid (first_snoc HP.out (by rw [HT2.out]; exact keyC_off hkq))
          clear HT2 HEE
          go_wp2
          go_roundw
          case rel => exact ⟨k + 1, HLT.out, by simp, HX3, HPK⟩
          case measure => simp [intOf]; have := HLT.out; omega
      | true =>
        · rw [hkq] at p2
          by_cases h0 : x.k = 0
          · have HFE : Hid (E = 12) := Lib.hid (by rw [HEE.out, firstN_at HP.out (by rw [HT2.out, keyC_0 hkq h0]; decide) HLT.out, HT2.out, keyC_0 hkq h0])
            clear HT2 HEE
            rw [h0, Int.natCast_zero] at q0
            go_wp2
            go_ret
            exact ⟨by rw [HFE.out]; rfl, HX.out.trans HX3.out⟩
          by_cases h1 : x.k = 1
          · have HFE : Hid (E = 13) := Lib.hid (by rw [HEE.out, firstN_at HP.out (by rw [HT2.out, keyC_1 hkq h1]; decide) HLT.out, HT2.out, keyC_1 hkq h1])
            clear HT2 HEE
            rw [h1] at q0
            clear h0
            go_wp2
            go_ret
            exact ⟨by rw [HFE.out]; rfl, HX.out.trans HX3.out⟩
          · have e0 : (((x.k : Nat) : Int) == 0) = false := beq_eq_false_iff_ne.2 (by omega)
            have e0' : (((x.k : Nat) : Int) != 0) = true := by rw [bne, e0]; rfl
            have e1 : (((x.k : Nat) : Int) == 1) = false := beq_eq_false_iff_ne.2 (by omega)
            have HPK := Lib.hid (first_snoc HP.out (by rw [HT2.out]; exact keyC_n hkq h0 h1))
            clear HT2 HEE h0 h1
            go_wp2
            go_roundw
            case rel => exact ⟨k + 1, HLT.out, by simp, HX3, HPK⟩
            case measure => simp [intOf]; have := HLT.out; omega
    · obtain rfl : k = n := by omega
      have HFE : Hid (E = 0) := Lib.hid (by rw [HEE.out]; exact firstN_zero HP.out)
      go_wp2
      go_ret
      exact ⟨by rw [HFE.out]; rfl, HX.out.trans HXR.out⟩
set_option maxRecDepth 20000 in
set_option maxHeartbeats 4000000 in
theorem risKey_any (r : Rl) (cv vw : Value) (l : List Cel) (w : World) (hb : ColS w cv r.cols) (hf : r.fits) (hl : r.cols.length ≤ 1000000) (hv : RcS w vw l) :
    Calls Try.prog 16 #[.agg (relv r cv), vw] w fun e w' => e = .returned (.int .i64 (isKeyE r l : Nat)) ∧ Ext w w' := by
  have h1 := heap_alloc_new w (.cells (relv r cv) 27)
  obtain ⟨W, hW⟩ : ∃ W, W = w.alloc (.cells (relv r cv) 27) := ⟨_, rfl⟩
  have hx : Ext w W := by rw [hW]; exact (Ch.refl _ _).alloc _
  rw [← hW] at h1
  have HB := Lib.hid (ColS.ext hb hx); have HV := Lib.hid (RcS.ext hv hx)
  have HKD := Lib.hid (rkeyed_any r cv vw l W HB.out hf hl HV.out)
  obtain ⟨ao, cap, rfl, hlc, hcm, _⟩ := id hb
  obtain ⟨vo, vcap, rfl, k1, k2⟩ := hv.shape
  have c4 : W.cell? ⟨w.heap.size, 4, none⟩ = some (.slice ao r.cols.length cap) := by rw [cell_of_row _ _ _ _ _ _ h1]; rfl
  have HC4 := Lib.hid c4; have HX := Lib.hid hx; have HW := Lib.hid hW
  have HF1 := Lib.hid (@isKey_err r l); have HF2 := Lib.hid (@isKey_first r l); have HFL := Lib.hid (@keyed_len r l)
  generalize isKeyE r l = E at *
  have hvl : l.length ≤ 9223372036854775807 := by unfold maxLen at k2; omega
  obtain ⟨ci, chi, _, chs, _⟩ := info_parts infoRrZ
  have CHV := Lib.hid chi; have CSV := Lib.hid chs
  obtain ⟨qi, qhi, _, qhs, _⟩ := info_parts infoRCZ
  have CHQ := Lib.hid qhi; have CSQ := Lib.hid qhs
  clear h1 hx hW hb hf hv c4 chi chs qhi qhs hlc hcm k1 k2 hl
  by_cases hE : keyedE r l = 0
  case neg =>
    have HEE := Lib.hid (HF1.out hE)
    have hne : (((keyedE r l : Nat) : Int) == 0) = false := beq_eq_false_iff_ne.2 (by omega)
    have hne2 : (((keyedE r l : Nat) : Int) != 0) = true := by rw [bne, hne]; rfl
    clear HF1 HF2 HFL hE hvl HB HV
    generalize keyedE r l = E0 at *
    generalize r.cols.length = nq at *
    generalize l.length = nv at *
    unfold relv strV at *
    generalize (⟨r.name.toArray⟩ : ByteArray) = A1 at *
    generalize r.oid = o1 at *
    generalize r.ver = o2 at *
    generalize r.ident = o3 at *
    go_enter Try.func16, Try.ntmps16
    go_wp2_with fail
    rw [← HW.out]
    refine HKD.out.mono ?_
    rintro e w2 ⟨rfl, hx2⟩
    have HX2 := Lib.hid hx2; clear hx2
    go_wp2
    go_ret
    exact ⟨by rw [HEE.out]; rfl, HX.out.trans HX2.out⟩
  have HKD0 : Hid (Calls Try.prog 30 #[.agg (relv r (.slice ao r.cols.length cap)), .slice vo l.length vcap] W fun e w' => e = .returned (.int .i64 0) ∧ Ext W w') := Lib.hid (HKD.out.mono fun e w' h => ⟨by rw [h.1, hE]; rfl, h.2⟩)
  have HEE := Lib.hid (HF2.out hE); have hlen := HFL.out hE
  clear HF1 HF2 HFL hE HKD
  generalize hn : r.cols.length = n at *
  rw [hlen] at HV HEE HKD0 hvl ⊢
  have HNV := Lib.hid hlen; have HNQ := Lib.hid hn
  clear hlen hn
  generalize r.cols = qs at *
  unfold relv strV at *
  generalize (⟨r.name.toArray⟩ : ByteArray) = A1 at *
  generalize r.oid = o1 at *
  generalize r.ver = o2 at *
  generalize r.ident = o3 at *
  go_enter Try.func16, Try.ntmps16
  go_wp2_with fail
  rw [← HW.out]
  refine HKD0.out.mono ?_
  rintro e w2 ⟨rfl, hx2⟩
  have HX2 := Lib.hid hx2; clear hx2 HKD0
  go_wp2
  go_loopw [6] (fun ix wr => ∃ k : Nat, k ≤ n ∧ ix = .int .i64 k ∧ Hid (Ext W wr) ∧ Hid (∀ j, j < k → two isKeyC l qs j = 0)) (fun ix _ => n - (intOf ix).toNat)
  case atStart => exact ⟨0, Nat.zero_le _, rfl, HX2, Lib.hid fun j hj => absurd hj (Nat.not_lt_zero _)⟩
  case round =>
    obtain ⟨k, hk, rfl, HXR, HP⟩ := hrel
    by_cases hlt : k < n
    · have hkv : k < l.length := by have := HNV.out; omega
      have hkq : k < qs.length := by have := HNQ.out; omega
      obtain ⟨vb, vo2, rfl, hra0⟩ := HV.out.at hkv
      obtain ⟨cb, co, rfl, hrq0⟩ := colS_at (ColS.ext HB.out HXR.out) hkq
      have hra := rangeAt_ext hra0 HXR.out
      have HT2 := Lib.hid (two_at isKeyC hkv hkq)
      generalize l[k] = x at *
      have HQ2 : Hid (W.cell? ⟨cb, co + k * 3 + 2, none⟩ = some (.bool qs[k].key)) := Lib.hid (by
        obtain ⟨cb', co', e, hr0⟩ := colS_at HB.out hkq
        cases e; exact hr0 2 _ rfl)
      generalize qs[k] = q at *
      have HLT := Lib.hid hlt
      have hidx := run_indexSl wr Try.underlying28 CHV.out CSV.out vb vo2 n vcap k hlt
      have q0 : wr.cell? ⟨vb, vo2 + k * 6, none⟩ = some (.int .u8 (x.k : Nat)) := by have := hra 0 _ rfl; simpa using this
      have HX3 := HXR
      have hidq := run_indexSl wr Try.underlying25 CHQ.out CSQ.out cb co n cap k hlt
      have p2 : wr.cell? ⟨cb, co + k * 3 + 2, none⟩ = some (.bool q.key) := HX3.out.cell (p := ⟨cb, co + k * 3 + 2, none⟩) (fun f => f) _ HQ2.out
      have c4 : wr.cell? ⟨w.heap.size, 4, none⟩ = some (.slice (some ⟨cb, co, none⟩) n cap) := HX3.out.cell (p := ⟨w.heap.size, 4, none⟩) (fun f => f) _ HC4.out
      clear hra0 hra hrq0 hkv hkq
      cases hkq : q.key with
      | true =>
        · rw [hkq] at p2
          have HPK := Lib.hid (first_snoc HP.out (by rw [HT2.out]; exact isKeyC_k hkq))
          clear HT2 HEE
          go_wp2
          go_roundw
          case rel => exact ⟨k + 1, HLT.out, by simp, HX3, HPK⟩
          case measure => simp [intOf]; have := HLT.out; omega
      | false =>
        · rw [hkq] at p2
          by_cases h0 : x.k = 0
          · have HPK := Lib.hid (first_snoc HP.out (by rw [HT2.out]; exact isKeyC_0 h0))
            clear HT2 HEE
            rw [h0, Int.natCast_zero] at q0
            go_wp2
            go_roundw
            case rel => exact ⟨k + 1, HLT.out, by simp, HX3, HPK⟩
            case measure => simp [intOf]; have := HLT.out; omega
          · have e0 : (((x.k : Nat) : Int) == 0) = false := beq_eq_false_iff_ne.2 (by omega)
            have e0' : (((x.k : Nat) : Int) != 0) = true := by rw [bne, e0]; rfl
            have HFE : Hid (E = 14) := Lib.hid (by rw [HEE.out, firstN_at HP.out (by rw [HT2.out, isKeyC_n hkq h0]; decide) HLT.out, HT2.out, isKeyC_n hkq h0])
            clear HT2 HEE h0
            go_wp2
            go_ret
            exact ⟨by rw [HFE.out]; rfl, HX.out.trans HX3.out⟩
    · obtain rfl : k = n := by omega
      have HFE : Hid (E = 0) := Lib.hid (by rw [HEE.out]; exact firstN_zero HP.out)
      go_wp2
      go_ret
      exact ⟨by rw [HFE.out]; rfl, HX.out.trans HXR.out⟩
set_option maxRecDepth 20000 in
set_option maxHeartbeats 4000000 in
theorem risFull_any (r : Rl) (cv vw : Value) (l : List Cel) (w : World) (hb : ColS w cv r.cols) (hf : r.fits) (hl : r.cols.length ≤ 1000000) (hv : RcS w vw l) :
    Calls Try.prog 18 #[.agg (relv r cv), vw] w fun e w' => e = .returned (.int .i64 (isFullE r l : Nat)) ∧ Ext w w' := by
  have h1 := heap_alloc_new w (.cells (relv r cv) 27)
  obtain ⟨W, hW⟩ : ∃ W, W = w.alloc (.cells (relv r cv) 27) := ⟨_, rfl⟩
  have hx : Ext w W := by rw [hW]; exact (Ch.refl _ _).alloc _
  rw [← hW] at h1
  have HB := Lib.hid (ColS.ext hb hx); have HV := Lib.hid (RcS.ext hv hx)
  have HKD := Lib.hid (rkeyed_any r cv vw l W HB.out hf hl HV.out)
  obtain ⟨ao, cap, rfl, hlc, hcm, _⟩ := id hb
  obtain ⟨vo, vcap, rfl, k1, k2⟩ := hv.shape
  have c4 : W.cell? ⟨w.heap.size, 4, none⟩ = some (.slice ao r.cols.length cap) := by rw [cell_of_row _ _ _ _ _ _ h1]; rfl
  have HC4 := Lib.hid c4; have HX := Lib.hid hx; have HW := Lib.hid hW
  have HF1 := Lib.hid (@isFull_err r l); have HF2 := Lib.hid (@isFull_first r l); have HFL := Lib.hid (@keyed_len r l)
  generalize isFullE r l = E at *
  have hvl : l.length ≤ 9223372036854775807 := by unfold maxLen at k2; omega
  obtain ⟨ci, chi, _, chs, _⟩ := info_parts infoRrZ
  have CHV := Lib.hid chi; have CSV := Lib.hid chs
  obtain ⟨qi, qhi, _, qhs, _⟩ := info_parts infoRCZ
  have CHQ := Lib.hid qhi; have CSQ := Lib.hid qhs
  clear h1 hx hW hb hf hv c4 chi chs qhi qhs hlc hcm k1 k2 hl
  by_cases hE : keyedE r l = 0
  case neg =>
    have HEE := Lib.hid (HF1.out hE)
    have hne : (((keyedE r l : Nat) : Int) == 0) = false := beq_eq_false_iff_ne.2 (by omega)
    have hne2 : (((keyedE r l : Nat) : Int) != 0) = true := by rw [bne, hne]; rfl
    clear HF1 HF2 HFL hE hvl HB HV
    generalize keyedE r l = E0 at *
    generalize r.cols.length = nq at *
    generalize l.length = nv at *
    unfold relv strV at *
    generalize (⟨r.name.toArray⟩ : ByteArray) = A1 at *
    generalize r.oid = o1 at *
    generalize r.ver = o2 at *
    generalize r.ident = o3 at *
    go_enter Try.func18, Try.ntmps18
    go_wp2_with fail
    rw [← HW.out]
    refine HKD.out.mono ?_
    rintro e w2 ⟨rfl, hx2⟩
    have HX2 := Lib.hid hx2; clear hx2
    go_wp2
    go_ret
    exact ⟨by rw [HEE.out]; rfl, HX.out.trans HX2.out⟩
  have HKD0 : Hid (Calls Try.prog 30 #[.agg (relv r (.slice ao r.cols.length cap)), .slice vo l.length vcap] W fun e w' => e = .returned (.int .i64 0) ∧ Ext W w') := Lib.hid (HKD.out.mono fun e w' h => ⟨by rw [h.1, hE]; rfl, h.2⟩)
  have HEE := Lib.hid (HF2.out hE); have hlen := HFL.out hE
  clear HF1 HF2 HFL hE HKD
  generalize hn : r.cols.length = n at *
  rw [hlen] at HV HEE HKD0 hvl ⊢
  have HNV := Lib.hid hlen; have HNQ := Lib.hid hn
  clear hlen hn
  generalize r.cols = qs at *
  unfold relv strV at *
  generalize (⟨r.name.toArray⟩ : ByteArray) = A1 at *
  generalize r.oid = o1 at *
  generalize r.ver = o2 at *
  generalize r.ident = o3 at *
  go_enter Try.func18, Try.ntmps18
  go_wp2_with fail
  rw [← HW.out]
  refine HKD0.out.mono ?_
  rintro e w2 ⟨rfl, hx2⟩
  have HX2 := Lib.hid hx2; clear hx2 HKD0
  go_wp2
  go_loopw [6] (fun ix wr => ∃ k : Nat, k ≤ n ∧ ix = .int .i64 k ∧ Hid (Ext W wr) ∧ Hid (∀ j, j < k → two isFullC l qs j = 0)) (fun ix _ => n - (intOf ix).toNat)
  case atStart => exact ⟨0, Nat.zero_le _, rfl, HX2, Lib.hid fun j hj => absurd hj (Nat.not_lt_zero _)⟩
  case round =>
    obtain ⟨k, hk, rfl, HXR, HP⟩ := hrel
    by_cases hlt : k < n
    · have hkv : k < l.length := by have := HNV.out; omega
      have hkq : k < qs.length := by have := HNQ.out; omega
      obtain ⟨vb, vo2, rfl, hra0⟩ := HV.out.at hkv
      obtain ⟨cb, co, rfl, hrq0⟩ := colS_at (ColS.ext HB.out HXR.out) hkq
      have hra := rangeAt_ext hra0 HXR.out
      have HT2 := Lib.hid (two_at isFullC hkv hkq)
      generalize l[k] = x at *
      have HQ2 : Hid (W.cell? ⟨cb, co + k * 3 + 2, none⟩ = some (.bool qs[k].key)) := Lib.hid (by
        obtain ⟨cb', co', e, hr0⟩ := colS_at HB.out hkq
        cases e; exact hr0 2 _ rfl)
      generalize qs[k] = q at *
      have HLT := Lib.hid hlt
      have hidx := run_indexSl wr Try.underlying28 CHV.out CSV.out vb vo2 n vcap k hlt
      have q0 : wr.cell? ⟨vb, vo2 + k * 6, none⟩ = some (.int .u8 (x.k : Nat)) := by have := hra 0 _ rfl; simpa using this
      have HX3 := HXR
      clear hra0 hra hrq0 hkv hkq
      by_cases h1 : x.k = 1
      · have HFE : Hid (E = 14) := Lib.hid (by rw [HEE.out, firstN_at HP.out (by rw [HT2.out, isFullC_1 h1]; decide) HLT.out, HT2.out, isFullC_1 h1])
        clear HT2 HEE
        rw [h1] at q0
        go_wp2
        go_ret
        exact ⟨by rw [HFE.out]; rfl, HX.out.trans HX3.out⟩
      · have e1 : (((x.k : Nat) : Int) == 1) = false := beq_eq_false_iff_ne.2 (by omega)
        have HPK := Lib.hid (first_snoc HP.out (by rw [HT2.out]; exact isFullC_n h1))
        clear HT2 HEE h1
        go_wp2
        go_roundw
        case rel => exact ⟨k + 1, HLT.out, by simp, HX3, HPK⟩
        case measure => simp [intOf]; have := HLT.out; omega
    · obtain rfl : k = n := by omega
      have HFE : Hid (E = 0) := Lib.hid (by rw [HEE.out]; exact firstN_zero HP.out)
      go_wp2
      go_ret
      exact ⟨by rw [HFE.out]; rfl, HX.out.trans HXR.out⟩
end Go.Proofs.Ytdpebdbfphlmeaa
