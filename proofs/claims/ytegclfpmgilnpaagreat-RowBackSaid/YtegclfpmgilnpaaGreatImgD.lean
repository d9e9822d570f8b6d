import Derived.Test.YtegclfpmgilnpaaGreatImgC
namespace Go.Proofs.YtegclfpmgilnpaaGreat
open Go.RowKit Go.Lac
theorem fits_err {r : Rl} {l : List Cel} (h : rlErr r ≠ 0) : fitsE r l = rlErr r := by unfold fitsE; rw [if_pos h]
theorem fits_len17 {r : Rl} {l : List Cel} (h : rlErr r = 0) (h' : l.length ≠ r.cols.length) : fitsE r l = 17 := by unfold fitsE; rw [if_neg (fun hn => hn h), if_pos h']
theorem fits_first {r : Rl} {l : List Cel} (h : rlErr r = 0) (h' : l.length = r.cols.length) : fitsE r l = firstN (two fitC l r.cols) l.length := by unfold fitsE; rw [if_neg (fun hn => hn h), if_neg (fun hn => hn h')]
theorem fieldQ1 (w : World) (b o : Nat) : (Instr.fieldAt 93 (.pointer (some ⟨b, o, none⟩)) 1).run Tryz.prog w = .ok (.pointer (some ⟨b, o + 1, none⟩)) w := by kernel_rfl
theorem fieldR1 (w : World) (b o : Nat) : (Instr.fieldAt 78 (.pointer (some ⟨b, o, none⟩)) 1).run Tryz.prog w = .ok (.pointer (some ⟨b, o + 1, none⟩)) w := by kernel_rfl
theorem fieldL3 (w : World) (b : Nat) : (Instr.fieldAt 43 (.pointer (some ⟨b, 0, none⟩)) 3).run Tryz.prog w = .ok (.pointer (some ⟨b, 4, none⟩)) w := by kernel_rfl
theorem fieldM3 (w : World) (b : Nat) : (Instr.fieldAt 28 (.pointer (some ⟨b, 0, none⟩)) 3).run Tryz.prog w = .ok (.pointer (some ⟨b, 4, none⟩)) w := by kernel_rfl
def fitT (g gx vb vo2 n vcap cb co cc k : Nat) (x : Cel) (q : Col) : Tmp → Kn
  | 27 => .is (pc x)
  | 28 => .is (.pointer (some ⟨g, 4, none⟩))
  | 29 => .is (.slice (some ⟨cb, co, none⟩) n cc)
  | 30 => .is (.int .i64 (k : Nat))
  | 31 => .is (.pointer (some ⟨cb, co + k * 3, none⟩))
  | 32 => .is (.pointer (some ⟨cb, co + k * 3 + 1, none⟩))
  | 33 => .is (.int .u8 (q.ty : Nat))
  | 34 => .is (.int .i64 (cErr x q.ty : Nat))
  | 8 => .is (.int .i64 (cErr x q.ty : Nat))
  | _ => .any
set_option maxRecDepth 20000 in
set_option maxHeartbeats 4000000 in
theorem fits_any (r : Rl) (cv vw : Value) (l : List Cel) (w : World) (hb : ColS w cv r.cols) (hf : r.fits) (hv : PcS w vw l) :
    Calls Tryz.prog 40 #[vw, .agg (relv r cv)] w fun e w' => e = .returned (.int .i64 (fitsE r l : Nat)) ∧ Ext w w' := by
  have h1 := heap_alloc_new w (.cells (relv r cv) 43)
  obtain ⟨W, hW⟩ : ∃ W, W = w.alloc (.cells (relv r cv) 43) := ⟨_, rfl⟩
  have hx : Ext w W := by rw [hW]; exact (Ch.refl _ _).alloc _
  rw [← hW] at h1
  have HB := Lib.hid (ColS.ext hb hx); have HV := Lib.hid (PcS.ext hv hx)
  have HRT := Lib.hid (relRight_any r cv W HB.out hf)
  obtain ⟨ao, cap, rfl, hlc, hcm, _⟩ := id hb
  obtain ⟨vo, vcap, rfl, k1, k2⟩ := hv.shape
  have c4 : W.cell? ⟨w.heap.size, 4, none⟩ = some (.slice ao r.cols.length cap) := by rw [cell_of_row _ _ _ _ _ _ h1]; rfl
  have HC4 := Lib.hid c4; have HX := Lib.hid hx; have HW := Lib.hid hW
  have HF1 := Lib.hid (@fits_err r l); have HF2 := Lib.hid (@fits_len17 r l); have HF3 := Lib.hid (@fits_first r l)
  generalize fitsE r l = E at *
  have hcl : r.cols.length ≤ 9223372036854775807 := by unfold maxLen at hcm; omega
  have hvl : l.length ≤ 9223372036854775807 := by unfold maxLen at k2; omega
  obtain ⟨ci, chi, _, chs, _⟩ := info_parts infoPrZ
  have CHV := Lib.hid chi; have CSV := Lib.hid chs
  obtain ⟨qi, qhi, _, qhs, _⟩ := info_parts infoCoZ
  have CHQ := Lib.hid qhi; have CSQ := Lib.hid qhs
  clear h1 hx hW hb hf hv c4 chi chs qhi qhs hlc hcm k1 k2
  by_cases hE : rlErr r = 0
  case neg =>
    have HEE := Lib.hid (HF1.out hE)
    have hne : (((rlErr r : Nat) : Int) == 0) = false := beq_eq_false_iff_ne.2 (by omega)
    have hne2 : (((rlErr r : Nat) : Int) != 0) = true := by rw [bne, hne]; rfl
    generalize rlErr r = E0 at *
    clear HF1 HF2 HF3 hE hcl hvl
    generalize r.cols.length = nq at *
    generalize l.length = nv at *
    unfold relv strV at *
    generalize (⟨r.name.toArray⟩ : ByteArray) = A1 at *
    generalize r.oid = o1 at *
    generalize r.ver = o2 at *
    generalize r.ident = o3 at *
    go_enter Tryz.func40, Tryz.ntmps40
    go_wp2_with fail
    rw [← HW.out]
    refine HRT.out.mono ?_
    rintro e w2 ⟨rfl, hx2⟩
    have HX2 := Lib.hid hx2; clear hx2
    go_wp2
    go_ret
    exact ⟨by rw [HEE.out]; rfl, HX.out.trans HX2.out⟩
  have HRT0 : Hid (Calls Tryz.prog 27 #[.agg (relv r (.slice ao r.cols.length cap))] W fun e w' => e = .returned (.int .i64 0) ∧ Ext W w') := Lib.hid (HRT.out.mono fun e w' h => ⟨by rw [h.1, hE]; rfl, h.2⟩)
  have HF2' := Lib.hid (HF2.out hE); have HF3' := Lib.hid (HF3.out hE)
  clear HF1 HF2 HF3 hE HRT
  by_cases hlen : l.length = r.cols.length
  case neg =>
    have HEE := Lib.hid (HF2'.out hlen)
    have hne : (((l.length : Nat) : Int) == ((r.cols.length : Nat) : Int)) = false := beq_eq_false_iff_ne.2 (by omega)
    have hne2 : (((l.length : Nat) : Int) != ((r.cols.length : Nat) : Int)) = true := by rw [bne, hne]; rfl
    clear HF2' HF3' hlen hcl hvl
    generalize r.cols.length = nq at *
    generalize l.length = nv at *
    unfold relv strV at *
    generalize (⟨r.name.toArray⟩ : ByteArray) = A1 at *
    generalize r.oid = o1 at *
    generalize r.ver = o2 at *
    generalize r.ident = o3 at *
    go_enter Tryz.func40, Tryz.ntmps40
    go_wp2_with fail
    rw [← HW.out]
    refine HRT0.out.mono ?_
    rintro e w2 ⟨rfl, hx2⟩
    have c4 := hx2.cell (p := ⟨w.heap.size, 4, none⟩) (fun f => f) _ HC4.out
    have HX2 := Lib.hid hx2; clear hx2
    go_wp2
    go_ret
    exact ⟨by rw [HEE.out]; rfl, HX.out.trans HX2.out⟩
  have HEE := Lib.hid (HF3'.out hlen)
  clear HF2' HF3' hvl
  generalize hn : r.cols.length = n at *
  rw [hlen] at HV HEE ⊢
  have HNV := Lib.hid hlen; have HNQ := Lib.hid hn
  clear hlen hn
  generalize r.cols = qs at *
  unfold relv strV at *
  generalize (⟨r.name.toArray⟩ : ByteArray) = A1 at *
  generalize r.oid = o1 at *
  generalize r.ver = o2 at *
  generalize r.ident = o3 at *
  go_enter Tryz.func40, Tryz.ntmps40
  go_wp2_with fail
  rw [← HW.out]
  refine HRT0.out.mono ?_
  rintro e w2 ⟨rfl, hx2⟩
  have c4 := hx2.cell (p := ⟨w.heap.size, 4, none⟩) (fun f => f) _ HC4.out
  have HX2 := Lib.hid hx2; clear hx2 HRT0
  go_wp2
  clear c4
  go_loopw [22] (fun ix wr => ∃ k : Nat, k ≤ n ∧ ix = .int .i64 k ∧ Hid (Ext W wr) ∧ Hid (∀ j, j < k → two fitC l qs j = 0)) (fun ix _ => n - (intOf ix).toNat)
  case atStart => exact ⟨0, Nat.zero_le _, rfl, HX2, Lib.hid fun j hj => absurd hj (Nat.not_lt_zero _)⟩
  case round =>
    obtain ⟨k, hk, rfl, HXR, HP⟩ := hrel
    by_cases hlt : k < n
    · have hkv : k < l.length := by have := HNV.out; omega
      have hkq : k < qs.length := by have := HNQ.out; omega
      obtain ⟨vb, vo2, rfl, hra0⟩ := HV.out.at hkv
      obtain ⟨cb, co, rfl, hrq0⟩ := colS_at (ColS.ext HB.out HXR.out) hkq
      have hra := rangeAt_ext hra0 HXR.out
      have HT2 := Lib.hid (two_at fitC hkv hkq)
      generalize l[k] = x at *
      have HQ0 : Hid (wr.cell? ⟨cb, co + k * 3 + 1, none⟩ = some (.int .u8 (qs[k].ty : Nat))) := Lib.hid (hrq0 1 _ rfl)
      generalize qs[k] = q at *
      have HLT := Lib.hid hlt
      have hidx := run_indexSl wr Tryz.underlying36 CHV.out CSV.out vb vo2 n vcap k hlt
      have q0 : wr.cell? ⟨vb, vo2 + k * 5, none⟩ = some (.int .u8 (x.k : Nat)) := by have := hra 0 _ rfl; simpa using this
      have q1 : wr.cell? ⟨vb, vo2 + k * 5 + 1, none⟩ = some (.int .u8 (x.v.ty : Nat)) := hra 1 _ rfl
      have q2 : wr.cell? ⟨vb, vo2 + k * 5 + 2, none⟩ = some (.int .i64 x.v.i) := hra 2 _ rfl
      have q3 : wr.cell? ⟨vb, vo2 + k * 5 + 3, none⟩ = some (.complex .f64 x.v.re x.v.im) := hra 3 _ rfl
      have q4 : wr.cell? ⟨vb, vo2 + k * 5 + 4, none⟩ = some (.string ⟨x.v.t.toArray⟩) := hra 4 _ rfl
      obtain ⟨w3, hw3⟩ : ∃ w3, w3 = wr.alloc (.cells (pcv x) 90) := ⟨_, rfl⟩
      have hx3 : Ext wr w3 := by rw [hw3]; exact (Ch.refl _ _).alloc _
      have HROW : Hid (PRow w3 wr.heap.size x) := Lib.hid (by rw [hw3]; exact box_p x wr)
      have HX3 := Lib.hid (HXR.out.trans hx3)
      have HW3 : Hid (w3 = wr.alloc (.cells #[.int .u8 (x.k : Nat), .int .u8 (x.v.ty : Nat), .int .i64 x.v.i, .complex .f64 x.v.re x.v.im, .string ⟨x.v.t.toArray⟩] 90)) := Lib.hid hw3
      have HQ1 : Hid (w3.cell? ⟨cb, co + k * 3 + 1, none⟩ = some (.int .u8 (q.ty : Nat))) := Lib.hid (hx3.cell (p := ⟨cb, co + k * 3 + 1, none⟩) (fun f => f) _ HQ0.out)
      have HC4 : Hid (w3.cell? ⟨w.heap.size, 4, none⟩ = some (.slice (some ⟨cb, co, none⟩) n cap)) := Lib.hid (HX3.out.cell (p := ⟨w.heap.size, 4, none⟩) (fun f => f) _ HC4.out)
      have HCR := Lib.hid (fun w => cright_any x q.ty w)
      clear hra0 hra hrq0 hkv hkq hw3 hx3 HQ0
      go_wp2_with (refine wpList_newP (cs := #[.int .u8 (x.k : Nat), .int .u8 (x.v.ty : Nat), .int .i64 x.v.i, .complex .f64 x.v.re x.v.im, .string ⟨x.v.t.toArray⟩]) rfl _ _ rfl rfl x rfl rfl (by simp) rfl ?_)
      rw [← HW3.out]
      refine wp_region_ext (fitT w.heap.size wr.heap.size vb vo2 n vcap cb co cap k x q) mixedR (by rfl) (by rfl) ?all ?fin
      case all =>
        refine ⟨?_, ?_, ?_, ?_, ?_, ?_, ?_, ?_, ?_, trivial⟩
        · refine StepOK.plain (kn_stable _) rfl fun ρ w' hρ hw hf => ?_
          have h7 : ρ (.tmp 7) = (.pointer (some ⟨wr.heap.size, 0, none⟩)) := (hf 7).2 rfl rfl
          exact Exec.kloadmid rfl rfl h7 (PRow.whole (heap_of_ext hw HROW.out)) rfl
        · refine StepOK.plain (kn_stable _) rfl fun ρ w' hρ hw hf => ?_
          have h3 : ρ (.tmp 3) = (.pointer (some ⟨w.heap.size, 0, none⟩)) := (hf 3).2 rfl rfl
          exact Exec.kfield rfl rfl h3 (fieldL3 w' _) rfl
        · refine StepOK.plain (kn_stable _) rfl fun ρ w' hρ hw hf => ?_
          have h28 : ρ (.tmp 28) = (.pointer (some ⟨w.heap.size, 4, none⟩)) := (hf 28).1 rfl
          have hc : w'.cell? ⟨w.heap.size, 4, none⟩ = some (.slice (some ⟨cb, co, none⟩) n cap) := hw.cell (p := ⟨w.heap.size, 4, none⟩) (fun f => f) _ (HC4.out)
          exact Exec.same (v := (.slice (some ⟨cb, co, none⟩) n cap)) rfl (by simp [go_sem, hρ.const, h28, hc, strV]) rfl
        · refine StepOK.plain (kn_stable _) rfl fun ρ w' hρ hw hf => ?_
          have h6 : ρ (.tmp 6) = (.int .i64 (k : Nat)) := (hf 6).2 rfl rfl
          exact Exec.kmove rfl rfl h6
        · refine StepOK.plain (kn_stable _) rfl fun ρ w' hρ hw hf => ?_
          have h29 : ρ (.tmp 29) = (.slice (some ⟨cb, co, none⟩) n cap) := (hf 29).1 rfl
          have h30 : ρ (.tmp 30) = (.int .i64 (k : Nat)) := (hf 30).1 rfl
          exact Exec.kindex rfl rfl Tryz.underlying41 CHQ.out CSQ.out h29 h30 HLT.out rfl
        · refine StepOK.plain (kn_stable _) rfl fun ρ w' hρ hw hf => ?_
          have h31 : ρ (.tmp 31) = (.pointer (some ⟨cb, co + k * 3, none⟩)) := (hf 31).1 rfl
          exact Exec.kfield rfl rfl h31 (fieldQ1 w' _ _) rfl
        · refine StepOK.plain (kn_stable _) rfl fun ρ w' hρ hw hf => ?_
          have h32 : ρ (.tmp 32) = (.pointer (some ⟨cb, co + k * 3 + 1, none⟩)) := (hf 32).1 rfl
          have hc : w'.cell? ⟨cb, co + k * 3 + 1, none⟩ = some (.int .u8 (q.ty : Nat)) := hw.cell (p := ⟨cb, co + k * 3 + 1, none⟩) (fun f => f) _ (HQ1.out)
          exact Exec.same (v := (.int .u8 (q.ty : Nat))) rfl (by simp [go_sem, hρ.const, h32, hc, strV]) rfl
        · refine StepOK.plain (kn_stable _) rfl fun ρ w' hρ hw hf => ?_
          have h27 : ρ (.tmp 27) = (pc x) := (hf 27).1 rfl
          have h33 : ρ (.tmp 33) = (.int .u8 (q.ty : Nat)) := (hf 33).1 rfl
          exact Exec.kcall #[pc x, .int .u8 (q.ty : Nat)] hρ rfl rfl (by simp [h27, h33]) Tryz.func63 (by rfl) (by rfl) ((HCR.out w').mono fun e w'' h => ⟨_, h.1, rfl, h.2⟩)
        · refine StepOK.plain (kn_stable _) rfl fun ρ w' hρ hw hf => ?_
          have h34 : ρ (.tmp 34) = (.int .i64 (cErr x q.ty : Nat)) := (hf 34).1 rfl
          exact Exec.kassign rfl rfl h34
      case fin =>
        intro ν w9 hfin hx9
        have e0 : ν 8 = .int .i64 (cErr x q.ty : Nat) := hfin 8 8 rfl
        simp only [Exit.then, ended, List.foldl_cons, List.foldl_nil, List.setIfInBounds_toArray, List.set_cons_succ, List.set_cons_zero, e0]
        have HX9 := Lib.hid (HX3.out.trans hx9)
        have HT3 : Hid (two fitC l qs k = cErr x q.ty) := HT2
        clear hfin hx9 e0 HT2
        generalize cErr x q.ty = E1 at *
        by_cases he : E1 = 0
        · have HPK : Hid (∀ j, j < k + 1 → two fitC l qs j = 0) := Lib.hid fun j hj => by
            rcases Nat.lt_or_ge j k with h | h
            · exact HP.out j h
            · obtain rfl : j = k := by omega
              rw [HT3.out]; exact he
          subst he
          go_wp2
          go_roundw
          case rel => exact ⟨k + 1, HLT.out, by simp, HX9, HPK⟩
          case measure => simp [intOf]; have := HLT.out; omega
        · have HFE : Hid (E = E1) := Lib.hid (by rw [HEE.out, firstN_at HP.out (by rw [HT3.out]; exact he) HLT.out, HT3.out])
          have hne : (((E1 : Nat) : Int) == 0) = false := beq_eq_false_iff_ne.2 (by omega)
          have hne2 : (((E1 : Nat) : Int) != 0) = true := by rw [bne, hne]; rfl
          clear he HEE
          go_wp2
          go_ret
          exact ⟨by rw [HFE.out]; rfl, HX.out.trans HX9.out⟩
    · obtain rfl : k = n := by omega
      have HFE : Hid (E = 0) := Lib.hid (by rw [HEE.out]; exact firstN_zero HP.out)
      go_wp2
      go_ret
      exact ⟨by rw [HFE.out]; rfl, HX.out.trans HXR.out⟩
def rfitT (g gx vb vo2 n vcap cb co cc k : Nat) (x : Cel) (q : Col) : Tmp → Kn
  | 25 => .is (.slice (some ⟨vb, vo2, none⟩) n vcap)
  | 26 => .is (.int .i64 (k : Nat))
  | 27 => .is (.pointer (some ⟨vb, vo2 + k * 6, none⟩))
  | 28 => .is (rc x)
  | 29 => .is (.pointer (some ⟨g, 4, none⟩))
  | 30 => .is (.slice (some ⟨cb, co, none⟩) n cc)
  | 31 => .is (.int .i64 (k : Nat))
  | 32 => .is (.pointer (some ⟨cb, co + k * 3, none⟩))
  | 33 => .is (.pointer (some ⟨cb, co + k * 3 + 1, none⟩))
  | 34 => .is (.int .u8 (q.ty : Nat))
  | 35 => .is (.int .i64 (cErr x q.ty : Nat))
  | 7 => .is (.int .i64 (cErr x q.ty : Nat))
  | _ => .any
set_option maxRecDepth 20000 in
set_option maxHeartbeats 4000000 in
theorem rfits_any (r : Rl) (cv vw : Value) (l : List Cel) (w : World) (hb : ColS w cv r.cols) (hf : r.fits) (hv : RcS w vw l) :
    Calls Tryz.prog 18 #[vw, .agg (relv r cv)] w fun e w' => e = .returned (.int .i64 (fitsE r l : Nat)) ∧ Ext w w' := by
  have h1 := heap_alloc_new w (.cells (relv r cv) 28)
  obtain ⟨W, hW⟩ : ∃ W, W = w.alloc (.cells (relv r cv) 28) := ⟨_, rfl⟩
  have hx : Ext w W := by rw [hW]; exact (Ch.refl _ _).alloc _
  rw [← hW] at h1
  have HB := Lib.hid (ColS.ext hb hx); have HV := Lib.hid (RcS.ext hv hx)
  have HRT := Lib.hid (rRight_any r cv W HB.out hf)
  obtain ⟨ao, cap, rfl, hlc, hcm, _⟩ := id hb
  obtain ⟨vo, vcap, rfl, k1, k2⟩ := hv.shape
  have c4 : W.cell? ⟨w.heap.size, 4, none⟩ = some (.slice ao r.cols.length cap) := by rw [cell_of_row _ _ _ _ _ _ h1]; rfl
  have HC4 := Lib.hid c4; have HX := Lib.hid hx; have HW := Lib.hid hW
  have HF1 := Lib.hid (@fits_err r l); have HF2 := Lib.hid (@fits_len17 r l); have HF3 := Lib.hid (@fits_first r l)
  generalize fitsE r l = E at *
  have hcl : r.cols.length ≤ 9223372036854775807 := by unfold maxLen at hcm; omega
  have hvl : l.length ≤ 9223372036854775807 := by unfold maxLen at k2; omega
  obtain ⟨ci, chi, _, chs, _⟩ := info_parts infoRrZ
  have CHV := Lib.hid chi; have CSV := Lib.hid chs
  obtain ⟨qi, qhi, _, qhs, _⟩ := info_parts infoRCZ
  have CHQ := Lib.hid qhi; have CSQ := Lib.hid qhs
  clear h1 hx hW hb hf hv c4 chi chs qhi qhs hlc hcm k1 k2
  by_cases hE : rlErr r = 0
  case neg =>
    have HEE := Lib.hid (HF1.out hE)
    have hne : (((rlErr r : Nat) : Int) == 0) = false := beq_eq_false_iff_ne.2 (by omega)
    have hne2 : (((rlErr r : Nat) : Int) != 0) = true := by rw [bne, hne]; rfl
    generalize rlErr r = E0 at *
    clear HF1 HF2 HF3 hE hcl hvl
    generalize r.cols.length = nq at *
    generalize l.length = nv at *
    unfold relv strV at *
    generalize (⟨r.name.toArray⟩ : ByteArray) = A1 at *
    generalize r.oid = o1 at *
    generalize r.ver = o2 at *
    generalize r.ident = o3 at *
    go_enter Tryz.func18, Tryz.ntmps18
    go_wp2_with fail
    rw [← HW.out]
    refine HRT.out.mono ?_
    rintro e w2 ⟨rfl, hx2⟩
    have HX2 := Lib.hid hx2; clear hx2
    go_wp2
    go_ret
    exact ⟨by rw [HEE.out]; rfl, HX.out.trans HX2.out⟩
  have HRT0 : Hid (Calls Tryz.prog 31 #[.agg (relv r (.slice ao r.cols.length cap))] W fun e w' => e = .returned (.int .i64 0) ∧ Ext W w') := Lib.hid (HRT.out.mono fun e w' h => ⟨by rw [h.1, hE]; rfl, h.2⟩)
  have HF2' := Lib.hid (HF2.out hE); have HF3' := Lib.hid (HF3.out hE)
  clear HF1 HF2 HF3 hE HRT
  by_cases hlen : l.length = r.cols.length
  case neg =>
    have HEE := Lib.hid (HF2'.out hlen)
    have hne : (((l.length : Nat) : Int) == ((r.cols.length : Nat) : Int)) = false := beq_eq_false_iff_ne.2 (by omega)
    have hne2 : (((l.length : Nat) : Int) != ((r.cols.length : Nat) : Int)) = true := by rw [bne, hne]; rfl
    clear HF2' HF3' hlen hcl hvl
    generalize r.cols.length = nq at *
    generalize l.length = nv at *
    unfold relv strV at *
    generalize (⟨r.name.toArray⟩ : ByteArray) = A1 at *
    generalize r.oid = o1 at *
    generalize r.ver = o2 at *
    generalize r.ident = o3 at *
    go_enter Tryz.func18, Tryz.ntmps18
    go_wp2_with fail
    rw [← HW.out]
    refine HRT0.out.mono ?_
    rintro e w2 ⟨rfl, hx2⟩
    have c4 := hx2.cell (p := ⟨w.heap.size, 4, none⟩) (fun f => f) _ HC4.out
    have HX2 := Lib.hid hx2; clear hx2
    go_wp2
    go_ret
    exact ⟨by rw [HEE.out]; rfl, HX.out.trans HX2.out⟩
  have HEE := Lib.hid (HF3'.out hlen)
  clear HF2' HF3' hvl
  generalize hn : r.cols.length = n at *
  rw [hlen] at HV HEE ⊢
  have HNV := Lib.hid hlen; have HNQ := Lib.hid hn
  clear hlen hn
  generalize r.cols = qs at *
  unfold relv strV at *
  generalize (⟨r.name.toArray⟩ : ByteArray) = A1 at *
  generalize r.oid = o1 at *
  generalize r.ver = o2 at *
  generalize r.ident = o3 at *
  go_enter Tryz.func18, Tryz.ntmps18
  go_wp2_with fail
  rw [← HW.out]
  refine HRT0.out.mono ?_
  rintro e w2 ⟨rfl, hx2⟩
  have c4 := hx2.cell (p := ⟨w.heap.size, 4, none⟩) (fun f => f) _ HC4.out
  have HX2 := Lib.hid hx2; clear hx2 HRT0
  go_wp2
  clear c4
  go_loopw [6] (fun ix wr => ∃ k : Nat, k ≤ n ∧ ix = .int .i64 k ∧ Hid (Ext W wr) ∧ Hid (∀ j, j < k → two fitC l qs j = 0)) (fun ix _ => n - (intOf ix).toNat)
  case atStart => exact ⟨0, Nat.zero_le _, rfl, HX2, Lib.hid fun j hj => absurd hj (Nat.not_lt_zero _)⟩
  case round =>
    obtain ⟨k, hk, rfl, HXR, HP⟩ := hrel
    by_cases hlt : k < n
    · have hkv : k < l.length := by have := HNV.out; omega
      have hkq : k < qs.length := by have := HNQ.out; omega
      obtain ⟨vb, vo2, rfl, hra0⟩ := HV.out.at hkv
      obtain ⟨cb, co, rfl, hrq0⟩ := colS_at (ColS.ext HB.out HXR.out) hkq
      have hra := rangeAt_ext hra0 HXR.out
      have HT2 := Lib.hid (two_at fitC hkv hkq)
      generalize l[k] = x at *
      have HQ0 : Hid (wr.cell? ⟨cb, co + k * 3 + 1, none⟩ = some (.int .u8 (qs[k].ty : Nat))) := Lib.hid (hrq0 1 _ rfl)
      generalize qs[k] = q at *
      have HLT := Lib.hid hlt
      have HRA := Lib.hid hra; have HQ1 := HQ0
      have HC4 : Hid (wr.cell? ⟨w.heap.size, 4, none⟩ = some (.slice (some ⟨cb, co, none⟩) n cap)) := Lib.hid (HXR.out.cell (p := ⟨w.heap.size, 4, none⟩) (fun f => f) _ HC4.out)
      have HCR := Lib.hid (fun w => rright7_any x q.ty w)
      clear hra0 hra hrq0 hkv hkq
      go_wp2
      refine wp_region_ext (rfitT w.heap.size 0 vb vo2 n vcap cb co cap k x q) mixedR (by rfl) (by rfl) ?all ?fin
      case all =>
        refine ⟨?_, ?_, ?_, ?_, ?_, ?_, ?_, ?_, ?_, ?_, ?_, ?_, trivial⟩
        · refine StepOK.plain (kn_stable _) rfl fun ρ w' hρ hw hf => ?_
          have h0 : ρ (.tmp 0) = (.slice (some ⟨vb, vo2, none⟩) n vcap) := (hf 0).2 rfl rfl
          exact Exec.kmove rfl rfl h0
        · refine StepOK.plain (kn_stable _) rfl fun ρ w' hρ hw hf => ?_
          have h6 : ρ (.tmp 6) = (.int .i64 (k : Nat)) := (hf 6).2 rfl rfl
          exact Exec.kmove rfl rfl h6
        · refine StepOK.plain (kn_stable _) rfl fun ρ w' hρ hw hf => ?_
          have h25 : ρ (.tmp 25) = (.slice (some ⟨vb, vo2, none⟩) n vcap) := (hf 25).1 rfl
          have h26 : ρ (.tmp 26) = (.int .i64 (k : Nat)) := (hf 26).1 rfl
          exact Exec.kindex rfl rfl Tryz.underlying45 CHV.out CSV.out h25 h26 HLT.out rfl
        · refine StepOK.plain (kn_stable _) rfl fun ρ w' hρ hw hf => ?_
          have h27 : ρ (.tmp 27) = (.pointer (some ⟨vb, vo2 + k * 6, none⟩)) := (hf 27).1 rfl
          exact Exec.kloadmid rfl rfl h27 (load_R (rangeAt_ext HRA.out hw)) rfl
        · refine StepOK.plain (kn_stable _) rfl fun ρ w' hρ hw hf => ?_
          have h3 : ρ (.tmp 3) = (.pointer (some ⟨w.heap.size, 0, none⟩)) := (hf 3).2 rfl rfl
          exact Exec.kfield rfl rfl h3 (fieldM3 w' _) rfl
        · refine StepOK.plain (kn_stable _) rfl fun ρ w' hρ hw hf => ?_
          have h29 : ρ (.tmp 29) = (.pointer (some ⟨w.heap.size, 4, none⟩)) := (hf 29).1 rfl
          have hc : w'.cell? ⟨w.heap.size, 4, none⟩ = some (.slice (some ⟨cb, co, none⟩) n cap) := hw.cell (p := ⟨w.heap.size, 4, none⟩) (fun f => f) _ (HC4.out)
          exact Exec.same (v := (.slice (some ⟨cb, co, none⟩) n cap)) rfl (by simp [go_sem, hρ.const, h29, hc, strV]) rfl
        · refine StepOK.plain (kn_stable _) rfl fun ρ w' hρ hw hf => ?_
          have h6 : ρ (.tmp 6) = (.int .i64 (k : Nat)) := (hf 6).2 rfl rfl
          exact Exec.kmove rfl rfl h6
        · refine StepOK.plain (kn_stable _) rfl fun ρ w' hρ hw hf => ?_
          have h30 : ρ (.tmp 30) = (.slice (some ⟨cb, co, none⟩) n cap) := (hf 30).1 rfl
          have h31 : ρ (.tmp 31) = (.int .i64 (k : Nat)) := (hf 31).1 rfl
          exact Exec.kindex rfl rfl Tryz.underlying26 CHQ.out CSQ.out h30 h31 HLT.out rfl
        · refine StepOK.plain (kn_stable _) rfl fun ρ w' hρ hw hf => ?_
          have h32 : ρ (.tmp 32) = (.pointer (some ⟨cb, co + k * 3, none⟩)) := (hf 32).1 rfl
          exact Exec.kfield rfl rfl h32 (fieldR1 w' _ _) rfl
        · refine StepOK.plain (kn_stable _) rfl fun ρ w' hρ hw hf => ?_
          have h33 : ρ (.tmp 33) = (.pointer (some ⟨cb, co + k * 3 + 1, none⟩)) := (hf 33).1 rfl
          have hc : w'.cell? ⟨cb, co + k * 3 + 1, none⟩ = some (.int .u8 (q.ty : Nat)) := hw.cell (p := ⟨cb, co + k * 3 + 1, none⟩) (fun f => f) _ (HQ1.out)
          exact Exec.same (v := (.int .u8 (q.ty : Nat))) rfl (by simp [go_sem, hρ.const, h33, hc, strV]) rfl
        · refine StepOK.plain (kn_stable _) rfl fun ρ w' hρ hw hf => ?_
          have h28 : ρ (.tmp 28) = (rc x) := (hf 28).1 rfl
          have h34 : ρ (.tmp 34) = (.int .u8 (q.ty : Nat)) := (hf 34).1 rfl
          exact Exec.kcall #[rc x, .int .u8 (q.ty : Nat)] hρ rfl rfl (by simp [h28, h34]) Tryz.func38 (by rfl) (by rfl) ((HCR.out w').mono fun e w'' h => ⟨_, h.1, rfl, h.2⟩)
        · refine StepOK.plain (kn_stable _) rfl fun ρ w' hρ hw hf => ?_
          have h35 : ρ (.tmp 35) = (.int .i64 (cErr x q.ty : Nat)) := (hf 35).1 rfl
          exact Exec.kassign rfl rfl h35
      case fin =>
        intro ν w9 hfin hx9
        have e0 : ν 7 = .int .i64 (cErr x q.ty : Nat) := hfin 11 7 rfl
        simp only [Exit.then, ended, List.foldl_cons, List.foldl_nil, List.setIfInBounds_toArray, List.set_cons_succ, List.set_cons_zero, e0]
        have HX9 := Lib.hid (HXR.out.trans hx9)
        have HT3 : Hid (two fitC l qs k = cErr x q.ty) := HT2
        clear hfin hx9 e0 HT2
        generalize cErr x q.ty = E1 at *
        by_cases he : E1 = 0
        · have HPK : Hid (∀ j, j < k + 1 → two fitC l qs j = 0) := Lib.hid fun j hj => by
            rcases Nat.lt_or_ge j k with h | h
            · exact HP.out j h
            · obtain rfl : j = k := by omega
              rw [HT3.out]; exact he
          subst he
          go_wp2
          go_roundw
          case rel => exact ⟨k + 1, HLT.out, by simp, HX9, HPK⟩
          case measure => simp [intOf]; have := HLT.out; omega
        · have HFE : Hid (E = E1) := Lib.hid (by rw [HEE.out, firstN_at HP.out (by rw [HT3.out]; exact he) HLT.out, HT3.out])
          have hne : (((E1 : Nat) : Int) == 0) = false := beq_eq_false_iff_ne.2 (by omega)
          have hne2 : (((E1 : Nat) : Int) != 0) = true := by rw [bne, hne]; rfl
          clear he HEE
          go_wp2
          go_ret
          exact ⟨by rw [HFE.out]; rfl, HX.out.trans HX9.out⟩
    · obtain rfl : k = n := by omega
      have HFE : Hid (E = 0) := Lib.hid (by rw [HEE.out]; exact firstN_zero HP.out)
      go_wp2
      go_ret
      exact ⟨by rw [HFE.out]; rfl, HX.out.trans HXR.out⟩
end Go.Proofs.YtegclfpmgilnpaaGreat
