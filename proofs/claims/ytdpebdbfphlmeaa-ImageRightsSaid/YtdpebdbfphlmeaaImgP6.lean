/-
  Images: Right (the document's), case 6. MADE BY mkImgP.py
-/
import Derived.Test.YtdpebdbfphlmeaaImgP
namespace Go.Proofs.Ytdpebdbfphlmeaa
open Go.RowKit Go.Lac

set_option maxRecDepth 20000 in
set_option maxHeartbeats 4000000 in
theorem rr60_any (r : Rl) (cv vb va : Value) (b a : List Cel) (w : World) (hb : ColS w cv r.cols) (hf : r.fits) (hl : r.cols.length ≤ 1000000) (hvb : RcS w vb b) (hva : RcS w va a) (hla : a.length ≤ 100000) :
    Calls Try.prog 21 #[.agg (relv r cv), .int .u8 6, .int .u8 0, vb, va] w fun e w' => e = .returned (.int .i64 (rightE r 6 0 b a : Nat)) ∧ Ext w w' := by
  obtain ⟨W, hW⟩ : ∃ W, W = w.alloc (.cells (relv r cv) 27) := ⟨_, rfl⟩
  have hx : Ext w W := by rw [hW]; exact (Ch.refl _ _).alloc _
  have hbox : W.heap[w.heap.size]? = some (.cells (relv r cv) 27 (0, 0)) := by rw [hW]; exact heap_alloc_new _ _
  have HX := Lib.hid hx; have HW := Lib.hid hW; have HBOX := Lib.hid hbox
  have HIKB := Lib.hid (fun W' (h : Ext w W') => risKey_any r cv vb b W' (ColS.ext hb h) hf hl (RcS.ext hvb h))
  have HIFB := Lib.hid (fun W' (h : Ext w W') => risFull_any r cv vb b W' (ColS.ext hb h) hf hl (RcS.ext hvb h))
  have HIFA := Lib.hid (fun W' (h : Ext w W') => risFull_any r cv va a W' (ColS.ext hb h) hf hl (RcS.ext hva h))
  have HKDA := Lib.hid (fun W' (h : Ext w W') => rkeyed_any r cv va a W' (ColS.ext hb h) hf hl (RcS.ext hva h))
  have HKO := Lib.hid (fun W' (h : Ext w W') => rkeyOf_any r cv va a W' (ColS.ext hb h) (RcS.ext hva h) hla)
  have HSM := Lib.hid (fun W' (h : Ext w W') v2 l2 (h2 : RcS W' v2 l2) => sameR_any vb v2 b l2 W' (RcS.ext hvb h) h2)
  obtain ⟨ao, cap, rfl, _⟩ := id hb
  obtain ⟨bo, bcap, rfl, _, hmb⟩ := hvb.shape
  obtain ⟨vo, vcap, rfl, _, hma⟩ := hva.shape
  have hm1 : b.length ≤ 9223372036854775807 := by unfold maxLen at hmb; omega
  have hm2 : a.length ≤ 9223372036854775807 := by omega
  have R1 := Lib.hid (@rightE_kind r 6 0 b a); have R2 := Lib.hid (@rightE_len r 6 0 b a); have R3 := Lib.hid (@rightE_may r 6 0 b a); have R4 := Lib.hid (@rightE_old r 6 0 b a); have R5 := Lib.hid (@rightE_new r 6 0 b a); have R6 := Lib.hid (@rightE_end r 6 0 b a); have R7 := Lib.hid (@rightE_big r 6 0 b a)
  generalize rightE r 6 0 b a = E at *
  clear hb hf hl hvb hva hla hx hW hbox hmb hma
  generalize b.length = nb at *
  generalize a.length = na at *
  generalize r.cols.length = nq at *
  have HLINK : Hid (∃ j : Nat, r.ident = j ∧ ((j : Nat) : Int) = ((r.ident : Nat) : Int)) := Lib.hid ⟨_, rfl, rfl⟩
  unfold relv strV at *
  generalize (⟨r.name.toArray⟩ : ByteArray) = A1 at *
  generalize r.oid = o1 at *
  generalize r.ver = o2 at *
  generalize ((r.ident : Nat) : Int) = oi at *
  rcases (show 0 < nb ∨ nb = 0 by omega) with ho | ho
  · have gb : ((nb : Nat) : Int) > 0 := by omega
    have HEE : Hid (E = 14) := Lib.hid (R2.out (by omega) (by omega))
    clear R1 R2 R3 R4 R5 R6 R7
    clear ho
    go_enter Try.func21, Try.ntmps21
    go_wp2
    go_ret
    exact ⟨by rw [HEE.out]; rfl, by have := HX.out; rwa [HW.out] at this⟩
  · subst ho
    rcases (show 0 < na ∨ na = 0 by omega) with ha | ha
    · have ga : ((na : Nat) : Int) > 0 := by omega
      have HEE : Hid (E = 14) := Lib.hid (R2.out (by omega) (by omega))
      clear R1 R2 R3 R4 R5 R6 R7
      clear ha
      go_enter Try.func21, Try.ntmps21
      go_wp2
      go_ret
      exact ⟨by rw [HEE.out]; rfl, by have := HX.out; rwa [HW.out] at this⟩
    · subst ha
      by_cases h0 : oi = 0
      · subst h0
        have HEE : Hid (E = 14) := Lib.hid (R3.out (by omega) (by omega) (by obtain ⟨j, hj, hj2⟩ := HLINK.out; rw [hj]; unfold mayB; have := hj2; (repeat' split) <;> first | (exfalso; omega) | (apply decide_eq_false; omega) | rfl))
        clear R1 R2 R3 R4 R5 R6 R7
        go_enter Try.func21, Try.ntmps21
        go_wp2
        go_ret
        exact ⟨by rw [HEE.out]; rfl, by have := HX.out; rwa [HW.out] at this⟩
      by_cases h1 : oi = 1
      · subst h1
        have HEE : Hid (E = 14) := Lib.hid (R3.out (by omega) (by omega) (by obtain ⟨j, hj, hj2⟩ := HLINK.out; rw [hj]; unfold mayB; have := hj2; (repeat' split) <;> first | (exfalso; omega) | (apply decide_eq_false; omega) | rfl))
        clear R1 R2 R3 R4 R5 R6 R7
        go_enter Try.func21, Try.ntmps21
        go_wp2
        go_ret
        exact ⟨by rw [HEE.out]; rfl, by have := HX.out; rwa [HW.out] at this⟩
      by_cases h2 : oi = 2
      · subst h2
        have HEE : Hid (E = 14) := Lib.hid (R3.out (by omega) (by omega) (by obtain ⟨j, hj, hj2⟩ := HLINK.out; rw [hj]; unfold mayB; have := hj2; (repeat' split) <;> first | (exfalso; omega) | (apply decide_eq_false; omega) | rfl))
        clear R1 R2 R3 R4 R5 R6 R7
        go_enter Try.func21, Try.ntmps21
        go_wp2
        go_ret
        exact ⟨by rw [HEE.out]; rfl, by have := HX.out; rwa [HW.out] at this⟩
      have f0 := beq_f h0; have g0 := bne_t h0; have k0 := beq_f (Ne.symm h0); have l0 := bne_t (Ne.symm h0)
      have f1 := beq_f h1; have g1 := bne_t h1; have k1 := beq_f (Ne.symm h1); have l1 := bne_t (Ne.symm h1)
      have f2 := beq_f h2; have g2 := bne_t h2; have k2 := beq_f (Ne.symm h2); have l2 := bne_t (Ne.symm h2)
      have H0 := Lib.hid h0; have H1 := Lib.hid h1; have H2 := Lib.hid h2
      clear h0 h1 h2
      have HEE : Hid (E = 14) := Lib.hid (R3.out (by omega) (by omega) (by obtain ⟨j, hj, hj2⟩ := HLINK.out; rw [hj]; unfold mayB; have := hj2; have := H0.out; have := H1.out; have := H2.out; (repeat' split) <;> first | (exfalso; omega) | (apply decide_eq_false; omega) | rfl))
      clear R1 R2 R3 R4 R5 R6 R7
      go_enter Try.func21, Try.ntmps21
      go_wp2
      go_ret
      exact ⟨by rw [HEE.out]; rfl, by have := HX.out; rwa [HW.out] at this⟩
set_option maxRecDepth 20000 in
set_option maxHeartbeats 4000000 in
theorem rr61_any (r : Rl) (cv vb va : Value) (b a : List Cel) (w : World) (hb : ColS w cv r.cols) (hf : r.fits) (hl : r.cols.length ≤ 1000000) (hvb : RcS w vb b) (hva : RcS w va a) (hla : a.length ≤ 100000) :
    Calls Try.prog 21 #[.agg (relv r cv), .int .u8 6, .int .u8 1, vb, va] w fun e w' => e = .returned (.int .i64 (rightE r 6 1 b a : Nat)) ∧ Ext w w' := by
  obtain ⟨W, hW⟩ : ∃ W, W = w.alloc (.cells (relv r cv) 27) := ⟨_, rfl⟩
  have hx : Ext w W := by rw [hW]; exact (Ch.refl _ _).alloc _
  have hbox : W.heap[w.heap.size]? = some (.cells (relv r cv) 27 (0, 0)) := by rw [hW]; exact heap_alloc_new _ _
  have HX := Lib.hid hx; have HW := Lib.hid hW; have HBOX := Lib.hid hbox
  have HIKB := Lib.hid (fun W' (h : Ext w W') => risKey_any r cv vb b W' (ColS.ext hb h) hf hl (RcS.ext hvb h))
  have HIFB := Lib.hid (fun W' (h : Ext w W') => risFull_any r cv vb b W' (ColS.ext hb h) hf hl (RcS.ext hvb h))
  have HIFA := Lib.hid (fun W' (h : Ext w W') => risFull_any r cv va a W' (ColS.ext hb h) hf hl (RcS.ext hva h))
  have HKDA := Lib.hid (fun W' (h : Ext w W') => rkeyed_any r cv va a W' (ColS.ext hb h) hf hl (RcS.ext hva h))
  have HKO := Lib.hid (fun W' (h : Ext w W') => rkeyOf_any r cv va a W' (ColS.ext hb h) (RcS.ext hva h) hla)
  have HSM := Lib.hid (fun W' (h : Ext w W') v2 l2 (h2 : RcS W' v2 l2) => sameR_any vb v2 b l2 W' (RcS.ext hvb h) h2)
  obtain ⟨ao, cap, rfl, _⟩ := id hb
  obtain ⟨bo, bcap, rfl, _, hmb⟩ := hvb.shape
  obtain ⟨vo, vcap, rfl, _, hma⟩ := hva.shape
  have hm1 : b.length ≤ 9223372036854775807 := by unfold maxLen at hmb; omega
  have hm2 : a.length ≤ 9223372036854775807 := by omega
  have R1 := Lib.hid (@rightE_kind r 6 1 b a); have R2 := Lib.hid (@rightE_len r 6 1 b a); have R3 := Lib.hid (@rightE_may r 6 1 b a); have R4 := Lib.hid (@rightE_old r 6 1 b a); have R5 := Lib.hid (@rightE_new r 6 1 b a); have R6 := Lib.hid (@rightE_end r 6 1 b a); have R7 := Lib.hid (@rightE_big r 6 1 b a)
  generalize rightE r 6 1 b a = E at *
  clear hb hf hl hvb hva hla hx hW hbox hmb hma
  generalize b.length = nb at *
  generalize a.length = na at *
  generalize r.cols.length = nq at *
  have HLINK : Hid (∃ j : Nat, r.ident = j ∧ ((j : Nat) : Int) = ((r.ident : Nat) : Int)) := Lib.hid ⟨_, rfl, rfl⟩
  unfold relv strV at *
  generalize (⟨r.name.toArray⟩ : ByteArray) = A1 at *
  generalize r.oid = o1 at *
  generalize r.ver = o2 at *
  generalize ((r.ident : Nat) : Int) = oi at *
  rcases (show 0 < na ∨ na = 0 by omega) with ha | ha
  · have ga : ((na : Nat) : Int) > 0 := by omega
    have HEE : Hid (E = 14) := Lib.hid (R2.out (by omega) (by omega))
    clear R1 R2 R3 R4 R5 R6 R7
    clear ha
    go_enter Try.func21, Try.ntmps21
    go_wp2
    go_ret
    exact ⟨by rw [HEE.out]; rfl, by have := HX.out; rwa [HW.out] at this⟩
  · subst ha
    by_cases h0 : oi = 0
    · subst h0
      have HEE : Hid (E = 14) := Lib.hid (R3.out (by omega) (by omega) (by obtain ⟨j, hj, hj2⟩ := HLINK.out; rw [hj]; unfold mayB; have := hj2; (repeat' split) <;> first | (exfalso; omega) | (apply decide_eq_false; omega) | rfl))
      clear R1 R2 R3 R4 R5 R6 R7
      go_enter Try.func21, Try.ntmps21
      go_wp2
      go_ret
      exact ⟨by rw [HEE.out]; rfl, by have := HX.out; rwa [HW.out] at this⟩
    by_cases h1 : oi = 1
    · subst h1
      have HM : Hid (mayB r.ident 6 1 = true) := Lib.hid (by obtain ⟨j, hj, hj2⟩ := HLINK.out; rw [hj]; unfold mayB; have := hj2; (repeat' split) <;> first | (exfalso; omega) | (apply decide_eq_true; omega) | rfl)
      have HNL : Hid (¬ ((1 = 0 ∧ 0 < nb) ∨ (6 = 6 ∧ 0 < 0))) := Lib.hid (by omega)
      go_enter Try.func21, Try.ntmps21
      go_wp2_with fail
      rw [← HW.out]
      refine (HIKB.out W HX.out).mono ?_
      rintro e w2 ⟨rfl, hx2⟩
      have hxx2 := Lib.hid (hx2)
      have HX2 := Lib.hid (HX.out.trans hx2)
      clear hx2
      have d0 : w2.cell? ⟨w.heap.size, 0, none⟩ = some (.int .u32 (o1 : Nat)) := by rw [cell_of_row _ _ _ _ _ _ (heap_ext hxx2.out HBOX.out)]; rfl
      have d1 : w2.cell? ⟨w.heap.size, 1, none⟩ = some (.int .u32 (o2 : Nat)) := by rw [cell_of_row _ _ _ _ _ _ (heap_ext hxx2.out HBOX.out)]; rfl
      have d2 : w2.cell? ⟨w.heap.size, 2, none⟩ = some (.string A1) := by rw [cell_of_row _ _ _ _ _ _ (heap_ext hxx2.out HBOX.out)]; rfl
      have d3 : w2.cell? ⟨w.heap.size, 3, none⟩ = some (.int .u8 1) := by rw [cell_of_row _ _ _ _ _ _ (heap_ext hxx2.out HBOX.out)]; rfl
      have d4 : w2.cell? ⟨w.heap.size, 4, none⟩ = some (.slice ao nq cap) := by rw [cell_of_row _ _ _ _ _ _ (heap_ext hxx2.out HBOX.out)]; rfl
      by_cases he : isKeyE r b = 0
      case neg =>
        have HEE : Hid (E = isKeyE r b) := Lib.hid ((R4.out (by omega) HNL.out HM.out (by rw [old1]; exact he)).trans (old1 r b))
        have n1 := beq_f (a := ((isKeyE r b : Nat) : Int)) (b := 0) (by omega)
        have n2 := bne_t (a := ((isKeyE r b : Nat) : Int)) (b := 0) (by omega)
        clear he R1 R2 R3 R4 R5 R6 R7
        generalize isKeyE r b = EE at *
        go_wp2
        go_ret
        exact ⟨by rw [HEE.out]; rfl, HX2.out⟩
      have HE2 := Lib.hid he
      rw [he]
      clear he
      have HEE : Hid (E = 0) := Lib.hid (by rw [R6.out (by omega) HNL.out HM.out (by rw [old1]; exact HE2.out) (new6 r a), if_neg (by omega)])
      clear R1 R2 R3 R4 R5 R6 R7
      go_wp2
      go_ret
      exact ⟨by rw [HEE.out]; rfl, HX2.out⟩
    by_cases h2 : oi = 2
    · subst h2
      have HEE : Hid (E = 14) := Lib.hid (R3.out (by omega) (by omega) (by obtain ⟨j, hj, hj2⟩ := HLINK.out; rw [hj]; unfold mayB; have := hj2; (repeat' split) <;> first | (exfalso; omega) | (apply decide_eq_false; omega) | rfl))
      clear R1 R2 R3 R4 R5 R6 R7
      go_enter Try.func21, Try.ntmps21
      go_wp2
      go_ret
      exact ⟨by rw [HEE.out]; rfl, by have := HX.out; rwa [HW.out] at this⟩
    have f0 := beq_f h0; have g0 := bne_t h0; have k0 := beq_f (Ne.symm h0); have l0 := bne_t (Ne.symm h0)
    have f1 := beq_f h1; have g1 := bne_t h1; have k1 := beq_f (Ne.symm h1); have l1 := bne_t (Ne.symm h1)
    have f2 := beq_f h2; have g2 := bne_t h2; have k2 := beq_f (Ne.symm h2); have l2 := bne_t (Ne.symm h2)
    have H0 := Lib.hid h0; have H1 := Lib.hid h1; have H2 := Lib.hid h2
    clear h0 h1 h2
    have HEE : Hid (E = 14) := Lib.hid (R3.out (by omega) (by omega) (by obtain ⟨j, hj, hj2⟩ := HLINK.out; rw [hj]; unfold mayB; have := hj2; have := H0.out; have := H1.out; have := H2.out; (repeat' split) <;> first | (exfalso; omega) | (apply decide_eq_false; omega) | rfl))
    clear R1 R2 R3 R4 R5 R6 R7
    go_enter Try.func21, Try.ntmps21
    go_wp2
    go_ret
    exact ⟨by rw [HEE.out]; rfl, by have := HX.out; rwa [HW.out] at this⟩
set_option maxRecDepth 20000 in
set_option maxHeartbeats 4000000 in
theorem rr62_any (r : Rl) (cv vb va : Value) (b a : List Cel) (w : World) (hb : ColS w cv r.cols) (hf : r.fits) (hl : r.cols.length ≤ 1000000) (hvb : RcS w vb b) (hva : RcS w va a) (hla : a.length ≤ 100000) :
    Calls Try.prog 21 #[.agg (relv r cv), .int .u8 6, .int .u8 2, vb, va] w fun e w' => e = .returned (.int .i64 (rightE r 6 2 b a : Nat)) ∧ Ext w w' := by
  obtain ⟨W, hW⟩ : ∃ W, W = w.alloc (.cells (relv r cv) 27) := ⟨_, rfl⟩
  have hx : Ext w W := by rw [hW]; exact (Ch.refl _ _).alloc _
  have hbox : W.heap[w.heap.size]? = some (.cells (relv r cv) 27 (0, 0)) := by rw [hW]; exact heap_alloc_new _ _
  have HX := Lib.hid hx; have HW := Lib.hid hW; have HBOX := Lib.hid hbox
  have HIKB := Lib.hid (fun W' (h : Ext w W') => risKey_any r cv vb b W' (ColS.ext hb h) hf hl (RcS.ext hvb h))
  have HIFB := Lib.hid (fun W' (h : Ext w W') => risFull_any r cv vb b W' (ColS.ext hb h) hf hl (RcS.ext hvb h))
  have HIFA := Lib.hid (fun W' (h : Ext w W') => risFull_any r cv va a W' (ColS.ext hb h) hf hl (RcS.ext hva h))
  have HKDA := Lib.hid (fun W' (h : Ext w W') => rkeyed_any r cv va a W' (ColS.ext hb h) hf hl (RcS.ext hva h))
  have HKO := Lib.hid (fun W' (h : Ext w W') => rkeyOf_any r cv va a W' (ColS.ext hb h) (RcS.ext hva h) hla)
  have HSM := Lib.hid (fun W' (h : Ext w W') v2 l2 (h2 : RcS W' v2 l2) => sameR_any vb v2 b l2 W' (RcS.ext hvb h) h2)
  obtain ⟨ao, cap, rfl, _⟩ := id hb
  obtain ⟨bo, bcap, rfl, _, hmb⟩ := hvb.shape
  obtain ⟨vo, vcap, rfl, _, hma⟩ := hva.shape
  have hm1 : b.length ≤ 9223372036854775807 := by unfold maxLen at hmb; omega
  have hm2 : a.length ≤ 9223372036854775807 := by omega
  have R1 := Lib.hid (@rightE_kind r 6 2 b a); have R2 := Lib.hid (@rightE_len r 6 2 b a); have R3 := Lib.hid (@rightE_may r 6 2 b a); have R4 := Lib.hid (@rightE_old r 6 2 b a); have R5 := Lib.hid (@rightE_new r 6 2 b a); have R6 := Lib.hid (@rightE_end r 6 2 b a); have R7 := Lib.hid (@rightE_big r 6 2 b a)
  generalize rightE r 6 2 b a = E at *
  clear hb hf hl hvb hva hla hx hW hbox hmb hma
  generalize b.length = nb at *
  generalize a.length = na at *
  generalize r.cols.length = nq at *
  have HLINK : Hid (∃ j : Nat, r.ident = j ∧ ((j : Nat) : Int) = ((r.ident : Nat) : Int)) := Lib.hid ⟨_, rfl, rfl⟩
  unfold relv strV at *
  generalize (⟨r.name.toArray⟩ : ByteArray) = A1 at *
  generalize r.oid = o1 at *
  generalize r.ver = o2 at *
  generalize ((r.ident : Nat) : Int) = oi at *
  rcases (show 0 < na ∨ na = 0 by omega) with ha | ha
  · have ga : ((na : Nat) : Int) > 0 := by omega
    have HEE : Hid (E = 14) := Lib.hid (R2.out (by omega) (by omega))
    clear R1 R2 R3 R4 R5 R6 R7
    clear ha
    go_enter Try.func21, Try.ntmps21
    go_wp2
    go_ret
    exact ⟨by rw [HEE.out]; rfl, by have := HX.out; rwa [HW.out] at this⟩
  · subst ha
    by_cases h0 : oi = 0
    · subst h0
      have HEE : Hid (E = 14) := Lib.hid (R3.out (by omega) (by omega) (by obtain ⟨j, hj, hj2⟩ := HLINK.out; rw [hj]; unfold mayB; have := hj2; (repeat' split) <;> first | (exfalso; omega) | (apply decide_eq_false; omega) | rfl))
      clear R1 R2 R3 R4 R5 R6 R7
      go_enter Try.func21, Try.ntmps21
      go_wp2
      go_ret
      exact ⟨by rw [HEE.out]; rfl, by have := HX.out; rwa [HW.out] at this⟩
    by_cases h1 : oi = 1
    · subst h1
      have HEE : Hid (E = 14) := Lib.hid (R3.out (by omega) (by omega) (by obtain ⟨j, hj, hj2⟩ := HLINK.out; rw [hj]; unfold mayB; have := hj2; (repeat' split) <;> first | (exfalso; omega) | (apply decide_eq_false; omega) | rfl))
      clear R1 R2 R3 R4 R5 R6 R7
      go_enter Try.func21, Try.ntmps21
      go_wp2
      go_ret
      exact ⟨by rw [HEE.out]; rfl, by have := HX.out; rwa [HW.out] at this⟩
    by_cases h2 : oi = 2
    · subst h2
      have HM : Hid (mayB r.ident 6 2 = true) := Lib.hid (by obtain ⟨j, hj, hj2⟩ := HLINK.out; rw [hj]; unfold mayB; have := hj2; (repeat' split) <;> first | (exfalso; omega) | (apply decide_eq_true; omega) | rfl)
      have HNL : Hid (¬ ((2 = 0 ∧ 0 < nb) ∨ (6 = 6 ∧ 0 < 0))) := Lib.hid (by omega)
      go_enter Try.func21, Try.ntmps21
      go_wp2_with fail
      rw [← HW.out]
      refine (HIFB.out W HX.out).mono ?_
      rintro e w2 ⟨rfl, hx2⟩
      have hxx2 := Lib.hid (hx2)
      have HX2 := Lib.hid (HX.out.trans hx2)
      clear hx2
      have d0 : w2.cell? ⟨w.heap.size, 0, none⟩ = some (.int .u32 (o1 : Nat)) := by rw [cell_of_row _ _ _ _ _ _ (heap_ext hxx2.out HBOX.out)]; rfl
      have d1 : w2.cell? ⟨w.heap.size, 1, none⟩ = some (.int .u32 (o2 : Nat)) := by rw [cell_of_row _ _ _ _ _ _ (heap_ext hxx2.out HBOX.out)]; rfl
      have d2 : w2.cell? ⟨w.heap.size, 2, none⟩ = some (.string A1) := by rw [cell_of_row _ _ _ _ _ _ (heap_ext hxx2.out HBOX.out)]; rfl
      have d3 : w2.cell? ⟨w.heap.size, 3, none⟩ = some (.int .u8 2) := by rw [cell_of_row _ _ _ _ _ _ (heap_ext hxx2.out HBOX.out)]; rfl
      have d4 : w2.cell? ⟨w.heap.size, 4, none⟩ = some (.slice ao nq cap) := by rw [cell_of_row _ _ _ _ _ _ (heap_ext hxx2.out HBOX.out)]; rfl
      by_cases he : isFullE r b = 0
      case neg =>
        have HEE : Hid (E = isFullE r b) := Lib.hid ((R4.out (by omega) HNL.out HM.out (by rw [old2]; exact he)).trans (old2 r b))
        have n1 := beq_f (a := ((isFullE r b : Nat) : Int)) (b := 0) (by omega)
        have n2 := bne_t (a := ((isFullE r b : Nat) : Int)) (b := 0) (by omega)
        clear he R1 R2 R3 R4 R5 R6 R7
        generalize isFullE r b = EE at *
        go_wp2
        go_ret
        exact ⟨by rw [HEE.out]; rfl, HX2.out⟩
      have HE2 := Lib.hid he
      rw [he]
      clear he
      have HEE : Hid (E = 0) := Lib.hid (by rw [R6.out (by omega) HNL.out HM.out (by rw [old2]; exact HE2.out) (new6 r a), if_neg (by omega)])
      clear R1 R2 R3 R4 R5 R6 R7
      go_wp2
      go_ret
      exact ⟨by rw [HEE.out]; rfl, HX2.out⟩
    have f0 := beq_f h0; have g0 := bne_t h0; have k0 := beq_f (Ne.symm h0); have l0 := bne_t (Ne.symm h0)
    have f1 := beq_f h1; have g1 := bne_t h1; have k1 := beq_f (Ne.symm h1); have l1 := bne_t (Ne.symm h1)
    have f2 := beq_f h2; have g2 := bne_t h2; have k2 := beq_f (Ne.symm h2); have l2 := bne_t (Ne.symm h2)
    have H0 := Lib.hid h0; have H1 := Lib.hid h1; have H2 := Lib.hid h2
    clear h0 h1 h2
    have HEE : Hid (E = 14) := Lib.hid (R3.out (by omega) (by omega) (by obtain ⟨j, hj, hj2⟩ := HLINK.out; rw [hj]; unfold mayB; have := hj2; have := H0.out; have := H1.out; have := H2.out; (repeat' split) <;> first | (exfalso; omega) | (apply decide_eq_false; omega) | rfl))
    clear R1 R2 R3 R4 R5 R6 R7
    go_enter Try.func21, Try.ntmps21
    go_wp2
    go_ret
    exact ⟨by rw [HEE.out]; rfl, by have := HX.out; rwa [HW.out] at this⟩
set_option maxRecDepth 20000 in
set_option maxHeartbeats 4000000 in
theorem rr6x_any (r : Rl) (cv vb va : Value) (o : Nat) (b a : List Cel) (w : World) (hb : ColS w cv r.cols) (hf : r.fits) (hl : r.cols.length ≤ 1000000) (hvb : RcS w vb b) (hva : RcS w va a) (hla : a.length ≤ 100000) (ho : 2 < o) :
    Calls Try.prog 21 #[.agg (relv r cv), .int .u8 6, .int .u8 (o : Nat), vb, va] w fun e w' => e = .returned (.int .i64 (rightE r 6 o b a : Nat)) ∧ Ext w w' := by
  obtain ⟨W, hW⟩ : ∃ W, W = w.alloc (.cells (relv r cv) 27) := ⟨_, rfl⟩
  have hx : Ext w W := by rw [hW]; exact (Ch.refl _ _).alloc _
  have hbox : W.heap[w.heap.size]? = some (.cells (relv r cv) 27 (0, 0)) := by rw [hW]; exact heap_alloc_new _ _
  have HX := Lib.hid hx; have HW := Lib.hid hW; have HBOX := Lib.hid hbox
  have HIKB := Lib.hid (fun W' (h : Ext w W') => risKey_any r cv vb b W' (ColS.ext hb h) hf hl (RcS.ext hvb h))
  have HIFB := Lib.hid (fun W' (h : Ext w W') => risFull_any r cv vb b W' (ColS.ext hb h) hf hl (RcS.ext hvb h))
  have HIFA := Lib.hid (fun W' (h : Ext w W') => risFull_any r cv va a W' (ColS.ext hb h) hf hl (RcS.ext hva h))
  have HKDA := Lib.hid (fun W' (h : Ext w W') => rkeyed_any r cv va a W' (ColS.ext hb h) hf hl (RcS.ext hva h))
  have HKO := Lib.hid (fun W' (h : Ext w W') => rkeyOf_any r cv va a W' (ColS.ext hb h) (RcS.ext hva h) hla)
  have HSM := Lib.hid (fun W' (h : Ext w W') v2 l2 (h2 : RcS W' v2 l2) => sameR_any vb v2 b l2 W' (RcS.ext hvb h) h2)
  obtain ⟨ao, cap, rfl, _⟩ := id hb
  obtain ⟨bo, bcap, rfl, _, hmb⟩ := hvb.shape
  obtain ⟨vo, vcap, rfl, _, hma⟩ := hva.shape
  have hm1 : b.length ≤ 9223372036854775807 := by unfold maxLen at hmb; omega
  have hm2 : a.length ≤ 9223372036854775807 := by omega
  have R1 := Lib.hid (@rightE_kind r 6 o b a); have R2 := Lib.hid (@rightE_len r 6 o b a); have R3 := Lib.hid (@rightE_may r 6 o b a); have R4 := Lib.hid (@rightE_old r 6 o b a); have R5 := Lib.hid (@rightE_new r 6 o b a); have R6 := Lib.hid (@rightE_end r 6 o b a); have R7 := Lib.hid (@rightE_big r 6 o b a)
  generalize rightE r 6 o b a = E at *
  clear hb hf hl hvb hva hla hx hW hbox hmb hma
  generalize b.length = nb at *
  generalize a.length = na at *
  generalize r.cols.length = nq at *
  have HLINK : Hid (∃ j : Nat, r.ident = j ∧ ((j : Nat) : Int) = ((r.ident : Nat) : Int)) := Lib.hid ⟨_, rfl, rfl⟩
  unfold relv strV at *
  generalize (⟨r.name.toArray⟩ : ByteArray) = A1 at *
  generalize r.oid = o1 at *
  generalize r.ver = o2 at *
  generalize ((r.ident : Nat) : Int) = oi at *
  have HEE : Hid (E = 14) := Lib.hid (R7.out (by omega) ho)
  have go' : ((o : Nat) : Int) > 2 := by omega
  clear R1 R2 R3 R4 R5 R6 R7
  clear ho
  go_enter Try.func21, Try.ntmps21
  go_wp2
  go_ret
  exact ⟨by rw [HEE.out]; rfl, by have := HX.out; rwa [HW.out] at this⟩
end Go.Proofs.Ytdpebdbfphlmeaa
