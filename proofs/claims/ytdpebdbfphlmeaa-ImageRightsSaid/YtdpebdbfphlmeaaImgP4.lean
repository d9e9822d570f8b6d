/-
  Images: Right (the document's), case 4. MADE BY mkImgP.py
-/
import Derived.Test.YtdpebdbfphlmeaaImgP
namespace Go.Proofs.Ytdpebdbfphlmeaa
open Go.RowKit Go.Lac

set_option maxRecDepth 20000 in
set_option maxHeartbeats 4000000 in
theorem rr40_any (r : Rl) (cv vb va : Value) (b a : List Cel) (w : World) (hb : ColS w cv r.cols) (hf : r.fits) (hl : r.cols.length ≤ 1000000) (hvb : RcS w vb b) (hva : RcS w va a) (hla : a.length ≤ 100000) :
    Calls Try.prog 21 #[.agg (relv r cv), .int .u8 4, .int .u8 0, vb, va] w fun e w' => e = .returned (.int .i64 (rightE r 4 0 b a : Nat)) ∧ Ext w w' := by
  obtain ⟨W, hW⟩ : ∃ W, W = w.alloc (.cells (relv r cv) 27) := ⟨_, rfl⟩
  have hx : Ext w W := by rw [hW]; exact (Ch.refl _ _).alloc _
  have hbox : W.heap[w.heap.size]? = some (.cells (relv r cv) 27 (0, 0)) := by rw [hW]; exact heap_alloc_new _ _
  have HX := Lib.hid hx; have HW := Lib.hid hW; have HBOX := Lib.hid hbox
  have HIKB := Lib.hid (fun W' (h : Ext w W') => risKey_any r cv vb b W' (ColS.ext hb h) hf hl (RcS.ext hvb h))
  have HIFB := Lib.hid (fun W' (h : Ext w W') => risFull_any r cv vb b W' (ColS.ext hb h) hf hl (RcS.ext hvb h))
  have HIFA := Lib.hid (fun W' (h : Ext w W') => risFull_any r cv va a W' (ColS.ext hb h) hf hl (RcS.ext hva h))
  have HKDA := Lib.hid (fun W' (h : Ext w W') => rkeyed_any r cv va a W' (ColS.ext hb h) hf hl (RcS.ext hva h))
  have HKO := Lib.hid (fun W' (h : Ext w W') => rkeyOf_any r cv va a W' (ColS.ext hb h) (RcS.ext hva h) hla)
  have HSM := Lib.hid (fun W' (h : Ext w W') v2 l2 (h2 : RcS W' v2 l2) => sameR_any vb v2 b l2 W' (RcS.ext hvb h) h2)
  obtain ⟨ao, cap, rfl, _⟩ := id hb
  obtain ⟨bo, bcap, rfl, _, hmb⟩ := hvb.shape
  obtain ⟨vo, vcap, rfl, _, hma⟩ := hva.shape
  have hm1 : b.length ≤ 9223372036854775807 := by unfold maxLen at hmb; omega
  have hm2 : a.length ≤ 9223372036854775807 := by omega
  have R1 := Lib.hid (@rightE_kind r 4 0 b a); have R2 := Lib.hid (@rightE_len r 4 0 b a); have R3 := Lib.hid (@rightE_may r 4 0 b a); have R4 := Lib.hid (@rightE_old r 4 0 b a); have R5 := Lib.hid (@rightE_new r 4 0 b a); have R6 := Lib.hid (@rightE_end r 4 0 b a); have R7 := Lib.hid (@rightE_big r 4 0 b a)
  generalize rightE r 4 0 b a = E at *
  clear hb hf hl hvb hva hla hx hW hbox hmb hma
  generalize b.length = nb at *
  generalize a.length = na at *
  generalize r.cols.length = nq at *
  have HLINK : Hid (∃ j : Nat, r.ident = j ∧ ((j : Nat) : Int) = ((r.ident : Nat) : Int)) := Lib.hid ⟨_, rfl, rfl⟩
  unfold relv strV at *
  generalize (⟨r.name.toArray⟩ : ByteArray) = A1 at *
  generalize r.oid = o1 at *
  generalize r.ver = o2 at *
  generalize ((r.ident : Nat) : Int) = oi at *
  rcases (show 0 < nb ∨ nb = 0 by omega) with ho | ho
  · have gb : ((nb : Nat) : Int) > 0 := by omega
    have HEE : Hid (E = 14) := Lib.hid (R2.out (by omega) (by omega))
    clear R1 R2 R3 R4 R5 R6 R7
    clear ho
    go_enter Try.func21, Try.ntmps21
    go_wp2
    go_ret
    exact ⟨by rw [HEE.out]; rfl, by have := HX.out; rwa [HW.out] at this⟩
  · subst ho
    have HM : Hid (mayB r.ident 4 0 = true) := Lib.hid (by obtain ⟨j, hj, hj2⟩ := HLINK.out; rw [hj]; unfold mayB; have := hj2; (repeat' split) <;> first | (exfalso; omega) | (apply decide_eq_true; omega) | rfl)
    have HNL : Hid (¬ ((0 = 0 ∧ 0 < 0) ∨ (4 = 6 ∧ 0 < na))) := Lib.hid (by omega)
    go_enter Try.func21, Try.ntmps21
    go_wp2_with fail
    rw [← HW.out]
    refine (HKDA.out W HX.out).mono ?_
    rintro e w2 ⟨rfl, hx2⟩
    have hxx2 := Lib.hid (hx2)
    have HX2 := Lib.hid (HX.out.trans hx2)
    clear hx2
    have d0 : w2.cell? ⟨w.heap.size, 0, none⟩ = some (.int .u32 (o1 : Nat)) := by rw [cell_of_row _ _ _ _ _ _ (heap_ext hxx2.out HBOX.out)]; rfl
    have d1 : w2.cell? ⟨w.heap.size, 1, none⟩ = some (.int .u32 (o2 : Nat)) := by rw [cell_of_row _ _ _ _ _ _ (heap_ext hxx2.out HBOX.out)]; rfl
    have d2 : w2.cell? ⟨w.heap.size, 2, none⟩ = some (.string A1) := by rw [cell_of_row _ _ _ _ _ _ (heap_ext hxx2.out HBOX.out)]; rfl
    have d3 : w2.cell? ⟨w.heap.size, 3, none⟩ = some (.int .u8 oi) := by rw [cell_of_row _ _ _ _ _ _ (heap_ext hxx2.out HBOX.out)]; rfl
    have d4 : w2.cell? ⟨w.heap.size, 4, none⟩ = some (.slice ao nq cap) := by rw [cell_of_row _ _ _ _ _ _ (heap_ext hxx2.out HBOX.out)]; rfl
    generalize keyedE r a = ES at *
    go_wp2_with fail
    refine (HIFA.out w2 HX2.out).mono ?_
    rintro e w3 ⟨rfl, hx2⟩
    clear d0 d1 d2 d3 d4
    have hxx3 := Lib.hid (hxx2.out.trans hx2)
    have HX3 := Lib.hid (HX2.out.trans hx2)
    clear hx2
    have d0 : w3.cell? ⟨w.heap.size, 0, none⟩ = some (.int .u32 (o1 : Nat)) := by rw [cell_of_row _ _ _ _ _ _ (heap_ext hxx3.out HBOX.out)]; rfl
    have d1 : w3.cell? ⟨w.heap.size, 1, none⟩ = some (.int .u32 (o2 : Nat)) := by rw [cell_of_row _ _ _ _ _ _ (heap_ext hxx3.out HBOX.out)]; rfl
    have d2 : w3.cell? ⟨w.heap.size, 2, none⟩ = some (.string A1) := by rw [cell_of_row _ _ _ _ _ _ (heap_ext hxx3.out HBOX.out)]; rfl
    have d3 : w3.cell? ⟨w.heap.size, 3, none⟩ = some (.int .u8 oi) := by rw [cell_of_row _ _ _ _ _ _ (heap_ext hxx3.out HBOX.out)]; rfl
    have d4 : w3.cell? ⟨w.heap.size, 4, none⟩ = some (.slice ao nq cap) := by rw [cell_of_row _ _ _ _ _ _ (heap_ext hxx3.out HBOX.out)]; rfl
    by_cases he : isFullE r a = 0
    case neg =>
      have HEE : Hid (E = isFullE r a) := Lib.hid ((R5.out (by omega) HNL.out HM.out (old0 r b) (by rw [new4]; exact he)).trans (new4 r a))
      have n1 := beq_f (a := ((isFullE r a : Nat) : Int)) (b := 0) (by omega)
      have n2 := bne_t (a := ((isFullE r a : Nat) : Int)) (b := 0) (by omega)
      clear he R1 R2 R3 R4 R5 R6 R7
      generalize isFullE r a = EE at *
      go_wp2
      go_ret
      exact ⟨by rw [HEE.out]; rfl, HX3.out⟩
    have HE3 := Lib.hid he
    rw [he]
    clear he
    have HEE : Hid (E = 0) := Lib.hid (by rw [R6.out (by omega) HNL.out HM.out (old0 r b) (by rw [new4]; exact HE3.out), if_neg (by omega)])
    clear R1 R2 R3 R4 R5 R6 R7
    go_wp2
    go_ret
    exact ⟨by rw [HEE.out]; rfl, HX3.out⟩
set_option maxRecDepth 20000 in
set_option maxHeartbeats 4000000 in
theorem rr41_any (r : Rl) (cv vb va : Value) (b a : List Cel) (w : World) (hb : ColS w cv r.cols) (hf : r.fits) (hl : r.cols.length ≤ 1000000) (hvb : RcS w vb b) (hva : RcS w va a) (hla : a.length ≤ 100000) :
    Calls Try.prog 21 #[.agg (relv r cv), .int .u8 4, .int .u8 1, vb, va] w fun e w' => e = .returned (.int .i64 (rightE r 4 1 b a : Nat)) ∧ Ext w w' := by
  obtain ⟨W, hW⟩ : ∃ W, W = w.alloc (.cells (relv r cv) 27) := ⟨_, rfl⟩
  have hx : Ext w W := by rw [hW]; exact (Ch.refl _ _).alloc _
  have hbox : W.heap[w.heap.size]? = some (.cells (relv r cv) 27 (0, 0)) := by rw [hW]; exact heap_alloc_new _ _
  have HX := Lib.hid hx; have HW := Lib.hid hW; have HBOX := Lib.hid hbox
  have HIKB := Lib.hid (fun W' (h : Ext w W') => risKey_any r cv vb b W' (ColS.ext hb h) hf hl (RcS.ext hvb h))
  have HIFB := Lib.hid (fun W' (h : Ext w W') => risFull_any r cv vb b W' (ColS.ext hb h) hf hl (RcS.ext hvb h))
  have HIFA := Lib.hid (fun W' (h : Ext w W') => risFull_any r cv va a W' (ColS.ext hb h) hf hl (RcS.ext hva h))
  have HKDA := Lib.hid (fun W' (h : Ext w W') => rkeyed_any r cv va a W' (ColS.ext hb h) hf hl (RcS.ext hva h))
  have HKO := Lib.hid (fun W' (h : Ext w W') => rkeyOf_any r cv va a W' (ColS.ext hb h) (RcS.ext hva h) hla)
  have HSM := Lib.hid (fun W' (h : Ext w W') v2 l2 (h2 : RcS W' v2 l2) => sameR_any vb v2 b l2 W' (RcS.ext hvb h) h2)
  obtain ⟨ao, cap, rfl, _⟩ := id hb
  obtain ⟨bo, bcap, rfl, _, hmb⟩ := hvb.shape
  obtain ⟨vo, vcap, rfl, _, hma⟩ := hva.shape
  have hm1 : b.length ≤ 9223372036854775807 := by unfold maxLen at hmb; omega
  have hm2 : a.length ≤ 9223372036854775807 := by omega
  have R1 := Lib.hid (@rightE_kind r 4 1 b a); have R2 := Lib.hid (@rightE_len r 4 1 b a); have R3 := Lib.hid (@rightE_may r 4 1 b a); have R4 := Lib.hid (@rightE_old r 4 1 b a); have R5 := Lib.hid (@rightE_new r 4 1 b a); have R6 := Lib.hid (@rightE_end r 4 1 b a); have R7 := Lib.hid (@rightE_big r 4 1 b a)
  generalize rightE r 4 1 b a = E at *
  clear hb hf hl hvb hva hla hx hW hbox hmb hma
  generalize b.length = nb at *
  generalize a.length = na at *
  generalize r.cols.length = nq at *
  have HLINK : Hid (∃ j : Nat, r.ident = j ∧ ((j : Nat) : Int) = ((r.ident : Nat) : Int)) := Lib.hid ⟨_, rfl, rfl⟩
  unfold relv strV at *
  generalize (⟨r.name.toArray⟩ : ByteArray) = A1 at *
  generalize r.oid = o1 at *
  generalize r.ver = o2 at *
  generalize ((r.ident : Nat) : Int) = oi at *
  have HEE : Hid (E = 14) := Lib.hid (R3.out (by omega) (by omega) (by obtain ⟨j, hj, hj2⟩ := HLINK.out; rw [hj]; unfold mayB; have := hj2; (repeat' split) <;> first | (exfalso; omega) | (apply decide_eq_false; omega) | rfl))
  clear R1 R2 R3 R4 R5 R6 R7
  go_enter Try.func21, Try.ntmps21
  go_wp2
  go_ret
  exact ⟨by rw [HEE.out]; rfl, by have := HX.out; rwa [HW.out] at this⟩
set_option maxRecDepth 20000 in
set_option maxHeartbeats 4000000 in
theorem rr42_any (r : Rl) (cv vb va : Value) (b a : List Cel) (w : World) (hb : ColS w cv r.cols) (hf : r.fits) (hl : r.cols.length ≤ 1000000) (hvb : RcS w vb b) (hva : RcS w va a) (hla : a.length ≤ 100000) :
    Calls Try.prog 21 #[.agg (relv r cv), .int .u8 4, .int .u8 2, vb, va] w fun e w' => e = .returned (.int .i64 (rightE r 4 2 b a : Nat)) ∧ Ext w w' := by
  obtain ⟨W, hW⟩ : ∃ W, W = w.alloc (.cells (relv r cv) 27) := ⟨_, rfl⟩
  have hx : Ext w W := by rw [hW]; exact (Ch.refl _ _).alloc _
  have hbox : W.heap[w.heap.size]? = some (.cells (relv r cv) 27 (0, 0)) := by rw [hW]; exact heap_alloc_new _ _
  have HX := Lib.hid hx; have HW := Lib.hid hW; have HBOX := Lib.hid hbox
  have HIKB := Lib.hid (fun W' (h : Ext w W') => risKey_any r cv vb b W' (ColS.ext hb h) hf hl (RcS.ext hvb h))
  have HIFB := Lib.hid (fun W' (h : Ext w W') => risFull_any r cv vb b W' (ColS.ext hb h) hf hl (RcS.ext hvb h))
  have HIFA := Lib.hid (fun W' (h : Ext w W') => risFull_any r cv va a W' (ColS.ext hb h) hf hl (RcS.ext hva h))
  have HKDA := Lib.hid (fun W' (h : Ext w W') => rkeyed_any r cv va a W' (ColS.ext hb h) hf hl (RcS.ext hva h))
  have HKO := Lib.hid (fun W' (h : Ext w W') => rkeyOf_any r cv va a W' (ColS.ext hb h) (RcS.ext hva h) hla)
  have HSM := Lib.hid (fun W' (h : Ext w W') v2 l2 (h2 : RcS W' v2 l2) => sameR_any vb v2 b l2 W' (RcS.ext hvb h) h2)
  obtain ⟨ao, cap, rfl, _⟩ := id hb
  obtain ⟨bo, bcap, rfl, _, hmb⟩ := hvb.shape
  obtain ⟨vo, vcap, rfl, _, hma⟩ := hva.shape
  have hm1 : b.length ≤ 9223372036854775807 := by unfold maxLen at hmb; omega
  have hm2 : a.length ≤ 9223372036854775807 := by omega
  have R1 := Lib.hid (@rightE_kind r 4 2 b a); have R2 := Lib.hid (@rightE_len r 4 2 b a); have R3 := Lib.hid (@rightE_may r 4 2 b a); have R4 := Lib.hid (@rightE_old r 4 2 b a); have R5 := Lib.hid (@rightE_new r 4 2 b a); have R6 := Lib.hid (@rightE_end r 4 2 b a); have R7 := Lib.hid (@rightE_big r 4 2 b a)
  generalize rightE r 4 2 b a = E at *
  clear hb hf hl hvb hva hla hx hW hbox hmb hma
  generalize b.length = nb at *
  generalize a.length = na at *
  generalize r.cols.length = nq at *
  have HLINK : Hid (∃ j : Nat, r.ident = j ∧ ((j : Nat) : Int) = ((r.ident : Nat) : Int)) := Lib.hid ⟨_, rfl, rfl⟩
  unfold relv strV at *
  generalize (⟨r.name.toArray⟩ : ByteArray) = A1 at *
  generalize r.oid = o1 at *
  generalize r.ver = o2 at *
  generalize ((r.ident : Nat) : Int) = oi at *
  have HEE : Hid (E = 14) := Lib.hid (R3.out (by omega) (by omega) (by obtain ⟨j, hj, hj2⟩ := HLINK.out; rw [hj]; unfold mayB; have := hj2; (repeat' split) <;> first | (exfalso; omega) | (apply decide_eq_false; omega) | rfl))
  clear R1 R2 R3 R4 R5 R6 R7
  go_enter Try.func21, Try.ntmps21
  go_wp2
  go_ret
  exact ⟨by rw [HEE.out]; rfl, by have := HX.out; rwa [HW.out] at this⟩
set_option maxRecDepth 20000 in
set_option maxHeartbeats 4000000 in
theorem rr4x_any (r : Rl) (cv vb va : Value) (o : Nat) (b a : List Cel) (w : World) (hb : ColS w cv r.cols) (hf : r.fits) (hl : r.cols.length ≤ 1000000) (hvb : RcS w vb b) (hva : RcS w va a) (hla : a.length ≤ 100000) (ho : 2 < o) :
    Calls Try.prog 21 #[.agg (relv r cv), .int .u8 4, .int .u8 (o : Nat), vb, va] w fun e w' => e = .returned (.int .i64 (rightE r 4 o b a : Nat)) ∧ Ext w w' := by
  obtain ⟨W, hW⟩ : ∃ W, W = w.alloc (.cells (relv r cv) 27) := ⟨_, rfl⟩
  have hx : Ext w W := by rw [hW]; exact (Ch.refl _ _).alloc _
  have hbox : W.heap[w.heap.size]? = some (.cells (relv r cv) 27 (0, 0)) := by rw [hW]; exact heap_alloc_new _ _
  have HX := Lib.hid hx; have HW := Lib.hid hW; have HBOX := Lib.hid hbox
  have HIKB := Lib.hid (fun W' (h : Ext w W') => risKey_any r cv vb b W' (ColS.ext hb h) hf hl (RcS.ext hvb h))
  have HIFB := Lib.hid (fun W' (h : Ext w W') => risFull_any r cv vb b W' (ColS.ext hb h) hf hl (RcS.ext hvb h))
  have HIFA := Lib.hid (fun W' (h : Ext w W') => risFull_any r cv va a W' (ColS.ext hb h) hf hl (RcS.ext hva h))
  have HKDA := Lib.hid (fun W' (h : Ext w W') => rkeyed_any r cv va a W' (ColS.ext hb h) hf hl (RcS.ext hva h))
  have HKO := Lib.hid (fun W' (h : Ext w W') => rkeyOf_any r cv va a W' (ColS.ext hb h) (RcS.ext hva h) hla)
  have HSM := Lib.hid (fun W' (h : Ext w W') v2 l2 (h2 : RcS W' v2 l2) => sameR_any vb v2 b l2 W' (RcS.ext hvb h) h2)
  obtain ⟨ao, cap, rfl, _⟩ := id hb
  obtain ⟨bo, bcap, rfl, _, hmb⟩ := hvb.shape
  obtain ⟨vo, vcap, rfl, _, hma⟩ := hva.shape
  have hm1 : b.length ≤ 9223372036854775807 := by unfold maxLen at hmb; omega
  have hm2 : a.length ≤ 9223372036854775807 := by omega
  have R1 := Lib.hid (@rightE_kind r 4 o b a); have R2 := Lib.hid (@rightE_len r 4 o b a); have R3 := Lib.hid (@rightE_may r 4 o b a); have R4 := Lib.hid (@rightE_old r 4 o b a); have R5 := Lib.hid (@rightE_new r 4 o b a); have R6 := Lib.hid (@rightE_end r 4 o b a); have R7 := Lib.hid (@rightE_big r 4 o b a)
  generalize rightE r 4 o b a = E at *
  clear hb hf hl hvb hva hla hx hW hbox hmb hma
  generalize b.length = nb at *
  generalize a.length = na at *
  generalize r.cols.length = nq at *
  have HLINK : Hid (∃ j : Nat, r.ident = j ∧ ((j : Nat) : Int) = ((r.ident : Nat) : Int)) := Lib.hid ⟨_, rfl, rfl⟩
  unfold relv strV at *
  generalize (⟨r.name.toArray⟩ : ByteArray) = A1 at *
  generalize r.oid = o1 at *
  generalize r.ver = o2 at *
  generalize ((r.ident : Nat) : Int) = oi at *
  have HEE : Hid (E = 14) := Lib.hid (R7.out (by omega) ho)
  have go' : ((o : Nat) : Int) > 2 := by omega
  clear R1 R2 R3 R4 R5 R6 R7
  clear ho
  go_enter Try.func21, Try.ntmps21
  go_wp2
  go_ret
  exact ⟨by rw [HEE.out]; rfl, by have := HX.out; rwa [HW.out] at this⟩
end Go.Proofs.Ytdpebdbfphlmeaa
