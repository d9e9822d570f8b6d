/-
  Images: Right (the program's), kind 6n. MADE BY mkImgK.py
-/
import Derived.Test.YtdpebdbfphlmeaaImgK
namespace Go.Proofs.Ytdpebdbfphlmeaa
open Go.RowKit Go.Lac

set_option maxRecDepth 20000 in
set_option maxHeartbeats 4000000 in
theorem right6n_any (r : Rl) (cv vb va : Value) (o : Nat) (b a : List Cel) (w : World) (hb : ColS w cv r.cols) (hf : r.fits) (hl : r.cols.length ≤ 1000000) (hvb : PcS w vb b) (hva : PcS w va a) (hla : a.length ≤ 100000) (ho : o ≠ 0) :
    Calls Try.prog 20 #[.agg (relv r cv), .int .u8 6, .int .u8 (o : Nat), vb, va] w fun e w' => e = .returned (.int .i64 (rightE r 6 o b a : Nat)) ∧ Ext w w' := by
  obtain ⟨W, hW⟩ : ∃ W, W = w.alloc (.cells (relv r cv) 33) := ⟨_, rfl⟩
  have hx : Ext w W := by rw [hW]; exact (Ch.refl _ _).alloc _
  have hbox : W.heap[w.heap.size]? = some (.cells (relv r cv) 33 (0, 0)) := by rw [hW]; exact heap_alloc_new _ _
  have HX := Lib.hid hx; have HW := Lib.hid hW; have HBOX := Lib.hid hbox
  have HMB : Hid (∀ w, Calls Try.prog 32 #[.int .u8 (r.ident : Nat), .int .u8 6, .int .u8 (o : Nat)] w fun e w' => e = .returned (.bool (mayB r.ident 6 o)) ∧ w = w') := Lib.hid (fun w => mayBe_any r.ident 6 o w)
  have HOLD : Hid (∀ W', Ext w W' → Calls Try.prog 33 #[.agg (relv r cv), .int .u8 (o : Nat), vb] W' fun e w' => e = .returned (.int .i64 (oldE r o b : Nat)) ∧ Ext W' w') := Lib.hid (fun W' (h : Ext w W') => rightOld_any r cv vb o b W' (ColS.ext hb h) hf hl (PcS.ext hvb h))
  have HNEW : Hid (∀ W', Ext w W' → Calls Try.prog 34 #[.agg (relv r cv), .int .u8 6, va] W' fun e w' => e = .returned (.int .i64 (newE r 6 a : Nat)) ∧ Ext W' w') := Lib.hid (fun W' (h : Ext w W') => rightNew_any r cv va 6 a W' (ColS.ext hb h) hf hl (PcS.ext hva h))
  have HKO := Lib.hid (fun W' (h : Ext w W') => keyOf_any r cv va a W' (ColS.ext hb h) hl (PcS.ext hva h) hla)
  have HAL := Lib.hid (fun W' (h : Ext w W') v2 l2 (h2 : PcS W' v2 l2) => alikeRow_any vb v2 b l2 W' (PcS.ext hvb h) h2)
  obtain ⟨ao, cap, rfl, _⟩ := id hb
  obtain ⟨bo, bcap, rfl, _, hmb⟩ := hvb.shape
  obtain ⟨vo, vcap, rfl, _, hma⟩ := hva.shape
  have hm1 : b.length ≤ 9223372036854775807 := by unfold maxLen at hmb; omega
  have hm2 : a.length ≤ 9223372036854775807 := by omega
  have R1 := Lib.hid (@rightE_kind r 6 o b a); have R2 := Lib.hid (@rightE_len r 6 o b a); have R3 := Lib.hid (@rightE_may r 6 o b a); have R4 := Lib.hid (@rightE_old r 6 o b a); have R5 := Lib.hid (@rightE_new r 6 o b a); have R6 := Lib.hid (@rightE_end r 6 o b a)
  generalize rightE r 6 o b a = E at *
  clear hb hf hl hvb hva hla hx hW hbox hmb hma
  generalize mayB r.ident 6 o = M at *
  generalize oldE r o b = E1 at *
  generalize newE r 6 a = E2 at *
  generalize keyOf r.cols a = KO at *
  generalize hbl : b.length = nb at *
  generalize hal : a.length = na at *
  generalize r.cols.length = nq at *
  unfold relv strV at *
  generalize (⟨r.name.toArray⟩ : ByteArray) = A1 at *
  generalize r.oid = o1 at *
  generalize r.ver = o2 at *
  generalize r.ident = o3 at *
  clear hbl hal
  rcases (show 0 < na ∨ na = 0 by omega) with ha | ha
  · have o0 := u8_f (a := o) (z := 0) (by omega)
    have ga : ((na : Nat) : Int) > 0 := by omega
    have HEE : Hid (E = 14) := Lib.hid (R2.out (by omega) (by omega))
    clear R1 R2 R3 R4 R5 R6 ho ha
    go_enter Try.func20, Try.ntmps20
    go_wp2
    go_ret
    exact ⟨by rw [HEE.out]; rfl, by have := HX.out; rwa [HW.out] at this⟩
  · subst ha
    have ha : True := trivial
    have o0 := u8_f (a := o) (z := 0) (by omega)
    have HKK : Hid (6 = 6) := Lib.hid rfl; have HOO := Lib.hid ho
    have hnk : ¬ (6 ≠ 4 ∧ 6 ≠ 5 ∧ 6 ≠ 6) := by omega
    have hnl : ¬ ((o = 0 ∧ 0 < nb) ∨ (6 = 6 ∧ 0 < 0)) := by omega
    have HNL := Lib.hid hnl; have HNK := Lib.hid hnk
    clear hnl hnk ho ha
    go_enter Try.func20, Try.ntmps20
    go_wp2_with fail
    rw [← HW.out]
    refine (HMB.out W).mono ?_
    rintro e w1 ⟨rfl, rfl⟩
    cases M with
    | false =>
      have HEE : Hid (E = 14) := Lib.hid (R3.out HNK.out HNL.out rfl)
      clear R1 R2 R3 R4 R5 R6
      go_wp2
      go_ret
      exact ⟨by rw [HEE.out]; rfl, HX.out⟩
    | true =>
      have R4' := Lib.hid (R4.out HNK.out HNL.out rfl); have R5' := Lib.hid (R5.out HNK.out HNL.out rfl); have R6' := Lib.hid (R6.out HNK.out HNL.out rfl)
      have hxx : Hid (Ext W W) := Lib.hid (Ch.refl _ _)
      clear R1 R2 R3 R4 R5 R6
      have d0 : W.cell? ⟨w.heap.size, 0, none⟩ = some (.int .u32 (o1 : Nat)) := by rw [cell_of_row _ _ _ _ _ _ (heap_ext hxx.out HBOX.out)]; rfl
      have d1 : W.cell? ⟨w.heap.size, 1, none⟩ = some (.int .u32 (o2 : Nat)) := by rw [cell_of_row _ _ _ _ _ _ (heap_ext hxx.out HBOX.out)]; rfl
      have d2 : W.cell? ⟨w.heap.size, 2, none⟩ = some (.string A1) := by rw [cell_of_row _ _ _ _ _ _ (heap_ext hxx.out HBOX.out)]; rfl
      have d3 : W.cell? ⟨w.heap.size, 3, none⟩ = some (.int .u8 (o3 : Nat)) := by rw [cell_of_row _ _ _ _ _ _ (heap_ext hxx.out HBOX.out)]; rfl
      have d4 : W.cell? ⟨w.heap.size, 4, none⟩ = some (.slice ao nq cap) := by rw [cell_of_row _ _ _ _ _ _ (heap_ext hxx.out HBOX.out)]; rfl
      go_wp2_with fail
      refine (HOLD.out W HX.out).mono ?_
      rintro e w2 ⟨rfl, hx2⟩
      have hxx := Lib.hid hx2
      have HX2 := Lib.hid (HX.out.trans hx2)
      clear hx2 d0 d1 d2 d3 d4
      have d0 : w2.cell? ⟨w.heap.size, 0, none⟩ = some (.int .u32 (o1 : Nat)) := by rw [cell_of_row _ _ _ _ _ _ (heap_ext hxx.out HBOX.out)]; rfl
      have d1 : w2.cell? ⟨w.heap.size, 1, none⟩ = some (.int .u32 (o2 : Nat)) := by rw [cell_of_row _ _ _ _ _ _ (heap_ext hxx.out HBOX.out)]; rfl
      have d2 : w2.cell? ⟨w.heap.size, 2, none⟩ = some (.string A1) := by rw [cell_of_row _ _ _ _ _ _ (heap_ext hxx.out HBOX.out)]; rfl
      have d3 : w2.cell? ⟨w.heap.size, 3, none⟩ = some (.int .u8 (o3 : Nat)) := by rw [cell_of_row _ _ _ _ _ _ (heap_ext hxx.out HBOX.out)]; rfl
      have d4 : w2.cell? ⟨w.heap.size, 4, none⟩ = some (.slice ao nq cap) := by rw [cell_of_row _ _ _ _ _ _ (heap_ext hxx.out HBOX.out)]; rfl
      by_cases he1 : E1 = 0
      case neg =>
        have HEE : Hid (E = E1) := Lib.hid (R4'.out he1)
        have n1 := u8_f (a := E1) (z := 0) (by omega)
        have n2 := u8_nf (a := E1) (z := 0) (by omega)
        clear he1 R4' R5' R6'
        go_wp2
        go_ret
        exact ⟨by rw [HEE.out]; rfl, HX2.out⟩
      have R5'' := Lib.hid (R5'.out he1); have R6'' := Lib.hid (R6'.out he1)
      have n1 := u8_t (a := E1) (z := 0) (by omega)
      have n2 := u8_nt (a := E1) (z := 0) (by omega)
      clear he1 R4' R5' R6'
      go_wp2_with fail
      refine (HNEW.out w2 HX2.out).mono ?_
      rintro e w3 ⟨rfl, hx3⟩
      have hxx := Lib.hid (hxx.out.trans hx3)
      have HX3 := Lib.hid (HX2.out.trans hx3)
      clear hx3 d0 d1 d2 d3 d4
      have d0 : w3.cell? ⟨w.heap.size, 0, none⟩ = some (.int .u32 (o1 : Nat)) := by rw [cell_of_row _ _ _ _ _ _ (heap_ext hxx.out HBOX.out)]; rfl
      have d1 : w3.cell? ⟨w.heap.size, 1, none⟩ = some (.int .u32 (o2 : Nat)) := by rw [cell_of_row _ _ _ _ _ _ (heap_ext hxx.out HBOX.out)]; rfl
      have d2 : w3.cell? ⟨w.heap.size, 2, none⟩ = some (.string A1) := by rw [cell_of_row _ _ _ _ _ _ (heap_ext hxx.out HBOX.out)]; rfl
      have d3 : w3.cell? ⟨w.heap.size, 3, none⟩ = some (.int .u8 (o3 : Nat)) := by rw [cell_of_row _ _ _ _ _ _ (heap_ext hxx.out HBOX.out)]; rfl
      have d4 : w3.cell? ⟨w.heap.size, 4, none⟩ = some (.slice ao nq cap) := by rw [cell_of_row _ _ _ _ _ _ (heap_ext hxx.out HBOX.out)]; rfl
      by_cases he2 : E2 = 0
      case neg =>
        have HEE : Hid (E = E2) := Lib.hid (R5''.out he2)
        have m1 := u8_f (a := E2) (z := 0) (by omega)
        have m2 := u8_nf (a := E2) (z := 0) (by omega)
        clear he2 R5'' R6''
        go_wp2
        go_ret
        exact ⟨by rw [HEE.out]; rfl, HX3.out⟩
      have R6 := Lib.hid (R6''.out he2)
      have m1 := u8_t (a := E2) (z := 0) (by omega)
      have m2 := u8_nt (a := E2) (z := 0) (by omega)
      clear he2 R5'' R6''
      have HEE : Hid (E = 0) := Lib.hid (by rw [R6.out, if_neg (by have h1 := HKK.out; have h2 := HOO.out; omega)])
      clear R6
      go_wp2
      go_ret
      exact ⟨by rw [HEE.out]; rfl, HX3.out⟩
end Go.Proofs.Ytdpebdbfphlmeaa
