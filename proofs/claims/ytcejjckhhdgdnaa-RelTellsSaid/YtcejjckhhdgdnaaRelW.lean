/-
  Relations: the document's Encode.
-/
import Derived.Test.YtcejjckhhdgdnaaGRelB
import Derived.Test.YtcejjckhhdgdnaaGRelC
import Derived.Test.YtcejjckhhdgdnaaGPrim
namespace Go.Proofs.Ytcejjckhhdgdnaa
open Go.RowKit Go.Lac

def OwB (B : Nat) (w : World) (v : Value) (bs : List UInt8) : Prop := w.ownsRow B 5 1 v bs.length (cellsB bs)
theorem OwB.ext {B : Nat} {w w' : World} {v : Value} {bs : List UInt8} (h : OwB B w v bs) (k : Ext w w') : OwB B w' v bs := World.ownsRow.ext h k
theorem OwB.join {B : Nat} {w : World} {v : Value} {a b : List UInt8} (h : w.ownsRow B 5 1 v (a.length + b.length) (cellsB a ++ cellsB b)) : OwB B w v (a ++ b) := by
  unfold OwB; rw [List.length_append, cellsB_append]; exact h
theorem OwB.own {B n : Nat} {w : World} {v : Value} {bs : List UInt8} (h : OwB B w v bs) (hl : bs.length = n) : w.ownsRow B 5 1 v n (cellsB bs) := hl ▸ h
theorem OwB.join' {B n : Nat} {w : World} {v : Value} {a b : List UInt8} (hl : a.length = n) (h : w.ownsRow B 5 1 v (n + b.length) (cellsB a ++ cellsB b)) : OwB B w v (a ++ b) := by
  subst hl; exact OwB.join h
theorem OwB.rd {B : Nat} {w : World} {v : Value} {bs : List UInt8} (h : OwB B w v bs) : Rd w v bs := Rd.ofOwns h
theorem OwB.shape {B : Nat} {w : World} {v : Value} {bs : List UInt8} (h : OwB B w v bs) : ∃ ao cap, v = .slice ao bs.length cap := owns_shape h
theorem row5 {w : World} {g : Nat} {a b c d e : Value} {T : TypeId} (h : w.heap[g]? = some (.cells #[a, b, c, d, e] T (0, 0))) :
    w.cell? ⟨g, 0, none⟩ = some a ∧ w.cell? ⟨g, 1, none⟩ = some b ∧ w.cell? ⟨g, 2, none⟩ = some c ∧ w.cell? ⟨g, 3, none⟩ = some d ∧ w.cell? ⟨g, 4, none⟩ = some e :=
  ⟨by rw [cell_of_row _ _ _ _ _ _ h]; rfl, by rw [cell_of_row _ _ _ _ _ _ h]; rfl, by rw [cell_of_row _ _ _ _ _ _ h]; rfl, by rw [cell_of_row _ _ _ _ _ _ h]; rfl, by rw [cell_of_row _ _ _ _ _ _ h]; rfl⟩
theorem row3 {w : World} {g : Nat} {a b c : Value} {T : TypeId} (h : w.heap[g]? = some (.cells #[a, b, c] T (0, 0))) :
    w.cell? ⟨g, 0, none⟩ = some a ∧ w.cell? ⟨g, 1, none⟩ = some b ∧ w.cell? ⟨g, 2, none⟩ = some c :=
  ⟨by rw [cell_of_row _ _ _ _ _ _ h]; rfl, by rw [cell_of_row _ _ _ _ _ _ h]; rfl, by rw [cell_of_row _ _ _ _ _ _ h]; rfl⟩
theorem own_oneN (w : World) {n : Nat} (h : n < 256) : OwB w.heap.size (w.alloc (.cells #[.int .u8 (n : Nat)] 5)) (.slice (some ⟨w.heap.size, 0, none⟩) 1 1) [UInt8.ofNat n] := by
  have h2 : cellsB [UInt8.ofNat n] = [.int .u8 (n : Nat)] := by simp only [cellsB, List.map_cons, List.map_nil]; rw [cellB_ofNat h]
  unfold OwB
  rw [h2]
  exact World.ownsRow_lit w #[.int .u8 (n : Nat)] 1 (Nat.le_refl _) (by decide) rfl
theorem own_twoN (w : World) {n m : Nat} (h : n < 256) (h' : m < 256) : OwB w.heap.size (w.alloc (.cells #[.int .u8 (n : Nat), .int .u8 (m : Nat)] 5)) (.slice (some ⟨w.heap.size, 0, none⟩) 2 2) [UInt8.ofNat n, UInt8.ofNat m] := by
  have h2 : cellsB [UInt8.ofNat n, UInt8.ofNat m] = [.int .u8 (n : Nat), .int .u8 (m : Nat)] := by simp only [cellsB, List.map_cons, List.map_nil]; rw [cellB_ofNat h, cellB_ofNat h']
  unfold OwB
  rw [h2]
  exact World.ownsRow_lit w #[.int .u8 (n : Nat), .int .u8 (m : Nat)] 2 (Nat.le_refl _) (by decide) rfl

set_option maxRecDepth 20000 in
set_option maxHeartbeats 4000000 in
theorem rEnc_any (r : Rl) (cv : Value) (w : World) (hb : ColS w cv r.cols) (hf : r.fits) (hok : r.ok) :
    Calls Try.prog 15 #[.agg (relv r cv)] w (EncPost (rlErr r) (rlBytes r) w) := by
  have h1 := heap_alloc_new w (.cells (relv r cv) 27)
  obtain ⟨W, hW⟩ : ∃ W, W = w.alloc (.cells (relv r cv) 27) := ⟨_, rfl⟩
  have hx : Ext w W := by rw [hW]; exact (Ch.refl _ _).alloc _
  rw [← hW] at h1
  have HG := Lib.hid h1; have HX := Lib.hid hx; have HW := Lib.hid hW
  have HB := Lib.hid (ColS.ext hb hx)
  have HR := Lib.hid (rRight_any r cv W HB.out hf)
  obtain ⟨c0, c1, c2, c3, c4⟩ := row_cells h1
  have HZ := Lib.hid (rlErr_zero (r := r))
  have HOK := Lib.hid hok
  have HEE := Lib.hid (Nat.eq_zero_or_pos (rlErr r))
  generalize hE : rlErr r = E at *
  clear hE h1 hx hb hf hok
  obtain ⟨ao, cap, rfl, hlc, _⟩ := HB.out
  rw [hW] at c0 c1 c2 c3 c4
  clear hW
  unfold relv strV at *
  generalize hA : (⟨r.name.toArray⟩ : ByteArray) = A1 at *
  have HA := Lib.hid hA; clear hA
  generalize hm : r.cols.length = m at *
  have HM := Lib.hid hm; clear hm hlc
  go_enter Try.func15, Try.ntmps15
  go_wp2_with fail
  rw [← HW.out]
  refine HR.out.mono ?_
  rintro e w1 ⟨rfl, hx⟩
  have HX1 := Lib.hid hx
  clear c0 c1 c2 c3 c4 hx
  rcases HEE.out with hE | hE
  case inr =>
    have e1 : (((E : Nat) : Int) != 0) = true := by simp; omega
    have hne : ¬ E = 0 := by omega
    have HN := Lib.hid hne
    clear hE hne
    go_wp2
    refine bodyPost_ret (results_tmp2 rfl _ _ _) rfl ?_
    exact ⟨_, rfl, HX.out.trans HX1.out, by rw [if_neg HN.out]; exact rd_nil _⟩
  have HE0 := Lib.hid hE
  clear HEE
  have HZZ := Lib.hid (HZ.out hE)
  rw [hE, Int.natCast_zero]
  clear hE HZ
  obtain ⟨o1, o2, o3, o4⟩ := HOK.out
  have HID := Lib.hid o3
  have hv1 : IntKind.u64.wrap (r.oid : Int) = (r.oid : Int) := wrap_u64_of (by omega) (by omega)
  have hv2 : IntKind.u64.wrap (r.ver : Int) = (r.ver : Int) := wrap_u64_of (by omega) (by omega)
  have HP1 := Lib.hid (fun w => refUint_any r.oid w (by omega))
  have HP2 := Lib.hid (fun w => refUint_any r.ver w (by omega))
  have hs1 := sev_length_10 r.oid (by omega)
  have hs2 := sev_length_10 r.ver (by omega)
  have hnl := HZZ.out.2.2.1.2.1
  have htl := txt_len hnl
  have HP3 := Lib.hid (fun w => refText_any r.name w (by omega))
  rw [HA.out] at HP3
  have hm16 := HZZ.out.2.2.2.2.2.1
  have hv3 : IntKind.u8.wrap (m : Int) = (m : Int) := by rw [IntKind.wrap_u8]; omega
  obtain ⟨b0, hb0⟩ : ∃ b, b = sev r.oid := ⟨_, rfl⟩
  obtain ⟨b1, hb1⟩ : ∃ b, b = sev r.ver := ⟨_, rfl⟩
  obtain ⟨b2, hb2⟩ : ∃ b, b = txt r.name := ⟨_, rfl⟩
  have HL : Hid (b0.length ≤ 10 ∧ b1.length ≤ 10 ∧ b2.length ≤ 41) := Lib.hid ⟨by rw [hb0]; omega, by rw [hb1]; omega, by rw [hb2]; omega⟩
  have HEND : Hid (((b0 ++ b1) ++ b2) ++ [UInt8.ofNat r.ident, UInt8.ofNat m] ++ r.cols.flatMap colB = rlBytes r) := Lib.hid (by
    have h : sev m = [UInt8.ofNat m] := sev_small (by omega)
    rw [hb2, hb1, hb0]; unfold rlBytes; rw [HM.out, h]; simp)
  have HCN := Lib.hid (colsErr_zero _ _ HZZ.out.2.2.2.2.2.2.1)
  have HM16 := Lib.hid hm16
  rw [← hb0] at HP1; rw [← hb1] at HP2; rw [← hb2] at HP3
  clear hb0 hb1 hb2 hs1 hs2 htl hnl hm16 o1 o2 o3 o4 HA
  obtain ⟨c0, c1, c2, c3, c4⟩ := row5 (heap_of_ext HX1.out HG.out)
  generalize r.oid = n1 at *
  generalize r.ver = n2 at *
  obtain ⟨i, hi1, hz, hs, hby⟩ := info_parts infoU8
  have HI := Lib.hid hi1; have HZ1 := Lib.hid hz; have HSZ := Lib.hid hs; have HBY := Lib.hid hby
  clear hi1 hz hs hby
  go_wp2_with fail
  refine (HP1.out _).mono ?_
  rintro e w2 ⟨s1, rfl, hx, hr⟩
  have HX2 := Lib.hid (HX1.out.trans hx)
  have HO2 : Hid (OwB W.heap.size w2 s1 b0) := Lib.hid (ownsRow_down hr HX1.out.size)
  obtain ⟨a1, cp1, rfl⟩ := owns_shape hr
  obtain ⟨c0, c1, c2, c3, c4⟩ := row5 (heap_of_ext HX2.out HG.out)
  clear hx hr
  go_wp2_with fail
  refine (HP2.out _).mono ?_
  rintro e w3 ⟨s2, rfl, hx, hr⟩
  have HX3 := Lib.hid (HX2.out.trans hx)
  have HO3 := Lib.hid (HO2.out.ext hx)
  have HR3 := Lib.hid (Rd.ofOwns hr)
  obtain ⟨a2, cp2, rfl⟩ := owns_shape hr
  clear hx hr c0 c1 c2 c3 c4
  go_wp2_with (at_builtin; refine wpList_append_sl _ rfl _ _ 34 rfl W.heap.size 5 i (.int .u8 0) 1 1 Try.underlying34 HI.out HZ1.out HSZ.out HBY.out rfl (by decide) _ _ _ rfl HO3.out _ _ _ rfl HR3.out (by rw [cellsB_length, Nat.mul_one]) (cellsB_one _) (by have := HL.out; omega) (by have := HL.out; unfold maxLen; omega) HX3.out.size ?_)
  intro v4 w4 hown hgrow
  have HX4 : Hid (Ext W w4) := Lib.hid (HX3.out.grown hgrow fun k hk => .inr (HO3.out.lt k hk).1)
  have HO4 := Lib.hid (OwB.join hown)
  obtain ⟨d1, hd1⟩ : ∃ d, d = b0 ++ b1 := ⟨_, rfl⟩
  rw [← hd1] at HO4 HEND
  obtain ⟨a4, cp4, rfl⟩ := HO4.out.shape
  generalize hl4 : d1.length = l4 at *
  have HL4 := Lib.hid hl4
  have hl4 : l4 ≤ 20 := by have := HL.out; rw [← hl4, hd1, List.length_append]; omega
  clear hd1
  have HK4 := Lib.hid hl4
  clear hl4
  obtain ⟨c0, c1, c2, c3, c4⟩ := row5 (heap_of_ext HX4.out HG.out)
  clear hown hgrow HO3 HR3
  go_wp2_with fail
  refine (HP3.out _).mono ?_
  rintro e w5 ⟨s5, rfl, hx, hr⟩
  have HX5 := Lib.hid (HX4.out.trans hx)
  have HO5 := Lib.hid (HO4.out.ext hx)
  have HR5 := Lib.hid (Rd.ofOwns hr)
  obtain ⟨a5, cp5, rfl⟩ := owns_shape hr
  clear hx hr c0 c1 c2 c3 c4
  go_wp2_with (at_builtin; refine wpList_append_sl _ rfl _ _ 34 rfl W.heap.size 5 i (.int .u8 0) 1 1 Try.underlying34 HI.out HZ1.out HSZ.out HBY.out rfl (by decide) _ _ _ rfl (HO5.out.own HL4.out) _ _ _ rfl HR5.out (by rw [cellsB_length, Nat.mul_one]) (cellsB_one _) (by have := HL.out; have := HK4.out; omega) (by have := HL.out; have := HK4.out; unfold maxLen; omega) HX5.out.size ?_)
  intro v6 w6 hown hgrow
  have HX6 : Hid (Ext W w6) := Lib.hid (HX5.out.grown hgrow fun k hk => .inr (HO5.out.lt k hk).1)
  have HO6 := Lib.hid (OwB.join' HL4.out hown)
  obtain ⟨d2, hd2⟩ : ∃ d, d = d1 ++ b2 := ⟨_, rfl⟩
  rw [← hd2] at HO6 HEND
  obtain ⟨a6, cp6, rfl⟩ := HO6.out.shape
  generalize hl6 : d2.length = l6 at *
  have HL6 := Lib.hid hl6
  have hl6 : l6 ≤ 61 := by have := HL.out; have := HK4.out; have := HL4.out; rw [← hl6, hd2, List.length_append]; omega
  clear hd2
  have HK6 := Lib.hid hl6
  clear hl6
  obtain ⟨c0, c1, c2, c3, c4⟩ := row5 (heap_of_ext HX6.out HG.out)
  have HO7 := Lib.hid (HO6.out.ext ((Ch.refl _ _).alloc (.cells #[.int .u8 (r.ident : Nat), .int .u8 (m : Nat)] 5)))
  have HR7 := Lib.hid (own_twoN w6 (m := m) HID.out (by have := HM16.out; omega)).rd
  have HX7 := Lib.hid (HX6.out.trans ((Ch.refl _ _).alloc (.cells #[.int .u8 (r.ident : Nat), .int .u8 (m : Nat)] 5)))
  clear hown hgrow HO5 HR5
  go_wp2_with (at_builtin; refine wpList_append_sl _ rfl _ _ 34 rfl W.heap.size 5 i (.int .u8 0) 1 1 Try.underlying34 HI.out HZ1.out HSZ.out HBY.out rfl (by decide) _ _ _ rfl (HO7.out.own HL6.out) _ 2 _ rfl HR7.out (by rw [cellsB_length, Nat.mul_one]; rfl) (cellsB_one _) (by have := HK6.out; omega) (by have := HK6.out; unfold maxLen; omega) HX7.out.size ?_)
  intro v8 w8 hown hgrow
  have HX8 : Hid (Ext W w8) := Lib.hid (HX7.out.grown hgrow fun k hk => .inr (HO7.out.lt k hk).1)
  have HO8 := Lib.hid (OwB.join' (b := [UInt8.ofNat r.ident, UInt8.ofNat m]) HL6.out hown)
  clear hown hgrow HO7 HR7 c0 c1 c2 c3 c4 HP1 HP2 HP3
  obtain ⟨b4, hb4⟩ : ∃ b, b = d2 ++ [UInt8.ofNat r.ident, UInt8.ofNat m] := ⟨_, rfl⟩
  rw [← hb4] at HO8 HEND
  have HB4L : Hid (b4.length ≤ 72) := Lib.hid (by have := HK6.out; have := HL6.out; rw [hb4]; simp only [List.length_append, List.length_cons, List.length_nil]; omega)
  obtain ⟨ci, chi, _, chs, _⟩ := info_parts infoRCZ
  have CHI := Lib.hid chi; have CHS := Lib.hid chs
  clear chi chs hb4 hv1 hv2 hv3
  generalize hcs : r.cols = cs at *
  have HCS := Lib.hid hcs; clear hcs
  go_wp2
  go_loopw [5, 6] (fun vb ix wr => ∃ k : Nat, k ≤ m ∧ ix = .int .i64 k ∧ Hid (Ext W wr) ∧ Hid (OwB W.heap.size wr vb (b4 ++ (cs.take k).flatMap colB))) (fun _ ix _ => m - (intOf ix).toNat)
  case atStart => exact ⟨0, Nat.zero_le _, rfl, HX8, Lib.hid (by simpa using HO8.out)⟩
  case round =>
    obtain ⟨k, hk, rfl, HXr, HOr⟩ := hrel
    obtain ⟨ab, cb, rfl⟩ := HOr.out.shape
    obtain ⟨c0, c1, c2, c3, c4⟩ := row5 (heap_of_ext HXr.out HG.out)
    clear c0 c1 c2 c3
    generalize hln : (b4 ++ (cs.take k).flatMap colB).length = ln at *
    by_cases hlt : k < m
    · have hkl : k < cs.length := by have := HM.out; omega
      have hcs := ColS.ext HB.out HXr.out
      obtain ⟨b, o, rfl, hra⟩ := colS_at hcs hkl
      have hidx := run_indexSl wr Try.underlying25 CHI.out CHS.out b o m cap k hlt
      have q0 : wr.cell? ⟨b, o + k * 3, none⟩ = some (.string ⟨cs[k].name.toArray⟩) := by have := hra 0 _ rfl; simpa [strV] using this
      have q1 : wr.cell? ⟨b, o + k * 3 + 1, none⟩ = some (.int .u8 (cs[k].ty : Nat)) := hra 1 _ rfl
      have q2 : wr.cell? ⟨b, o + k * 3 + 2, none⟩ = some (.bool cs[k].key) := hra 2 _ rfl
      have hcn := HCN.out cs[k] (List.getElem_mem hkl)
      have hbl : (b4 ++ (cs.take k).flatMap colB).length ≤ 1000 := by
        have h1 := HB4L.out
        have h2 := colsB_len (cs.take k) fun c hc => (HCN.out c (List.mem_of_mem_take hc)).1
        have h3 := HM16.out
        rw [List.length_take] at h2
        rw [List.length_append]
        omega
      have hnx : b4 ++ (cs.take (k + 1)).flatMap colB = (b4 ++ (cs.take k).flatMap colB) ++ colB cs[k] := by
        rw [List.take_succ_eq_append_getElem hkl, List.flatMap_append, List.append_assoc]; simp
      obtain ⟨x, hx⟩ : ∃ x, x = cs[k] := ⟨_, rfl⟩
      rw [← hx] at q0 q1 q2 hcn hnx
      obtain ⟨bs, hbs⟩ : ∃ bs, bs = b4 ++ (cs.take k).flatMap colB := ⟨_, rfl⟩
      rw [← hbs] at hnx hbl HOr hln
      have HNX := Lib.hid hnx; have HLT := Lib.hid hlt; have HLN := Lib.hid hln; have HBL := Lib.hid hbl; have HCX := Lib.hid hcn
      clear hra hcs hx hbs hnx hln hbl hcn
      have hrow := heap_alloc_new wr (.cells (colv x) 50)
      have hxa : Ext wr (wr.alloc (.cells (colv x) 50)) := (Ch.refl _ _).alloc _
      have HXA := Lib.hid (HXr.out.trans hxa)
      have HOA := Lib.hid (HOr.out.ext hxa)
      obtain ⟨p0, p1, p2⟩ := row3 hrow
      have HROW := Lib.hid hrow
      have HPT := Lib.hid (fun w => refText_any x.name w (by have := HCX.out.1.2.1; omega))
      have HTL := Lib.hid (txt_len HCX.out.1.2.1)
      unfold colv strV at *
      clear hrow hxa
      go_wp2_with fail
      refine (HPT.out _).mono ?_
      rintro e w5 ⟨s5, rfl, hx, hr⟩
      have HX5 := Lib.hid (HXA.out.trans hx)
      have HO5 := Lib.hid (HOA.out.ext hx)
      have HR5 := Lib.hid (Rd.ofOwns hr)
      have HRW5 := Lib.hid (heap_of_ext hx HROW.out)
      obtain ⟨a5, cp5, rfl⟩ := owns_shape hr
      clear hx hr p0 p1 p2 q0 q1 q2 c4 hidx
      go_wp2_with (at_builtin; refine wpList_append_sl _ rfl _ _ 34 rfl W.heap.size 5 i (.int .u8 0) 1 1 Try.underlying34 HI.out HZ1.out HSZ.out HBY.out rfl (by decide) _ _ _ rfl (HO5.out.own HLN.out) _ _ _ rfl HR5.out (by rw [cellsB_length, Nat.mul_one]) (cellsB_one _) (by have := HBL.out; have := HLN.out; have := HTL.out; omega) (by have := HBL.out; have := HLN.out; have := HTL.out; unfold maxLen; omega) HX5.out.size ?_)
      intro v6 w6 hown hgrow
      have HX6 : Hid (Ext W w6) := Lib.hid (HX5.out.grown hgrow fun k hk => .inr (HO5.out.lt k hk).1)
      have hrw6 := gby_heap hgrow HRW5.out (fun h => own_ne (HO5.out.own HLN.out) HRW5.out (by decide) _ h rfl)
      have HO6 := Lib.hid (OwB.join' HLN.out hown)
      obtain ⟨tx, htx⟩ : ∃ d, d = bs ++ txt x.name := ⟨_, rfl⟩
      have HTX := Lib.hid htx
      rw [← htx] at HO6
      obtain ⟨a6, cp6, rfl⟩ := HO6.out.shape
      obtain ⟨p0, p1, p2⟩ := row3 hrw6
      clear hown hgrow hrw6 HO5 HR5 HRW5
      generalize hl7 : tx.length = l7 at *
      have HL7 := Lib.hid hl7
      have hl7 : l7 ≤ 1041 := by have := HBL.out; have := HTL.out; rw [← hl7, htx, List.length_append]; omega
      have HK7 := Lib.hid hl7
      clear hl7 htx
      have HNX2 : Hid (b4 ++ (cs.take (k + 1)).flatMap colB = tx ++ [UInt8.ofNat (colForm x)]) := Lib.hid (by rw [HNX.out, HTX.out]; unfold colB; rw [← List.append_assoc])
      have hcf : colForm x < 256 := by have := HCX.out.2.2; unfold colForm; split <;> omega
      have hty : x.ty ≤ 6 := HCX.out.2.2
      have HO7 := Lib.hid (HO6.out.ext ((Ch.refl _ _).alloc (.cells #[.int .u8 (colForm x : Nat)] 5)))
      have HR7 := Lib.hid (own_oneN w6 hcf).rd
      have HX7 := Lib.hid (HX6.out.trans ((Ch.refl _ _).alloc (.cells #[.int .u8 (colForm x : Nat)] 5)))
      clear hcf
      have HLT2 := Lib.hid hlt
      have hm16 := HM16.out
      by_cases hkey : x.key = true
      · have hfo : colForm x = x.ty + 128 := if_pos hkey
        have hw1 : IntKind.u8.wrap ((x.ty : Int) + 128) = ((x.ty + 128 : Nat) : Int) := by rw [IntKind.wrap_u8]; omega
        rw [hfo] at HO7 HR7 HX7 HNX2
        rw [hkey] at p2 ⊢
        clear hkey hfo
        generalize UInt8.ofNat (x.ty + 128) = ub at *
        go_wp2_with (at_builtin; refine wpList_append_sl _ rfl _ _ 34 rfl W.heap.size 5 i (.int .u8 0) 1 1 Try.underlying34 HI.out HZ1.out HSZ.out HBY.out rfl (by decide) _ _ _ rfl (HO7.out.own HL7.out) _ 1 _ rfl HR7.out (by rw [cellsB_length, Nat.mul_one]; rfl) (cellsB_one _) (by have := HK7.out; omega) (by have := HK7.out; unfold maxLen; omega) HX7.out.size ?_)
        intro v9 w9 hown hgrow
        have HX9 : Hid (Ext W w9) := Lib.hid (HX7.out.grown hgrow fun k hk => .inr (HO7.out.lt k hk).1)
        have HO9 := Lib.hid (OwB.join' (b := [ub]) HL7.out hown)
        clear hown hgrow p0 p1 p2 HO7 HR7
        go_wp2
        exact ⟨⟨k + 1, HLT.out, rfl, HX9, Lib.hid (by rw [HNX2.out]; exact HO9.out)⟩, by simp only [intOf]; have := HLT.out; omega⟩
      · have hkey2 : x.key = false := by simpa using hkey
        have hfo : colForm x = x.ty := if_neg hkey
        rw [hfo] at HO7 HR7 HX7 HNX2
        rw [hkey2] at p2 ⊢
        clear hkey hkey2 hfo
        generalize UInt8.ofNat x.ty = ub at *
        go_wp2_with (at_builtin; refine wpList_append_sl _ rfl _ _ 34 rfl W.heap.size 5 i (.int .u8 0) 1 1 Try.underlying34 HI.out HZ1.out HSZ.out HBY.out rfl (by decide) _ _ _ rfl (HO7.out.own HL7.out) _ 1 _ rfl HR7.out (by rw [cellsB_length, Nat.mul_one]; rfl) (cellsB_one _) (by have := HK7.out; omega) (by have := HK7.out; unfold maxLen; omega) HX7.out.size ?_)
        intro v9 w9 hown hgrow
        have HX9 : Hid (Ext W w9) := Lib.hid (HX7.out.grown hgrow fun k hk => .inr (HO7.out.lt k hk).1)
        have HO9 := Lib.hid (OwB.join' (b := [ub]) HL7.out hown)
        clear hown hgrow p0 p1 p2 HO7 HR7
        go_wp2
        exact ⟨⟨k + 1, HLT.out, rfl, HX9, Lib.hid (by rw [HNX2.out]; exact HO9.out)⟩, by simp only [intOf]; have := HLT.out; omega⟩
    · obtain rfl : k = m := by omega
      have HR9 : Rd wr (.slice ab ln cb) (rlBytes r) := by
        have h := HOr.out.rd
        rw [← HM.out, List.take_length, HEND.out] at h
        exact h
      have HRE := Lib.hid HR9
      clear HR9 hln
      go_wp2
      refine bodyPost_ret (results_tmp2 rfl _ _ _) rfl ?_
      exact ⟨_, by rw [HE0.out]; rfl, HX.out.trans HXr.out, by rw [if_pos HE0.out]; exact HRE.out⟩
end Go.Proofs.Ytcejjckhhdgdnaa
