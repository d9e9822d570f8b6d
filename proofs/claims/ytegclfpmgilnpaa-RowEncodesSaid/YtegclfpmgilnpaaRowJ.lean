/-
  Rows: their bytes (the document's Encode). MADE BY mkRowJ.py
-/
import Derived.Test.YtegclfpmgilnpaaRowB
import Derived.Test.YtegclfpmgilnpaaBitE
import Derived.Test.YtegclfpmgilnpaaCelE
namespace Go.Proofs.Ytegclfpmgilnpaa
open Go.RowKit Go.Lac

theorem fieldRPJ0 (w : World) (b o : Nat) : (Instr.fieldAt 124 (.pointer (some ⟨b, o, none⟩)) 0).run Try.prog w = .ok (.pointer (some ⟨b, o, none⟩)) w := by kernel_rfl
theorem cell_of_row5 {w : World} {g : Nat} {r : Rl} {ao : Option Addr} {n c : Nat} {T : TypeId} {z : Nat × Nat} (h : w.heap[g]? = some (.cells (relv r (.slice ao n c)) T z)) : w.cell? ⟨g, 4, none⟩ = some (.slice ao n c) := by rw [cell_of_row _ _ _ _ _ _ h]; rfl

set_option maxRecDepth 20000 in
set_option maxHeartbeats 2000000 in
/-- The document's Pack, its answer one's own. -/
theorem refPackO (v : Value) (l : List Bool) (w : World) (h : RdBools w v l) (h16 : l.length ≤ 16) : Calls Try.prog 64 #[v] w fun e w' => ∃ s, e = .returned (.tuple #[s, .int .i64 0]) ∧ Ext w w' ∧ OwB w.heap.size w' s (mapB l) := by
  obtain ⟨ao, cap, rfl⟩ := h.shape
  have hlen : l.length ≤ maxLen := by obtain ⟨_, _, _, g1, g2, _⟩ := h; omega
  unfold maxLen at hlen
  have H := Lib.hid h; clear h
  have hsz : ∀ w, Calls Try.prog 94 #[.int .i64 (l.length : Nat)] w fun e w' => e = .returned (.int .i64 (sizeN l.length : Nat)) ∧ w = w' := fun w => by
    have := refSize_any (l.length : Int) w
    rwa [show sizeI (l.length : Int) = ((sizeN l.length : Nat) : Int) from by unfold sizeI; rw [if_pos (by omega), Int.toNat_natCast]] at this
  have HSZF := Lib.hid hsz; clear hsz
  have hle := sizeN_le h16
  have HML : Hid ((mapB l).length = sizeN l.length) := Lib.hid (mapB_length l h16)
  have hmapB : mapB l = [UInt8.ofNat (bitsV l % 256), UInt8.ofNat (bitsV l / 256 % 256)].take (sizeN l.length) := rfl
  have HMAP := Lib.hid hmapB; clear hmapB
  have HLT := Lib.hid (bitsV_drop_lt l 0 h16)
  generalize sizeN l.length = sz at *
  go_enter Try.func64, Try.ntmps64
  go_wp2
  go_loop [4, 5] (fun n ix => ∃ j : Nat, j ≤ l.length ∧ ix = .int .i64 ((j : Int) - 1) ∧ n = .int .i64 (bitsV (l.drop j) : Nat)) (fun _ ix => (intOf ix + 1).toNat)
  case atStart => exact ⟨l.length, Nat.le_refl _, rfl, by rw [List.drop_length]; rfl⟩
  case round =>
    obtain ⟨j, hj, rfl, rfl⟩ := hrel
    cases j with
    | succ k =>
      have e : ((k + 1 : Nat) : Int) - 1 = (k : Int) := by omega
      rw [e]; clear e
      have hlt : k < l.length := hj
      obtain ⟨b, off, rfl, g1, g2, g3⟩ := bools_cell H.out rfl (by omega)
      have hc := g3 k hlt
      have hs := bitsV_drop l k hlt
      have hb1 := bitsV_drop_lt l (k + 1) h16
      have HS := Lib.hid hs
      clear hs g3
      unfold maxLen at g2
      generalize bitsV (l.drop (k + 1)) = n at *
      generalize hb : l[k] = bk at hc HS
      clear hb
      cases bk with
      | true =>
        go_wp2
        go_round
        case rel => exact ⟨k, by omega, rfl, by rw [HS.out, show Bool.toNat true = 1 from rfl]; first | rfl | go_num⟩
        case measure => simp [intOf] <;> omega
      | false =>
        go_wp2
        go_round
        case rel => exact ⟨k, by omega, rfl, by rw [HS.out, show Bool.toNat false = 0 from rfl]; first | rfl | go_num⟩
        case measure => simp [intOf] <;> omega
    | zero =>
      have e : ((0 : Nat) : Int) - 1 = -1 := rfl
      rw [e, List.drop_zero]; clear e
      have hlt := HLT.out
      rw [List.drop_zero] at hlt
      generalize bitsV l = n at *
      have hcells : #[Value.int .u8 ((n : Int) % 256), Value.int .u8 ((n : Int) / 256)] = (cellsB [UInt8.ofNat (n % 256), UInt8.ofNat (n / 256 % 256)]).toArray := by
        simp only [cellsB, List.map_cons, List.map_nil, cellB_ofNat (show n % 256 < 256 by omega), cellB_ofNat (show n / 256 % 256 < 256 by omega)]
        rw [show ((n % 256 : Nat) : Int) = (n : Int) % 256 by omega, show ((n / 256 % 256 : Nat) : Int) = (n : Int) / 256 by omega]
      have hown : OwB w.heap.size (w.alloc (.cells #[Value.int .u8 ((n : Int) % 256), Value.int .u8 ((n : Int) / 256)] 5)) (.slice (some ⟨w.heap.size, 0, none⟩) sz 2) (mapB l) := by
        have hn := heap_alloc_new w (.cells #[Value.int .u8 ((n : Int) % 256), Value.int .u8 ((n : Int) / 256)] 5)
        unfold OwB
        rw [HML.out, HMAP.out]
        refine ⟨by rw [cellsB_length, ← HMAP.out, HML.out]; omega, .inr ⟨w.heap.size, 2, _, rfl, Nat.le_refl _, hn, hle, by decide, rfl, ?_⟩⟩
        rw [hcells, Nat.mul_one]
        simp only [cellsB, List.map_take]
      have HOWN := Lib.hid hown; clear hown hcells
      go_wp2_with (go_at_call 94; refine (HSZF.out _).mono ?_; rintro e w' ⟨rfl, rfl⟩)
      refine bodyPost_ret (results_tmp2 rfl _ _ _) rfl ?_
      exact ⟨_, rfl, (Ch.refl _ _).alloc _, HOWN.out⟩
def rjT (x : Cel) (g4 b o n vcap b2 o2 cc j q : Nat) (ver : Int) (bs : List UInt8) : Tmp → Kn
  | 61 => .is (.slice (some ⟨b, o, none⟩) n vcap)
  | 62 => .is (.int .i64 (j : Nat))
  | 63 => .is (.pointer (some ⟨b, o + j * 6, none⟩))
  | 64 => .is (rc x)
  | 65 => .is (.pointer (some ⟨g4, 4, none⟩))
  | 66 => .is (.slice (some ⟨b2, o2, none⟩) n cc)
  | 67 => .is (.int .i64 (j : Nat))
  | 68 => .is (.pointer (some ⟨b2, o2 + j * 3, none⟩))
  | 69 => .is (.pointer (some ⟨b2, o2 + j * 3 + 1, none⟩))
  | 70 => .is (.int .u8 (q : Nat))
  | 71 => .is (.int .u8 ver)
  | 72 => Kn.tupR bs
  | 60 => Kn.tupR bs
  | 73 => .rd bs
  | 74 => .is (.int .i64 0)
  | 14 => .rd bs
  | 15 => .is (.int .i64 0)
  | _ => .any

set_option maxRecDepth 20000 in
set_option maxHeartbeats 8000000 in
theorem refEncode_bad (r : Rl) (cv vw : Value) (l : List Cel) (ver : Nat) (w : World) (hb : ColS w cv r.cols) (hf : r.fits) (hv : RcS w vw l) (hok : ∀ c ∈ l, c.ok) (hver : ¬ (ver = 1 ∨ ver = 2)) :
    Calls Try.prog 34 #[vw, .agg (relv r cv), .int .u8 (ver : Nat)] w (RowEncPost ver r l w) := by
  have h1 := heap_alloc_new w (.cells (relv r cv) 33)
  obtain ⟨W, hW⟩ : ∃ W, W = w.alloc (.cells (relv r cv) 33) := ⟨_, rfl⟩
  have hx : Ext w W := by rw [hW]; exact (Ch.refl _ _).alloc _
  rw [← hW] at h1
  obtain ⟨g4, hg4⟩ : ∃ g4, g4 = w.heap.size := ⟨_, rfl⟩
  rw [← hg4] at h1
  have HG := Lib.hid h1; have HX := Lib.hid hx; have HW := Lib.hid hW; have HG4E := Lib.hid hg4
  have HB := Lib.hid (ColS.ext hb hx); have HV := Lib.hid (RcS.ext hv hx); have HOK := Lib.hid hok
  have HFT := Lib.hid (rfits_any r cv vw l W (ColS.ext hb hx) hf (RcS.ext hv hx))
  obtain ⟨c0, c1, c2, c3, c4⟩ := row5 h1
  obtain ⟨co, cc, rfl, hcm, hcm2, _⟩ := id hb
  obtain ⟨vo, vcap, rfl, k1, k2⟩ := hv.shape
  have hl63 : l.length ≤ 9223372036854775807 := by unfold maxLen at k2; omega
  rw [hW] at c0 c1 c2 c3 c4
  rw [hg4] at c0 c1 c2 c3 c4
  clear h1 hx hW hg4 hb hv hok hcm hcm2 k1 k2
  have HE : Hid (encE ver r l = 18) := Lib.hid (by unfold encE; rw [if_pos (by omega)])
  have e1 : ((ver : Int) != 1) = true := by simp; omega
  have e2 : ((ver : Int) != 2) = true := by simp; omega
  clear hver
  unfold relv strV at *
  go_enter Try.func34, Try.ntmps34
  go_wp2
  rw [← HW.out]
  refine bodyPost_ret (results_tmp2 rfl _ _ _) rfl ?_
  exact ⟨HX.out, _, by rw [HE.out]; rfl, by rw [HE.out]; exact rd_nil _⟩
set_option maxRecDepth 20000 in
set_option maxHeartbeats 8000000 in
theorem refEncode_1 (r : Rl) (cv vw : Value) (l : List Cel) (w : World) (hb : ColS w cv r.cols) (hf : r.fits) (hv : RcS w vw l) (hok : ∀ c ∈ l, c.ok) :
    Calls Try.prog 34 #[vw, .agg (relv r cv), .int .u8 1] w (RowEncPost 1 r l w) := by
  have h1 := heap_alloc_new w (.cells (relv r cv) 33)
  obtain ⟨W, hW⟩ : ∃ W, W = w.alloc (.cells (relv r cv) 33) := ⟨_, rfl⟩
  have hx : Ext w W := by rw [hW]; exact (Ch.refl _ _).alloc _
  rw [← hW] at h1
  obtain ⟨g4, hg4⟩ : ∃ g4, g4 = w.heap.size := ⟨_, rfl⟩
  rw [← hg4] at h1
  have HG := Lib.hid h1; have HX := Lib.hid hx; have HW := Lib.hid hW; have HG4E := Lib.hid hg4
  have HB := Lib.hid (ColS.ext hb hx); have HV := Lib.hid (RcS.ext hv hx); have HOK := Lib.hid hok
  have HFT := Lib.hid (rfits_any r cv vw l W (ColS.ext hb hx) hf (RcS.ext hv hx))
  obtain ⟨c0, c1, c2, c3, c4⟩ := row5 h1
  obtain ⟨co, cc, rfl, hcm, hcm2, _⟩ := id hb
  obtain ⟨vo, vcap, rfl, k1, k2⟩ := hv.shape
  have hl63 : l.length ≤ 9223372036854775807 := by unfold maxLen at k2; omega
  rw [hW] at c0 c1 c2 c3 c4
  rw [hg4] at c0 c1 c2 c3 c4
  clear h1 hx hW hg4 hb hv hok hcm hcm2 k1 k2
  have HE0 : Hid (encE 1 r l = fitsE r l) := Lib.hid (by unfold encE; rw [if_neg (by decide)])
  unfold relv strV at HW HFT c0 c1 c2 c3 c4 ⊢
  go_enter Try.func34, Try.ntmps34
  go_wp2_with fail
  rw [← HW.out]
  refine HFT.out.mono ?_
  rintro e w3 ⟨rfl, hx3⟩
  have HX3 := Lib.hid (HX.out.trans hx3); have HXW3 := Lib.hid hx3
  clear hx3 c0 c1 c2 c3 c4 HFT
  by_cases hft : fitsE r l = 0
  case neg =>
    have HE : Hid (encE 1 r l ≠ 0) := Lib.hid (by rw [HE0.out]; exact hft)
    have en : (((fitsE r l : Nat) : Int) != 0) = true := by simp; omega
    clear hft
    generalize fitsE r l = E at *
    go_wp2
    refine bodyPost_ret (results_tmp2 rfl _ _ _) rfl ?_
    refine ⟨HX3.out, _, by rw [HE0.out]; rfl, ?_⟩
    rw [if_neg HE.out]
    exact rd_nil _
  obtain ⟨hz, hlen, hcz⟩ := fits_zero hft
  have hl16 : r.cols.length ≤ 16 := (rlErr_zero hz).2.2.2.2.2.1
  have HE : Hid (encE 1 r l = 0) := Lib.hid (by rw [HE0.out]; exact hft)
  have en : (((fitsE r l : Nat) : Int) != 0) = false := by rw [hft]; rfl
  have HCZ : Hid (∀ (j : Nat) (x : Cel) (c : Col), l[j]? = some x → r.cols[j]? = some c → cErr x c.ty = 0) := Lib.hid (fun j x c h1 h2 => by
    obtain ⟨i1, rfl⟩ := List.getElem?_eq_some_iff.1 h1
    obtain ⟨i2, rfl⟩ := List.getElem?_eq_some_iff.1 h2
    exact hcz j i1 i2)
  have HLEN := Lib.hid hlen
  have HL16 : Hid (l.length ≤ 16) := Lib.hid (by omega)
  have HLZ : Hid (1 ≤ r.cols.length) := Lib.hid (rlErr_zero hz).2.2.2.2.1
  obtain ⟨i, chv, _, csv, _⟩ := info_parts infoRrZ
  have CHV := Lib.hid chv; have CSV := Lib.hid csv
  obtain ⟨ic, chc, _, csc, _⟩ := info_parts infoRCZ
  have CHC := Lib.hid chc; have CSC := Lib.hid csc
  clear hft hz hcz hlen hl16 chv csv chc csc
  generalize fitsE r l = E at *
  generalize hn : l.length = n at *
  have HN := Lib.hid hn; clear hn
  generalize hm : r.cols.length = m at *
  obtain rfl : n = m := HLEN.out
  have HNC := Lib.hid hm; clear hm
  have f0 := fieldRPJ0
  rw [← HG4E.out]
  go_wp2
  go_loopw [9, 10] (fun vb ix wr => ∃ k : Nat, k ≤ n ∧ ix = .int .i64 k ∧ Hid (Ext w3 wr) ∧ Hid (OwnBo w3.heap.size wr vb (l.take k))) (fun _ ix _ => n - (intOf ix).toNat)
  case atStart => exact ⟨0, Nat.zero_le _, rfl, Lib.hid (Ch.refl _ _), Lib.hid (OwnBo.nil _ _)⟩
  case round =>
    obtain ⟨k, hk, rfl, HXr, HO⟩ := hrel
    obtain ⟨vo2, vc2, rfl⟩ := owns_shape HO.out
    by_cases hlt : k < n
    · have hkl : k < l.length := by have := HN.out; omega
      obtain ⟨b, o, hvo, hra0⟩ := (RcS.ext HV.out (HXW3.out.trans HXr.out)).at hkl
      subst hvo
      have hidx := run_indexSl wr Try.underlying71 CHV.out CSV.out b o n vcap k hlt
      have HTK : Hid (l.take (k + 1) = l.take k ++ [l[k]]) := Lib.hid (List.take_succ_eq_append_getElem hkl)
      have HLQ : Hid ((l.take k).length ≤ 200000000) := Lib.hid (by have := HL16.out; have := HN.out; rw [List.length_take]; omega)
      generalize l[k] = x at *
      generalize l.take k = S0 at *
      have q0 : wr.cell? ⟨b, o + k * 6, none⟩ = some (.int .u8 (x.k : Nat)) := by have := hra0 0 _ rfl; simpa using this
      have HLT := Lib.hid hlt
      have HXA : Hid (Ext w3 wr) := HXr
      clear hra0 hkl
      by_cases h0 : x.k = 0
      · have q0' : wr.cell? ⟨b, o + k * 6, none⟩ = some (.int .u8 0) := by rw [q0, h0]; rfl
        have HD : Hid (true = decide (x.k = 0)) := Lib.hid (decide_eq_true h0).symm
        have hone := fun w => oneBo w true
        clear q0 h0
        go_wp2_with (at_builtin; go_must (refine wpList_bo rfl _ _ rfl HD.out HXA.out HO.out rfl rfl (by simp) HLQ.out ?_))
        intro g3 cap3 w4 hx4 ho4
        have HX4 := Lib.hid hx4; have HO4 : Hid (OwnBo w3.heap.size w4 (.slice (some ⟨g3, 0, none⟩) (S0.length + 1) cap3) (l.take (k + 1))) := Lib.hid (by rw [HTK.out]; exact ho4)
        clear hx4 ho4 hone q0' hidx
        generalize S0.length + 1 = n3 at *
        go_wp2
        go_roundw
        case rel => exact ⟨k + 1, HLT.out, by simp, HX4, HO4⟩
        case measure => simp [intOf]; have := HLT.out; omega
      · have e0 : (((x.k : Nat) : Int) == 0) = false := beq_eq_false_iff_ne.2 (by omega)
        have HD : Hid (false = decide (x.k = 0)) := Lib.hid (decide_eq_false h0).symm
        have hone := fun w => oneBo w false
        clear h0
        go_wp2_with (at_builtin; go_must (refine wpList_bo rfl _ _ rfl HD.out HXA.out HO.out rfl rfl (by simp) HLQ.out ?_))
        intro g3 cap3 w4 hx4 ho4
        have HX4 := Lib.hid hx4; have HO4 : Hid (OwnBo w3.heap.size w4 (.slice (some ⟨g3, 0, none⟩) (S0.length + 1) cap3) (l.take (k + 1))) := Lib.hid (by rw [HTK.out]; exact ho4)
        clear hx4 ho4 hone q0 hidx
        generalize S0.length + 1 = n3 at *
        go_wp2
        go_roundw
        case rel => exact ⟨k + 1, HLT.out, by simp, HX4, HO4⟩
        case measure => simp [intOf]; have := HLT.out; omega
    · obtain rfl : n = k := by omega
      have HS : Hid (l.take n = l) := Lib.hid (by rw [← HN.out, List.take_length])
      have hll : (l.take n).length = n := by rw [HS.out, HN.out]
      rw [hll]
      have HOF : Hid (OwnBo w3.heap.size wr (.slice vo2 n vc2) l) := Lib.hid (by have := HO.out; rw [HS.out, HN.out] at this; exact this)
      clear HO hll
      have hrb : RdBools wr (.slice vo2 n vc2) (nullsOf l) := by
        have h := Sl.ofOwns HOF.out
        rw [bools_nulls] at h
        unfold RdBools
        rwa [show (nullsOf l).length = l.length by simp [nullsOf]]
      have HPK := Lib.hid (refPackO (.slice vo2 n vc2) (nullsOf l) wr hrb (by have := HL16.out; have := HN.out; simp [nullsOf]; omega))
      obtain ⟨B, hB⟩ : ∃ B, B = wr.heap.size := ⟨_, rfl⟩
      rw [← hB] at HPK
      have HBW : Hid (W.heap.size ≤ B) := Lib.hid (by rw [hB]; exact (HXW3.out.trans HXr.out).size)
      clear hrb hB
      go_wp2_with fail
      refine HPK.out.mono ?_
      rintro e w5 ⟨s, rfl, hx5, hs⟩
      have HB5 : Hid (B ≤ w5.heap.size) := Lib.hid (by
        rcases hs.2 with ⟨_, h0⟩ | ⟨g, _, _, _, h1, h2, _⟩
        · exfalso
          rw [mapB_length _ (by have := HL16.out; have := HN.out; simp [nullsOf]; omega)] at h0
          have h3 : 1 ≤ n := by have := HN.out; have := HNC.out; have := HLZ.out; omega
          simp only [nullsOf, List.length_map, HN.out, sizeN] at h0
          omega
        · have := (Array.getElem?_eq_some_iff.1 h2).1; omega)
      have HXW5 := Lib.hid ((HXW3.out.trans HXr.out).trans hx5)
      have HOWN := Lib.hid hs
      obtain ⟨so, sc, hse⟩ := hs.shape
      subst hse
      clear hx5 hs HPK hlt hk
      have HMB : Hid ((mapB (nullsOf l)).length ≤ 2) := Lib.hid (by
        rw [mapB_length _ (by have := HL16.out; have := HN.out; simp [nullsOf]; omega)]
        exact sizeN_le (by have := HL16.out; have := HN.out; simp [nullsOf]; omega))
      generalize hm0 : (mapB (nullsOf l)).length = mlen at *
      have HM0 := Lib.hid hm0; clear hm0
      go_wp2
      go_loopw [11, 13] (fun vb ix w2 => ∃ j : Nat, j ≤ n ∧ ix = .int .i64 j ∧ Hid (Ext W w2) ∧ Hid (B ≤ w2.heap.size) ∧ Hid (OwB B w2 vb (mapB (nullsOf l) ++ encC 1 (l.take j)))) (fun _ ix _ => n - (intOf ix).toNat)
      case atStart => exact ⟨0, Nat.zero_le _, rfl, HXW5, HB5, Lib.hid (by rw [HM0.out] at *; simpa [encC, HM0.out] using HOWN.out)⟩
      case round =>
        obtain ⟨j, hj, rfl, HXr2, HBr, HOW⟩ := hrel
        obtain ⟨ao, ac, rfl⟩ := HOW.out.shape
        have HOL : Hid ((mapB (nullsOf l) ++ encC 1 (l.take j)).length ≤ 100000) := Lib.hid (encLen (by decide) (by rw [HN.out]; exact HL16.out) HOK.out (fun j h1 h2 => HCZ.out j _ _ (List.getElem?_eq_getElem h1) (List.getElem?_eq_getElem h2)) (by rw [HN.out, HNC.out]) j)
        generalize hbs : mapB (nullsOf l) ++ encC 1 (l.take j) = bs0 at *
        have HBS := Lib.hid hbs; clear hbs
        by_cases hlt : j < n
        · have hjl : j < l.length := by have := HN.out; omega
          have hjc : j < r.cols.length := by have := HNC.out; omega
          obtain ⟨b, o, hvo, hra0⟩ := (RcS.ext HV.out HXr2.out).at hjl
          subst hvo
          have hcr := ColS.ext HB.out HXr2.out
          obtain ⟨b2, o2, hco, hrc⟩ := colS_at hcr hjc
          subst hco
          have hidx := run_indexSl wr Try.underlying71 CHV.out CSV.out b o n vcap j hlt
          have HTK : Hid (encC 1 (l.take (j + 1)) = encC 1 (l.take j) ++ (if l[j].k = 0 then [] else cBytes 1 l[j])) := Lib.hid (by rw [List.take_succ_eq_append_getElem hjl, encC_snoc])
          have HCE : Hid (cErr l[j] r.cols[j].ty = 0) := Lib.hid (HCZ.out j _ _ (List.getElem?_eq_getElem hjl) (List.getElem?_eq_getElem hjc))
          have HXO : Hid (l[j].ok) := Lib.hid (HOK.out _ (List.getElem_mem hjl))
          have HQ1 : Hid (wr.cell? ⟨b2, o2 + j * 3 + 1, none⟩ = some (.int .u8 (r.cols[j].ty : Nat))) := Lib.hid (hrc 1 _ rfl)
          generalize r.cols[j].ty = q at *
          generalize l[j] = x at *
          have p0 : wr.cell? ⟨b, o + j * 6, none⟩ = some (.int .u8 (x.k : Nat)) := by have := hra0 0 _ rfl; simpa using this
          have HP := Lib.hid hra0
          have HLT := Lib.hid hlt
          have HG4 : Hid (wr.heap[g4]? = some (.cells (relv r (.slice (some ⟨b2, o2, none⟩) n cc)) 33 (0, 0))) := Lib.hid (heap_ext HXr2.out HG.out)
          by_cases hk : x.k = 0
          · have HTK2 : Hid (mapB (nullsOf l) ++ encC 1 (l.take (j + 1)) = bs0) := Lib.hid (by rw [HTK.out, if_pos hk, List.append_nil]; exact HBS.out)
            have hkc : ((x.k : Int) != 0) = false := by simp [hk]
            clear hrc hra0 hcr hk hjl hjc hlt
            go_wp2
            go_roundw
            case rel => exact ⟨j + 1, HLT.out, by simp, HXr2, HBr, by rw [HTK2.out]; exact HOW⟩
            case measure => simp [intOf]; have := HLT.out; omega
          · have hkc : ((x.k : Int) != 0) = true := by simp; omega
            have HTK2 : Hid (mapB (nullsOf l) ++ encC 1 (l.take (j + 1)) = bs0 ++ cBytes 1 x) := Lib.hid (by rw [HTK.out, if_neg hk, ← List.append_assoc, HBS.out])
            have hcp : cpErr 1 x q = 0 := by unfold cpErr; rw [if_neg (by decide), if_neg (by have := HCE.out; omega), if_neg hk]
            have HCL : Hid ((cBytes 1 x).length ≤ 2200) := Lib.hid (cBytes_len HXO.out HCE.out hk)
            have HPUT : Hid (∀ w, Ext wr w → Calls Try.prog 65 #[rc x, .int .u8 (q : Nat), .int .u8 1] w fun e w' => ∃ y, e = .returned y ∧ Ext w w' ∧ (Kn.tupR (cBytes 1 x)).holds y w') := Lib.hid (fun w hw => (rcput_any x q 1 w HXO.out).mono (by
              rintro e w' ⟨s, rfl, k1, k2⟩
              rw [hcp] at k2 ⊢
              exact ⟨_, rfl, k1, s, rfl, k2⟩))
            clear hrc hra0 hcr hk hjl hjc hlt hcp
            generalize cBytes 1 x = bs at *
            go_wp2
            refine wp_region_ext (rjT x g4 b o n vcap b2 o2 cc j q 1 bs) mixedR (by rfl) (by rfl) ?all ?fin
            case all =>
              refine ⟨?_, ?_, ?_, ?_, ?_, ?_, ?_, ?_, ?_, ?_, ?_, ?_, ?_, ?_, ?_, ?_, ?_, trivial⟩
              · refine StepOK.plain (kn_stable _) rfl fun ρ w' hρ hw hf => ?_
                have h0 : ρ (.tmp 0) = (.slice (some ⟨b, o, none⟩) n vcap) := (hf 0).2 rfl rfl
                exact Exec.kmove rfl rfl h0
              · refine StepOK.plain (kn_stable _) rfl fun ρ w' hρ hw hf => ?_
                have h13 : ρ (.tmp 13) = (.int .i64 (j : Nat)) := (hf 13).2 rfl rfl
                exact Exec.kmove rfl rfl h13
              · refine StepOK.plain (kn_stable _) rfl fun ρ w' hρ hw hf => ?_
                have h61 : ρ (.tmp 61) = (.slice (some ⟨b, o, none⟩) n vcap) := (hf 61).1 rfl
                have h62 : ρ (.tmp 62) = (.int .i64 (j : Nat)) := (hf 62).1 rfl
                exact Exec.kindex rfl rfl Try.underlying71 CHV.out CSV.out h61 h62 HLT.out rfl
              · refine StepOK.plain (kn_stable _) rfl fun ρ w' hρ hw hf => ?_
                have h63 : ρ (.tmp 63) = (.pointer (some ⟨b, o + j * 6, none⟩)) := (hf 63).1 rfl
                exact Exec.kloadmid rfl rfl h63 (load_R (rangeAt_ext HP.out hw)) rfl
              · refine StepOK.plain (kn_stable _) rfl fun ρ w' hρ hw hf => ?_
                have h4 : ρ (.tmp 4) = (.pointer (some ⟨g4, 0, none⟩)) := (hf 4).2 rfl rfl
                exact Exec.kfield rfl rfl h4 (fieldM3 w' _) rfl
              · refine StepOK.plain (kn_stable _) rfl fun ρ w' hρ hw hf => ?_
                have h65 : ρ (.tmp 65) = (.pointer (some ⟨g4, 4, none⟩)) := (hf 65).1 rfl
                have hc : w'.cell? ⟨g4, 4, none⟩ = some (.slice (some ⟨b2, o2, none⟩) n cc) := hw.cell (p := ⟨g4, 4, none⟩) (fun f => f) _ (cell_of_row5 HG4.out)
                exact Exec.same (v := (.slice (some ⟨b2, o2, none⟩) n cc)) rfl (by simp [go_sem, hρ.const, h65, hc, strV]) rfl
              · refine StepOK.plain (kn_stable _) rfl fun ρ w' hρ hw hf => ?_
                have h13 : ρ (.tmp 13) = (.int .i64 (j : Nat)) := (hf 13).2 rfl rfl
                exact Exec.kmove rfl rfl h13
              · refine StepOK.plain (kn_stable _) rfl fun ρ w' hρ hw hf => ?_
                have h66 : ρ (.tmp 66) = (.slice (some ⟨b2, o2, none⟩) n cc) := (hf 66).1 rfl
                have h67 : ρ (.tmp 67) = (.int .i64 (j : Nat)) := (hf 67).1 rfl
                exact Exec.kindex rfl rfl Try.underlying31 CHC.out CSC.out h66 h67 HLT.out rfl
              · refine StepOK.plain (kn_stable _) rfl fun ρ w' hρ hw hf => ?_
                have h68 : ρ (.tmp 68) = (.pointer (some ⟨b2, o2 + j * 3, none⟩)) := (hf 68).1 rfl
                exact Exec.kfield rfl rfl h68 (fieldR1 w' _ _) rfl
              · refine StepOK.plain (kn_stable _) rfl fun ρ w' hρ hw hf => ?_
                have h69 : ρ (.tmp 69) = (.pointer (some ⟨b2, o2 + j * 3 + 1, none⟩)) := (hf 69).1 rfl
                have hc : w'.cell? ⟨b2, o2 + j * 3 + 1, none⟩ = some (.int .u8 (q : Nat)) := hw.cell (p := ⟨b2, o2 + j * 3 + 1, none⟩) (fun f => f) _ (HQ1.out)
                exact Exec.same (v := (.int .u8 (q : Nat))) rfl (by simp [go_sem, hρ.const, h69, hc, strV]) rfl
              · refine StepOK.plain (kn_stable _) rfl fun ρ w' hρ hw hf => ?_
                have h2 : ρ (.tmp 2) = (.int .u8 1) := (hf 2).2 rfl rfl
                exact Exec.kmove rfl rfl h2
              · refine StepOK.plain (kn_stable _) rfl fun ρ w' hρ hw hf => ?_
                have h64 : ρ (.tmp 64) = (rc x) := (hf 64).1 rfl
                have h70 : ρ (.tmp 70) = (.int .u8 (q : Nat)) := (hf 70).1 rfl
                have h71 : ρ (.tmp 71) = (.int .u8 1) := (hf 71).1 rfl
                exact Exec.kcall #[rc x, .int .u8 (q : Nat), .int .u8 1] hρ rfl rfl (by simp [h64, h70, h71]) Try.func65 (by rfl) (by rfl) ((HPUT.out w' hw).mono fun e w'' ⟨y, h1, h2, h3⟩ => ⟨y, h1, h3, h2⟩)
              · refine StepOK.plain (kn_stable _) rfl fun ρ w' hρ hw hf => ?_
                have h72 : (Kn.tupR bs).holds (ρ (.tmp 72)) w' := (hf 72).1 rfl
                exact Exec.kmove rfl rfl h72
              · refine StepOK.plain (kn_stable _) rfl fun ρ w' hρ hw hf => ?_
                obtain ⟨s, e1, e2⟩ : ∃ s, ρ (.tmp 60) = .tuple #[s, .int .i64 0] ∧ Rd w' s bs := (hf 60).1 rfl
                exact Exec.same (v := s) rfl (by simp [go_sem, hρ.const, e1]) e2
              · refine StepOK.plain (kn_stable _) rfl fun ρ w' hρ hw hf => ?_
                obtain ⟨s, e1, e2⟩ : ∃ s, ρ (.tmp 60) = .tuple #[s, .int .i64 0] ∧ Rd w' s bs := (hf 60).1 rfl
                exact Exec.same (v := .int .i64 0) rfl (by simp [go_sem, hρ.const, e1]) rfl
              · refine StepOK.plain (kn_stable _) rfl fun ρ w' hρ hw hf => ?_
                have h73 : Rd w' (ρ (.tmp 73)) (bs) := (hf 73).1 rfl
                exact Exec.kassign rfl rfl h73
              · refine StepOK.plain (kn_stable _) rfl fun ρ w' hρ hw hf => ?_
                have h74 : ρ (.tmp 74) = (.int .i64 0) := (hf 74).1 rfl
                exact Exec.kassign rfl rfl h74
            case fin =>
              intro ν w9 hfin hx9
              have e0 : ν 15 = .int .i64 0 := hfin 16 15 rfl
              have e1 : Rd w9 (ν 14) bs := hfin 15 14 rfl
              simp only [Exit.then, ended, List.foldl_cons, List.foldl_nil, List.setIfInBounds_toArray, List.set_cons_succ, List.set_cons_zero, e0]
              have HX9 := Lib.hid (HXr2.out.trans hx9); have HR9 := Lib.hid e1
              have HO9 := Lib.hid (HOW.out.ext hx9)
              have HB9 : Hid (B ≤ w9.heap.size) := Lib.hid (Nat.le_trans HBr.out hx9.size)
              clear hfin hx9 e0 e1 p0 hidx
              generalize ν 14 = u14' at HR9 ⊢
              obtain ⟨do', dc, hde, -⟩ := id HR9.out
              subst hde
              have HRS : Hid (Sl w9 (.slice do' bs.length dc) bs.length (cellsB bs)) := Lib.hid HR9.out
              clear HR9
              obtain ⟨bi, hbi, hbz, hbs', hbb⟩ := info_parts infoByte
              have HI := Lib.hid hbi; have HZ1 := Lib.hid hbz; have HSZ := Lib.hid hbs'; have HBY := Lib.hid hbb
              clear hbi hbz hbs' hbb
              generalize hk0 : bs0.length = m0 at *
              have HK0 := Lib.hid hk0; clear hk0
              generalize hk1 : bs.length = m1 at *
              have HK1 := Lib.hid hk1; clear hk1
              go_wp2_with (at_builtin; go_must (refine wpList_append_sl _ rfl _ _ 76 rfl B 5 bi (.int .u8 0) 1 1 Try.underlying76 HI.out HZ1.out HSZ.out HBY.out rfl (by decide) _ m0 _ rfl (HO9.out.own HK0.out) (.slice do' m1 dc) m1 (cellsB bs) rfl HRS.out (by rw [cellsB_length, Nat.mul_one, HK1.out]) (cellsB_one _) (by have := HOL.out; have := HCL.out; omega) (by have := HOL.out; have := HCL.out; unfold maxLen; omega) HB9.out ?_))
              intro v2 w4 ho4 hg4
              have HX4 : Hid (Ext W w4) := Lib.hid (HX9.out.grown hg4 fun k hk => .inr (by have := (HO9.out.lt k hk).1; have := HBW.out; omega))
              have HO4 : Hid (OwB B w4 v2 (bs0 ++ bs)) := Lib.hid (OwB.join' HK0.out (by rw [HK1.out]; exact ho4))
              have HB4 : Hid (B ≤ w4.heap.size) := Lib.hid (Nat.le_trans HB9.out hg4.size)
              obtain ⟨v2o, v2c, rfl⟩ := HO4.out.shape
              clear ho4 hg4
              generalize (bs0 ++ bs).length = m2 at *
              go_wp2
              go_roundw
              case rel => exact ⟨j + 1, HLT.out, by simp, HX4, HB4, by rw [HTK2.out]; exact HO4⟩
              case measure => simp [intOf]; have := HLT.out; omega
        · obtain rfl : n = j := by omega
          have HTK : Hid (l.take n = l) := Lib.hid (by rw [← HN.out, List.take_length])
          have HF : Hid (Rd wr (.slice ao bs0.length ac) (encB 1 l)) := Lib.hid (by have := HOW.out.rd; have h2 := HBS.out; rw [HTK.out] at h2; unfold encB; rw [h2]; exact this)
          have HXF := Lib.hid (HX.out.trans HXr2.out)
          clear HOW HTK HOL
          generalize bs0.length = m2 at *
          go_wp2
          refine bodyPost_ret (results_tmp2 rfl _ _ _) rfl ?_
          refine ⟨HXF.out, _, by rw [HE.out]; rfl, ?_⟩
          rw [if_pos HE.out]
          exact HF.out
set_option maxRecDepth 20000 in
set_option maxHeartbeats 8000000 in
theorem refEncode_2 (r : Rl) (cv vw : Value) (l : List Cel) (w : World) (hb : ColS w cv r.cols) (hf : r.fits) (hv : RcS w vw l) (hok : ∀ c ∈ l, c.ok) :
    Calls Try.prog 34 #[vw, .agg (relv r cv), .int .u8 2] w (RowEncPost 2 r l w) := by
  have h1 := heap_alloc_new w (.cells (relv r cv) 33)
  obtain ⟨W, hW⟩ : ∃ W, W = w.alloc (.cells (relv r cv) 33) := ⟨_, rfl⟩
  have hx : Ext w W := by rw [hW]; exact (Ch.refl _ _).alloc _
  rw [← hW] at h1
  obtain ⟨g4, hg4⟩ : ∃ g4, g4 = w.heap.size := ⟨_, rfl⟩
  rw [← hg4] at h1
  have HG := Lib.hid h1; have HX := Lib.hid hx; have HW := Lib.hid hW; have HG4E := Lib.hid hg4
  have HB := Lib.hid (ColS.ext hb hx); have HV := Lib.hid (RcS.ext hv hx); have HOK := Lib.hid hok
  have HFT := Lib.hid (rfits_any r cv vw l W (ColS.ext hb hx) hf (RcS.ext hv hx))
  obtain ⟨c0, c1, c2, c3, c4⟩ := row5 h1
  obtain ⟨co, cc, rfl, hcm, hcm2, _⟩ := id hb
  obtain ⟨vo, vcap, rfl, k1, k2⟩ := hv.shape
  have hl63 : l.length ≤ 9223372036854775807 := by unfold maxLen at k2; omega
  rw [hW] at c0 c1 c2 c3 c4
  rw [hg4] at c0 c1 c2 c3 c4
  clear h1 hx hW hg4 hb hv hok hcm hcm2 k1 k2
  have HE0 : Hid (encE 2 r l = fitsE r l) := Lib.hid (by unfold encE; rw [if_neg (by decide)])
  unfold relv strV at HW HFT c0 c1 c2 c3 c4 ⊢
  go_enter Try.func34, Try.ntmps34
  go_wp2_with fail
  rw [← HW.out]
  refine HFT.out.mono ?_
  rintro e w3 ⟨rfl, hx3⟩
  have HX3 := Lib.hid (HX.out.trans hx3); have HXW3 := Lib.hid hx3
  clear hx3 c0 c1 c2 c3 c4 HFT
  by_cases hft : fitsE r l = 0
  case neg =>
    have HE : Hid (encE 2 r l ≠ 0) := Lib.hid (by rw [HE0.out]; exact hft)
    have en : (((fitsE r l : Nat) : Int) != 0) = true := by simp; omega
    clear hft
    generalize fitsE r l = E at *
    go_wp2
    refine bodyPost_ret (results_tmp2 rfl _ _ _) rfl ?_
    refine ⟨HX3.out, _, by rw [HE0.out]; rfl, ?_⟩
    rw [if_neg HE.out]
    exact rd_nil _
  obtain ⟨hz, hlen, hcz⟩ := fits_zero hft
  have hl16 : r.cols.length ≤ 16 := (rlErr_zero hz).2.2.2.2.2.1
  have HE : Hid (encE 2 r l = 0) := Lib.hid (by rw [HE0.out]; exact hft)
  have en : (((fitsE r l : Nat) : Int) != 0) = false := by rw [hft]; rfl
  have HCZ : Hid (∀ (j : Nat) (x : Cel) (c : Col), l[j]? = some x → r.cols[j]? = some c → cErr x c.ty = 0) := Lib.hid (fun j x c h1 h2 => by
    obtain ⟨i1, rfl⟩ := List.getElem?_eq_some_iff.1 h1
    obtain ⟨i2, rfl⟩ := List.getElem?_eq_some_iff.1 h2
    exact hcz j i1 i2)
  have HLEN := Lib.hid hlen
  have HL16 : Hid (l.length ≤ 16) := Lib.hid (by omega)
  have HLZ : Hid (1 ≤ r.cols.length) := Lib.hid (rlErr_zero hz).2.2.2.2.1
  obtain ⟨i, chv, _, csv, _⟩ := info_parts infoRrZ
  have CHV := Lib.hid chv; have CSV := Lib.hid csv
  obtain ⟨ic, chc, _, csc, _⟩ := info_parts infoRCZ
  have CHC := Lib.hid chc; have CSC := Lib.hid csc
  clear hft hz hcz hlen hl16 chv csv chc csc
  generalize fitsE r l = E at *
  generalize hn : l.length = n at *
  have HN := Lib.hid hn; clear hn
  generalize hm : r.cols.length = m at *
  obtain rfl : n = m := HLEN.out
  have HNC := Lib.hid hm; clear hm
  have f0 := fieldRPJ0
  rw [← HG4E.out]
  go_wp2
  go_loopw [9, 10] (fun vb ix wr => ∃ k : Nat, k ≤ n ∧ ix = .int .i64 k ∧ Hid (Ext w3 wr) ∧ Hid (OwnBo w3.heap.size wr vb (l.take k))) (fun _ ix _ => n - (intOf ix).toNat)
  case atStart => exact ⟨0, Nat.zero_le _, rfl, Lib.hid (Ch.refl _ _), Lib.hid (OwnBo.nil _ _)⟩
  case round =>
    obtain ⟨k, hk, rfl, HXr, HO⟩ := hrel
    obtain ⟨vo2, vc2, rfl⟩ := owns_shape HO.out
    by_cases hlt : k < n
    · have hkl : k < l.length := by have := HN.out; omega
      obtain ⟨b, o, hvo, hra0⟩ := (RcS.ext HV.out (HXW3.out.trans HXr.out)).at hkl
      subst hvo
      have hidx := run_indexSl wr Try.underlying71 CHV.out CSV.out b o n vcap k hlt
      have HTK : Hid (l.take (k + 1) = l.take k ++ [l[k]]) := Lib.hid (List.take_succ_eq_append_getElem hkl)
      have HLQ : Hid ((l.take k).length ≤ 200000000) := Lib.hid (by have := HL16.out; have := HN.out; rw [List.length_take]; omega)
      generalize l[k] = x at *
      generalize l.take k = S0 at *
      have q0 : wr.cell? ⟨b, o + k * 6, none⟩ = some (.int .u8 (x.k : Nat)) := by have := hra0 0 _ rfl; simpa using this
      have HLT := Lib.hid hlt
      have HXA : Hid (Ext w3 wr) := HXr
      clear hra0 hkl
      by_cases h0 : x.k = 0
      · have q0' : wr.cell? ⟨b, o + k * 6, none⟩ = some (.int .u8 0) := by rw [q0, h0]; rfl
        have HD : Hid (true = decide (x.k = 0)) := Lib.hid (decide_eq_true h0).symm
        have hone := fun w => oneBo w true
        clear q0 h0
        go_wp2_with (at_builtin; go_must (refine wpList_bo rfl _ _ rfl HD.out HXA.out HO.out rfl rfl (by simp) HLQ.out ?_))
        intro g3 cap3 w4 hx4 ho4
        have HX4 := Lib.hid hx4; have HO4 : Hid (OwnBo w3.heap.size w4 (.slice (some ⟨g3, 0, none⟩) (S0.length + 1) cap3) (l.take (k + 1))) := Lib.hid (by rw [HTK.out]; exact ho4)
        clear hx4 ho4 hone q0' hidx
        generalize S0.length + 1 = n3 at *
        go_wp2
        go_roundw
        case rel => exact ⟨k + 1, HLT.out, by simp, HX4, HO4⟩
        case measure => simp [intOf]; have := HLT.out; omega
      · have e0 : (((x.k : Nat) : Int) == 0) = false := beq_eq_false_iff_ne.2 (by omega)
        have HD : Hid (false = decide (x.k = 0)) := Lib.hid (decide_eq_false h0).symm
        have hone := fun w => oneBo w false
        clear h0
        go_wp2_with (at_builtin; go_must (refine wpList_bo rfl _ _ rfl HD.out HXA.out HO.out rfl rfl (by simp) HLQ.out ?_))
        intro g3 cap3 w4 hx4 ho4
        have HX4 := Lib.hid hx4; have HO4 : Hid (OwnBo w3.heap.size w4 (.slice (some ⟨g3, 0, none⟩) (S0.length + 1) cap3) (l.take (k + 1))) := Lib.hid (by rw [HTK.out]; exact ho4)
        clear hx4 ho4 hone q0 hidx
        generalize S0.length + 1 = n3 at *
        go_wp2
        go_roundw
        case rel => exact ⟨k + 1, HLT.out, by simp, HX4, HO4⟩
        case measure => simp [intOf]; have := HLT.out; omega
    · obtain rfl : n = k := by omega
      have HS : Hid (l.take n = l) := Lib.hid (by rw [← HN.out, List.take_length])
      have hll : (l.take n).length = n := by rw [HS.out, HN.out]
      rw [hll]
      have HOF : Hid (OwnBo w3.heap.size wr (.slice vo2 n vc2) l) := Lib.hid (by have := HO.out; rw [HS.out, HN.out] at this; exact this)
      clear HO hll
      have hrb : RdBools wr (.slice vo2 n vc2) (nullsOf l) := by
        have h := Sl.ofOwns HOF.out
        rw [bools_nulls] at h
        unfold RdBools
        rwa [show (nullsOf l).length = l.length by simp [nullsOf]]
      have HPK := Lib.hid (refPackO (.slice vo2 n vc2) (nullsOf l) wr hrb (by have := HL16.out; have := HN.out; simp [nullsOf]; omega))
      obtain ⟨B, hB⟩ : ∃ B, B = wr.heap.size := ⟨_, rfl⟩
      rw [← hB] at HPK
      have HBW : Hid (W.heap.size ≤ B) := Lib.hid (by rw [hB]; exact (HXW3.out.trans HXr.out).size)
      clear hrb hB
      go_wp2_with fail
      refine HPK.out.mono ?_
      rintro e w5 ⟨s, rfl, hx5, hs⟩
      have HB5 : Hid (B ≤ w5.heap.size) := Lib.hid (by
        rcases hs.2 with ⟨_, h0⟩ | ⟨g, _, _, _, h1, h2, _⟩
        · exfalso
          rw [mapB_length _ (by have := HL16.out; have := HN.out; simp [nullsOf]; omega)] at h0
          have h3 : 1 ≤ n := by have := HN.out; have := HNC.out; have := HLZ.out; omega
          simp only [nullsOf, List.length_map, HN.out, sizeN] at h0
          omega
        · have := (Array.getElem?_eq_some_iff.1 h2).1; omega)
      have HXW5 := Lib.hid ((HXW3.out.trans HXr.out).trans hx5)
      have HOWN := Lib.hid hs
      obtain ⟨so, sc, hse⟩ := hs.shape
      subst hse
      clear hx5 hs HPK hlt hk
      have HMB : Hid ((mapB (nullsOf l)).length ≤ 2) := Lib.hid (by
        rw [mapB_length _ (by have := HL16.out; have := HN.out; simp [nullsOf]; omega)]
        exact sizeN_le (by have := HL16.out; have := HN.out; simp [nullsOf]; omega))
      generalize hm0 : (mapB (nullsOf l)).length = mlen at *
      have HM0 := Lib.hid hm0; clear hm0
      go_wp2
      go_loopw [11, 13] (fun vb ix w2 => ∃ j : Nat, j ≤ n ∧ ix = .int .i64 j ∧ Hid (Ext W w2) ∧ Hid (B ≤ w2.heap.size) ∧ Hid (OwB B w2 vb (mapB (nullsOf l) ++ encC 2 (l.take j)))) (fun _ ix _ => n - (intOf ix).toNat)
      case atStart => exact ⟨0, Nat.zero_le _, rfl, HXW5, HB5, Lib.hid (by rw [HM0.out] at *; simpa [encC, HM0.out] using HOWN.out)⟩
      case round =>
        obtain ⟨j, hj, rfl, HXr2, HBr, HOW⟩ := hrel
        obtain ⟨ao, ac, rfl⟩ := HOW.out.shape
        have HOL : Hid ((mapB (nullsOf l) ++ encC 2 (l.take j)).length ≤ 100000) := Lib.hid (encLen (by decide) (by rw [HN.out]; exact HL16.out) HOK.out (fun j h1 h2 => HCZ.out j _ _ (List.getElem?_eq_getElem h1) (List.getElem?_eq_getElem h2)) (by rw [HN.out, HNC.out]) j)
        generalize hbs : mapB (nullsOf l) ++ encC 2 (l.take j) = bs0 at *
        have HBS := Lib.hid hbs; clear hbs
        by_cases hlt : j < n
        · have hjl : j < l.length := by have := HN.out; omega
          have hjc : j < r.cols.length := by have := HNC.out; omega
          obtain ⟨b, o, hvo, hra0⟩ := (RcS.ext HV.out HXr2.out).at hjl
          subst hvo
          have hcr := ColS.ext HB.out HXr2.out
          obtain ⟨b2, o2, hco, hrc⟩ := colS_at hcr hjc
          subst hco
          have hidx := run_indexSl wr Try.underlying71 CHV.out CSV.out b o n vcap j hlt
          have HTK : Hid (encC 2 (l.take (j + 1)) = encC 2 (l.take j) ++ (if l[j].k = 0 then [] else cBytes 2 l[j])) := Lib.hid (by rw [List.take_succ_eq_append_getElem hjl, encC_snoc])
          have HCE : Hid (cErr l[j] r.cols[j].ty = 0) := Lib.hid (HCZ.out j _ _ (List.getElem?_eq_getElem hjl) (List.getElem?_eq_getElem hjc))
          have HXO : Hid (l[j].ok) := Lib.hid (HOK.out _ (List.getElem_mem hjl))
          have HQ1 : Hid (wr.cell? ⟨b2, o2 + j * 3 + 1, none⟩ = some (.int .u8 (r.cols[j].ty : Nat))) := Lib.hid (hrc 1 _ rfl)
          generalize r.cols[j].ty = q at *
          generalize l[j] = x at *
          have p0 : wr.cell? ⟨b, o + j * 6, none⟩ = some (.int .u8 (x.k : Nat)) := by have := hra0 0 _ rfl; simpa using this
          have HP := Lib.hid hra0
          have HLT := Lib.hid hlt
          have HG4 : Hid (wr.heap[g4]? = some (.cells (relv r (.slice (some ⟨b2, o2, none⟩) n cc)) 33 (0, 0))) := Lib.hid (heap_ext HXr2.out HG.out)
          by_cases hk : x.k = 0
          · have HTK2 : Hid (mapB (nullsOf l) ++ encC 2 (l.take (j + 1)) = bs0) := Lib.hid (by rw [HTK.out, if_pos hk, List.append_nil]; exact HBS.out)
            have hkc : ((x.k : Int) != 0) = false := by simp [hk]
            clear hrc hra0 hcr hk hjl hjc hlt
            go_wp2
            go_roundw
            case rel => exact ⟨j + 1, HLT.out, by simp, HXr2, HBr, by rw [HTK2.out]; exact HOW⟩
            case measure => simp [intOf]; have := HLT.out; omega
          · have hkc : ((x.k : Int) != 0) = true := by simp; omega
            have HTK2 : Hid (mapB (nullsOf l) ++ encC 2 (l.take (j + 1)) = bs0 ++ cBytes 2 x) := Lib.hid (by rw [HTK.out, if_neg hk, ← List.append_assoc, HBS.out])
            have hcp : cpErr 2 x q = 0 := by unfold cpErr; rw [if_neg (by decide), if_neg (by have := HCE.out; omega), if_neg hk]
            have HCL : Hid ((cBytes 2 x).length ≤ 2200) := Lib.hid (cBytes_len HXO.out HCE.out hk)
            have HPUT : Hid (∀ w, Ext wr w → Calls Try.prog 65 #[rc x, .int .u8 (q : Nat), .int .u8 2] w fun e w' => ∃ y, e = .returned y ∧ Ext w w' ∧ (Kn.tupR (cBytes 2 x)).holds y w') := Lib.hid (fun w hw => (rcput_any x q 2 w HXO.out).mono (by
              rintro e w' ⟨s, rfl, k1, k2⟩
              rw [hcp] at k2 ⊢
              exact ⟨_, rfl, k1, s, rfl, k2⟩))
            clear hrc hra0 hcr hk hjl hjc hlt hcp
            generalize cBytes 2 x = bs at *
            go_wp2
            refine wp_region_ext (rjT x g4 b o n vcap b2 o2 cc j q 2 bs) mixedR (by rfl) (by rfl) ?all ?fin
            case all =>
              refine ⟨?_, ?_, ?_, ?_, ?_, ?_, ?_, ?_, ?_, ?_, ?_, ?_, ?_, ?_, ?_, ?_, ?_, trivial⟩
              · refine StepOK.plain (kn_stable _) rfl fun ρ w' hρ hw hf => ?_
                have h0 : ρ (.tmp 0) = (.slice (some ⟨b, o, none⟩) n vcap) := (hf 0).2 rfl rfl
                exact Exec.kmove rfl rfl h0
              · refine StepOK.plain (kn_stable _) rfl fun ρ w' hρ hw hf => ?_
                have h13 : ρ (.tmp 13) = (.int .i64 (j : Nat)) := (hf 13).2 rfl rfl
                exact Exec.kmove rfl rfl h13
              · refine StepOK.plain (kn_stable _) rfl fun ρ w' hρ hw hf => ?_
                have h61 : ρ (.tmp 61) = (.slice (some ⟨b, o, none⟩) n vcap) := (hf 61).1 rfl
                have h62 : ρ (.tmp 62) = (.int .i64 (j : Nat)) := (hf 62).1 rfl
                exact Exec.kindex rfl rfl Try.underlying71 CHV.out CSV.out h61 h62 HLT.out rfl
              · refine StepOK.plain (kn_stable _) rfl fun ρ w' hρ hw hf => ?_
                have h63 : ρ (.tmp 63) = (.pointer (some ⟨b, o + j * 6, none⟩)) := (hf 63).1 rfl
                exact Exec.kloadmid rfl rfl h63 (load_R (rangeAt_ext HP.out hw)) rfl
              · refine StepOK.plain (kn_stable _) rfl fun ρ w' hρ hw hf => ?_
                have h4 : ρ (.tmp 4) = (.pointer (some ⟨g4, 0, none⟩)) := (hf 4).2 rfl rfl
                exact Exec.kfield rfl rfl h4 (fieldM3 w' _) rfl
              · refine StepOK.plain (kn_stable _) rfl fun ρ w' hρ hw hf => ?_
                have h65 : ρ (.tmp 65) = (.pointer (some ⟨g4, 4, none⟩)) := (hf 65).1 rfl
                have hc : w'.cell? ⟨g4, 4, none⟩ = some (.slice (some ⟨b2, o2, none⟩) n cc) := hw.cell (p := ⟨g4, 4, none⟩) (fun f => f) _ (cell_of_row5 HG4.out)
                exact Exec.same (v := (.slice (some ⟨b2, o2, none⟩) n cc)) rfl (by simp [go_sem, hρ.const, h65, hc, strV]) rfl
              · refine StepOK.plain (kn_stable _) rfl fun ρ w' hρ hw hf => ?_
                have h13 : ρ (.tmp 13) = (.int .i64 (j : Nat)) := (hf 13).2 rfl rfl
                exact Exec.kmove rfl rfl h13
              · refine StepOK.plain (kn_stable _) rfl fun ρ w' hρ hw hf => ?_
                have h66 : ρ (.tmp 66) = (.slice (some ⟨b2, o2, none⟩) n cc) := (hf 66).1 rfl
                have h67 : ρ (.tmp 67) = (.int .i64 (j : Nat)) := (hf 67).1 rfl
                exact Exec.kindex rfl rfl Try.underlying31 CHC.out CSC.out h66 h67 HLT.out rfl
              · refine StepOK.plain (kn_stable _) rfl fun ρ w' hρ hw hf => ?_
                have h68 : ρ (.tmp 68) = (.pointer (some ⟨b2, o2 + j * 3, none⟩)) := (hf 68).1 rfl
                exact Exec.kfield rfl rfl h68 (fieldR1 w' _ _) rfl
              · refine StepOK.plain (kn_stable _) rfl fun ρ w' hρ hw hf => ?_
                have h69 : ρ (.tmp 69) = (.pointer (some ⟨b2, o2 + j * 3 + 1, none⟩)) := (hf 69).1 rfl
                have hc : w'.cell? ⟨b2, o2 + j * 3 + 1, none⟩ = some (.int .u8 (q : Nat)) := hw.cell (p := ⟨b2, o2 + j * 3 + 1, none⟩) (fun f => f) _ (HQ1.out)
                exact Exec.same (v := (.int .u8 (q : Nat))) rfl (by simp [go_sem, hρ.const, h69, hc, strV]) rfl
              · refine StepOK.plain (kn_stable _) rfl fun ρ w' hρ hw hf => ?_
                have h2 : ρ (.tmp 2) = (.int .u8 2) := (hf 2).2 rfl rfl
                exact Exec.kmove rfl rfl h2
              · refine StepOK.plain (kn_stable _) rfl fun ρ w' hρ hw hf => ?_
                have h64 : ρ (.tmp 64) = (rc x) := (hf 64).1 rfl
                have h70 : ρ (.tmp 70) = (.int .u8 (q : Nat)) := (hf 70).1 rfl
                have h71 : ρ (.tmp 71) = (.int .u8 2) := (hf 71).1 rfl
                exact Exec.kcall #[rc x, .int .u8 (q : Nat), .int .u8 2] hρ rfl rfl (by simp [h64, h70, h71]) Try.func65 (by rfl) (by rfl) ((HPUT.out w' hw).mono fun e w'' ⟨y, h1, h2, h3⟩ => ⟨y, h1, h3, h2⟩)
              · refine StepOK.plain (kn_stable _) rfl fun ρ w' hρ hw hf => ?_
                have h72 : (Kn.tupR bs).holds (ρ (.tmp 72)) w' := (hf 72).1 rfl
                exact Exec.kmove rfl rfl h72
              · refine StepOK.plain (kn_stable _) rfl fun ρ w' hρ hw hf => ?_
                obtain ⟨s, e1, e2⟩ : ∃ s, ρ (.tmp 60) = .tuple #[s, .int .i64 0] ∧ Rd w' s bs := (hf 60).1 rfl
                exact Exec.same (v := s) rfl (by simp [go_sem, hρ.const, e1]) e2
              · refine StepOK.plain (kn_stable _) rfl fun ρ w' hρ hw hf => ?_
                obtain ⟨s, e1, e2⟩ : ∃ s, ρ (.tmp 60) = .tuple #[s, .int .i64 0] ∧ Rd w' s bs := (hf 60).1 rfl
                exact Exec.same (v := .int .i64 0) rfl (by simp [go_sem, hρ.const, e1]) rfl
              · refine StepOK.plain (kn_stable _) rfl fun ρ w' hρ hw hf => ?_
                have h73 : Rd w' (ρ (.tmp 73)) (bs) := (hf 73).1 rfl
                exact Exec.kassign rfl rfl h73
              · refine StepOK.plain (kn_stable _) rfl fun ρ w' hρ hw hf => ?_
                have h74 : ρ (.tmp 74) = (.int .i64 0) := (hf 74).1 rfl
                exact Exec.kassign rfl rfl h74
            case fin =>
              intro ν w9 hfin hx9
              have e0 : ν 15 = .int .i64 0 := hfin 16 15 rfl
              have e1 : Rd w9 (ν 14) bs := hfin 15 14 rfl
              simp only [Exit.then, ended, List.foldl_cons, List.foldl_nil, List.setIfInBounds_toArray, List.set_cons_succ, List.set_cons_zero, e0]
              have HX9 := Lib.hid (HXr2.out.trans hx9); have HR9 := Lib.hid e1
              have HO9 := Lib.hid (HOW.out.ext hx9)
              have HB9 : Hid (B ≤ w9.heap.size) := Lib.hid (Nat.le_trans HBr.out hx9.size)
              clear hfin hx9 e0 e1 p0 hidx
              generalize ν 14 = u14' at HR9 ⊢
              obtain ⟨do', dc, hde, -⟩ := id HR9.out
              subst hde
              have HRS : Hid (Sl w9 (.slice do' bs.length dc) bs.length (cellsB bs)) := Lib.hid HR9.out
              clear HR9
              obtain ⟨bi, hbi, hbz, hbs', hbb⟩ := info_parts infoByte
              have HI := Lib.hid hbi; have HZ1 := Lib.hid hbz; have HSZ := Lib.hid hbs'; have HBY := Lib.hid hbb
              clear hbi hbz hbs' hbb
              generalize hk0 : bs0.length = m0 at *
              have HK0 := Lib.hid hk0; clear hk0
              generalize hk1 : bs.length = m1 at *
              have HK1 := Lib.hid hk1; clear hk1
              go_wp2_with (at_builtin; go_must (refine wpList_append_sl _ rfl _ _ 76 rfl B 5 bi (.int .u8 0) 1 1 Try.underlying76 HI.out HZ1.out HSZ.out HBY.out rfl (by decide) _ m0 _ rfl (HO9.out.own HK0.out) (.slice do' m1 dc) m1 (cellsB bs) rfl HRS.out (by rw [cellsB_length, Nat.mul_one, HK1.out]) (cellsB_one _) (by have := HOL.out; have := HCL.out; omega) (by have := HOL.out; have := HCL.out; unfold maxLen; omega) HB9.out ?_))
              intro v2 w4 ho4 hg4
              have HX4 : Hid (Ext W w4) := Lib.hid (HX9.out.grown hg4 fun k hk => .inr (by have := (HO9.out.lt k hk).1; have := HBW.out; omega))
              have HO4 : Hid (OwB B w4 v2 (bs0 ++ bs)) := Lib.hid (OwB.join' HK0.out (by rw [HK1.out]; exact ho4))
              have HB4 : Hid (B ≤ w4.heap.size) := Lib.hid (Nat.le_trans HB9.out hg4.size)
              obtain ⟨v2o, v2c, rfl⟩ := HO4.out.shape
              clear ho4 hg4
              generalize (bs0 ++ bs).length = m2 at *
              go_wp2
              go_roundw
              case rel => exact ⟨j + 1, HLT.out, by simp, HX4, HB4, by rw [HTK2.out]; exact HO4⟩
              case measure => simp [intOf]; have := HLT.out; omega
        · obtain rfl : n = j := by omega
          have HTK : Hid (l.take n = l) := Lib.hid (by rw [← HN.out, List.take_length])
          have HF : Hid (Rd wr (.slice ao bs0.length ac) (encB 2 l)) := Lib.hid (by have := HOW.out.rd; have h2 := HBS.out; rw [HTK.out] at h2; unfold encB; rw [h2]; exact this)
          have HXF := Lib.hid (HX.out.trans HXr2.out)
          clear HOW HTK HOL
          generalize bs0.length = m2 at *
          go_wp2
          refine bodyPost_ret (results_tmp2 rfl _ _ _) rfl ?_
          refine ⟨HXF.out, _, by rw [HE.out]; rfl, ?_⟩
          rw [if_pos HE.out]
          exact HF.out
theorem refEncode_any (r : Rl) (cv vw : Value) (l : List Cel) (ver : Nat) (w : World) (hb : ColS w cv r.cols) (hf : r.fits) (hv : RcS w vw l) (hok : ∀ c ∈ l, c.ok) :
    Calls Try.prog 34 #[vw, .agg (relv r cv), .int .u8 (ver : Nat)] w (RowEncPost ver r l w) := by
  by_cases h1 : ver = 1
  · subst h1; exact refEncode_1 r cv vw l w hb hf hv hok
  by_cases h2 : ver = 2
  · subst h2; exact refEncode_2 r cv vw l w hb hf hv hok
  exact refEncode_bad r cv vw l ver w hb hf hv hok (by omega)
end Go.Proofs.Ytegclfpmgilnpaa
