/-
  Rows: their bytes (the program's Encode). MADE BY mkRowB.py
-/
import Derived.Test.YtegclfpmgilnpaaRowA
import Derived.Test.YtegclfpmgilnpaaImgD
import Derived.Test.YtegclfpmgilnpaaBitB
import Derived.Test.YtegclfpmgilnpaaCelD
import Derived.Test.YtegclfpmgilnpaaRelW
namespace Go.Proofs.Ytegclfpmgilnpaa
open Go.RowKit Go.Lac

theorem run_store_complexB {P : Program} {w : World} {a : Addr} {m : Mode} (k : FloatKind) (re im : Nat) : (store a (.complex k re im) m).run P w = stored P w a (.complex k re im) m := run_store P w a _ m rfl
attribute [local go_sem] run_store_complexB
theorem infoPCb : (Try.prog.info? 129).map (·.size) = some 5 := by kernel_rfl
theorem fieldRlB_3 (w : World) (b : Nat) : (Instr.fieldAt 39 (.pointer (some ⟨b, 0, none⟩)) 3).run Try.prog w = .ok (.pointer (some ⟨b, 4, none⟩)) w := by kernel_rfl
theorem fieldCoB_1 (w : World) (b o : Nat) : (Instr.fieldAt 69 (.pointer (some ⟨b, o, none⟩)) 1).run Try.prog w = .ok (.pointer (some ⟨b, o + 1, none⟩)) w := by kernel_rfl
theorem infoCB : (Try.prog.info? 69).map (fun i => (i.zero, i.size, i.bytes)) = some (some (.agg #[.string ⟨#[]⟩, .int .u8 0, .bool false]), 3, 24) := by kernel_rfl
def Kn.tupR (bs : List UInt8) : Kn := ⟨fun v w => ∃ s, v = .tuple #[s, .int .i64 0] ∧ Rd w s bs, fun _ _ _ k ⟨s, h1, h2⟩ => ⟨s, h1, h2.ext k⟩⟩
/-- What is wrong with encoding a row. -/
def encE (ver : Nat) (r : Rl) (l : List Cel) : Nat := if ver ≠ 1 ∧ ver ≠ 2 then 18 else fitsE r l
def nullsOf (l : List Cel) : List Bool := l.map fun c => decide (c.k = 0)
/-- The cells that are not null, one behind the other. -/
def encC (ver : Nat) (l : List Cel) : List UInt8 := l.flatMap fun c => if c.k = 0 then [] else cBytes ver c
def encB (ver : Nat) (l : List Cel) : List UInt8 := mapB (nullsOf l) ++ encC ver l
theorem encC_snoc (ver : Nat) (l : List Cel) (c : Cel) : encC ver (l ++ [c]) = encC ver l ++ (if c.k = 0 then [] else cBytes ver c) := by simp [encC]
theorem bools_nulls (l : List Cel) : l.map nullV = boolsV (nullsOf l) := by simp [boolsV, nullsOf, nullV, Function.comp_def]
theorem fits_zero {r : Rl} {l : List Cel} (h : fitsE r l = 0) : rlErr r = 0 ∧ l.length = r.cols.length ∧ ∀ (j : Nat) (hj : j < l.length) (hj' : j < r.cols.length), cErr l[j] r.cols[j].ty = 0 := by
  unfold fitsE at h
  split at h
  · rename_i h1; exact absurd h h1
  · rename_i h1
    split at h
    · cases h
    · rename_i h2
      refine ⟨Classical.not_not.1 h1, Classical.not_not.1 h2, fun j hj hj' => ?_⟩
      have := (firstN_eq _).1 h j hj
      rw [two_at fitC hj hj'] at this
      exact this
theorem rowIsVersion_any (k : Nat) (w : World) : Calls Try.prog 60 #[.int .u8 (k : Nat)] w fun e w' => e = .returned (.bool (decide (k = 1 ∨ k = 2))) ∧ Ext w w' := by
  by_cases h1 : 1 ≤ k
  · by_cases h2 : k ≤ 2
    · have hd : decide (k = 1 ∨ k = 2) = true := decide_eq_true (by omega)
      have hk2 : (k : Int) ≤ 2 := by omega
      rw [hd]
      go_enter Try.func60, Try.ntmps60
      go_wp2
      go_ret
      exact ⟨rfl, Ch.refl _ _⟩
    · have hd : decide (k = 1 ∨ k = 2) = false := decide_eq_false (by omega)
      have hk2 : ¬ (k : Int) ≤ 2 := by omega
      rw [hd]
      go_enter Try.func60, Try.ntmps60
      go_wp2
      go_ret
      exact ⟨rfl, Ch.refl _ _⟩
  · have hd : decide (k = 1 ∨ k = 2) = false := decide_eq_false (by omega)
    rw [hd]
    go_enter Try.func60, Try.ntmps60
    go_wp2
    go_ret
    exact ⟨rfl, Ch.refl _ _⟩
theorem encLen {ver : Nat} {r : Rl} {l : List Cel} (hver : ver = 1 ∨ ver = 2) (h16 : l.length ≤ 16) (hok : ∀ c ∈ l, c.ok) (hcz : ∀ (j : Nat) (hj : j < l.length) (hj' : j < r.cols.length), cErr l[j] r.cols[j].ty = 0) (hlen : l.length = r.cols.length) (j : Nat) : (mapB (nullsOf l) ++ encC ver (l.take j)).length ≤ 100000 := by
  have h2 : ∀ c ∈ l, c.k ≠ 0 → (cBytes ver c).length ≤ 2200 := fun c hc hk => by
    obtain ⟨i, hi, rfl⟩ := List.mem_iff_getElem.1 hc
    exact cBytes_len (hok _ hc) (hcz i hi (by omega)) hk
  have h3 : ∀ k : List Cel, (∀ c ∈ k, c ∈ l) → (encC ver k).length ≤ k.length * 2200 := by
    intro k
    induction k with
    | nil => intro _; simp [encC]
    | cons c k ih =>
      intro hm
      have h4 := ih fun x hx => hm x (List.mem_cons_of_mem _ hx)
      unfold encC at h4 ⊢
      rw [List.flatMap_cons, List.length_append, List.length_cons]
      by_cases hk : c.k = 0
      · rw [if_pos hk, List.length_nil]; omega
      · rw [if_neg hk]
        have := h2 c (hm c List.mem_cons_self) hk
        omega
  have h5 := h3 (l.take j) fun c hc => List.mem_of_mem_take hc
  have h6 : (l.take j).length ≤ 16 := by rw [List.length_take]; omega
  have h7 : (mapB (nullsOf l)).length ≤ 2 := by
    rw [mapB_length _ (by simp [nullsOf]; omega)]
    exact sizeN_le (by simp [nullsOf]; omega)
  rw [List.length_append]
  omega
def RowEncPost (ver : Nat) (r : Rl) (l : List Cel) (w : World) (e : Ending) (w' : World) : Prop :=
  Ext w w' ∧ ∃ s, e = .returned (.tuple #[s, .int .i64 (encE ver r l : Nat)]) ∧ Rd w' s (if encE ver r l = 0 then encB ver l else [])
def rbT (vs : Value) (x : Cel) (g4 b2 o2 n cc j q ver : Nat) (bs : List UInt8) : Tmp → Kn
  | 9 => .rd bs
  | 10 => .is (.int .i64 0)
  | 42 => Kn.tupR bs
  | 43 => .is vs
  | 44 => .is (pc x)
  | 45 => .is (.pointer (some ⟨g4, 4, none⟩))
  | 46 => .is (.slice (some ⟨b2, o2, none⟩) n cc)
  | 47 => .is (.int .i64 (j : Nat))
  | 48 => .is (.pointer (some ⟨b2, o2 + j * 3, none⟩))
  | 49 => .is (.pointer (some ⟨b2, o2 + j * 3 + 1, none⟩))
  | 50 => .is (.int .u8 (q : Nat))
  | 51 => .is (.int .u8 (ver : Nat))
  | 52 => Kn.tupR bs
  | 53 => .rd bs
  | 54 => .is (.int .i64 0)
  | _ => .any
set_option maxRecDepth 20000 in
set_option maxHeartbeats 8000000 in
theorem rowEncode_any (r : Rl) (cv vw : Value) (l : List Cel) (ver : Nat) (w : World) (hb : ColS w cv r.cols) (hf : r.fits) (hv : PcS w vw l) (hok : ∀ c ∈ l, c.ok) :
    Calls Try.prog 33 #[vw, .agg (relv r cv), .int .u8 (ver : Nat)] w (RowEncPost ver r l w) := by
  have h1 := heap_alloc_new w (.cells (relv r cv) 39)
  obtain ⟨W, hW⟩ : ∃ W, W = w.alloc (.cells (relv r cv) 39) := ⟨_, rfl⟩
  have hx : Ext w W := by rw [hW]; exact (Ch.refl _ _).alloc _
  rw [← hW] at h1
  obtain ⟨g4, hg4⟩ : ∃ g4, g4 = w.heap.size := ⟨_, rfl⟩
  rw [← hg4] at h1
  have HG := Lib.hid h1; have HX := Lib.hid hx; have HW := Lib.hid hW; have HG4E := Lib.hid hg4
  have HB := Lib.hid (ColS.ext hb hx); have HV := Lib.hid (PcS.ext hv hx); have HOK := Lib.hid hok
  have HIV := Lib.hid (rowIsVersion_any ver W)
  have HFT := Lib.hid (fun w2 (hx2 : Ext W w2) => fits_any r cv vw l w2 (ColS.ext hb (hx.trans hx2)) hf (PcS.ext hv (hx.trans hx2)))
  obtain ⟨c0, c1, c2, c3, c4⟩ := row_cells h1
  obtain ⟨co, cc, rfl, hcm, hcm2, _⟩ := id hb
  obtain ⟨vo, vcap, rfl, k1, k2⟩ := hv.shape
  have hl63 : l.length ≤ 9223372036854775807 := by unfold maxLen at k2; omega
  rw [hW] at c0 c1 c2 c3 c4
  clear h1 hx hW hg4 hb hv hok hcm hcm2 k1 k2
  by_cases hver : ver = 1 ∨ ver = 2
  case neg =>
    have HE : Hid (encE ver r l = 18) := Lib.hid (by unfold encE; rw [if_pos (by omega)])
    rw [decide_eq_false hver] at HIV
    clear hver
    unfold relv strV at *
    go_enter Try.func33, Try.ntmps33
    go_wp2_with fail
    rw [← HW.out]
    refine HIV.out.mono ?_
    rintro e w2 ⟨rfl, hx2⟩
    have HX2 := Lib.hid (HX.out.trans hx2)
    clear hx2 c0 c1 c2 c3 c4
    go_wp2
    refine bodyPost_ret (results_tmp2 rfl _ _ _) rfl ?_
    exact ⟨HX2.out, _, by rw [HE.out]; rfl, by rw [HE.out]; exact rd_nil _⟩
  have HVER := Lib.hid hver
  have HE0 : Hid (encE ver r l = fitsE r l) := Lib.hid (by unfold encE; rw [if_neg (by omega)])
  rw [decide_eq_true hver] at HIV
  clear hver
  unfold relv strV at HW HFT c0 c1 c2 c3 c4 ⊢
  go_enter Try.func33, Try.ntmps33
  go_wp2_with fail
  rw [← HW.out]
  refine HIV.out.mono ?_
  rintro e w2 ⟨rfl, hx2⟩
  have HX2 := Lib.hid (HX.out.trans hx2); have HXW2 := Lib.hid hx2
  have HG2 := Lib.hid (heap_ext hx2 HG.out)
  have HFT2 := Lib.hid (HFT.out w2 hx2)
  obtain ⟨d0, d1, d2, d3, d4⟩ := row5 HG2.out
  rw [HG4E.out] at d0 d1 d2 d3 d4
  clear hx2 c0 c1 c2 c3 c4 HIV HFT
  go_wp2_with fail
  refine HFT2.out.mono ?_
  rintro e w3 ⟨rfl, hx3⟩
  have HX3 := Lib.hid (HX2.out.trans hx3); have HXW3 := Lib.hid (HXW2.out.trans hx3)
  clear hx3 d0 d1 d2 d3 d4 HFT2
  by_cases hft : fitsE r l = 0
  case neg =>
    have HE : Hid (encE ver r l ≠ 0) := Lib.hid (by rw [HE0.out]; exact hft)
    have en : (((fitsE r l : Nat) : Int) != 0) = true := by simp; omega
    clear hft
    generalize fitsE r l = E at *
    go_wp2
    refine bodyPost_ret (results_tmp2 rfl _ _ _) rfl ?_
    refine ⟨HX3.out, _, by rw [HE0.out]; rfl, ?_⟩
    rw [if_neg HE.out]
    exact rd_nil _
  obtain ⟨hz, hlen, hcz⟩ := fits_zero hft
  have hl16 : r.cols.length ≤ 16 := (rlErr_zero hz).2.2.2.2.2.1
  have HE : Hid (encE ver r l = 0) := Lib.hid (by rw [HE0.out]; exact hft)
  have en : (((fitsE r l : Nat) : Int) != 0) = false := by rw [hft]; rfl
  have HCZ : Hid (∀ (j : Nat) (x : Cel) (c : Col), l[j]? = some x → r.cols[j]? = some c → cErr x c.ty = 0) := Lib.hid (fun j x c h1 h2 => by
    obtain ⟨i1, rfl⟩ := List.getElem?_eq_some_iff.1 h1
    obtain ⟨i2, rfl⟩ := List.getElem?_eq_some_iff.1 h2
    exact hcz j i1 i2)
  have HNL := Lib.hid (nulls_any (.slice vo l.length vcap) l w3 (PcS.ext HV.out HXW3.out) (by omega))
  have HLEN := Lib.hid hlen
  have HL16 : Hid (l.length ≤ 16) := Lib.hid (by omega)
  clear hft hz hcz hlen hl16
  generalize fitsE r l = E at *
  go_wp2_with fail
  refine HNL.out.mono ?_
  rintro e w4 ⟨y, rfl, hx4, hy⟩
  have hrb : RdBools w4 y (nullsOf l) := by
    have h := Sl.ofOwns hy
    rw [bools_nulls] at h
    unfold RdBools
    rwa [show (nullsOf l).length = l.length by simp [nullsOf]]
  have HPK := Lib.hid (pack_any y (nullsOf l) w4 hrb)
  have hnl : (nullsOf l).length = l.length := by simp [nullsOf]
  have HX4 := Lib.hid (HX3.out.trans hx4); have HXW4 := Lib.hid (HXW3.out.trans hx4)
  obtain ⟨yo, yc, hye⟩ := owns_shape hy
  subst hye
  have HPK := Lib.hid (HPK.out.mono fun e w' h => by
    unfold PackPost at h
    rwa [if_pos (by have := HL16.out; omega)] at h)
  clear hx4 hy hrb hnl
  go_wp2_with fail
  refine HPK.out.mono ?_
  rintro e w5 ⟨s, rfl, hx5, hs, so, sc, hse⟩
  have HXW5 := Lib.hid (HXW4.out.trans hx5)
  have HRD := Lib.hid hs
  obtain ⟨i, chv, _, csv, _⟩ := info_parts infoPrZ
  have CHV := Lib.hid chv; have CSV := Lib.hid csv
  obtain ⟨ic, chc, _, csc, _⟩ := info_parts infoCB
  have CHC := Lib.hid chc; have CSC := Lib.hid csc
  clear hx5 hs chv csv chc csc HPK hse
  clear HNL HPK
  generalize hn : l.length = n at *
  have HN := Lib.hid hn; clear hn
  generalize hm : r.cols.length = m at *
  obtain rfl : n = m := HLEN.out
  have HNC := Lib.hid hm; clear hm
  rw [← HG4E.out]
  go_wp2
  go_loopw [9, 10, 30] (fun vb ve ix wr => ∃ j : Nat, j ≤ n ∧ ix = .int .i64 j ∧ ve = .int .i64 0 ∧ Hid (Ext W wr) ∧ Hid (Rd wr vb (mapB (nullsOf l) ++ encC ver (l.take j)))) (fun _ _ ix _ => n - (intOf ix).toNat)
  case atStart => exact ⟨0, Nat.zero_le _, rfl, rfl, HXW5, Lib.hid (by simpa [encC] using HRD.out)⟩
  case round =>
    obtain ⟨j, hj, rfl, rfl, HXr, HRb⟩ := hrel
    by_cases hlt : j < n
    · have hjl : j < l.length := by have := HN.out; omega
      have hjc : j < r.cols.length := by have := HNC.out; omega
      obtain ⟨b, o, hvo, hra0⟩ := (PcS.ext HV.out HXr.out).at hjl
      subst hvo
      have hcr := ColS.ext HB.out HXr.out
      obtain ⟨b2, o2, hco, hrc⟩ := colS_at hcr hjc
      subst hco
      have hidx := run_indexSl wr Try.underlying74 CHV.out CSV.out b o n vcap j hlt
      have HTK : Hid (encC ver (l.take (j + 1)) = encC ver (l.take j) ++ (if l[j].k = 0 then [] else cBytes ver l[j])) := Lib.hid (by rw [List.take_succ_eq_append_getElem hjl, encC_snoc])
      have HCE : Hid (cErr l[j] r.cols[j].ty = 0) := Lib.hid (HCZ.out j _ _ (List.getElem?_eq_getElem hjl) (List.getElem?_eq_getElem hjc))
      have HXO : Hid (l[j].ok) := Lib.hid (HOK.out _ (List.getElem_mem hjl))
      have HBL : Hid ((mapB (nullsOf l) ++ encC ver (l.take j)).length ≤ 100000) := Lib.hid (encLen HVER.out (by rw [HN.out]; exact HL16.out) HOK.out (fun j h1 h2 => HCZ.out j _ _ (List.getElem?_eq_getElem h1) (List.getElem?_eq_getElem h2)) (by rw [HN.out, HNC.out]) j)
      have q1 : wr.cell? ⟨b2, o2 + j * 3 + 1, none⟩ = some (.int .u8 (r.cols[j].ty : Nat)) := hrc 1 _ rfl
      generalize r.cols[j].ty = q at *
      generalize l[j] = x at *
      generalize hbs : mapB (nullsOf l) ++ encC ver (l.take j) = bs0 at *
      have HBS := Lib.hid hbs; clear hbs
      have p0 : wr.cell? ⟨b, o + j * 5, none⟩ = some (.int .u8 (x.k : Nat)) := by have := hra0 0 _ rfl; simpa using this
      have p1 : wr.cell? ⟨b, o + j * 5 + 1, none⟩ = some (.int .u8 (x.v.ty : Nat)) := hra0 1 _ rfl
      have p2 : wr.cell? ⟨b, o + j * 5 + 2, none⟩ = some (.int .i64 x.v.i) := hra0 2 _ rfl
      have p3 : wr.cell? ⟨b, o + j * 5 + 3, none⟩ = some (.complex .f64 x.v.re x.v.im) := hra0 3 _ rfl
      have p4 : wr.cell? ⟨b, o + j * 5 + 4, none⟩ = some (.string ⟨x.v.t.toArray⟩) := hra0 4 _ rfl
      have HP := Lib.hid hra0
      have en0 : ((0 : Int) == 0) = true := rfl
      have HLT := Lib.hid hlt
      obtain ⟨w3', hw3⟩ : ∃ w3', w3' = wr.alloc (.cells (pcv x) 129) := ⟨_, rfl⟩
      have hx3 : Ext wr w3' := by rw [hw3]; exact (Ch.refl _ _).alloc _
      have hg12 : w3'.heap[wr.heap.size]? = some (.cells (pcv x) 129 (0, 0)) := by rw [hw3]; exact heap_alloc_new wr _
      have HG12 := Lib.hid hg12
      have HX3' := Lib.hid (HXr.out.trans hx3)
      have HW3 : Hid (w3' = wr.alloc (.cells #[.int .u8 (x.k : Nat), .int .u8 (x.v.ty : Nat), .int .i64 x.v.i, .complex .f64 x.v.re x.v.im, .string ⟨x.v.t.toArray⟩] 129)) := Lib.hid hw3
      have HQ1 : Hid (w3'.cell? ⟨b2, o2 + j * 3 + 1, none⟩ = some (.int .u8 (q : Nat))) := Lib.hid (hx3.cell (p := ⟨b2, o2 + j * 3 + 1, none⟩) (fun f => f) _ q1)
      have HG4 : Hid (w3'.heap[g4]? = some (.cells (relv r (.slice (some ⟨b2, o2, none⟩) n cc)) 39 (0, 0))) := Lib.hid (heap_ext hx3 (heap_ext HXr.out HG.out))
      have HRB3 := Lib.hid (HRb.out.ext hx3)
      by_cases hk : x.k = 0
      · have HTK2 : Hid (mapB (nullsOf l) ++ encC ver (l.take (j + 1)) = bs0) := Lib.hid (by rw [HTK.out, if_pos hk, List.append_nil]; exact HBS.out)
        have hkc : ((x.k : Int) != 0) = false := by simp [hk]
        clear hx3 hw3 hg12 hrc hra0 hcr q1 hk hjl hjc hlt
        go_wp2
        generalize u43 = u43 at *
        go_roundw
        case rel => exact ⟨j + 1, HLT.out, by simp, rfl, by rw [← HW3.out]; exact HX3', by rw [← HW3.out, HTK2.out]; exact HRB3⟩
        case measure => simp [intOf]; have := HLT.out; omega
      · have hkc : ((x.k : Int) != 0) = true := by simp; omega
        have HTK2 : Hid (mapB (nullsOf l) ++ encC ver (l.take (j + 1)) = bs0 ++ cBytes ver x) := Lib.hid (by rw [HTK.out, if_neg hk, ← List.append_assoc, HBS.out])
        have hcp : cpErr ver x q = 0 := by unfold cpErr; rw [if_neg (by have := HVER.out; omega), if_neg (by have := HCE.out; omega), if_neg hk]
        have HPUT : Hid (∀ w, Ext w3' w → Calls Try.prog 63 #[u9, pc x, .int .u8 (q : Nat), .int .u8 (ver : Nat)] w fun e w' => ∃ s, e = .returned (.tuple #[s, .int .i64 0]) ∧ Ext w w' ∧ Rd w' s (bs0 ++ cBytes ver x)) := Lib.hid (fun w hw => (cput_any u9 bs0 x q ver w (HRB3.out.ext hw) HBL.out HXO.out).mono (by
          rintro e w' ⟨s, rfl, k1, k2⟩
          rw [hcp] at k2 ⊢
          exact ⟨s, rfl, k1, k2⟩))
        clear hx3 hw3 hg12 hrc hra0 hcr q1 hk hjl hjc hlt hcp
        generalize bs0 ++ cBytes ver x = bs at *
        go_wp2
        rw [← HW3.out]
        refine wp_region_ext (rbT u9 x g4 b2 o2 n cc j q ver bs) mixedR (by rfl) (by rfl) ?all ?fin
        case all =>
          refine ⟨?_, ?_, ?_, ?_, ?_, ?_, ?_, ?_, ?_, ?_, ?_, ?_, ?_, ?_, ?_, trivial⟩
          · -- 0: slot 43 := Op.move t9
            refine StepOK.plain (kn_stable _) rfl fun ρ w hρ hw hf => ?_
            have h9 : ρ (.tmp 9) = (u9) := (hf 9).2 rfl rfl
            exact Exec.kmove rfl rfl h9
          · -- 1: slot 44 := Op.load 129 t12
            refine StepOK.plain (kn_stable _) rfl fun ρ w hρ hw hf => ?_
            have h12 : ρ (.tmp 12) = (.pointer (some ⟨wr.heap.size, 0, none⟩)) := (hf 12).2 rfl rfl
            exact Exec.kloadrow rfl rfl h12 (heap_ext hw HG12.out) Try.underlying129 rfl infoPCb rfl
          · -- 2: slot 45 := Op.fieldAddr 39 t4 3
            refine StepOK.plain (kn_stable _) rfl fun ρ w hρ hw hf => ?_
            have h4 : ρ (.tmp 4) = (.pointer (some ⟨g4, 0, none⟩)) := (hf 4).2 rfl rfl
            exact Exec.kfield rfl rfl h4 (fieldRlB_3 w _) rfl
          · -- 3: slot 46 := Op.load 37 t45
            refine StepOK.plain (kn_stable _) rfl fun ρ w hρ hw hf => ?_
            have h45 : ρ (.tmp 45) = (.pointer (some ⟨g4, 4, none⟩)) := (hf 45).1 rfl
            have hc : w.cell? ⟨g4, 4, none⟩ = some (.slice (some ⟨b2, o2, none⟩) n cc) := by rw [cell_of_row _ _ _ _ _ _ (heap_ext hw HG4.out)]; rfl
            exact Exec.same (v := (.slice (some ⟨b2, o2, none⟩) n cc)) rfl (by simp [go_sem, hρ.const, h45, hc]) rfl
          · -- 4: slot 47 := Op.move t11
            refine StepOK.plain (kn_stable _) rfl fun ρ w hρ hw hf => ?_
            have h11 : ρ (.tmp 11) = (.int .i64 (j : Nat)) := (hf 11).2 rfl rfl
            exact Exec.kmove rfl rfl h11
          · -- 5: slot 48 := Op.indexAddr 37 t46 t47
            refine StepOK.plain (kn_stable _) rfl fun ρ w hρ hw hf => ?_
            have h46 : ρ (.tmp 46) = (.slice (some ⟨b2, o2, none⟩) n cc) := (hf 46).1 rfl
            have h47 : ρ (.tmp 47) = (.int .i64 (j : Nat)) := (hf 47).1 rfl
            exact Exec.kindex rfl rfl Try.underlying37 CHC.out CSC.out h46 h47 HLT.out rfl
          · -- 6: slot 49 := Op.fieldAddr 69 t48 1
            refine StepOK.plain (kn_stable _) rfl fun ρ w hρ hw hf => ?_
            have h48 : ρ (.tmp 48) = (.pointer (some ⟨b2, o2 + j * 3, none⟩)) := (hf 48).1 rfl
            exact Exec.kfield rfl rfl h48 (fieldCoB_1 w _ _) rfl
          · -- 7: slot 50 := Op.load 5 t49
            refine StepOK.plain (kn_stable _) rfl fun ρ w hρ hw hf => ?_
            have h49 : ρ (.tmp 49) = (.pointer (some ⟨b2, o2 + j * 3 + 1, none⟩)) := (hf 49).1 rfl
            have hc : w.cell? ⟨b2, o2 + j * 3 + 1, none⟩ = some (.int .u8 (q : Nat)) := hw.cell (p := ⟨b2, o2 + j * 3 + 1, none⟩) (fun f => f) _ HQ1.out
            exact Exec.same (v := (.int .u8 (q : Nat))) rfl (by simp [go_sem, hρ.const, h49, hc]) rfl
          · -- 8: slot 51 := Op.move t2
            refine StepOK.plain (kn_stable _) rfl fun ρ w hρ hw hf => ?_
            have h2 : ρ (.tmp 2) = (.int .u8 (ver : Nat)) := (hf 2).2 rfl rfl
            exact Exec.kmove rfl rfl h2
          · -- 9: slot 52 := Op.call { value (Operand.func 63), args := #[t43, t44, t50, t51], argT
            refine StepOK.plain (kn_stable _) rfl fun ρ w hρ hw hf => ?_
            have h43 : ρ (.tmp 43) = (u9) := (hf 43).1 rfl
            have h44 : ρ (.tmp 44) = (pc x) := (hf 44).1 rfl
            have h50 : ρ (.tmp 50) = (.int .u8 (q : Nat)) := (hf 50).1 rfl
            have h51 : ρ (.tmp 51) = (.int .u8 (ver : Nat)) := (hf 51).1 rfl
            refine Exec.kcall #[u9, pc x, .int .u8 (q : Nat), .int .u8 (ver : Nat)] hρ rfl rfl (by simp [h43, h44, h50, h51]) Try.func63 (by rfl) (by rfl) ((HPUT.out w hw).mono ?_)
            rintro e w' ⟨s, rfl, k1, k2⟩
            exact ⟨_, rfl, ⟨s, rfl, k2⟩, k1⟩
          · -- 10: slot 42 := Op.move t52
            refine StepOK.plain (kn_stable _) rfl fun ρ w hρ hw hf => ?_
            have h52 : (Kn.tupR bs).holds (ρ (.tmp 52)) w := (hf 52).1 rfl
            exact Exec.kmove rfl rfl h52
          · -- 11: slot 53 := Op.extract t42 0
            refine StepOK.plain (kn_stable _) rfl fun ρ w hρ hw hf => ?_
            have h42 : (Kn.tupR bs).holds (ρ (.tmp 42)) w := (hf 42).1 rfl
            obtain ⟨s, e1, e2⟩ : ∃ s, ρ (.tmp 42) = .tuple #[s, .int .i64 0] ∧ Rd w s bs := h42
            exact Exec.same (v := s) rfl (by simp [go_sem, hρ.const, e1]) e2
          · -- 12: slot 54 := Op.extract t42 1
            refine StepOK.plain (kn_stable _) rfl fun ρ w hρ hw hf => ?_
            have h42 : (Kn.tupR bs).holds (ρ (.tmp 42)) w := (hf 42).1 rfl
            obtain ⟨s, e1, e2⟩ : ∃ s, ρ (.tmp 42) = .tuple #[s, .int .i64 0] ∧ Rd w s bs := h42
            exact Exec.same (v := .int .i64 0) rfl (by simp [go_sem, hρ.const, e1]) rfl
          · -- 13: slot 9 := Op.assign t53
            refine StepOK.plain (kn_stable _) rfl fun ρ w hρ hw hf => ?_
            have h53 : Rd w (ρ (.tmp 53)) (bs) := (hf 53).1 rfl
            exact Exec.kassign rfl rfl h53
          · -- 14: slot 10 := Op.assign t54
            refine StepOK.plain (kn_stable _) rfl fun ρ w hρ hw hf => ?_
            have h54 : ρ (.tmp 54) = (.int .i64 0) := (hf 54).1 rfl
            exact Exec.kassign rfl rfl h54
        case fin =>
          intro ν w9 hfin hx9
          have e0 : ν 10 = .int .i64 0 := hfin 14 10 rfl
          have e1 : Rd w9 (ν 9) bs := hfin 13 9 rfl
          simp only [Exit.then, ended, List.foldl_cons, List.foldl_nil, List.setIfInBounds_toArray, List.set_cons_succ, List.set_cons_zero, e0]
          have HX9 := Lib.hid (HX3'.out.trans hx9); have HR9 := Lib.hid e1
          clear hfin hx9 e0 e1
          generalize ν 9 = u9' at HR9 ⊢
          go_wp2
          go_roundw
          case rel => exact ⟨j + 1, HLT.out, by simp, rfl, HX9, by rw [HTK2.out]; exact HR9⟩
          case measure => simp [intOf]; have := HLT.out; omega
    · obtain rfl : j = n := by omega
      have HTK : Hid (l.take j = l) := Lib.hid (by rw [← HN.out, List.take_length])
      have HF : Hid (Rd wr u9 (encB ver l)) := Lib.hid (by have := HRb.out; rw [HTK.out] at this; exact this)
      have HX := Lib.hid (HX.out.trans HXr.out)
      clear HRb HTK
      go_wp2
      refine bodyPost_ret (results_tmp2 rfl _ _ _) rfl ?_
      refine ⟨HX.out, _, by rw [HE.out]; rfl, ?_⟩
      rw [if_pos HE.out]
      exact HF.out
end Go.Proofs.Ytegclfpmgilnpaa
