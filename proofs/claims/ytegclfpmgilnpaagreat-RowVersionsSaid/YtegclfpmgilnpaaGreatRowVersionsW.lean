import Derived.Test.YtegclfpmgilnpaaGreatGRowC
import Derived.Test.YtegclfpmgilnpaaGreatGRowA
import Derived.Test.YtegclfpmgilnpaaGreatImgC
import Derived.Test.YtegclfpmgilnpaaGreatImgE
import Derived.Test.YtegclfpmgilnpaaGreatRelX
import Derived.Test.YtegclfpmgilnpaaGreatGRef
namespace Go.Proofs.YtegclfpmgilnpaaGreat
open Go.RowKit Go.Lac
def KnT.rowV {Ts : TypeId → Prop} (hT : ¬ Ts 90) (l : List Cel) : KnT Ts :=
  ⟨fun v w => w.ownsRow 0 90 5 v l.length (PcC l), fun _ _ _ hx h => own_tyb h hT hx⟩
abbrev rvTs : TypeId → Prop := fun t => t = 43
def rvB : Bx := ⟨6, 4, 6, 29, 43, 5⟩
def rvT (r : Rl) (cv vw : Value) (l : List Cel) : Tmp → KnT rvTs
  | 26 => .is vw
  | 27 => KnT.rowV (by decide) l
  | 28 => .is (.agg (relv r cv))
  | 29 => KnT.relO (by decide) r
  | 5 => KnT.rowV (by decide) l
  | _ => .any
theorem own_onlyV {u : Nat} {st : RS} {w w' : World} {b : Nat} {T : TypeId} {s : Nat} {v : Value} {n : Nat} {xs : List Value} (h : w.ownsRow b T s v n xs) (hr : IsR w u st) (hT : T ≠ 81) (k : Only u w w') : w'.ownsRow b T s v n xs := by
  obtain ⟨lv, h1, _⟩ := hr
  exact own_chK h k fun j hj e => own_noobK h h1 (fun cur e' => by cases e'; exact hT rfl) (by rw [← e]; exact hj)
theorem encB_len {ver : Nat} {r : Rl} {l : List Cel} (hver : ver = 1 ∨ ver = 2) (hok : ∀ c ∈ l, c.ok) (hf : fitsE r l = 0) : (encB ver l).length ≤ 100000 := by
  obtain ⟨h1, h2, h3⟩ := fits_zero hf
  have := encLen hver (fits_len16 hf) hok (fun j a b => h3 j a b) h2 l.length
  rwa [List.take_length] at this
theorem encode_ok {ver : Nat} (r : Rl) (cv vw : Value) (l : List Cel) (w : World) (hver : ver = 1 ∨ ver = 2) (hb : ColS w cv r.cols) (hf : r.fits) (hv : PcS w vw l) (hok : ∀ c ∈ l, c.ok) (h0 : fitsE r l = 0) :
    Calls Tryz.prog 20 #[vw, .agg (relv r cv), .int .u8 (ver : Nat)] w fun e w' => ∃ s, e = .returned (.tuple #[s, .int .i64 0]) ∧ Ext w w' ∧ Rd w' s (encB ver l) := by
  refine (rowEncode_any r cv vw l ver w hb hf hv hok).mono ?_
  rintro e w' ⟨hx, s, rfl, hs⟩
  have hE : encE ver r l = 0 := by unfold encE; rw [if_neg (by omega)]; exact h0
  rw [hE] at hs ⊢
  exact ⟨s, rfl, hx, by rwa [if_pos rfl] at hs⟩
theorem take_ok {ver : Nat} (r : Rl) (cv : Value) (u : Nat) (l : List Cel) (rest : List UInt8) (w : World) (hver : ver = 1 ∨ ver = 2) (hb : ColS w cv r.cols) (hf : r.fits) (hok : ∀ c ∈ l, c.ok) (h0 : fitsE r l = 0) (h : IsR w u (encB ver l ++ rest, 0)) :
    Calls Tryz.prog 8 #[RPtr u, .agg (relv r cv), .int .u8 (ver : Nat)] w fun e w' => ∃ a b, e = .returned (.tuple #[a, b]) ∧ Only u w w' ∧ IsR w' u (rest, 0) ∧ OwnPr w.heap.size w' a (l.map cOut) ∧ OwnHt w.heap.size w' b (holesL l) := by
  refine (rowTake_any r cv u _ ver w hb hf h).mono ?_
  rintro e w' ⟨a, b, rfl, k1, k2, k3, k4⟩
  rw [rowTake_put rest hver hok h0] at k2 k3 k4
  exact ⟨a, b, rfl, k1, k2, k3, k4⟩
theorem fill_ok {r : Rl} (v hv tv : Value) (l : List Cel) (w : World) (h0 : fitsE r l = 0) (h1 : PcS w v (l.map cOut)) (h2 : HoS w hv (holesL l)) (h3 : TxR w tv (textsL l)) :
    Calls Tryz.prog 21 #[v, hv, tv] w fun e w' => ∃ y, e = .returned (.tuple #[y, .int .i64 0]) ∧ Ext w w' ∧ OwnPr w.heap.size w' y l := by
  have h16 := fits_len16 h0
  refine (fill_any v hv tv _ _ _ w h1 h2 h3 (by simp; omega) (Nat.le_trans (holesL_length l) (by omega))).mono ?_
  rintro e w' ⟨y, rfl, hx, ho⟩
  obtain ⟨f1, f2⟩ := fill_back h0
  rw [f2] at ho; rw [f1]
  exact ⟨y, rfl, hx, ho⟩
def stB (E : List UInt8) (k : Nat) : RS := if k = 0 then (E ++ E, 0) else if k = 1 then (E, 0) else ([], 0)
theorem take_st {ver : Nat} {E : List UInt8} (r : Rl) (cv : Value) (u : Nat) (l : List Cel) (k : Nat) (w : World) (hE : E = encB ver l) (hk : k < 2) (hver : ver = 1 ∨ ver = 2) (hb : ColS w cv r.cols) (hf : r.fits) (hok : ∀ c ∈ l, c.ok) (h0 : fitsE r l = 0) (h : IsR w u (stB E k)) :
    Calls Tryz.prog 8 #[RPtr u, .agg (relv r cv), .int .u8 (ver : Nat)] w fun e w' => ∃ a b, e = .returned (.tuple #[a, b]) ∧ Only u w w' ∧ IsR w' u (stB E (k + 1)) ∧ OwnPr w.heap.size w' a (l.map cOut) ∧ OwnHt w.heap.size w' b (holesL l) := by
  subst hE
  match k, hk with
  | 0, _ => exact take_ok r cv u l (encB ver l) w hver hb hf hok h0 h
  | 1, _ => exact take_ok r cv u l [] w hver hb hf hok h0 (by rw [List.append_nil]; exact h)
set_option maxRecDepth 20000 in
set_option maxHeartbeats 16000000 in
theorem rowVersions_walk (v : Value) (l : List Cel) (r : Rl) (cv : Value) (w : World) (hv : RcS w v l) (hb : ColS w cv r.cols) (hf : r.fits) (hok : ∀ c ∈ l, c.ok) :
    Calls Tryz.prog 5 #[v, .agg (relv r cv)] w fun e w' => e = .returned (.bool true) ∧ Ext w w' := by
  obtain ⟨W, hW⟩ : ∃ W, W = w.alloc (.cells (relv r cv) 28) := ⟨_, rfl⟩
  have hx : Ext w W := by rw [hW]; exact (Ch.refl _ _).alloc _
  have HBOX : Hid (W.heap[w.heap.size]? = some (.cells (relv r cv) 28 (0, 0))) := Lib.hid (by rw [hW]; exact heap_alloc_new _ _)
  have HFT := Lib.hid (rfits_any r cv v l W (ColS.ext hb hx) hf (RcS.ext hv hx))
  have HX := Lib.hid hx; have HW := Lib.hid hW
  obtain ⟨ao, cap, hcv, _⟩ := id hb
  obtain ⟨vo, vcap, hve, _⟩ := hv.shape
  subst hcv; subst hve
  have HB := Lib.hid hb; have HV := Lib.hid hv; have HF := Lib.hid hf; have HOK := Lib.hid hok
  obtain ⟨c0, c1, c2, c3, c4⟩ := row5 HBOX.out
  rw [hW] at c0 c1 c2 c3 c4
  clear hb hv hf hok hx hW
  unfold relv strV at HFT HW HBOX c0 c1 c2 c3 c4 ⊢
  by_cases h0 : fitsE r l = 0
  case neg =>
    have en : (((fitsE r l : Nat) : Int) != 0) = true := by simpa using h0
    clear h0
    generalize fitsE r l = E at *
    generalize r.cols.length = n at *
    generalize l.length = m at *
    go_enter Tryz.func5, Tryz.ntmps5
    go_wp2_with fail
    rw [← HW.out]
    refine HFT.out.mono ?_
    rintro e w2 ⟨rfl, hx2⟩
    have HX2 := Lib.hid (HX.out.trans hx2); clear hx2
    go_wp2
    go_ret
    exact ⟨rfl, HX2.out⟩
  have en : (((fitsE r l : Nat) : Int) != 0) = false := by rw [h0]; rfl
  have HF0 := Lib.hid h0
  have HL16 := Lib.hid (fits_len16 h0)
  have HC16 : Hid (r.cols.length ≤ 16) := Lib.hid (by have := (fits_zero h0).2.1; have := fits_len16 h0; omega)
  clear h0
  generalize hE0 : fitsE r l = E at HFT en
  clear hE0
  go_enter Tryz.func5, Tryz.ntmps5
  go_wp2_with fail
  rw [← HW.out]
  refine HFT.out.mono ?_
  rintro e w3 ⟨rfl, hx3⟩
  have HX3 := Lib.hid (HX.out.trans hx3)
  have HBOX3 := Lib.hid (heap_ext hx3 HBOX.out)
  clear hx3 HFT HBOX c0 c1 c2 c3 c4
  go_wp2
  refine wp_region_boxes (rvT r (.slice ao r.cols.length cap) (.slice vo l.length vcap) l) [rvB] mixedR (by rfl) (by rfl) ?all ?fin
  case all =>
    refine ⟨?_, ?_, ?_, ?_, ?_, ?_, ?_, trivial⟩
    · refine StepA.bplain (by rfl) (by rfl) rfl fun ρ w4 L hρ hw hf => ?_
      have h : ρ (.tmp 0) = .slice vo l.length vcap := (hf 0).2 rfl rfl
      exact Exec.kmove (T := fun d => (rvT r (.slice ao r.cols.length cap) (.slice vo l.length vcap) l d).kn) rfl rfl h
    · refine StepA.bplain (by rfl) (by rfl) rfl fun ρ w4 L hρ hw hf => ?_
      have h : ρ (.tmp 26) = .slice vo l.length vcap := (hf 26).1 rfl
      refine Exec.kcall #[.slice vo l.length vcap] hρ rfl rfl (by simp [h]) Tryz.func19 (by rfl) (by rfl) ((own10_any _ l w4 (RcS.ext HV.out (HX3.out.trans hw)) (by have := HL16.out; omega)).mono ?_)
      rintro e w' ⟨y, rfl, h1, h2⟩
      exact ⟨_, rfl, ownsRow_down h2 (Nat.zero_le _), h1⟩
    · refine StepA.bplain (by rfl) (by rfl) rfl fun ρ w4 L hρ hw hf => ?_
      have h : ρ (.tmp 3) = .pointer (some ⟨w.heap.size, 0, none⟩) := (hf 3).2 rfl rfl
      exact Exec.kloadrow (T := fun d => (rvT r (.slice ao r.cols.length cap) (.slice vo l.length vcap) l d).kn) rfl rfl h (heap_of_ext hw HBOX3.out) Tryz.underlying28 rfl infoBk rfl
    · refine StepA.bplain (by rfl) (by rfl) rfl fun ρ w4 L hρ hw hf => ?_
      have h : ρ (.tmp 28) = .agg (relv r (.slice ao r.cols.length cap)) := (hf 28).1 rfl
      refine Exec.kcall #[.agg (relv r (.slice ao r.cols.length cap))] hρ rfl rfl (by simp [h]) Tryz.func9 (by rfl) (by rfl) ((relOwn_any r (.slice ao r.cols.length cap) w4 (ColS.ext HB.out (HX3.out.trans hw)) (by have := HC16.out; omega)).mono ?_)
      rintro e w' ⟨cc, rfl, h1, h2⟩
      exact ⟨_, rfl, ⟨cc, rfl, ownsRow_down h2 (Nat.zero_le _)⟩, h1⟩
    · exact StepA.balloc (b := rvB) (by rfl) (by simp) (show 6 < 127 by decide) rfl (by rfl) rfl rfl (relv .zero (.slice none 0 0)) rfl (fun x w => by unfold execOp; simp [go_sem, rvB, relv, Rl.zero, strV])
    · refine StepA.bplain (by rfl) (by rfl) rfl fun ρ w4 L hρ hw hf => ?_
      have h := (hf 27).1 rfl
      exact Exec.kassign (T := fun d => (rvT r (.slice ao r.cols.length cap) (.slice vo l.length vcap) l d).kn) rfl rfl h
    · exact StepA.bstore (by rfl) (by rfl) (b := rvB) (by simp) rfl (by rfl) (by decide) rfl rfl rfl (by rfl) (by rfl) (by rfl) rfl infoOw (fun v w h => by obtain ⟨c, rfl, ho⟩ := h; obtain ⟨ao, cap, rfl⟩ := owns_shape ho; exact ⟨_, rfl, rfl, relv_one _ _ _ _⟩)
  case fin =>
    intro ν w4 hV hx4
    obtain ⟨g5, c5, e5, s5, k5, _, q5⟩ := hV 4 6 rfl
    obtain ⟨cx, ec5, hcx⟩ : ∃ c, Value.agg c5 = .agg (relv r c) ∧ w4.ownsRow 0 93 3 c r.cols.length (colC r.cols) := q5 (by rfl)
    cases ec5
    have hy : w4.ownsRow 0 90 5 (ν 5) l.length (PcC l) := hV 5 5 rfl
    obtain ⟨xo, xc, rfl⟩ := owns_shape hcx
    obtain ⟨yo, yc, hye⟩ := owns_shape hy
    rw [hye] at hy
    simp only [Exit.then, ended, List.foldl_cons, List.foldl_nil, List.setIfInBounds_toArray, List.set_cons_succ, List.set_cons_zero, e5, hye]
    have HX4 := Lib.hid (HX3.out.trans hx4)
    have HG5 : Hid (w4.heap[g5]? = some (.cells (relv r (.slice xo r.cols.length xc)) 43 (0, 0))) := Lib.hid k5
    have HCX := Lib.hid hcx; have HY := Lib.hid hy
    clear hV hx4 e5 k5 q5 s5 hcx hy hye HBOX3
    generalize ν 26 = v26 at *
    generalize ν 27 = v27 at *
    generalize ν 28 = v28 at *
    generalize ν 29 = v29 at *
    have HEN1 : Hid (Calls Tryz.prog 20 #[.slice yo l.length yc, .agg (relv r (.slice xo r.cols.length xc)), .int .u8 1] w4 fun e w' => ∃ s, e = .returned (.tuple #[s, .int .i64 0]) ∧ Ext w4 w' ∧ Rd w' s (encB 1 l)) := Lib.hid (encode_ok (ver := 1) r _ _ l w4 (by decide) (Sl.ofOwns HCX.out) HF.out (Sl.ofOwns HY.out) HOK.out HF0.out)
    have HEN2 : Hid (∀ w5, Ext w4 w5 → Calls Tryz.prog 20 #[.slice yo l.length yc, .agg (relv r (.slice xo r.cols.length xc)), .int .u8 2] w5 fun e w' => ∃ s, e = .returned (.tuple #[s, .int .i64 0]) ∧ Ext w5 w' ∧ Rd w' s (encB 2 l)) := Lib.hid (fun w5 h => encode_ok (ver := 2) r _ _ l w5 (by decide) (Sl.ofOwns (HCX.out.ext h)) HF.out (Sl.ofOwns (HY.out.ext h)) HOK.out HF0.out)
    have HL1 : Hid ((encB 1 l).length ≤ 100000) := Lib.hid (encB_len (by decide) HOK.out HF0.out)
    have HL2 : Hid ((encB 2 l).length ≤ 100000) := Lib.hid (encB_len (by decide) HOK.out HF0.out)
    have HE1 : Hid (∃ a, a = encB 1 l) := Lib.hid ⟨_, rfl⟩
    obtain ⟨d0, d1, d2, d3, d4⟩ := row5 HG5.out
    unfold relv strV at HEN1 HEN2
    go_wp2_with fail
    refine HEN1.out.mono ?_
    rintro e w5 ⟨s1, rfl, hx5, hs1⟩
    have HX5 := Lib.hid (HX4.out.trans hx5); have HG55 := Lib.hid (heap_ext hx5 HG5.out); have HCX5 := Lib.hid (HCX.out.ext hx5); have HY5 := Lib.hid (HY.out.ext hx5); have HS1 := Lib.hid hs1
    have HEN2' := Lib.hid (HEN2.out w5 hx5)
    obtain ⟨so1, sc1, rfl, -⟩ := id hs1
    clear d0 d1 d2 d3 d4 hx5 hs1 HEN1 HEN2 HG5 HCX HY
    obtain ⟨d0, d1, d2, d3, d4⟩ := row5 HG55.out
    go_wp2_with fail
    refine HEN2'.out.mono ?_
    rintro e w6 ⟨s2, rfl, hx6, hs2⟩
    have HX6 := Lib.hid (HX5.out.trans hx6); have HG6 := Lib.hid (heap_ext hx6 HG55.out); have HCX6 := Lib.hid (HCX5.out.ext hx6); have HY6 := Lib.hid (HY5.out.ext hx6); have HS16 := Lib.hid (HS1.out.ext hx6); have HS2 := Lib.hid hs2
    obtain ⟨so2, sc2, rfl, -⟩ := id hs2
    clear d0 d1 d2 d3 d4 hx6 hs2 HEN2' HG55 HCX5 HY5 HS1
    have HV6 := Lib.hid HY6.out
    obtain ⟨iu, hiu, hzu, hsu, hbu⟩ := info_parts infoU8
    have HIU := Lib.hid hiu; have HZU := Lib.hid hzu; have HSU := Lib.hid hsu; have HBU := Lib.hid hbu
    have hempty := fun w => emptyU8 w
    obtain ⟨E1, hE1⟩ : ∃ E, E = encB 1 l := ⟨_, rfl⟩
    obtain ⟨E2, hE2⟩ : ∃ E, E = encB 2 l := ⟨_, rfl⟩
    rw [← hE1] at HL1 HS16 ⊢
    rw [← hE2] at HL2 HS2 ⊢
    have HE1' := Lib.hid hE1; have HE2' := Lib.hid hE2
    clear hiu hzu hsu hbu hE1 hE2 HE1 HV6
    generalize hn1 : E1.length = n1 at *
    have HN1 := Lib.hid hn1
    generalize hn2 : E2.length = n2 at *
    have HN2 := Lib.hid hn2
    clear hn1 hn2
    go_wp2_with (at_builtin; go_must (refine wpList_append_sl (P := Tryz.prog) _ rfl _ _ 22 rfl (w6.heap.size) 5 iu (.int .u8 0) 1 1 Tryz.underlying22 HIU.out HZU.out HSU.out HBU.out rfl (by decide) _ 0 [] rfl (owns_empty w6 _) (.slice so1 n1 sc1) n1 (cellsB E1) rfl (by have := HS16.out; rw [Rd, HN1.out] at this; exact Sl.ext this ((Ch.refl _ _).alloc _)) (by rw [cellsB_length, Nat.mul_one, HN1.out]) (cellsB_one _) (by have := HL1.out; omega) (by have := HL1.out; unfold maxLen; omega) (by simp) ?_))
    intro v7 w7 ho7 hg7
    try simp only [List.nil_append, Nat.zero_add] at ho7
    obtain ⟨vo7, vc7, rfl⟩ := owns_shape ho7
    have hx7 : Ext w6 w7 := ((Ch.refl _ w6).alloc _).grown hg7 fun k hk => .inr ((owns_empty w6 5).lt k hk).1
    have HX7 := Lib.hid hx7; have HO7 := Lib.hid ho7
    have HS17 : Hid (Sl w7 (.slice so1 n1 sc1) n1 (cellsB E1)) := Lib.hid (by have := HS16.out.ext hx7; rwa [Rd, HN1.out] at this)
    clear ho7 hx7 hg7
    go_wp2_with (at_builtin; go_must (refine wpList_append_sl (P := Tryz.prog) _ rfl _ _ 22 rfl (w6.heap.size) 5 iu (.int .u8 0) 1 1 Tryz.underlying22 HIU.out HZU.out HSU.out HBU.out rfl (by decide) _ n1 _ rfl HO7.out (.slice so1 n1 sc1) n1 (cellsB E1) rfl HS17.out (by rw [cellsB_length, Nat.mul_one, HN1.out]) (cellsB_one _) (by have := HL1.out; omega) (by have := HL1.out; unfold maxLen; omega) HX7.out.size ?_))
    intro v8 w8 ho8 hg8
    rw [← cellsB_append] at ho8
    obtain ⟨vo8, vc8, rfl⟩ := owns_shape ho8
    have hx8 : Ext w6 w8 := HX7.out.grown hg8 fun k hk => .inr (HO7.out.lt k hk).1
    have HX8 := Lib.hid hx8
    have HRD1 := Lib.hid (read_any _ (E1 ++ E1) w8 (Rd.ofOwns ho8) (by have := HL1.out; have := HN1.out; rw [List.length_append]; omega))
    clear ho8 hx8 hg8 HX7 HO7 HS17
    generalize n1 + n1 = n1' at *
    go_wp2_with fail
    refine HRD1.out.mono ?_
    rintro e w9 ⟨u1, rfl, hx9, hr9, hu9⟩
    have HX9 := Lib.hid (HX8.out.trans hx9); have HR9 := Lib.hid hr9; have HU1 : Hid (w6.heap.size ≤ u1) := Lib.hid (Nat.le_trans HX8.out.size hu9)
    have HS29 := Lib.hid (HS2.out.ext HX9.out)
    clear hx9 hr9 hu9 HX8 HRD1
    unfold RPtr
    go_wp2_with (at_builtin; go_must (refine wpList_append_sl (P := Tryz.prog) _ rfl _ _ 22 rfl (w9.heap.size) 5 iu (.int .u8 0) 1 1 Tryz.underlying22 HIU.out HZU.out HSU.out HBU.out rfl (by decide) _ 0 [] rfl (owns_empty w9 _) (.slice so2 n2 sc2) n2 (cellsB E2) rfl (by have := HS29.out; rw [Rd, HN2.out] at this; exact Sl.ext this ((Ch.refl _ _).alloc _)) (by rw [cellsB_length, Nat.mul_one, HN2.out]) (cellsB_one _) (by have := HL2.out; omega) (by have := HL2.out; unfold maxLen; omega) (by simp) ?_))
    intro v10 w10 ho10 hg10
    try simp only [List.nil_append, Nat.zero_add] at ho10
    obtain ⟨vo10, vc10, rfl⟩ := owns_shape ho10
    have hx10 : Ext w9 w10 := ((Ch.refl _ w9).alloc _).grown hg10 fun k hk => .inr ((owns_empty w9 5).lt k hk).1
    have HX10 := Lib.hid hx10; have HO10 := Lib.hid ho10
    have HS210 : Hid (Sl w10 (.slice so2 n2 sc2) n2 (cellsB E2)) := Lib.hid (by have := HS29.out.ext hx10; rwa [Rd, HN2.out] at this)
    clear ho10 hx10 hg10
    go_wp2_with (at_builtin; go_must (refine wpList_append_sl (P := Tryz.prog) _ rfl _ _ 22 rfl (w9.heap.size) 5 iu (.int .u8 0) 1 1 Tryz.underlying22 HIU.out HZU.out HSU.out HBU.out rfl (by decide) _ n2 _ rfl HO10.out (.slice so2 n2 sc2) n2 (cellsB E2) rfl HS210.out (by rw [cellsB_length, Nat.mul_one, HN2.out]) (cellsB_one _) (by have := HL2.out; omega) (by have := HL2.out; unfold maxLen; omega) HX10.out.size ?_))
    intro v11 w11 ho11 hg11
    rw [← cellsB_append] at ho11
    obtain ⟨vo11, vc11, rfl⟩ := owns_shape ho11
    have hx11 : Ext w9 w11 := HX10.out.grown hg11 fun k hk => .inr (HO10.out.lt k hk).1
    have HX11 := Lib.hid (HX9.out.trans hx11); have HR11 := Lib.hid (HR9.out.ext hx11)
    have HRD2 := Lib.hid (read_any _ (E2 ++ E2) w11 (Rd.ofOwns ho11) (by have := HL2.out; have := HN2.out; rw [List.length_append]; omega))
    clear ho11 hx11 hg11 HX10 HO10 HS210 HS29 HR9 HX9
    generalize n2 + n2 = n2' at *
    go_wp2_with fail
    refine HRD2.out.mono ?_
    rintro e w12 ⟨u2, rfl, hx12, hr12, hu12⟩
    have HU2 : Hid (u1 < u2) := Lib.hid (Nat.lt_of_lt_of_le HR11.out.lt hu12)
    have HR1 := Lib.hid (HR11.out.ext hx12); have HR2 := Lib.hid hr12
    have HX12 := Lib.hid (HX11.out.trans hx12)
    clear hx12 hr12 hu12 HX11 HR11 HRD2 HS16 HS2 HIU HZU HSU HBU hempty
    unfold RPtr
    go_wp2
    go_loopw [13] (fun ix wr => ∃ k : Nat, k ≤ 2 ∧ ix = .int .i64 (k : Nat) ∧ Ext w6 wr ∧ IsR wr u1 (stB E1 k) ∧ IsR wr u2 (stB E2 k)) (fun ix _ => 2 - (intOf ix).toNat)
    case atStart => exact ⟨0, Nat.zero_le _, rfl, HX12.out, HR1.out, HR2.out⟩
    case round =>
      obtain ⟨k, hk, rfl, hxr, h1, h2⟩ := hrel
      have HXR := Lib.hid hxr; have H1 := Lib.hid h1; have H2 := Lib.hid h2
      clear hxr h1 h2 HR1 HR2 HX12
      by_cases hlt : k < 2
      · obtain ⟨d0, d1, d2, d3, d4⟩ := row5 (heap_ext HXR.out HG6.out)
        have HT1 := Lib.hid (take_st (ver := 1) r (.slice xo r.cols.length xc) u1 l k wr HE1'.out hlt (by decide) (Sl.ofOwns (HCX6.out.ext HXR.out)) HF.out HOK.out HF0.out H1.out)
        unfold relv strV RPtr at HT1
        have HLT := Lib.hid hlt
        go_wp2_with fail
        refine HT1.out.mono ?_
        rintro e wa ⟨a1, b1, rfl, k1, k2, k3, k4⟩
        have HXA : Hid (Ext w6 wa) := Lib.hid (Ch.transNew HXR.out (k1.mono fun j _ h => .inr (by have := HU1.out; omega)))
        have HA1 : Hid (wa.ownsRow wr.heap.size 90 5 a1 l.length (PcC (l.map cOut))) := Lib.hid (by have := k3; unfold OwnPr at this; rwa [List.length_map] at this); have HB1 := Lib.hid k4; have HR1 := Lib.hid k2
        have HR2 := Lib.hid (H2.out.other H1.out (by have := HU2.out; omega) k1)
        obtain ⟨ao1, ac1, rfl⟩ := owns_shape HA1.out
        obtain ⟨bo1, bc1, rfl⟩ := owns_shape k4
        clear k1 k2 k3 k4 d0 d1 d2 d3 d4 HT1 H1 H2
        obtain ⟨d0, d1, d2, d3, d4⟩ := row5 (heap_ext HXA.out HG6.out)
        have HT2 := Lib.hid (take_st (ver := 2) r (.slice xo r.cols.length xc) u2 l k wa HE2'.out HLT.out (by decide) (Sl.ofOwns (HCX6.out.ext HXA.out)) HF.out HOK.out HF0.out HR2.out)
        unfold relv strV RPtr at HT2
        go_wp2_with fail
        refine HT2.out.mono ?_
        rintro e wb ⟨a2, b2, rfl, k1, k2, k3, k4⟩
        have HXB : Hid (Ext w6 wb) := Lib.hid (Ch.transNew HXA.out (k1.mono fun j _ h => .inr (by have := HU1.out; have := HU2.out; omega)))
        have HA1' := Lib.hid (own_onlyV HA1.out HR2.out (by decide) k1); have HB1' := Lib.hid (own_onlyV HB1.out HR2.out (by decide) k1)
        have HA2 : Hid (wb.ownsRow wa.heap.size 90 5 a2 l.length (PcC (l.map cOut))) := Lib.hid (by have := k3; unfold OwnPr at this; rwa [List.length_map] at this); have HB2 := Lib.hid k4; have HQ2 := Lib.hid k2
        have HQ1 := Lib.hid (HR1.out.other HR2.out (by have := HU2.out; omega) k1)
        obtain ⟨ao2, ac2, rfl⟩ := owns_shape HA2.out
        obtain ⟨bo2, bc2, rfl⟩ := owns_shape k4
        clear k1 k2 k3 k4 d0 d1 d2 d3 d4 HT2 HR1 HR2 HA1 HB1
        have HTX := Lib.hid (texts_any (.slice yo l.length yc) l wb (Sl.ofOwns (HY6.out.ext HXB.out)) (by have := HL16.out; omega))
        go_wp2_with fail
        refine HTX.out.mono ?_
        rintro e wc ⟨tv1, rfl, hxc, ht1⟩
        have HXC := Lib.hid hxc
        have HFL := Lib.hid (fill_ok (r := r) (.slice ao1 l.length ac1) (.slice bo1 (holesL l).length bc1) tv1 l wc HF0.out (by have := Sl.ofOwns (World.ownsRow.ext HA1'.out hxc); unfold PcS; rwa [List.length_map]) (Sl.ofOwns (World.ownsRow.ext HB1'.out hxc)) (Sl.ofOwns ht1))
        obtain ⟨to1, tc1, rfl⟩ := owns_shape ht1
        clear hxc ht1 HTX HA1' HB1'
        go_wp2_with fail
        refine HFL.out.mono ?_
        rintro e wd ⟨y1, rfl, hxd, hy1⟩
        have HXD := Lib.hid (HXC.out.trans hxd); have HY1 := Lib.hid hy1
        obtain ⟨yo1, yc1, rfl⟩ := owns_shape hy1
        have HTX := Lib.hid (texts_any (.slice yo l.length yc) l wd (Sl.ofOwns (HY6.out.ext (HXB.out.trans HXD.out))) (by have := HL16.out; omega))
        clear hxd hy1 HFL HXC
        go_wp2_with fail
        refine HTX.out.mono ?_
        rintro e we ⟨tv2, rfl, hxe, ht2⟩
        have HXE := Lib.hid (HXD.out.trans hxe)
        have HY1' := Lib.hid (World.ownsRow.ext HY1.out hxe)
        have HFL := Lib.hid (fill_ok (r := r) (.slice ao2 l.length ac2) (.slice bo2 (holesL l).length bc2) tv2 l we HF0.out (by have := Sl.ofOwns (World.ownsRow.ext HA2.out HXE.out); unfold PcS; rwa [List.length_map]) (Sl.ofOwns (World.ownsRow.ext HB2.out HXE.out)) (Sl.ofOwns ht2))
        obtain ⟨to2, tc2, rfl⟩ := owns_shape ht2
        clear hxe ht2 HTX HA2 HB2 HXD HY1
        go_wp2_with fail
        refine HFL.out.mono ?_
        rintro e wf ⟨y2, rfl, hxf, hy2⟩
        have HXF := Lib.hid (HXE.out.trans hxf); have HY1F := Lib.hid (World.ownsRow.ext HY1'.out hxf); have HY2 := Lib.hid hy2
        obtain ⟨yo2, yc2, rfl⟩ := owns_shape hy2
        have HYF := Lib.hid (World.ownsRow.ext (World.ownsRow.ext HY6.out HXB.out) HXF.out)
        have HAL := Lib.hid (alikeRow_any (.slice yo1 l.length yc1) (.slice yo l.length yc) l l wf (Sl.ofOwns HY1F.out) (Sl.ofOwns HYF.out))
        rw [decide_eq_true rfl] at HAL
        clear hxf hy2 HFL HXE HY1'
        go_wp2_with fail
        refine HAL.out.mono ?_
        rintro e wg ⟨rfl, hxg⟩
        have HXG := Lib.hid (HXF.out.trans hxg)
        have HAL' := Lib.hid (alikeRow_any (.slice yo2 l.length yc2) (.slice yo l.length yc) l l wg (Sl.ofOwns (World.ownsRow.ext HY2.out hxg)) (Sl.ofOwns (World.ownsRow.ext HYF.out hxg)))
        rw [decide_eq_true rfl] at HAL'
        clear hxg HAL HXF
        go_wp2_with fail
        refine HAL'.out.mono ?_
        rintro e wh ⟨rfl, hxh⟩
        have HXH := Lib.hid (HXG.out.trans hxh)
        clear hxh HXG HAL'
        go_wp2
        go_roundw
        case rel => exact ⟨k + 1, by have := HLT.out; omega, by go_num, HXB.out.trans HXH.out, HQ1.out.ext HXH.out, HQ2.out.ext HXH.out⟩
        case measure => have := HLT.out; simp [intOf]; omega
      · obtain rfl : k = 2 := by omega
        have HEN1 : Hid (Calls Tryz.prog 23 #[RPtr u1] wr fun e w' => e = .returned (.int .i64 0) ∧ wr = w') := Lib.hid (end_any u1 _ wr H1.out)
        have HEN2 : Hid (Calls Tryz.prog 23 #[RPtr u2] wr fun e w' => e = .returned (.int .i64 0) ∧ wr = w') := Lib.hid (end_any u2 _ wr H2.out)
        unfold RPtr at HEN1 HEN2
        go_wp2_with fail
        refine HEN1.out.mono ?_
        rintro e w' ⟨rfl, rfl⟩
        go_wp2_with fail
        refine HEN2.out.mono ?_
        rintro e w' ⟨rfl, rfl⟩
        go_wp2_with fail
        refine (awake10_any wr).mono ?_
        rintro e w' ⟨rfl, hxz⟩
        have HXZ := Lib.hid ((HX6.out.trans HXR.out).trans hxz); clear hxz
        go_wp2
        go_ret
        exact ⟨rfl, HXZ.out⟩
end Go.Proofs.YtegclfpmgilnpaaGreat
