/-
  ChunkSplits: the walk.
-/
import Derived.Test.YtolelgbkohccbaaChkI
import Derived.Test.YtolelgbkohccbaaChkShortW
import Derived.Test.YtolelgbkohccbaaLibH
import Derived.Sort.QuietIn
namespace Go.Proofs.Ytolelgbkohccbaa
open Go.RowKit Go.Lac Go.Shelf
attribute [local go_sem] Oper.semAt_some

/-- How many bytes pieces have. -/
def sumL (l : List (List UInt8)) : Nat := (l.map List.length).sum
theorem sumL_snoc (l : List (List UInt8)) (x : List UInt8) : sumL (l ++ [x]) = sumL l + x.length := by simp [sumL]
/-- What comes next. -/
theorem wl_next {b : List UInt8} {pre : List (Nat × List UInt8)} {x : Nat × List UInt8} (h : pre ++ [x] <+: wl b) : pre.length < cnt b.length ∧ x = (pre.length * 256, piece b pre.length) ∧ sumL (pre.map Prod.snd) = pre.length * 256 := by
  have hl : (pre ++ [x]).length ≤ (wl b).length := h.length_le
  rw [List.length_append, List.length_singleton, wl_length] at hl
  have hlt : pre.length < cnt b.length := by omega
  have hpre : pre = (wl b).take pre.length := by
    have h1 : pre <+: wl b := (List.prefix_append pre [x]).trans h
    exact List.prefix_iff_eq_take.1 h1
  refine ⟨hlt, ?_, ?_⟩
  · have h2 := h.getElem (i := pre.length) (by simp)
    rw [List.getElem_append_right (Nat.le_refl _)] at h2
    simp at h2
    rw [h2, wl_get]
  · have h3 := take_pcs_flat b pre.length (Nat.le_of_lt hlt)
    have h4 : pre.map Prod.snd = (pcs b).take pre.length := by
      conv => lhs; rw [hpre]
      rw [List.map_take, wl_snd]
    have h5 := cnt_lt.1 hlt
    unfold sumL
    rw [h4, ← flat_length, h3, List.length_take]
    omega
theorem min_end {n m k : Nat} (h1 : k ≤ n) (h2 : k = n ∧ (k = 0 ∨ k < m) ∨ (1 ≤ k ∧ m ≤ k ∧ (k = 1 ∨ k ≤ m))) : min (max 1 m) n = k := by omega
set_option maxRecDepth 100000 in
set_option maxHeartbeats 4000000 in
theorem chunkSplits_walk (v : Value) (l : List (List UInt8)) (s : List UInt8) (most : Nat) (w : World) (h : TxS w v l) (hm : most < 256) :
    Calls Try.prog 3 #[v, .string ⟨s.toArray⟩, .int .u8 (most : Nat)] w fun e w' => e = .returned (.bool true) ∧ Ext w w' := by
  refine (callsIn_wide (n := 4)).1 ?_
  obtain ⟨W, hW⟩ : ∃ W, W = (w.alloc (.cells #[.int .u8 (most : Nat)] 5)).alloc (.cells #[.bool false] 4) := ⟨_, rfl⟩
  have hx : Ext w W := by rw [hW]; exact ((Ch.refl _ _).alloc _).alloc _
  have h1 := heap_alloc2_old w (.cells #[.int .u8 (most : Nat)] 5) (.cells #[.bool false] 4)
  have h2 := heap_alloc2_new w (.cells #[.int .u8 (most : Nat)] 5) (.cells #[.bool false] 4)
  rw [← hW] at h1 h2
  have HG5 := Lib.hid h1; have HG6 := Lib.hid h2; have HX := Lib.hid hx; have HW := Lib.hid hW
  have HT := Lib.hid (h.ext hx)
  have HG := Lib.hid (great_any v l (12 : Nat) W HT.out)
  obtain ⟨ao, cap, rfl, _⟩ := h.shape
  obtain ⟨ci, chi, chz, chs, chb⟩ := info_parts infoStr
  have CHI := Lib.hid chi; have CHS := Lib.hid chs
  have r0 : W.cell? ⟨w.heap.size + 1, 0, none⟩ = some (.bool false) := by rw [cell_of_row _ _ _ _ _ _ h2]; rfl
  have f0 := frozen_of_row _ _ 0 _ _ h2
  rw [hW] at r0 f0
  clear h h1 h2 chi chz chs chb hx hW
  refine callsIn_of_wp_marks Try.func3 rfl trivial ?_ rfl
  refine wpIn_wide.2 ?_
  simp only [Try.ntmps3, List.size_toArray, List.length_cons, List.length_nil, Nat.reduceAdd, Nat.reduceSub, Array.replicate_succ, Array.replicate_zero, List.push_toArray, List.append_toArray, List.nil_append, List.cons_append]
  by_cases hg : GreatL l (12 : Nat)
  · rw [decide_eq_true hg] at HG
    clear hg
    go_wp2_with fail
    rw [← HW.out]
    refine HG.out.mono ?_
    rintro e w1 ⟨rfl, rfl⟩
    rw [← HW.out] at r0 f0
    go_wp2
    have hc5 : (W.setCell ⟨w.heap.size + 1, 0, none⟩ (.bool true)).cell? ⟨w.heap.size + 1, 0, none⟩ = some (.bool true) := World.cell?_setCell_same' _ _ _ (by rw [r0]; rfl)
    refine ⟨.bool true, ?_, rfl, HX.out.setCell (p := ⟨w.heap.size + 1, 0, none⟩) (.inr (by simp)) _⟩
    simp [results, Try.f3, go_sem, hc5]
  rw [decide_eq_false hg] at HG
  by_cases hs3 : ((s.length : Nat) : Int) > 3000
  · clear hg
    go_wp2_with fail
    rw [← HW.out]
    refine HG.out.mono ?_
    rintro e w1 ⟨rfl, rfl⟩
    rw [← HW.out] at r0 f0
    go_wp2
    have hc5 : (W.setCell ⟨w.heap.size + 1, 0, none⟩ (.bool true)).cell? ⟨w.heap.size + 1, 0, none⟩ = some (.bool true) := World.cell?_setCell_same' _ _ _ (by rw [r0]; rfl)
    refine ⟨.bool true, ?_, rfl, HX.out.setCell (p := ⟨w.heap.size + 1, 0, none⟩) (.inr (by simp)) _⟩
    simp [results, Try.f3, go_sem, hc5]
  have HB := Lib.hid (not_great hg).2
  have hn12 := (not_great hg).1
  have HS3 : Hid (s.length ≤ 3000) := Lib.hid (by omega)
  have HSP := Lib.hid (split_any _ l W HT.out (by omega) (fun b hb => by have := HB.out b hb; omega))
  have HSR := Lib.hid (fun w2 (hx : Ext W w2) => rSplit_any _ l w2 (HT.out.ext hx) (by omega) (fun b hb => by have := HB.out b hb; omega))
  clear hg
  go_wp2_with fail
  rw [← HW.out]
  refine HG.out.mono ?_
  rintro e w1 ⟨rfl, rfl⟩
  go_wp2_with fail
  refine HSP.out.mono ?_
  rintro e w1 ⟨pv, rfl, hx1, ho1⟩
  have HX1 := Lib.hid hx1; have HT1 : Hid (TxS w1 pv (splitL l)) := Lib.hid (Sl.ofOwns ho1)
  clear hx1 ho1 r0 f0
  go_wp2_with fail
  refine (HSR.out w1 HX1.out).mono ?_
  rintro e w2 ⟨qv, rfl, hx2, ho2⟩
  have HX2 := Lib.hid (HX1.out.trans hx2)
  have HSM := Lib.hid (same_any pv qv _ _ w2 (HT1.out.ext hx2) ho2.tx)
  rw [decide_eq_true rfl] at HSM
  clear hx2 ho2
  go_wp2_with fail
  refine HSM.out.mono ?_
  rintro e w3 ⟨rfl, hx3⟩
  have HX3 := Lib.hid (HX2.out.trans hx3)
  have hone := fun w => oneTx w ⟨s.toArray⟩
  have HR1 := Lib.hid (rSplit_any _ [s] _ (txs_one w3 s) (by simp) (by intro b hb; simp at hb; subst hb; have := HS3.out; omega))
  have HSE : Hid (splitL [s] = pcs s) := Lib.hid (by simp [splitL])
  rw [HSE.out] at HR1
  unfold strV at HR1
  clear hx3 HSM HT1
  go_wp2_with fail
  refine HR1.out.mono ?_
  rintro e w4 ⟨rv, rfl, hx4, ho4⟩
  have HX4 : Hid (Ext W w4) := Lib.hid ((HX3.out.alloc _).trans hx4)
  have HTR : Hid (TxS w4 rv (pcs s)) := Lib.hid ho4.tx
  obtain ⟨ro, rc, rfl⟩ := owns_shape ho4
  rw [pcs_length]
  rw [pcs_length] at HTR
  clear hx4 ho4 HR1 hone
  generalize hpn : cnt s.length = pn at *
  have HPN := Lib.hid hpn; clear hpn
  have HWK := Lib.hid (fun w => walk_any s w)
  unfold strV at HWK
  go_wp2_with fail
  refine (HWK.out _).mono ?_
  rintro e w5 ⟨g, rfl, hx5, hgs, hgr⟩
  have HX5 : Hid (Ext W w5) := Lib.hid ((HX4.out.alloc _).trans hx5)
  have H7 : Hid (w5.heap[w4.heap.size]? = some (.cells #[.slice ro pn rc] 22 (0, 0))) := Lib.hid (heap_ext hx5 (heap_alloc_new w4 _))
  have HTR5 := Lib.hid (HTR.out.ext ((Ch.refl _ _).alloc _ |>.trans hx5))
  have HGR := Lib.hid hgr
  have H5 := Lib.hid (heap_ext HX5.out HG5.out); have H6 := Lib.hid (heap_ext HX5.out HG6.out)
  have HSZ : Hid (w.heap.size + 1 < w5.heap.size ∧ w4.heap.size < w5.heap.size ∧ g < w5.heap.size ∧ w.heap.size < w4.heap.size) := Lib.hid ⟨(Array.getElem?_eq_some_iff.1 H6.out).1, (Array.getElem?_eq_some_iff.1 H7.out).1, (Array.getElem?_eq_some_iff.1 HGR.out).1, by have h1 := (Array.getElem?_eq_some_iff.1 HG6.out).1; have h2 := HX4.out.size; omega⟩
  clear hx5 hgs hgr HTR
  have hnf : ∀ w, (binOp .eql 28 (.func (.func 17) #[] #[.pointer (some ⟨g, 0, none⟩)]) .nilFunc).run Try.prog w = .ok (.bool false) w := fun w => by rfl
  go_wp2_with fail
  clear hnf
  obtain ⟨w6, hw6⟩ : ∃ w6, w6 = (w5.alloc (.cells #[.int .i64 0] 3)).alloc (.cells #[.int .i64 0] 3) := ⟨_, rfl⟩
  rw [← hw6]
  have hx6 : Ext w5 w6 := by rw [hw6]; exact ((Ch.refl _ _).alloc _).alloc _
  have B9 : Boxed w6 w5.heap.size 3 (.int .i64 0) := by rw [hw6]; exact heap_alloc2_old w5 _ _
  have B10 : Boxed w6 (w5.heap.size + 1) 3 (.int .i64 0) := by rw [hw6]; exact heap_alloc2_new w5 _ _
  have HB9 := Lib.hid B9; have HB10 := Lib.hid B10
  have HB5 : Hid (Boxed w6 w.heap.size 5 (.int .u8 (most : Nat))) := Lib.hid (heap_ext hx6 H5.out)
  have HB6 : Hid (Boxed w6 (w.heap.size + 1) 4 (.bool false)) := Lib.hid (heap_ext hx6 H6.out)
  have HB7 : Hid (Boxed w6 w4.heap.size 22 (.slice ro pn rc)) := Lib.hid (heap_ext hx6 H7.out)
  have HTR6 := Lib.hid (HTR5.out.ext hx6)
  have HGR6 := Lib.hid (heap_ext hx6 HGR.out)
  have HX6 := Lib.hid ((HX.out.trans HX5.out).trans hx6)
  have hsz6 : w6.heap.size = w5.heap.size + 2 := by rw [hw6]; simp
  have HSZ6 := Lib.hid hsz6
  clear hw6 hx6 B9 B10 H5 H6 H7 HTR5 HGR HX1 HX2 HX3 HX4 HX5 HWK HG HG5 HG6 HT HSP HSR HB hsz6
  have HN9 : Hid (¬ w.heap.size = w5.heap.size ∧ ¬ w.heap.size + 1 = w5.heap.size ∧ ¬ w4.heap.size = w5.heap.size ∧ ¬ g = w5.heap.size ∧ ¬ w.heap.size = w5.heap.size + 1 ∧ ¬ w.heap.size + 1 = w5.heap.size + 1 ∧ ¬ w4.heap.size = w5.heap.size + 1 ∧ ¬ g = w5.heap.size + 1 ∧ ¬ w.heap.size = w.heap.size + 1 ∧ ¬ w4.heap.size = w.heap.size + 1 ∨ w4.heap.size = w.heap.size + 1) := Lib.hid (by have := HSZ.out; omega)
  have HG6W : Hid (w.heap.size ≤ w.heap.size + 1) := Lib.hid (Nat.le_succ _)
  have HLO : Hid (w.heap.size ≤ w5.heap.size ∧ w.heap.size ≤ w5.heap.size + 1 ∧ w.heap.size ≤ w.heap.size + 1) := Lib.hid (by have := HSZ.out; omega)
  obtain ⟨n9, hn9⟩ : ∃ n9, n9 = w5.heap.size := ⟨_, rfl⟩
  rw [← hn9] at HB9 HB10 HLO HSZ6 HSZ ⊢
  obtain ⟨g10, hg10⟩ : ∃ g10, g10 = n9 + 1 := ⟨_, rfl⟩
  rw [← hg10] at HB10 HLO ⊢
  have hne : ¬ n9 = g10 := by omega
  have hne2 : ¬ g10 = n9 := by omega
  obtain ⟨g6, hg6⟩ : ∃ g6, g6 = w.heap.size + 1 := ⟨_, rfl⟩
  rw [← hg6] at HB6 HLO HSZ HG6W ⊢
  obtain ⟨g5, hg5⟩ : ∃ g5, g5 = w.heap.size := ⟨_, rfl⟩
  rw [← hg5] at HB5 HLO HSZ ⊢
  generalize w4.heap.size = g7 at *
  have HSZ2 : Hid (g5 < n9 ∧ g6 < n9 ∧ g7 < n9 ∧ g < n9 ∧ g10 = n9 + 1 ∧ ¬ g5 = g6 ∧ ¬ g7 = g6) := Lib.hid (by have h1 := HSZ.out; have h2 := HB6.out; have h3 := HB7.out; refine ⟨by omega, by omega, by omega, by omega, hg10, by omega, fun e => ?_⟩; subst e; unfold Boxed at h2 h3; rw [h2] at h3; cases h3)
  obtain ⟨N, hN⟩ : ∃ N : Nat → Prop, N = fun k => k = n9 ∨ k = g10 ∨ w6.heap.size ≤ k := ⟨_, rfl⟩
  have HNd := Lib.hid hN
  have HNb : Hid (∀ k, w6.heap.size ≤ k → N k) := Lib.hid (by rw [hN]; exact fun k h => .inr (.inr h))
  have HNc : Hid (N n9 ∧ N g10) := Lib.hid (by rw [hN]; exact ⟨.inl rfl, .inr (.inl rfl)⟩)
  have HNo : Hid (¬ N g5 ∧ ¬ N g6 ∧ ¬ N g7 ∧ ¬ N g) := Lib.hid (by rw [hN]; have := HSZ2.out; have := HSZ6.out; refine ⟨?_, ?_, ?_, ?_⟩ <;> (rintro (h | h | h) <;> omega))
  have HNw : Hid (∀ k, N k → w.heap.size ≤ k) := Lib.hid (by rw [hN]; have := HLO.out; have := HX6.out.size; rintro k (h | h | h) <;> omega)
  have HNs : Hid (∀ (b o : Nat) (q : List UInt8), w6.cell? ⟨b, o, none⟩ = some (strV q) → ¬ N b) := Lib.hid (by
    rw [hN]
    rintro b o q hc (h | h | h)
    · subst h
      have h1 : w6.heap[b]? = _ := HB9.out
      rw [cell_of_row _ _ _ _ _ _ h1] at hc
      cases o with
      | zero => simp [strV] at hc
      | succ o => simp at hc
    · subst h
      have h1 : w6.heap[b]? = _ := HB10.out
      rw [cell_of_row _ _ _ _ _ _ h1] at hc
      cases o with
      | zero => simp [strV] at hc
      | succ o => simp at hc
    · have := World.block_lt_of_cell? w6 _ hc
      simp only at this
      omega)
  clear hN hn9 hg10 hg6 hg5 HSZ
  refine (wpIn_wide (n := 4)).1 ?_
  refine with_frame fun L hL => ?_
  refine wpIn_rangeFunc_ownH rfl (by decide) (gf := 17) (lb := #[.pointer (some ⟨g, 0, none⟩)]) (by rw [hL]; rfl) trivial (enters_of Try.func17 (by kernel_rfl) rfl)
    (walk_stops (4 - 1) (by decide) g s N w6 (by have := HS3.out; omega) HGR6.out HNo.out.2.2.2 HNb.out) (fun h k => h.trans k) (chK_b HNb.out) (Below.refl _ _) (fun _ => rfl)
    (fun (pre : List (WlT s)) W' => Ch N w6 W' ∧ Boxed W' n9 3 (.int .i64 (pre.length : Nat)) ∧ Boxed W' g10 3 (.int .i64 (sumL ((pre.map Subtype.val).map Prod.snd) : Nat)) ∧ (pre.length = 0 ∨ pre.length < most) ∧ pre.length ≤ pn)
    (fun c (pre : List (WlT s)) W' => (c = .ret ∧ ¬ (pre.map Subtype.val <+: wl s)) ∨ (c = .exit 0 ∧ Ch N w6 W' ∧ Boxed W' n9 3 (.int .i64 (pre.length : Nat)) ∧ 1 ≤ pre.length ∧ pre.length ≤ pn ∧ most ≤ pre.length ∧ (pre.length = 1 ∨ pre.length ≤ most))) ?hI ?hIx ?h0
    (fun y a' _ => a' = ⟨((((L.set 34 (.int .i64 (y.1.1 : Nat))).set 35 (strV y.1.2)).set 11 (.int .i64 (y.1.1 : Nat))).set 12 (strV y.1.2)).toArray, []⟩) ?hAx ?assign ?body ?done ?stop
  case assign =>
    intro l' pre y W' K hI hK
    subst hL
    obtain ⟨⟨i, q⟩, hy⟩ := y
    unfold encWd encW
    gi_wp2
    exact hK _ _ (KeepsFrom.refl _ _) (Ch.refl _ _) hI (by simp only [List.set_cons_succ, List.set_cons_zero])
  case hI =>
    rintro s A B row ⟨h1, h2, h3, h4⟩ hg hrow
    refine ⟨h1.grown hg fun k e => .inr (hrow k e).1, h2.kept hg fun e => ?_, h3.kept hg fun e => ?_, h4⟩
    · obtain ⟨_, o, ho, hc⟩ := hrow _ e.symm
      rw [show A.heap[_]? = _ from h2] at ho; cases ho; cases hc
    · obtain ⟨_, o, ho, hc⟩ := hrow _ e.symm
      rw [show A.heap[_]? = _ from h3] at ho; cases ho; cases hc
  case hIx =>
    rintro c s A B row (h | ⟨h1, h2, h3, h4⟩) hg hrow
    · exact .inl h
    · refine .inr ⟨h1, h2.grown hg fun k e => .inr (hrow k e).1, h3.kept hg fun e => ?_, h4⟩
      obtain ⟨_, o, ho, hc⟩ := hrow _ e.symm
      rw [show A.heap[_]? = _ from h3] at ho; cases ho; cases hc
  case h0 => exact ⟨Ch.refl _ _, HB9.out, HB10.out, .inl rfl, Nat.zero_le _⟩
  case hAx => exact fun x a' s A B row h _ _ => h
  case body =>
    rintro l' pre y a' W' hl' hlr ⟨hch, hb9, hb10, hpm, hpp⟩ rfl hlen
    subst hL
    obtain ⟨⟨i, q⟩, hy⟩ := y
    simp only [List.set_cons_succ, List.set_cons_zero]
    have hmem : ∃ j, j < cnt s.length ∧ (i, q) = (j * 256, piece s j) := by
      obtain ⟨j, hj, e⟩ := List.mem_map.1 hy
      exact ⟨j, by simpa using hj, e.symm⟩
    have hql : q.length ≤ 256 ∧ i ≤ 1000000 := by
      obtain ⟨j, hj, e⟩ := hmem
      cases e
      have := (piece_ne hj).2
      have := cnt_lt.1 hj
      have := HS3.out
      omega
    obtain ⟨P2, hP2⟩ : ∃ p, p = pre ++ [(⟨(i, q), hy⟩ : WlT s)] := ⟨_, rfl⟩
    have hP2m : P2.map Subtype.val = pre.map Subtype.val ++ [(i, q)] := by rw [hP2]; simp
    have HP2L : Hid (P2.length = pre.length + 1) := Lib.hid (by rw [hP2]; simp)
    have HNX : Hid (P2.map Subtype.val <+: wl s → pre.length < pn ∧ (i, q) = (pre.length * 256, piece s pre.length) ∧ sumL ((pre.map Subtype.val).map Prod.snd) = pre.length * 256) := Lib.hid fun h => by
      rw [hP2m] at h
      have := wl_next h
      rw [List.length_map, HPN.out] at this
      exact this
    have HSU : Hid (sumL ((P2.map Subtype.val).map Prod.snd) = sumL ((pre.map Subtype.val).map Prod.snd) + q.length) := Lib.hid (by rw [hP2m, List.map_append]; exact sumL_snoc _ _)
    have HSB : Hid (sumL ((pre.map Subtype.val).map Prod.snd) ≤ pre.length * 256) := Lib.hid (by
      have : ∀ z : List (WlT s), sumL ((z.map Subtype.val).map Prod.snd) ≤ z.length * 256 := by
        intro z
        induction z with
        | nil => simp [sumL]
        | cons c z ih =>
          obtain ⟨⟨c1, c2⟩, hc⟩ := c
          obtain ⟨j, hj, e⟩ := List.mem_map.1 hc
          have h1 : c2.length ≤ 256 := by cases e; exact (piece_ne (by simpa using hj)).2
          simp only [sumL, List.map_cons, List.sum_cons, List.length_cons] at ih ⊢
          omega
      exact this pre)
    rw [← hP2]
    have hpc : pn ≤ 3000 := by rw [← HPN.out]; have := cnt_le s.length; have := HS3.out; omega
    clear hmem hP2 hP2m hlen hy
    generalize sumL ((pre.map Subtype.val).map Prod.snd) = F at *
    generalize hk : pre.length = k at *
    have HK := Lib.hid hk; clear hk
    have c9 := hb9.cell; have f9 := hb9.frozen; have c10 := hb10.cell; have f10 := hb10.frozen
    have b5 : Boxed W' g5 5 (.int .u8 (most : Nat)) := (hch.block _ HB5.out.lt HNo.out.1).trans HB5.out
    have b6 : Boxed W' g6 4 (.bool false) := (hch.block _ HB6.out.lt HNo.out.2.1).trans HB6.out
    have b7 : Boxed W' g7 22 (.slice ro pn rc) := (hch.block _ HB7.out.lt HNo.out.2.2.1).trans HB7.out
    have c5 := b5.cell; have c6 := b6.cell; have f6 := b6.frozen; have c7 := b7.cell
    have hFb := HSB.out
    have HCH := Lib.hid hch; have HH9 := Lib.hid hb9; have HH10 := Lib.hid hb10; have HH5 := Lib.hid b5
    clear b5 b6 b7 hch hb9 hb10 hlr
    by_cases hA : pn ≤ k
    · have dA : decide (pn ≤ k) = true := decide_eq_true hA
      have HQ : Hid (¬ (P2.map Subtype.val <+: wl s)) := Lib.hid fun h => by have := (HNX.out h).1; omega
      unfold strV
      gi_wp2
      exact ⟨(KeepsOthers.setCell _ _ _).from _, .inl ⟨rfl, HQ.out⟩⟩
    have hlt : k < pn := by omega
    have dA : decide (pn ≤ k) = false := decide_eq_false hA
    have hkl : k < (pcs s).length := by rw [pcs_length, HPN.out]; exact hlt
    obtain ⟨b, o, rfl, hc0⟩ := HTR6.out.at hkl
    have hc := HCH.out.cell (p := ⟨b, o + k, none⟩) (HNs.out b (o + k) _ hc0) _ hc0
    have hidx := run_indexSl W' Try.underlying22 CHI.out CHS.out b o pn rc k hlt
    rw [Nat.mul_one] at hidx
    rw [pcs_get] at hc
    clear hc0 hkl hA
    generalize piece s k = r at *
    have HLT := Lib.hid hlt
    unfold strV at hc ⊢
    by_cases hq : q = r
    case neg =>
      have hbe : ((⟨q.toArray⟩ : ByteArray).toList == (⟨r.toArray⟩ : ByteArray).toList) = false := by rw [toList_beq]; exact decide_eq_false hq
      have HQ : Hid (¬ (P2.map Subtype.val <+: wl s)) := Lib.hid fun h => by have := (HNX.out h).2.1; simp only [Prod.mk.injEq] at this; exact hq this.2
      gi_wp2
      exact ⟨(KeepsOthers.setCell _ _ _).from _, .inl ⟨rfl, HQ.out⟩⟩
    subst hq
    have hbe : ((⟨q.toArray⟩ : ByteArray).toList == (⟨q.toArray⟩ : ByteArray).toList) = true := by simp
    have hql1 := hql.1; have hql2 := hql.2
    have hfq : ((F : Nat) : Int) + ((q.length : Nat) : Int) ≤ 1000000000 := by omega
    by_cases hi : i = F
    case neg =>
      have HQ : Hid (¬ (P2.map Subtype.val <+: wl s)) := Lib.hid fun h => by have h1 := (HNX.out h).2; simp only [Prod.mk.injEq] at h1; omega
      have hib : (((i : Nat) : Int) == ((F : Nat) : Int)) = false := by simp; omega
      have hib2 : (((i : Nat) : Int) != ((F : Nat) : Int)) = true := by simp; omega
      clear hi
      gi_wp2
      exact ⟨(KeepsOthers.setCell _ _ _).from _, .inl ⟨rfl, HQ.out⟩⟩
    have hib : (((i : Nat) : Int) == ((F : Nat) : Int)) = true := by simp [hi]
    have hib2 : (((i : Nat) : Int) != ((F : Nat) : Int)) = false := by simp [hi]
    clear hi
    obtain ⟨W2, hW2⟩ : ∃ W2, W2 = W'.setCell ⟨g10, 0, none⟩ (.int .i64 ((F : Nat) + (q.length : Nat))) := ⟨_, rfl⟩
    obtain ⟨W3, hW3⟩ : ∃ W3, W3 = W2.setCell ⟨n9, 0, none⟩ (.int .i64 ((k : Nat) + 1)) := ⟨_, rfl⟩
    have b9 : Boxed W2 n9 3 (.int .i64 (k : Nat)) := by rw [hW2]; exact HH9.out.other hne _
    have b9' : Boxed W3 n9 3 (.int .i64 ((k : Nat) + 1)) := by rw [hW3]; exact b9.set _
    have b10 : Boxed W3 g10 3 (.int .i64 ((F : Nat) + (q.length : Nat))) := by rw [hW3, hW2]; exact (HH10.out.set _).other hne2 _
    have b5 : Boxed W3 g5 5 (.int .u8 (most : Nat)) := by
      have := HSZ2.out
      rw [hW3, hW2]; exact (HH5.out.other (by omega) _).other (by omega) _
    have HC3 : Hid (Ch N W' W3) := Lib.hid (by rw [hW3, hW2]; exact ((Ch.refl N W').setCell (p := ⟨g10, 0, none⟩) (.inl HNc.out.2) _).setCell (p := ⟨n9, 0, none⟩) (.inl HNc.out.1) _)
    have HK3 : Hid (KeepsFrom w6.heap.size W' W3) := Lib.hid (by rw [hW3, hW2]; exact ((KeepsOthers.setCell _ _ _).trans (KeepsOthers.setCell _ _ _)).from _)
    have d9 := b9.cell; have e9 := b9.frozen; have d9' := b9'.cell; have d5 := b5.cell
    have HB9' : Hid (Boxed W3 n9 3 (.int .i64 (P2.length : Nat))) := Lib.hid (by rw [HP2L.out]; exact b9')
    have HB10' : Hid (Boxed W3 g10 3 (.int .i64 (sumL ((P2.map Subtype.val).map Prod.snd) : Nat))) := Lib.hid (by rw [HSU.out]; exact b10)
    have HW3 := Lib.hid hW3
    rw [hW3, hW2] at d9' d5
    rw [hW2] at d9 e9 HW3
    clear hW2 hW3 b9 b9' b10 b5
    by_cases hbk : (most : Int) ≤ (k : Int) + 1
    · gi_wp2
      rw [← HW3.out]
      exact ⟨HK3.out, .inr ⟨rfl, HCH.out.trans HC3.out, HB9'.out, by rw [HP2L.out]; omega, by rw [HP2L.out]; have := HLT.out; omega, by rw [HP2L.out]; omega, by rw [HP2L.out]; omega⟩⟩
    · gi_wp2
      rw [← HW3.out]
      exact ⟨HK3.out, HC3.out, HCH.out.trans HC3.out, HB9'.out, by have := HB10'.out; rwa [List.map_map] at this, .inr (by rw [HP2L.out]; omega), by rw [HP2L.out]; have := HLT.out; omega⟩
  case stop =>
    rintro D c pre W' hD hSp (⟨rfl, hno⟩ | ⟨rfl, hch, hb9, hk1, hkp, hmk, hk2⟩) hK
    · exact absurd hSp hno
    subst hL
    have HKK : Hid (min (max 1 most) pn = pre.length) := Lib.hid (min_end hkp (.inr ⟨hk1, hmk, hk2⟩))
    generalize pre.length = kk at *
    have c9 := hb9.cell
    have b5 : Boxed W' g5 5 (.int .u8 (most : Nat)) := (hch.block _ HB5.out.lt HNo.out.1).trans HB5.out
    have b6 : Boxed W' g6 4 (.bool false) := (hch.block _ HB6.out.lt HNo.out.2.1).trans HB6.out
    have b7 : Boxed W' g7 22 (.slice ro pn rc) := (hch.block _ HB7.out.lt HNo.out.2.2.1).trans HB7.out
    have c5 := b5.cell; have c7 := b7.cell
    have HCW : Hid (Ext w W') := Lib.hid (((Ext.ch HX6.out).trans hch).mono fun k hk h => by have := HNw.out k h; omega)
    have HB6' := Lib.hid b6; have HD := Lib.hid hK; have HDl := Lib.hid hD
    clear hch hb9 hk1 hkp hmk hk2 b5 b6 b7 hK hD hSp
    have f6 := HB6'.out.frozen; have c6 := HB6'.out.cell
    have hbq : (((kk : Nat) : Int) == min (max 1 ((most : Nat) : Int)) ((pn : Nat) : Int)) = true := by have := HKK.out; simp; omega
    gi_wp2
    go_wp2_with (go_at_call 12; refine (awake11_any _).mono ?_)
    rintro e w12 ⟨rfl, hx12⟩
    have b6' : Boxed w12 g6 4 (.bool false) := heap_ext hx12 HB6'.out
    have r1 := b6'.cell; have f1 := b6'.frozen
    have HX12 := Lib.hid hx12; have HD12 := Lib.hid (heap_ext hx12 HD.out)
    clear hx12 c9 c5 c7 c6 f6 hbq
    go_wp2
    have hK' := (KeepsOthers.setCell w12 ⟨g6, 0, none⟩ (.bool true)).same D _ HD12.out rfl
    refine ⟨by simp, .inl ⟨_, _, rfl, run_takeDeferred hK', ?_⟩⟩
    have hc5 := cell_kept (World.cell?_setCell_same' w12 ⟨g6, 0, none⟩ (.bool true) (by rw [r1]; rfl)) (grownBy_putObj' _ D (.deferred none)) (fun r e => by cases e; exact ⟨_, hK', rfl⟩)
    refine ⟨.bool true, ?_, rfl, ?_⟩
    · simp [results, Try.f3, go_sem, hc5]
    · have h1 : Ext w (w12.setCell ⟨g6, 0, none⟩ (.bool true)) := (HCW.out.trans HX12.out).setCell (p := ⟨g6, 0, none⟩) (.inr (by have h1 := HLO.out; have h2 := HG6W.out; simp only; omega)) _
      exact h1.grown (grownBy_putObj' _ D _) fun k e => by cases e; exact .inr (by have h1 := HDl.out; have h2 := HX6.out.size; omega)
  case done =>
    rintro D ys W' hD hys ⟨hch, hb9, hb10, hpm, hpp⟩ hK
    subst hL
    have hyl : ys.length = pn := by rw [← HPN.out, ← wl_length, ← hys, List.length_map]
    have HKK : Hid (min (max 1 most) pn = ys.length) := Lib.hid (min_end hpp (.inl ⟨hyl, hpm⟩))
    generalize ys.length = kk at *
    have c9 := hb9.cell
    have b5 : Boxed W' g5 5 (.int .u8 (most : Nat)) := (hch.block _ HB5.out.lt HNo.out.1).trans HB5.out
    have b6 : Boxed W' g6 4 (.bool false) := (hch.block _ HB6.out.lt HNo.out.2.1).trans HB6.out
    have b7 : Boxed W' g7 22 (.slice ro pn rc) := (hch.block _ HB7.out.lt HNo.out.2.2.1).trans HB7.out
    have c5 := b5.cell; have c7 := b7.cell
    have HCW : Hid (Ext w W') := Lib.hid (((Ext.ch HX6.out).trans hch).mono fun k hk h => by have := HNw.out k h; omega)
    have HB6' := Lib.hid b6; have HD := Lib.hid hK; have HDl := Lib.hid hD
    clear hch hb9 hb10 hpm hpp hys hyl b5 b6 b7 hK hD
    have f6 := HB6'.out.frozen; have c6 := HB6'.out.cell
    have hbq : (((kk : Nat) : Int) == min (max 1 ((most : Nat) : Int)) ((pn : Nat) : Int)) = true := by have := HKK.out; simp; omega
    go_wp2_with (go_at_call 12; refine (awake11_any _).mono ?_)
    rintro e w12 ⟨rfl, hx12⟩
    have b6' : Boxed w12 g6 4 (.bool false) := heap_ext hx12 HB6'.out
    have r1 := b6'.cell; have f1 := b6'.frozen
    have HX12 := Lib.hid hx12; have HD12 := Lib.hid (heap_ext hx12 HD.out)
    clear hx12 c9 c5 c7 c6 f6 hbq
    go_wp2
    have hK' := (KeepsOthers.setCell w12 ⟨g6, 0, none⟩ (.bool true)).same D _ HD12.out rfl
    refine ⟨by simp, .inl ⟨_, _, rfl, run_takeDeferred hK', ?_⟩⟩
    have hc5 := cell_kept (World.cell?_setCell_same' w12 ⟨g6, 0, none⟩ (.bool true) (by rw [r1]; rfl)) (grownBy_putObj' _ D (.deferred none)) (fun r e => by cases e; exact ⟨_, hK', rfl⟩)
    refine ⟨.bool true, ?_, rfl, ?_⟩
    · simp [results, Try.f3, go_sem, hc5]
    · have h1 : Ext w (w12.setCell ⟨g6, 0, none⟩ (.bool true)) := (HCW.out.trans HX12.out).setCell (p := ⟨g6, 0, none⟩) (.inr (by have h1 := HLO.out; have h2 := HG6W.out; simp only; omega)) _
      exact h1.grown (grownBy_putObj' _ D _) fun k e => by cases e; exact .inr (by have h1 := HDl.out; have h2 := HX6.out.size; omega)
end Go.Proofs.Ytolelgbkohccbaa
