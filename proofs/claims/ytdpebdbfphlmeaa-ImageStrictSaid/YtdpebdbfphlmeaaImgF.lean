/-
  Images: what is wrong with a row's key (the program's keyed).
-/
import Derived.Test.YtdpebdbfphlmeaaImgD
import Derived.Test.YtdpebdbfphlmeaaRelX
namespace Go.Proofs.Ytdpebdbfphlmeaa
open Go.RowKit Go.Lac Go.Shelf
attribute [local go_sem] Oper.semAt_some

theorem with_frameL {F : Fence} {n : Nat} {P : Program} {c : Code} {Q : Exit → Act → World → Prop} {L : List Value} {ds : List Deferred} {w : World} (h : ∀ L' : List Value, L' = L → Code.wpIn F n P c Q ⟨L'.toArray, ds⟩ w) : Code.wpIn F n P c Q ⟨L.toArray, ds⟩ w := h L rfl
theorem kd_before {l : List Col} {p : List (Nat × Col)} {x : Nat × Col} (h : p ++ [x] <+: kd 0 l) {j : Nat} {c : Col} (hj : j < x.1) (hc : l[j]? = some c) (hk : c.key = true) : (j, c) ∈ p := by
  have hm := kd_has l 0 j hc hk
  rw [Nat.zero_add] at hm
  have hp := kd_pairwise l 0
  obtain ⟨t, ht⟩ := h
  rw [← ht] at hm hp
  rw [List.append_assoc, List.mem_append] at hm
  rcases hm with hm | hm
  · exact hm
  · rw [List.append_assoc, List.pairwise_append] at hp
    have h2 := hp.2.1
    rw [List.cons_append, List.nil_append] at hm h2
    rcases List.mem_cons.1 hm with e | hm
    · subst e; simp at hj
    · have := (List.pairwise_cons.1 h2).1 _ hm
      simp only at this; omega
theorem keyC_off {c : Cel} {q : Col} (h : q.key = false) : keyC c q = 0 := by unfold keyC; rw [h]; rfl
theorem keyC_on {c : Cel} {q : Col} (h : q.key = true) : keyC c q = if c.k = 0 then 12 else if c.k = 1 then 13 else 0 := by unfold keyC; rw [if_pos h]
theorem two_none {f : Cel → Col → Nat} {w : List Cel} {cs : List Col} {j : Nat} (h : cs.length ≤ j) : two f w cs j = 0 := by
  unfold two; rw [List.getElem?_eq_none h]; split <;> simp_all
theorem key_stop {l : List Cel} {cs : List Col} {p : List (Nat × Col)} {x : Nat × Col} (hl : l.length = cs.length) (h : p ++ [x] <+: kd 0 cs) (hp : ∀ y ∈ p, two keyC l cs y.1 = 0) (hx : two keyC l cs x.1 ≠ 0) : firstN (two keyC l cs) l.length = two keyC l cs x.1 := by
  have hm : x ∈ kd 0 cs := h.subset (by simp)
  have hpos := mem_kd_pos cs 0 hm
  refine firstN_at (fun j hj => ?_) hx (by omega)
  have hjl : j < cs.length := by omega
  cases hk : cs[j].key with
  | true => exact hp _ (kd_before h hj (List.getElem?_eq_getElem hjl) hk)
  | false => rw [two_at keyC (by omega) hjl]; exact keyC_off hk
theorem key_done {l : List Cel} {cs : List Col} (hl : l.length = cs.length) (hp : ∀ y ∈ kd 0 cs, two keyC l cs y.1 = 0) : firstN (two keyC l cs) l.length = 0 := by
  refine firstN_zero fun j hj => ?_
  have hjl : j < cs.length := by omega
  cases hk : cs[j].key with
  | true => have := kd_has cs 0 j (List.getElem?_eq_getElem hjl) hk; rw [Nat.zero_add] at this; exact hp _ this
  | false => rw [two_at keyC hj hjl]; exact keyC_off hk
theorem keyed_err {r : Rl} {l : List Cel} (h : fitsE r l ≠ 0) : keyedE r l = fitsE r l := by unfold keyedE; rw [if_pos h]
theorem keyed_first {r : Rl} {l : List Cel} (h : fitsE r l = 0) : keyedE r l = firstN (two keyC l r.cols) l.length := by unfold keyedE; rw [if_neg (fun hn => hn h)]
theorem fieldP0 (w : World) (b o : Nat) : (Instr.fieldAt 59 (.pointer (some ⟨b, o, none⟩)) 0).run Try.prog w = .ok (.pointer (some ⟨b, o, none⟩)) w := by kernel_rfl
set_option maxRecDepth 100000 in
set_option maxHeartbeats 4000000 in
theorem keyed_any (r : Rl) (cv vw : Value) (l : List Cel) (w : World) (hb : ColS w cv r.cols) (hf : r.fits) (hl : r.cols.length ≤ 1000000) (hv : PcS w vw l) :
    Calls Try.prog 29 #[.agg (relv r cv), vw] w fun e w' => e = .returned (.int .i64 (keyedE r l : Nat)) ∧ Ext w w' := by
  obtain ⟨W0, hW0⟩ : ∃ W0, W0 = ((w.alloc (.cells (relv r cv) 33)).alloc (.cells #[vw] 36)).alloc (.cells #[.int .i64 0] 42) := ⟨_, rfl⟩
  have hx0 : Ext w W0 := by rw [hW0]; exact (((Ch.refl _ _).alloc _).alloc _).alloc _
  have HROW : Hid (W0.heap[w.heap.size + 1]? = some (.cells #[vw] 36 (0, 0))) := Lib.hid (by rw [hW0]; exact (heap_alloc_old _ _ (by simp)).trans (by have := heap_alloc_new (w.alloc (.cells (relv r cv) 33)) (.cells #[vw] 36); simpa using this))
  have HBOX : Hid (W0.heap[w.heap.size]? = some (.cells (relv r cv) 33 (0, 0))) := Lib.hid (by rw [hW0]; exact (heap_alloc_old _ _ (by simp; omega)).trans ((heap_alloc_old _ _ (by simp)).trans (heap_alloc_new _ _)))
  have HRES : Hid (W0.heap[w.heap.size + 2]? = some (.cells #[.int .i64 0] 42 (0, 0))) := Lib.hid (by rw [hW0]; have := heap_alloc_new ((w.alloc (.cells (relv r cv) 33)).alloc (.cells #[vw] 36)) (.cells #[.int .i64 0] 42); simpa using this)
  have HFT := Lib.hid (fits_any r cv vw l W0 (ColS.ext hb hx0) hf (PcS.ext hv hx0))
  have HKY := Lib.hid (fun W (h : Ext w W) => keys_any r cv W (ColS.ext hb h) hl)
  have HB := Lib.hid hb; have HV := Lib.hid hv
  have HK1 := Lib.hid (@keyed_err r l); have HK2 := Lib.hid (@keyed_first r l); have HFL := Lib.hid (@fits_len r l)
  have HX0 := Lib.hid hx0; have HW0 := Lib.hid hW0
  obtain ⟨ao, cap, rfl, _⟩ := id hb
  obtain ⟨vo, vcap, rfl, k1, k2⟩ := hv.shape
  clear hW0 hx0 hb hv
  generalize keyedE r l = E at *
  by_cases hE : fitsE r l = 0
  case neg =>
    have HEE := Lib.hid (HK1.out hE)
    have hne : (((fitsE r l : Nat) : Int) == 0) = false := beq_eq_false_iff_ne.2 (by omega)
    have hne2 : (((fitsE r l : Nat) : Int) != 0) = true := by rw [bne, hne]; rfl
    clear HK1 HK2 HFL HKY HB HV hE hl hf k1 k2
    generalize fitsE r l = E0 at *
    generalize r.cols.length = nq at *
    generalize l.length = nv at *
    unfold relv strV at *
    generalize (⟨r.name.toArray⟩ : ByteArray) = A1 at *
    generalize r.oid = o1 at *
    generalize r.ver = o2 at *
    generalize r.ident = o3 at *
    go_enter Try.func29, Try.ntmps29
    go_wp2_with fail
    rw [← HW0.out]
    refine HFT.out.mono ?_
    rintro e w2 ⟨rfl, hx2⟩
    have c2 : w2.cell? ⟨w.heap.size + 2, 0, none⟩ = some (.int .i64 0) := by rw [cell_of_row _ _ _ _ _ _ (heap_ext hx2 HRES.out)]; rfl
    have hfz := frozen_of_row w2 (w.heap.size + 2) 0 _ _ (heap_ext hx2 HRES.out)
    have HX2 := Lib.hid hx2; clear hx2
    go_wp2
    refine bodyPost_ret (v := .int .i64 (E0 : Nat)) ?_ rfl ?_
    · have hc5 := World.cell?_setCell_same' w2 ⟨w.heap.size + 2, 0, none⟩ (.int .i64 (E0 : Nat)) (by rw [c2]; rfl)
      simp [results, Try.f29, go_sem, hc5]
    · exact ⟨by rw [HEE.out], Ch.setCell (p := ⟨w.heap.size + 2, 0, none⟩) (HX0.out.trans HX2.out) (.inr (by simp)) _⟩
  have HFT0 : Hid (Calls Try.prog 42 #[.slice vo l.length vcap, .agg (relv r (.slice ao r.cols.length cap))] W0 fun e w' => e = .returned (.int .i64 0) ∧ Ext W0 w') := Lib.hid (HFT.out.mono fun e w' h => ⟨by rw [h.1, hE]; rfl, h.2⟩)
  have HEE := Lib.hid (HK2.out hE); have HLN := Lib.hid (HFL.out hE)
  obtain ⟨ci, chi, _, chs, _⟩ := info_parts infoPrZ
  have CHV := Lib.hid chi; have CSV := Lib.hid chs
  clear HFT HK1 HK2 HFL hE chi chs
  refine (callsIn_wide (n := 3)).1 ?_
  refine callsIn_of_wp_marks Try.func29 rfl trivial ?_ rfl
  simp only [Try.ntmps29, List.size_toArray, List.length_cons, List.length_nil, Nat.reduceAdd, Nat.reduceSub, Array.replicate_succ, Array.replicate_zero, List.push_toArray, List.append_toArray, List.nil_append, List.cons_append]
  have hvl : l.length ≤ 9223372036854775807 := by unfold maxLen at k2; omega
  clear k1 k2
  generalize hqs : r.cols = qs at *
  unfold relv strV at *
  rw [hqs] at *
  generalize (⟨r.name.toArray⟩ : ByteArray) = A1 at *
  generalize r.oid = o1 at *
  generalize r.ver = o2 at *
  generalize r.ident = o3 at *
  gi_wp2_with fail
  refine ⟨trivial, ?_⟩
  rw [← HW0.out]
  refine (callsIn_wide.2 HFT0.out).mono ?_
  rintro e w1 ⟨rfl, hx1⟩
  have HX1 := Lib.hid (HX0.out.trans hx1)
  have HROW1 := Lib.hid (heap_ext hx1 HROW.out); have HRES1 := Lib.hid (heap_ext hx1 HRES.out)
  have d0 : w1.cell? ⟨w.heap.size, 0, none⟩ = some (.int .u32 (o1 : Nat)) := by rw [cell_of_row _ _ _ _ _ _ (heap_ext hx1 HBOX.out)]; rfl
  have d1 : w1.cell? ⟨w.heap.size, 1, none⟩ = some (.int .u32 (o2 : Nat)) := by rw [cell_of_row _ _ _ _ _ _ (heap_ext hx1 HBOX.out)]; rfl
  have d2 : w1.cell? ⟨w.heap.size, 2, none⟩ = some (.string A1) := by rw [cell_of_row _ _ _ _ _ _ (heap_ext hx1 HBOX.out)]; rfl
  have d3 : w1.cell? ⟨w.heap.size, 3, none⟩ = some (.int .u8 (o3 : Nat)) := by rw [cell_of_row _ _ _ _ _ _ (heap_ext hx1 HBOX.out)]; rfl
  have d4 : w1.cell? ⟨w.heap.size, 4, none⟩ = some (.slice ao qs.length cap) := by rw [cell_of_row _ _ _ _ _ _ (heap_ext hx1 HBOX.out)]; rfl
  clear hx1 HFT0 HROW HRES HBOX
  gi_wp2_with fail
  refine ⟨trivial, ?_⟩
  refine (callsIn_wide.2 (HKY.out w1 HX1.out)).mono ?_
  rintro e w2 ⟨g, v, rfl, hx2, hg, hr, hc⟩
  have HX2 := Lib.hid (HX1.out.trans hx2)
  have hres := heap_ext hx2 HRES1.out
  have hrow := heap_ext hx2 HROW1.out
  have hB1 : Below w.heap.size w w2 := Ext.below HX2.out
  have hsz : w.heap.size + 3 ≤ w2.heap.size := by have := (Array.getElem?_eq_some_iff.1 hres).1; omega
  have hgz : w1.heap.size ≤ g := hg
  have hsz1 : w.heap.size + 3 ≤ w1.heap.size := by have := (Array.getElem?_eq_some_iff.1 HRES1.out).1; omega
  have hcr : w2.cell? ⟨w.heap.size + 1, 0, none⟩ = some (.slice vo l.length vcap) := by rw [cell_of_row _ _ _ _ _ _ hrow]; rfl
  have hcs : w2.cell? ⟨w.heap.size + 2, 0, none⟩ = some (.int .i64 0) := by rw [cell_of_row _ _ _ _ _ _ hres]; rfl
  have hfz := frozen_of_row w2 (w.heap.size + 2) 0 _ _ hres
  clear HKY HROW1 HRES1 hrow hres
  gi_wp2_with fail
  refine with_frameL fun L hL => ?_
  refine wpIn_rangeFunc_ownF rfl (by decide) (gf := 41) (lb := #[.pointer (some ⟨g, 0, none⟩)]) (by rw [hL]; rfl) trivial (enters_of Try.func41 (by kernel_rfl) rfl)
    (keys_stops_mem Fence.wide (3 - 1) trivial rfl (by decide) g v qs (fun k => w2.heap.size ≤ k) w2 hr (fun W' h => ColS.ext hc (h.mono fun k hk h => absurd h (by omega))) (fun k hk => hk)) (fun h k => h.trans k) (chK_b (fun k hk => hk)) (Below.refl _ _) (fun _ => rfl)
    (fun (pre : List (KdT qs)) W => ((∀ y ∈ pre, two keyC l qs y.1.1 = 0) ∧ W.cell? ⟨w.heap.size + 2, 0, none⟩ = some (.int .i64 0) ∧ W.frozen? ⟨w.heap.size + 2, 0, none⟩ = false ∧ W.cell? ⟨w.heap.size + 1, 0, none⟩ = some (.slice vo l.length vcap)) ∧ Below w.heap.size w W)
    (fun c pre W => (c = .ret ∧ (∃ p x, pre = p ++ [x] ∧ (∀ y ∈ p, two keyC l qs y.1.1 = 0) ∧ two keyC l qs x.1.1 ≠ 0 ∧ W.cell? ⟨w.heap.size + 2, 0, none⟩ = some (.int .i64 (two keyC l qs x.1.1 : Nat)))) ∧ Below w.heap.size w W)
    (OwnFrom.and (Own.from (fun s A B row hs hg hr => ⟨hs.1, cell_kept hs.2.1 hg hr, (frozen_kept hs.2.1 hg hr).trans hs.2.2.1, cell_kept hs.2.2.2 hg hr⟩) _) (ownFrom_below (Nat.le_refl _) (by omega)))
    (fun c => OwnFrom.and (Own.from (fun s A B row hs hg hr => by obtain ⟨h1, p, x, h2, h3, h4, h5⟩ := hs; exact ⟨h1, p, x, h2, h3, h4, cell_kept h5 hg hr⟩) _) (ownFrom_below (Nat.le_refl _) (by omega)))
    ⟨⟨by simp, hcs, hfz, hcr⟩, hB1⟩
    (fun x => ⟨(((L.set 15 (.int .i64 (x.1.1 : Nat))).set 16 (pcol x.1.2)).set 6 (.int .i64 (x.1.1 : Nat))).toArray, []⟩) ?assign ?body ?done ?stop
  case assign =>
    intro l' x W K hK
    subst hL
    unfold encKd encK
    gi_wp2
    simpa using hK
  case body =>
    rintro l' pre x W ⟨⟨hp, hc1, hf1, hc2⟩, hB⟩ _
    subst hL
    obtain ⟨⟨j, q⟩, hx⟩ := x
    obtain ⟨-, hj, hq, hkey⟩ := mem_kd_pos qs 0 hx
    simp only [Nat.zero_add, Nat.sub_zero] at hj hq hkey
    have hjl : j < l.length := by have := HLN.out; omega
    have hjq : qs[j] = q := by rw [List.getElem?_eq_getElem hj] at hq; exact Option.some.inj hq
    have HT : Hid (two keyC l qs j = if l[j].k = 0 then 12 else if l[j].k = 1 then 13 else 0) := Lib.hid (by rw [two_at keyC hjl hj, hjq, keyC_on hkey])
    obtain ⟨vb, vo2, rfl, hra0⟩ := HV.out.at hjl
    have hra := rangeAt_ext hra0 (Ext.ofBelow hB)
    have hidx := run_indexSl W Try.underlying36 CHV.out CSV.out vb vo2 l.length vcap j hjl
    generalize l[j] = c at *
    have q0 : W.cell? ⟨vb, vo2 + j * 5, none⟩ = some (.int .u8 (c.k : Nat)) := by have := hra 0 _ rfl; simpa using this
    have HP := Lib.hid hp; have HBB := Lib.hid hB; have HC1 := Lib.hid hc1
    simp only [List.set_cons_succ, List.set_cons_zero]
    clear hp hra0 hra hB hq hjq hkey
    by_cases h0 : c.k = 0
    · have HT0 : Hid (two keyC l qs j = 12) := Lib.hid (by rw [HT.out, if_pos h0])
      rw [h0, Int.natCast_zero] at q0
      gi_wp2
      exact ⟨KeepsOthers.setCell _ _ _, ⟨rfl, pre, _, rfl, HP.out, by rw [HT0.out]; decide, by rw [HT0.out]; exact World.cell?_setCell_same' _ _ _ (by rw [HC1.out]; rfl)⟩, HBB.out.setCell (p := ⟨w.heap.size + 2, 0, none⟩) (by simp) _⟩
    by_cases h1 : c.k = 1
    · have HT0 : Hid (two keyC l qs j = 13) := Lib.hid (by rw [HT.out, if_neg h0, if_pos h1])
      rw [h1] at q0
      clear h0
      gi_wp2
      exact ⟨KeepsOthers.setCell _ _ _, ⟨rfl, pre, _, rfl, HP.out, by rw [HT0.out]; decide, by rw [HT0.out]; exact World.cell?_setCell_same' _ _ _ (by rw [HC1.out]; rfl)⟩, HBB.out.setCell (p := ⟨w.heap.size + 2, 0, none⟩) (by simp) _⟩
    · have HT0 : Hid (two keyC l qs j = 0) := Lib.hid (by rw [HT.out, if_neg h0, if_neg h1])
      have e0 : (((c.k : Nat) : Int) == 0) = false := beq_eq_false_iff_ne.2 (by omega)
      have e1 : (((c.k : Nat) : Int) == 1) = false := beq_eq_false_iff_ne.2 (by omega)
      clear h0 h1
      gi_wp2
      refine ⟨KeepsOthers.refl _, Ch.refl _ _, ⟨fun y hy => ?_, HC1.out, hf1, hc2⟩, HBB.out⟩
      rcases List.mem_append.1 hy with hy | hy
      · exact HP.out y hy
      · simp only [List.mem_cons, List.not_mem_nil, or_false] at hy; subst hy; exact HT0.out
  case done =>
    rintro D ys W hD hys ⟨⟨hp, hc1, hf1, hc2⟩, hB⟩ hK
    subst hL
    have HF : Hid (E = 0) := Lib.hid (by
      rw [HEE.out]
      refine key_done HLN.out fun y hy => ?_
      rw [← hys] at hy
      obtain ⟨z, hz, e⟩ := List.mem_map.1 hy
      rw [← e]; exact hp z hz)
    gi_wp2
    have hK' := (KeepsOthers.setCell W ⟨w.heap.size + 2, 0, none⟩ (.int .i64 0)).same D _ hK rfl
    refine ⟨by simp, .inl ⟨_, _, rfl, run_takeDeferred hK', ?_⟩⟩
    have hc5 := cell_kept (World.cell?_setCell_same' W ⟨w.heap.size + 2, 0, none⟩ (.int .i64 0) (by rw [hc1]; rfl)) (grownBy_putObj' _ D (.deferred none)) (fun r e => by cases e; exact ⟨_, hK', rfl⟩)
    refine ⟨.int .i64 0, ?_, by rw [HF.out]; rfl, ?_⟩
    · simp [results, Try.f29, go_sem, hc5]
    · exact Ext.ofBelow ((hB.setCell (p := ⟨w.heap.size + 2, 0, none⟩) (by simp) _).trans (belowK_b (w := w) (Nat.le_refl _) _ D _ _ (by omega) hK' rfl rfl))
  case stop =>
    rintro D c pre W hD hSp ⟨⟨rfl, p, x, rfl, hp, hne, hc⟩, hB⟩ hK
    subst hL
    have HF : Hid (E = two keyC l qs x.1.1) := Lib.hid (by
      rw [HEE.out]
      refine key_stop HLN.out (p := p.map Subtype.val) (x := x.1) (by simpa using hSp) (fun y hy => ?_) hne
      obtain ⟨z, hz, e⟩ := List.mem_map.1 hy
      rw [← e]; exact hp z hz)
    gi_wp2
    refine ⟨by simp, .inl ⟨_, _, rfl, run_takeDeferred hK, ?_⟩⟩
    have hc5 := cell_kept hc (grownBy_putObj' _ D (.deferred none)) (fun r e => by cases e; exact ⟨_, hK, rfl⟩)
    refine ⟨.int .i64 (two keyC l qs x.1.1 : Nat), ?_, by rw [HF.out], ?_⟩
    · simp [results, Try.f29, go_sem, hc5]
    · exact Ext.ofBelow (hB.trans (belowK_b (w := w) (Nat.le_refl _) _ D _ _ (by omega) hK rfl rfl))
end Go.Proofs.Ytdpebdbfphlmeaa
