/-
  ImageKeys: the walk. MADE BY mkImgKeys.py
-/
import Derived.Test.YtdpebdbfphlmeaaImgO
import Derived.Test.YtdpebdbfphlmeaaImgE
namespace Go.Proofs.Ytdpebdbfphlmeaa
open Go.RowKit Go.Lac

theorem cErr_zr {c : Cel} {k : Nat} (h : cErr c k = 0) : cErr Cel.zero k = 0 := by
  unfold cErr at h ⊢
  by_cases hk : k < 1 ∨ 6 < k
  · rw [if_pos hk] at h; cases h
  · rw [if_neg hk, if_neg (by decide), if_pos (by decide), if_neg (by decide), if_neg (by rintro ⟨h, _⟩; cases h)]
theorem cErr_null {c : Cel} {k : Nat} (h : cErr c k = 0) (h0 : c.k = 0) : c = Cel.zero := by
  unfold cErr at h
  by_cases hk : k < 1 ∨ 6 < k
  · rw [if_pos hk] at h; cases h
  · rw [if_neg hk, if_neg (by omega), if_pos (by omega)] at h
    by_cases hv : c.v = .zero
    · obtain ⟨ck, cv⟩ := c
      simp only at h0 hv
      subst h0; subst hv; rfl
    · rw [if_pos hv] at h; cases h
theorem fits_iff {r : Rl} {l : List Cel} : fitsE r l = 0 ↔ rlErr r = 0 ∧ l.length = r.cols.length ∧ ∀ j (h : j < l.length) (h' : j < r.cols.length), cErr l[j] r.cols[j].ty = 0 := by
  constructor
  · intro h
    have h1 : rlErr r = 0 := by
      by_cases h1 : rlErr r = 0
      · exact h1
      · rw [fits_err h1] at h; exact h
    have h2 : l.length = r.cols.length := fits_len h
    rw [fits_first h1 h2, firstN_eq] at h
    exact ⟨h1, h2, fun j hj hj' => by have := h j hj; rwa [two_at fitC hj hj'] at this⟩
  · rintro ⟨h1, h2, h3⟩
    rw [fits_first h1 h2, firstN_eq]
    intro j hj
    rw [two_at fitC hj (by omega)]
    exact h3 j hj (by omega)
theorem keyed_iff {r : Rl} {l : List Cel} : keyedE r l = 0 ↔ fitsE r l = 0 ∧ ∀ j (h : j < l.length) (h' : j < r.cols.length), r.cols[j].key = true → l[j].k ≠ 0 ∧ l[j].k ≠ 1 := by
  constructor
  · intro h
    have h1 := keyed_fits h
    have h2 := fits_len h1
    rw [keyed_first h1, firstN_eq] at h
    refine ⟨h1, fun j hj hj' hk => ?_⟩
    have := h j hj
    rw [two_at keyC hj hj', keyC_on hk] at this
    by_cases h0 : l[j].k = 0
    · rw [if_pos h0] at this; cases this
    · rw [if_neg h0] at this
      by_cases h1 : l[j].k = 1
      · rw [if_pos h1] at this; cases this
      · exact ⟨h0, h1⟩
  · rintro ⟨h1, h3⟩
    have h2 := fits_len h1
    rw [keyed_first h1, firstN_eq]
    intro j hj
    have hj' : j < r.cols.length := by omega
    rw [two_at keyC hj hj']
    cases hk : r.cols[j].key with
    | false => exact keyC_off hk
    | true => obtain ⟨h4, h5⟩ := h3 j hj hj' hk; exact keyC_n hk h4 h5
theorem isFull_iff {r : Rl} {l : List Cel} : isFullE r l = 0 ↔ keyedE r l = 0 ∧ ∀ j (h : j < l.length), l[j].k ≠ 1 := by
  constructor
  · intro h
    have h1 : keyedE r l = 0 := by
      by_cases h1 : keyedE r l = 0
      · exact h1
      · rw [isFull_err h1] at h; exact h
    have h2 := keyed_len h1
    rw [isFull_first h1, firstN_eq] at h
    refine ⟨h1, fun j hj he => ?_⟩
    have := h j hj
    rw [two_at isFullC hj (by omega), isFullC_1 he] at this
    cases this
  · rintro ⟨h1, h3⟩
    have h2 := keyed_len h1
    rw [isFull_first h1, firstN_eq]
    intro j hj
    rw [two_at isFullC hj (by omega)]
    exact isFullC_n (h3 j hj)
theorem isKey_iff {r : Rl} {l : List Cel} : isKeyE r l = 0 ↔ keyedE r l = 0 ∧ ∀ j (h : j < l.length) (h' : j < r.cols.length), r.cols[j].key = false → l[j].k = 0 := by
  constructor
  · intro h
    have h1 : keyedE r l = 0 := by
      by_cases h1 : keyedE r l = 0
      · exact h1
      · rw [isKey_err h1] at h; exact h
    rw [isKey_first h1, firstN_eq] at h
    refine ⟨h1, fun j hj hj' hk => ?_⟩
    have := h j hj
    rw [two_at isKeyC hj hj'] at this
    by_cases h0 : l[j].k = 0
    · exact h0
    · rw [isKeyC_n hk h0] at this; cases this
  · rintro ⟨h1, h3⟩
    have h2 := keyed_len h1
    rw [isKey_first h1, firstN_eq]
    intro j hj
    have hj' : j < r.cols.length := by omega
    rw [two_at isKeyC hj hj']
    cases hk : r.cols[j].key with
    | true => exact isKeyC_k hk
    | false => exact isKeyC_0 (h3 j hj hj' hk)
theorem keyOf_at {cs : List Col} {l : List Cel} {j : Nat} (h : j < (keyOf cs l).length) : (keyOf cs l)[j] = kc cs l j := by simp [keyOf]
theorem kc_t {cs : List Col} {l : List Cel} {j : Nat} (h : j < l.length) (h' : j < cs.length) (hk : cs[j].key = true) : kc cs l j = l[j] := by
  unfold kc isKeyAt; rw [List.getElem?_eq_getElem h', if_pos hk, getD_at h]
theorem kc_f {cs : List Col} {l : List Cel} {j : Nat} (h' : j < cs.length) (hk : cs[j].key = false) : kc cs l j = Cel.zero := by
  unfold kc isKeyAt; rw [List.getElem?_eq_getElem h', if_neg (by simp [hk])]
theorem keyOf_keyOf (cs : List Col) (l : List Cel) : keyOf cs (keyOf cs l) = keyOf cs l := by
  apply List.ext_getElem
  · simp [keyOf]
  · intro j h1 h2
    rw [keyOf_at, keyOf_at]
    have hj : j < (keyOf cs l).length := h2
    unfold kc
    split
    · rename_i h
      rw [getD_at hj, keyOf_at]
      unfold kc
      rw [if_pos h]
    · rfl
theorem keyImage {r : Rl} {l : List Cel} (h : isFullE r l = 0) : isKeyE r (keyOf r.cols l) = 0 := by
  obtain ⟨h1, h2⟩ := isFull_iff.1 h
  obtain ⟨h3, h4⟩ := keyed_iff.1 h1
  obtain ⟨h5, h6, h7⟩ := fits_iff.1 h3
  have hlen := keyOf_length r.cols l
  have hf : fitsE r (keyOf r.cols l) = 0 := fits_iff.2 ⟨h5, by omega, fun j hj hj' => by
    rw [keyOf_at]
    cases hk : r.cols[j].key with
    | true => rw [kc_t (by omega) hj' hk]; exact h7 j (by omega) hj'
    | false => rw [kc_f hj' hk]; exact cErr_zr (h7 j (by omega) hj')⟩
  refine isKey_iff.2 ⟨keyed_iff.2 ⟨hf, fun j hj hj' hk => ?_⟩, fun j hj hj' hk => ?_⟩
  · rw [keyOf_at, kc_t (by omega) hj' hk]; exact h4 j (by omega) hj' hk
  · rw [keyOf_at, kc_f hj' hk]; rfl
theorem key_same {r : Rl} {l : List Cel} (h : isFullE r l = 0) : isKeyE r l = 0 ↔ l = keyOf r.cols l := by
  obtain ⟨h1, h2⟩ := isFull_iff.1 h
  obtain ⟨h3, h4⟩ := keyed_iff.1 h1
  obtain ⟨h5, h6, h7⟩ := fits_iff.1 h3
  constructor
  · intro hk
    obtain ⟨_, h8⟩ := isKey_iff.1 hk
    apply List.ext_getElem
    · simp [keyOf]
    · intro j hj hj2
      rw [keyOf_at]
      have hj' : j < r.cols.length := by omega
      cases hk : r.cols[j].key with
      | true => rw [kc_t hj hj' hk]
      | false => rw [kc_f hj' hk]; exact cErr_null (h7 j hj hj') (h8 j hj hj' hk)
  · intro e
    refine isKey_iff.2 ⟨h1, fun j hj hj' hk => ?_⟩
    have hj2 : j < (keyOf r.cols l).length := by rw [keyOf_length]; exact hj
    have e2 : l[j] = (keyOf r.cols l)[j] := by conv => lhs; rw [List.getElem_of_eq e hj]
    rw [e2, keyOf_at, kc_f hj' hk]; rfl
theorem zeq_t {a : Nat} (h : a = 0) : (((a : Nat) : Int) == 0) = true := by rw [h]; rfl
set_option maxRecDepth 20000 in
set_option maxHeartbeats 4000000 in
theorem imageKeys_walk (r : Rl) (cv v : Value) (l : List Cel) (w : World) (hb : ColS w cv r.cols) (hv : RcS w v l) (hf : r.fits) :
    Calls Try.prog 5 #[.agg (relv r cv), v] w fun e w' => e = .returned (.bool true) ∧ Ext w w' := by
  obtain ⟨W, hW⟩ : ∃ W, W = w.alloc (.cells (relv r cv) 27) := ⟨_, rfl⟩
  have hx : Ext w W := by rw [hW]; exact (Ch.refl _ _).alloc _
  have HBOX : Hid (W.heap[w.heap.size]? = some (.cells (relv r cv) 27 (0, 0))) := Lib.hid (by rw [hW]; exact heap_alloc_new _ _)
  have HGR := Lib.hid (great10_any r v cv l W (RcS.ext hv hx) (ColS.ext hb hx))
  have HAW := Lib.hid awake12_any
  have HX := Lib.hid hx; have HW := Lib.hid hW
  by_cases hG : GreatR l r
  · rw [decide_eq_true hG] at HGR
    obtain ⟨ao, cap, rfl, _⟩ := id hb
    clear hb hv hf hx hW hG HAW
    generalize r.cols.length = n at *
    unfold relv strV at *
    generalize (⟨r.name.toArray⟩ : ByteArray) = A1 at *
    generalize r.oid = o1 at *
    generalize r.ver = o2 at *
    generalize r.ident = o3 at *
    go_enter Try.func5, Try.ntmps5
    go_wp2_with fail
    rw [← HW.out]
    refine HGR.out.mono ?_
    rintro e w2 ⟨rfl, hx2⟩
    have HX2 := Lib.hid (HX.out.trans hx2); clear hx2
    go_wp2
    go_ret
    exact ⟨rfl, HX2.out⟩
  rw [decide_eq_false hG] at HGR
  have hl20 : l.length ≤ 20 := Nat.le_of_not_lt fun h => hG (.inr (.inr (.inl h)))
  have hc20 : r.cols.length ≤ 20 := Nat.le_of_not_lt fun h => hG (.inr (.inr (.inr (.inl h))))
  have HO8 : Hid (∀ W', Ext w W' → Calls Try.prog 9 #[.agg (relv r cv)] W' fun e w'' => ∃ c, e = .returned (.agg (relv r c)) ∧ Ext W' w'' ∧ ColS w'' c r.cols ∧ ∃ co cc, c = .slice co r.cols.length cc) := Lib.hid (fun W' h => (relOwn_any r cv W' (ColS.ext hb h) (by omega)).mono fun e w'' ⟨c, h1, h2, h3⟩ => ⟨c, h1, h2, Sl.ofOwns h3, owns_shape h3⟩)
  have HO10 : Hid (∀ W', Ext w W' → Calls Try.prog 10 #[v] W' fun e w'' => ∃ y, e = .returned y ∧ Ext W' w'' ∧ PcS w'' y l ∧ ∃ yo yc, y = .slice yo l.length yc) := Lib.hid (fun W' h => (own10_any v l W' (RcS.ext hv h) (by omega)).mono fun e w'' ⟨y, h1, h2, h3⟩ => ⟨y, h1, h2, h3.s, owns_shape h3⟩)
  have HFU := Lib.hid (fun c u (x : List Cel) W' (h : ColS W' c r.cols) (h' : PcS W' u x) => isFull_any r c u x W' h hf (by omega) h')
  have HKE := Lib.hid (fun c u (x : List Cel) W' (h : ColS W' c r.cols) (h' : PcS W' u x) => isKey_any r c u x W' h hf (by omega) h')
  have HKO : Hid (∀ c u (x : List Cel) W', ColS W' c r.cols → PcS W' u x → x.length ≤ 20 → Calls Try.prog 13 #[.agg (relv r c), u] W' fun e w'' => ∃ y, e = .returned y ∧ Ext W' w'' ∧ PcS w'' y (keyOf r.cols x) ∧ ∃ yo yc, y = .slice yo x.length yc) := Lib.hid (fun c u x W' h h' hx => (keyOf_any r c u x W' h (by omega) h' (by omega)).mono fun e w'' ⟨y, h1, h2, h3⟩ => ⟨y, h1, h2, h3.s, by obtain ⟨a, b, hh⟩ := owns_shape h3; rw [keyOf_length] at hh; exact ⟨a, b, hh⟩⟩)
  have M1 := Lib.hid (@keyImage r l); have M2 := Lib.hid (@key_same r l); have M3 := Lib.hid (keyOf_keyOf r.cols l)
  have HL20 := Lib.hid hl20
  obtain ⟨ao, cap, rfl, _⟩ := id hb
  clear hb hv hf hx hW hG hl20 hc20
  unfold relv strV at *
  generalize (⟨r.name.toArray⟩ : ByteArray) = A1 at *
  generalize r.oid = o1 at *
  generalize r.ver = o2 at *
  generalize r.ident = o3 at *
  generalize r.cols.length = nq at *
  go_enter Try.func5, Try.ntmps5
  go_wp2_with fail
  rw [← HW.out]
  refine HGR.out.mono ?_
  rintro e w2 ⟨rfl, hx2⟩
  have HX2 := Lib.hid (HX.out.trans hx2)
  have d0 : w2.cell? ⟨w.heap.size, 0, none⟩ = some (.int .u32 (o1 : Nat)) := by rw [cell_of_row _ _ _ _ _ _ (heap_ext hx2 HBOX.out)]; rfl
  have d1 : w2.cell? ⟨w.heap.size, 1, none⟩ = some (.int .u32 (o2 : Nat)) := by rw [cell_of_row _ _ _ _ _ _ (heap_ext hx2 HBOX.out)]; rfl
  have d2 : w2.cell? ⟨w.heap.size, 2, none⟩ = some (.string A1) := by rw [cell_of_row _ _ _ _ _ _ (heap_ext hx2 HBOX.out)]; rfl
  have d3 : w2.cell? ⟨w.heap.size, 3, none⟩ = some (.int .u8 (o3 : Nat)) := by rw [cell_of_row _ _ _ _ _ _ (heap_ext hx2 HBOX.out)]; rfl
  have d4 : w2.cell? ⟨w.heap.size, 4, none⟩ = some (.slice ao nq cap) := by rw [cell_of_row _ _ _ _ _ _ (heap_ext hx2 HBOX.out)]; rfl
  clear hx2
  go_wp2_with fail
  refine (HO8.out w2 HX2.out).mono ?_
  rintro e w3 ⟨c, rfl, hx3, hc3, co, cc, rfl⟩
  have HX3 := Lib.hid (HX2.out.trans hx3); have HC3 := Lib.hid hc3
  clear hx3 hc3 d0 d1 d2 d3 d4
  go_wp2_with fail
  refine (HO10.out w3 HX3.out).mono ?_
  rintro e w4 ⟨y, rfl, hx4, hy4, yo, yc, rfl⟩
  obtain ⟨W5, hW5⟩ : ∃ W5, W5 = w4.alloc (.cells #[.int .u32 (o1 : Nat), .int .u32 (o2 : Nat), .string A1, .int .u8 (o3 : Nat), .slice co nq cc] 33) := ⟨_, rfl⟩
  have hx5 : Ext w4 W5 := by rw [hW5]; exact (Ch.refl _ _).alloc _
  have HB5 : Hid (W5.heap[w4.heap.size]? = some (.cells #[.int .u32 (o1 : Nat), .int .u32 (o2 : Nat), .string A1, .int .u8 (o3 : Nat), .slice co nq cc] 33 (0, 0))) := Lib.hid (by rw [hW5]; exact heap_alloc_new _ _)
  have HX5 := Lib.hid ((HX3.out.trans hx4).trans hx5)
  have HC5 := Lib.hid (ColS.ext HC3.out (hx4.trans hx5)); have HY5 := Lib.hid (PcS.ext hy4 hx5)
  have HW5 := Lib.hid hW5
  clear hx4 hy4 hx5 hW5
  go_wp2_with fail
  rw [← HW5.out]
  refine (HFU.out _ _ l W5 HC5.out HY5.out).mono ?_
  rintro e w6 ⟨rfl, hx6⟩
  have HX6 := Lib.hid (HX5.out.trans hx6)
  have HB6 := Lib.hid (heap_ext hx6 HB5.out); have HC6 := Lib.hid (ColS.ext HC5.out hx6); have HY6 := Lib.hid (PcS.ext HY5.out hx6)
  generalize w4.heap.size = gx at *
  have d0 : w6.cell? ⟨gx, 0, none⟩ = some (.int .u32 (o1 : Nat)) := by rw [cell_of_row _ _ _ _ _ _ (HB6.out)]; rfl
  have d1 : w6.cell? ⟨gx, 1, none⟩ = some (.int .u32 (o2 : Nat)) := by rw [cell_of_row _ _ _ _ _ _ (HB6.out)]; rfl
  have d2 : w6.cell? ⟨gx, 2, none⟩ = some (.string A1) := by rw [cell_of_row _ _ _ _ _ _ (HB6.out)]; rfl
  have d3 : w6.cell? ⟨gx, 3, none⟩ = some (.int .u8 (o3 : Nat)) := by rw [cell_of_row _ _ _ _ _ _ (HB6.out)]; rfl
  have d4 : w6.cell? ⟨gx, 4, none⟩ = some (.slice co nq cc) := by rw [cell_of_row _ _ _ _ _ _ (HB6.out)]; rfl
  clear hx6
  by_cases hE : isFullE r l = 0
  case neg =>
    have n1 := u8_f (a := isFullE r l) (z := 0) (by omega)
    have n2 := u8_nf (a := isFullE r l) (z := 0) (by omega)
    clear hE
    generalize isFullE r l = E at *
    go_wp2_with fail
    refine (HAW.out w6).mono ?_
    rintro e w7 ⟨rfl, hx7⟩
    have HX7 := Lib.hid (HX6.out.trans hx7); clear hx7
    go_wp2
    go_ret
    exact ⟨rfl, HX7.out⟩
  have n1 := u8_t (a := isFullE r l) (z := 0) (by omega)
  have n2 := u8_nt (a := isFullE r l) (z := 0) (by omega)
  have M1' := Lib.hid (M1.out hE); have M2' := Lib.hid (M2.out hE)
  clear hE M1 M2
  generalize isFullE r l = E at *
  go_wp2_with fail
  refine (HKO.out _ _ l w6 HC6.out HY6.out HL20.out).mono ?_
  rintro e w7 ⟨k, rfl, hx7, hk7, ko, kc, rfl⟩
  have HX7 := Lib.hid (HX6.out.trans hx7)
  have HB7 := Lib.hid (heap_ext hx7 HB6.out); have HC7 := Lib.hid (ColS.ext HC6.out hx7); have HY7 := Lib.hid (PcS.ext HY6.out hx7); have HK7 := Lib.hid hk7
  clear d0 d1 d2 d3 d4 n1 n2
  have d0 : w7.cell? ⟨gx, 0, none⟩ = some (.int .u32 (o1 : Nat)) := by rw [cell_of_row _ _ _ _ _ _ (HB7.out)]; rfl
  have d1 : w7.cell? ⟨gx, 1, none⟩ = some (.int .u32 (o2 : Nat)) := by rw [cell_of_row _ _ _ _ _ _ (HB7.out)]; rfl
  have d2 : w7.cell? ⟨gx, 2, none⟩ = some (.string A1) := by rw [cell_of_row _ _ _ _ _ _ (HB7.out)]; rfl
  have d3 : w7.cell? ⟨gx, 3, none⟩ = some (.int .u8 (o3 : Nat)) := by rw [cell_of_row _ _ _ _ _ _ (HB7.out)]; rfl
  have d4 : w7.cell? ⟨gx, 4, none⟩ = some (.slice co nq cc) := by rw [cell_of_row _ _ _ _ _ _ (HB7.out)]; rfl
  clear hx7 hk7
  go_wp2_with fail
  refine (HKE.out _ _ (keyOf r.cols l) w7 HC7.out HK7.out).mono ?_
  rintro e w8 ⟨rfl, hx8⟩
  rw [M1'.out]
  have HX8 := Lib.hid (HX7.out.trans hx8)
  have HB8 := Lib.hid (heap_ext hx8 HB7.out); have HC8 := Lib.hid (ColS.ext HC7.out hx8); have HY8 := Lib.hid (PcS.ext HY7.out hx8); have HK8 := Lib.hid (PcS.ext HK7.out hx8)
  clear d0 d1 d2 d3 d4
  have d0 : w8.cell? ⟨gx, 0, none⟩ = some (.int .u32 (o1 : Nat)) := by rw [cell_of_row _ _ _ _ _ _ (HB8.out)]; rfl
  have d1 : w8.cell? ⟨gx, 1, none⟩ = some (.int .u32 (o2 : Nat)) := by rw [cell_of_row _ _ _ _ _ _ (HB8.out)]; rfl
  have d2 : w8.cell? ⟨gx, 2, none⟩ = some (.string A1) := by rw [cell_of_row _ _ _ _ _ _ (HB8.out)]; rfl
  have d3 : w8.cell? ⟨gx, 3, none⟩ = some (.int .u8 (o3 : Nat)) := by rw [cell_of_row _ _ _ _ _ _ (HB8.out)]; rfl
  have d4 : w8.cell? ⟨gx, 4, none⟩ = some (.slice co nq cc) := by rw [cell_of_row _ _ _ _ _ _ (HB8.out)]; rfl
  clear hx8
  go_wp2_with fail
  refine (HKO.out _ _ (keyOf r.cols l) w8 HC8.out HK8.out (by rw [keyOf_length]; exact HL20.out)).mono ?_
  rintro e w9 ⟨k2, rfl, hx9, hk9, ko2, kc2, rfl⟩
  have HX9 := Lib.hid (HX8.out.trans hx9)
  have HB9 := Lib.hid (heap_ext hx9 HB8.out); have HC9 := Lib.hid (ColS.ext HC8.out hx9); have HY9 := Lib.hid (PcS.ext HY8.out hx9); have HK9 := Lib.hid (PcS.ext HK8.out hx9); have HQ9 := Lib.hid hk9
  clear hx9 hk9 d0 d1 d2 d3 d4
  go_wp2_with fail
  refine (alikeRow_any _ _ _ _ w9 HQ9.out HK9.out).mono ?_
  rintro e w10 ⟨rfl, hx10⟩
  rw [decide_eq_true M3.out]
  have HX10 := Lib.hid (HX9.out.trans hx10)
  have HB10 := Lib.hid (heap_ext hx10 HB9.out); have HC10 := Lib.hid (ColS.ext HC9.out hx10); have HY10 := Lib.hid (PcS.ext HY9.out hx10); have HK10 := Lib.hid (PcS.ext HK9.out hx10)
  have d0 : w10.cell? ⟨gx, 0, none⟩ = some (.int .u32 (o1 : Nat)) := by rw [cell_of_row _ _ _ _ _ _ (HB10.out)]; rfl
  have d1 : w10.cell? ⟨gx, 1, none⟩ = some (.int .u32 (o2 : Nat)) := by rw [cell_of_row _ _ _ _ _ _ (HB10.out)]; rfl
  have d2 : w10.cell? ⟨gx, 2, none⟩ = some (.string A1) := by rw [cell_of_row _ _ _ _ _ _ (HB10.out)]; rfl
  have d3 : w10.cell? ⟨gx, 3, none⟩ = some (.int .u8 (o3 : Nat)) := by rw [cell_of_row _ _ _ _ _ _ (HB10.out)]; rfl
  have d4 : w10.cell? ⟨gx, 4, none⟩ = some (.slice co nq cc) := by rw [cell_of_row _ _ _ _ _ _ (HB10.out)]; rfl
  clear hx10
  go_wp2_with fail
  refine (HKE.out _ _ l w10 HC10.out HY10.out).mono ?_
  rintro e w11 ⟨rfl, hx11⟩
  have HX11 := Lib.hid (HX10.out.trans hx11)
  have HY11 := Lib.hid (PcS.ext HY10.out hx11); have HK11 := Lib.hid (PcS.ext HK10.out hx11)
  clear hx11 d0 d1 d2 d3 d4
  go_wp2_with fail
  refine (alikeRow_any _ _ _ _ w11 HY11.out HK11.out).mono ?_
  rintro e w12 ⟨rfl, hx12⟩
  have HX12 := Lib.hid (HX11.out.trans hx12); clear hx12
  by_cases hk : isKeyE r l = 0
  · rw [decide_eq_true (M2'.out.1 hk)]
    have n1 := u8_t (a := isKeyE r l) (z := 0) (by omega)
    clear hk
    generalize isKeyE r l = E2 at *
    go_wp2_with fail
    refine (HAW.out w12).mono ?_
    rintro e w13 ⟨rfl, hx13⟩
    have HX13 := Lib.hid (HX12.out.trans hx13); clear hx13
    go_wp2
    go_ret
    exact ⟨rfl, HX13.out⟩
  · rw [decide_eq_false (fun e => hk (M2'.out.2 e))]
    have n1 := u8_f (a := isKeyE r l) (z := 0) (by omega)
    clear hk
    generalize isKeyE r l = E2 at *
    go_wp2_with fail
    refine (HAW.out w12).mono ?_
    rintro e w13 ⟨rfl, hx13⟩
    have HX13 := Lib.hid (HX12.out.trans hx13); clear hx13
    go_wp2
    go_ret
    exact ⟨rfl, HX13.out⟩
end Go.Proofs.Ytdpebdbfphlmeaa
