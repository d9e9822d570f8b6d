/-
  ImageTells: the walk. MADE BY mkImgTells.py
-/
import Derived.Test.YtdpebdbfphlmeaaImgO
import Derived.Test.YtdpebdbfphlmeaaImgE
import Derived.Test.YtdpebdbfphlmeaaImgL
namespace Go.Proofs.Ytdpebdbfphlmeaa
open Go.RowKit Go.Lac

theorem u8_ft {a : Nat} {z : Int} (h : (a : Int) ≠ z) : (((a : Nat) : Int) == z) = false := beq_eq_false_iff_ne.2 h
def Kn.pcs (l : List Cel) : Kn := ⟨fun v w => PcS w v l, fun _ _ _ k h => PcS.ext h k⟩
def Kn.rcs (l : List Cel) : Kn := ⟨fun v w => RcS w v l, fun _ _ _ k h => RcS.ext h k⟩
def tlA (o1 o2 o3 : Nat) (A1 : ByteArray) (co ao yo vo : Option Addr) (nq cc cap m yc vcap g0 gx : Nat) (r : Rl) (l : List Cel) : Tmp → Kn
  | 14 => .is (.agg #[.int .u32 (o1 : Nat), .int .u32 (o2 : Nat), .string A1, .int .u8 (o3 : Nat), .slice co nq cc])
  | 15 => .is (.slice yo m yc)
  | 16 => Kn.pcs (keyOf r.cols l)
  | 17 => Kn.rcs (keyOf r.cols l)
  | 18 => .is (.agg #[.int .u32 (o1 : Nat), .int .u32 (o2 : Nat), .string A1, .int .u8 (o3 : Nat), .slice ao nq cap])
  | 19 => .is (.slice vo m vcap)
  | 20 => Kn.rcs (keyOf r.cols l)
  | 21 => .is (.bool true)
  | 22 => .is (.bool false)
  | _ => .any
def tlB (o1 o2 o3 : Nat) (A1 : ByteArray) (co ao yo vo : Option Addr) (nq cc cap m yc vcap g0 gx : Nat) (r : Rl) (l : List Cel) : Tmp → Kn
  | 23 => .is (.agg #[.int .u32 (o1 : Nat), .int .u32 (o2 : Nat), .string A1, .int .u8 (o3 : Nat), .slice co nq cc])
  | 24 => .is (.slice yo m yc)
  | 25 => .is (.int .i64 (isKeyE r l : Nat))
  | 26 => .is (.agg #[.int .u32 (o1 : Nat), .int .u32 (o2 : Nat), .string A1, .int .u8 (o3 : Nat), .slice ao nq cap])
  | 27 => .is (.slice vo m vcap)
  | 28 => .is (.int .i64 (isKeyE r l : Nat))
  | 29 => .is (.bool true)
  | 30 => .is (.bool true)
  | 31 => .is (.agg #[.int .u32 (o1 : Nat), .int .u32 (o2 : Nat), .string A1, .int .u8 (o3 : Nat), .slice co nq cc])
  | 32 => .is (.slice yo m yc)
  | 33 => .is (.int .i64 (isFullE r l : Nat))
  | 34 => .is (.agg #[.int .u32 (o1 : Nat), .int .u32 (o2 : Nat), .string A1, .int .u8 (o3 : Nat), .slice ao nq cap])
  | 35 => .is (.slice vo m vcap)
  | 36 => .is (.int .i64 (isFullE r l : Nat))
  | 37 => .is (.bool true)
  | 38 => .is (.bool true)
  | 39 => .is (.bool true)
  | 40 => .is (.bool true)
  | 41 => .is (.bool true)
  | 4 => .is (.bool true)
  | _ => .any
set_option maxRecDepth 20000 in
set_option maxHeartbeats 4000000 in
theorem imageTells_walk (r : Rl) (cv v : Value) (l : List Cel) (w : World) (hb : ColS w cv r.cols) (hv : RcS w v l) (hf : r.fits) :
    Calls Try.prog 3 #[.agg (relv r cv), v] w fun e w' => e = .returned (.bool true) ∧ Ext w w' := by
  obtain ⟨W, hW⟩ : ∃ W, W = w.alloc (.cells (relv r cv) 27) := ⟨_, rfl⟩
  have hx : Ext w W := by rw [hW]; exact (Ch.refl _ _).alloc _
  have HBOX : Hid (W.heap[w.heap.size]? = some (.cells (relv r cv) 27 (0, 0))) := Lib.hid (by rw [hW]; exact heap_alloc_new _ _)
  have HGR := Lib.hid (great10_any r v cv l W (RcS.ext hv hx) (ColS.ext hb hx))
  have HAW := Lib.hid awake12_any
  have HX := Lib.hid hx; have HW := Lib.hid hW
  by_cases hG : GreatR l r
  · rw [decide_eq_true hG] at HGR
    obtain ⟨ao, cap, rfl, _⟩ := id hb
    clear hb hv hf hx hW hG HAW
    generalize r.cols.length = n at *
    unfold relv strV at *
    generalize (⟨r.name.toArray⟩ : ByteArray) = A1 at *
    generalize r.oid = o1 at *
    generalize r.ver = o2 at *
    generalize r.ident = o3 at *
    go_enter Try.func3, Try.ntmps3
    go_wp2_with fail
    rw [← HW.out]
    refine HGR.out.mono ?_
    rintro e w2 ⟨rfl, hx2⟩
    have HX2 := Lib.hid (HX.out.trans hx2); clear hx2
    go_wp2
    go_ret
    exact ⟨rfl, HX2.out⟩
  rw [decide_eq_false hG] at HGR
  have hl20 : l.length ≤ 20 := Nat.le_of_not_lt fun h => hG (.inr (.inr (.inl h)))
  have hc20 : r.cols.length ≤ 20 := Nat.le_of_not_lt fun h => hG (.inr (.inr (.inr (.inl h))))
  have HO8 : Hid (∀ W', Ext w W' → Calls Try.prog 9 #[.agg (relv r cv)] W' fun e w'' => ∃ c, e = .returned (.agg (relv r c)) ∧ Ext W' w'' ∧ ColS w'' c r.cols ∧ ∃ co cc, c = .slice co r.cols.length cc) := Lib.hid (fun W' h => (relOwn_any r cv W' (ColS.ext hb h) (by omega)).mono fun e w'' ⟨c, h1, h2, h3⟩ => ⟨c, h1, h2, Sl.ofOwns h3, owns_shape h3⟩)
  have HO10 : Hid (∀ W', Ext w W' → Calls Try.prog 10 #[v] W' fun e w'' => ∃ y, e = .returned y ∧ Ext W' w'' ∧ PcS w'' y l ∧ ∃ yo yc, y = .slice yo l.length yc) := Lib.hid (fun W' h => (own10_any v l W' (RcS.ext hv h) (by omega)).mono fun e w'' ⟨y, h1, h2, h3⟩ => ⟨y, h1, h2, h3.s, owns_shape h3⟩)
  have HFU := Lib.hid (fun c u (x : List Cel) W' (h : ColS W' c r.cols) (h' : PcS W' u x) => isFull_any r c u x W' h hf (by omega) h')
  have HKE := Lib.hid (fun c u (x : List Cel) W' (h : ColS W' c r.cols) (h' : PcS W' u x) => isKey_any r c u x W' h hf (by omega) h')
  have HKO : Hid (∀ c u (x : List Cel) W', ColS W' c r.cols → PcS W' u x → x.length ≤ 20 → Calls Try.prog 13 #[.agg (relv r c), u] W' fun e w'' => ∃ y, e = .returned y ∧ Ext W' w'' ∧ PcS w'' y (keyOf r.cols x)) := Lib.hid (fun c u x W' h h' hx => (keyOf_any r c u x W' h (by omega) h' (by omega)).mono fun e w'' ⟨y, h1, h2, h3⟩ => ⟨y, h1, h2, h3.s⟩)
  have HRK : Hid (∀ W', Ext w W' → Calls Try.prog 14 #[.agg (relv r cv), v] W' fun e w'' => ∃ y, e = .returned y ∧ Ext W' w'' ∧ RcS w'' y (keyOf r.cols l)) := Lib.hid (fun W' h => (rkeyOf_any r cv v l W' (ColS.ext hb h) (RcS.ext hv h) (by omega)).mono fun e w'' ⟨y, h1, h2, h3⟩ => ⟨y, h1, h2, h3.s⟩)
  have HRI := Lib.hid (fun W' (h : Ext w W') => risKey_any r cv v l W' (ColS.ext hb h) hf (by omega) (RcS.ext hv h))
  have HRF := Lib.hid (fun W' (h : Ext w W') => risFull_any r cv v l W' (ColS.ext hb h) hf (by omega) (RcS.ext hv h))
  have HBK : Hid (∀ u (x : List Cel) W', PcS W' u x → x.length ≤ 20 → Calls Try.prog 12 #[u] W' fun e w'' => ∃ y, e = .returned y ∧ Ext W' w'' ∧ RcS w'' y x) := Lib.hid (fun u x W' h hx => (back10_any u x W' h (by omega)).mono fun e w'' ⟨y, h1, h2, h3⟩ => ⟨y, h1, h2, h3.s⟩)
  have HSM : Hid (∀ u u' (x : List Cel) W', RcS W' u x → RcS W' u' x → Calls Try.prog 11 #[u, u'] W' fun e w'' => e = .returned (.bool true) ∧ Ext W' w'') := Lib.hid (fun u u' x W' h h' => (sameR_any u u' x x W' h h').mono fun e w'' h => ⟨by rw [h.1, decide_eq_true rfl], h.2⟩)
  obtain ⟨vo, vcap, rfl, _⟩ := hv.shape
  have HL20 := Lib.hid hl20
  obtain ⟨ao, cap, rfl, _⟩ := id hb
  clear hb hv hf hx hW hG hl20 hc20
  unfold relv strV at *
  generalize (⟨r.name.toArray⟩ : ByteArray) = A1 at *
  generalize r.oid = o1 at *
  generalize r.ver = o2 at *
  generalize r.ident = o3 at *
  generalize r.cols.length = nq at *
  generalize hmm : l.length = m at *
  have HMM := Lib.hid hmm; clear hmm
  go_enter Try.func3, Try.ntmps3
  go_wp2_with fail
  rw [← HW.out]
  refine HGR.out.mono ?_
  rintro e w2 ⟨rfl, hx2⟩
  have HX2 := Lib.hid (HX.out.trans hx2)
  have HXW2 := Lib.hid hx2
  have d0 : w2.cell? ⟨w.heap.size, 0, none⟩ = some (.int .u32 (o1 : Nat)) := by rw [cell_of_row _ _ _ _ _ _ (heap_ext hx2 HBOX.out)]; rfl
  have d1 : w2.cell? ⟨w.heap.size, 1, none⟩ = some (.int .u32 (o2 : Nat)) := by rw [cell_of_row _ _ _ _ _ _ (heap_ext hx2 HBOX.out)]; rfl
  have d2 : w2.cell? ⟨w.heap.size, 2, none⟩ = some (.string A1) := by rw [cell_of_row _ _ _ _ _ _ (heap_ext hx2 HBOX.out)]; rfl
  have d3 : w2.cell? ⟨w.heap.size, 3, none⟩ = some (.int .u8 (o3 : Nat)) := by rw [cell_of_row _ _ _ _ _ _ (heap_ext hx2 HBOX.out)]; rfl
  have d4 : w2.cell? ⟨w.heap.size, 4, none⟩ = some (.slice ao nq cap) := by rw [cell_of_row _ _ _ _ _ _ (heap_ext hx2 HBOX.out)]; rfl
  clear hx2
  go_wp2_with fail
  refine (HO8.out w2 HX2.out).mono ?_
  rintro e w3 ⟨c, rfl, hx3, hc3, co, cc, rfl⟩
  have HX23 := Lib.hid hx3
  have HX3 := Lib.hid (HX2.out.trans hx3); have HC3 := Lib.hid hc3
  clear hx3 hc3 d0 d1 d2 d3 d4
  go_wp2_with fail
  refine (HO10.out w3 HX3.out).mono ?_
  rintro e w4 ⟨y, rfl, hx4, hy4, yo, yc, rfl⟩
  obtain ⟨W5, hW5⟩ : ∃ W5, W5 = w4.alloc (.cells #[.int .u32 (o1 : Nat), .int .u32 (o2 : Nat), .string A1, .int .u8 (o3 : Nat), .slice co nq cc] 33) := ⟨_, rfl⟩
  have hx5 : Ext w4 W5 := by rw [hW5]; exact (Ch.refl _ _).alloc _
  have HB5 : Hid (W5.heap[w4.heap.size]? = some (.cells #[.int .u32 (o1 : Nat), .int .u32 (o2 : Nat), .string A1, .int .u8 (o3 : Nat), .slice co nq cc] 33 (0, 0))) := Lib.hid (by rw [hW5]; exact heap_alloc_new _ _)
  have HX5 := Lib.hid ((HX3.out.trans hx4).trans hx5)
  have HC5 := Lib.hid (ColS.ext HC3.out (hx4.trans hx5)); have HY5 := Lib.hid (PcS.ext hy4 hx5)
  have HW5 := Lib.hid hW5
  have HBF5 : Hid (W5.heap[w.heap.size]? = some (.cells #[.int .u32 (o1 : Nat), .int .u32 (o2 : Nat), .string A1, .int .u8 (o3 : Nat), .slice ao nq cap] 27 (0, 0))) := Lib.hid (heap_ext (((HXW2.out.trans HX23.out).trans hx4).trans hx5) HBOX.out)
  clear hx4 hy4 hx5 hW5
  go_wp2
  rw [← HW5.out]
  generalize w4.heap.size = gx at *
  have HL20 : Hid (l.length ≤ 20) := Lib.hid (by rw [HMM.out]; exact HL20.out)
  have HBX := HB5; have HBF := HBF5; have HC := HC5; have HY := HY5; have HXA := HX5
  refine wp_region_ext (tlA o1 o2 o3 A1 co ao yo vo nq cc cap m yc vcap w.heap.size gx r l) mixedR (by rfl) (by rfl) ?all ?fin
  case all =>
    refine ⟨?_, ?_, ?_, ?_, ?_, ?_, ?_, ?_, ?_, trivial⟩
    · refine StepOK.plain (kn_stable _) rfl fun ρ w' hρ hw hf => ?_
      have h5 : ρ (.tmp 5) = (.pointer (some ⟨gx, 0, none⟩)) := (hf 5).2 rfl rfl
      exact Exec.kloadrow rfl rfl h5 (heap_ext hw HBX.out) Try.underlying33 rfl infoOw rfl
    · refine StepOK.plain (kn_stable _) rfl fun ρ w' hρ hw hf => ?_
      have h6 : ρ (.tmp 6) = (.slice yo m yc) := (hf 6).2 rfl rfl
      exact Exec.kmove rfl rfl h6
    · refine StepOK.plain (kn_stable _) rfl fun ρ w' hρ hw hf => ?_
      have h14 : ρ (.tmp 14) = (.agg #[.int .u32 (o1 : Nat), .int .u32 (o2 : Nat), .string A1, .int .u8 (o3 : Nat), .slice co nq cc]) := (hf 14).1 rfl
      have h15 : ρ (.tmp 15) = (.slice yo m yc) := (hf 15).1 rfl
      exact Exec.kcall #[(.agg #[.int .u32 (o1 : Nat), .int .u32 (o2 : Nat), .string A1, .int .u8 (o3 : Nat), .slice co nq cc]), (.slice yo m yc)] hρ rfl rfl (by simp [h14, h15]) Try.func13 (by rfl) (by rfl) ((HKO.out _ _ l w' (ColS.ext HC.out hw) (PcS.ext HY.out hw) HL20.out).mono fun e w'' ⟨y, h1, h2, h3⟩ => ⟨y, h1, h3, h2⟩)
    · refine StepOK.plain (kn_stable _) rfl fun ρ w' hρ hw hf => ?_
      have h16 : (Kn.pcs (keyOf r.cols l)).holds (ρ (.tmp 16)) w' := (hf 16).1 rfl
      exact Exec.kcall #[ρ (.tmp 16)] hρ rfl rfl (by simp []) Try.func12 (by rfl) (by rfl) ((HBK.out _ (keyOf r.cols l) w' h16 (by rw [keyOf_length]; exact HL20.out)).mono fun e w'' ⟨y, h1, h2, h3⟩ => ⟨y, h1, h3, h2⟩)
    · refine StepOK.plain (kn_stable _) rfl fun ρ w' hρ hw hf => ?_
      have h2 : ρ (.tmp 2) = (.pointer (some ⟨w.heap.size, 0, none⟩)) := (hf 2).2 rfl rfl
      exact Exec.kloadrow rfl rfl h2 (heap_ext hw HBF.out) Try.underlying27 rfl infoBk rfl
    · refine StepOK.plain (kn_stable _) rfl fun ρ w' hρ hw hf => ?_
      have h1 : ρ (.tmp 1) = (.slice vo m vcap) := (hf 1).2 rfl rfl
      exact Exec.kmove rfl rfl h1
    · refine StepOK.plain (kn_stable _) rfl fun ρ w' hρ hw hf => ?_
      have h18 : ρ (.tmp 18) = (.agg #[.int .u32 (o1 : Nat), .int .u32 (o2 : Nat), .string A1, .int .u8 (o3 : Nat), .slice ao nq cap]) := (hf 18).1 rfl
      have h19 : ρ (.tmp 19) = (.slice vo m vcap) := (hf 19).1 rfl
      exact Exec.kcall #[(.agg #[.int .u32 (o1 : Nat), .int .u32 (o2 : Nat), .string A1, .int .u8 (o3 : Nat), .slice ao nq cap]), (.slice vo m vcap)] hρ rfl rfl (by simp [h18, h19]) Try.func14 (by rfl) (by rfl) ((HRK.out w' (HXA.out.trans hw)).mono fun e w'' ⟨y, h1, h2, h3⟩ => ⟨y, h1, h3, h2⟩)
    · refine StepOK.plain (kn_stable _) rfl fun ρ w' hρ hw hf => ?_
      have h17 : (Kn.rcs (keyOf r.cols l)).holds (ρ (.tmp 17)) w' := (hf 17).1 rfl
      have h20 : (Kn.rcs (keyOf r.cols l)).holds (ρ (.tmp 20)) w' := (hf 20).1 rfl
      exact Exec.kcall #[ρ (.tmp 17), ρ (.tmp 20)] hρ rfl rfl (by simp []) Try.func11 (by rfl) (by rfl) ((HSM.out _ _ _ w' h17 h20).mono fun e w'' h => ⟨_, h.1, rfl, h.2⟩)
    · refine StepOK.plain (kn_stable _) rfl fun ρ w' hρ hw hf => ?_
      have h21 : ρ (.tmp 21) = (.bool true) := (hf 21).1 rfl
      exact Exec.same (v := (.bool false)) rfl (by simp [go_sem, hρ.const, h21]) rfl
  case fin =>
    intro ν w9 hfin hx9
    have e0 : ν 22 = .bool false := hfin 8 22 rfl
    simp only [Exit.then, ended, List.foldl_cons, List.foldl_nil, List.setIfInBounds_toArray, List.set_cons_succ, List.set_cons_zero, e0]
    have HBX := Lib.hid (heap_ext hx9 HBX.out); have HBF := Lib.hid (heap_ext hx9 HBF.out); have HC := Lib.hid (ColS.ext HC.out hx9); have HY := Lib.hid (PcS.ext HY.out hx9); have HXA := Lib.hid (HXA.out.trans hx9)
    clear hfin hx9 e0
    go_wp2
    refine wp_region_ext (tlB o1 o2 o3 A1 co ao yo vo nq cc cap m yc vcap w.heap.size gx r l) mixedR (by rfl) (by rfl) ?all ?fin
    case all =>
      refine ⟨?_, ?_, ?_, ?_, ?_, ?_, ?_, ?_, ?_, ?_, ?_, ?_, ?_, ?_, ?_, ?_, ?_, ?_, ?_, ?_, trivial⟩
      · refine StepOK.plain (kn_stable _) rfl fun ρ w' hρ hw hf => ?_
        have h5 : ρ (.tmp 5) = (.pointer (some ⟨gx, 0, none⟩)) := (hf 5).2 rfl rfl
        exact Exec.kloadrow rfl rfl h5 (heap_ext hw HBX.out) Try.underlying33 rfl infoOw rfl
      · refine StepOK.plain (kn_stable _) rfl fun ρ w' hρ hw hf => ?_
        have h6 : ρ (.tmp 6) = (.slice yo m yc) := (hf 6).2 rfl rfl
        exact Exec.kmove rfl rfl h6
      · refine StepOK.plain (kn_stable _) rfl fun ρ w' hρ hw hf => ?_
        have h23 : ρ (.tmp 23) = (.agg #[.int .u32 (o1 : Nat), .int .u32 (o2 : Nat), .string A1, .int .u8 (o3 : Nat), .slice co nq cc]) := (hf 23).1 rfl
        have h24 : ρ (.tmp 24) = (.slice yo m yc) := (hf 24).1 rfl
        exact Exec.kcall #[(.agg #[.int .u32 (o1 : Nat), .int .u32 (o2 : Nat), .string A1, .int .u8 (o3 : Nat), .slice co nq cc]), (.slice yo m yc)] hρ rfl rfl (by simp [h23, h24]) Try.func15 (by rfl) (by rfl) ((HKE.out _ _ l w' (ColS.ext HC.out hw) (PcS.ext HY.out hw)).mono fun e w'' h => ⟨_, h.1, rfl, h.2⟩)
      · refine StepOK.plain (kn_stable _) rfl fun ρ w' hρ hw hf => ?_
        have h2 : ρ (.tmp 2) = (.pointer (some ⟨w.heap.size, 0, none⟩)) := (hf 2).2 rfl rfl
        exact Exec.kloadrow rfl rfl h2 (heap_ext hw HBF.out) Try.underlying27 rfl infoBk rfl
      · refine StepOK.plain (kn_stable _) rfl fun ρ w' hρ hw hf => ?_
        have h1 : ρ (.tmp 1) = (.slice vo m vcap) := (hf 1).2 rfl rfl
        exact Exec.kmove rfl rfl h1
      · refine StepOK.plain (kn_stable _) rfl fun ρ w' hρ hw hf => ?_
        have h26 : ρ (.tmp 26) = (.agg #[.int .u32 (o1 : Nat), .int .u32 (o2 : Nat), .string A1, .int .u8 (o3 : Nat), .slice ao nq cap]) := (hf 26).1 rfl
        have h27 : ρ (.tmp 27) = (.slice vo m vcap) := (hf 27).1 rfl
        exact Exec.kcall #[(.agg #[.int .u32 (o1 : Nat), .int .u32 (o2 : Nat), .string A1, .int .u8 (o3 : Nat), .slice ao nq cap]), (.slice vo m vcap)] hρ rfl rfl (by simp [h26, h27]) Try.func16 (by rfl) (by rfl) ((HRI.out w' (HXA.out.trans hw)).mono fun e w'' h => ⟨_, h.1, rfl, h.2⟩)
      · refine StepOK.plain (kn_stable _) rfl fun ρ w' hρ hw hf => ?_
        have h25 : ρ (.tmp 25) = (.int .i64 (isKeyE r l : Nat)) := (hf 25).1 rfl
        have h28 : ρ (.tmp 28) = (.int .i64 (isKeyE r l : Nat)) := (hf 28).1 rfl
        exact Exec.same (v := (.bool true)) rfl (by simp [go_sem, hρ.const, h25, h28]) rfl
      · refine StepOK.plain (kn_stable _) rfl fun ρ w' hρ hw hf => ?_
        have h29 : ρ (.tmp 29) = (.bool true) := (hf 29).1 rfl
        exact Exec.kmove rfl rfl h29
      · refine StepOK.guarded (kn_stable _) 7 true 30 rfl rfl (fun ρ w _ _ hf => (hf 30).1 rfl) fun ρ w' hρ hw hf => ?_
        have h5 : ρ (.tmp 5) = (.pointer (some ⟨gx, 0, none⟩)) := (hf 5).2 rfl rfl
        exact Exec.kloadrow rfl rfl h5 (heap_ext hw HBX.out) Try.underlying33 rfl infoOw rfl
      · refine StepOK.guarded (kn_stable _) 7 true 30 rfl rfl (fun ρ w _ _ hf => (hf 30).1 rfl) fun ρ w' hρ hw hf => ?_
        have h6 : ρ (.tmp 6) = (.slice yo m yc) := (hf 6).2 rfl rfl
        exact Exec.kmove rfl rfl h6
      · refine StepOK.guarded (kn_stable _) 7 true 30 rfl rfl (fun ρ w _ _ hf => (hf 30).1 rfl) fun ρ w' hρ hw hf => ?_
        have h31 : ρ (.tmp 31) = (.agg #[.int .u32 (o1 : Nat), .int .u32 (o2 : Nat), .string A1, .int .u8 (o3 : Nat), .slice co nq cc]) := (hf 31).1 rfl
        have h32 : ρ (.tmp 32) = (.slice yo m yc) := (hf 32).1 rfl
        exact Exec.kcall #[(.agg #[.int .u32 (o1 : Nat), .int .u32 (o2 : Nat), .string A1, .int .u8 (o3 : Nat), .slice co nq cc]), (.slice yo m yc)] hρ rfl rfl (by simp [h31, h32]) Try.func17 (by rfl) (by rfl) ((HFU.out _ _ l w' (ColS.ext HC.out hw) (PcS.ext HY.out hw)).mono fun e w'' h => ⟨_, h.1, rfl, h.2⟩)
      · refine StepOK.guarded (kn_stable _) 7 true 30 rfl rfl (fun ρ w _ _ hf => (hf 30).1 rfl) fun ρ w' hρ hw hf => ?_
        have h2 : ρ (.tmp 2) = (.pointer (some ⟨w.heap.size, 0, none⟩)) := (hf 2).2 rfl rfl
        exact Exec.kloadrow rfl rfl h2 (heap_ext hw HBF.out) Try.underlying27 rfl infoBk rfl
      · refine StepOK.guarded (kn_stable _) 7 true 30 rfl rfl (fun ρ w _ _ hf => (hf 30).1 rfl) fun ρ w' hρ hw hf => ?_
        have h1 : ρ (.tmp 1) = (.slice vo m vcap) := (hf 1).2 rfl rfl
        exact Exec.kmove rfl rfl h1
      · refine StepOK.guarded (kn_stable _) 7 true 30 rfl rfl (fun ρ w _ _ hf => (hf 30).1 rfl) fun ρ w' hρ hw hf => ?_
        have h34 : ρ (.tmp 34) = (.agg #[.int .u32 (o1 : Nat), .int .u32 (o2 : Nat), .string A1, .int .u8 (o3 : Nat), .slice ao nq cap]) := (hf 34).1 rfl
        have h35 : ρ (.tmp 35) = (.slice vo m vcap) := (hf 35).1 rfl
        exact Exec.kcall #[(.agg #[.int .u32 (o1 : Nat), .int .u32 (o2 : Nat), .string A1, .int .u8 (o3 : Nat), .slice ao nq cap]), (.slice vo m vcap)] hρ rfl rfl (by simp [h34, h35]) Try.func18 (by rfl) (by rfl) ((HRF.out w' (HXA.out.trans hw)).mono fun e w'' h => ⟨_, h.1, rfl, h.2⟩)
      · refine StepOK.guarded (kn_stable _) 7 true 30 rfl rfl (fun ρ w _ _ hf => (hf 30).1 rfl) fun ρ w' hρ hw hf => ?_
        have h33 : ρ (.tmp 33) = (.int .i64 (isFullE r l : Nat)) := (hf 33).1 rfl
        have h36 : ρ (.tmp 36) = (.int .i64 (isFullE r l : Nat)) := (hf 36).1 rfl
        exact Exec.same (v := (.bool true)) rfl (by simp [go_sem, hρ.const, h33, h36]) rfl
      · refine StepOK.plain (kn_stable _) rfl fun ρ w' hρ hw hf => ?_
        have h30 : ρ (.tmp 30) = (.bool true) := (hf 30).1 rfl
        have h37 : ρ (.tmp 37) = (.bool true) := (hf 37).1 rfl
        exact Exec.kpickT rfl rfl h30 h37
      · refine StepOK.plain (kn_stable _) rfl fun ρ w' hρ hw hf => ?_
        have h38 : ρ (.tmp 38) = (.bool true) := (hf 38).1 rfl
        exact Exec.kmove rfl rfl h38
      · refine StepOK.guarded (kn_stable _) 16 true 39 rfl rfl (fun ρ w _ _ hf => (hf 39).1 rfl) fun ρ w' hρ hw hf => ?_
        exact Exec.kcall #[] hρ rfl rfl (by simp []) Try.func19 (by rfl) (by rfl) ((HAW.out w').mono fun e w'' h => ⟨_, h.1, rfl, h.2⟩)
      · refine StepOK.plain (kn_stable _) rfl fun ρ w' hρ hw hf => ?_
        have h39 : ρ (.tmp 39) = (.bool true) := (hf 39).1 rfl
        have h40 : ρ (.tmp 40) = (.bool true) := (hf 40).1 rfl
        exact Exec.kpickT rfl rfl h39 h40
      · refine StepOK.plain (kn_stable _) rfl fun ρ w' hρ hw hf => ?_
        have h41 : ρ (.tmp 41) = (.bool true) := (hf 41).1 rfl
        exact Exec.kassign rfl rfl h41
    case fin =>
      intro ν' w10 hfin hx10
      have e0 : ν' 4 = .bool true := hfin 19 4 rfl
      simp only [Exit.then, ended, List.foldl_cons, List.foldl_nil, List.setIfInBounds_toArray, List.set_cons_succ, List.set_cons_zero, e0]
      have HX10 := Lib.hid (HXA.out.trans hx10)
      clear hfin hx10 e0
      go_wp2
      go_ret
      exact ⟨rfl, HX10.out⟩
end Go.Proofs.Ytdpebdbfphlmeaa
