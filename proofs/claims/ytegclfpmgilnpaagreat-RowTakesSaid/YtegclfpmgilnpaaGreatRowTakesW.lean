import Derived.Test.YtegclfpmgilnpaaGreatGRowC
import Derived.Test.YtegclfpmgilnpaaGreatGRowA
import Derived.Test.YtegclfpmgilnpaaGreatImgE
import Derived.Test.YtegclfpmgilnpaaGreatGRef
namespace Go.Proofs.YtegclfpmgilnpaaGreat
open Go.RowKit Go.Lac
theorem fieldQT_2 (w : World) (b : Nat) : (Instr.fieldAt 34 (.pointer (some ⟨b, 0, none⟩)) 2).run Tryz.prog w = .ok (.pointer (some ⟨b, 2, none⟩)) w := by kernel_rfl
theorem rowTake_len (ver : Nat) (r : Rl) (s : RS) : (rowTake ver r s).1.1.length ≤ r.cols.length ∧ (rowTake ver r s).1.2.length ≤ r.cols.length := by
  unfold rowTake
  split
  · simp
  split
  · simp
  split
  · simp
  split
  · simp
  exact ⟨Nat.le_of_eq (rowAt_length _ _ _ _ _), rowAt_holes _ _ _ _ _⟩
def Kn.rct (l : List Cel) : Kn := ⟨fun v w => RcS w v l, fun _ _ _ k h => RcS.ext h k⟩
def rtA (ao bo ro so : Option Addr) (n1 c1 n2 c2 d1 d2 u q : Nat) (C : List Cel) (H : List Ho) (sy : RS) : Tmp → Kn
  | 44 => .is (.slice ao n1 c1)
  | 45 => Kn.rct C
  | 46 => .is (.slice ro n1 d1)
  | 47 => .is (.bool true)
  | 48 => .is (.bool true)
  | 49 => .is (.slice bo n2 c2)
  | 50 => .is (.slice so n2 d2)
  | 51 => .is (.bool true)
  | 52 => .is (.bool true)
  | 53 => .is (.bool true)
  | 54 => .is (.pointer (some ⟨u, 0, none⟩))
  | 55 => .is (.int .i64 sy.2)
  | 56 => .is (.pointer (some ⟨q, 0, none⟩))
  | 57 => .is (.pointer (some ⟨q, 0, none⟩))
  | 58 => .is (.pointer (some ⟨q, 2, none⟩))
  | 59 => .is (.int .i64 sy.2)
  | 60 => .is (.bool true)
  | 61 => .is (.bool true)
  | 62 => .is (.bool true)
  | 63 => .is (.pointer (some ⟨u, 0, none⟩))
  | 64 => .is (.int .i64 (sy.1.length : Nat))
  | 65 => .is (.pointer (some ⟨q, 0, none⟩))
  | 66 => .is (.int .i64 (sy.1.length : Nat))
  | 67 => .is (.bool true)
  | 68 => .is (.bool true)
  | 69 => .is (.bool true)
  | 70 => .is (.bool true)
  | 71 => .is (.bool true)
  | 6 => .is (.bool true)
  | _ => .any
set_option maxRecDepth 20000 in
set_option maxHeartbeats 8000000 in
theorem rowTakes_walk (vb : Value) (b : List UInt8) (r : Rl) (cv : Value) (ver : Nat) (w0 : World) (hbs : Rd w0 vb b) (hb : ColS w0 cv r.cols) (hf : r.fits) :
    Calls Tryz.prog 3 #[vb, .agg (relv r cv), .int .u8 (ver : Nat)] w0 fun e w' => e = .returned (.bool true) ∧ Ext w0 w' := by
  obtain ⟨iu, hiu, hzu, hsu, hbu⟩ := info_parts infoU8
  obtain ⟨ao, cap, rfl⟩ := hbs.shape
  have hbl : b.length ≤ maxLen := by obtain ⟨_, _, _, g1, g2, _⟩ := hbs; omega
  unfold maxLen at hbl
  obtain ⟨w, hw⟩ : ∃ w, w = w0.alloc (.cells (relv r cv) 28) := ⟨_, rfl⟩
  have hxw : Ext w0 w := by rw [hw]; exact (Ch.refl _ _).alloc _
  have hg3 : w.heap[w0.heap.size]? = some (.cells (relv r cv) 28 (0, 0)) := by rw [hw]; exact heap_alloc_new _ _
  have HXW := Lib.hid hxw; have HG3 := Lib.hid hg3; have HWW := Lib.hid hw
  have HB := Lib.hid (hbs.ext hxw); have HCC := Lib.hid (ColS.ext hb hxw); have HF := Lib.hid hf
  have HGR := Lib.hid (great10_any r (.slice none 0 0) cv [] w ⟨none, 0, rfl, Nat.le_refl _, Nat.zero_le _, fun _ => rfl, fun x hx => by cases hx⟩ HCC.out)
  obtain ⟨co, cc, hcv, _⟩ := id hb
  subst hcv
  clear hbs hb hf hxw hg3 hw
  by_cases h3 : 4000 < b.length
  · have h3' : ((b.length : Nat) : Int) > 4000 := by omega
    clear h3 hbl HGR
    generalize b.length = bl at *
    generalize r.cols.length = nq at *
    unfold relv strV at *
    generalize (⟨r.name.toArray⟩ : ByteArray) = A1 at *
    generalize r.oid = o1 at *
    generalize r.ver = o2 at *
    generalize r.ident = o3 at *
    go_enter Tryz.func3, Tryz.ntmps3
    go_wp2
    rw [← HWW.out]
    go_ret
    exact ⟨rfl, HXW.out⟩
  have h3' : ¬ ((b.length : Nat) : Int) > 4000 := by omega
  have HBL : Hid (b.length ≤ 4000) := Lib.hid (by omega)
  clear h3
  by_cases hG : GreatR [] r
  · rw [decide_eq_true hG] at HGR
    clear hG hbl
    generalize b.length = bl at *
    generalize r.cols.length = nq at *
    unfold relv strV at *
    generalize (⟨r.name.toArray⟩ : ByteArray) = A1 at *
    generalize r.oid = o1 at *
    generalize r.ver = o2 at *
    generalize r.ident = o3 at *
    go_enter Tryz.func3, Tryz.ntmps3
    go_wp2_with fail
    rw [← HWW.out]
    refine HGR.out.mono ?_
    rintro e w1 ⟨rfl, hx1⟩
    have HX1 := Lib.hid (HXW.out.trans hx1); clear hx1
    go_wp2
    go_ret
    exact ⟨rfl, HX1.out⟩
  rw [decide_eq_false hG] at HGR
  have HC20 : Hid (r.cols.length ≤ 20) := Lib.hid (Nat.le_of_not_lt fun h => hG (.inr (.inr (.inr (.inl h)))))
  have HRDF := Lib.hid (fun w h => read_any (.slice ao b.length cap) b w h (by have := HBL.out; omega))
  have hempty := fun w => emptyU8 w
  clear hG hbl
  unfold relv strV at *
  go_enter Tryz.func3, Tryz.ntmps3
  go_wp2_with fail
  rw [← HWW.out]
  refine HGR.out.mono ?_
  rintro e wg ⟨rfl, hxg⟩
  have HXg := Lib.hid (HXW.out.trans hxg); have HGg := Lib.hid (heap_ext hxg HG3.out); have HBg := Lib.hid (HB.out.ext hxg); have HCg := Lib.hid (ColS.ext HCC.out hxg)
  have HSg : Hid (w0.heap.size < wg.heap.size) := Lib.hid (Array.getElem?_eq_some_iff.1 HGg.out).1
  have HRD := Lib.hid (HRDF.out wg HBg.out)
  clear hxg HGR HRDF
  go_wp2_with fail
  refine HRD.out.mono ?_
  rintro e w1 ⟨u, rfl, x1, r1, hr1⟩
  have HB1 := Lib.hid (Rd.ext HBg.out x1); have X1 : Hid (Ext wg w1) := Lib.hid x1; have R1 := Lib.hid r1; have HR1 := Lib.hid hr1; clear x1 r1 hr1
  unfold RPtr
  go_wp2_with (at_builtin; refine wpList_append_sl (P := Tryz.prog) _ rfl _ _ 22 rfl (w1.heap.size) 5 iu (.int .u8 0) 1 1 Tryz.underlying22 hiu hzu hsu hbu rfl (by decide) _ 0 [] rfl ?c0 _ b.length (cellsB b) rfl ?c1 ?c2 ?c3 ?c4 ?c5 ?c6 ?_)
  case c0 => exact owns_empty w1 _
  case c1 => exact Sl.ext HB1.out ((Ch.refl _ _).alloc _)
  case c2 => simp [cellsB]
  case c3 => exact cellsB_one b
  case c4 => have := HBL.out; omega
  case c5 => have := HBL.out; unfold maxLen; omega
  case c6 => simp
  intro v2 w2 hown hgrow
  have hx2 := ((Ch.refl (fun _ => False) w1).alloc (.cells #[] 5)).grown hgrow fun k hk => .inr ((owns_empty w1 5).lt k hk).1
  have X2 : Hid (Ext wg w2) := Lib.hid (X1.out.trans hx2); have R2 := Lib.hid (R1.out.ext hx2)
  have hq : IsQ (w2.alloc (.cells #[v2, .int .i64 0, .int .i64 0] 34)) w2.heap.size (b, 0) :=
    ⟨v2, b, 0, heap_alloc_new w2 _, ⟨(Rd.ofOwns hown).ext ((Ch.refl _ _).alloc _), strict_owns hown, fun _ x l c e => (hown.lt x.block (by rw [e]; rfl)).2⟩, Nat.zero_le _, rfl⟩
  obtain ⟨W3, hW3⟩ : ∃ W3, W3 = w2.alloc (.cells #[v2, .int .i64 0, .int .i64 0] 34) := ⟨_, rfl⟩
  rw [← hW3] at hq
  have hx3 : Ext wg W3 := by rw [hW3]; exact X2.out.alloc _
  have hr3 : IsR W3 u (b, 0) := by rw [hW3]; exact R2.out.ext ((Ch.refl _ _).alloc _)
  obtain ⟨q, hqe⟩ : ∃ q, q = w2.heap.size := ⟨_, rfl⟩
  rw [← hqe] at hq
  have HUQ : Hid (u < q) := Lib.hid (by rw [hqe]; exact R2.out.lt)
  have HUG : Hid (w0.heap.size < u) := Lib.hid (by have := HR1.out; have := HSg.out; omega)
  obtain ⟨ao2, cp2, rfl⟩ := owns_shape hown
  have HQ3 := Lib.hid hq; have HX3 := Lib.hid (HXg.out.trans hx3); have HR3 := Lib.hid hr3; have HG3' := Lib.hid (heap_ext hx3 HGg.out); have HC3 := Lib.hid (ColS.ext HCg.out hx3)
  have HW3 := Lib.hid hW3; have HQE0 := Lib.hid hqe
  obtain ⟨p0, p1, p2, p3, p4⟩ := row5 HG3'.out
  rw [hW3] at p0 p1 p2 p3 p4
  clear hown hgrow hx2 hq hx3 hr3 X2 R2 R1 HB1 X1 HRD hiu hzu hsu hbu hempty hW3 hqe h3'
  have HOW := Lib.hid (relOwn_any r (.slice co r.cols.length cc) W3 HC3.out (by have := HC20.out; omega))
  unfold relv strV at HOW
  go_wp2_with fail
  rw [← HW3.out]
  refine HOW.out.mono ?_
  rintro e w4 ⟨cx, rfl, hx4, hcx⟩
  obtain ⟨xo, xc, rfl⟩ := owns_shape hcx
  have HX4 := Lib.hid (HX3.out.trans hx4); have HR4 := Lib.hid (HR3.out.ext hx4); have HQ4 := Lib.hid (HQ3.out.ext hx4); have HG4 := Lib.hid (heap_ext hx4 HG3'.out); have HC4 := Lib.hid (ColS.ext HC3.out hx4)
  have HCX : Hid (ColS w4 (.slice xo r.cols.length xc) r.cols) := Lib.hid (Sl.ofOwns hcx)
  have HTK := Lib.hid (rowTake_any r (.slice xo r.cols.length xc) u (b, 0) ver w4 HCX.out HF.out HR4.out)
  clear p0 p1 p2 p3 p4 hx4 hcx HOW
  unfold relv strV RPtr at HTK
  go_wp2_with fail
  refine HTK.out.mono ?_
  rintro e w5 ⟨av, bv, rfl, k1, k2, k3, k4⟩
  obtain ⟨X, hX⟩ : ∃ X, X = rowTake ver r (b, 0) := ⟨_, rfl⟩
  rw [← hX] at k2 k3 k4
  have HX' := Lib.hid hX
  obtain ⟨avo, avc, rfl⟩ := owns_shape k3
  obtain ⟨bvo, bvc, rfl⟩ := owns_shape k4
  have HX5 : Hid (Ch (fun k => k = u) w0 w5) := Lib.hid ((Ext.ch HX4.out).trans k1)
  have HR5 := Lib.hid k2; have HQ5 := Lib.hid (HQ4.out.otherR HR4.out (by have := HUQ.out; omega) k1)
  have HG5 := Lib.hid (heap_of_only k1 (by have := HUG.out; omega) HG4.out); have HC5 := Lib.hid (colS_only HC4.out HR4.out k1)
  have HA5 := Lib.hid k3; have HB5 := Lib.hid k4; have HQL4 := Lib.hid HQ4.out.lt
  obtain ⟨p0, p1, p2, p3, p4⟩ := row5 HG5.out
  have HQK := Lib.hid (qrow_any r (.slice co r.cols.length cc) q (b, 0) ver w5 HC5.out HF.out HQ5.out)
  clear k1 k2 k3 k4 hX HTK
  unfold relv strV QPtr at HQK
  generalize hn1 : X.1.1.length = n1 at *
  generalize hn2 : X.1.2.length = n2 at *
  have HN1 := Lib.hid hn1; have HN2 := Lib.hid hn2
  clear hn1 hn2
  rw [← HQE0.out]
  go_wp2_with fail
  refine HQK.out.mono ?_
  rintro e w6 ⟨rv', sv, rfl, k1, k2, k3, k4⟩
  rw [← HX'.out] at k2 k3 k4
  obtain ⟨rvo, rvc, rfl⟩ := owns_shape k3
  obtain ⟨svo, svc, rfl⟩ := owns_shape k4
  rw [HN1.out, HN2.out]
  have HR6 : Hid (IsW w6 u X.2) := Lib.hid (HR5.out.weak.same (k1.block u HR5.out.lt (by have := HUQ.out; omega)))
  have HQ6 := Lib.hid k2
  have HX6 : Hid (Ext w0 w6) := Lib.hid ((HX5.out.mono fun j _ h => (show j = u ∨ j = q from .inl h)).trans (k1.mono fun j _ h => .inr h) |>.mono fun j hj h => by have h1 := HUG.out; have h2 := HUQ.out; omega)
  have HA6 : Hid (PcS w6 (.slice avo n1 avc) X.1.1) := Lib.hid (by
    have := own_chK HA5.out k1 fun j hj e => by have h1 := (World.ownsRow.lt HA5.out j hj).1; have := HQL4.out; omega
    exact Sl.ofOwns this)
  have HB6 : Hid (HoS w6 (.slice bvo n2 bvc) X.1.2) := Lib.hid (by
    have := own_chK HB5.out k1 fun j hj e => by have h1 := (World.ownsRow.lt HB5.out j hj).1; have := HQL4.out; omega
    exact Sl.ofOwns this)
  have HRA6 : Hid (RcS w6 (.slice rvo n1 rvc) X.1.1) := Lib.hid (by have h := Sl.ofOwns k3; rw [HN1.out] at h; unfold RcS; rw [HN1.out]; exact h)
  have HRB6 : Hid (HoS w6 (.slice svo n2 svc) X.1.2) := Lib.hid (by have h := Sl.ofOwns k4; rw [HN2.out] at h; unfold HoS; rw [HN2.out]; exact h)
  have HXL : Hid (X.1.1.length ≤ 20) := Lib.hid (by rw [HX'.out]; exact Nat.le_trans (rowTake_len ver r (b, 0)).1 HC20.out)
  have HBK : Hid (∀ W', Ext w6 W' → Calls Tryz.prog 12 #[.slice avo n1 avc] W' fun e w'' => ∃ y, e = .returned y ∧ Ext W' w'' ∧ (Kn.rct X.1.1).holds y w'') := Lib.hid (fun W' h => (back10_any _ X.1.1 W' (PcS.ext HA6.out h) (by have := HXL.out; omega)).mono fun e w'' ⟨y, h1, h2, h3⟩ => ⟨y, h1, h2, h3.s⟩)
  have HSM : Hid (∀ v W', Ext w6 W' → (Kn.rct X.1.1).holds v W' → Calls Tryz.prog 11 #[v, .slice rvo n1 rvc] W' fun e w'' => e = .returned (.bool true) ∧ Ext W' w'') := Lib.hid (fun v W' h hv => (sameR_any v _ X.1.1 X.1.1 W' hv (RcS.ext HRA6.out h)).mono fun e w'' h => ⟨by rw [h.1, decide_eq_true rfl], h.2⟩)
  have HHE : Hid (∀ W', Ext w6 W' → Calls Tryz.prog 13 #[.slice bvo n2 bvc, .slice svo n2 svc] W' fun e w'' => e = .returned (.bool true) ∧ Ext W' w'') := Lib.hid (fun W' h => holesEq_any _ _ X.1.2 W' (HoS.ext HB6.out h) (HoS.ext HRB6.out h))
  have HER : Hid (∀ W', Ext w6 W' → Calls Tryz.prog 14 #[.pointer (some ⟨u, 0, none⟩)] W' fun e w'' => e = .returned (.int .i64 X.2.2) ∧ Ext W' w'') := Lib.hid (fun W' h => (err_w u X.2 W' (HR6.out.ext h)).mono fun e w'' k => ⟨k.1, by rw [← k.2]; exact Ch.refl _ _⟩)
  have HLF : Hid (∀ W', Ext w6 W' → Calls Tryz.prog 15 #[.pointer (some ⟨u, 0, none⟩)] W' fun e w'' => e = .returned (.int .i64 (X.2.1.length : Nat)) ∧ Ext W' w'') := Lib.hid (fun W' h => (left_w u X.2 W' (HR6.out.ext h)).mono fun e w'' k => ⟨k.1, by rw [← k.2]; exact Ch.refl _ _⟩)
  have HQF : Hid (∀ W', Ext w6 W' → Calls Tryz.prog 16 #[.pointer (some ⟨q, 0, none⟩)] W' fun e w'' => e = .returned (.int .i64 (X.2.1.length : Nat)) ∧ Ext W' w'') := Lib.hid (fun W' h => (qleft_any q X.2 W' (HQ6.out.ext h)).mono fun e w'' k => ⟨k.1, by obtain ⟨_, n, rfl⟩ := k; exact ext_drewN _ _⟩)
  have HQE : Hid (w6.cell? ⟨q, 2, none⟩ = some (.int .i64 X.2.2)) := Lib.hid HQ6.out.errR
  have HAW := Lib.hid awake10_any
  obtain ⟨⟨C, H⟩, sy⟩ := X
  simp only at *
  clear k1 k2 k3 k4 HQK p0 p1 p2 p3 p4 HX' HN1 HN2 HR6 HQ6 HA6 HB6 HRA6 HRB6 HXL HA5 HB5 HR5 HQ5 HG5 HC5 HX5 HR4 HQ4 HG4 HC4 HCX HX4 HR3 HQ3 HG3' HC3
  go_wp2
  refine wp_region_ext (rtA avo bvo rvo svo n1 avc n2 bvc rvc svc u q C H sy) mixedR (by rfl) (by rfl) ?all ?fin
  case all =>
    refine ⟨?_, ?_, ?_, ?_, ?_, ?_, ?_, ?_, ?_, ?_, ?_, ?_, ?_, ?_, ?_, ?_, ?_, ?_, ?_, ?_, ?_, ?_, ?_, ?_, ?_, ?_, ?_, ?_, ?_, trivial⟩
    · refine StepOK.plain (kn_stable _) rfl fun ρ w' hρ hw hf => ?_
      have h9 : ρ (.tmp 9) = (.slice avo n1 avc) := (hf 9).2 rfl rfl
      exact Exec.kmove rfl rfl h9
    · refine StepOK.plain (kn_stable _) rfl fun ρ w' hρ hw hf => ?_
      have h44 : ρ (.tmp 44) = (.slice avo n1 avc) := (hf 44).1 rfl
      exact Exec.kcall #[(.slice avo n1 avc)] hρ rfl rfl (by simp [h44]) Tryz.func12 (by rfl) (by rfl) ((HBK.out w' hw).mono fun e w'' ⟨y, h1, h2, h3⟩ => ⟨y, h1, h3, h2⟩)
    · refine StepOK.plain (kn_stable _) rfl fun ρ w' hρ hw hf => ?_
      have h11 : ρ (.tmp 11) = (.slice rvo n1 rvc) := (hf 11).2 rfl rfl
      exact Exec.kmove rfl rfl h11
    · refine StepOK.plain (kn_stable _) rfl fun ρ w' hρ hw hf => ?_
      have h45 : (Kn.rct C).holds (ρ (.tmp 45)) w' := (hf 45).1 rfl
      have h46 : ρ (.tmp 46) = (.slice rvo n1 rvc) := (hf 46).1 rfl
      exact Exec.kcall #[ρ (.tmp 45), (.slice rvo n1 rvc)] hρ rfl rfl (by simp [h46]) Tryz.func11 (by rfl) (by rfl) ((HSM.out _ w' hw h45).mono fun e w'' h => ⟨_, h.1, rfl, h.2⟩)
    · refine StepOK.plain (kn_stable _) rfl fun ρ w' hρ hw hf => ?_
      have h47 : ρ (.tmp 47) = (.bool true) := (hf 47).1 rfl
      exact Exec.kmove rfl rfl h47
    · refine StepOK.guarded (kn_stable _) 4 true 48 rfl rfl (fun ρ w _ _ hf => (hf 48).1 rfl) fun ρ w' hρ hw hf => ?_
      have h10 : ρ (.tmp 10) = (.slice bvo n2 bvc) := (hf 10).2 rfl rfl
      exact Exec.kmove rfl rfl h10
    · refine StepOK.guarded (kn_stable _) 4 true 48 rfl rfl (fun ρ w _ _ hf => (hf 48).1 rfl) fun ρ w' hρ hw hf => ?_
      have h12 : ρ (.tmp 12) = (.slice svo n2 svc) := (hf 12).2 rfl rfl
      exact Exec.kmove rfl rfl h12
    · refine StepOK.guarded (kn_stable _) 4 true 48 rfl rfl (fun ρ w _ _ hf => (hf 48).1 rfl) fun ρ w' hρ hw hf => ?_
      have h49 : ρ (.tmp 49) = (.slice bvo n2 bvc) := (hf 49).1 rfl
      have h50 : ρ (.tmp 50) = (.slice svo n2 svc) := (hf 50).1 rfl
      exact Exec.kcall #[(.slice bvo n2 bvc), (.slice svo n2 svc)] hρ rfl rfl (by simp [h49, h50]) Tryz.func13 (by rfl) (by rfl) ((HHE.out w' hw).mono fun e w'' h => ⟨_, h.1, rfl, h.2⟩)
    · refine StepOK.plain (kn_stable _) rfl fun ρ w' hρ hw hf => ?_
      have h48 : ρ (.tmp 48) = (.bool true) := (hf 48).1 rfl
      have h51 : ρ (.tmp 51) = (.bool true) := (hf 51).1 rfl
      exact Exec.kpickT rfl rfl h48 h51
    · refine StepOK.plain (kn_stable _) rfl fun ρ w' hρ hw hf => ?_
      have h52 : ρ (.tmp 52) = (.bool true) := (hf 52).1 rfl
      exact Exec.kmove rfl rfl h52
    · refine StepOK.guarded (kn_stable _) 9 true 53 rfl rfl (fun ρ w _ _ hf => (hf 53).1 rfl) fun ρ w' hρ hw hf => ?_
      have h7 : ρ (.tmp 7) = (.pointer (some ⟨u, 0, none⟩)) := (hf 7).2 rfl rfl
      exact Exec.kmove rfl rfl h7
    · refine StepOK.guarded (kn_stable _) 9 true 53 rfl rfl (fun ρ w _ _ hf => (hf 53).1 rfl) fun ρ w' hρ hw hf => ?_
      have h54 : ρ (.tmp 54) = (.pointer (some ⟨u, 0, none⟩)) := (hf 54).1 rfl
      exact Exec.kcall #[(.pointer (some ⟨u, 0, none⟩))] hρ rfl rfl (by simp [h54]) Tryz.func14 (by rfl) (by rfl) ((HER.out w' hw).mono fun e w'' h => ⟨_, h.1, rfl, h.2⟩)
    · refine StepOK.guarded (kn_stable _) 9 true 53 rfl rfl (fun ρ w _ _ hf => (hf 53).1 rfl) fun ρ w' hρ hw hf => ?_
      have h8 : ρ (.tmp 8) = (.pointer (some ⟨q, 0, none⟩)) := (hf 8).2 rfl rfl
      exact Exec.kmove rfl rfl h8
    · refine StepOK.guarded (kn_stable _) 9 true 53 rfl rfl (fun ρ w _ _ hf => (hf 53).1 rfl) fun ρ w' hρ hw hf => ?_
      have h56 : ρ (.tmp 56) = (.pointer (some ⟨q, 0, none⟩)) := (hf 56).1 rfl
      exact Exec.same (v := (.pointer (some ⟨q, 0, none⟩))) rfl (by simp [go_sem, hρ.const, h56]) rfl
    · refine StepOK.guarded (kn_stable _) 9 true 53 rfl rfl (fun ρ w _ _ hf => (hf 53).1 rfl) fun ρ w' hρ hw hf => ?_
      have h57 : ρ (.tmp 57) = (.pointer (some ⟨q, 0, none⟩)) := (hf 57).1 rfl
      exact Exec.kfield rfl rfl h57 (fieldQT_2 w' _) rfl
    · refine StepOK.guarded (kn_stable _) 9 true 53 rfl rfl (fun ρ w _ _ hf => (hf 53).1 rfl) fun ρ w' hρ hw hf => ?_
      have h58 : ρ (.tmp 58) = (.pointer (some ⟨q, 2, none⟩)) := (hf 58).1 rfl
      have hc : w'.cell? ⟨q, 2, none⟩ = some (.int .i64 sy.2) := hw.cell (p := ⟨q, 2, none⟩) (fun f => f) _ (HQE.out)
      exact Exec.same (v := (.int .i64 sy.2)) rfl (by simp [go_sem, hρ.const, h58, hc, strV]) rfl
    · refine StepOK.guarded (kn_stable _) 9 true 53 rfl rfl (fun ρ w _ _ hf => (hf 53).1 rfl) fun ρ w' hρ hw hf => ?_
      have h55 : ρ (.tmp 55) = (.int .i64 sy.2) := (hf 55).1 rfl
      have h59 : ρ (.tmp 59) = (.int .i64 sy.2) := (hf 59).1 rfl
      exact Exec.same (v := (.bool true)) rfl (by simp [go_sem, hρ.const, h55, h59]) rfl
    · refine StepOK.plain (kn_stable _) rfl fun ρ w' hρ hw hf => ?_
      have h53 : ρ (.tmp 53) = (.bool true) := (hf 53).1 rfl
      have h60 : ρ (.tmp 60) = (.bool true) := (hf 60).1 rfl
      exact Exec.kpickT rfl rfl h53 h60
    · refine StepOK.plain (kn_stable _) rfl fun ρ w' hρ hw hf => ?_
      have h61 : ρ (.tmp 61) = (.bool true) := (hf 61).1 rfl
      exact Exec.kmove rfl rfl h61
    · refine StepOK.guarded (kn_stable _) 18 true 62 rfl rfl (fun ρ w _ _ hf => (hf 62).1 rfl) fun ρ w' hρ hw hf => ?_
      have h7 : ρ (.tmp 7) = (.pointer (some ⟨u, 0, none⟩)) := (hf 7).2 rfl rfl
      exact Exec.kmove rfl rfl h7
    · refine StepOK.guarded (kn_stable _) 18 true 62 rfl rfl (fun ρ w _ _ hf => (hf 62).1 rfl) fun ρ w' hρ hw hf => ?_
      have h63 : ρ (.tmp 63) = (.pointer (some ⟨u, 0, none⟩)) := (hf 63).1 rfl
      exact Exec.kcall #[(.pointer (some ⟨u, 0, none⟩))] hρ rfl rfl (by simp [h63]) Tryz.func15 (by rfl) (by rfl) ((HLF.out w' hw).mono fun e w'' h => ⟨_, h.1, rfl, h.2⟩)
    · refine StepOK.guarded (kn_stable _) 18 true 62 rfl rfl (fun ρ w _ _ hf => (hf 62).1 rfl) fun ρ w' hρ hw hf => ?_
      have h8 : ρ (.tmp 8) = (.pointer (some ⟨q, 0, none⟩)) := (hf 8).2 rfl rfl
      exact Exec.kmove rfl rfl h8
    · refine StepOK.guarded (kn_stable _) 18 true 62 rfl rfl (fun ρ w _ _ hf => (hf 62).1 rfl) fun ρ w' hρ hw hf => ?_
      have h65 : ρ (.tmp 65) = (.pointer (some ⟨q, 0, none⟩)) := (hf 65).1 rfl
      exact Exec.kcall #[(.pointer (some ⟨q, 0, none⟩))] hρ rfl rfl (by simp [h65]) Tryz.func16 (by rfl) (by rfl) ((HQF.out w' hw).mono fun e w'' h => ⟨_, h.1, rfl, h.2⟩)
    · refine StepOK.guarded (kn_stable _) 18 true 62 rfl rfl (fun ρ w _ _ hf => (hf 62).1 rfl) fun ρ w' hρ hw hf => ?_
      have h64 : ρ (.tmp 64) = (.int .i64 (sy.1.length : Nat)) := (hf 64).1 rfl
      have h66 : ρ (.tmp 66) = (.int .i64 (sy.1.length : Nat)) := (hf 66).1 rfl
      exact Exec.same (v := (.bool true)) rfl (by simp [go_sem, hρ.const, h64, h66]) rfl
    · refine StepOK.plain (kn_stable _) rfl fun ρ w' hρ hw hf => ?_
      have h62 : ρ (.tmp 62) = (.bool true) := (hf 62).1 rfl
      have h67 : ρ (.tmp 67) = (.bool true) := (hf 67).1 rfl
      exact Exec.kpickT rfl rfl h62 h67
    · refine StepOK.plain (kn_stable _) rfl fun ρ w' hρ hw hf => ?_
      have h68 : ρ (.tmp 68) = (.bool true) := (hf 68).1 rfl
      exact Exec.kmove rfl rfl h68
    · refine StepOK.guarded (kn_stable _) 25 true 69 rfl rfl (fun ρ w _ _ hf => (hf 69).1 rfl) fun ρ w' hρ hw hf => ?_
      exact Exec.kcall #[] hρ rfl rfl (by simp []) Tryz.func17 (by rfl) (by rfl) ((HAW.out w').mono fun e w'' h => ⟨_, h.1, rfl, h.2⟩)
    · refine StepOK.plain (kn_stable _) rfl fun ρ w' hρ hw hf => ?_
      have h69 : ρ (.tmp 69) = (.bool true) := (hf 69).1 rfl
      have h70 : ρ (.tmp 70) = (.bool true) := (hf 70).1 rfl
      exact Exec.kpickT rfl rfl h69 h70
    · refine StepOK.plain (kn_stable _) rfl fun ρ w' hρ hw hf => ?_
      have h71 : ρ (.tmp 71) = (.bool true) := (hf 71).1 rfl
      exact Exec.kassign rfl rfl h71
  case fin =>
    intro ν w9 hfin hx9
    have e0 : ν 6 = .bool true := hfin 28 6 rfl
    simp only [Exit.then, ended, List.foldl_cons, List.foldl_nil, List.setIfInBounds_toArray, List.set_cons_succ, List.set_cons_zero, e0]
    have HX9 := Lib.hid (HX6.out.trans hx9)
    clear hfin hx9 e0
    go_wp2
    go_ret
    exact ⟨rfl, HX9.out⟩
end Go.Proofs.YtegclfpmgilnpaaGreat
