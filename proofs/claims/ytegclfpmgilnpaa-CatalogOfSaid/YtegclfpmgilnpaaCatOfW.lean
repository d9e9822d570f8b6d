/-
  CatalogOf: the walk. MADE BY mkCatOf.py
-/
import Derived.Test.YtegclfpmgilnpaaCatS
import Derived.Test.YtegclfpmgilnpaaCatR
import Derived.Test.YtegclfpmgilnpaaCatQ
namespace Go.Proofs.Ytegclfpmgilnpaa
open Go.RowKit Go.Lac

set_option maxRecDepth 20000 in
set_option maxHeartbeats 8000000 in
theorem catalogOf_walk (va vb : Value) (a b : List Rl) (w : World) (ha : RlS (ColS w) w va a) (hb : RlS (ColS w) w vb b) (hoa : ∀ r ∈ a, r.ok ∧ r.fits) (hob : ∀ r ∈ b, r.ok ∧ r.fits) (hca : ∀ r ∈ a, r.cols.length ≤ 5864062014805) (hcb : ∀ r ∈ b, r.cols.length ≤ 5864062014805) :
    Calls Try.prog 4 #[va, vb] w fun e w' => e = .returned (.bool true) ∧ Ext w w' := by
  have HRa := Lib.hid ha; have HRb := Lib.hid hb
  have HFa := Lib.hid fun r hr => (hoa r hr).2; have HFb := Lib.hid fun r hr => (hob r hr).2
  have HCa := Lib.hid hca; have HCb := Lib.hid hcb
  obtain ⟨ao, ac, rfl, hla, hma⟩ := ha.shape
  obtain ⟨bo, bc, rfl, hlb, hmb⟩ := hb.shape
  have hm1 : a.length ≤ 9223372036854775807 := by unfold maxLen at hma; omega
  have hm2 : b.length ≤ 9223372036854775807 := by unfold maxLen at hmb; omega
  have HXw : Hid (Ext w w) := Lib.hid (Ch.refl _ _)
  clear ha hb hoa hob hca hcb hla hma hlb hmb
  generalize hna : a.length = na at *
  have HNa := Lib.hid hna; clear hna
  generalize hnb : b.length = nb at *
  have HNb := Lib.hid hnb; clear hnb
  go_enter Try.func4, Try.ntmps4
  by_cases h80a : 80 < na
  · go_wp2
    go_ret
    exact ⟨rfl, Ch.refl _ _⟩
  by_cases h80b : 80 < nb
  · go_wp2
    go_ret
    exact ⟨rfl, Ch.refl _ _⟩
  by_cases hea : (catOf [] 0 a).2.2 = 0
  · have HEa := Lib.hid hea
    have HMa : Hid ((catOf [] 0 a).2.1 = na) := Lib.hid (by rw [(catOf_perm a [] 0 hea).2, HNa.out, Nat.zero_add])
    clear hea
    have HOWa := Lib.hid (owns_any (.slice ao a.length ac) a w (by have := HRa.out.ext (Q := ColS w) HXw.out fun v c h => ColS.ext h HXw.out; rwa [← HNa.out] at this) (by rw [HNa.out]; omega) HCa.out)
    rw [HNa.out] at HOWa
    go_wp2_with fail
    refine HOWa.out.mono ?_
    rintro e w2a ⟨u2a, rfl, hx2a, cs2a, hcs2a, how2a⟩
    have HX2a := Lib.hid (HXw.out.trans hx2a)
    have HF2a := Lib.hid (ofC_any u2a a w2a ⟨cs2a, hcs2a.imp fun u c h => Sl.ofOwns h, Sl.ofOwns how2a⟩ HFa.out)
    rw [HNa.out] at how2a
    obtain ⟨u2oa, u2ca, rfl⟩ := owns_shape how2a
    have HVa := Lib.hid hx2a
    clear hx2a hcs2a how2a HOWa
    go_wp2_with fail
    refine HF2a.out.mono ?_
    rintro e w3a ⟨hx3a, (⟨-, pa, rfl, hcta⟩ | ⟨hne, -⟩)⟩
    case inr => exact absurd HEa.out hne
    rw [HNa.out]
    obtain ⟨g3a, v3a, rfl, _⟩ := id hcta
    have HCTa := Lib.hid hcta
    clear hcta
    have HX3a := Lib.hid (HX2a.out.trans hx3a)
    have HGa := Lib.hid (rOf_any (.slice ao na ac) a w3a (HRa.out.ext HX3a.out fun v c h => ColS.ext h HX3a.out) HFa.out)
    have HUa := Lib.hid hx3a
    clear hx3a HF2a
    unfold ROfPost at HGa
    rw [HMa.out, HEa.out] at HGa
    go_wp2_with fail
    refine HGa.out.mono ?_
    rintro e w4a ⟨hx4a, za, rfl, hza⟩
    obtain ⟨zoa, zca, rfl, _⟩ := hza.shape
    have HZa := Lib.hid hza
    have HX4a := Lib.hid (HX3a.out.trans hx4a)
    have HYa := Lib.hid hx4a
    clear hx4a hza HGa
    generalize hla : (catOf [] 0 a).1.length = zla at *
    by_cases heb : (catOf [] 0 b).2.2 = 0
    · have HEb := Lib.hid heb
      have HMb : Hid ((catOf [] 0 b).2.1 = nb) := Lib.hid (by rw [(catOf_perm b [] 0 heb).2, HNb.out, Nat.zero_add])
      clear heb
      have HOWb := Lib.hid (owns_any (.slice bo b.length bc) b w4a (by have := HRb.out.ext (Q := ColS w4a) HX4a.out fun v c h => ColS.ext h HX4a.out; rwa [← HNb.out] at this) (by rw [HNb.out]; omega) HCb.out)
      rw [HNb.out] at HOWb
      go_wp2_with fail
      refine HOWb.out.mono ?_
      rintro e w2b ⟨u2b, rfl, hx2b, cs2b, hcs2b, how2b⟩
      have HX2b := Lib.hid (HX4a.out.trans hx2b)
      have HF2b := Lib.hid (ofC_any u2b b w2b ⟨cs2b, hcs2b.imp fun u c h => Sl.ofOwns h, Sl.ofOwns how2b⟩ HFb.out)
      rw [HNb.out] at how2b
      obtain ⟨u2ob, u2cb, rfl⟩ := owns_shape how2b
      have HVb := Lib.hid hx2b
      clear hx2b hcs2b how2b HOWb
      go_wp2_with fail
      refine HF2b.out.mono ?_
      rintro e w3b ⟨hx3b, (⟨-, pb, rfl, hctb⟩ | ⟨hne, -⟩)⟩
      case inr => exact absurd HEb.out hne
      rw [HNb.out]
      obtain ⟨g3b, v3b, rfl, _⟩ := id hctb
      have HCTb := Lib.hid hctb
      clear hctb
      have HX3b := Lib.hid (HX2b.out.trans hx3b)
      have HGb := Lib.hid (rOf_any (.slice bo nb bc) b w3b (HRb.out.ext HX3b.out fun v c h => ColS.ext h HX3b.out) HFb.out)
      have HUb := Lib.hid hx3b
      clear hx3b HF2b
      unfold ROfPost at HGb
      rw [HMb.out, HEb.out] at HGb
      go_wp2_with fail
      refine HGb.out.mono ?_
      rintro e w4b ⟨hx4b, zb, rfl, hzb⟩
      obtain ⟨zob, zcb, rfl, _⟩ := hzb.shape
      have HZb := Lib.hid hzb
      have HX4b := Lib.hid (HX3b.out.trans hx4b)
      have HYb := Lib.hid hx4b
      clear hx4b hzb HGb
      generalize hlb : (catOf [] 0 b).1.length = zlb at *
      have HCTa4 := Lib.hid (((HCTa.out.ext HYa.out).ext HVb.out).ext HUb.out)
      have HSA := Lib.hid (csame_any _ _ (.pointer (some ⟨g3a, 0, none⟩)) (.pointer (some ⟨g3b, 0, none⟩)) (catOf [] 0 a).1 (catOf [] 0 b).1 w4b (HCTa4.out.ext HYb.out) (HCTb.out.ext HYb.out))
      have HZa4 := Lib.hid (((HZa.out.ext (Q := ColS w2b) HVb.out fun v c h => ColS.ext h HVb.out).ext (Q := ColS w3b) HUb.out fun v c h => ColS.ext h HUb.out).ext (Q := ColS w4b) HYb.out fun v c h => ColS.ext h HYb.out)
      have HSB := Lib.hid (fun w5 (hx : Ext w4b w5) => rSame9_any (.slice zoa zla zca) (.slice zob zlb zcb) (catOf [] 0 a).1 (catOf [] 0 b).1 w5 (HZa4.out.ext hx fun v c h => ColS.ext h hx) (HZb.out.ext hx fun v c h => ColS.ext h hx))
      generalize decide ((catOf [] 0 a).1 = (catOf [] 0 b).1) = D at *
      go_wp2_with fail
      refine HSA.out.mono ?_
      rintro e w5 ⟨rfl, hx5⟩
      have HX5 := Lib.hid (HX4b.out.trans hx5)
      have HSB5 := Lib.hid (HSB.out w5 hx5)
      clear hx5 HSA HSB
      go_wp2_with fail
      refine HSB5.out.mono ?_
      rintro e w6 ⟨rfl, hx6⟩
      have HX6 := Lib.hid (HX5.out.trans hx6)
      clear hx6 HSB5
      have hDD : (D == D) = true := by cases D <;> rfl
      go_wp2_with fail
      refine (awake9_any w6).mono ?_
      rintro e w9 ⟨rfl, hx9⟩
      have HX9 := Lib.hid (HX6.out.trans hx9)
      clear hx9
      go_wp2
      go_ret
      exact ⟨rfl, HX9.out⟩
    · have HEb := Lib.hid heb
      clear heb
      have HOWb := Lib.hid (owns_any (.slice bo b.length bc) b w4a (by have := HRb.out.ext (Q := ColS w4a) HX4a.out fun v c h => ColS.ext h HX4a.out; rwa [← HNb.out] at this) (by rw [HNb.out]; omega) HCb.out)
      rw [HNb.out] at HOWb
      go_wp2_with fail
      refine HOWb.out.mono ?_
      rintro e w2b ⟨u2b, rfl, hx2b, cs2b, hcs2b, how2b⟩
      have HX2b := Lib.hid (HX4a.out.trans hx2b)
      have HF2b := Lib.hid (ofC_any u2b b w2b ⟨cs2b, hcs2b.imp fun u c h => Sl.ofOwns h, Sl.ofOwns how2b⟩ HFb.out)
      rw [HNb.out] at how2b
      obtain ⟨u2ob, u2cb, rfl⟩ := owns_shape how2b
      have HVb := Lib.hid hx2b
      clear hx2b hcs2b how2b HOWb
      go_wp2_with fail
      refine HF2b.out.mono ?_
      rintro e w3b ⟨hx3b, (⟨h0, -⟩ | ⟨-, rfl⟩)⟩
      case inl => exact absurd h0 HEb.out
      have HX3b := Lib.hid (HX2b.out.trans hx3b)
      have HGb := Lib.hid (rOf_any (.slice bo nb bc) b w3b (HRb.out.ext HX3b.out fun v c h => ColS.ext h HX3b.out) HFb.out)
      have HUb := Lib.hid hx3b
      clear hx3b HF2b
      unfold ROfPost at HGb
      generalize (catOf [] 0 b).2.1 = ib at *
      generalize (catOf [] 0 b).2.2 = kb at *
      have keb : (((kb : Nat) : Int) == 0) = false := beq_eq_false_iff_ne.2 (by have := HEb.out; omega)
      go_wp2_with fail
      refine HGb.out.mono ?_
      rintro e w4b ⟨hx4b, zb, rfl, hzb⟩
      obtain ⟨zob, zcb, rfl, _⟩ := hzb.shape
      have HZb := Lib.hid hzb
      have HX4b := Lib.hid (HX3b.out.trans hx4b)
      have HYb := Lib.hid hx4b
      clear hx4b hzb HGb
      generalize hlb : (catOf [] 0 b).1.length = zlb at *
      go_wp2_with fail
      refine (awake9_any w4b).mono ?_
      rintro e w9 ⟨rfl, hx9⟩
      have HX9 := Lib.hid (HX4b.out.trans hx9)
      clear hx9
      go_wp2
      go_ret
      exact ⟨rfl, HX9.out⟩
  · have HEa := Lib.hid hea
    clear hea
    have HOWa := Lib.hid (owns_any (.slice ao a.length ac) a w (by have := HRa.out.ext (Q := ColS w) HXw.out fun v c h => ColS.ext h HXw.out; rwa [← HNa.out] at this) (by rw [HNa.out]; omega) HCa.out)
    rw [HNa.out] at HOWa
    go_wp2_with fail
    refine HOWa.out.mono ?_
    rintro e w2a ⟨u2a, rfl, hx2a, cs2a, hcs2a, how2a⟩
    have HX2a := Lib.hid (HXw.out.trans hx2a)
    have HF2a := Lib.hid (ofC_any u2a a w2a ⟨cs2a, hcs2a.imp fun u c h => Sl.ofOwns h, Sl.ofOwns how2a⟩ HFa.out)
    rw [HNa.out] at how2a
    obtain ⟨u2oa, u2ca, rfl⟩ := owns_shape how2a
    have HVa := Lib.hid hx2a
    clear hx2a hcs2a how2a HOWa
    go_wp2_with fail
    refine HF2a.out.mono ?_
    rintro e w3a ⟨hx3a, (⟨h0, -⟩ | ⟨-, rfl⟩)⟩
    case inl => exact absurd h0 HEa.out
    have HX3a := Lib.hid (HX2a.out.trans hx3a)
    have HGa := Lib.hid (rOf_any (.slice ao na ac) a w3a (HRa.out.ext HX3a.out fun v c h => ColS.ext h HX3a.out) HFa.out)
    have HUa := Lib.hid hx3a
    clear hx3a HF2a
    unfold ROfPost at HGa
    generalize (catOf [] 0 a).2.1 = ia at *
    generalize (catOf [] 0 a).2.2 = ka at *
    have kea : (((ka : Nat) : Int) == 0) = false := beq_eq_false_iff_ne.2 (by have := HEa.out; omega)
    go_wp2_with fail
    refine HGa.out.mono ?_
    rintro e w4a ⟨hx4a, za, rfl, hza⟩
    obtain ⟨zoa, zca, rfl, _⟩ := hza.shape
    have HZa := Lib.hid hza
    have HX4a := Lib.hid (HX3a.out.trans hx4a)
    have HYa := Lib.hid hx4a
    clear hx4a hza HGa
    generalize hla : (catOf [] 0 a).1.length = zla at *
    by_cases heb : (catOf [] 0 b).2.2 = 0
    · have HEb := Lib.hid heb
      have HMb : Hid ((catOf [] 0 b).2.1 = nb) := Lib.hid (by rw [(catOf_perm b [] 0 heb).2, HNb.out, Nat.zero_add])
      clear heb
      have HOWb := Lib.hid (owns_any (.slice bo b.length bc) b w4a (by have := HRb.out.ext (Q := ColS w4a) HX4a.out fun v c h => ColS.ext h HX4a.out; rwa [← HNb.out] at this) (by rw [HNb.out]; omega) HCb.out)
      rw [HNb.out] at HOWb
      go_wp2_with fail
      refine HOWb.out.mono ?_
      rintro e w2b ⟨u2b, rfl, hx2b, cs2b, hcs2b, how2b⟩
      have HX2b := Lib.hid (HX4a.out.trans hx2b)
      have HF2b := Lib.hid (ofC_any u2b b w2b ⟨cs2b, hcs2b.imp fun u c h => Sl.ofOwns h, Sl.ofOwns how2b⟩ HFb.out)
      rw [HNb.out] at how2b
      obtain ⟨u2ob, u2cb, rfl⟩ := owns_shape how2b
      have HVb := Lib.hid hx2b
      clear hx2b hcs2b how2b HOWb
      go_wp2_with fail
      refine HF2b.out.mono ?_
      rintro e w3b ⟨hx3b, (⟨-, pb, rfl, hctb⟩ | ⟨hne, -⟩)⟩
      case inr => exact absurd HEb.out hne
      rw [HNb.out]
      obtain ⟨g3b, v3b, rfl, _⟩ := id hctb
      have HCTb := Lib.hid hctb
      clear hctb
      have HX3b := Lib.hid (HX2b.out.trans hx3b)
      have HGb := Lib.hid (rOf_any (.slice bo nb bc) b w3b (HRb.out.ext HX3b.out fun v c h => ColS.ext h HX3b.out) HFb.out)
      have HUb := Lib.hid hx3b
      clear hx3b HF2b
      unfold ROfPost at HGb
      rw [HMb.out, HEb.out] at HGb
      go_wp2_with fail
      refine HGb.out.mono ?_
      rintro e w4b ⟨hx4b, zb, rfl, hzb⟩
      obtain ⟨zob, zcb, rfl, _⟩ := hzb.shape
      have HZb := Lib.hid hzb
      have HX4b := Lib.hid (HX3b.out.trans hx4b)
      have HYb := Lib.hid hx4b
      clear hx4b hzb HGb
      generalize hlb : (catOf [] 0 b).1.length = zlb at *
      go_wp2_with fail
      refine (awake9_any w4b).mono ?_
      rintro e w9 ⟨rfl, hx9⟩
      have HX9 := Lib.hid (HX4b.out.trans hx9)
      clear hx9
      go_wp2
      go_ret
      exact ⟨rfl, HX9.out⟩
    · have HEb := Lib.hid heb
      clear heb
      have HOWb := Lib.hid (owns_any (.slice bo b.length bc) b w4a (by have := HRb.out.ext (Q := ColS w4a) HX4a.out fun v c h => ColS.ext h HX4a.out; rwa [← HNb.out] at this) (by rw [HNb.out]; omega) HCb.out)
      rw [HNb.out] at HOWb
      go_wp2_with fail
      refine HOWb.out.mono ?_
      rintro e w2b ⟨u2b, rfl, hx2b, cs2b, hcs2b, how2b⟩
      have HX2b := Lib.hid (HX4a.out.trans hx2b)
      have HF2b := Lib.hid (ofC_any u2b b w2b ⟨cs2b, hcs2b.imp fun u c h => Sl.ofOwns h, Sl.ofOwns how2b⟩ HFb.out)
      rw [HNb.out] at how2b
      obtain ⟨u2ob, u2cb, rfl⟩ := owns_shape how2b
      have HVb := Lib.hid hx2b
      clear hx2b hcs2b how2b HOWb
      go_wp2_with fail
      refine HF2b.out.mono ?_
      rintro e w3b ⟨hx3b, (⟨h0, -⟩ | ⟨-, rfl⟩)⟩
      case inl => exact absurd h0 HEb.out
      have HX3b := Lib.hid (HX2b.out.trans hx3b)
      have HGb := Lib.hid (rOf_any (.slice bo nb bc) b w3b (HRb.out.ext HX3b.out fun v c h => ColS.ext h HX3b.out) HFb.out)
      have HUb := Lib.hid hx3b
      clear hx3b HF2b
      unfold ROfPost at HGb
      generalize (catOf [] 0 b).2.1 = ib at *
      generalize (catOf [] 0 b).2.2 = kb at *
      have keb : (((kb : Nat) : Int) == 0) = false := beq_eq_false_iff_ne.2 (by have := HEb.out; omega)
      go_wp2_with fail
      refine HGb.out.mono ?_
      rintro e w4b ⟨hx4b, zb, rfl, hzb⟩
      obtain ⟨zob, zcb, rfl, _⟩ := hzb.shape
      have HZb := Lib.hid hzb
      have HX4b := Lib.hid (HX3b.out.trans hx4b)
      have HYb := Lib.hid hx4b
      clear hx4b hzb HGb
      generalize hlb : (catOf [] 0 b).1.length = zlb at *
      go_wp2_with fail
      refine (awake9_any w4b).mono ?_
      rintro e w9 ⟨rfl, hx9⟩
      have HX9 := Lib.hid (HX4b.out.trans hx9)
      clear hx9
      go_wp2
      go_ret
      exact ⟨rfl, HX9.out⟩
end Go.Proofs.Ytegclfpmgilnpaa
