/-
  CatalogOrder: the walk.
-/
import Derived.Test.YtegclfpmgilnpaaCatS
import Derived.Test.YtegclfpmgilnpaaCatR
import Derived.Test.YtegclfpmgilnpaaCatQ
namespace Go.Proofs.Ytegclfpmgilnpaa
open Go.RowKit Go.Lac

set_option maxRecDepth 20000 in
set_option maxHeartbeats 4000000 in
theorem catalogOrder_walk (v : Value) (l : List Rl) (w : World) (h : RlS (ColS w) w v l) (hok : ∀ r ∈ l, r.ok ∧ r.fits) :
    Calls Try.prog 5 #[v] w fun e w' => e = .returned (.bool true) ∧ Ext w w' := by
  have HOF := Lib.hid (rOf_any v l w h fun r hr => (hok r hr).2)
  have HR := Lib.hid h; have HF := Lib.hid fun r hr => (hok r hr).2
  obtain ⟨ao, cap, rfl, hlc, hcm⟩ := h.shape
  obtain ⟨ci, chi, cz, chs, cby⟩ := info_parts infoQlZ
  have CHI := Lib.hid chi; have CHS := Lib.hid chs; have CHZ := Lib.hid cz; have CBY := Lib.hid cby
  have hm63 : l.length ≤ 9223372036854775807 := by unfold maxLen at hcm; omega
  clear h hok hlc chi cz chs cby hcm
  generalize hn : l.length = n at *
  have HN := Lib.hid hn; clear hn
  go_enter Try.func5, Try.ntmps5
  go_wp2_with fail
  refine HOF.out.mono ?_
  rintro e w1 ⟨hx1, v1, rfl, hs1⟩
  have HX1 := Lib.hid hx1; have HS1 := Lib.hid hs1
  obtain ⟨so, sc, rfl, _⟩ := hs1.shape
  clear hx1 hs1 HOF
  by_cases h60 : 60 < n
  · generalize (catOf [] 0 l).2.1 = a1 at *
    generalize (catOf [] 0 l).2.2 = a2 at *
    go_wp2
    go_ret
    exact ⟨rfl, HX1.out⟩
  by_cases he : (catOf [] 0 l).2.2 = 0
  case neg =>
    have en : ((((catOf [] 0 l).2.2 : Nat) : Int) != 0) = true := by simp; omega
    clear he
    generalize (catOf [] 0 l).2.1 = a1 at *
    generalize (catOf [] 0 l).2.2 = a2 at *
    go_wp2
    go_ret
    exact ⟨rfl, HX1.out⟩
  rw [he]
  have HE := Lib.hid he
  have HZ := Lib.hid ((catOf_zero l [] 0).1 he)
  have HC6 : Hid (∀ r ∈ l, r.cols.length ≤ 1000000) := Lib.hid fun r hr => by have := (rlErr_zero (HZ.out.1 r hr)).2.2.2.2.2.1; omega
  clear he
  generalize (catOf [] 0 l).2.1 = a1 at *
  generalize hL : (catOf [] 0 l).1 = L at *
  have HL := Lib.hid hL
  have HLK : Hid (CatOk L) := Lib.hid (by rw [← hL]; exact catOf_ok l [] 0 CatOk.nil)
  have HLR : Hid ((catOf [] 0 l.reverse).2.2 = 0 ∧ (catOf [] 0 l.reverse).1 = L) := Lib.hid (by rw [catOf_reverse HE.out]; exact ⟨HE.out, hL⟩)
  clear hL
  generalize L.length = m at *
  go_wp2
  go_loopw [6, 7] (fun vb ix wr => ∃ k : Nat, k ≤ n ∧ ix = .int .i64 ((k : Int) - 1) ∧ Hid (Ext w wr ∧ Ext w1 wr) ∧ Hid (OutS w1.heap.size w wr vb (l.drop k).reverse)) (fun _ ix _ => (intOf ix + 1).toNat)
  case atStart => exact ⟨n, Nat.le_refl _, rfl, Lib.hid ⟨HX1.out, Ch.refl _ _⟩, Lib.hid ⟨[], by rw [← HN.out, List.drop_length]; rfl, by rw [← HN.out, List.drop_length]; exact World.ownsRow_nil _ _ _ _⟩⟩
  case round =>
    obtain ⟨k, hk, rfl, HX, HO⟩ := hrel
    cases k with
    | succ k =>
      rw [show (((k + 1 : Nat) : Int) - 1) = ((k : Nat) : Int) by omega]
      have hlt : k < n := hk
      have hkl : k < l.length := by have := HN.out; omega
      obtain ⟨b, o, xv, rfl, hra0, hxv⟩ := rlS_at HR.out hkl
      have hra : wr.rangeAt b (o + k * 5) (relv l[k] xv).toList := fun j u hu => HX.out.1.cell (p := ⟨b, o + k * 5 + j, none⟩) (fun f => f) _ (hra0 j u hu)
      have HDR : Hid ((l.drop k).reverse = (l.drop (k + 1)).reverse ++ [l[k]]) := Lib.hid (by rw [List.drop_eq_getElem_cons hkl, List.reverse_cons])
      have HDL : Hid ((l.drop (k + 1)).reverse.length ≤ 64) := Lib.hid (by have := HN.out; rw [List.length_reverse, List.length_drop]; omega)
      have HXV := Lib.hid hxv
      generalize l[k] = x at *
      obtain ⟨xo, xc, rfl, _⟩ := id hxv
      have hidx := run_indexSl wr Try.underlying22 CHI.out CHS.out b o n cap k hlt
      have q0 : wr.cell? ⟨b, o + k * 5, none⟩ = some (.int .u32 (x.oid : Nat)) := by have := hra 0 _ rfl; simpa using this
      have q1 : wr.cell? ⟨b, o + k * 5 + 1, none⟩ = some (.int .u32 (x.ver : Nat)) := hra 1 _ rfl
      have q2 : wr.cell? ⟨b, o + k * 5 + 2, none⟩ = some (.string ⟨x.name.toArray⟩) := hra 2 _ rfl
      have q3 : wr.cell? ⟨b, o + k * 5 + 3, none⟩ = some (.int .u8 (x.ident : Nat)) := hra 3 _ rfl
      have q4 : wr.cell? ⟨b, o + k * 5 + 4, none⟩ = some (.slice xo x.cols.length xc) := hra 4 _ rfl
      have hone := fun w => oneQl w (x.oid : Nat) (x.ver : Nat) ⟨x.name.toArray⟩ (x.ident : Nat) xo x.cols.length xc
      obtain ⟨cs, hcs, how⟩ := HO.out
      obtain ⟨vo, vc, rfl⟩ := owns_shape how
      obtain ⟨W2, hW2⟩ : ∃ W', W' = wr.alloc (.cells #[.int .u32 (x.oid : Nat), .int .u32 (x.ver : Nat), .string ⟨x.name.toArray⟩, .int .u8 (x.ident : Nat), .slice xo x.cols.length xc] 33) := ⟨_, rfl⟩
      have hxa : Ext wr W2 := by rw [hW2]; exact (Ch.refl _ _).alloc _
      have HRW : Hid (W2.heap[wr.heap.size]? = some (.cells #[.int .u32 (x.oid : Nat), .int .u32 (x.ver : Nat), .string ⟨x.name.toArray⟩, .int .u8 (x.ident : Nat), .slice xo x.cols.length xc] 33 (0, 0))) := Lib.hid (by rw [hW2]; exact heap_alloc_new wr _)
      have HOA := Lib.hid (how.ext hxa); have HCA := Lib.hid hcs
      have HXA := Lib.hid (HX.out.1.trans hxa); have HX1A := Lib.hid (HX.out.2.trans hxa); have HWA := Lib.hid hW2
      have hol := HDL.out
      have HLT := Lib.hid hlt
      clear hW2 hxa hcs how hra0 hra hxv hkl
      generalize hlo : (l.drop (k + 1)).reverse.length = lo at *
      have HLO := Lib.hid hlo; clear hlo
      go_wp2_with (at_builtin; rw [← HWA.out]; refine wpList_append_sl _ rfl _ _ 22 rfl w1.heap.size 33 ci (.agg #[.int .u32 0, .int .u32 0, .string ⟨#[]⟩, .int .u8 0, .slice none 0 0]) 5 56 Try.underlying22 CHI.out CHZ.out CHS.out CBY.out rfl (by decide) _ _ _ rfl HOA.out _ 1 _ rfl (sl_row HRW.out) rfl (fun u hu => RlC.oneS (w := w) (RlC.one (r := x) HXV.out) u hu) (by omega) (by unfold maxLen; omega) HX1A.out.size ?_)
      intro v5 w5 hown5 hgrow
      have HX5 : Hid (Ext w w5 ∧ Ext w1 w5) := Lib.hid ⟨HXA.out.grown hgrow fun j hj => .inr (Nat.le_trans HX1.out.size (HOA.out.lt j hj).1), HX1A.out.grown hgrow fun j hj => .inr (HOA.out.lt j hj).1⟩
      have HO5 : Hid (OutS w1.heap.size w w5 v5 ((l.drop k).reverse)) := Lib.hid (by
        rw [HDR.out]
        exact ⟨_, HCA.out.append (RlC.one HXV.out), by rw [List.length_append, HLO.out]; exact hown5⟩)
      clear hown5 hgrow hone q0 q1 q2 q3 q4 hidx
      go_wp2
      go_roundw
      case rel => exact ⟨k, by have := HLT.out; omega, by simp, HX5, HO5⟩
      case measure => simp [intOf]
    | zero =>
      rw [show (((0 : Nat) : Int) - 1) = -1 by rfl]
      have hl60 : l.length ≤ 1000000 := by have := HN.out; omega
      have HOW := Lib.hid (owns_any (.slice ao l.length cap) l wr (by have := HR.out.ext (Q := ColS wr) HX.out.1 fun v c h => ColS.ext h HX.out.1; rwa [← HN.out] at this) hl60 fun r hr => Nat.le_trans (HC6.out r hr) (by decide))
      rw [HN.out] at HOW
      rw [List.drop_zero] at HO
      obtain ⟨cs0, hcs0, how0⟩ := HO.out
      rw [List.length_reverse, HN.out] at how0
      obtain ⟨vbo, vbc, rfl⟩ := owns_shape how0
      clear hl60 hcs0 how0
      go_wp2_with fail
      refine HOW.out.mono ?_
      rintro e w2 ⟨u2, rfl, hx2, cs2, hcs2, how2⟩
      have HX2 := Lib.hid (HX.out.1.trans hx2)
      have HBK2 := Lib.hid (HO.out.ext hx2)
      have HOF2 := Lib.hid (ofC_any u2 l w2 ⟨cs2, hcs2.imp fun u c h => Sl.ofOwns h, Sl.ofOwns how2⟩ HF.out)
      rw [HN.out] at how2
      obtain ⟨u2o, u2c, rfl⟩ := owns_shape how2
      have HX12 := Lib.hid hx2
      clear hx2 hcs2 how2 HOW
      go_wp2_with fail
      refine HOF2.out.mono ?_
      rintro e w3 ⟨hx3, (⟨-, p3, rfl, hct3⟩ | ⟨hne, -⟩)⟩
      case inr => exact absurd HE.out hne
      rw [HL.out] at hct3
      rw [HN.out]
      have HX3 := Lib.hid (HX2.out.trans hx3); have HC3 := Lib.hid hct3; have HBK3 := Lib.hid (HBK2.out.ext hx3)
      obtain ⟨g3, v3, rfl, _⟩ := id hct3
      have HOW3 := Lib.hid (owns_any (.slice vbo n vbc) l.reverse w3 (HBK3.out.rlS HX3.out) (by rw [List.length_reverse, HN.out]; omega) (fun r hr => Nat.le_trans (HC6.out r (List.mem_reverse.1 hr)) (by decide)))
      have HX23 := Lib.hid hx3
      clear hx3 hct3 HOF2
      go_wp2_with fail
      refine HOW3.out.mono ?_
      rintro e w4 ⟨u4, rfl, hx4, cs4, hcs4, how4⟩
      have HX4 := Lib.hid (HX3.out.trans hx4); have HC4 := Lib.hid (HC3.out.ext hx4)
      have HOF4 := Lib.hid (ofC_any u4 l.reverse w4 ⟨cs4, hcs4.imp fun u c h => Sl.ofOwns h, Sl.ofOwns how4⟩ fun r hr => HF.out r (List.mem_reverse.1 hr))
      rw [List.length_reverse, HN.out] at how4
      obtain ⟨u4o, u4c, rfl⟩ := owns_shape how4
      have HX34 := Lib.hid hx4
      clear hx4 hcs4 how4 HOW3
      go_wp2_with fail
      refine HOF4.out.mono ?_
      rintro e w5 ⟨hx5, (⟨-, p5, rfl, hct5⟩ | ⟨hne, -⟩)⟩
      case inr => exact absurd HLR.out.1 hne
      rw [HLR.out.2] at hct5
      rw [List.length_reverse, HN.out]
      have HX5 := Lib.hid (HX4.out.trans hx5); have HC5 := Lib.hid (HC4.out.ext hx5); have HD5 := Lib.hid hct5
      obtain ⟨g5, v5, rfl, _⟩ := id hct5
      have HBC := Lib.hid (back9_any w2.heap.size (.pointer (some ⟨g3, 0, none⟩)) L w5 HC5.out HLK.out fun r hr => by have := (rlErr_zero (HLK.out.right r hr)).2.2.2.2.2.1; omega)
      have HX45 := Lib.hid hx5
      clear hx5 hct5 HOF4
      go_wp2_with fail
      refine HBC.out.mono ?_
      rintro e w6 ⟨hx6, v6, rfl, hs6⟩
      have HX6 := Lib.hid (HX5.out.trans hx6); have HC6' := Lib.hid (HC5.out.ext hx6); have HD6 := Lib.hid (HD5.out.ext hx6); have HS6 := Lib.hid hs6
      have HSA := Lib.hid (csame_any w2.heap.size w4.heap.size (.pointer (some ⟨g3, 0, none⟩)) (.pointer (some ⟨g5, 0, none⟩)) L L w6 HC6'.out HD6.out)
      rw [decide_eq_true rfl] at HSA
      obtain ⟨v6o, v6c, rfl, _⟩ := hs6.shape
      have HX68 : Hid (Ext w1 w6) := Lib.hid ((((((HX.out.2.trans HX12.out).trans HX23.out).trans HX34.out).trans HX45.out)).trans hx6)
      clear hx6 hs6 HBC
      go_wp2_with fail
      refine HSA.out.mono ?_
      rintro e w7 ⟨rfl, hx7⟩
      have HX7 := Lib.hid (HX6.out.trans hx7)
      have HX17 := Lib.hid hx7
      have HSB := Lib.hid (csame_any w4.heap.size w2.heap.size (.pointer (some ⟨g5, 0, none⟩)) (.pointer (some ⟨g3, 0, none⟩)) L L w7 (HD6.out.ext hx7) (HC6'.out.ext hx7))
      rw [decide_eq_true rfl] at HSB
      clear hx7 HSA
      go_wp2_with fail
      refine HSB.out.mono ?_
      rintro e w8 ⟨rfl, hx8⟩
      have HX8 := Lib.hid (HX7.out.trans hx8)
      have HSM := Lib.hid (rSame9_any (.slice v6o L.length v6c) (.slice so m sc) L L w8 (HS6.out.ext (Q := ColS w8) (HX17.out.trans hx8) fun v c h => ColS.ext h (HX17.out.trans hx8)) (HS1.out.ext (Q := ColS w8) (HX68.out.trans (HX17.out.trans hx8)) fun v c h => ColS.ext h (HX68.out.trans (HX17.out.trans hx8))))
      rw [decide_eq_true rfl] at HSM
      generalize L.length = m2 at *
      clear hx8 HSB
      go_wp2_with fail
      refine HSM.out.mono ?_
      rintro e w9 ⟨rfl, hx9⟩
      have HX9 := Lib.hid (HX8.out.trans hx9)
      clear hx9 HSM
      go_wp2_with fail
      refine (awake9_any w9).mono ?_
      rintro e w10 ⟨rfl, hx10⟩
      have HX10 := Lib.hid (HX9.out.trans hx10)
      clear hx10
      go_wp2
      go_ret
      exact ⟨rfl, HX10.out⟩
end Go.Proofs.Ytegclfpmgilnpaa
