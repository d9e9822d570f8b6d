import Derived.Test.YtegclfpmgilnpaaGreatValK
namespace Go.Proofs.YtegclfpmgilnpaaGreat
open Go.RowKit Go.Lac
theorem own_some {w : World} {base n : Nat} {e : TypeId} {v : Value} {xs : List Value} (h : w.ownsRow base e 1 v n xs) (hn : 0 < n) : ∃ g cap, v = .slice (some ⟨g, 0, none⟩) n cap ∧ base ≤ g := by
  rcases h.2 with ⟨_, h2⟩ | ⟨g, cap, cur, e1, hb, _⟩
  · omega
  · exact ⟨g, cap, e1, hb⟩
theorem or8_01 : bits .or .u8 0 1 = 1 := by decide
theorem or8_02 : bits .or .u8 0 2 = 2 := by decide
theorem or8_12 : bits .or .u8 1 2 = 3 := by decide
theorem flt_len (u : Nat) (h : u < 18446744073709551616) : (flt 2 u).length ≤ 10 := by
  unfold flt
  rw [if_neg (by decide)]
  exact sev_length_10 _ (rev8_lt u)
set_option maxRecDepth 20000 in
set_option maxHeartbeats 1600000 in
theorem complexForm_00 (re im : Nat) (w : World) (hr : re < 18446744073709551616) (hi : im < 18446744073709551616) (r0 : re = 0) (i0 : im = 0) :
    Calls Tryz.prog 128 #[.int .u64 (re : Nat), .int .u64 (im : Nat), .int .u8 2] w (RdPost (cplx re im) w) := by
  obtain ⟨i, hi1, hz, hs, hb⟩ := info_parts infoU8
  have HR := Lib.hid hr; have HI := Lib.hid hi
  have e1 : (((re : Nat) : Int) != 0) = false := by simp; omega
  have e2 : (((im : Nat) : Int) != 0) = false := by simp; omega
  have HF : Hid (cplx re im = [0]) := Lib.hid (by simp [cplx, cplxM, partB, r0, i0])
  have ho0 := World.ownsRow_made (e := 5) (size := 1) w #[.int .u8 0] 1 (Nat.le_refl _) (by unfold maxLen; omega) rfl
  have HO0 : Hid ((w.alloc (.cells #[.int .u8 0] 5)).ownsRow w.heap.size 5 1 (.slice (some ⟨w.heap.size, 0, none⟩) 1 1) 1 [.int .u8 0]) := Lib.hid (by
    exact ⟨rfl, .inr ⟨w.heap.size, 1, _, rfl, Nat.le_refl _, heap_alloc_new w _, Nat.le_refl _, by unfold maxLen; omega, rfl, rfl⟩⟩)
  have HX0 : Hid (Ext w (w.alloc (.cells #[.int .u8 0] 5))) := Lib.hid ((Ch.refl _ _).alloc _)
  have HI1 := Lib.hid hi1; have HZ := Lib.hid hz; have HS := Lib.hid hs; have HB := Lib.hid hb
  have o1 := or8_01; have o2 := or8_02; have o3 := or8_12
  clear ho0 hr hi r0 i0 hi1 hz hs hb
  obtain ⟨W0, hW0⟩ : ∃ W0, W0 = w.alloc (.cells #[.int .u8 0] 5) := ⟨_, rfl⟩
  rw [← hW0] at HO0 HX0
  have HW0 := Lib.hid hW0
  clear hW0
  go_enter Tryz.func128, Tryz.ntmps128
  go_wp2
  go_ret
  rw [← HW0.out]
  refine ⟨_, rfl, HX0.out, ?_⟩
  rw [HF.out]
  exact Rd.ofOwns HO0.out
set_option maxRecDepth 20000 in
set_option maxHeartbeats 1600000 in
theorem complexForm_10 (re im : Nat) (w : World) (hr : re < 18446744073709551616) (hi : im < 18446744073709551616) (r0 : re ≠ 0) (i0 : im = 0) :
    Calls Tryz.prog 128 #[.int .u64 (re : Nat), .int .u64 (im : Nat), .int .u8 2] w (RdPost (cplx re im) w) := by
  obtain ⟨i, hi1, hz, hs, hb⟩ := info_parts infoU8
  have HR := Lib.hid hr; have HI := Lib.hid hi
  have e1 : (((re : Nat) : Int) != 0) = true := by simp; omega
  have e2 : (((im : Nat) : Int) != 0) = false := by simp; omega
  have HF : Hid (cplx re im = 1 :: flt 2 re) := Lib.hid (by simp [cplx, cplxM, partB, r0, i0])
  have ho0 := World.ownsRow_made (e := 5) (size := 1) w #[.int .u8 0] 1 (Nat.le_refl _) (by unfold maxLen; omega) rfl
  have HO0 : Hid ((w.alloc (.cells #[.int .u8 0] 5)).ownsRow w.heap.size 5 1 (.slice (some ⟨w.heap.size, 0, none⟩) 1 1) 1 [.int .u8 0]) := Lib.hid (by
    exact ⟨rfl, .inr ⟨w.heap.size, 1, _, rfl, Nat.le_refl _, heap_alloc_new w _, Nat.le_refl _, by unfold maxLen; omega, rfl, rfl⟩⟩)
  have HX0 : Hid (Ext w (w.alloc (.cells #[.int .u8 0] 5))) := Lib.hid ((Ch.refl _ _).alloc _)
  have HI1 := Lib.hid hi1; have HZ := Lib.hid hz; have HS := Lib.hid hs; have HB := Lib.hid hb
  have o1 := or8_01; have o2 := or8_02; have o3 := or8_12
  clear ho0 hr hi r0 i0 hi1 hz hs hb
  obtain ⟨W0, hW0⟩ : ∃ W0, W0 = w.alloc (.cells #[.int .u8 0] 5) := ⟨_, rfl⟩
  rw [← hW0] at HO0 HX0
  have HW0 := Lib.hid hW0
  clear hW0
  go_enter Tryz.func128, Tryz.ntmps128
  obtain ⟨⟨_, hx1, hc1⟩, hf1, hw1⟩ := own_set HO0.out 0 (by decide) (.int .u8 1)
  simp only [List.getElem?_cons_zero, Option.some.injEq] at hx1
  subst hx1
  have HW1 := Lib.hid hw1
  have HX1 : Hid (Ext w (W0.setCell ⟨w.heap.size, 0, none⟩ (.int .u8 1))) := Lib.hid (HX0.out.setCell (.inr (Nat.le_refl _)) _)
  clear hw1
  go_wp2_with (rw [← HW0.out])
  refine (floatForm_any re 2 _ HR.out).mono ?_
  rintro e w2 ⟨s2, rfl, h3, h4⟩
  obtain ⟨a2, c2, rfl⟩ := h4.shape
  have HX2 := Lib.hid (HX1.out.trans h3)
  have HO2 : Hid (w2.ownsRow w.heap.size 5 1 (.slice (some ⟨w.heap.size, 0, none⟩) 1 1) 1 (cellsB [1])) := Lib.hid (HW1.out.ext h3)
  have HR2 := Lib.hid h4
  clear h3 h4 hc1 hf1
  go_wp2_with (at_builtin; refine wpList_append_sl _ rfl _ _ 22 rfl w.heap.size 5 i (.int .u8 0) 1 1 Tryz.underlying22 HI1.out HZ.out HS.out HB.out rfl (by decide) _ _ _ rfl HO2.out _ _ _ rfl HR2.out (by rw [cellsB_length, Nat.mul_one]) (cellsB_one _) (by have := flt_len re HR.out; omega) (by have := flt_len re HR.out; unfold maxLen; omega) HX2.out.size ?_)
  intro v3 w3 hown hgrow
  have hx3 : Ext w w3 := HX2.out.grown hgrow (fun k hk => .inr (HO2.out.lt k hk).1)
  obtain ⟨g3, c3, rfl, hg3⟩ := own_some hown (by omega)
  have HX3 := Lib.hid hx3
  have HO3 : Hid (w3.ownsRow w.heap.size 5 1 (.slice (some ⟨g3, 0, none⟩) (1 + (flt 2 re).length) c3) (1 + (flt 2 re).length) (cellsB (1 :: flt 2 re))) := Lib.hid hown
  have HG3 := Lib.hid hg3
  clear hown hgrow hx3 hg3
  have hrd := Rd.ofOwns HO3.out
  have HRD := Lib.hid hrd
  clear hrd
  go_wp2
  go_ret
  exact ⟨_, rfl, HX3.out, by rw [HF.out]; exact HRD.out⟩
set_option maxRecDepth 20000 in
set_option maxHeartbeats 1600000 in
theorem complexForm_01 (re im : Nat) (w : World) (hr : re < 18446744073709551616) (hi : im < 18446744073709551616) (r0 : re = 0) (i0 : im ≠ 0) :
    Calls Tryz.prog 128 #[.int .u64 (re : Nat), .int .u64 (im : Nat), .int .u8 2] w (RdPost (cplx re im) w) := by
  obtain ⟨i, hi1, hz, hs, hb⟩ := info_parts infoU8
  have HR := Lib.hid hr; have HI := Lib.hid hi
  have e1 : (((re : Nat) : Int) != 0) = false := by simp; omega
  have e2 : (((im : Nat) : Int) != 0) = true := by simp; omega
  have HF : Hid (cplx re im = 2 :: flt 2 im) := Lib.hid (by simp [cplx, cplxM, partB, r0, i0])
  have ho0 := World.ownsRow_made (e := 5) (size := 1) w #[.int .u8 0] 1 (Nat.le_refl _) (by unfold maxLen; omega) rfl
  have HO0 : Hid ((w.alloc (.cells #[.int .u8 0] 5)).ownsRow w.heap.size 5 1 (.slice (some ⟨w.heap.size, 0, none⟩) 1 1) 1 [.int .u8 0]) := Lib.hid (by
    exact ⟨rfl, .inr ⟨w.heap.size, 1, _, rfl, Nat.le_refl _, heap_alloc_new w _, Nat.le_refl _, by unfold maxLen; omega, rfl, rfl⟩⟩)
  have HX0 : Hid (Ext w (w.alloc (.cells #[.int .u8 0] 5))) := Lib.hid ((Ch.refl _ _).alloc _)
  have HI1 := Lib.hid hi1; have HZ := Lib.hid hz; have HS := Lib.hid hs; have HB := Lib.hid hb
  have o1 := or8_01; have o2 := or8_02; have o3 := or8_12
  clear ho0 hr hi r0 i0 hi1 hz hs hb
  obtain ⟨W0, hW0⟩ : ∃ W0, W0 = w.alloc (.cells #[.int .u8 0] 5) := ⟨_, rfl⟩
  rw [← hW0] at HO0 HX0
  have HW0 := Lib.hid hW0
  clear hW0
  go_enter Tryz.func128, Tryz.ntmps128
  obtain ⟨⟨_, hx1, hc1⟩, hf1, hw1⟩ := own_set HO0.out 0 (by decide) (.int .u8 2)
  simp only [List.getElem?_cons_zero, Option.some.injEq] at hx1
  subst hx1
  have HW1 := Lib.hid hw1
  have HX1 : Hid (Ext w (W0.setCell ⟨w.heap.size, 0, none⟩ (.int .u8 2))) := Lib.hid (HX0.out.setCell (.inr (Nat.le_refl _)) _)
  clear hw1
  go_wp2_with (rw [← HW0.out])
  refine (floatForm_any im 2 _ HI.out).mono ?_
  rintro e w2 ⟨s2, rfl, h3, h4⟩
  obtain ⟨a2, c2, rfl⟩ := h4.shape
  have HX2 := Lib.hid (HX1.out.trans h3)
  have HO2 : Hid (w2.ownsRow w.heap.size 5 1 (.slice (some ⟨w.heap.size, 0, none⟩) 1 1) 1 (cellsB [2])) := Lib.hid (HW1.out.ext h3)
  have HR2 := Lib.hid h4
  clear h3 h4 hc1 hf1
  go_wp2_with (at_builtin; refine wpList_append_sl _ rfl _ _ 22 rfl w.heap.size 5 i (.int .u8 0) 1 1 Tryz.underlying22 HI1.out HZ.out HS.out HB.out rfl (by decide) _ _ _ rfl HO2.out _ _ _ rfl HR2.out (by rw [cellsB_length, Nat.mul_one]) (cellsB_one _) (by have := flt_len im HI.out; omega) (by have := flt_len im HI.out; unfold maxLen; omega) HX2.out.size ?_)
  intro v3 w3 hown hgrow
  have hx3 : Ext w w3 := HX2.out.grown hgrow (fun k hk => .inr (HO2.out.lt k hk).1)
  obtain ⟨g3, c3, rfl, hg3⟩ := own_some hown (by omega)
  have HX3 := Lib.hid hx3
  have HO3 : Hid (w3.ownsRow w.heap.size 5 1 (.slice (some ⟨g3, 0, none⟩) (1 + (flt 2 im).length) c3) (1 + (flt 2 im).length) (cellsB (2 :: flt 2 im))) := Lib.hid hown
  have HG3 := Lib.hid hg3
  clear hown hgrow hx3 hg3
  have hrd := Rd.ofOwns HO3.out
  have HRD := Lib.hid hrd
  clear hrd
  go_wp2
  go_ret
  exact ⟨_, rfl, HX3.out, by rw [HF.out]; exact HRD.out⟩
set_option maxRecDepth 20000 in
set_option maxHeartbeats 1600000 in
theorem complexForm_11 (re im : Nat) (w : World) (hr : re < 18446744073709551616) (hi : im < 18446744073709551616) (r0 : re ≠ 0) (i0 : im ≠ 0) :
    Calls Tryz.prog 128 #[.int .u64 (re : Nat), .int .u64 (im : Nat), .int .u8 2] w (RdPost (cplx re im) w) := by
  obtain ⟨i, hi1, hz, hs, hb⟩ := info_parts infoU8
  have HR := Lib.hid hr; have HI := Lib.hid hi
  have e1 : (((re : Nat) : Int) != 0) = true := by simp; omega
  have e2 : (((im : Nat) : Int) != 0) = true := by simp; omega
  have HF : Hid (cplx re im = 3 :: (flt 2 re ++ flt 2 im)) := Lib.hid (by simp [cplx, cplxM, partB, r0, i0])
  have ho0 := World.ownsRow_made (e := 5) (size := 1) w #[.int .u8 0] 1 (Nat.le_refl _) (by unfold maxLen; omega) rfl
  have HO0 : Hid ((w.alloc (.cells #[.int .u8 0] 5)).ownsRow w.heap.size 5 1 (.slice (some ⟨w.heap.size, 0, none⟩) 1 1) 1 [.int .u8 0]) := Lib.hid (by
    exact ⟨rfl, .inr ⟨w.heap.size, 1, _, rfl, Nat.le_refl _, heap_alloc_new w _, Nat.le_refl _, by unfold maxLen; omega, rfl, rfl⟩⟩)
  have HX0 : Hid (Ext w (w.alloc (.cells #[.int .u8 0] 5))) := Lib.hid ((Ch.refl _ _).alloc _)
  have HI1 := Lib.hid hi1; have HZ := Lib.hid hz; have HS := Lib.hid hs; have HB := Lib.hid hb
  have o1 := or8_01; have o2 := or8_02; have o3 := or8_12
  clear ho0 hr hi r0 i0 hi1 hz hs hb
  obtain ⟨W0, hW0⟩ : ∃ W0, W0 = w.alloc (.cells #[.int .u8 0] 5) := ⟨_, rfl⟩
  rw [← hW0] at HO0 HX0
  have HW0 := Lib.hid hW0
  clear hW0
  go_enter Tryz.func128, Tryz.ntmps128
  obtain ⟨⟨_, hx1, hc1⟩, hf1, hw1⟩ := own_set HO0.out 0 (by decide) (.int .u8 1)
  simp only [List.getElem?_cons_zero, Option.some.injEq] at hx1
  subst hx1
  have HW1 := Lib.hid hw1
  have HX1 : Hid (Ext w (W0.setCell ⟨w.heap.size, 0, none⟩ (.int .u8 1))) := Lib.hid (HX0.out.setCell (.inr (Nat.le_refl _)) _)
  clear hw1
  go_wp2_with (rw [← HW0.out])
  refine (floatForm_any re 2 _ HR.out).mono ?_
  rintro e w2 ⟨s2, rfl, h3, h4⟩
  obtain ⟨a2, c2, rfl⟩ := h4.shape
  have HX2 := Lib.hid (HX1.out.trans h3)
  have HO2 : Hid (w2.ownsRow w.heap.size 5 1 (.slice (some ⟨w.heap.size, 0, none⟩) 1 1) 1 (cellsB [1])) := Lib.hid (HW1.out.ext h3)
  have HR2 := Lib.hid h4
  clear h3 h4 hc1 hf1
  go_wp2_with (at_builtin; refine wpList_append_sl _ rfl _ _ 22 rfl w.heap.size 5 i (.int .u8 0) 1 1 Tryz.underlying22 HI1.out HZ.out HS.out HB.out rfl (by decide) _ _ _ rfl HO2.out _ _ _ rfl HR2.out (by rw [cellsB_length, Nat.mul_one]) (cellsB_one _) (by have := flt_len re HR.out; omega) (by have := flt_len re HR.out; unfold maxLen; omega) HX2.out.size ?_)
  intro v3 w3 hown hgrow
  have hx3 : Ext w w3 := HX2.out.grown hgrow (fun k hk => .inr (HO2.out.lt k hk).1)
  obtain ⟨g3, c3, rfl, hg3⟩ := own_some hown (by omega)
  have HX3 := Lib.hid hx3
  have HO3 : Hid (w3.ownsRow w.heap.size 5 1 (.slice (some ⟨g3, 0, none⟩) (1 + (flt 2 re).length) c3) (1 + (flt 2 re).length) (cellsB (1 :: flt 2 re))) := Lib.hid hown
  have HG3 := Lib.hid hg3
  clear hown hgrow hx3 hg3
  obtain ⟨⟨_, hx4, hc4⟩, hf4, hw4⟩ := own_set HO3.out 0 (by omega) (.int .u8 3)
  have hx4' : (cellsB (1 :: flt 2 re))[0]? = some (.int .u8 1) := rfl
  rw [hx4'] at hx4
  simp only [Option.some.injEq] at hx4
  subst hx4
  have HW4 : Hid ((w3.setCell ⟨g3, 0, none⟩ (.int .u8 3)).ownsRow w.heap.size 5 1 (.slice (some ⟨g3, 0, none⟩) (1 + (flt 2 re).length) c3) (1 + (flt 2 re).length) (cellsB (3 :: flt 2 re))) := Lib.hid hw4
  have HX4 : Hid (Ext w (w3.setCell ⟨g3, 0, none⟩ (.int .u8 3))) := Lib.hid (HX3.out.setCell (.inr HG3.out) _)
  have HL := Lib.hid (flt_len re HR.out)
  clear hw4 hx4'
  obtain ⟨fr, hfr⟩ : ∃ fr, fr = flt 2 re := ⟨_, rfl⟩
  rw [← hfr] at HW4 HL HF HO3 ⊢
  clear hfr
  generalize hm : fr.length = m at *
  have hm1 : (0 : Int) < 1 + (m : Int) := by omega
  have HM := Lib.hid hm
  clear hm
  go_wp2_with fail
  refine (floatForm_any im 2 _ HI.out).mono ?_
  rintro e w5 ⟨s5, rfl, h3, h4⟩
  obtain ⟨a5, c5, rfl⟩ := h4.shape
  have HX5 := Lib.hid (HX4.out.trans h3)
  have HO5 := Lib.hid (HW4.out.ext h3)
  have HR5 := Lib.hid h4
  clear h3 h4 hc4 hf4
  go_wp2_with (at_builtin; refine wpList_append_sl _ rfl _ _ 22 rfl w.heap.size 5 i (.int .u8 0) 1 1 Tryz.underlying22 HI1.out HZ.out HS.out HB.out rfl (by decide) _ _ _ rfl HO5.out _ _ _ rfl HR5.out (by rw [cellsB_length, Nat.mul_one]) (cellsB_one _) (by have := flt_len im HI.out; have := HL.out; omega) (by have := flt_len im HI.out; have := HL.out; unfold maxLen; omega) HX5.out.size ?_)
  intro v6 w6 hown hgrow
  have hx6 : Ext w w6 := HX5.out.grown hgrow (fun k hk => .inr (HO5.out.lt k hk).1)
  obtain ⟨g6, c6, rfl, hg6⟩ := own_some hown (by omega)
  have HX3 := Lib.hid hx6
  have hrd : Rd w6 (.slice (some ⟨g6, 0, none⟩) (1 + m + (flt 2 im).length) c6) (3 :: (fr ++ flt 2 im)) := by
    have e : (3 :: (fr ++ flt 2 im)).length = 1 + m + (flt 2 im).length := by simp [HM.out]; omega
    unfold Rd
    rw [e]
    have := Sl.ofOwns hown
    rw [← cellsB_append] at this
    exact this
  have HRD := Lib.hid hrd
  clear hown hgrow hx6 hg6 hrd
  go_wp2
  go_ret
  exact ⟨_, rfl, HX3.out, by rw [HF.out]; exact HRD.out⟩
theorem complexForm_any (re im ver : Nat) (w : World) (hr : re < 18446744073709551616) (hi : im < 18446744073709551616) (hv : ver = 1 ∨ ver = 2) :
    Calls Tryz.prog 128 #[.int .u64 (re : Nat), .int .u64 (im : Nat), .int .u8 (ver : Nat)] w (RdPost (if ver = 1 then leN 8 re ++ leN 8 im else cplx re im) w) := by
  rcases hv with rfl | rfl
  · exact complexForm_1 re im w hr hi
  · rw [if_neg (by decide)]
    by_cases h1 : re = 0 <;> by_cases h2 : im = 0
    · exact complexForm_00 re im w hr hi h1 h2
    · exact complexForm_01 re im w hr hi h1 h2
    · exact complexForm_10 re im w hr hi h1 h2
    · exact complexForm_11 re im w hr hi h1 h2
end Go.Proofs.YtegclfpmgilnpaaGreat
