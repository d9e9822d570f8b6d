/-
  Catalogs: Last. MADE BY mkCatH.py
-/
import Derived.Test.YtegclfpmgilnpaaCatG
namespace Go.Proofs.Ytegclfpmgilnpaa
open Go.RowKit Go.Lac

theorem fieldRf_0o (w : World) (b o : Nat) : (Instr.fieldAt 36 (.pointer (some ⟨b, o, none⟩)) 0).run Try.prog w = .ok (.pointer (some ⟨b, o, none⟩)) w := by kernel_rfl
def la0T : Tmp → Kn
  | 10 => .is (.int .i64 0)
  | 11 => .is (.bool true)
  | 12 => .is (.bool true)
  | 13 => .is undef
  | 14 => .is undef
  | 15 => .is undef
  | 16 => .is undef
  | 17 => .is undef
  | 18 => .is undef
  | 19 => .is undef
  | 20 => .is undef
  | 21 => .is undef
  | 22 => .is undef
  | 23 => .is undef
  | 24 => .is undef
  | 25 => .is (.bool true)
  | _ => .any
def la1T (g b o n cap k j xo oid : Nat) (D : Bool) : Tmp → Kn
  | 10 => .is (.int .i64 (k : Nat))
  | 11 => .is (.bool false)
  | 12 => .is (.bool false)
  | 13 => .is (.pointer (some ⟨g, 0, none⟩))
  | 14 => .is (.pointer (some ⟨g, 0, none⟩))
  | 15 => .is (.pointer (some ⟨g, 0, none⟩))
  | 16 => .is (.slice (some ⟨b, o, none⟩) n cap)
  | 17 => .is (.int .i64 (k : Nat))
  | 18 => .is (.int .i64 (j : Nat))
  | 19 => .is (.pointer (some ⟨b, o + j * 5, none⟩))
  | 20 => .is (.pointer (some ⟨b, o + j * 5, none⟩))
  | 21 => .is (.pointer (some ⟨b, o + j * 5, none⟩))
  | 22 => .is (.int .u32 (xo : Nat))
  | 23 => .is (.int .u32 (oid : Nat))
  | 24 => .is (.bool D)
  | 25 => .is (.bool D)
  | _ => .any

theorem beh_mono {l : List Rl} (h : InOrder l) (oid : Nat) : ∀ i j, i ≤ j → j < l.length → (!decide ((l.getD i .zero).oid ≤ oid)) = true → (!decide ((l.getD j .zero).oid ≤ oid)) = true := by
  intro i j hij hj h1
  have hi : i < l.length := by omega
  rw [List.getD_eq_getElem?_getD, List.getElem?_eq_getElem hi] at h1
  rw [List.getD_eq_getElem?_getD, List.getElem?_eq_getElem hj]
  simp only [Option.getD_some, Bool.not_eq_true', decide_eq_false_iff_not] at h1 ⊢
  rw [behind_iff h i hi] at h1
  rw [behind_iff h j hj]
  omega
set_option maxRecDepth 20000 in
set_option maxHeartbeats 2000000 in
theorem last_any (base : Nat) (c : Value) (l : List Rl) (oid : Nat) (w : World) (h : CatS base w c l) (hok : CatOk l) :
    Calls Try.prog 19 #[c, .int .u32 (oid : Nat)] w (RlPost (young oid none l) w) := by
  have h1 := heap_alloc2_old w (.cells #[.int .u32 (oid : Nat)] 23) (.cells #[.int .u32 0, .int .u32 0, .string ⟨#[]⟩, .int .u8 0, .slice none 0 0] 39)
  have h2 := heap_alloc2_new w (.cells #[.int .u32 (oid : Nat)] 23) (.cells #[.int .u32 0, .int .u32 0, .string ⟨#[]⟩, .int .u8 0, .slice none 0 0] 39)
  obtain ⟨W, hW⟩ : ∃ W, W = (w.alloc (.cells #[.int .u32 (oid : Nat)] 23)).alloc (.cells #[.int .u32 0, .int .u32 0, .string ⟨#[]⟩, .int .u8 0, .slice none 0 0] 39) := ⟨_, rfl⟩
  have hx : Ext w W := by rw [hW]; exact ((Ch.refl _ _).alloc _).alloc _
  rw [← hW] at h1 h2
  have HX := Lib.hid hx; have HW := Lib.hid hW; have HG1 := Lib.hid h1; have HG2 := Lib.hid h2; have HOK := Lib.hid hok
  have HC := Lib.hid (h.ext hx)
  have HPL := Lib.hid (place_any base 55 #[.pointer (some ⟨w.heap.size, 0, none⟩)] c l (fun k => !decide ((l.getD k .zero).oid ≤ oid)) W (h.ext hx) (by have := hok.len; omega) (beh_mono hok.order oid) Try.func55 (by rfl) (by rfl) fun k hk w' cv hx' => by
    rw [List.getD_eq_getElem?_getD, List.getElem?_eq_getElem hk]
    exact behind_any l[k] cv w.heap.size oid w' (heap_ext hx' h1))
  have HY0 : Hid (behind l oid = 0 → young oid none l = none) := Lib.hid fun h0 => by rw [young_behind hok.order, dif_neg (by omega)]
  have HY1 : Hid (∀ (j : Nat) (hj : j < l.length), behind l oid = j + 1 → young oid none l = if l[j].oid = oid then some l[j] else none) := Lib.hid fun j hj h0 => by
    rw [young_behind hok.order, dif_pos ⟨by omega, by omega⟩]
    simp only [h0, Nat.add_sub_cancel]
  have HBI := Lib.hid (fun j hj => behind_iff hok.order j hj (oid := oid))
  have hble := behind_le l oid
  obtain ⟨g, v, rfl, _⟩ := h
  clear h1 h2 hx hW hok
  go_enter Try.func19, Try.ntmps19
  go_wp2_with fail
  rw [← HW.out]
  refine HPL.out.mono ?_
  rintro e w2 ⟨⟨k, hk, rfl, hq⟩, hx2⟩
  have hkp : k = behind l oid := by
    have hz : ∀ j (hj : j < l.length), (j < behind l oid ↔ ¬ k ≤ j) := fun j hj => by
      rw [← HBI.out j hj, ← hq j hj, List.getD_eq_getElem?_getD, List.getElem?_eq_getElem hj]
      simp
    rcases Nat.lt_trichotomy k (behind l oid) with h | h | h
    · have := (hz k (by omega)).1 h; omega
    · exact h
    · have := (hz (behind l oid) (by omega)).2 (by omega); omega
  have HX2 := Lib.hid (HX.out.trans hx2); have HG := Lib.hid (heap_ext hx2 HG2.out); have HC2 := Lib.hid (HC.out.ext hx2); have HO3 := Lib.hid (heap_ext hx2 HG1.out)
  clear hx2 hq
  subst hkp
  generalize hk' : behind l oid = k at *
  clear hk' HPL HBI
  by_cases h0 : k = 0
  · subst h0
    have HE : Hid (young oid none l = none) := Lib.hid (HY0.out rfl)
    clear HY0 HY1
    rw [Int.natCast_zero]
    go_wp2
    obtain ⟨g3, hg3⟩ : ∃ g3, g3 = w.heap.size := ⟨_, rfl⟩
    have HSZ : Hid (w.heap.size ≤ g3) := Lib.hid (by omega)
    rw [← hg3] at HG ⊢
    try rw [← hg3] at O3
    clear hg3
    refine wp_region_ext la0T mixedV (by rfl) (by rfl) ?all ?fin
    case all =>
      refine ⟨?_, ?_, ?_, ?_, ?_, ?_, ?_, ?_, ?_, ?_, ?_, ?_, ?_, ?_, ?_, ?_, trivial⟩
      · -- 0: slot 10 := Op.move t6
        refine StepOK.plain (kn_stable _) rfl fun ρ w hρ hw hf => ?_
        have h6 : ρ (.tmp 6) = (.int .i64 0) := (hf 6).2 rfl rfl
        exact Exec.kmove rfl rfl h6
      · -- 1: slot 11 := Op.binOp BinOp.eql 3 t10 (const (0:i64)) 3
        refine StepOK.plain (kn_stable _) rfl fun ρ w hρ hw hf => ?_
        have h10 : ρ (.tmp 10) = (.int .i64 0) := (hf 10).1 rfl
        exact Exec.same (v := .bool true) rfl (by simp [go_sem, hρ.const, h10]) rfl
      · -- 2: slot 12 := Op.move t11
        refine StepOK.plain (kn_stable _) rfl fun ρ w hρ hw hf => ?_
        have h11 : ρ (.tmp 11) = (.bool true) := (hf 11).1 rfl
        exact Exec.kmove rfl rfl h11
      · -- 3: slot 13 := Op.move t0
        exact StepOK.skipped (kn_stable _) (fun w => Ch.refl _ w) 2 false 12 rfl rfl (fun ρ w _ _ hf => (.inl ((hf 12).1 rfl))) (fun w d h => by cases h; rfl)
      · -- 4: slot 14 := Op.nilCheck t13
        exact StepOK.skipped (kn_stable _) (fun w => Ch.refl _ w) 2 false 12 rfl rfl (fun ρ w _ _ hf => (.inl ((hf 12).1 rfl))) (fun w d h => by cases h; rfl)
      · -- 5: slot 15 := Op.fieldAddr 116 t14 0
        exact StepOK.skipped (kn_stable _) (fun w => Ch.refl _ w) 2 false 12 rfl rfl (fun ρ w _ _ hf => (.inl ((hf 12).1 rfl))) (fun w d h => by cases h; rfl)
      · -- 6: slot 16 := Op.load 86 t15
        exact StepOK.skipped (kn_stable _) (fun w => Ch.refl _ w) 2 false 12 rfl rfl (fun ρ w _ _ hf => (.inl ((hf 12).1 rfl))) (fun w d h => by cases h; rfl)
      · -- 7: slot 17 := Op.move t6
        exact StepOK.skipped (kn_stable _) (fun w => Ch.refl _ w) 2 false 12 rfl rfl (fun ρ w _ _ hf => (.inl ((hf 12).1 rfl))) (fun w d h => by cases h; rfl)
      · -- 8: slot 18 := Op.binOp BinOp.sub 3 t17 (const (1:i64)) 3
        exact StepOK.skipped (kn_stable _) (fun w => Ch.refl _ w) 2 false 12 rfl rfl (fun ρ w _ _ hf => (.inl ((hf 12).1 rfl))) (fun w d h => by cases h; rfl)
      · -- 9: slot 19 := Op.indexAddr 86 t16 t18
        exact StepOK.skipped (kn_stable _) (fun w => Ch.refl _ w) 2 false 12 rfl rfl (fun ρ w _ _ hf => (.inl ((hf 12).1 rfl))) (fun w d h => by cases h; rfl)
      · -- 10: slot 20 := Op.fieldAddr 32 t19 0
        exact StepOK.skipped (kn_stable _) (fun w => Ch.refl _ w) 2 false 12 rfl rfl (fun ρ w _ _ hf => (.inl ((hf 12).1 rfl))) (fun w d h => by cases h; rfl)
      · -- 11: slot 21 := Op.fieldAddr 29 t20 0
        exact StepOK.skipped (kn_stable _) (fun w => Ch.refl _ w) 2 false 12 rfl rfl (fun ρ w _ _ hf => (.inl ((hf 12).1 rfl))) (fun w d h => by cases h; rfl)
      · -- 12: slot 22 := Op.load 22 t21
        exact StepOK.skipped (kn_stable _) (fun w => Ch.refl _ w) 2 false 12 rfl rfl (fun ρ w _ _ hf => (.inl ((hf 12).1 rfl))) (fun w d h => by cases h; rfl)
      · -- 13: slot 23 := Op.load 22 t3
        exact StepOK.skipped (kn_stable _) (fun w => Ch.refl _ w) 2 false 12 rfl rfl (fun ρ w _ _ hf => (.inl ((hf 12).1 rfl))) (fun w d h => by cases h; rfl)
      · -- 14: slot 24 := Op.binOp BinOp.neq 22 t22 t23 22
        exact StepOK.skipped (kn_stable _) (fun w => Ch.refl _ w) 2 false 12 rfl rfl (fun ρ w _ _ hf => (.inl ((hf 12).1 rfl))) (fun w d h => by cases h; rfl)
      · -- 15: slot 25 := Op.pick t12 (const (Value.bool true)) t24
        refine StepOK.plain (kn_stable _) rfl fun ρ w hρ hw hf => ?_
        have h12 : ρ (.tmp 12) = (.bool true) := (hf 12).1 rfl
        have h24 : ρ (.tmp 24) = (undef) := (hf 24).1 rfl
        exact Exec.kpickT rfl rfl h12 (hρ.const _)
    case fin =>
      intro ν w9 hfin hx9
      have e0 : ν 25 = .bool true := hfin 15 25 rfl
      simp only [Exit.then, ended, List.foldl_cons, List.foldl_nil, List.setIfInBounds_toArray, List.set_cons_succ, List.set_cons_zero, e0]
      have HX9 := Lib.hid (HX2.out.trans hx9); have HG9 := Lib.hid (heap_ext hx9 HG.out)
      clear hfin hx9 e0
      have b0 := fun w => build_rl0 w
      go_wp2_with (refine wpList_store_rowTo rfl _ _ _ rfl rfl (g3 + 1) #[.int .u32 0, .int .u32 0, .string ⟨#[]⟩, .int .u8 0, .slice none 0 0] rfl rfl _ _ HG9.out infoOw rfl (by simp [Value.oneCell']) ?_)
      refine bodyPost_ret (results_row_tmp rfl _ _ (g3 + 1) _ #[.int .u32 0, .int .u32 0, .string ⟨#[]⟩, .int .u8 0, .slice none 0 0] _ _ rfl (setRow_heap _ _ _ _ _ _ HG9.out) Try.underlying39 rfl infoOw) rfl ?_
      rw [HE.out]
      exact ⟨HX9.out.grown (gby_setRow _ _ _) (fun k e => by cases e; exact .inr (by have := HSZ.out; omega)), .slice none 0 0, rfl, World.ownsRow_nil _ _ _ _⟩
  · obtain ⟨j, rfl⟩ : ∃ j, k = j + 1 := ⟨k - 1, by omega⟩
    have hj : j < l.length := by omega
    have hY := HY1.out j hj rfl
    obtain ⟨g', v', e0, _, h3, cs, h4, h5⟩ := HC2.out
    cases e0
    have hs : RlS (OwnP base w2) w2 v' l := ⟨cs, h4, Sl.ofOwns h5⟩
    obtain ⟨ao, cap, rfl⟩ := owns_shape h5
    obtain ⟨b, o, cv, rfl, hra, hcv⟩ := rlS_at hs hj
    obtain ⟨ci, chi, _, chs, _⟩ := info_parts infoRlZ
    have CHI := Lib.hid chi; have CHS := Lib.hid chs; have HLT := Lib.hid hj
    have h16 := (rlErr_zero (HOK.out.right _ (List.getElem_mem hj))).2.2.2.2.2.1
    have hll := HOK.out.len
    generalize l[j] = x at *
    have hx16 : x.cols.length ≤ 16 := h16
    have V0 : Hid (w2.cell? ⟨g, 0, none⟩ = some (.slice (some ⟨b, o, none⟩) l.length cap)) := Lib.hid (by rw [cell_of_row _ _ _ _ _ _ h3]; rfl)
    have Q0 : Hid (w2.cell? ⟨b, o + j * 5, none⟩ = some (.int .u32 (x.oid : Nat))) := Lib.hid (by have := hra 0 _ rfl; simpa using this)
    have O3 : Hid (w2.cell? ⟨w.heap.size, 0, none⟩ = some (.int .u32 (oid : Nat))) := Lib.hid (by rw [cell_of_row _ _ _ _ _ _ HO3.out]; rfl)
    have HKJ : Hid (0 < j + 1) := Lib.hid (by omega)
    have hsb : IntKind.i64.wrap (((j + 1 : Nat) : Int) - 1) = (j : Int) := by rw [IntKind.wrap_i64]; omega
    have HSB := Lib.hid hsb
    have HWJ : Hid (IntKind.i64.wrap (j : Int) = (j : Int)) := Lib.hid (by rw [IntKind.wrap_i64]; omega)
    obtain ⟨D, hD⟩ : ∃ D, D = !decide (x.oid = oid) := ⟨_, rfl⟩
    have HD := Lib.hid hD
    have HDD : Hid (((x.oid : Int) != (oid : Int)) = D) := Lib.hid (by rw [hD]; by_cases hh : x.oid = oid <;> simp [hh] <;> omega)
    have HRA := Lib.hid hra; have HCV := Lib.hid hcv; have HY := Lib.hid hY; have H16 := Lib.hid hx16
    clear hs h3 h4 h5 hra hcv chi chs h16 hY hD HY0 HY1 hx16 h0 hsb
    generalize l.length = n at *
    go_wp2
    obtain ⟨g3, hg3⟩ : ∃ g3, g3 = w.heap.size := ⟨_, rfl⟩
    have HSZ : Hid (w.heap.size ≤ g3) := Lib.hid (by omega)
    rw [← hg3] at HG ⊢
    try rw [← hg3] at O3
    clear hg3
    refine wp_region_ext (la1T g b o n cap (j + 1) j x.oid oid D) mixedV (by rfl) (by rfl) ?all ?fin
    case all =>
      refine ⟨?_, ?_, ?_, ?_, ?_, ?_, ?_, ?_, ?_, ?_, ?_, ?_, ?_, ?_, ?_, ?_, trivial⟩
      · -- 0: slot 10 := Op.move t6
        refine StepOK.plain (kn_stable _) rfl fun ρ w hρ hw hf => ?_
        have h6 : ρ (.tmp 6) = (.int .i64 ((j + 1 : Nat) : Int)) := (hf 6).2 rfl rfl
        exact Exec.kmove rfl rfl h6
      · -- 1: slot 11 := Op.binOp BinOp.eql 3 t10 (const (0:i64)) 3
        refine StepOK.plain (kn_stable _) rfl fun ρ w hρ hw hf => ?_
        have h10 : ρ (.tmp 10) = (.int .i64 ((j + 1 : Nat) : Int)) := (hf 10).1 rfl
        exact Exec.same (v := .bool false) rfl (by simp [go_sem, hρ.const, h10]; have := HKJ.out; omega) rfl
      · -- 2: slot 12 := Op.move t11
        refine StepOK.plain (kn_stable _) rfl fun ρ w hρ hw hf => ?_
        have h11 : ρ (.tmp 11) = (.bool false) := (hf 11).1 rfl
        exact Exec.kmove rfl rfl h11
      · -- 3: slot 13 := Op.move t0
        refine StepOK.guarded (kn_stable _) 2 false 12 rfl rfl (fun ρ w _ _ hf => (hf 12).1 rfl) fun ρ w hρ hw hf => ?_
        have h0 : ρ (.tmp 0) = (.pointer (some ⟨g, 0, none⟩)) := (hf 0).2 rfl rfl
        exact Exec.kmove rfl rfl h0
      · -- 4: slot 14 := Op.nilCheck t13
        refine StepOK.guarded (kn_stable _) 2 false 12 rfl rfl (fun ρ w _ _ hf => (hf 12).1 rfl) fun ρ w hρ hw hf => ?_
        have h13 : ρ (.tmp 13) = (.pointer (some ⟨g, 0, none⟩)) := (hf 13).1 rfl
        exact Exec.same (v := (.pointer (some ⟨g, 0, none⟩))) rfl (by simp [go_sem, hρ.const, h13]) rfl
      · -- 5: slot 15 := Op.fieldAddr 116 t14 0
        refine StepOK.guarded (kn_stable _) 2 false 12 rfl rfl (fun ρ w _ _ hf => (hf 12).1 rfl) fun ρ w hρ hw hf => ?_
        have h14 : ρ (.tmp 14) = (.pointer (some ⟨g, 0, none⟩)) := (hf 14).1 rfl
        exact Exec.kfield rfl rfl h14 (fieldCat_0 w _) rfl
      · -- 6: slot 16 := Op.load 86 t15
        refine StepOK.guarded (kn_stable _) 2 false 12 rfl rfl (fun ρ w _ _ hf => (hf 12).1 rfl) fun ρ w hρ hw hf => ?_
        have h15 : ρ (.tmp 15) = (.pointer (some ⟨g, 0, none⟩)) := (hf 15).1 rfl
        have hc := hw.cell (p := ⟨g, 0, none⟩) (fun f => f) _ V0.out
        exact Exec.same (v := (.slice (some ⟨b, o, none⟩) n cap)) rfl (by simp [go_sem, hρ.const, h15, hc]) rfl
      · -- 7: slot 17 := Op.move t6
        refine StepOK.guarded (kn_stable _) 2 false 12 rfl rfl (fun ρ w _ _ hf => (hf 12).1 rfl) fun ρ w hρ hw hf => ?_
        have h6 : ρ (.tmp 6) = (.int .i64 ((j + 1 : Nat) : Int)) := (hf 6).2 rfl rfl
        exact Exec.kmove rfl rfl h6
      · -- 8: slot 18 := Op.binOp BinOp.sub 3 t17 (const (1:i64)) 3
        refine StepOK.guarded (kn_stable _) 2 false 12 rfl rfl (fun ρ w _ _ hf => (hf 12).1 rfl) fun ρ w hρ hw hf => ?_
        have h17 : ρ (.tmp 17) = (.int .i64 ((j + 1 : Nat) : Int)) := (hf 17).1 rfl
        exact Exec.same (v := (.int .i64 (j : Nat))) rfl (by simp [go_sem, hρ.const, h17]; exact HWJ.out) rfl
      · -- 9: slot 19 := Op.indexAddr 86 t16 t18
        refine StepOK.guarded (kn_stable _) 2 false 12 rfl rfl (fun ρ w _ _ hf => (hf 12).1 rfl) fun ρ w hρ hw hf => ?_
        have h16 : ρ (.tmp 16) = (.slice (some ⟨b, o, none⟩) n cap) := (hf 16).1 rfl
        have h18 : ρ (.tmp 18) = (.int .i64 (j : Nat)) := (hf 18).1 rfl
        exact Exec.kindex rfl rfl Try.underlying62 CHI.out CHS.out h16 h18 HLT.out rfl
      · -- 10: slot 20 := Op.fieldAddr 32 t19 0
        refine StepOK.guarded (kn_stable _) 2 false 12 rfl rfl (fun ρ w _ _ hf => (hf 12).1 rfl) fun ρ w hρ hw hf => ?_
        have h19 : ρ (.tmp 19) = (.pointer (some ⟨b, o + j * 5, none⟩)) := (hf 19).1 rfl
        exact Exec.kfield rfl rfl h19 (fieldRl_0o w _ _) rfl
      · -- 11: slot 21 := Op.fieldAddr 29 t20 0
        refine StepOK.guarded (kn_stable _) 2 false 12 rfl rfl (fun ρ w _ _ hf => (hf 12).1 rfl) fun ρ w hρ hw hf => ?_
        have h20 : ρ (.tmp 20) = (.pointer (some ⟨b, o + j * 5, none⟩)) := (hf 20).1 rfl
        exact Exec.kfield rfl rfl h20 (fieldRf_0o w _ _) rfl
      · -- 12: slot 22 := Op.load 22 t21
        refine StepOK.guarded (kn_stable _) 2 false 12 rfl rfl (fun ρ w _ _ hf => (hf 12).1 rfl) fun ρ w hρ hw hf => ?_
        have h21 : ρ (.tmp 21) = (.pointer (some ⟨b, o + j * 5, none⟩)) := (hf 21).1 rfl
        have hc := hw.cell (p := ⟨b, o + j * 5, none⟩) (fun f => f) _ Q0.out
        exact Exec.same (v := (.int .u32 (x.oid : Nat))) rfl (by simp [go_sem, hρ.const, h21, hc]) rfl
      · -- 13: slot 23 := Op.load 22 t3
        refine StepOK.guarded (kn_stable _) 2 false 12 rfl rfl (fun ρ w _ _ hf => (hf 12).1 rfl) fun ρ w hρ hw hf => ?_
        have h3 : ρ (.tmp 3) = (.pointer (some ⟨g3, 0, none⟩)) := (hf 3).2 rfl rfl
        have hc := hw.cell (p := ⟨g3, 0, none⟩) (fun f => f) _ O3.out
        exact Exec.same (v := (.int .u32 (oid : Nat))) rfl (by simp [go_sem, hρ.const, h3, hc]) rfl
      · -- 14: slot 24 := Op.binOp BinOp.neq 22 t22 t23 22
        refine StepOK.guarded (kn_stable _) 2 false 12 rfl rfl (fun ρ w _ _ hf => (hf 12).1 rfl) fun ρ w hρ hw hf => ?_
        have h22 : ρ (.tmp 22) = (.int .u32 (x.oid : Nat)) := (hf 22).1 rfl
        have h23 : ρ (.tmp 23) = (.int .u32 (oid : Nat)) := (hf 23).1 rfl
        exact Exec.same (v := .bool D) rfl (by simp [go_sem, hρ.const, h22, h23, HDD.out]) rfl
      · -- 15: slot 25 := Op.pick t12 (const (Value.bool true)) t24
        refine StepOK.plain (kn_stable _) rfl fun ρ w hρ hw hf => ?_
        have h12 : ρ (.tmp 12) = (.bool false) := (hf 12).1 rfl
        have h24 : ρ (.tmp 24) = (.bool D) := (hf 24).1 rfl
        exact Exec.kpickF rfl rfl h12 h24
    case fin =>
      intro ν w9 hfin hx9
      have e0 : ν 25 = .bool D := hfin 15 25 rfl
      simp only [Exit.then, ended, List.foldl_cons, List.foldl_nil, List.setIfInBounds_toArray, List.set_cons_succ, List.set_cons_zero, e0]
      have HXX9 := Lib.hid hx9
      have HX9 := Lib.hid (HX2.out.trans hx9); have HG9 := Lib.hid (heap_ext hx9 HG.out)
      have hra : w9.rangeAt b (o + j * 5) (relv x cv).toList := fun i u hu => hx9.cell (p := ⟨b, o + j * 5 + i, none⟩) (fun f => f) _ (HRA.out i u hu)
      have hcv := OwnP.ext hx9 _ _ HCV.out
      have v0 := hx9.cell (p := ⟨g, 0, none⟩) (fun f => f) _ V0.out
      clear hfin hx9 e0
      by_cases hh : x.oid = oid
      · have hDf : D = false := by rw [HD.out]; simp [hh]
        have HE := Lib.hid (HY.out.trans (if_pos hh))
        rw [hDf]
        have hidx := run_indexSl w9 Try.underlying62 CHI.out CHS.out b o n cap j HLT.out
        have q0 : w9.cell? ⟨b, o + j * 5, none⟩ = some (.int .u32 (x.oid : Nat)) := by have := hra 0 _ rfl; simpa using this
        have q1 : w9.cell? ⟨b, o + j * 5 + 1, none⟩ = some (.int .u32 (x.ver : Nat)) := hra 1 _ rfl
        have q2 : w9.cell? ⟨b, o + j * 5 + 2, none⟩ = some (.string ⟨x.name.toArray⟩) := hra 2 _ rfl
        have q3 : w9.cell? ⟨b, o + j * 5 + 3, none⟩ = some (.int .u8 (x.ident : Nat)) := hra 3 _ rfl
        have q4 : w9.cell? ⟨b, o + j * 5 + 4, none⟩ = some cv := hra 4 _ rfl
        obtain ⟨co, cc, rfl⟩ := owns_shape hcv
        have HFR := Lib.hid (fresh_any base x (.slice co x.cols.length cc) w9 (Sl.ofOwns hcv) (by have := H16.out; omega))
        have hsb := HSB.out
        have hlt := HLT.out
        clear hra hcv hDf hh
        unfold relv strV at HFR
        go_wp2_with fail
        refine HFR.out.mono ?_
        rintro e w3 ⟨c, rfl, hx3, ho⟩
        obtain ⟨fo, fc, rfl⟩ := owns_shape ho
        have HX3 := Lib.hid (HX9.out.trans hx3); have HR3 := Lib.hid (heap_ext hx3 HG9.out)
        have HO3' := Lib.hid (ownsRow_down ho HX9.out.size)
        clear hx3 ho q0 q1 q2 q3 q4 hidx v0 HFR
        go_wp2_with (refine wpList_store_rowTo rfl _ _ _ rfl rfl (g3 + 1) (relv x (.slice fo x.cols.length fc)) rfl rfl _ _ HR3.out infoOw rfl (relv_one _ _ _ _) ?_)
        refine bodyPost_ret (results_row_tmp rfl _ _ (g3 + 1) _ (relv x (.slice fo x.cols.length fc)) _ _ rfl (setRow_heap _ _ _ _ _ _ HR3.out) Try.underlying39 rfl infoOw) rfl ?_
        rw [HE.out]
        refine ⟨HX3.out.grown (gby_setRow _ _ _) (fun k e => by cases e; exact .inr (by have := HSZ.out; omega)), _, rfl, ?_⟩
        exact HO3'.out.kept (gby_setRow _ _ _) (.inr fun e => own_ne HO3'.out HR3.out (by decide) _ e rfl)
      · have hDt : D = true := by rw [HD.out]; simp [hh]
        have HE := Lib.hid (HY.out.trans (if_neg hh))
        rw [hDt]
        clear hra hcv v0 hDt hh
        have b0 := fun w => build_rl0 w
        go_wp2_with (refine wpList_store_rowTo rfl _ _ _ rfl rfl (g3 + 1) #[.int .u32 0, .int .u32 0, .string ⟨#[]⟩, .int .u8 0, .slice none 0 0] rfl rfl _ _ HG9.out infoOw rfl (by simp [Value.oneCell']) ?_)
        refine bodyPost_ret (results_row_tmp rfl _ _ (g3 + 1) _ #[.int .u32 0, .int .u32 0, .string ⟨#[]⟩, .int .u8 0, .slice none 0 0] _ _ rfl (setRow_heap _ _ _ _ _ _ HG9.out) Try.underlying39 rfl infoOw) rfl ?_
        rw [HE.out]
        exact ⟨HX9.out.grown (gby_setRow _ _ _) (fun k e => by cases e; exact .inr (by have := HSZ.out; omega)), .slice none 0 0, rfl, World.ownsRow_nil _ _ _ _⟩
end Go.Proofs.Ytegclfpmgilnpaa
