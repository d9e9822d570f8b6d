/-
  Catalogs: place, find. MADE BY mkCatC.py
-/
import Derived.Test.YtegclfpmgilnpaaCatB
namespace Go.Proofs.Ytegclfpmgilnpaa
open Go.RowKit Go.Lac

set_option maxRecDepth 20000 in
set_option maxHeartbeats 1600000 in
theorem place_any (base : Nat) (fid : FuncId) {fn : Func} (caps : Array Value) (p : Value) (l : List Rl) (q : Nat → Bool) (w : World) (h : CatS base w p l) (hl : l.length ≤ 1000000) (hm : ∀ i j, i ≤ j → j < l.length → q i = true → q j = true)
    (hf : Try.prog.funcs[fid]? = some fn) (hn : (fn.name == "runtime.NumGoroutine") = false) (hb : fn.body.isNone = false)
    (hcall : ∀ (k : Nat) (hk : k < l.length) (w' : World) (cv : Value), Ext w w' → Calls Try.prog fid (#[.agg (relv l[k] cv)] ++ caps) w' fun e w'' => e = .returned (.bool (q k)) ∧ Ext w' w'') :
    Calls Try.prog 54 #[p, .func (.func fid) #[] caps] w fun e w' => (∃ k : Nat, k ≤ l.length ∧ e = .returned (.int .i64 k) ∧ (∀ j, j < l.length → (q j = true ↔ k ≤ j))) ∧ Ext w w' := by
  have h1 := heap_alloc2_old w (.cells #[p] 27) (.cells #[.func (.func fid) #[] caps] 116)
  have h2 := heap_alloc2_new w (.cells #[p] 27) (.cells #[.func (.func fid) #[] caps] 116)
  obtain ⟨W, hW⟩ : ∃ W, W = (w.alloc (.cells #[p] 27)).alloc (.cells #[.func (.func fid) #[] caps] 116) := ⟨_, rfl⟩
  have hx : Ext w W := by rw [hW]; exact ((Ch.refl _ _).alloc _).alloc _
  rw [← hW] at h1 h2
  have c0 : W.cell? ⟨w.heap.size, 0, none⟩ = some p := by rw [cell_of_row _ _ _ _ _ _ h1]; rfl
  have c1 : W.cell? ⟨w.heap.size + 1, 0, none⟩ = some (.func (.func fid) #[] caps) := by rw [cell_of_row _ _ _ _ _ _ h2]; rfl
  have HPL : Hid (PlB base W (w.heap.size + 1) w.heap.size fid caps p l) := Lib.hid ⟨c1, c0, h.ext hx⟩
  have HLN := Lib.hid (len_any base W p l HPL.out.rels)
  have HSR := Lib.hid (fun w2 (hx2 : Ext W w2) => search_any l.length (w.heap.size + 1) w.heap.size q w2 hl hm fun k hk w' hx' =>
    place1_any base (w.heap.size + 1) w.heap.size fid caps p l k (q k) w' (HPL.out.ext (hx2.trans hx')) hk hf hn hb fun w'' cv hx'' => hcall k hk w'' cv (hx.trans (hx2.trans (hx'.trans hx''))))
  have HX := Lib.hid hx; have HW := Lib.hid hW
  obtain ⟨g, v, rfl, _⟩ := h
  rw [hW] at c0 c1
  unfold srchV at HSR
  clear h1 h2 hx hW hf hn hb hcall hm
  generalize l.length = n at *
  go_enter Try.func54, Try.ntmps54
  go_wp2_with fail
  rw [← HW.out]
  refine HLN.out.mono ?_
  rintro e w2 ⟨rfl, hx2⟩
  have HX2 := Lib.hid hx2
  clear hx2 c0 c1
  go_wp2_with fail
  refine (HSR.out _ HX2.out).mono ?_
  rintro e w3 ⟨⟨k, hk, rfl, hq⟩, hx3⟩
  have HX3 := Lib.hid (HX.out.trans (HX2.out.trans hx3)); have HQ := Lib.hid hq
  clear hx3 hq
  go_wp2
  go_ret
  exact ⟨⟨k, hk, rfl, HQ.out⟩, HX3.out⟩
theorem fieldRl_0o (w : World) (b o : Nat) : (Instr.fieldAt 39 (.pointer (some ⟨b, o, none⟩)) 0).run Try.prog w = .ok (.pointer (some ⟨b, o, none⟩)) w := by kernel_rfl
theorem infoRf3 : (Try.prog.info? 36).map (·.size) = some 2 := by kernel_rfl
def fdF (g n k : Nat) : Tmp → Kn
  | 4 => .is (.int .i64 (k : Nat))
  | 5 => .is (.bool false)
  | 10 => .is (.int .i64 (k : Nat))
  | 11 => .is (.int .i64 (k : Nat))
  | 12 => .is (.pointer (some ⟨g, 0, none⟩))
  | 13 => .is (.int .i64 (n : Nat))
  | 14 => .is (.bool false)
  | 15 => .is (.bool false)
  | 16 => .is undef
  | 17 => .is undef
  | 18 => .is undef
  | 19 => .is undef
  | 20 => .is undef
  | 21 => .is undef
  | 22 => .is undef
  | 23 => .is undef
  | 24 => .is undef
  | 25 => .is undef
  | 26 => .is (.bool false)
  | _ => .any
def fdT (g b o n cap k : Nat) (q p : Nat × Nat) (D : Bool) : Tmp → Kn
  | 4 => .is (.int .i64 (k : Nat))
  | 5 => .is (.bool D)
  | 10 => .is (.int .i64 (k : Nat))
  | 11 => .is (.int .i64 (k : Nat))
  | 12 => .is (.pointer (some ⟨g, 0, none⟩))
  | 13 => .is (.int .i64 (n : Nat))
  | 14 => .is (.bool true)
  | 15 => .is (.bool true)
  | 16 => .is (.pointer (some ⟨g, 0, none⟩))
  | 17 => .is (.pointer (some ⟨g, 0, none⟩))
  | 18 => .is (.pointer (some ⟨g, 0, none⟩))
  | 19 => .is (.slice (some ⟨b, o, none⟩) n cap)
  | 20 => .is (.int .i64 (k : Nat))
  | 21 => .is (.pointer (some ⟨b, o + k * 5, none⟩))
  | 22 => .is (.pointer (some ⟨b, o + k * 5, none⟩))
  | 23 => .is (.agg (refv q))
  | 24 => .is (.agg (refv p))
  | 25 => .is (.bool D)
  | 26 => .is (.bool D)
  | _ => .any

theorem geq_mono {l : List Rl} (h : InOrder l) (p : Nat × Nat) : ∀ i j, i ≤ j → j < l.length → (!decide (RefLt (rf (l.getD i .zero)) p)) = true → (!decide (RefLt (rf (l.getD j .zero)) p)) = true := by
  intro i j hij hj h1
  have hi : i < l.length := by omega
  rw [List.getD_eq_getElem?_getD, List.getElem?_eq_getElem hi] at h1
  rw [List.getD_eq_getElem?_getD, List.getElem?_eq_getElem hj]
  simp only [Option.getD_some, Bool.not_eq_true', decide_eq_false_iff_not] at h1 ⊢
  rw [place_iff h i hi] at h1
  rw [place_iff h j hj]
  omega
set_option maxRecDepth 20000 in
set_option maxHeartbeats 1600000 in
theorem find_any (base : Nat) (c : Value) (l : List Rl) (p : Nat × Nat) (w : World) (h : CatS base w c l) (ho : InOrder l) (hl : l.length ≤ 1000000) :
    Calls Try.prog 50 #[c, .agg (refv p)] w fun e w' => e = .returned (.tuple #[.int .i64 (place l p : Nat), .bool (decide (∃ x ∈ l, rf x = p))]) ∧ Ext w w' := by
  have h1 := heap_alloc_new w (.cells (refv p) 36)
  obtain ⟨W, hW⟩ : ∃ W, W = w.alloc (.cells (refv p) 36) := ⟨_, rfl⟩
  have hx : Ext w W := by rw [hW]; exact (Ch.refl _ _).alloc _
  rw [← hW] at h1
  have HG3 := Lib.hid h1; have HX := Lib.hid hx; have HW := Lib.hid hW; have HC := Lib.hid (h.ext hx); have HO := Lib.hid ho
  have HPL := Lib.hid (place_any base 78 #[.pointer (some ⟨w.heap.size, 0, none⟩)] c l (fun k => !decide (RefLt (rf (l.getD k .zero)) p)) W (h.ext hx) hl (geq_mono ho p) Try.func78 (by rfl) (by rfl) fun k hk w' cv hx' => by
    rw [List.getD_eq_getElem?_getD, List.getElem?_eq_getElem hk]
    exact refGeq_any l[k] cv w.heap.size p w' (heap_ext hx' h1))
  have HTH := Lib.hid (place_there (p := p) ho)
  have HPI := Lib.hid (fun j hj => place_iff ho j hj (p := p))
  have hple := place_le l p
  obtain ⟨g, v, rfl, _⟩ := h
  clear h1 hx hW ho hl
  go_enter Try.func50, Try.ntmps50
  go_wp2_with fail
  rw [← HW.out]
  refine HPL.out.mono ?_
  rintro e w2 ⟨⟨k, hk, rfl, hq⟩, hx2⟩
  have hkp : k = place l p := by
    have hz : ∀ j (hj : j < l.length), (j < place l p ↔ ¬ k ≤ j) := fun j hj => by
      rw [← HPI.out j hj, ← hq j hj, List.getD_eq_getElem?_getD, List.getElem?_eq_getElem hj]
      simp
    rcases Nat.lt_trichotomy k (place l p) with h | h | h
    · have := (hz k (by omega)).1 h; omega
    · exact h
    · have := (hz (place l p) (by omega)).2 (by omega); omega
  have HX2 := Lib.hid (HX.out.trans hx2)
  have HC2 := Lib.hid (HC.out.ext hx2); have HG3 := Lib.hid (heap_ext hx2 HG3.out)
  clear hx2 hq
  subst hkp
  have HLN := Lib.hid (fun w3 (hx3 : Ext w2 w3) => len_any base w3 (.pointer (some ⟨g, 0, none⟩)) l (HC2.out.ext hx3))
  generalize hk' : place l p = k at *
  have HK := Lib.hid hk'; clear hk' HPL HPI
  generalize w.heap.size = g3 at *
  go_wp2
  by_cases hlt : k < l.length
  · obtain ⟨g', v', e0, _, h3, cs, h4, h5⟩ := HC2.out
    cases e0
    have hs : RlS (OwnP base w2) w2 v' l := ⟨cs, h4, Sl.ofOwns h5⟩
    obtain ⟨ao, cap, rfl⟩ := owns_shape h5
    obtain ⟨b, o, cv, rfl, hra, -⟩ := rlS_at hs hlt
    obtain ⟨ci, chi, _, chs, _⟩ := info_parts infoRlZ
    have CHI := Lib.hid chi; have CHS := Lib.hid chs; have HLT := Lib.hid hlt
    have V0 : Hid (w2.cell? ⟨g, 0, none⟩ = some (.slice (some ⟨b, o, none⟩) l.length cap)) := Lib.hid (by rw [cell_of_row _ _ _ _ _ _ h3]; rfl)
    have HRA : Hid (w2.rangeAt b (o + k * 5) (refv (rf l[k])).toList) := Lib.hid fun j u hu => hra j u (by
      match j, hu with
      | 0, hu => exact hu
      | 1, hu => exact hu)
    have HTT : Hid (decide (∃ x ∈ l, rf x = p) = decide (rf l[k] = p)) := Lib.hid (decide_eq_decide.2 ⟨fun h => by obtain ⟨hk2, e⟩ := HTH.out.2 h; exact e, fun e => ⟨_, List.getElem_mem hlt, e⟩⟩)
    obtain ⟨D, hD⟩ : ∃ D, D = decide (rf l[k] = p) := ⟨_, rfl⟩
    have HDE := Lib.hid hD
    generalize rf l[k] = q at *
    have HDD : Hid (D = decide (q.1 = p.1 ∧ q.2 = p.2)) := Lib.hid (by rw [hD]; exact decide_eq_decide.2 ⟨fun e => by rw [e]; exact ⟨rfl, rfl⟩, fun ⟨h1, h2⟩ => Prod.ext h1 h2⟩)
    clear h3 h4 h5 hs hra chi chs hlt hD HTH
    generalize l.length = n at *
    refine wp_region_ext (fdT g b o n cap k q p D) mixedV (by rfl) (by rfl) ?all ?fin
    case all =>
        refine ⟨?_, ?_, ?_, ?_, ?_, ?_, ?_, ?_, ?_, ?_, ?_, ?_, ?_, ?_, ?_, ?_, ?_, ?_, ?_, trivial⟩
        · -- 0: slot 10 := Op.move t6
          refine StepOK.plain (kn_stable _) rfl fun ρ w hρ hw hf => ?_
          have h6 : ρ (.tmp 6) = (.int .i64 (k : Nat)) := (hf 6).2 rfl rfl
          exact Exec.kmove rfl rfl h6
        · -- 1: slot 11 := Op.move t6
          refine StepOK.plain (kn_stable _) rfl fun ρ w hρ hw hf => ?_
          have h6 : ρ (.tmp 6) = (.int .i64 (k : Nat)) := (hf 6).2 rfl rfl
          exact Exec.kmove rfl rfl h6
        · -- 2: slot 12 := Op.move t0
          refine StepOK.plain (kn_stable _) rfl fun ρ w hρ hw hf => ?_
          have h0 : ρ (.tmp 0) = (.pointer (some ⟨g, 0, none⟩)) := (hf 0).2 rfl rfl
          exact Exec.kmove rfl rfl h0
        · -- 3: slot 13 := Op.call { value (Operand.func 29), args := #[t12], argTypes := #[63] }
          refine StepOK.plain (kn_stable _) rfl fun ρ w hρ hw hf => ?_
          have h12 : ρ (.tmp 12) = (.pointer (some ⟨g, 0, none⟩)) := (hf 12).1 rfl
          refine Exec.kcall #[.pointer (some ⟨g, 0, none⟩)] hρ rfl rfl (by simp [h12]) Try.func14 (by rfl) (by rfl) ((HLN.out w hw).mono ?_)
          rintro e w' ⟨rfl, hx⟩
          exact ⟨_, rfl, rfl, hx⟩
        · -- 4: slot 14 := Op.binOp BinOp.lss 3 t11 t13 3
          refine StepOK.plain (kn_stable _) rfl fun ρ w hρ hw hf => ?_
          have h11 : ρ (.tmp 11) = (.int .i64 (k : Nat)) := (hf 11).1 rfl
          have h13 : ρ (.tmp 13) = (.int .i64 (n : Nat)) := (hf 13).1 rfl
          exact Exec.same (v := .bool true) rfl (by simp [go_sem, hρ.const, h11, h13]; exact HLT.out) rfl
        · -- 5: slot 15 := Op.move t14
          refine StepOK.plain (kn_stable _) rfl fun ρ w hρ hw hf => ?_
          have h14 : ρ (.tmp 14) = (.bool true) := (hf 14).1 rfl
          exact Exec.kmove rfl rfl h14
        · -- 6: slot 16 := Op.move t0
          refine StepOK.guarded (kn_stable _) 5 true 15 rfl rfl (fun ρ w _ _ hf => (hf 15).1 rfl) fun ρ w hρ hw hf => ?_
          have h0 : ρ (.tmp 0) = (.pointer (some ⟨g, 0, none⟩)) := (hf 0).2 rfl rfl
          exact Exec.kmove rfl rfl h0
        · -- 7: slot 17 := Op.nilCheck t16
          refine StepOK.guarded (kn_stable _) 5 true 15 rfl rfl (fun ρ w _ _ hf => (hf 15).1 rfl) fun ρ w hρ hw hf => ?_
          have h16 : ρ (.tmp 16) = (.pointer (some ⟨g, 0, none⟩)) := (hf 16).1 rfl
          exact Exec.same (v := (.pointer (some ⟨g, 0, none⟩))) rfl (by simp [go_sem, hρ.const, h16]) rfl
        · -- 8: slot 18 := Op.fieldAddr 116 t17 0
          refine StepOK.guarded (kn_stable _) 5 true 15 rfl rfl (fun ρ w _ _ hf => (hf 15).1 rfl) fun ρ w hρ hw hf => ?_
          have h17 : ρ (.tmp 17) = (.pointer (some ⟨g, 0, none⟩)) := (hf 17).1 rfl
          exact Exec.kfield rfl rfl h17 (fieldCat_0 w _) rfl
        · -- 9: slot 19 := Op.load 86 t18
          refine StepOK.guarded (kn_stable _) 5 true 15 rfl rfl (fun ρ w _ _ hf => (hf 15).1 rfl) fun ρ w hρ hw hf => ?_
          have h18 : ρ (.tmp 18) = (.pointer (some ⟨g, 0, none⟩)) := (hf 18).1 rfl
          have hc := hw.cell (p := ⟨g, 0, none⟩) (fun f => f) _ V0.out
          exact Exec.same (v := (.slice (some ⟨b, o, none⟩) n cap)) rfl (by simp [go_sem, hρ.const, h18, hc]) rfl
        · -- 10: slot 20 := Op.move t6
          refine StepOK.guarded (kn_stable _) 5 true 15 rfl rfl (fun ρ w _ _ hf => (hf 15).1 rfl) fun ρ w hρ hw hf => ?_
          have h6 : ρ (.tmp 6) = (.int .i64 (k : Nat)) := (hf 6).2 rfl rfl
          exact Exec.kmove rfl rfl h6
        · -- 11: slot 21 := Op.indexAddr 86 t19 t20
          refine StepOK.guarded (kn_stable _) 5 true 15 rfl rfl (fun ρ w _ _ hf => (hf 15).1 rfl) fun ρ w hρ hw hf => ?_
          have h19 : ρ (.tmp 19) = (.slice (some ⟨b, o, none⟩) n cap) := (hf 19).1 rfl
          have h20 : ρ (.tmp 20) = (.int .i64 (k : Nat)) := (hf 20).1 rfl
          exact Exec.kindex rfl rfl Try.underlying62 CHI.out CHS.out h19 h20 HLT.out rfl
        · -- 12: slot 22 := Op.fieldAddr 32 t21 0
          refine StepOK.guarded (kn_stable _) 5 true 15 rfl rfl (fun ρ w _ _ hf => (hf 15).1 rfl) fun ρ w hρ hw hf => ?_
          have h21 : ρ (.tmp 21) = (.pointer (some ⟨b, o + k * 5, none⟩)) := (hf 21).1 rfl
          exact Exec.kfield rfl rfl h21 (fieldRl_0o w _ _) rfl
        · -- 13: slot 23 := Op.load 29 t22
          refine StepOK.guarded (kn_stable _) 5 true 15 rfl rfl (fun ρ w _ _ hf => (hf 15).1 rfl) fun ρ w hρ hw hf => ?_
          have h22 : ρ (.tmp 22) = (.pointer (some ⟨b, o + k * 5, none⟩)) := (hf 22).1 rfl
          have hm : w.rangeAt b (o + k * 5) (refv q).toList := fun j u hu => hw.cell (p := ⟨b, o + k * 5 + j, none⟩) (fun f => f) _ (HRA.out j u hu)
          have hr := run_loadAt_mid (P := Try.prog) w b (o + k * 5) 36 (refv q).toList _ hm Try.underlying36 rfl infoRf3
          exact Exec.same (v := .agg (refv q)) rfl (by unfold execOp; simp only [h22, Sem.run_bind, hr, Result.andThen_ok, Sem.run_pure]) rfl
        · -- 14: slot 24 := Op.load 29 t3
          refine StepOK.guarded (kn_stable _) 5 true 15 rfl rfl (fun ρ w _ _ hf => (hf 15).1 rfl) fun ρ w hρ hw hf => ?_
          have h3 : ρ (.tmp 3) = (.pointer (some ⟨g3, 0, none⟩)) := (hf 3).2 rfl rfl
          exact Exec.kloadrow rfl rfl h3 (heap_ext hw HG3.out) Try.underlying36 rfl infoRf3 rfl
        · -- 15: slot 25 := Op.binOp BinOp.eql 29 t23 t24 29
          refine StepOK.guarded (kn_stable _) 5 true 15 rfl rfl (fun ρ w _ _ hf => (hf 15).1 rfl) fun ρ w hρ hw hf => ?_
          have h23 : ρ (.tmp 23) = (.agg (refv q)) := (hf 23).1 rfl
          have h24 : ρ (.tmp 24) = (.agg (refv p)) := (hf 24).1 rfl
          refine Exec.same (v := .bool D) rfl ?_ rfl
          unfold execOp
          have hg : (eqGuard .eql 36 (.tmp 23) (.tmp 24) (.agg (refv q)) (.agg (refv p))).run Try.prog w = .ok () w := run_eqGuard_agg w _ _ _ _ _ _ (by kernel_rfl)
          have hq : (binOp .eql 36 (.agg (refv q)) (.agg (refv p))).run Try.prog w = .ok (.bool D) w := by rw [HDD.out]; exact run_refeq q.1 q.2 p.1 p.2 w
          simp only [h23, h24, Sem.run_bind, hg, Result.andThen_ok, hq, Sem.run_pure]
        · -- 16: slot 26 := Op.pick t15 t25 (const (Value.bool false))
          refine StepOK.plain (kn_stable _) rfl fun ρ w hρ hw hf => ?_
          have h15 : ρ (.tmp 15) = (.bool true) := (hf 15).1 rfl
          have h25 : ρ (.tmp 25) = (.bool D) := (hf 25).1 rfl
          exact Exec.kpickT rfl rfl h15 h25
        · -- 17: slot 4 := Op.assign t10
          refine StepOK.plain (kn_stable _) rfl fun ρ w hρ hw hf => ?_
          have h10 : ρ (.tmp 10) = (.int .i64 (k : Nat)) := (hf 10).1 rfl
          exact Exec.kassign rfl rfl h10
        · -- 18: slot 5 := Op.assign t26
          refine StepOK.plain (kn_stable _) rfl fun ρ w hρ hw hf => ?_
          have h26 : ρ (.tmp 26) = (.bool D) := (hf 26).1 rfl
          exact Exec.kassign rfl rfl h26
    case fin =>
      intro ν w9 hfin hx9
      have h0 : ν 4 = .int .i64 (k : Nat) := hfin 17 4 rfl
      have h1 : ν 5 = .bool D := hfin 18 5 rfl
      simp only [Exit.then, ended, List.foldl_cons, List.foldl_nil, List.setIfInBounds_toArray, List.set_cons_succ, List.set_cons_zero, h0, h1]
      have HX9 := Lib.hid (HX2.out.trans hx9)
      clear hfin hx9 h0 h1
      go_wp2
      refine bodyPost_ret (results_tmp2 rfl _ _ _) rfl ?_
      exact ⟨by rw [HK.out, HTT.out, ← HDE.out]; rfl, HX9.out⟩
  · have HNL := Lib.hid hlt
    have HTT : Hid (decide (∃ x ∈ l, rf x = p) = false) := Lib.hid (decide_eq_false fun h => by obtain ⟨hk2, _⟩ := HTH.out.2 h; exact hlt hk2)
    clear hlt HTH
    generalize l.length = n at *
    refine wp_region_ext (fdF g n k) mixedV (by rfl) (by rfl) ?all ?fin
    case all =>
        refine ⟨?_, ?_, ?_, ?_, ?_, ?_, ?_, ?_, ?_, ?_, ?_, ?_, ?_, ?_, ?_, ?_, ?_, ?_, ?_, trivial⟩
        · -- 0: slot 10 := Op.move t6
          refine StepOK.plain (kn_stable _) rfl fun ρ w hρ hw hf => ?_
          have h6 : ρ (.tmp 6) = (.int .i64 (k : Nat)) := (hf 6).2 rfl rfl
          exact Exec.kmove rfl rfl h6
        · -- 1: slot 11 := Op.move t6
          refine StepOK.plain (kn_stable _) rfl fun ρ w hρ hw hf => ?_
          have h6 : ρ (.tmp 6) = (.int .i64 (k : Nat)) := (hf 6).2 rfl rfl
          exact Exec.kmove rfl rfl h6
        · -- 2: slot 12 := Op.move t0
          refine StepOK.plain (kn_stable _) rfl fun ρ w hρ hw hf => ?_
          have h0 : ρ (.tmp 0) = (.pointer (some ⟨g, 0, none⟩)) := (hf 0).2 rfl rfl
          exact Exec.kmove rfl rfl h0
        · -- 3: slot 13 := Op.call { value (Operand.func 29), args := #[t12], argTypes := #[63] }
          refine StepOK.plain (kn_stable _) rfl fun ρ w hρ hw hf => ?_
          have h12 : ρ (.tmp 12) = (.pointer (some ⟨g, 0, none⟩)) := (hf 12).1 rfl
          refine Exec.kcall #[.pointer (some ⟨g, 0, none⟩)] hρ rfl rfl (by simp [h12]) Try.func14 (by rfl) (by rfl) ((HLN.out w hw).mono ?_)
          rintro e w' ⟨rfl, hx⟩
          exact ⟨_, rfl, rfl, hx⟩
        · -- 4: slot 14 := Op.binOp BinOp.lss 3 t11 t13 3
          refine StepOK.plain (kn_stable _) rfl fun ρ w hρ hw hf => ?_
          have h11 : ρ (.tmp 11) = (.int .i64 (k : Nat)) := (hf 11).1 rfl
          have h13 : ρ (.tmp 13) = (.int .i64 (n : Nat)) := (hf 13).1 rfl
          exact Exec.same (v := .bool false) rfl (by simp [go_sem, hρ.const, h11, h13]; exact Nat.le_of_not_lt HNL.out) rfl
        · -- 5: slot 15 := Op.move t14
          refine StepOK.plain (kn_stable _) rfl fun ρ w hρ hw hf => ?_
          have h14 : ρ (.tmp 14) = (.bool false) := (hf 14).1 rfl
          exact Exec.kmove rfl rfl h14
        · -- 6: slot 16 := Op.move t0
          exact StepOK.skipped (kn_stable _) (fun w => Ch.refl _ w) 5 true 15 rfl rfl (fun ρ w _ _ hf => (.inl ((hf 15).1 rfl))) (fun w d h => by cases h; rfl)
        · -- 7: slot 17 := Op.nilCheck t16
          exact StepOK.skipped (kn_stable _) (fun w => Ch.refl _ w) 5 true 15 rfl rfl (fun ρ w _ _ hf => (.inl ((hf 15).1 rfl))) (fun w d h => by cases h; rfl)
        · -- 8: slot 18 := Op.fieldAddr 116 t17 0
          exact StepOK.skipped (kn_stable _) (fun w => Ch.refl _ w) 5 true 15 rfl rfl (fun ρ w _ _ hf => (.inl ((hf 15).1 rfl))) (fun w d h => by cases h; rfl)
        · -- 9: slot 19 := Op.load 86 t18
          exact StepOK.skipped (kn_stable _) (fun w => Ch.refl _ w) 5 true 15 rfl rfl (fun ρ w _ _ hf => (.inl ((hf 15).1 rfl))) (fun w d h => by cases h; rfl)
        · -- 10: slot 20 := Op.move t6
          exact StepOK.skipped (kn_stable _) (fun w => Ch.refl _ w) 5 true 15 rfl rfl (fun ρ w _ _ hf => (.inl ((hf 15).1 rfl))) (fun w d h => by cases h; rfl)
        · -- 11: slot 21 := Op.indexAddr 86 t19 t20
          exact StepOK.skipped (kn_stable _) (fun w => Ch.refl _ w) 5 true 15 rfl rfl (fun ρ w _ _ hf => (.inl ((hf 15).1 rfl))) (fun w d h => by cases h; rfl)
        · -- 12: slot 22 := Op.fieldAddr 32 t21 0
          exact StepOK.skipped (kn_stable _) (fun w => Ch.refl _ w) 5 true 15 rfl rfl (fun ρ w _ _ hf => (.inl ((hf 15).1 rfl))) (fun w d h => by cases h; rfl)
        · -- 13: slot 23 := Op.load 29 t22
          exact StepOK.skipped (kn_stable _) (fun w => Ch.refl _ w) 5 true 15 rfl rfl (fun ρ w _ _ hf => (.inl ((hf 15).1 rfl))) (fun w d h => by cases h; rfl)
        · -- 14: slot 24 := Op.load 29 t3
          exact StepOK.skipped (kn_stable _) (fun w => Ch.refl _ w) 5 true 15 rfl rfl (fun ρ w _ _ hf => (.inl ((hf 15).1 rfl))) (fun w d h => by cases h; rfl)
        · -- 15: slot 25 := Op.binOp BinOp.eql 29 t23 t24 29
          exact StepOK.skipped (kn_stable _) (fun w => Ch.refl _ w) 5 true 15 rfl rfl (fun ρ w _ _ hf => (.inl ((hf 15).1 rfl))) (fun w d h => by cases h; rfl)
        · -- 16: slot 26 := Op.pick t15 t25 (const (Value.bool false))
          refine StepOK.plain (kn_stable _) rfl fun ρ w hρ hw hf => ?_
          have h15 : ρ (.tmp 15) = (.bool false) := (hf 15).1 rfl
          have h25 : ρ (.tmp 25) = (undef) := (hf 25).1 rfl
          exact Exec.kpickF rfl rfl h15 (hρ.const _)
        · -- 17: slot 4 := Op.assign t10
          refine StepOK.plain (kn_stable _) rfl fun ρ w hρ hw hf => ?_
          have h10 : ρ (.tmp 10) = (.int .i64 (k : Nat)) := (hf 10).1 rfl
          exact Exec.kassign rfl rfl h10
        · -- 18: slot 5 := Op.assign t26
          refine StepOK.plain (kn_stable _) rfl fun ρ w hρ hw hf => ?_
          have h26 : ρ (.tmp 26) = (.bool false) := (hf 26).1 rfl
          exact Exec.kassign rfl rfl h26
    case fin =>
      intro ν w9 hfin hx9
      have h0 : ν 4 = .int .i64 (k : Nat) := hfin 17 4 rfl
      have h1 : ν 5 = .bool false := hfin 18 5 rfl
      simp only [Exit.then, ended, List.foldl_cons, List.foldl_nil, List.setIfInBounds_toArray, List.set_cons_succ, List.set_cons_zero, h0, h1]
      have HX9 := Lib.hid (HX2.out.trans hx9)
      clear hfin hx9 h0 h1
      go_wp2
      refine bodyPost_ret (results_tmp2 rfl _ _ _) rfl ?_
      exact ⟨by rw [HK.out, HTT.out]; rfl, HX9.out⟩
end Go.Proofs.Ytegclfpmgilnpaa
