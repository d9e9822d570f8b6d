/-
  Catalogs: the document's Get. MADE BY mkCatI.py
-/
import Derived.Test.YtegclfpmgilnpaaCatG
import Derived.Test.YtegclfpmgilnpaaGRelB
namespace Go.Proofs.Ytegclfpmgilnpaa
open Go.RowKit Go.Lac

theorem fieldRR_0o (w : World) (b o : Nat) : (Instr.fieldAt 33 (.pointer (some ⟨b, o, none⟩)) 0).run Try.prog w = .ok (.pointer (some ⟨b, o, none⟩)) w := by kernel_rfl
theorem infoRR2 : (Try.prog.info? 25).map (·.size) = some 2 := by kernel_rfl
theorem infoQlZ : (Try.prog.info? 33).map (fun i => (i.zero, i.size, i.bytes)) = some (some (.agg #[.int .u32 0, .int .u32 0, .string ⟨#[]⟩, .int .u8 0, .slice none 0 0]), 5, 56) := by kernel_rfl
theorem infoQl : (Try.prog.info? 33).map (·.size) = some 5 := by kernel_rfl
theorem build_ql0 (w : World) : (Instr.build 33 #[]).run Try.prog w = .ok (.agg #[.int .u32 0, .int .u32 0, .string ⟨#[]⟩, .int .u8 0, .slice none 0 0]) w := by kernel_rfl
def rgT (b o n cap k : Nat) (q p : Nat × Nat) (D : Bool) : Tmp → Kn
  | 13 => .is (.slice (some ⟨b, o, none⟩) n cap)
  | 14 => .is (.int .i64 (k : Nat))
  | 15 => .is (.pointer (some ⟨b, o + k * 5, none⟩))
  | 16 => .is (.pointer (some ⟨b, o + k * 5, none⟩))
  | 17 => .is (.agg (refv q))
  | 18 => .is (.agg (refv p))
  | 19 => .is (.bool D)
  | _ => .any

def QlPost (o : Option Rl) (w : World) (e : Ending) (w' : World) : Prop :=
  Ext w w' ∧ ∃ c, e = .returned (.tuple #[.agg (relv (o.getD .zero) c), .bool o.isSome]) ∧ ColS w' c (o.getD .zero).cols
set_option maxRecDepth 20000 in
set_option maxHeartbeats 2000000 in
theorem rGet_any (v : Value) (l : List Rl) (p : Nat × Nat) (w : World) (h : RlS (ColS w) w v l) :
    Calls Try.prog 18 #[v, .agg (refv p)] w (QlPost (catGet l p) w) := by
  have h1 := heap_alloc2_old w (.cells (refv p) 25) (.cells #[.int .u32 0, .int .u32 0, .string ⟨#[]⟩, .int .u8 0, .slice none 0 0] 33)
  have h2 := heap_alloc2_new w (.cells (refv p) 25) (.cells #[.int .u32 0, .int .u32 0, .string ⟨#[]⟩, .int .u8 0, .slice none 0 0] 33)
  obtain ⟨W, hW⟩ : ∃ W, W = (w.alloc (.cells (refv p) 25)).alloc (.cells #[.int .u32 0, .int .u32 0, .string ⟨#[]⟩, .int .u8 0, .slice none 0 0] 33) := ⟨_, rfl⟩
  have hx : Ext w W := by rw [hW]; exact ((Ch.refl _ _).alloc _).alloc _
  rw [← hW] at h1 h2
  have HX := Lib.hid hx; have HW := Lib.hid hW; have HG1 := Lib.hid h1; have HG2 := Lib.hid h2
  have HR := Lib.hid h
  obtain ⟨ao, cap, rfl, hlc, hcm⟩ := h.shape
  obtain ⟨ci, chi, _, chs, _⟩ := info_parts infoQlZ
  have CHI := Lib.hid chi; have CHS := Lib.hid chs
  have hm63 : l.length ≤ 9223372036854775807 := by unfold maxLen at hcm; omega
  clear h1 h2 hx hW h hlc hcm chi chs
  generalize hn : l.length = n at *
  have HN := Lib.hid hn; clear hn
  go_enter Try.func18, Try.ntmps18
  go_wp2
  rw [← HW.out]
  obtain ⟨g3, hg3⟩ : ∃ g, g = w.heap.size := ⟨_, rfl⟩
  have HGS := Lib.hid hg3
  rw [← hg3] at HG1 HG2 ⊢
  clear hg3
  go_loopw [6] (fun ix wr => ∃ k : Nat, k ≤ n ∧ ix = .int .i64 k ∧ Hid (Ext W wr) ∧ Hid (∀ j (hj : j < l.length), j < k → rf l[j] ≠ p)) (fun ix _ => n - (intOf ix).toNat)
  case atStart => exact ⟨0, Nat.zero_le _, rfl, Lib.hid (Ch.refl _ _), Lib.hid fun j hj h => absurd h (Nat.not_lt_zero _)⟩
  case round =>
    obtain ⟨k, hk, rfl, HE, HP⟩ := hrel
    by_cases hlt : k < n
    · have hkl : k < l.length := by have := HN.out; omega
      obtain ⟨b, o, cv, rfl, hra0, hcv⟩ := rlS_at HR.out hkl
      have hra : wr.rangeAt b (o + k * 5) (relv l[k] cv).toList := fun j u hu => (HX.out.trans HE.out).cell (p := ⟨b, o + k * 5 + j, none⟩) (fun f => f) _ (hra0 j u hu)
      clear hra0
      have HFN : Hid (rf l[k] = p → catGet l p = some l[k]) := Lib.hid fun h => by
        unfold catGet
        refine List.find?_eq_some_iff_getElem.2 ⟨by simpa using h, k, hkl, rfl, fun j hj => ?_⟩
        simpa using HP.out j (by omega) hj
      have HPK : Hid (rf l[k] ≠ p → ∀ j (hj : j < l.length), j < k + 1 → rf l[j] ≠ p) := Lib.hid fun hne j hj h => by
        by_cases hjk : j < k
        · exact HP.out j hj hjk
        · have : j = k := by omega
          subst this
          exact hne
      generalize l[k] = x at *
      have HXA := Lib.hid hra; have HCV := Lib.hid hcv; have HLT := Lib.hid hlt
      have HRA : Hid (wr.rangeAt b (o + k * 5) (refv (rf x)).toList) := Lib.hid fun j u hu => hra j u (by
        match j, hu with
        | 0, hu => exact hu
        | 1, hu => exact hu)
      have HG3 := Lib.hid (heap_ext HE.out HG1.out)
      obtain ⟨D, hD⟩ : ∃ D, D = decide (rf x = p) := ⟨_, rfl⟩
      have HDE := Lib.hid hD
      have HDD : Hid (D = decide ((rf x).1 = p.1 ∧ (rf x).2 = p.2)) := Lib.hid (by rw [hD]; exact decide_eq_decide.2 ⟨fun e => by rw [e]; exact ⟨rfl, rfl⟩, fun ⟨h1, h2⟩ => Prod.ext h1 h2⟩)
      clear hra hcv hD hkl
      go_wp2
      refine wp_region_ext (rgT b o n cap k (rf x) p D) mixedV (by rfl) (by rfl) ?all ?fin
      case all =>
          refine ⟨?_, ?_, ?_, ?_, ?_, ?_, ?_, trivial⟩
          · -- 0: slot 13 := Op.move t0
            refine StepOK.plain (kn_stable _) rfl fun ρ w hρ hw hf => ?_
            have h0 : ρ (.tmp 0) = (.slice (some ⟨b, o, none⟩) n cap) := (hf 0).2 rfl rfl
            exact Exec.kmove rfl rfl h0
          · -- 1: slot 14 := Op.move t6
            refine StepOK.plain (kn_stable _) rfl fun ρ w hρ hw hf => ?_
            have h6 : ρ (.tmp 6) = (.int .i64 (k : Nat)) := (hf 6).2 rfl rfl
            exact Exec.kmove rfl rfl h6
          · -- 2: slot 15 := Op.indexAddr 61 t13 t14
            refine StepOK.plain (kn_stable _) rfl fun ρ w hρ hw hf => ?_
            have h13 : ρ (.tmp 13) = (.slice (some ⟨b, o, none⟩) n cap) := (hf 13).1 rfl
            have h14 : ρ (.tmp 14) = (.int .i64 (k : Nat)) := (hf 14).1 rfl
            exact Exec.kindex rfl rfl Try.underlying22 CHI.out CHS.out h13 h14 HLT.out rfl
          · -- 3: slot 16 := Op.fieldAddr 27 t15 0
            refine StepOK.plain (kn_stable _) rfl fun ρ w hρ hw hf => ?_
            have h15 : ρ (.tmp 15) = (.pointer (some ⟨b, o + k * 5, none⟩)) := (hf 15).1 rfl
            exact Exec.kfield rfl rfl h15 (fieldRR_0o w _ _) rfl
          · -- 4: slot 17 := Op.load 24 t16
            refine StepOK.plain (kn_stable _) rfl fun ρ w hρ hw hf => ?_
            have h16 : ρ (.tmp 16) = (.pointer (some ⟨b, o + k * 5, none⟩)) := (hf 16).1 rfl
            have hm : w.rangeAt b (o + k * 5) (refv (rf x)).toList := fun j u hu => hw.cell (p := ⟨b, o + k * 5 + j, none⟩) (fun f => f) _ (HRA.out j u hu)
            have hr := run_loadAt_mid (P := Try.prog) w b (o + k * 5) 25 (refv (rf x)).toList _ hm Try.underlying25 rfl infoRR2
            exact Exec.same (v := .agg (refv (rf x))) rfl (by unfold execOp; simp only [h16, Sem.run_bind, hr, Result.andThen_ok, Sem.run_pure]) rfl
          · -- 5: slot 18 := Op.load 24 t3
            refine StepOK.plain (kn_stable _) rfl fun ρ w hρ hw hf => ?_
            have h3 : ρ (.tmp 3) = (.pointer (some ⟨g3, 0, none⟩)) := (hf 3).2 rfl rfl
            exact Exec.kloadrow rfl rfl h3 (heap_ext hw HG3.out) Try.underlying25 rfl infoRR2 rfl
          · -- 6: slot 19 := Op.binOp BinOp.eql 24 t17 t18 24
            refine StepOK.plain (kn_stable _) rfl fun ρ w hρ hw hf => ?_
            have h17 : ρ (.tmp 17) = (.agg (refv (rf x))) := (hf 17).1 rfl
            have h18 : ρ (.tmp 18) = (.agg (refv p)) := (hf 18).1 rfl
            refine Exec.same (v := .bool D) rfl ?_ rfl
            unfold execOp
            have hg : (eqGuard .eql 25 (.tmp 17) (.tmp 18) (.agg (refv (rf x))) (.agg (refv p))).run Try.prog w = .ok () w := run_eqGuard_agg w _ _ _ _ _ _ (by kernel_rfl)
            have hq : (binOp .eql 25 (.agg (refv (rf x))) (.agg (refv p))).run Try.prog w = .ok (.bool D) w := by rw [HDD.out]; exact run_rrefeq2 (rf x).1 (rf x).2 p.1 p.2 w
            simp only [h17, h18, Sem.run_bind, hg, Result.andThen_ok, hq, Sem.run_pure]
      case fin =>
        intro ν w9 hfin hx9
        have e0 : ν 19 = .bool D := hfin 6 19 rfl
        simp only [Exit.then, ended, List.foldl_cons, List.foldl_nil, List.setIfInBounds_toArray, List.set_cons_succ, List.set_cons_zero, e0]
        have HE9 := Lib.hid (HE.out.trans hx9)
        have hra : w9.rangeAt b (o + k * 5) (relv x cv).toList := fun i u hu => hx9.cell (p := ⟨b, o + k * 5 + i, none⟩) (fun f => f) _ (HXA.out i u hu)
        clear hfin hx9 e0
        by_cases hh : rf x = p
        · have hDt : D = true := by rw [HDE.out]; simp [hh]
          have HF := Lib.hid (HFN.out hh)
          rw [hDt]
          have hidx := run_indexSl w9 Try.underlying22 CHI.out CHS.out b o n cap k HLT.out
          have q0 : w9.cell? ⟨b, o + k * 5, none⟩ = some (.int .u32 (x.oid : Nat)) := by have := hra 0 _ rfl; simpa using this
          have q1 : w9.cell? ⟨b, o + k * 5 + 1, none⟩ = some (.int .u32 (x.ver : Nat)) := hra 1 _ rfl
          have q2 : w9.cell? ⟨b, o + k * 5 + 2, none⟩ = some (.string ⟨x.name.toArray⟩) := hra 2 _ rfl
          have q3 : w9.cell? ⟨b, o + k * 5 + 3, none⟩ = some (.int .u8 (x.ident : Nat)) := hra 3 _ rfl
          have q4 : w9.cell? ⟨b, o + k * 5 + 4, none⟩ = some cv := hra 4 _ rfl
          obtain ⟨co, cc, rfl, _⟩ := id HCV.out
          have HG9 := Lib.hid (heap_ext HE9.out HG2.out)
          clear hra hDt hh
          go_wp2_with (refine wpList_store_rowTo rfl _ _ _ rfl rfl (g3 + 1) (relv x (.slice co x.cols.length cc)) rfl rfl _ _ HG9.out infoQl rfl (relv_one _ _ _ _) ?_)
          refine bodyPost_ret (results_row_tmp rfl _ _ (g3 + 1) _ (relv x (.slice co x.cols.length cc)) _ _ rfl (setRow_heap _ _ _ _ _ _ HG9.out) Try.underlying33 rfl infoQl) rfl ?_
          rw [HF.out]
          have hch : Ext w (w9.setRow (g3 + 1) (relv x (.slice co x.cols.length cc))) := (HX.out.trans HE9.out).grown (gby_setRow _ _ _) (fun k e => by cases e; exact .inr (by have := HGS.out; omega))
          exact ⟨hch, _, rfl, ColS.ext HCV.out hch⟩
        · have hDf : D = false := by rw [HDE.out]; simp [hh]
          have HPK2 := Lib.hid (HPK.out hh)
          rw [hDf]
          clear hra hDf hh
          go_wp2
          go_roundw
          case rel => exact ⟨k + 1, HLT.out, by simp, HE9, HPK2⟩
          case measure => simp [intOf]; have := HLT.out; omega
    · obtain rfl : k = n := by omega
      have HF : Hid (catGet l p = none) := Lib.hid (by
        unfold catGet
        refine List.find?_eq_none.2 fun x hx => ?_
        obtain ⟨j, hj, rfl⟩ := List.mem_iff_getElem.1 hx
        simpa using HP.out j hj (by have := HN.out; omega))
      have HG9 := Lib.hid (heap_ext HE.out HG2.out)
      have b0 := fun w => build_ql0 w
      go_wp2_with (refine wpList_store_rowTo rfl _ _ _ rfl rfl (g3 + 1) #[.int .u32 0, .int .u32 0, .string ⟨#[]⟩, .int .u8 0, .slice none 0 0] rfl rfl _ _ HG9.out infoQl rfl (by simp [Value.oneCell']) ?_)
      refine bodyPost_ret (results_row_tmp rfl _ _ (g3 + 1) _ #[.int .u32 0, .int .u32 0, .string ⟨#[]⟩, .int .u8 0, .slice none 0 0] _ _ rfl (setRow_heap _ _ _ _ _ _ HG9.out) Try.underlying33 rfl infoQl) rfl ?_
      rw [HF.out]
      exact ⟨(HX.out.trans HE.out).grown (gby_setRow _ _ _) (fun k e => by cases e; exact .inr (by have := HGS.out; omega)), .slice none 0 0, rfl, colS_nil _⟩
end Go.Proofs.Ytegclfpmgilnpaa
