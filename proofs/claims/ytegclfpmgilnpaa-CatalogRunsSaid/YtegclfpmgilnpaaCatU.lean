/-
  Catalogs: lists of refs; Index, Contains; the document's Only. MADE BY mkCatU.py
-/
import Derived.Test.YtegclfpmgilnpaaCatQ
import Derived.Test.YtegclfpmgilnpaaCatO
namespace Go.Proofs.Ytegclfpmgilnpaa
open Go.RowKit Go.Lac

def RfC (l : List (Nat × Nat)) : List Value := l.flatMap fun a => (refv a).toList
theorem RfC_length : ∀ l : List (Nat × Nat), (RfC l).length = l.length * 2
  | [] => rfl
  | p :: l => by unfold RfC; rw [List.flatMap_cons, List.length_append]; have := RfC_length l; unfold RfC at this; rw [this, List.length_cons]; simp [refv]; omega
theorem RfC_at : ∀ (l : List (Nat × Nat)) (i : Nat) (hi : i < l.length) (q : Nat) (u : Value), (refv l[i]).toList[q]? = some u → (RfC l)[i * 2 + q]? = some u
  | p :: l, 0, hi, q, u, hu => by
    have hq : q < 2 := by have := (List.getElem?_eq_some_iff.1 hu).1; simpa [refv] using this
    unfold RfC
    rw [List.flatMap_cons, Nat.zero_mul, Nat.zero_add, List.getElem?_append_left (by simpa [refv] using hq)]
    exact hu
  | p :: l, i + 1, hi, q, u, hu => by
    have := RfC_at l i (by simpa using hi) q u hu
    unfold RfC at this ⊢
    rw [List.flatMap_cons, List.getElem?_append_right (by simp [refv]; omega)]
    rwa [show (i + 1) * 2 + q - (refv p).toList.length = i * 2 + q by simp [refv]; omega]
theorem RfC_append (a b : List (Nat × Nat)) : RfC (a ++ b) = RfC a ++ RfC b := by unfold RfC; exact List.flatMap_append
theorem RfC_one (a : Nat × Nat) : RfC [a] = (refv a).toList := by unfold RfC; simp
/-- A slice of refs. -/
def RfS (w : World) (v : Value) (l : List (Nat × Nat)) : Prop := Sl w v l.length (RfC l)
theorem RfS.shape {w : World} {v : Value} {l : List (Nat × Nat)} (h : RfS w v l) : ∃ ao cap, v = .slice ao l.length cap ∧ l.length ≤ cap ∧ cap ≤ maxLen := by
  obtain ⟨ao, cap, e, h1, h2, _⟩ := h; exact ⟨ao, cap, e, h1, h2⟩
theorem RfS.ext {w w' : World} {v : Value} {l : List (Nat × Nat)} (h : RfS w v l) (hx : Ext w w') : RfS w' v l := Sl.ext h hx
theorem rfS_at {w : World} {ao : Option Addr} {n cap : Nat} {l : List (Nat × Nat)} (h : RfS w (.slice ao n cap) l) {j : Nat} (hj : j < l.length) : ∃ b o, ao = some ⟨b, o, none⟩ ∧ w.rangeAt b (o + j * 2) (refv l[j]).toList := by
  obtain ⟨ao', cap', e0, g1, g2, g3, g5⟩ := h
  cases e0
  have h0 := RfC_at l j hj 0 _ rfl
  cases ao with
  | none =>
    exfalso
    have := g3 rfl
    omega
  | some x =>
    obtain ⟨b, o, rfl, c0⟩ := g5 x rfl _ _ h0
    refine ⟨b, o, rfl, fun q u hq => ?_⟩
    obtain ⟨b', o', e, c1⟩ := g5 ⟨b, o, none⟩ rfl _ _ (RfC_at l j hj q u hq)
    cases e
    rw [show o + j * 2 + q = o + (j * 2 + q) by omega]
    exact c1
theorem infoRfZ : (Try.prog.info? 36).map (fun i => (i.zero, i.size, i.bytes)) = some (some (.agg #[.int .u32 0, .int .u32 0]), 2, 8) := by kernel_rfl
theorem infoRRZ : (Try.prog.info? 25).map (fun i => (i.zero, i.size, i.bytes)) = some (some (.agg #[.int .u32 0, .int .u32 0]), 2, 8) := by kernel_rfl
def ixT (b o n cap k gI : Nat) (p q : Nat × Nat) (D : Bool) : Tmp → Kn
  | 11 => .is (.agg (refv p))
  | 12 => .is (.slice (some ⟨b, o, none⟩) n cap)
  | 13 => .is (.int .i64 (k : Nat))
  | 14 => .is (.pointer (some ⟨b, o + k * 2, none⟩))
  | 15 => .is (.agg (refv q))
  | 16 => .is (.bool D)
  | _ => .any
set_option maxRecDepth 20000 in
set_option maxHeartbeats 2000000 in
theorem indexRf_any (v : Value) (l : List (Nat × Nat)) (p : Nat × Nat) (w : World) (h : RfS w v l) :
    Calls Try.prog 85 #[v, .agg (refv p)] w fun e w' => (∃ i : Int, e = .returned (.int .i64 i) ∧ (0 ≤ i ↔ p ∈ l)) ∧ Ext w w' := by
  have h1 := heap_alloc_new w (.cells (refv p) 36)
  obtain ⟨W, hW⟩ : ∃ W, W = w.alloc (.cells (refv p) 36) := ⟨_, rfl⟩
  have hx : Ext w W := by rw [hW]; exact (Ch.refl _ _).alloc _
  rw [← hW] at h1
  have HG := Lib.hid h1; have HX := Lib.hid hx; have HW := Lib.hid hW; have HR := Lib.hid (h.ext hx)
  obtain ⟨ao, cap, rfl, hlc, hcm⟩ := h.shape
  obtain ⟨ci, chi, _, chs, _⟩ := info_parts infoRfZ
  have CHI := Lib.hid chi; have CHS := Lib.hid chs
  have hm63 : l.length ≤ 9223372036854775807 := by unfold maxLen at hcm; omega
  have hgd : Try.prog.eqGuardType Try.prog.depth 36 = false := by kernel_rfl
  clear h1 hx hW h chi chs hlc hcm
  generalize hn : l.length = n at *
  have HN := Lib.hid hn; clear hn
  unfold refv at HW ⊢
  go_enter Try.func85, Try.ntmps85
  go_wp2
  rw [← HW.out]
  obtain ⟨gI, hgI⟩ : ∃ g, g = w.heap.size := ⟨_, rfl⟩
  rw [← hgI]
  rw [← hgI] at HG
  clear hgI
  go_loopw [8] (fun ix wr => ∃ k : Nat, k ≤ n ∧ ix = .int .i64 k ∧ Hid (Ext W wr) ∧ Hid (∀ j (hj : j < l.length), j < k → p ≠ l[j])) (fun ix _ => n - (intOf ix).toNat)
  case atStart => exact ⟨0, Nat.zero_le _, rfl, Lib.hid (Ch.refl _ _), Lib.hid fun j hj h => absurd h (Nat.not_lt_zero _)⟩
  case round =>
    obtain ⟨k, hk, rfl, HE, HP⟩ := hrel
    by_cases hlt : k < n
    · have hkl : k < l.length := by have := HN.out; omega
      obtain ⟨b, o, hao, hra⟩ := rfS_at (HR.out.ext HE.out) hkl
      subst hao
      have HMEM : Hid (p = l[k] → p ∈ l) := Lib.hid fun h => by rw [h]; exact List.getElem_mem hkl
      have HPK : Hid (p ≠ l[k] → ∀ j (hj : j < l.length), j < k + 1 → p ≠ l[j]) := Lib.hid fun hne j hj h => by
        by_cases hjk : j < k
        · exact HP.out j hj hjk
        · have : j = k := by omega
          subst this
          exact hne
      generalize l[k] = q at *
      have HRA := Lib.hid hra
      have HGr := Lib.hid (heap_ext HE.out HG.out)
      have HLT := Lib.hid hlt
      obtain ⟨D, hD⟩ : ∃ D, D = decide (p = q) := ⟨_, rfl⟩
      have HDE := Lib.hid hD
      have HDD : Hid (D = decide (p.1 = q.1 ∧ p.2 = q.2)) := Lib.hid (by rw [hD]; exact decide_eq_decide.2 ⟨fun e => by rw [e]; exact ⟨rfl, rfl⟩, fun ⟨h1, h2⟩ => Prod.ext h1 h2⟩)
      clear hra hkl hD
      go_wp2
      refine wp_region_ext (ixT b o n cap k gI p q D) mixedV (by rfl) (by rfl) ?all ?fin
      case all =>
        refine ⟨?_, ?_, ?_, ?_, ?_, ?_, trivial⟩
        · -- 0: slot 11 := Op.load 36 t3
          refine StepOK.plain (kn_stable _) rfl fun ρ w hρ hw hf => ?_
          have h3 : ρ (.tmp 3) = (.pointer (some ⟨gI, 0, none⟩)) := (hf 3).2 rfl rfl
          exact Exec.kloadrow rfl rfl h3 (heap_ext hw HGr.out) Try.underlying36 rfl infoRf3 rfl
        · -- 1: slot 12 := Op.move t0
          refine StepOK.plain (kn_stable _) rfl fun ρ w hρ hw hf => ?_
          have h0 : ρ (.tmp 0) = (.slice (some ⟨b, o, none⟩) n cap) := (hf 0).2 rfl rfl
          exact Exec.kmove rfl rfl h0
        · -- 2: slot 13 := Op.move t5
          refine StepOK.plain (kn_stable _) rfl fun ρ w hρ hw hf => ?_
          have h5 : ρ (.tmp 5) = (.int .i64 (k : Nat)) := (hf 5).2 rfl rfl
          exact Exec.kmove rfl rfl h5
        · -- 3: slot 14 := Op.indexAddr 54 t12 t13
          refine StepOK.plain (kn_stable _) rfl fun ρ w hρ hw hf => ?_
          have h12 : ρ (.tmp 12) = (.slice (some ⟨b, o, none⟩) n cap) := (hf 12).1 rfl
          have h13 : ρ (.tmp 13) = (.int .i64 (k : Nat)) := (hf 13).1 rfl
          exact Exec.kindex rfl rfl Try.underlying54 CHI.out CHS.out h12 h13 HLT.out rfl
        · -- 4: slot 15 := Op.load 36 t14
          refine StepOK.plain (kn_stable _) rfl fun ρ w hρ hw hf => ?_
          have h14 : ρ (.tmp 14) = (.pointer (some ⟨b, o + k * 2, none⟩)) := (hf 14).1 rfl
          have hm : w.rangeAt b (o + k * 2) (refv q).toList := fun i u hu => hw.cell (p := ⟨b, o + k * 2 + i, none⟩) (fun f => f) _ (HRA.out i u hu)
          have hr := run_loadAt_mid (P := Try.prog) w b (o + k * 2) 36 (refv q).toList _ hm Try.underlying36 rfl infoRf3
          exact Exec.same (v := .agg (refv q)) rfl (by unfold execOp; simp only [h14, Sem.run_bind, hr, Result.andThen_ok, Sem.run_pure]) rfl
        · -- 5: slot 16 := Op.binOp BinOp.eql 36 t11 t15 36
          refine StepOK.plain (kn_stable _) rfl fun ρ w hρ hw hf => ?_
          have h11 : ρ (.tmp 11) = (.agg (refv p)) := (hf 11).1 rfl
          have h15 : ρ (.tmp 15) = (.agg (refv q)) := (hf 15).1 rfl
          refine Exec.same (v := .bool D) rfl ?_ rfl
          unfold execOp
          have hg : (eqGuard .eql 36 (.tmp 11) (.tmp 15) (.agg (refv p)) (.agg (refv q))).run Try.prog w = .ok () w := run_eqGuard_agg w _ _ _ _ _ _ (by kernel_rfl)
          have hq : (binOp .eql 36 (.agg (refv p)) (.agg (refv q))).run Try.prog w = .ok (.bool D) w := by rw [HDD.out]; exact run_refeq p.1 p.2 q.1 q.2 w
          simp only [h11, h15, Sem.run_bind, hg, Result.andThen_ok, hq, Sem.run_pure]
      case fin =>
        intro ν w9 hfin hx9
        have e0 : ν 16 = .bool D := hfin 5 16 rfl
        simp only [Exit.then, ended, List.foldl_cons, List.foldl_nil, List.setIfInBounds_toArray, List.set_cons_succ, List.set_cons_zero, e0]
        have HE9 := Lib.hid (HE.out.trans hx9)
        clear hfin hx9 e0
        by_cases hpq : p = q
        · have HM := Lib.hid (HMEM.out hpq)
          rw [show D = true by rw [HDE.out]; exact decide_eq_true hpq]
          clear hpq HMEM HPK
          go_wp2
          go_ret
          exact ⟨⟨k, rfl, fun _ => HM.out, fun _ => by omega⟩, HX.out.trans HE9.out⟩
        · have HM := Lib.hid (HPK.out hpq)
          rw [show D = false by rw [HDE.out]; exact decide_eq_false hpq]
          clear hpq HMEM HPK
          go_wp2
          go_roundw
          case rel => exact ⟨k + 1, HLT.out, by simp, HE9, HM⟩
          case measure => simp [intOf]; have := HLT.out; omega
    · obtain rfl : k = n := by omega
      have HM : Hid (¬ p ∈ l) := Lib.hid fun h => by
        obtain ⟨j, hj, e⟩ := List.mem_iff_getElem.1 h
        exact HP.out j hj (by have := HN.out; omega) e.symm
      go_wp2
      go_ret
      exact ⟨⟨-1, rfl, fun h => absurd h (by decide), fun h => absurd h HM.out⟩, HX.out.trans HE.out⟩
set_option maxRecDepth 20000 in
set_option maxHeartbeats 2000000 in
theorem containsRf_any (v : Value) (l : List (Nat × Nat)) (p : Nat × Nat) (w : World) (h : RfS w v l) :
    Calls Try.prog 56 #[v, .agg (refv p)] w fun e w' => e = .returned (.bool (decide (p ∈ l))) ∧ Ext w w' := by
  have h1 := heap_alloc_new w (.cells (refv p) 36)
  obtain ⟨W, hW⟩ : ∃ W, W = w.alloc (.cells (refv p) 36) := ⟨_, rfl⟩
  have hx : Ext w W := by rw [hW]; exact (Ch.refl _ _).alloc _
  rw [← hW] at h1
  have d0 : W.cell? ⟨w.heap.size, 0, none⟩ = some (.int .u32 (p.1 : Nat)) := by rw [cell_of_row _ _ _ _ _ _ h1]; rfl
  have d1 : W.cell? ⟨w.heap.size, 1, none⟩ = some (.int .u32 (p.2 : Nat)) := by rw [cell_of_row _ _ _ _ _ _ h1]; rfl
  have HIX := Lib.hid (indexRf_any v l p W (h.ext hx))
  have HX := Lib.hid hx; have HW := Lib.hid hW
  have HD : Hid ((p ∈ l → decide (p ∈ l) = true) ∧ (¬ p ∈ l → decide (p ∈ l) = false)) := Lib.hid ⟨decide_eq_true, decide_eq_false⟩
  obtain ⟨ao, cap, rfl, _⟩ := h.shape
  generalize decide (p ∈ l) = D at *
  rw [hW] at d0 d1
  clear h1 hx hW h
  unfold refv at HW HIX ⊢
  go_enter Try.func56, Try.ntmps56
  go_wp2_with fail
  rw [← HW.out]
  refine HIX.out.mono ?_
  rintro e w2 ⟨⟨i, rfl, hi⟩, hx2⟩
  have HX2 := Lib.hid (HX.out.trans hx2)
  clear hx2 d0 d1
  by_cases h0 : 0 ≤ i
  · have HF := Lib.hid (HD.out.1 (hi.1 h0))
    have hd : decide (0 ≤ i) = true := decide_eq_true h0
    clear hi
    go_wp2
    go_ret
    exact ⟨by rw [HF.out]; rfl, HX2.out⟩
  · have HF := Lib.hid (HD.out.2 fun h => h0 (hi.2 h))
    have hd : decide (0 ≤ i) = false := decide_eq_false h0
    clear hi
    go_wp2
    go_ret
    exact ⟨by rw [HF.out]; rfl, HX2.out⟩
def roA (b1 o1 n cap k b2 o2 j rc q : Nat) (x : Rl) (p : Nat × Nat) (D : Bool) : Tmp → Kn
  | 41 => .is (.slice (some ⟨b1, o1, none⟩) n cap)
  | 42 => .is (.int .i64 (k : Nat))
  | 43 => .is (.pointer (some ⟨b1, o1 + k * 5, none⟩))
  | 44 => .is (.pointer (some ⟨b1, o1 + k * 5, none⟩))
  | 45 => .is (.agg (refv (rf x)))
  | 46 => .is (.slice (some ⟨b2, o2, none⟩) j rc)
  | 47 => .is (.int .i64 (q : Nat))
  | 48 => .is (.pointer (some ⟨b2, o2 + q * 2, none⟩))
  | 49 => .is (.agg (refv p))
  | 50 => .is (.bool D)
  | _ => .any
def ROnlyPost (l : List Rl) (refs : List (Nat × Nat)) (w : World) (e : Ending) (w' : World) : Prop :=
  Ext w w' ∧ ∃ v, e = .returned (.tuple #[v, .int .i64 ((catOnly l refs).2 : Nat)]) ∧ RlS (ColS w') w' v (catOnly l refs).1
set_option maxRecDepth 20000 in
set_option maxHeartbeats 4000000 in
theorem rOnly_any (v u : Value) (l : List Rl) (refs : List (Nat × Nat)) (w : World) (h : RlS (ColS w) w v l) (hu : RfS w u refs) (hl : l.length ≤ 64) :
    Calls Try.prog 25 #[v, u] w (ROnlyPost l refs w) := by
  have HR := Lib.hid h; have HU := Lib.hid hu
  obtain ⟨ao, cap, rfl, hlc, hcm⟩ := h.shape
  obtain ⟨uo, rc, rfl, hrc, hrm⟩ := hu.shape
  obtain ⟨ci, chi, cz, chs, cby⟩ := info_parts infoQlZ
  have CHI := Lib.hid chi; have CHS := Lib.hid chs; have CHZ := Lib.hid cz; have CBY := Lib.hid cby
  obtain ⟨ri, chr, _, csr, _⟩ := info_parts infoRRZ
  have CHR := Lib.hid chr; have CSR := Lib.hid csr
  have hm2 : refs.length ≤ 9223372036854775807 := by unfold maxLen at hrm; omega
  have HL := Lib.hid hl
  have HGT := Lib.hid (fun p w2 (hx : Ext w w2) => rGet_any (.slice ao l.length cap) l p w2 (h.ext hx fun v c q => ColS.ext q hx))
  clear h hu hlc hcm hrc hrm chi cz chs cby chr csr
  generalize hn : l.length = n at *
  have HN := Lib.hid hn; clear hn
  generalize hm : refs.length = m at *
  have HM := Lib.hid hm; clear hm
  go_enter Try.func25, Try.ntmps25
  go_wp2
  go_loopw [6] (fun ix wr => ∃ j : Nat, j ≤ m ∧ ix = .int .i64 j ∧ Hid (Ext w wr) ∧ Hid (∀ i (hi : i < refs.length), i < j → ∃ x ∈ l, rf x = refs[i])) (fun ix _ => m - (intOf ix).toNat)
  case atStart => exact ⟨0, Nat.zero_le _, rfl, Lib.hid (Ch.refl _ _), Lib.hid fun i hi h => absurd h (Nat.not_lt_zero _)⟩
  case round =>
    obtain ⟨j, hj, rfl, HX, HP⟩ := hrel
    by_cases hlt : j < m
    · have hjl : j < refs.length := by have := HM.out; omega
      obtain ⟨b, o, rfl, hra⟩ := rfS_at (HU.out.ext HX.out) hjl
      have hidx := run_indexSl wr Try.underlying26 CHR.out CSR.out b o m rc j hlt
      have HYES : Hid ((∃ x ∈ l, rf x = refs[j]) → ∀ i (hi : i < refs.length), i < j + 1 → ∃ x ∈ l, rf x = refs[i]) := Lib.hid fun hx i hi h => by
        by_cases hij : i < j
        · exact HP.out i hi hij
        · have : i = j := by omega
          subst this
          exact hx
      have HNO : Hid ((¬ ∃ x ∈ l, rf x = refs[j]) → catOnly l refs = ([], 10)) := Lib.hid fun hx => by unfold catOnly; rw [if_pos ⟨_, List.getElem_mem hjl, hx⟩]
      have HTH : Hid ((catGet l refs[j]).isSome = true ↔ ∃ x ∈ l, rf x = refs[j]) := Lib.hid (by unfold catGet; rw [List.find?_isSome]; simp)
      generalize refs[j] = p at *
      have q0 : wr.cell? ⟨b, o + j * 2, none⟩ = some (.int .u32 (p.1 : Nat)) := by have := hra 0 _ rfl; simpa using this
      have q1 : wr.cell? ⟨b, o + j * 2 + 1, none⟩ = some (.int .u32 (p.2 : Nat)) := hra 1 _ rfl
      have HGP := Lib.hid (HGT.out p wr HX.out)
      have HLT := Lib.hid hlt
      clear hra hjl
      unfold refv at HGP
      go_wp2_with fail
      refine HGP.out.mono ?_
      rintro e w3 ⟨hx3, cg, rfl, hcg⟩
      obtain ⟨go, gc, rfl, _⟩ := id hcg
      have HX3 := Lib.hid (HX.out.trans hx3)
      clear hx3 q0 q1 hidx HGP hcg
      generalize (catGet l p).getD .zero = G at *
      obtain ⟨S, hS⟩ : ∃ S, S = (catGet l p).isSome := ⟨_, rfl⟩
      rw [← hS] at HTH ⊢
      clear hS
      unfold relv strV
      cases S with
      | true =>
        have HQ := Lib.hid (HYES.out (HTH.out.1 rfl))
        clear HYES HNO HTH
        have HX4 : Hid (Ext w (w3.alloc (.cells #[.int .u32 (G.oid : Nat), .int .u32 (G.ver : Nat), .string ⟨G.name.toArray⟩, .int .u8 (G.ident : Nat), .slice go G.cols.length gc] 33))) := Lib.hid (HX3.out.alloc _)
        go_wp2
        go_roundw
        case rel => exact ⟨j + 1, HLT.out, by simp, HX4, HQ⟩
        case measure => simp [intOf]; have := HLT.out; omega
      | false =>
        have HQ := Lib.hid (HNO.out fun h => by have := HTH.out.2 h; cases this)
        clear HYES HNO HTH
        go_wp2
        refine bodyPost_ret (results_tmp2 rfl _ _ _) rfl ?_
        exact ⟨HX3.out.alloc _, _, by rw [HQ.out]; rfl, by rw [HQ.out]; exact rlS_nil _ _⟩
    · obtain rfl : j = m := by omega
      have HCO : Hid (catOnly l refs = (l.filter fun x => decide (rf x ∈ refs), 0)) := Lib.hid (by
        unfold catOnly
        rw [if_neg]
        rintro ⟨p, hp, hne⟩
        obtain ⟨i, hi, rfl⟩ := List.mem_iff_getElem.1 hp
        exact hne (HP.out i hi (by have := HM.out; omega)))
      have hn64 := HL.out
      clear HGT HP
      go_wp2
      generalize wr = wS at *
      go_loopw [9, 10] (fun vb ix wr => ∃ k : Nat, k ≤ n ∧ ix = .int .i64 k ∧ Hid (Ext w wr ∧ Ext wS wr) ∧ Hid (OutS wS.heap.size w wr vb ((l.take k).filter fun x => decide (rf x ∈ refs)))) (fun _ ix _ => n - (intOf ix).toNat)
      case atStart => exact ⟨0, Nat.zero_le _, rfl, Lib.hid ⟨HX.out, Ch.refl _ _⟩, Lib.hid ⟨[], by simp [RlC], World.ownsRow_nil _ _ _ _⟩⟩
      case round =>
        obtain ⟨k, hk, rfl, HXs, HO⟩ := hrel
        by_cases hlt : k < n
        · have hkl : k < l.length := by have := HN.out; omega
          have HTK : Hid ((l.take (k + 1)).filter (fun x => decide (rf x ∈ refs)) = (l.take k).filter (fun x => decide (rf x ∈ refs)) ++ (if decide (rf l[k] ∈ refs) = true then [l[k]] else [])) := Lib.hid (by rw [List.take_succ_eq_append_getElem hkl, List.filter_append, List.filter_cons, List.filter_nil])
          obtain ⟨b1, o1, xv, hao, hra0, hxv⟩ := rlS_at HR.out hkl
          have hfl : ((l.take k).filter fun x => decide (rf x ∈ refs)).length ≤ 64 := Nat.le_trans (List.length_filter_le _ _) (by rw [List.length_take]; omega)
          have HFL := Lib.hid hfl
          have HXV := Lib.hid hxv; have HRA0 := Lib.hid hra0; have HLT := Lib.hid hlt
          have HRR := HR
          generalize l[k] = x at *
          generalize hfe : (l.take k).filter (fun x => decide (rf x ∈ refs)) = fl at *
          obtain ⟨xo, xc, hxe, _⟩ := id hxv
          obtain ⟨cs, hcs, how⟩ := HO.out
          obtain ⟨vo, vc, hve⟩ := owns_shape how
          subst hve hao hxe
          have HCS := Lib.hid hcs; have HOW := Lib.hid how
          generalize hfll : fl.length = nf at *
          have HFLL := Lib.hid hfll
          clear hra0 hxv hkl hfe hcs how hfll HR HO
          go_wp2
          generalize wr = wT at *
          go_loopw [9, 11] (fun vb ix wr => ∃ q : Nat, q ≤ j ∧ ix = .int .i64 q ∧ vb = .slice vo nf vc ∧ Hid (Ext wT wr) ∧ Hid (∀ i (hi : i < refs.length), i < q → rf x ≠ refs[i])) (fun _ ix _ => j - (intOf ix).toNat)
          case atStart => exact ⟨0, Nat.zero_le _, rfl, rfl, Lib.hid (Ch.refl _ _), Lib.hid fun i hi h => absurd h (Nat.not_lt_zero _)⟩
          case round =>
            obtain ⟨q, hq, rfl, rfl, HXt, HPt⟩ := hrel
            by_cases hltq : q < j
            · have hql : q < refs.length := by have := HM.out; omega
              obtain ⟨b2, o2, huo, hrb⟩ := rfS_at (HU.out.ext ((HXs.out.1).trans HXt.out)) hql
              subst huo
              have HFND : Hid (rf x = refs[q] → decide (rf x ∈ refs) = true) := Lib.hid fun h => decide_eq_true (by rw [h]; exact List.getElem_mem hql)
              have HPK : Hid (rf x ≠ refs[q] → ∀ i (hi : i < refs.length), i < q + 1 → rf x ≠ refs[i]) := Lib.hid fun hne i hi h => by
                by_cases hiq : i < q
                · exact HPt.out i hi hiq
                · have : i = q := by omega
                  subst this
                  exact hne
              generalize refs[q] = p at *
              have HRB := Lib.hid hrb
              have HRA : Hid (wr.rangeAt b1 (o1 + k * 5) (relv x (.slice xo x.cols.length xc)).toList) := Lib.hid fun j u hu => (HXs.out.1.trans HXt.out).cell (p := ⟨b1, o1 + k * 5 + j, none⟩) (fun f => f) _ (HRA0.out j u hu)
              have HLJ := Lib.hid hltq
              obtain ⟨D, hD⟩ : ∃ D, D = decide (rf x = p) := ⟨_, rfl⟩
              have HDE := Lib.hid hD
              have HDD : Hid (D = decide ((rf x).1 = p.1 ∧ (rf x).2 = p.2)) := Lib.hid (by rw [hD]; exact decide_eq_decide.2 ⟨fun e => by rw [e]; exact ⟨rfl, rfl⟩, fun ⟨h1, h2⟩ => Prod.ext h1 h2⟩)
              clear hrb hql hD
              go_wp2
              refine wp_region_ext (roA b1 o1 n cap k b2 o2 j rc q x p D) mixedV (by rfl) (by rfl) ?all ?fin
              case all =>
                  refine ⟨?_, ?_, ?_, ?_, ?_, ?_, ?_, ?_, ?_, ?_, trivial⟩
                  · -- 0: slot 41 := Op.move t0
                    refine StepOK.plain (kn_stable _) rfl fun ρ w hρ hw hf => ?_
                    have h0 : ρ (.tmp 0) = (.slice (some ⟨b1, o1, none⟩) n cap) := (hf 0).2 rfl rfl
                    exact Exec.kmove rfl rfl h0
                  · -- 1: slot 42 := Op.move t10
                    refine StepOK.plain (kn_stable _) rfl fun ρ w hρ hw hf => ?_
                    have h10 : ρ (.tmp 10) = (.int .i64 (k : Nat)) := (hf 10).2 rfl rfl
                    exact Exec.kmove rfl rfl h10
                  · -- 2: slot 43 := Op.indexAddr 22 t41 t42
                    refine StepOK.plain (kn_stable _) rfl fun ρ w hρ hw hf => ?_
                    have h41 : ρ (.tmp 41) = (.slice (some ⟨b1, o1, none⟩) n cap) := (hf 41).1 rfl
                    have h42 : ρ (.tmp 42) = (.int .i64 (k : Nat)) := (hf 42).1 rfl
                    exact Exec.kindex rfl rfl Try.underlying22 CHI.out CHS.out h41 h42 HLT.out rfl
                  · -- 3: slot 44 := Op.fieldAddr 33 t43 0
                    refine StepOK.plain (kn_stable _) rfl fun ρ w hρ hw hf => ?_
                    have h43 : ρ (.tmp 43) = (.pointer (some ⟨b1, o1 + k * 5, none⟩)) := (hf 43).1 rfl
                    exact Exec.kfield rfl rfl h43 (fieldRR_0o w _ _) rfl
                  · -- 4: slot 45 := Op.load 25 t44
                    refine StepOK.plain (kn_stable _) rfl fun ρ w hρ hw hf => ?_
                    have h44 : ρ (.tmp 44) = (.pointer (some ⟨b1, o1 + k * 5, none⟩)) := (hf 44).1 rfl
                    have hm : w.rangeAt b1 (o1 + k * 5) (refv (rf x)).toList := fun j u hu => hw.cell (p := ⟨b1, o1 + k * 5 + j, none⟩) (fun f => f) _ (HRA.out j u (by
                      match j, hu with
                      | 0, hu => exact hu
                      | 1, hu => exact hu))
                    have hr := run_loadAt_mid (P := Try.prog) w b1 (o1 + k * 5) 25 (refv (rf x)).toList _ hm Try.underlying25 rfl infoRR2
                    exact Exec.same (v := .agg (refv (rf x))) rfl (by unfold execOp; simp only [h44, Sem.run_bind, hr, Result.andThen_ok, Sem.run_pure]) rfl
                  · -- 5: slot 46 := Op.move t1
                    refine StepOK.plain (kn_stable _) rfl fun ρ w hρ hw hf => ?_
                    have h1 : ρ (.tmp 1) = (.slice (some ⟨b2, o2, none⟩) j rc) := (hf 1).2 rfl rfl
                    exact Exec.kmove rfl rfl h1
                  · -- 6: slot 47 := Op.move t11
                    refine StepOK.plain (kn_stable _) rfl fun ρ w hρ hw hf => ?_
                    have h11 : ρ (.tmp 11) = (.int .i64 (q : Nat)) := (hf 11).2 rfl rfl
                    exact Exec.kmove rfl rfl h11
                  · -- 7: slot 48 := Op.indexAddr 26 t46 t47
                    refine StepOK.plain (kn_stable _) rfl fun ρ w hρ hw hf => ?_
                    have h46 : ρ (.tmp 46) = (.slice (some ⟨b2, o2, none⟩) j rc) := (hf 46).1 rfl
                    have h47 : ρ (.tmp 47) = (.int .i64 (q : Nat)) := (hf 47).1 rfl
                    exact Exec.kindex rfl rfl Try.underlying26 CHR.out CSR.out h46 h47 HLJ.out rfl
                  · -- 8: slot 49 := Op.load 25 t48
                    refine StepOK.plain (kn_stable _) rfl fun ρ w hρ hw hf => ?_
                    have h48 : ρ (.tmp 48) = (.pointer (some ⟨b2, o2 + q * 2, none⟩)) := (hf 48).1 rfl
                    have hm : w.rangeAt b2 (o2 + q * 2) (refv p).toList := fun i u hu => hw.cell (p := ⟨b2, o2 + q * 2 + i, none⟩) (fun f => f) _ (HRB.out i u hu)
                    have hr := run_loadAt_mid (P := Try.prog) w b2 (o2 + q * 2) 25 (refv p).toList _ hm Try.underlying25 rfl infoRR2
                    exact Exec.same (v := .agg (refv p)) rfl (by unfold execOp; simp only [h48, Sem.run_bind, hr, Result.andThen_ok, Sem.run_pure]) rfl
                  · -- 9: slot 50 := Op.binOp BinOp.eql 25 t45 t49 25
                    refine StepOK.plain (kn_stable _) rfl fun ρ w hρ hw hf => ?_
                    have h45 : ρ (.tmp 45) = (.agg (refv (rf x))) := (hf 45).1 rfl
                    have h49 : ρ (.tmp 49) = (.agg (refv p)) := (hf 49).1 rfl
                    refine Exec.same (v := .bool D) rfl ?_ rfl
                    unfold execOp
                    have hg : (eqGuard .eql 25 (.tmp 45) (.tmp 49) (.agg (refv (rf x))) (.agg (refv p))).run Try.prog w = .ok () w := run_eqGuard_agg w _ _ _ _ _ _ (by kernel_rfl)
                    have hq : (binOp .eql 25 (.agg (refv (rf x))) (.agg (refv p))).run Try.prog w = .ok (.bool D) w := by rw [HDD.out]; exact run_rrefeq2 (rf x).1 (rf x).2 p.1 p.2 w
                    simp only [h45, h49, Sem.run_bind, hg, Result.andThen_ok, hq, Sem.run_pure]
              case fin =>
                intro ν w9 hfin hx9
                have e0 : ν 50 = .bool D := hfin 9 50 rfl
                simp only [Exit.then, ended, List.foldl_cons, List.foldl_nil, List.setIfInBounds_toArray, List.set_cons_succ, List.set_cons_zero, e0]
                have HX9 := Lib.hid (HXt.out.trans hx9)
                clear hfin e0
                by_cases hh : rf x = p
                · have HF := Lib.hid (HFND.out hh)
                  rw [show D = true by rw [HDE.out]; exact decide_eq_true hh]
                  have hra : w9.rangeAt b1 (o1 + k * 5) (relv x (.slice xo x.cols.length xc)).toList := fun i u hu => hx9.cell (p := ⟨b1, o1 + k * 5 + i, none⟩) (fun f => f) _ (HRA.out i u hu)
                  have hidx := run_indexSl w9 Try.underlying22 CHI.out CHS.out b1 o1 n cap k HLT.out
                  have q0 : w9.cell? ⟨b1, o1 + k * 5, none⟩ = some (.int .u32 (x.oid : Nat)) := by have := hra 0 _ rfl; simpa using this
                  have q1 : w9.cell? ⟨b1, o1 + k * 5 + 1, none⟩ = some (.int .u32 (x.ver : Nat)) := hra 1 _ rfl
                  have q2 : w9.cell? ⟨b1, o1 + k * 5 + 2, none⟩ = some (.string ⟨x.name.toArray⟩) := hra 2 _ rfl
                  have q3 : w9.cell? ⟨b1, o1 + k * 5 + 3, none⟩ = some (.int .u8 (x.ident : Nat)) := hra 3 _ rfl
                  have q4 : w9.cell? ⟨b1, o1 + k * 5 + 4, none⟩ = some (.slice xo x.cols.length xc) := hra 4 _ rfl
                  have hone := fun w => oneQl w (x.oid : Nat) (x.ver : Nat) ⟨x.name.toArray⟩ (x.ident : Nat) xo x.cols.length xc
                  obtain ⟨W2, hW2⟩ : ∃ W', W' = w9.alloc (.cells #[.int .u32 (x.oid : Nat), .int .u32 (x.ver : Nat), .string ⟨x.name.toArray⟩, .int .u8 (x.ident : Nat), .slice xo x.cols.length xc] 33) := ⟨_, rfl⟩
                  have hxa : Ext w9 W2 := by rw [hW2]; exact (Ch.refl _ _).alloc _
                  have HRW : Hid (W2.heap[w9.heap.size]? = some (.cells #[.int .u32 (x.oid : Nat), .int .u32 (x.ver : Nat), .string ⟨x.name.toArray⟩, .int .u8 (x.ident : Nat), .slice xo x.cols.length xc] 33 (0, 0))) := Lib.hid (by rw [hW2]; exact heap_alloc_new w9 _)
                  have HXA := Lib.hid (HXs.out.1.trans (HX9.out.trans hxa)); have HXSA := Lib.hid (HXs.out.2.trans (HX9.out.trans hxa))
                  have HOA := Lib.hid (HOW.out.ext (HX9.out.trans hxa)); have HWA := Lib.hid hW2
                  have hol := HFL.out
                  clear hW2 hxa hra hh hx9
                  go_wp2_with (at_builtin; rw [← HWA.out]; refine wpList_append_sl _ rfl _ _ 22 rfl wS.heap.size 33 ci (.agg #[.int .u32 0, .int .u32 0, .string ⟨#[]⟩, .int .u8 0, .slice none 0 0]) 5 56 Try.underlying22 CHI.out CHZ.out CHS.out CBY.out rfl (by decide) _ _ _ rfl HOA.out _ 1 _ rfl (sl_row HRW.out) rfl (fun u hu => RlC.oneS (w := w) (RlC.one (r := x) HXV.out) u hu) (by omega) (by unfold maxLen; omega) HXSA.out.size ?_)
                  intro v5 w5 hown5 hgrow
                  have HX5 : Hid (Ext w w5 ∧ Ext wS w5) := Lib.hid ⟨HXA.out.grown hgrow fun j hj => .inr (Nat.le_trans HX.out.size (HOA.out.lt j hj).1), HXSA.out.grown hgrow fun j hj => .inr (HOA.out.lt j hj).1⟩
                  have HO5 : Hid (OutS wS.heap.size w w5 v5 ((l.take (k + 1)).filter fun x => decide (rf x ∈ refs))) := Lib.hid (by
                    rw [HTK.out, if_pos HF.out]
                    exact ⟨_, HCS.out.append (RlC.one HXV.out), by rw [List.length_append, HFLL.out]; exact hown5⟩)
                  clear hown5 hgrow hone q0 q1 q2 q3 q4 hidx
                  go_wp2
                  go_roundw
                  case rel => exact ⟨k + 1, HLT.out, by simp, HX5, HO5⟩
                  case measure => simp [intOf]; have := HLT.out; omega
                · have HPQ := Lib.hid (HPK.out hh)
                  rw [show D = false by rw [HDE.out]; exact decide_eq_false hh]
                  clear hh hx9
                  go_wp2
                  go_roundw
                  case rel => exact ⟨q + 1, HLJ.out, by simp, rfl, HX9, HPQ⟩
                  case measure => simp [intOf]; have := HLJ.out; omega
            · obtain rfl : q = j := by omega
              have HF : Hid (decide (rf x ∈ refs) = false) := Lib.hid (decide_eq_false fun h => by
                obtain ⟨i, hi, e⟩ := List.mem_iff_getElem.1 h
                exact HPt.out i hi (by have := HM.out; omega) e.symm)
              have HX5 : Hid (Ext w wr ∧ Ext wS wr) := Lib.hid ⟨HXs.out.1.trans HXt.out, HXs.out.2.trans HXt.out⟩
              have HO5 : Hid (OutS wS.heap.size w wr (.slice vo nf vc) ((l.take (k + 1)).filter fun x => decide (rf x ∈ refs))) := Lib.hid (by
                rw [HTK.out, if_neg (by rw [HF.out]; decide), List.append_nil]
                exact ⟨_, HCS.out, by rw [HFLL.out]; exact HOW.out.ext HXt.out⟩)
              go_wp2
              go_roundw
              case rel => exact ⟨k + 1, HLT.out, by simp, HX5, HO5⟩
              case measure => simp [intOf]; have := HLT.out; omega
        · obtain rfl : k = n := by omega
          have HTF : Hid ((l.take k).filter (fun x => decide (rf x ∈ refs)) = l.filter fun x => decide (rf x ∈ refs)) := Lib.hid (by rw [← HN.out, List.take_length])
          go_wp2
          refine bodyPost_ret (results_tmp2 rfl _ _ _) rfl ?_
          refine ⟨HXs.out.1, _, by rw [HCO.out]; rfl, ?_⟩
          rw [HCO.out]
          have := HO.out.rlS HXs.out.1
          rwa [HTF.out] at this
end Go.Proofs.Ytegclfpmgilnpaa
