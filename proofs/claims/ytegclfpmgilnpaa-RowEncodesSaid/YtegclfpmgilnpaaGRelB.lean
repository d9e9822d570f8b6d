/-
  XRelG, XRelH, XRelJ, XRelK, XRelL, XRelN, XRelP in one text. MADE BY mergeSeat.py
-/
import Derived.Test.YtegclfpmgilnpaaGRelA
import Derived.Test.YtegclfpmgilnpaaGVal
import Derived.Test.YtegclfpmgilnpaaGPrim
namespace Go.Proofs.Ytegclfpmgilnpaa
open Go.RowKit Go.Lac

theorem run_coeq (a b : Col) (w : World) : (binOp .eql 69 (pcol a) (pcol b)).run Try.prog w = .ok (.bool (decide (a = b))) w := by
  obtain ⟨t, k, y⟩ := a
  obtain ⟨t', k', y'⟩ := b
  have hp : Try.prog.stoodInHeld 69 = false := by kernel_rfl
  have hq := toList_beq t t'
  have hd : decide ((⟨t, k, y⟩ : Col) = ⟨t', k', y'⟩) = (decide (t = t') && (decide (k = k') && decide (y = y'))) := by
    rw [Bool.eq_iff_iff]; simp
  rw [hd, ← hq, ← nat_beq k]
  unfold pcol colv strV
  simp only
  generalize (⟨t.toArray⟩ : ByteArray) = A1
  generalize (⟨t'.toArray⟩ : ByteArray) = A2
  generalize ((k : Nat) : Int) = k
  generalize ((k' : Nat) : Int) = k'
  clear hq hd
  rw [run_eql_struct, run_equalIn_agg _ _ _ _ _ (by kernel_rfl) hp]
  simp [go_sem, Program.fieldsOf]
  by_cases h0 : A1.toList = A2.toList <;> by_cases h1 : k = k' <;> by_cases h2 : y = y' <;> simp [h0, h1, h2]
theorem run_coneq (a b : Col) (w : World) : (binOp .neq 69 (pcol a) (pcol b)).run Try.prog w = .ok (.bool (!decide (a = b))) w := by
  have h := run_coeq a b w
  unfold pcol at *
  rw [run_eql_struct] at h
  rw [run_neq_struct]
  cases hX : (Op.equalIn 10000 69 (.agg (colv a)) (.agg (colv b))).run Try.prog w with
  | ok b' w' =>
    rw [hX] at h
    simp only [Result.andThen_ok] at h ⊢
    cases h
    rfl
  | _ =>
    rw [hX] at h
    simp [Result.andThen] at h
def coeT (b1 o1 c1 b2 o2 c2 n k : Nat) (x y : Col) : Tmp → Kn
  | 16 => .is (.slice (some ⟨b1, o1, none⟩) n c1)
  | 17 => .is (.int .i64 (k : Nat))
  | 18 => .is (.pointer (some ⟨b1, o1 + k * 3, none⟩))
  | 19 => .is (pcol x)
  | 20 => .is (.slice (some ⟨b2, o2, none⟩) n c2)
  | 21 => .is (.int .i64 (k : Nat))
  | 22 => .is (.pointer (some ⟨b2, o2 + k * 3, none⟩))
  | 23 => .is (pcol y)
  | 24 => .is (.bool (!decide (x = y)))
  | _ => .any
set_option maxRecDepth 20000 in
set_option maxHeartbeats 1600000 in
theorem equalCo_any (v1 v2 : Value) (l1 l2 : List Col) (w : World) (h1 : ColS w v1 l1) (h2 : ColS w v2 l2) :
    Calls Try.prog 86 #[v1, v2] w fun e w' => e = .returned (.bool (decide (l1 = l2))) ∧ Ext w w' := by
  have H1 := Lib.hid h1; have H2 := Lib.hid h2
  obtain ⟨ao1, c1, rfl, g1, g2, _⟩ := id h1
  obtain ⟨ao2, c2, rfl, g3, g4, _⟩ := id h2
  obtain ⟨ci, chi, _, chs, _⟩ := info_parts infoCoZ
  have CHI := Lib.hid chi; have CHS := Lib.hid chs
  have HT : Hid ((l1 = l2 → decide (l1 = l2) = true) ∧ (¬ l1 = l2 → decide (l1 = l2) = false)) := Lib.hid ⟨decide_eq_true, decide_eq_false⟩
  generalize decide (l1 = l2) = D at *
  unfold maxLen at g2 g4
  clear h1 h2 chi chs
  by_cases hlen : l1.length = l2.length
  case neg =>
    have e1 : (((l1.length : Nat) : Int) != ((l2.length : Nat) : Int)) = true := by simp; omega
    have HD : Hid (D = false) := Lib.hid (HT.out.2 fun h => hlen (by rw [h]))
    clear HT H1 H2 hlen
    generalize l1.length = n1 at *
    generalize l2.length = n2 at *
    go_enter Try.func86, Try.ntmps86
    go_wp2
    go_ret
    exact ⟨by rw [HD.out]; rfl, Ch.refl _ _⟩
  obtain ⟨n, hn⟩ : ∃ n, n = l1.length := ⟨_, rfl⟩
  have hn2 : l2.length = n := by omega
  rw [← hn] at g1 H1 ⊢
  rw [hn2] at g3 H2 ⊢
  have HN1 := Lib.hid hn; have HN2 := Lib.hid hn2
  clear hn hn2 hlen
  go_enter Try.func86, Try.ntmps86
  go_wp2
  go_loopw [13] (fun ix wr => ∃ k : Nat, k ≤ n ∧ ix = .int .i64 k ∧ Ext w wr ∧ Hid (∀ j (h : j < l1.length) (h' : j < l2.length), j < k → l1[j] = l2[j])) (fun ix _ => n - (intOf ix).toNat)
  case atStart => exact ⟨0, Nat.zero_le _, rfl, Ch.refl _ _, Lib.hid fun j h h' hj => absurd hj (Nat.not_lt_zero _)⟩
  case round =>
    obtain ⟨k, hk, rfl, hext, HP⟩ := hrel
    have HEXT := Lib.hid hext; clear hext
    by_cases hlt : k < n
    · have hk1 : k < l1.length := by have := HN1.out; omega
      have hk2 : k < l2.length := by have := HN2.out; omega
      obtain ⟨b1, o1, rfl, ha⟩ := colS_at (ColS.ext H1.out HEXT.out) hk1
      obtain ⟨b2, o2, rfl, hb⟩ := colS_at (ColS.ext H2.out HEXT.out) hk2
      obtain ⟨x, hx⟩ : ∃ x, x = l1[k] := ⟨_, rfl⟩
      obtain ⟨y, hy⟩ : ∃ y, y = l2[k] := ⟨_, rfl⟩
      rw [← hx] at ha
      rw [← hy] at hb
      have HXX : Hid ((∀ h : k < l1.length, l1[k] = x) ∧ (∀ h : k < l2.length, l2[k] = y)) := Lib.hid ⟨fun _ => hx.symm, fun _ => hy.symm⟩
      have HA := Lib.hid ha; have HB := Lib.hid hb; have HLT := Lib.hid hlt
      clear ha hb hx hy hk1 hk2
      go_wp2
      refine wp_region_ext (coeT b1 o1 c1 b2 o2 c2 n k x y) mixedV (by rfl) (by rfl) ?all ?fin
      case all =>
        refine ⟨?_, ?_, ?_, ?_, ?_, ?_, ?_, ?_, ?_, trivial⟩
        · refine StepOK.plain (kn_stable _) rfl fun ρ w' hρ hw hf => ?_
          have h1 : ρ (.tmp 0) = .slice (some ⟨b1, o1, none⟩) n c1 := (hf 0).2 rfl rfl
          exact Exec.kmove rfl rfl h1
        · refine StepOK.plain (kn_stable _) rfl fun ρ w' hρ hw hf => ?_
          have h1 : ρ (.tmp 5) = .int .i64 (k : Nat) := (hf 5).2 rfl rfl
          exact Exec.kmove rfl rfl h1
        · refine StepOK.plain (kn_stable _) rfl fun ρ w' hρ hw hf => ?_
          have h1 : ρ (.tmp 16) = .slice (some ⟨b1, o1, none⟩) n c1 := (hf 16).1 rfl
          have h2 : ρ (.tmp 17) = .int .i64 (k : Nat) := (hf 17).1 rfl
          exact Exec.kindex rfl rfl Try.underlying37 CHI.out CHS.out h1 h2 HLT.out rfl
        · refine StepOK.plain (kn_stable _) rfl fun ρ w' hρ hw hf => ?_
          have h1 : ρ (.tmp 18) = .pointer (some ⟨b1, o1 + k * 3, none⟩) := (hf 18).1 rfl
          have hm : w'.rangeAt b1 (o1 + k * 3) (colv x).toList := fun j u hu => hw.cell (p := ⟨b1, o1 + k * 3 + j, none⟩) (fun f => f) _ (HA.out j u hu)
          have hr := run_loadAt_mid (P := Try.prog) w' b1 (o1 + k * 3) 69 (colv x).toList _ hm Try.underlying69 rfl infoCo
          exact Exec.same (v := pcol x) rfl (by unfold execOp; simp only [h1, Sem.run_bind, hr, Result.andThen_ok, Sem.run_pure]; rfl) rfl
        · refine StepOK.plain (kn_stable _) rfl fun ρ w' hρ hw hf => ?_
          have h1 : ρ (.tmp 1) = .slice (some ⟨b2, o2, none⟩) n c2 := (hf 1).2 rfl rfl
          exact Exec.kmove rfl rfl h1
        · refine StepOK.plain (kn_stable _) rfl fun ρ w' hρ hw hf => ?_
          have h1 : ρ (.tmp 5) = .int .i64 (k : Nat) := (hf 5).2 rfl rfl
          exact Exec.kmove rfl rfl h1
        · refine StepOK.plain (kn_stable _) rfl fun ρ w' hρ hw hf => ?_
          have h1 : ρ (.tmp 20) = .slice (some ⟨b2, o2, none⟩) n c2 := (hf 20).1 rfl
          have h2 : ρ (.tmp 21) = .int .i64 (k : Nat) := (hf 21).1 rfl
          exact Exec.kindex rfl rfl Try.underlying37 CHI.out CHS.out h1 h2 HLT.out rfl
        · refine StepOK.plain (kn_stable _) rfl fun ρ w' hρ hw hf => ?_
          have h1 : ρ (.tmp 22) = .pointer (some ⟨b2, o2 + k * 3, none⟩) := (hf 22).1 rfl
          have hm : w'.rangeAt b2 (o2 + k * 3) (colv y).toList := fun j u hu => hw.cell (p := ⟨b2, o2 + k * 3 + j, none⟩) (fun f => f) _ (HB.out j u hu)
          have hr := run_loadAt_mid (P := Try.prog) w' b2 (o2 + k * 3) 69 (colv y).toList _ hm Try.underlying69 rfl infoCo
          exact Exec.same (v := pcol y) rfl (by unfold execOp; simp only [h1, Sem.run_bind, hr, Result.andThen_ok, Sem.run_pure]; rfl) rfl
        · refine StepOK.plain (kn_stable _) rfl fun ρ w' hρ hw hf => ?_
          have h1 : ρ (.tmp 19) = pcol x := (hf 19).1 rfl
          have h2 : ρ (.tmp 23) = pcol y := (hf 23).1 rfl
          refine Exec.same (v := .bool (!decide (x = y))) rfl ?_ rfl
          unfold execOp
          have hg : (eqGuard .neq 69 (.tmp 19) (.tmp 23) (pcol x) (pcol y)).run Try.prog w' = .ok () w' := run_eqGuard_agg w' _ _ _ _ _ _ (by kernel_rfl)
          simp only [h1, h2, Sem.run_bind, hg, Result.andThen_ok, run_coneq, Sem.run_pure]
      case fin =>
        intro ν w8 hfin hx8
        have h24 : ν 24 = .bool (!decide (x = y)) := hfin 8 24 rfl
        simp only [Exit.then, ended, List.foldl_cons, List.foldl_nil, List.setIfInBounds_toArray, List.set_cons_succ, List.set_cons_zero, h24]
        have HX8 := Lib.hid (HEXT.out.trans hx8)
        clear hfin hx8 h24
        by_cases hxy : x = y
        · have HPK : Hid (∀ j (h : j < l1.length) (h' : j < l2.length), j < k + 1 → l1[j] = l2[j]) := Lib.hid fun j h h' hj => by
            by_cases hjk : j < k
            · exact HP.out j h h' hjk
            · have : j = k := by omega
              subst this
              rw [HXX.out.1 h, HXX.out.2 h', hxy]
          rw [decide_eq_true hxy]
          clear hxy
          go_wp2
          exact ⟨⟨k + 1, HLT.out, rfl, HX8.out, HPK⟩, by simp only [intOf]; have := HLT.out; omega⟩
        · have HD : Hid (D = false) := Lib.hid (HT.out.2 fun h => hxy (by
            have h1 : k < l1.length := by have := HN1.out; have := HLT.out; omega
            have h2 : k < l2.length := by have := HN2.out; have := HLT.out; omega
            rw [← HXX.out.1 h1, ← HXX.out.2 h2]
            subst h
            rfl))
          rw [decide_eq_false hxy]
          clear hxy
          go_wp2
          go_ret
          exact ⟨by rw [HD.out]; rfl, HX8.out⟩
    · have hkn : k = n := by omega
      subst hkn
      have HD : Hid (D = true) := Lib.hid (HT.out.1 (List.ext_getElem (by rw [← HN1.out, HN2.out]) fun j h h' => HP.out j h h' (by have := HN1.out; omega)))
      go_wp2
      go_ret
      exact ⟨by rw [HD.out]; rfl, HEXT.out⟩
end Go.Proofs.Ytegclfpmgilnpaa
namespace Go.Proofs.Ytegclfpmgilnpaa
open Go.RowKit Go.Lac

theorem run_refeq (a b c d : Nat) (w : World) : (binOp .eql 36 (.agg #[.int .u32 (a : Nat), .int .u32 (b : Nat)]) (.agg #[.int .u32 (c : Nat), .int .u32 (d : Nat)])).run Try.prog w = .ok (.bool (decide (a = c ∧ b = d))) w := by
  have hp : Try.prog.stoodInHeld 36 = false := by kernel_rfl
  rw [show decide (a = c ∧ b = d) = (decide (a = c) && decide (b = d)) by rw [Bool.eq_iff_iff]; simp, ← nat_beq a, ← nat_beq b]
  generalize ((a : Nat) : Int) = a
  generalize ((b : Nat) : Int) = b
  generalize ((c : Nat) : Int) = c
  generalize ((d : Nat) : Int) = d
  rw [run_eql_struct, run_equalIn_agg _ _ _ _ _ (by kernel_rfl) hp]
  simp [go_sem, Program.fieldsOf]
  by_cases h0 : a = c <;> by_cases h1 : b = d <;> simp [h0, h1]
theorem wpList_eql_run {P : Program} {w : World} {ops : Array Oper} {rest : List Oper} {o : Oper} {a : Act} {Q : Exit → Act → World → Prop} (hgd : o.guard = none) (t ty : TypeId) (x y : Operand) (ho : o.op = .binOp .eql t x y ty) {vx vy v : Value} (hx : a.eval x = vx) (hy : a.eval y = vy)
    (hg : (eqGuard .eql t x y vx vy).run P w = .ok () w) (hrun : (binOp .eql t vx vy).run P w = .ok v w) (h : wpList P ops Q rest (a.put o.dst v) w) : wpList P ops Q (o :: rest) a w := by
  refine wpList_plain hgd fun K hK => ?_
  unfold Oper.wp execOp
  simp only [ho, hx, hy, Sem.run_bind, hg, Result.andThen_ok, hrun, Sem.run_pure]
  exact hK _ _ h
set_option maxRecDepth 20000 in
set_option maxHeartbeats 2000000 in
theorem relSame_any (r s : Rl) (cv dv : Value) (w : World) (hc : ColS w cv r.cols) (hd : ColS w dv s.cols) :
    Calls Try.prog 58 #[.agg (relv r cv), .agg (relv s dv)] w fun e w' => e = .returned (.bool (decide (r = s))) ∧ Ext w w' := by
  have h1 := heap_alloc2_old w (.cells (relv r cv) 39) (.cells (relv s dv) 39)
  have h2 := heap_alloc2_new w (.cells (relv r cv) 39) (.cells (relv s dv) 39)
  obtain ⟨W, hW⟩ : ∃ W, W = (w.alloc (.cells (relv r cv) 39)).alloc (.cells (relv s dv) 39) := ⟨_, rfl⟩
  have hx : Ext w W := by rw [hW]; exact ((Ch.refl _ _).alloc _).alloc _
  rw [← hW] at h1 h2
  have a0 : W.cell? ⟨w.heap.size, 0, none⟩ = some (.int .u32 (r.oid : Nat)) := by rw [cell_of_row _ _ _ _ _ _ h1]; rfl
  have a1 : W.cell? ⟨w.heap.size, 1, none⟩ = some (.int .u32 (r.ver : Nat)) := by rw [cell_of_row _ _ _ _ _ _ h1]; rfl
  have a2 : W.cell? ⟨w.heap.size, 2, none⟩ = some (.string ⟨r.name.toArray⟩) := by rw [cell_of_row _ _ _ _ _ _ h1]; rfl
  have a3 : W.cell? ⟨w.heap.size, 3, none⟩ = some (.int .u8 (r.ident : Nat)) := by rw [cell_of_row _ _ _ _ _ _ h1]; rfl
  have a4 : W.cell? ⟨w.heap.size, 4, none⟩ = some cv := by rw [cell_of_row _ _ _ _ _ _ h1]; rfl
  have b0 : W.cell? ⟨w.heap.size + 1, 0, none⟩ = some (.int .u32 (s.oid : Nat)) := by rw [cell_of_row _ _ _ _ _ _ h2]; rfl
  have b1 : W.cell? ⟨w.heap.size + 1, 1, none⟩ = some (.int .u32 (s.ver : Nat)) := by rw [cell_of_row _ _ _ _ _ _ h2]; rfl
  have b2 : W.cell? ⟨w.heap.size + 1, 2, none⟩ = some (.string ⟨s.name.toArray⟩) := by rw [cell_of_row _ _ _ _ _ _ h2]; rfl
  have b3 : W.cell? ⟨w.heap.size + 1, 3, none⟩ = some (.int .u8 (s.ident : Nat)) := by rw [cell_of_row _ _ _ _ _ _ h2]; rfl
  have b4 : W.cell? ⟨w.heap.size + 1, 4, none⟩ = some dv := by rw [cell_of_row _ _ _ _ _ _ h2]; rfl
  have HX := Lib.hid hx; have HW := Lib.hid hW
  have HEQ := Lib.hid (equalCo_any cv dv r.cols s.cols W (ColS.ext hc hx) (ColS.ext hd hx))
  have hq := toList_beq r.name s.name
  have HRE := Lib.hid (fun w => run_refeq r.oid r.ver s.oid s.ver w)
  have HDD : Hid (decide (r = s) = (decide (r.oid = s.oid ∧ r.ver = s.ver) && (decide (r.name = s.name) && (decide (r.ident = s.ident) && decide (r.cols = s.cols))))) := Lib.hid (by
    obtain ⟨o, v, n, i, c⟩ := r
    obtain ⟨o', v', n', i', c'⟩ := s
    rw [Bool.eq_iff_iff]; simp [and_assoc])
  generalize decide (r = s) = D at *
  generalize decide (r.oid = s.oid ∧ r.ver = s.ver) = D1 at *
  generalize decide (r.name = s.name) = D2 at *
  generalize decide (r.cols = s.cols) = D4 at *
  have hq3 := nat_beq r.ident s.ident
  generalize decide (r.ident = s.ident) = D3 at *
  obtain ⟨p1, q1, rfl, _⟩ := id hc
  obtain ⟨p2, q2, rfl, _⟩ := id hd
  generalize (⟨r.name.toArray⟩ : ByteArray) = A1 at *
  generalize (⟨s.name.toArray⟩ : ByteArray) = A2 at *
  generalize r.cols.length = n1 at *
  generalize s.cols.length = n2 at *
  generalize relv r (.slice p1 n1 q1) = V1 at *
  generalize relv s (.slice p2 n2 q2) = V2 at *
  clear h1 h2 hx hc hd
  rw [hW] at a0 a1 a2 a3 a4 b0 b1 b2 b3 b4
  clear hW
  cases D1 with
  | false =>
    have HF : Hid (D = false) := Lib.hid HDD.out
    clear HDD HEQ
    go_enter Try.func58, Try.ntmps58
    go_wp2_with (refine wpList_eql_run rfl _ _ _ _ rfl rfl rfl (run_eqGuard_agg _ _ _ _ _ _ _ (by kernel_rfl)) (HRE.out _) ?_)
    go_ret
    rw [← HW.out]
    exact ⟨by rw [HF.out]; rfl, HX.out⟩
  | true =>
    cases D2 with
    | false =>
      have HF : Hid (D = false) := Lib.hid HDD.out
      clear HDD HEQ
      go_enter Try.func58, Try.ntmps58
      go_wp2_with (refine wpList_eql_run rfl _ _ _ _ rfl rfl rfl (run_eqGuard_agg _ _ _ _ _ _ _ (by kernel_rfl)) (HRE.out _) ?_)
      go_ret
      rw [← HW.out]
      exact ⟨by rw [HF.out]; rfl, HX.out⟩
    | true =>
      cases D3 with
      | false =>
        have HF : Hid (D = false) := Lib.hid HDD.out
        clear HDD HEQ
        go_enter Try.func58, Try.ntmps58
        go_wp2_with (refine wpList_eql_run rfl _ _ _ _ rfl rfl rfl (run_eqGuard_agg _ _ _ _ _ _ _ (by kernel_rfl)) (HRE.out _) ?_)
        go_ret
        rw [← HW.out]
        exact ⟨by rw [HF.out]; rfl, HX.out⟩
      | true =>
        have HF : Hid (D = D4) := Lib.hid (by rw [HDD.out]; simp)
        clear HDD
        go_enter Try.func58, Try.ntmps58
        go_wp2_with (first
          | (refine wpList_eql_run rfl _ _ _ _ rfl rfl rfl (run_eqGuard_agg _ _ _ _ _ _ _ (by kernel_rfl)) (HRE.out _) ?_)
          | (go_at_call 86; rw [← HW.out]; refine HEQ.out.mono ?_))
        intro e w2 hm
        obtain ⟨rfl, hx⟩ := hm
        have HX2 := Lib.hid (HX.out.trans hx)
        clear hx
        go_wp2
        go_ret
        exact ⟨by rw [HF.out]; rfl, HX2.out⟩
end Go.Proofs.Ytegclfpmgilnpaa
namespace Go.Proofs.Ytegclfpmgilnpaa
open Go.RowKit Go.Lac

theorem colC_append (a b : List Col) : colC (a ++ b) = colC a ++ colC b := by simp [colC]
theorem ColS.take {w : World} {ao : Option Addr} {n cap : Nat} {l : List Col} (h : ColS w (.slice ao n cap) l) {k : Nat} (hk : k ≤ l.length) : ColS w (.slice ao k cap) (l.take k) := by
  obtain ⟨ao', cap', e0, g1, g2, g3, g5⟩ := h
  cases e0
  have hl : (l.take k).length = k := by rw [List.length_take]; omega
  refine ⟨ao, cap, by rw [hl], by omega, g2, g3, fun x hx j u hu => g5 x hx j u ?_⟩
  rw [← List.take_append_drop k l, colC_append]
  rw [List.getElem?_append_left (List.getElem?_eq_some_iff.1 hu).1]
  exact hu
theorem run_takeCo {P : Program} (w : World) {t e : TypeId} {inf : TypeInfo} (h : P.underlying t = some (.slice e)) (hinf : P.info? e = some inf) (ao : Option Addr) (n cap k : Nat) (hk : k ≤ n) (hn : n ≤ cap) :
    (Instr.sliceAt t (.slice ao n cap) none (some (.int .i64 (k : Nat))) none).run P w = .ok (.slice ao k cap) w := by
  have he := elem_eq h
  have h' : P.underlying t = some (.slice (P.elem t)) := by rw [he]; exact h
  have hs : sliced ao 0 k cap inf.size = .slice ao k cap := by
    unfold sliced
    cases ao with
    | none => simp
    | some a => obtain ⟨b, off, s⟩ := a; simp [Addr.add]
  rw [run_sliceAt_slice (h := h'), run_slice_h (ht := h') (h0 := by omega) (h2 := by omega), he]
  simp [sizeOf, typeInfo, hinf, hs]
theorem fieldRl_0 (w : World) (b : Nat) : (Instr.fieldAt 39 (.pointer (some ⟨b, 0, none⟩)) 0).run Try.prog w = .ok (.pointer (some ⟨b, 0, none⟩)) w := by kernel_rfl
theorem fieldRl_1 (w : World) (b : Nat) : (Instr.fieldAt 39 (.pointer (some ⟨b, 0, none⟩)) 1).run Try.prog w = .ok (.pointer (some ⟨b, 2, none⟩)) w := by kernel_rfl
theorem fieldRl_2 (w : World) (b : Nat) : (Instr.fieldAt 39 (.pointer (some ⟨b, 0, none⟩)) 2).run Try.prog w = .ok (.pointer (some ⟨b, 3, none⟩)) w := by kernel_rfl
theorem fieldRl_3 (w : World) (b : Nat) : (Instr.fieldAt 39 (.pointer (some ⟨b, 0, none⟩)) 3).run Try.prog w = .ok (.pointer (some ⟨b, 4, none⟩)) w := by kernel_rfl
theorem colsErr_at (l : List Col) (k : Nat) (hk : k < l.length) (h : colsErr (l.take k) (l.drop k) = colsErr [] l) :
    (colErr (l.take k) l[k] ≠ 0 → colsErr [] l = colErr (l.take k) l[k]) ∧ (colErr (l.take k) l[k] = 0 → colsErr (l.take (k + 1)) (l.drop (k + 1)) = colsErr [] l) := by
  rw [List.drop_eq_getElem_cons hk, colsErr] at h
  refine ⟨fun h1 => by rw [if_pos h1] at h; exact h.symm, fun h1 => ?_⟩
  rw [if_neg (by simpa using h1)] at h
  rw [List.take_succ_eq_append_getElem hk]
  exact h
def rgtT (g p : Nat) (ao : Option Addr) (m cap k E : Nat) (x : Col) : Tmp → Kn
  | 45 => .is (pcol x)
  | 46 => .is (.pointer (some ⟨g, 4, none⟩))
  | 47 => .is (.slice ao m cap)
  | 48 => .is (.int .i64 (k : Nat))
  | 49 => .is (.slice ao k cap)
  | 50 => .is (.int .i64 (E : Nat))
  | 5 => .is (.int .i64 (E : Nat))
  | _ => .any
/-- All names are of a length that Go has. -/
def Rl.fits (r : Rl) : Prop := r.name.length ≤ 9223372036854775807 ∧ ∀ c ∈ r.cols, c.name.length ≤ 9223372036854775807
set_option maxRecDepth 20000 in
set_option maxHeartbeats 4000000 in
theorem relRight_any (r : Rl) (cv : Value) (w : World) (hb : ColS w cv r.cols) (hf : r.fits) :
    Calls Try.prog 49 #[.agg (relv r cv)] w fun e w' => e = .returned (.int .i64 (rlErr r : Nat)) ∧ Ext w w' := by
  have h1 := heap_alloc_new w (.cells (relv r cv) 39)
  obtain ⟨W, hW⟩ : ∃ W, W = w.alloc (.cells (relv r cv) 39) := ⟨_, rfl⟩
  have hx : Ext w W := by rw [hW]; exact (Ch.refl _ _).alloc _
  rw [← hW] at h1
  have HB := Lib.hid (ColS.ext hb hx)
  obtain ⟨ao, cap, rfl, hlc, hcm, _⟩ := id hb
  have c0 : W.cell? ⟨w.heap.size, 0, none⟩ = some (.int .u32 (r.oid : Nat)) := by rw [cell_of_row _ _ _ _ _ _ h1]; rfl
  have c1 : W.cell? ⟨w.heap.size, 1, none⟩ = some (.int .u32 (r.ver : Nat)) := by rw [cell_of_row _ _ _ _ _ _ h1]; rfl
  have c2 : W.cell? ⟨w.heap.size, 2, none⟩ = some (.string ⟨r.name.toArray⟩) := by rw [cell_of_row _ _ _ _ _ _ h1]; rfl
  have c3 : W.cell? ⟨w.heap.size, 3, none⟩ = some (.int .u8 (r.ident : Nat)) := by rw [cell_of_row _ _ _ _ _ _ h1]; rfl
  have c4 : W.cell? ⟨w.heap.size, 4, none⟩ = some (.slice ao r.cols.length cap) := by rw [cell_of_row _ _ _ _ _ _ h1]; rfl
  have HG := Lib.hid h1; have HX := Lib.hid hx; have HW := Lib.hid hW
  have HIN := Lib.hid (isName_any r.name W hf.1)
  have HF := Lib.hid hf.2
  have HKEY := Lib.hid (fun w' (h : Ext W w') (hl : r.cols.length ≤ 16) => hasKey_any r (.slice ao r.cols.length cap) w' (ColS.ext HB.out h) (by omega))
  obtain ⟨E, hE⟩ : ∃ E, E = rlErr r := ⟨_, rfl⟩
  have HE1 : Hid (r.oid = 0 ∨ r.ver = 0 → E = 4) := Lib.hid fun h => by rw [hE]; unfold rlErr; rw [if_pos h]
  have HE2 : Hid (¬ (r.oid = 0 ∨ r.ver = 0) → ¬ NameOk r.name → E = 3) := Lib.hid fun h h' => by rw [hE]; unfold rlErr; rw [if_neg h, if_pos h']
  have HE3 : Hid (¬ (r.oid = 0 ∨ r.ver = 0) → NameOk r.name → 2 < r.ident → E = 7) := Lib.hid fun h h' h'' => by rw [hE]; unfold rlErr; rw [if_neg h, if_neg (by simpa using h'), if_pos h'']
  have HE4 : Hid (¬ (r.oid = 0 ∨ r.ver = 0) → NameOk r.name → ¬ 2 < r.ident → (r.cols.length = 0 ∨ 16 < r.cols.length) → E = 17) := Lib.hid fun h h' h'' h3 => by rw [hE]; unfold rlErr; rw [if_neg h, if_neg (by simpa using h'), if_neg h'', if_pos h3]
  have HE5 : Hid (¬ (r.oid = 0 ∨ r.ver = 0) → NameOk r.name → ¬ 2 < r.ident → ¬ (r.cols.length = 0 ∨ 16 < r.cols.length) → (colsErr [] r.cols ≠ 0 → E = colsErr [] r.cols) ∧ (colsErr [] r.cols = 0 → (r.ident = 1 ∧ ¬ (∃ c ∈ r.cols, c.key = true) → E = 13) ∧ (¬ (r.ident = 1 ∧ ¬ (∃ c ∈ r.cols, c.key = true)) → E = 0))) := Lib.hid fun h h' h'' h3 => by
    rw [hE]; unfold rlErr; rw [if_neg h, if_neg (by simpa using h'), if_neg h'', if_neg h3]
    refine ⟨fun h4 => by rw [if_pos h4], fun h4 => ?_⟩
    rw [if_neg (by simpa using h4)]
    exact ⟨fun h5 => by rw [if_pos h5], fun h5 => by rw [if_neg h5]⟩
  rw [← hE]
  have hcl : r.cols.length ≤ 9223372036854775807 := by unfold maxLen at hcm; omega
  rw [hW] at c0 c1 c2 c3 c4
  clear h1 hx hW hb hE hf hcm
  generalize hrv : relv r (.slice ao r.cols.length cap) = rv at *
  have HRV := Lib.hid hrv.symm
  unfold relv strV at HRV
  clear hrv
  by_cases h0 : r.oid = 0
  · have HEE := Lib.hid (HE1.out (.inl h0))
    clear HE1 HE2 HE3 HE4 HE5
    rw [h0, Int.natCast_zero] at c0
    generalize r.cols.length = n at *
    generalize r.ver = n2 at *
    go_enter Try.func49, Try.ntmps49
    go_wp2
    go_ret
    rw [← HW.out]
    exact ⟨by rw [HEE.out]; rfl, HX.out⟩
  by_cases h0' : r.ver = 0
  · have HEE := Lib.hid (HE1.out (.inr h0'))
    have e0 : (((r.oid : Nat) : Int) == 0) = false := by simp; omega
    clear HE1 HE2 HE3 HE4 HE5
    rw [h0', Int.natCast_zero] at c1
    generalize r.cols.length = n at *
    generalize r.oid = n2 at *
    clear h0
    go_enter Try.func49, Try.ntmps49
    go_wp2
    go_ret
    rw [← HW.out]
    exact ⟨by rw [HEE.out]; rfl, HX.out⟩
  have e0 : (((r.oid : Nat) : Int) == 0) = false := by simp; omega
  have e1 : (((r.ver : Nat) : Int) == 0) = false := by simp; omega
  have hnz : ¬ (r.oid = 0 ∨ r.ver = 0) := fun h => h.elim h0 h0'
  clear HE1 h0 h0'
  by_cases hnm : NameOk r.name
  case neg =>
    have HEE := Lib.hid (HE2.out hnz hnm)
    rw [decide_eq_false hnm] at HIN
    unfold strV at HIN
    clear HE2 HE3 HE4 HE5 hnz hnm HKEY
    generalize r.cols.length = n at *
    generalize (⟨r.name.toArray⟩ : ByteArray) = A1 at *
    generalize r.oid = n1 at *
    generalize r.ver = n2 at *
    go_enter Try.func49, Try.ntmps49
    go_wp2_with (go_at_call 75; rw [← HW.out]; refine HIN.out.mono ?_; rintro e w' ⟨rfl, rfl⟩)
    go_ret
    exact ⟨by rw [HEE.out]; rfl, HX.out⟩
  rw [decide_eq_true hnm] at HIN
  unfold strV at HIN
  have HE3' := Lib.hid (HE3.out hnz hnm); have HE4' := Lib.hid (HE4.out hnz hnm); have HE5' := Lib.hid (HE5.out hnz hnm)
  clear HE2 HE3 HE4 HE5 hnz hnm
  generalize (⟨r.name.toArray⟩ : ByteArray) = A1 at *
  generalize r.oid = n1 at *
  generalize r.ver = n2 at *
  by_cases hid : 2 < r.ident
  · have HEE := Lib.hid (HE3'.out hid)
    clear HE3' HE4' HE5' HKEY
    generalize r.cols.length = n at *
    generalize r.ident = n3 at *
    go_enter Try.func49, Try.ntmps49
    go_wp2_with (go_at_call 75; rw [← HW.out]; refine HIN.out.mono ?_; rintro e w' ⟨rfl, rfl⟩; rw [← HW.out] at c0 c1 c2 c3 c4)
    go_ret
    exact ⟨by rw [HEE.out]; rfl, HX.out⟩
  have hid' : r.ident ≤ 2 := by omega
  have HE4 := Lib.hid (HE4'.out hid); have HE5 := Lib.hid (HE5'.out hid)
  clear HE3' HE4' HE5' hid
  by_cases hlen : r.cols.length = 0 ∨ 16 < r.cols.length
  · have HEE := Lib.hid (HE4.out hlen)
    clear HE4 HE5 HKEY
    generalize r.ident = n3 at *
    rcases hlen with hlen | hlen
    · rw [hlen] at c4
      generalize r.cols.length = n at *
      clear hlc hcl hlen
      go_enter Try.func49, Try.ntmps49
      go_wp2_with (go_at_call 75; rw [← HW.out]; refine HIN.out.mono ?_; rintro e w' ⟨rfl, rfl⟩; rw [← HW.out] at c0 c1 c2 c3 c4)
      go_ret
      exact ⟨by rw [HEE.out]; rfl, HX.out⟩
    · have e3 : (((r.cols.length : Nat) : Int) == 0) = false := beq_eq_false_iff_ne.2 (by omega)
      generalize r.cols.length = n at *
      clear hlc
      go_enter Try.func49, Try.ntmps49
      go_wp2_with (go_at_call 75; rw [← HW.out]; refine HIN.out.mono ?_; rintro e w' ⟨rfl, rfl⟩; rw [← HW.out] at c0 c1 c2 c3 c4)
      go_ret
      exact ⟨by rw [HEE.out]; rfl, HX.out⟩
  have e3 : (((r.cols.length : Nat) : Int) == 0) = false := beq_eq_false_iff_ne.2 (by omega)
  have HEE := Lib.hid (HE5.out hlen)
  have hl16 : r.cols.length ≤ 16 := by omega
  have HK16 := Lib.hid (fun w' (h : Ext W w') => HKEY.out w' h hl16)
  clear HE4 HE5 hlen hcl HKEY
  obtain ⟨ci, chi, _, chs, _⟩ := info_parts infoCoZ
  have CHI := Lib.hid chi; have CHS := Lib.hid chs
  have HHK : Hid ((∃ c ∈ r.cols, c.key = true) → decide (∃ c ∈ r.cols, c.key = true) = true) := Lib.hid decide_eq_true
  have HHN : Hid (¬ (∃ c ∈ r.cols, c.key = true) → decide (∃ c ∈ r.cols, c.key = true) = false) := Lib.hid decide_eq_false
  generalize decide (∃ c ∈ r.cols, c.key = true) = DK at *
  have HLC := Lib.hid hlc
  generalize hm : r.cols.length = m at *
  have HM := Lib.hid hm
  clear hm hlc chi chs
  generalize hcs : r.cols = cs at *
  clear hcs
  generalize r.ident = n3 at *
  have hrv := HRV.out
  subst hrv
  go_enter Try.func49, Try.ntmps49
  go_wp2_with (go_at_call 75; rw [← HW.out]; refine HIN.out.mono ?_; rintro e w' ⟨rfl, rfl⟩; rw [← HW.out] at c0 c1 c2 c3 c4)
  clear HIN
  go_loopw [40] (fun ix wr => ∃ k : Nat, k ≤ m ∧ ix = .int .i64 k ∧ Hid (Ext W wr) ∧ Hid (colsErr (cs.take k) (cs.drop k) = colsErr [] cs)) (fun ix _ => m - (intOf ix).toNat)
  case atStart => exact ⟨0, Nat.zero_le _, rfl, Lib.hid (Ch.refl _ _), Lib.hid (by simp)⟩
  case round =>
    obtain ⟨k, hk, rfl, HX1, HP⟩ := hrel
    by_cases hlt : k < m
    · have hkl : k < cs.length := by have := HM.out; omega
      have hcs := ColS.ext HB.out HX1.out
      obtain ⟨b, o, rfl, hra⟩ := colS_at hcs hkl
      have hidx := run_indexSl wr Try.underlying37 CHI.out CHS.out b o m cap k hlt
      have q0 : wr.cell? ⟨b, o + k * 3, none⟩ = some (.string ⟨cs[k].name.toArray⟩) := by have := hra 0 _ rfl; simpa [strV] using this
      have q1 : wr.cell? ⟨b, o + k * 3 + 1, none⟩ = some (.int .u8 (cs[k].ty : Nat)) := hra 1 _ rfl
      have q2 : wr.cell? ⟨b, o + k * 3 + 2, none⟩ = some (.bool cs[k].key) := hra 2 _ rfl
      have HQ := Lib.hid (colsErr_at cs k hkl HP.out)
      have hxl := HF.out cs[k] (List.getElem_mem hkl)
      obtain ⟨x, hx⟩ : ∃ x, x = cs[k] := ⟨_, rfl⟩
      rw [← hx] at q0 q1 q2 HQ hxl
      have HXL := Lib.hid hxl
      have HCS := Lib.hid hcs; have HLT := Lib.hid hlt
      clear hra hcs hx hxl
      go_wp2
      have hrow := heap_alloc_new wr (.cells (colv x) 69)
      have hxa : Ext W (wr.alloc (.cells (colv x) 69)) := HX1.out.alloc _
      have HROW := Lib.hid hrow; have HXA := Lib.hid hxa
      have HC3 := Lib.hid (ColS.take (k := k) (ColS.ext HCS.out ((Ch.refl _ _).alloc (.cells (colv x) 69))) (by omega))
      have HCR := Lib.hid (fun w' (h : Ext (wr.alloc (.cells (colv x) 69)) w') => colRight_any x (.slice (some ⟨b, o, none⟩) k cap) (cs.take k) w' (ColS.ext HC3.out h) HXL.out)
      obtain ⟨E2, hE2⟩ : ∃ E2, E2 = colErr (cs.take k) x := ⟨_, rfl⟩
      rw [← hE2] at HCR HQ
      have HGW := Lib.hid (heap_of_ext hxa HG.out)
      clear hrow hxa hE2 q0 q1 q2 hidx
      refine wp_region_ext (w0 := wr.alloc (.cells (colv x) 69)) (rgtT w.heap.size wr.heap.size (some ⟨b, o, none⟩) m cap k E2 x) mixedV (by rfl) (by rfl) ?all ?fin
      case all =>
        refine ⟨?_, ?_, ?_, ?_, ?_, ?_, ?_, trivial⟩
        · refine StepOK.plain (kn_stable _) rfl fun ρ w' hρ hw hf => ?_
          have h : ρ (.tmp 4) = .pointer (some ⟨wr.heap.size, 0, none⟩) := (hf 4).2 rfl rfl
          exact Exec.kloadrow rfl rfl h (heap_of_ext hw HROW.out) Try.underlying69 rfl infoCo rfl
        · refine StepOK.plain (kn_stable _) rfl fun ρ w' hρ hw hf => ?_
          have h : ρ (.tmp 1) = .pointer (some ⟨w.heap.size, 0, none⟩) := (hf 1).2 rfl rfl
          exact Exec.kfield rfl rfl h (fieldRl_3 w' _) rfl
        · refine StepOK.plain (kn_stable _) rfl fun ρ w' hρ hw hf => ?_
          have h : ρ (.tmp 46) = .pointer (some ⟨w.heap.size, 4, none⟩) := (hf 46).1 rfl
          have hc : w'.cell? ⟨w.heap.size, 4, none⟩ = some (.slice (some ⟨b, o, none⟩) m cap) := (HXA.out.trans hw).cell (p := ⟨w.heap.size, 4, none⟩) (fun f => f) _ c4
          exact Exec.same (v := .slice (some ⟨b, o, none⟩) m cap) rfl (by simp [go_sem, hρ.const, h, hc]) rfl
        · refine StepOK.plain (kn_stable _) rfl fun ρ w' hρ hw hf => ?_
          have h : ρ (.tmp 3) = .int .i64 (k : Nat) := (hf 3).2 rfl rfl
          exact Exec.kmove rfl rfl h
        · refine StepOK.plain (kn_stable _) rfl fun ρ w' hρ hw hf => ?_
          have h1 : ρ (.tmp 47) = .slice (some ⟨b, o, none⟩) m cap := (hf 47).1 rfl
          have h2 : ρ (.tmp 48) = .int .i64 (k : Nat) := (hf 48).1 rfl
          have hr := run_takeCo w' (t := 37) Try.underlying37 CHI.out (some ⟨b, o, none⟩) m cap k (by have := HLT.out; omega) HLC.out
          exact Exec.same (v := .slice (some ⟨b, o, none⟩) k cap) rfl (by unfold execOp; simp only [h1, h2, Option.map_some, Option.map_none, Sem.run_bind, hr, Result.andThen_ok, Sem.run_pure]) rfl
        · refine StepOK.plain (kn_stable _) rfl fun ρ w' hρ hw hf => ?_
          have h1 : ρ (.tmp 45) = pcol x := (hf 45).1 rfl
          have h2 : ρ (.tmp 49) = .slice (some ⟨b, o, none⟩) k cap := (hf 49).1 rfl
          exact Exec.kcall #[pcol x, .slice (some ⟨b, o, none⟩) k cap] hρ rfl rfl (by simp [h1, h2]) Try.func76 (by rfl) (by rfl) ((HCR.out w' hw).mono (by rintro e w'' ⟨rfl, hx⟩; exact ⟨_, rfl, rfl, hx⟩))
        · refine StepOK.plain (kn_stable _) rfl fun ρ w' hρ hw hf => ?_
          have h1 : ρ (.tmp 50) = .int .i64 (E2 : Nat) := (hf 50).1 rfl
          exact Exec.kassign rfl rfl h1
      case fin =>
        intro ν w8 hfin hx8
        have h5 : ν 5 = .int .i64 (E2 : Nat) := hfin 6 5 rfl
        simp only [Exit.then, ended, List.foldl_cons, List.foldl_nil, List.setIfInBounds_toArray, List.set_cons_succ, List.set_cons_zero, h5]
        have HX8 := Lib.hid (HXA.out.trans hx8)
        clear hfin hx8 h5
        by_cases hz : E2 = 0
        · have HPK := Lib.hid (HQ.out.2 hz)
          rw [hz, Int.natCast_zero]
          clear hz
          go_wp2
          exact ⟨⟨k + 1, HLT.out, rfl, HX8, HPK⟩, by simp only [intOf]; have := HLT.out; omega⟩
        · have en : (((E2 : Nat) : Int) != 0) = true := by simp; omega
          have HEF : Hid (E = E2) := Lib.hid (by have h := HQ.out.1 hz; rw [← h]; exact HEE.out.1 (by rw [h]; exact hz))
          clear hz
          go_wp2
          go_ret
          exact ⟨by rw [HEF.out]; rfl, HX.out.trans HX8.out⟩
    · obtain rfl : k = m := by omega
      have HP0 : Hid (colsErr [] cs = 0) := Lib.hid (by have := HP.out; rw [← HM.out, List.drop_length, colsErr] at this; exact this.symm)
      have HEE2 := Lib.hid (HEE.out.2 HP0.out)
      have c0 := HX1.out.cell (p := ⟨w.heap.size, 0, none⟩) (fun f => f) _ c0
      have c1 := HX1.out.cell (p := ⟨w.heap.size, 1, none⟩) (fun f => f) _ c1
      have c2 := HX1.out.cell (p := ⟨w.heap.size, 2, none⟩) (fun f => f) _ c2
      have c3 := HX1.out.cell (p := ⟨w.heap.size, 3, none⟩) (fun f => f) _ c3
      have c4 := HX1.out.cell (p := ⟨w.heap.size, 4, none⟩) (fun f => f) _ c4
      have HKW := Lib.hid (HK16.out wr HX1.out)
      by_cases hi1 : n3 = 1
      · have e4 : (((n3 : Nat) : Int) == 1) = true := by rw [hi1]; rfl
        by_cases hk1 : ∃ c ∈ cs, c.key = true
        · have HD := Lib.hid (HHK.out hk1)
          have HF0 := Lib.hid (HEE2.out.2 fun h => h.2 hk1)
          clear hi1 hk1
          go_wp2_with (go_at_call 77; refine HKW.out.mono ?_; rintro e w' ⟨rfl, hx⟩; rw [HD.out]; have HX9 := Lib.hid (HX1.out.trans hx); clear hx)
          go_ret
          exact ⟨by rw [HF0.out]; rfl, HX.out.trans HX9.out⟩
        · have HD := Lib.hid (HHN.out hk1)
          have HF0 := Lib.hid (HEE2.out.1 ⟨hi1, hk1⟩)
          clear hi1 hk1
          go_wp2_with (go_at_call 77; refine HKW.out.mono ?_; rintro e w' ⟨rfl, hx⟩; rw [HD.out]; have HX9 := Lib.hid (HX1.out.trans hx); clear hx)
          go_ret
          exact ⟨by rw [HF0.out]; rfl, HX.out.trans HX9.out⟩
      · have e4 : (((n3 : Nat) : Int) == 1) = false := by simp; omega
        have HF0 := Lib.hid (HEE2.out.2 fun h => hi1 h.1)
        clear hi1
        go_wp2
        go_ret
        exact ⟨by rw [HF0.out]; rfl, HX.out.trans HX1.out⟩
end Go.Proofs.Ytegclfpmgilnpaa
namespace Go.Proofs.Ytegclfpmgilnpaa
open Go.RowKit Go.Lac

theorem row_cells {w : World} {g : Nat} {r : Rl} {cv : Value} {T : TypeId} (h : w.heap[g]? = some (.cells (relv r cv) T (0, 0))) :
    w.cell? ⟨g, 0, none⟩ = some (.int .u32 (r.oid : Nat)) ∧ w.cell? ⟨g, 1, none⟩ = some (.int .u32 (r.ver : Nat)) ∧ w.cell? ⟨g, 2, none⟩ = some (.string ⟨r.name.toArray⟩) ∧
    w.cell? ⟨g, 3, none⟩ = some (.int .u8 (r.ident : Nat)) ∧ w.cell? ⟨g, 4, none⟩ = some cv :=
  ⟨by rw [cell_of_row _ _ _ _ _ _ h]; rfl, by rw [cell_of_row _ _ _ _ _ _ h]; rfl, by rw [cell_of_row _ _ _ _ _ _ h]; rfl, by rw [cell_of_row _ _ _ _ _ _ h]; rfl, by rw [cell_of_row _ _ _ _ _ _ h]; rfl⟩
theorem txt_len {s : List UInt8} (h : s.length ≤ 31) : (txt s).length ≤ 41 := by
  have := sev_length_10 s.length (by omega)
  unfold txt
  rw [List.length_append]
  omega
theorem colB_len {c : Col} (h : NameOk c.name) : (colB c).length ≤ 42 := by
  have := txt_len h.2.1
  unfold colB
  rw [List.length_append]
  simp only [List.length_cons, List.length_nil]
  omega
theorem colsB_len : ∀ (l : List Col), (∀ c ∈ l, NameOk c.name) → (l.flatMap colB).length ≤ l.length * 42
  | [], _ => by simp
  | c :: l, h => by
    have h1 := colB_len (h c List.mem_cons_self)
    have h2 := colsB_len l fun x hx => h x (List.mem_cons_of_mem _ hx)
    rw [List.flatMap_cons, List.length_append, List.length_cons]
    omega
theorem ownsRow_down {w : World} {b b' : Nat} {e : TypeId} {size : Nat} {v : Value} {n : Nat} {xs : List Value} (h : w.ownsRow b e size v n xs) (hb : b' ≤ b) : w.ownsRow b' e size v n xs := by
  refine ⟨h.1, ?_⟩
  rcases h.2 with ⟨h1, h2⟩ | ⟨g, cap, cur, h1, h2, h3⟩
  · exact .inl ⟨h1, h2⟩
  · exact .inr ⟨g, cap, cur, h1, by omega, h3⟩
def EncPost (E : Nat) (bs : List UInt8) (w : World) (e : Ending) (w' : World) : Prop :=
  ∃ s, e = .returned (.tuple #[s, .int .i64 (E : Nat)]) ∧ Ext w w' ∧ Rd w' s (if E = 0 then bs else [])
def encT (g base n : Nat) (bs tx : List UInt8) (x : Col) (A : ByteArray) : Tmp → Kn
  | 46 => .rd bs
  | 47 => .is (.pointer (some ⟨g, 0, none⟩))
  | 48 => .is (.string A)
  | 49 => Kn.own base 5 n (cellsB tx)
  | 50 => .is (pcol x)
  | 51 => .is (.int .u8 (colForm x : Nat))
  | 52 => .rd [UInt8.ofNat (colForm x)]
  | _ => .any
def encT' (base n : Nat) (tx : List UInt8) (x : Col) : Tmp → Kn
  | 53 => Kn.own base 5 (n + 1) (cellsB (tx ++ [UInt8.ofNat (colForm x)]))
  | 5 => Kn.own base 5 (n + 1) (cellsB (tx ++ [UInt8.ofNat (colForm x)]))
  | _ => .any
theorem fieldCo_0 (w : World) (b : Nat) : (Instr.fieldAt 69 (.pointer (some ⟨b, 0, none⟩)) 0).run Try.prog w = .ok (.pointer (some ⟨b, 0, none⟩)) w := by kernel_rfl

end Go.Proofs.Ytegclfpmgilnpaa
namespace Go.Proofs.Ytegclfpmgilnpaa
open Go.RowKit Go.Lac

theorem colS_heap {w : World} {g : Nat} {l : List Col} {T : TypeId} (h : w.heap[g]? = some (.cells (colC l).toArray T (0, 0))) (hl : l.length ≤ maxLen) : ColS w (.slice (some ⟨g, 0, none⟩) l.length l.length) l := by
  refine ⟨_, l.length, rfl, Nat.le_refl _, hl, (fun h => by cases h), fun x hx j u hu => ?_⟩
  cases hx
  refine ⟨g, 0, rfl, ?_⟩
  rw [Nat.zero_add, cell_of_row w g j _ _ _ h]
  simpa using hu
theorem sev_5 : sev 5 = [5] := by rw [sev_small (by decide)]; rfl
theorem sev_1' : sev 1 = [1] := by rw [sev_small (by decide)]; rfl
def egR : Rl := ⟨5, 1, [116], 1, [⟨[97], 2, true⟩]⟩
theorem egR_err : rlErr egR = 0 := by decide
theorem egR_bytes : rlBytes egR = [5, 1, 1, 116, 1, 1, 1, 97, 130] := by
  unfold rlBytes egR colB txt
  simp only [List.flatMap_cons, List.flatMap_nil, List.length_cons, List.length_nil, Nat.zero_add]
  rw [sev_5, sev_1']
  rfl
theorem egR_ok : egR.ok := ⟨by decide, by decide, by decide, by unfold Col.ok; decide⟩
theorem egR_fits : egR.fits := ⟨by decide, by decide⟩
theorem build_rf (w : World) (x y : Int) : (Instr.build 36 #[(0, .int .u32 x), (1, .int .u32 y)]).run Try.prog w = .ok (.agg #[.int .u32 x, .int .u32 y]) w := by kernel_rfl
theorem one_co (w : World) (A : ByteArray) (n : Int) (k : Bool) : (Instr.buildSlice 37 1 #[(0, .agg #[.string A, .int .u8 n, .bool k])]).run Try.prog w = .ok (.slice (some ⟨w.heap.size, 0, none⟩) 1 1) (w.alloc (.cells #[.string A, .int .u8 n, .bool k] 69)) := by kernel_rfl
theorem build_rl (w : World) (x y i : Int) (A : ByteArray) (b n c : Nat) : (Instr.build 39 #[(0, .agg #[.int .u32 x, .int .u32 y]), (1, .string A), (2, .int .u8 i), (3, .slice (some ⟨b, 0, none⟩) n c)]).run Try.prog w = .ok (.agg #[.int .u32 x, .int .u32 y, .string A, .int .u8 i, .slice (some ⟨b, 0, none⟩) n c]) w := by kernel_rfl

end Go.Proofs.Ytegclfpmgilnpaa
namespace Go.Proofs.Ytegclfpmgilnpaa
open Go.RowKit Go.Lac

def Great (r : Rl) : Prop := (∃ c ∈ r.cols, 60 < c.name.length) ∨ 30 < r.cols.length ∨ 60 < r.name.length
instance (r : Rl) : Decidable (Great r) := by unfold Great; exact inferInstance
theorem infoRCol : (Try.prog.info? 111).map (·.size) = some 3 := by kernel_rfl
theorem infoRCZ : (Try.prog.info? 111).map (fun i => (i.zero, i.size, i.bytes)) = some (some (.agg #[.string ⟨#[]⟩, .int .u8 0, .bool false]), 3, 24) := by kernel_rfl
end Go.Proofs.Ytegclfpmgilnpaa
namespace Go.Proofs.Ytegclfpmgilnpaa
open Go.RowKit Go.Lac

theorem run_rcoeq (a b : Col) (w : World) : (binOp .eql 111 (pcol a) (pcol b)).run Try.prog w = .ok (.bool (decide (a = b))) w := by
  obtain ⟨t, k, y⟩ := a
  obtain ⟨t', k', y'⟩ := b
  have hp : Try.prog.stoodInHeld 111 = false := by kernel_rfl
  have hq := toList_beq t t'
  have hd : decide ((⟨t, k, y⟩ : Col) = ⟨t', k', y'⟩) = (decide (t = t') && (decide (k = k') && decide (y = y'))) := by
    rw [Bool.eq_iff_iff]; simp
  rw [hd, ← hq, ← nat_beq k]
  unfold pcol colv strV
  simp only
  generalize (⟨t.toArray⟩ : ByteArray) = A1
  generalize (⟨t'.toArray⟩ : ByteArray) = A2
  generalize ((k : Nat) : Int) = k
  generalize ((k' : Nat) : Int) = k'
  clear hq hd
  rw [run_eql_struct, run_equalIn_agg _ _ _ _ _ (by kernel_rfl) hp]
  simp [go_sem, Program.fieldsOf]
  by_cases h0 : A1.toList = A2.toList <;> by_cases h1 : k = k' <;> by_cases h2 : y = y' <;> simp [h0, h1, h2]
theorem run_rconeq (a b : Col) (w : World) : (binOp .neq 111 (pcol a) (pcol b)).run Try.prog w = .ok (.bool (!decide (a = b))) w := by
  have h := run_rcoeq a b w
  unfold pcol at *
  rw [run_eql_struct] at h
  rw [run_neq_struct]
  cases hX : (Op.equalIn 10000 111 (.agg (colv a)) (.agg (colv b))).run Try.prog w with
  | ok b' w' =>
    rw [hX] at h
    simp only [Result.andThen_ok] at h ⊢
    cases h
    rfl
  | _ =>
    rw [hX] at h
    simp [Result.andThen] at h
theorem run_rrefeq2 (a b c d : Nat) (w : World) : (binOp .eql 25 (.agg #[.int .u32 (a : Nat), .int .u32 (b : Nat)]) (.agg #[.int .u32 (c : Nat), .int .u32 (d : Nat)])).run Try.prog w = .ok (.bool (decide (a = c ∧ b = d))) w := by
  have hp : Try.prog.stoodInHeld 25 = false := by kernel_rfl
  rw [show decide (a = c ∧ b = d) = (decide (a = c) && decide (b = d)) by rw [Bool.eq_iff_iff]; simp, ← nat_beq a, ← nat_beq b]
  generalize ((a : Nat) : Int) = a
  generalize ((b : Nat) : Int) = b
  generalize ((c : Nat) : Int) = c
  generalize ((d : Nat) : Int) = d
  rw [run_eql_struct, run_equalIn_agg _ _ _ _ _ (by kernel_rfl) hp]
  simp [go_sem, Program.fieldsOf]
  by_cases h0 : a = c <;> by_cases h1 : b = d <;> simp [h0, h1]
theorem ei_rref (a b c d : Nat) (w : World) : (Op.equalIn 10000 25 (.agg #[.int .u32 (a : Nat), .int .u32 (b : Nat)]) (.agg #[.int .u32 (c : Nat), .int .u32 (d : Nat)])).run Try.prog w = .ok (decide (a = c ∧ b = d)) w := by
  have h := run_rrefeq2 a b c d w
  rw [run_eql_struct] at h
  cases hX : (Op.equalIn 10000 25 (.agg #[.int .u32 (a : Nat), .int .u32 (b : Nat)]) (.agg #[.int .u32 (c : Nat), .int .u32 (d : Nat)])).run Try.prog w with
  | ok b' w' =>
    rw [hX] at h
    simp only [Result.andThen_ok] at h ⊢
    cases h
    rfl
  | _ =>
    rw [hX] at h
    simp [Result.andThen] at h
theorem fieldRR_3 (w : World) (b : Nat) : (Instr.fieldAt 33 (.pointer (some ⟨b, 0, none⟩)) 3).run Try.prog w = .ok (.pointer (some ⟨b, 4, none⟩)) w := by kernel_rfl
def rsamT (g1 g2 b1 o1 c1 b2 o2 c2 n k : Nat) (x y : Col) : Tmp → Kn
  | 41 => .is (.pointer (some ⟨g1, 4, none⟩))
  | 42 => .is (.slice (some ⟨b1, o1, none⟩) n c1)
  | 43 => .is (.int .i64 (k : Nat))
  | 44 => .is (.pointer (some ⟨b1, o1 + k * 3, none⟩))
  | 45 => .is (pcol x)
  | 46 => .is (.pointer (some ⟨g2, 4, none⟩))
  | 47 => .is (.slice (some ⟨b2, o2, none⟩) n c2)
  | 48 => .is (.int .i64 (k : Nat))
  | 49 => .is (.pointer (some ⟨b2, o2 + k * 3, none⟩))
  | 50 => .is (pcol y)
  | 51 => .is (.bool (!decide (x = y)))
  | _ => .any
set_option maxRecDepth 20000 in
set_option maxHeartbeats 4000000 in
theorem refSame_any (r s : Rl) (cv dv : Value) (w : World) (hc : ColS w cv r.cols) (hd : ColS w dv s.cols) :
    Calls Try.prog 22 #[.agg (relv r cv), .agg (relv s dv)] w fun e w' => e = .returned (.bool (decide (r = s))) ∧ Ext w w' := by
  have h1 := heap_alloc2_old w (.cells (relv r cv) 33) (.cells (relv s dv) 33)
  have h2 := heap_alloc2_new w (.cells (relv r cv) 33) (.cells (relv s dv) 33)
  obtain ⟨W, hW⟩ : ∃ W, W = (w.alloc (.cells (relv r cv) 33)).alloc (.cells (relv s dv) 33) := ⟨_, rfl⟩
  have hx : Ext w W := by rw [hW]; exact ((Ch.refl _ _).alloc _).alloc _
  rw [← hW] at h1 h2
  obtain ⟨a0, a1, a2, a3, a4⟩ := row_cells h1
  obtain ⟨b0, b1, b2, b3, b4⟩ := row_cells h2
  have HX := Lib.hid hx; have HW := Lib.hid hW
  have H1 := Lib.hid (ColS.ext hc hx); have H2 := Lib.hid (ColS.ext hd hx)
  have hq := toList_beq r.name s.name
  have hre := fun w => ei_rref r.oid r.ver s.oid s.ver w
  have hgd : Try.prog.eqGuardType Try.prog.depth 25 = false := by kernel_rfl
  have HDD : Hid (decide (r = s) = (decide (r.oid = s.oid ∧ r.ver = s.ver) && (decide (r.name = s.name) && (decide (r.ident = s.ident) && decide (r.cols = s.cols))))) := Lib.hid (by
    obtain ⟨o, v, n, i, c⟩ := r
    obtain ⟨o', v', n', i', c'⟩ := s
    rw [Bool.eq_iff_iff]; simp [and_assoc])
  have HT : Hid ((r.cols = s.cols → decide (r.cols = s.cols) = true) ∧ (¬ r.cols = s.cols → decide (r.cols = s.cols) = false)) := Lib.hid ⟨decide_eq_true, decide_eq_false⟩
  have hq3 := nat_beq r.ident s.ident
  have hq3' : (((r.ident : Nat) : Int) != ((s.ident : Nat) : Int)) = !decide (r.ident = s.ident) := by rw [bne, hq3]
  generalize decide (r = s) = D at *
  generalize decide (r.oid = s.oid ∧ r.ver = s.ver) = D1 at *
  generalize decide (r.name = s.name) = D2 at *
  generalize decide (r.cols = s.cols) = D4 at *
  generalize decide (r.ident = s.ident) = D3 at *
  obtain ⟨p1, q1, rfl, g1, gm1, _⟩ := id hc
  obtain ⟨p2, q2, rfl, g3, gm2, _⟩ := id hd
  unfold maxLen at gm1 gm2
  unfold relv at *
  unfold strV at *
  generalize (⟨r.name.toArray⟩ : ByteArray) = A1 at *
  generalize (⟨s.name.toArray⟩ : ByteArray) = A2 at *
  generalize r.oid = n1 at *
  generalize r.ver = n2 at *
  generalize r.ident = n3 at *
  generalize s.oid = m1 at *
  generalize s.ver = m2 at *
  generalize s.ident = m3 at *
  generalize r.cols = l1 at *
  generalize s.cols = l2 at *
  rw [hW] at a0 a1 a2 a3 a4 b0 b1 b2 b3 b4
  have HG1 := Lib.hid h1; have HG2 := Lib.hid h2
  clear hW h1 h2 hx hc hd hq3'
  cases D1 with
  | false =>
    have HF : Hid (D = false) := Lib.hid HDD.out
    clear HDD HT
    generalize l1.length = z1 at *
    generalize l2.length = z2 at *
    go_enter Try.func22, Try.ntmps22
    go_wp2_with fail
    go_ret
    rw [← HW.out]
    exact ⟨by rw [HF.out]; rfl, HX.out⟩
  | true =>
    cases D2 with
    | false =>
      have HF : Hid (D = false) := Lib.hid HDD.out
      clear HDD HT
      generalize l1.length = z1 at *
      generalize l2.length = z2 at *
      go_enter Try.func22, Try.ntmps22
      go_wp2_with fail
      go_ret
      rw [← HW.out]
      exact ⟨by rw [HF.out]; rfl, HX.out⟩
    | true =>
      cases D3 with
      | false =>
        have HF : Hid (D = false) := Lib.hid HDD.out
        clear HDD HT
        generalize l1.length = z1 at *
        generalize l2.length = z2 at *
        go_enter Try.func22, Try.ntmps22
        go_wp2_with fail
        go_ret
        rw [← HW.out]
        exact ⟨by rw [HF.out]; rfl, HX.out⟩
      | true =>
        have HF : Hid (D = D4) := Lib.hid (by rw [HDD.out]; simp)
        clear HDD
        have e3 : n3 = m3 := by have := eq_of_beq hq3; omega
        subst e3
        clear hq3
        by_cases hlen : l1.length = l2.length
        case neg =>
          have hle : (((l1.length : Nat) : Int) == ((l2.length : Nat) : Int)) = false := beq_eq_false_iff_ne.2 (by omega)
          have hle2 : (((l1.length : Nat) : Int) != ((l2.length : Nat) : Int)) = true := by rw [bne, hle]; rfl
          have HF2 : Hid (D4 = false) := Lib.hid (HT.out.2 fun h => hlen (by rw [h]))
          clear hlen HT
          generalize l1.length = z1 at *
          generalize l2.length = z2 at *
          go_enter Try.func22, Try.ntmps22
          go_wp2_with fail
          go_ret
          rw [← HW.out]
          exact ⟨by rw [HF.out, HF2.out]; rfl, HX.out⟩
        obtain ⟨ci, chi, _, chs, _⟩ := info_parts infoRCZ
        have CHI := Lib.hid chi; have CHS := Lib.hid chs
        clear chi chs
        generalize hn2 : l2.length = n at *
        rw [hlen] at g1 H1 HG1 HW a0 a1 a2 a3 a4 b0 b1 b2 b3 b4 ⊢
        have HN1 := Lib.hid hlen; have HN2 := Lib.hid hn2
        clear hlen hn2
        go_enter Try.func22, Try.ntmps22
        go_wp2_with fail
        rw [← HW.out]
        have HA4 := Lib.hid (show W.cell? ⟨w.heap.size, 4, none⟩ = some (.slice p1 n q1) by rw [HW.out]; exact a4)
        have HB4 := Lib.hid (show W.cell? ⟨w.heap.size + 1, 4, none⟩ = some (.slice p2 n q2) by rw [HW.out]; exact b4)
        clear a0 a1 a2 a3 a4 b0 b1 b2 b3 b4 hre hgd
        go_loopw [5] (fun ix wr => ∃ k : Nat, k ≤ n ∧ ix = .int .i64 k ∧ Ext W wr ∧ Hid (∀ j (h : j < l1.length) (h' : j < l2.length), j < k → l1[j] = l2[j])) (fun ix _ => n - (intOf ix).toNat)
        case atStart => exact ⟨0, Nat.zero_le _, rfl, Ch.refl _ _, Lib.hid fun j h h' hj => absurd hj (Nat.not_lt_zero _)⟩
        case round =>
          obtain ⟨k, hk, rfl, hext, HP⟩ := hrel
          have HEXT := Lib.hid hext; clear hext
          have a4 := HEXT.out.cell (p := ⟨w.heap.size, 4, none⟩) (fun f => f) _ HA4.out
          have b4 := HEXT.out.cell (p := ⟨w.heap.size + 1, 4, none⟩) (fun f => f) _ HB4.out
          have HA4w := Lib.hid a4; have HB4w := Lib.hid b4
          by_cases hlt : k < n
          · have hk1 : k < l1.length := by have := HN1.out; omega
            have hk2 : k < l2.length := by have := HN2.out; omega
            have hs1 := ColS.ext H1.out HEXT.out
            have hs2 := ColS.ext H2.out HEXT.out
            obtain ⟨b1, o1, rfl, ha⟩ := colS_at hs1 hk1
            obtain ⟨b2, o2, rfl, hb⟩ := colS_at hs2 hk2
            obtain ⟨x, hx⟩ : ∃ x, x = l1[k] := ⟨_, rfl⟩
            obtain ⟨y, hy⟩ : ∃ y, y = l2[k] := ⟨_, rfl⟩
            rw [← hx] at ha
            rw [← hy] at hb
            have HXX : Hid ((∀ h : k < l1.length, l1[k] = x) ∧ (∀ h : k < l2.length, l2[k] = y)) := Lib.hid ⟨fun _ => hx.symm, fun _ => hy.symm⟩
            have HA := Lib.hid ha; have HB := Lib.hid hb; have HLT := Lib.hid hlt
            clear ha hb hx hy hk1 hk2 hs1 hs2
            go_wp2
            refine wp_region_ext (rsamT w.heap.size (w.heap.size + 1) b1 o1 q1 b2 o2 q2 n k x y) mixedV (by rfl) (by rfl) ?all ?fin
            case all =>
              refine ⟨?_, ?_, ?_, ?_, ?_, ?_, ?_, ?_, ?_, ?_, ?_, trivial⟩
              · refine StepOK.plain (kn_stable _) rfl fun ρ w' hρ hw hf => ?_
                have h : ρ (.tmp 2) = .pointer (some ⟨w.heap.size, 0, none⟩) := (hf 2).2 rfl rfl
                exact Exec.kfield rfl rfl h (fieldRR_3 w' _) rfl
              · refine StepOK.plain (kn_stable _) rfl fun ρ w' hρ hw hf => ?_
                have h : ρ (.tmp 41) = .pointer (some ⟨w.heap.size, 4, none⟩) := (hf 41).1 rfl
                have hc := hw.cell (p := ⟨w.heap.size, 4, none⟩) (fun f => f) _ HA4w.out
                exact Exec.same (v := .slice (some ⟨b1, o1, none⟩) n q1) rfl (by simp [go_sem, hρ.const, h, hc]) rfl
              · refine StepOK.plain (kn_stable _) rfl fun ρ w' hρ hw hf => ?_
                have h1 : ρ (.tmp 5) = .int .i64 (k : Nat) := (hf 5).2 rfl rfl
                exact Exec.kmove rfl rfl h1
              · refine StepOK.plain (kn_stable _) rfl fun ρ w' hρ hw hf => ?_
                have h1 : ρ (.tmp 42) = .slice (some ⟨b1, o1, none⟩) n q1 := (hf 42).1 rfl
                have h2 : ρ (.tmp 43) = .int .i64 (k : Nat) := (hf 43).1 rfl
                exact Exec.kindex rfl rfl Try.underlying31 CHI.out CHS.out h1 h2 HLT.out rfl
              · refine StepOK.plain (kn_stable _) rfl fun ρ w' hρ hw hf => ?_
                have h1 : ρ (.tmp 44) = .pointer (some ⟨b1, o1 + k * 3, none⟩) := (hf 44).1 rfl
                have hm : w'.rangeAt b1 (o1 + k * 3) (colv x).toList := fun j u hu => hw.cell (p := ⟨b1, o1 + k * 3 + j, none⟩) (fun f => f) _ (HA.out j u hu)
                have hr := run_loadAt_mid (P := Try.prog) w' b1 (o1 + k * 3) 111 (colv x).toList _ hm Try.underlying111 rfl infoRCol
                exact Exec.same (v := pcol x) rfl (by unfold execOp; simp only [h1, Sem.run_bind, hr, Result.andThen_ok, Sem.run_pure]; rfl) rfl
              · refine StepOK.plain (kn_stable _) rfl fun ρ w' hρ hw hf => ?_
                have h : ρ (.tmp 3) = .pointer (some ⟨(w.heap.size + 1), 0, none⟩) := (hf 3).2 rfl rfl
                exact Exec.kfield rfl rfl h (fieldRR_3 w' _) rfl
              · refine StepOK.plain (kn_stable _) rfl fun ρ w' hρ hw hf => ?_
                have h : ρ (.tmp 46) = .pointer (some ⟨(w.heap.size + 1), 4, none⟩) := (hf 46).1 rfl
                have hc := hw.cell (p := ⟨(w.heap.size + 1), 4, none⟩) (fun f => f) _ HB4w.out
                exact Exec.same (v := .slice (some ⟨b2, o2, none⟩) n q2) rfl (by simp [go_sem, hρ.const, h, hc]) rfl
              · refine StepOK.plain (kn_stable _) rfl fun ρ w' hρ hw hf => ?_
                have h1 : ρ (.tmp 5) = .int .i64 (k : Nat) := (hf 5).2 rfl rfl
                exact Exec.kmove rfl rfl h1
              · refine StepOK.plain (kn_stable _) rfl fun ρ w' hρ hw hf => ?_
                have h1 : ρ (.tmp 47) = .slice (some ⟨b2, o2, none⟩) n q2 := (hf 47).1 rfl
                have h2 : ρ (.tmp 48) = .int .i64 (k : Nat) := (hf 48).1 rfl
                exact Exec.kindex rfl rfl Try.underlying31 CHI.out CHS.out h1 h2 HLT.out rfl
              · refine StepOK.plain (kn_stable _) rfl fun ρ w' hρ hw hf => ?_
                have h1 : ρ (.tmp 49) = .pointer (some ⟨b2, o2 + k * 3, none⟩) := (hf 49).1 rfl
                have hm : w'.rangeAt b2 (o2 + k * 3) (colv y).toList := fun j u hu => hw.cell (p := ⟨b2, o2 + k * 3 + j, none⟩) (fun f => f) _ (HB.out j u hu)
                have hr := run_loadAt_mid (P := Try.prog) w' b2 (o2 + k * 3) 111 (colv y).toList _ hm Try.underlying111 rfl infoRCol
                exact Exec.same (v := pcol y) rfl (by unfold execOp; simp only [h1, Sem.run_bind, hr, Result.andThen_ok, Sem.run_pure]; rfl) rfl
              · refine StepOK.plain (kn_stable _) rfl fun ρ w' hρ hw hf => ?_
                have h1 : ρ (.tmp 45) = pcol x := (hf 45).1 rfl
                have h2 : ρ (.tmp 50) = pcol y := (hf 50).1 rfl
                refine Exec.same (v := .bool (!decide (x = y))) rfl ?_ rfl
                unfold execOp
                have hg : (eqGuard .neq 111 (.tmp 45) (.tmp 50) (pcol x) (pcol y)).run Try.prog w' = .ok () w' := run_eqGuard_agg w' _ _ _ _ _ _ (by kernel_rfl)
                simp only [h1, h2, Sem.run_bind, hg, Result.andThen_ok, run_rconeq, Sem.run_pure]
            case fin =>
              intro ν w8 hfin hx8
              have h24 : ν 51 = .bool (!decide (x = y)) := hfin 10 51 rfl
              simp only [Exit.then, ended, List.foldl_cons, List.foldl_nil, List.setIfInBounds_toArray, List.set_cons_succ, List.set_cons_zero, h24]
              have HX8 := Lib.hid (HEXT.out.trans hx8)
              clear hfin hx8 h24 a4 b4 HA4w HB4w
              by_cases hxy : x = y
              · have HPK : Hid (∀ j (h : j < l1.length) (h' : j < l2.length), j < k + 1 → l1[j] = l2[j]) := Lib.hid fun j h h' hj => by
                  by_cases hjk : j < k
                  · exact HP.out j h h' hjk
                  · have : j = k := by omega
                    subst this
                    rw [HXX.out.1 h, HXX.out.2 h', hxy]
                rw [decide_eq_true hxy]
                clear hxy
                go_wp2
                exact ⟨⟨k + 1, HLT.out, rfl, HX8.out, HPK⟩, by simp only [intOf]; have := HLT.out; omega⟩
              · have HD : Hid (D4 = false) := Lib.hid (HT.out.2 fun h => hxy (by
                  have h1 : k < l1.length := by have := HN1.out; have := HLT.out; omega
                  have h2 : k < l2.length := by have := HN2.out; have := HLT.out; omega
                  rw [← HXX.out.1 h1, ← HXX.out.2 h2]
                  subst h
                  rfl))
                rw [decide_eq_false hxy]
                clear hxy
                go_wp2
                go_ret
                exact ⟨by rw [HF.out, HD.out]; rfl, HX.out.trans HX8.out⟩
          · have hkn : k = n := by omega
            subst hkn
            have HD : Hid (D4 = true) := Lib.hid (HT.out.1 (List.ext_getElem (by rw [HN1.out, HN2.out]) fun j h h' => HP.out j h h' (by have := HN1.out; omega)))
            go_wp2
            go_ret
            exact ⟨by rw [HF.out, HD.out]; rfl, HX.out.trans HEXT.out⟩
end Go.Proofs.Ytegclfpmgilnpaa
