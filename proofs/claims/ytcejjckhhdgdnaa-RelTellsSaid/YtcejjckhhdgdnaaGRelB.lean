/-
  XRelG, XRelH, XRelJ, XRelK, XRelL, XRelN, XRelP in one text. MADE BY mergeSeat.py
-/
import Derived.Test.YtcejjckhhdgdnaaGRelA
import Derived.Test.YtcejjckhhdgdnaaGVal
import Derived.Test.YtcejjckhhdgdnaaGPrim
namespace Go.Proofs.Ytcejjckhhdgdnaa
open Go.RowKit Go.Lac

theorem run_coeq (a b : Col) (w : World) : (binOp .eql 49 (pcol a) (pcol b)).run Try.prog w = .ok (.bool (decide (a = b))) w := by
  obtain ⟨t, k, y⟩ := a
  obtain ⟨t', k', y'⟩ := b
  have hp : Try.prog.stoodInHeld 49 = false := by kernel_rfl
  have hq := toList_beq t t'
  have hd : decide ((⟨t, k, y⟩ : Col) = ⟨t', k', y'⟩) = (decide (t = t') && (decide (k = k') && decide (y = y'))) := by
    rw [Bool.eq_iff_iff]; simp
  rw [hd, ← hq, ← nat_beq k]
  unfold pcol colv strV
  simp only
  generalize (⟨t.toArray⟩ : ByteArray) = A1
  generalize (⟨t'.toArray⟩ : ByteArray) = A2
  generalize ((k : Nat) : Int) = k
  generalize ((k' : Nat) : Int) = k'
  clear hq hd
  rw [run_eql_struct, run_equalIn_agg _ _ _ _ _ (by kernel_rfl) hp]
  simp [go_sem, Program.fieldsOf]
  by_cases h0 : A1.toList = A2.toList <;> by_cases h1 : k = k' <;> by_cases h2 : y = y' <;> simp [h0, h1, h2]
theorem run_coneq (a b : Col) (w : World) : (binOp .neq 49 (pcol a) (pcol b)).run Try.prog w = .ok (.bool (!decide (a = b))) w := by
  have h := run_coeq a b w
  unfold pcol at *
  rw [run_eql_struct] at h
  rw [run_neq_struct]
  cases hX : (Op.equalIn 10000 49 (.agg (colv a)) (.agg (colv b))).run Try.prog w with
  | ok b' w' =>
    rw [hX] at h
    simp only [Result.andThen_ok] at h ⊢
    cases h
    rfl
  | _ =>
    rw [hX] at h
    simp [Result.andThen] at h
def coeT (b1 o1 c1 b2 o2 c2 n k : Nat) (x y : Col) : Tmp → Kn
  | 16 => .is (.slice (some ⟨b1, o1, none⟩) n c1)
  | 17 => .is (.int .i64 (k : Nat))
  | 18 => .is (.pointer (some ⟨b1, o1 + k * 3, none⟩))
  | 19 => .is (pcol x)
  | 20 => .is (.slice (some ⟨b2, o2, none⟩) n c2)
  | 21 => .is (.int .i64 (k : Nat))
  | 22 => .is (.pointer (some ⟨b2, o2 + k * 3, none⟩))
  | 23 => .is (pcol y)
  | 24 => .is (.bool (!decide (x = y)))
  | _ => .any
set_option maxRecDepth 20000 in
set_option maxHeartbeats 1600000 in
theorem equalCo_any (v1 v2 : Value) (l1 l2 : List Col) (w : World) (h1 : ColS w v1 l1) (h2 : ColS w v2 l2) :
    Calls Try.prog 53 #[v1, v2] w fun e w' => e = .returned (.bool (decide (l1 = l2))) ∧ Ext w w' := by
  have H1 := Lib.hid h1; have H2 := Lib.hid h2
  obtain ⟨ao1, c1, rfl, g1, g2, _⟩ := id h1
  obtain ⟨ao2, c2, rfl, g3, g4, _⟩ := id h2
  obtain ⟨ci, chi, _, chs, _⟩ := info_parts infoCoZ
  have CHI := Lib.hid chi; have CHS := Lib.hid chs
  have HT : Hid ((l1 = l2 → decide (l1 = l2) = true) ∧ (¬ l1 = l2 → decide (l1 = l2) = false)) := Lib.hid ⟨decide_eq_true, decide_eq_false⟩
  generalize decide (l1 = l2) = D at *
  unfold maxLen at g2 g4
  clear h1 h2 chi chs
  by_cases hlen : l1.length = l2.length
  case neg =>
    have e1 : (((l1.length : Nat) : Int) != ((l2.length : Nat) : Int)) = true := by simp; omega
    have HD : Hid (D = false) := Lib.hid (HT.out.2 fun h => hlen (by rw [h]))
    clear HT H1 H2 hlen
    generalize l1.length = n1 at *
    generalize l2.length = n2 at *
    go_enter Try.func53, Try.ntmps53
    go_wp2
    go_ret
    exact ⟨by rw [HD.out]; rfl, Ch.refl _ _⟩
  obtain ⟨n, hn⟩ : ∃ n, n = l1.length := ⟨_, rfl⟩
  have hn2 : l2.length = n := by omega
  rw [← hn] at g1 H1 ⊢
  rw [hn2] at g3 H2 ⊢
  have HN1 := Lib.hid hn; have HN2 := Lib.hid hn2
  clear hn hn2 hlen
  go_enter Try.func53, Try.ntmps53
  go_wp2
  go_loopw [13] (fun ix wr => ∃ k : Nat, k ≤ n ∧ ix = .int .i64 k ∧ Ext w wr ∧ Hid (∀ j (h : j < l1.length) (h' : j < l2.length), j < k → l1[j] = l2[j])) (fun ix _ => n - (intOf ix).toNat)
  case atStart => exact ⟨0, Nat.zero_le _, rfl, Ch.refl _ _, Lib.hid fun j h h' hj => absurd hj (Nat.not_lt_zero _)⟩
  case round =>
    obtain ⟨k, hk, rfl, hext, HP⟩ := hrel
    have HEXT := Lib.hid hext; clear hext
    by_cases hlt : k < n
    · have hk1 : k < l1.length := by have := HN1.out; omega
      have hk2 : k < l2.length := by have := HN2.out; omega
      obtain ⟨b1, o1, rfl, ha⟩ := colS_at (ColS.ext H1.out HEXT.out) hk1
      obtain ⟨b2, o2, rfl, hb⟩ := colS_at (ColS.ext H2.out HEXT.out) hk2
      obtain ⟨x, hx⟩ : ∃ x, x = l1[k] := ⟨_, rfl⟩
      obtain ⟨y, hy⟩ : ∃ y, y = l2[k] := ⟨_, rfl⟩
      rw [← hx] at ha
      rw [← hy] at hb
      have HXX : Hid ((∀ h : k < l1.length, l1[k] = x) ∧ (∀ h : k < l2.length, l2[k] = y)) := Lib.hid ⟨fun _ => hx.symm, fun _ => hy.symm⟩
      have HA := Lib.hid ha; have HB := Lib.hid hb; have HLT := Lib.hid hlt
      clear ha hb hx hy hk1 hk2
      go_wp2
      refine wp_region_ext (coeT b1 o1 c1 b2 o2 c2 n k x y) mixedV (by rfl) (by rfl) ?all ?fin
      case all =>
        refine ⟨?_, ?_, ?_, ?_, ?_, ?_, ?_, ?_, ?_, trivial⟩
        · refine StepOK.plain (kn_stable _) rfl fun ρ w' hρ hw hf => ?_
          have h1 : ρ (.tmp 0) = .slice (some ⟨b1, o1, none⟩) n c1 := (hf 0).2 rfl rfl
          exact Exec.kmove rfl rfl h1
        · refine StepOK.plain (kn_stable _) rfl fun ρ w' hρ hw hf => ?_
          have h1 : ρ (.tmp 5) = .int .i64 (k : Nat) := (hf 5).2 rfl rfl
          exact Exec.kmove rfl rfl h1
        · refine StepOK.plain (kn_stable _) rfl fun ρ w' hρ hw hf => ?_
          have h1 : ρ (.tmp 16) = .slice (some ⟨b1, o1, none⟩) n c1 := (hf 16).1 rfl
          have h2 : ρ (.tmp 17) = .int .i64 (k : Nat) := (hf 17).1 rfl
          exact Exec.kindex rfl rfl Try.underlying30 CHI.out CHS.out h1 h2 HLT.out rfl
        · refine StepOK.plain (kn_stable _) rfl fun ρ w' hρ hw hf => ?_
          have h1 : ρ (.tmp 18) = .pointer (some ⟨b1, o1 + k * 3, none⟩) := (hf 18).1 rfl
          have hm : w'.rangeAt b1 (o1 + k * 3) (colv x).toList := fun j u hu => hw.cell (p := ⟨b1, o1 + k * 3 + j, none⟩) (fun f => f) _ (HA.out j u hu)
          have hr := run_loadAt_mid (P := Try.prog) w' b1 (o1 + k * 3) 49 (colv x).toList _ hm Try.underlying49 rfl infoCo
          exact Exec.same (v := pcol x) rfl (by unfold execOp; simp only [h1, Sem.run_bind, hr, Result.andThen_ok, Sem.run_pure]; rfl) rfl
        · refine StepOK.plain (kn_stable _) rfl fun ρ w' hρ hw hf => ?_
          have h1 : ρ (.tmp 1) = .slice (some ⟨b2, o2, none⟩) n c2 := (hf 1).2 rfl rfl
          exact Exec.kmove rfl rfl h1
        · refine StepOK.plain (kn_stable _) rfl fun ρ w' hρ hw hf => ?_
          have h1 : ρ (.tmp 5) = .int .i64 (k : Nat) := (hf 5).2 rfl rfl
          exact Exec.kmove rfl rfl h1
        · refine StepOK.plain (kn_stable _) rfl fun ρ w' hρ hw hf => ?_
          have h1 : ρ (.tmp 20) = .slice (some ⟨b2, o2, none⟩) n c2 := (hf 20).1 rfl
          have h2 : ρ (.tmp 21) = .int .i64 (k : Nat) := (hf 21).1 rfl
          exact Exec.kindex rfl rfl Try.underlying30 CHI.out CHS.out h1 h2 HLT.out rfl
        · refine StepOK.plain (kn_stable _) rfl fun ρ w' hρ hw hf => ?_
          have h1 : ρ (.tmp 22) = .pointer (some ⟨b2, o2 + k * 3, none⟩) := (hf 22).1 rfl
          have hm : w'.rangeAt b2 (o2 + k * 3) (colv y).toList := fun j u hu => hw.cell (p := ⟨b2, o2 + k * 3 + j, none⟩) (fun f => f) _ (HB.out j u hu)
          have hr := run_loadAt_mid (P := Try.prog) w' b2 (o2 + k * 3) 49 (colv y).toList _ hm Try.underlying49 rfl infoCo
          exact Exec.same (v := pcol y) rfl (by unfold execOp; simp only [h1, Sem.run_bind, hr, Result.andThen_ok, Sem.run_pure]; rfl) rfl
        · refine StepOK.plain (kn_stable _) rfl fun ρ w' hρ hw hf => ?_
          have h1 : ρ (.tmp 19) = pcol x := (hf 19).1 rfl
          have h2 : ρ (.tmp 23) = pcol y := (hf 23).1 rfl
          refine Exec.same (v := .bool (!decide (x = y))) rfl ?_ rfl
          unfold execOp
          have hg : (eqGuard .neq 49 (.tmp 19) (.tmp 23) (pcol x) (pcol y)).run Try.prog w' = .ok () w' := run_eqGuard_agg w' _ _ _ _ _ _ (by kernel_rfl)
          simp only [h1, h2, Sem.run_bind, hg, Result.andThen_ok, run_coneq, Sem.run_pure]
      case fin =>
        intro ν w8 hfin hx8
        have h24 : ν 24 = .bool (!decide (x = y)) := hfin 8 24 rfl
        simp only [Exit.then, ended, List.foldl_cons, List.foldl_nil, List.setIfInBounds_toArray, List.set_cons_succ, List.set_cons_zero, h24]
        have HX8 := Lib.hid (HEXT.out.trans hx8)
        clear hfin hx8 h24
        by_cases hxy : x = y
        · have HPK : Hid (∀ j (h : j < l1.length) (h' : j < l2.length), j < k + 1 → l1[j] = l2[j]) := Lib.hid fun j h h' hj => by
            by_cases hjk : j < k
            · exact HP.out j h h' hjk
            · have : j = k := by omega
              subst this
              rw [HXX.out.1 h, HXX.out.2 h', hxy]
          rw [decide_eq_true hxy]
          clear hxy
          go_wp2
          exact ⟨⟨k + 1, HLT.out, rfl, HX8.out, HPK⟩, by simp only [intOf]; have := HLT.out; omega⟩
        · have HD : Hid (D = false) := Lib.hid (HT.out.2 fun h => hxy (by
            have h1 : k < l1.length := by have := HN1.out; have := HLT.out; omega
            have h2 : k < l2.length := by have := HN2.out; have := HLT.out; omega
            rw [← HXX.out.1 h1, ← HXX.out.2 h2]
            subst h
            rfl))
          rw [decide_eq_false hxy]
          clear hxy
          go_wp2
          go_ret
          exact ⟨by rw [HD.out]; rfl, HX8.out⟩
    · have hkn : k = n := by omega
      subst hkn
      have HD : Hid (D = true) := Lib.hid (HT.out.1 (List.ext_getElem (by rw [← HN1.out, HN2.out]) fun j h h' => HP.out j h h' (by have := HN1.out; omega)))
      go_wp2
      go_ret
      exact ⟨by rw [HD.out]; rfl, HEXT.out⟩
end Go.Proofs.Ytcejjckhhdgdnaa
namespace Go.Proofs.Ytcejjckhhdgdnaa
open Go.RowKit Go.Lac

theorem run_refeq (a b c d : Nat) (w : World) : (binOp .eql 29 (.agg #[.int .u32 (a : Nat), .int .u32 (b : Nat)]) (.agg #[.int .u32 (c : Nat), .int .u32 (d : Nat)])).run Try.prog w = .ok (.bool (decide (a = c ∧ b = d))) w := by
  have hp : Try.prog.stoodInHeld 29 = false := by kernel_rfl
  rw [show decide (a = c ∧ b = d) = (decide (a = c) && decide (b = d)) by rw [Bool.eq_iff_iff]; simp, ← nat_beq a, ← nat_beq b]
  generalize ((a : Nat) : Int) = a
  generalize ((b : Nat) : Int) = b
  generalize ((c : Nat) : Int) = c
  generalize ((d : Nat) : Int) = d
  rw [run_eql_struct, run_equalIn_agg _ _ _ _ _ (by kernel_rfl) hp]
  simp [go_sem, Program.fieldsOf]
  by_cases h0 : a = c <;> by_cases h1 : b = d <;> simp [h0, h1]
theorem wpList_eql_run {P : Program} {w : World} {ops : Array Oper} {rest : List Oper} {o : Oper} {a : Act} {Q : Exit → Act → World → Prop} (hgd : o.guard = none) (t ty : TypeId) (x y : Operand) (ho : o.op = .binOp .eql t x y ty) {vx vy v : Value} (hx : a.eval x = vx) (hy : a.eval y = vy)
    (hg : (eqGuard .eql t x y vx vy).run P w = .ok () w) (hrun : (binOp .eql t vx vy).run P w = .ok v w) (h : wpList P ops Q rest (a.put o.dst v) w) : wpList P ops Q (o :: rest) a w := by
  refine wpList_plain hgd fun K hK => ?_
  unfold Oper.wp execOp
  simp only [ho, hx, hy, Sem.run_bind, hg, Result.andThen_ok, hrun, Sem.run_pure]
  exact hK _ _ h
set_option maxRecDepth 20000 in
set_option maxHeartbeats 2000000 in
theorem relSame_any (r s : Rl) (cv dv : Value) (w : World) (hc : ColS w cv r.cols) (hd : ColS w dv s.cols) :
    Calls Try.prog 18 #[.agg (relv r cv), .agg (relv s dv)] w fun e w' => e = .returned (.bool (decide (r = s))) ∧ Ext w w' := by
  have h1 := heap_alloc2_old w (.cells (relv r cv) 32) (.cells (relv s dv) 32)
  have h2 := heap_alloc2_new w (.cells (relv r cv) 32) (.cells (relv s dv) 32)
  obtain ⟨W, hW⟩ : ∃ W, W = (w.alloc (.cells (relv r cv) 32)).alloc (.cells (relv s dv) 32) := ⟨_, rfl⟩
  have hx : Ext w W := by rw [hW]; exact ((Ch.refl _ _).alloc _).alloc _
  rw [← hW] at h1 h2
  have a0 : W.cell? ⟨w.heap.size, 0, none⟩ = some (.int .u32 (r.oid : Nat)) := by rw [cell_of_row _ _ _ _ _ _ h1]; rfl
  have a1 : W.cell? ⟨w.heap.size, 1, none⟩ = some (.int .u32 (r.ver : Nat)) := by rw [cell_of_row _ _ _ _ _ _ h1]; rfl
  have a2 : W.cell? ⟨w.heap.size, 2, none⟩ = some (.string ⟨r.name.toArray⟩) := by rw [cell_of_row _ _ _ _ _ _ h1]; rfl
  have a3 : W.cell? ⟨w.heap.size, 3, none⟩ = some (.int .u8 (r.ident : Nat)) := by rw [cell_of_row _ _ _ _ _ _ h1]; rfl
  have a4 : W.cell? ⟨w.heap.size, 4, none⟩ = some cv := by rw [cell_of_row _ _ _ _ _ _ h1]; rfl
  have b0 : W.cell? ⟨w.heap.size + 1, 0, none⟩ = some (.int .u32 (s.oid : Nat)) := by rw [cell_of_row _ _ _ _ _ _ h2]; rfl
  have b1 : W.cell? ⟨w.heap.size + 1, 1, none⟩ = some (.int .u32 (s.ver : Nat)) := by rw [cell_of_row _ _ _ _ _ _ h2]; rfl
  have b2 : W.cell? ⟨w.heap.size + 1, 2, none⟩ = some (.string ⟨s.name.toArray⟩) := by rw [cell_of_row _ _ _ _ _ _ h2]; rfl
  have b3 : W.cell? ⟨w.heap.size + 1, 3, none⟩ = some (.int .u8 (s.ident : Nat)) := by rw [cell_of_row _ _ _ _ _ _ h2]; rfl
  have b4 : W.cell? ⟨w.heap.size + 1, 4, none⟩ = some dv := by rw [cell_of_row _ _ _ _ _ _ h2]; rfl
  have HX := Lib.hid hx; have HW := Lib.hid hW
  have HEQ := Lib.hid (equalCo_any cv dv r.cols s.cols W (ColS.ext hc hx) (ColS.ext hd hx))
  have hq := toList_beq r.name s.name
  have HRE := Lib.hid (fun w => run_refeq r.oid r.ver s.oid s.ver w)
  have HDD : Hid (decide (r = s) = (decide (r.oid = s.oid ∧ r.ver = s.ver) && (decide (r.name = s.name) && (decide (r.ident = s.ident) && decide (r.cols = s.cols))))) := Lib.hid (by
    obtain ⟨o, v, n, i, c⟩ := r
    obtain ⟨o', v', n', i', c'⟩ := s
    rw [Bool.eq_iff_iff]; simp [and_assoc])
  generalize decide (r = s) = D at *
  generalize decide (r.oid = s.oid ∧ r.ver = s.ver) = D1 at *
  generalize decide (r.name = s.name) = D2 at *
  generalize decide (r.cols = s.cols) = D4 at *
  have hq3 := nat_beq r.ident s.ident
  generalize decide (r.ident = s.ident) = D3 at *
  obtain ⟨p1, q1, rfl, _⟩ := id hc
  obtain ⟨p2, q2, rfl, _⟩ := id hd
  generalize (⟨r.name.toArray⟩ : ByteArray) = A1 at *
  generalize (⟨s.name.toArray⟩ : ByteArray) = A2 at *
  generalize r.cols.length = n1 at *
  generalize s.cols.length = n2 at *
  generalize relv r (.slice p1 n1 q1) = V1 at *
  generalize relv s (.slice p2 n2 q2) = V2 at *
  clear h1 h2 hx hc hd
  rw [hW] at a0 a1 a2 a3 a4 b0 b1 b2 b3 b4
  clear hW
  cases D1 with
  | false =>
    have HF : Hid (D = false) := Lib.hid HDD.out
    clear HDD HEQ
    go_enter Try.func18, Try.ntmps18
    go_wp2_with (refine wpList_eql_run rfl _ _ _ _ rfl rfl rfl (run_eqGuard_agg _ _ _ _ _ _ _ (by kernel_rfl)) (HRE.out _) ?_)
    go_ret
    rw [← HW.out]
    exact ⟨by rw [HF.out]; rfl, HX.out⟩
  | true =>
    cases D2 with
    | false =>
      have HF : Hid (D = false) := Lib.hid HDD.out
      clear HDD HEQ
      go_enter Try.func18, Try.ntmps18
      go_wp2_with (refine wpList_eql_run rfl _ _ _ _ rfl rfl rfl (run_eqGuard_agg _ _ _ _ _ _ _ (by kernel_rfl)) (HRE.out _) ?_)
      go_ret
      rw [← HW.out]
      exact ⟨by rw [HF.out]; rfl, HX.out⟩
    | true =>
      cases D3 with
      | false =>
        have HF : Hid (D = false) := Lib.hid HDD.out
        clear HDD HEQ
        go_enter Try.func18, Try.ntmps18
        go_wp2_with (refine wpList_eql_run rfl _ _ _ _ rfl rfl rfl (run_eqGuard_agg _ _ _ _ _ _ _ (by kernel_rfl)) (HRE.out _) ?_)
        go_ret
        rw [← HW.out]
        exact ⟨by rw [HF.out]; rfl, HX.out⟩
      | true =>
        have HF : Hid (D = D4) := Lib.hid (by rw [HDD.out]; simp)
        clear HDD
        go_enter Try.func18, Try.ntmps18
        go_wp2_with (first
          | (refine wpList_eql_run rfl _ _ _ _ rfl rfl rfl (run_eqGuard_agg _ _ _ _ _ _ _ (by kernel_rfl)) (HRE.out _) ?_)
          | (go_at_call 53; rw [← HW.out]; refine HEQ.out.mono ?_))
        intro e w2 hm
        obtain ⟨rfl, hx⟩ := hm
        have HX2 := Lib.hid (HX.out.trans hx)
        clear hx
        go_wp2
        go_ret
        exact ⟨by rw [HF.out]; rfl, HX2.out⟩
end Go.Proofs.Ytcejjckhhdgdnaa
namespace Go.Proofs.Ytcejjckhhdgdnaa
open Go.RowKit Go.Lac

theorem colC_append (a b : List Col) : colC (a ++ b) = colC a ++ colC b := by simp [colC]
theorem ColS.take {w : World} {ao : Option Addr} {n cap : Nat} {l : List Col} (h : ColS w (.slice ao n cap) l) {k : Nat} (hk : k ≤ l.length) : ColS w (.slice ao k cap) (l.take k) := by
  obtain ⟨ao', cap', e0, g1, g2, g3, g5⟩ := h
  cases e0
  have hl : (l.take k).length = k := by rw [List.length_take]; omega
  refine ⟨ao, cap, by rw [hl], by omega, g2, g3, fun x hx j u hu => g5 x hx j u ?_⟩
  rw [← List.take_append_drop k l, colC_append]
  rw [List.getElem?_append_left (List.getElem?_eq_some_iff.1 hu).1]
  exact hu
theorem run_takeCo {P : Program} (w : World) {t e : TypeId} {inf : TypeInfo} (h : P.underlying t = some (.slice e)) (hinf : P.info? e = some inf) (ao : Option Addr) (n cap k : Nat) (hk : k ≤ n) (hn : n ≤ cap) :
    (Instr.sliceAt t (.slice ao n cap) none (some (.int .i64 (k : Nat))) none).run P w = .ok (.slice ao k cap) w := by
  have he := elem_eq h
  have h' : P.underlying t = some (.slice (P.elem t)) := by rw [he]; exact h
  have hs : sliced ao 0 k cap inf.size = .slice ao k cap := by
    unfold sliced
    cases ao with
    | none => simp
    | some a => obtain ⟨b, off, s⟩ := a; simp [Addr.add]
  rw [run_sliceAt_slice (h := h'), run_slice_h (ht := h') (h0 := by omega) (h2 := by omega), he]
  simp [sizeOf, typeInfo, hinf, hs]
theorem fieldRl_0 (w : World) (b : Nat) : (Instr.fieldAt 32 (.pointer (some ⟨b, 0, none⟩)) 0).run Try.prog w = .ok (.pointer (some ⟨b, 0, none⟩)) w := by kernel_rfl
theorem fieldRl_1 (w : World) (b : Nat) : (Instr.fieldAt 32 (.pointer (some ⟨b, 0, none⟩)) 1).run Try.prog w = .ok (.pointer (some ⟨b, 2, none⟩)) w := by kernel_rfl
theorem fieldRl_2 (w : World) (b : Nat) : (Instr.fieldAt 32 (.pointer (some ⟨b, 0, none⟩)) 2).run Try.prog w = .ok (.pointer (some ⟨b, 3, none⟩)) w := by kernel_rfl
theorem fieldRl_3 (w : World) (b : Nat) : (Instr.fieldAt 32 (.pointer (some ⟨b, 0, none⟩)) 3).run Try.prog w = .ok (.pointer (some ⟨b, 4, none⟩)) w := by kernel_rfl
theorem colsErr_at (l : List Col) (k : Nat) (hk : k < l.length) (h : colsErr (l.take k) (l.drop k) = colsErr [] l) :
    (colErr (l.take k) l[k] ≠ 0 → colsErr [] l = colErr (l.take k) l[k]) ∧ (colErr (l.take k) l[k] = 0 → colsErr (l.take (k + 1)) (l.drop (k + 1)) = colsErr [] l) := by
  rw [List.drop_eq_getElem_cons hk, colsErr] at h
  refine ⟨fun h1 => by rw [if_pos h1] at h; exact h.symm, fun h1 => ?_⟩
  rw [if_neg (by simpa using h1)] at h
  rw [List.take_succ_eq_append_getElem hk]
  exact h
def rgtT (g p : Nat) (ao : Option Addr) (m cap k E : Nat) (x : Col) : Tmp → Kn
  | 45 => .is (pcol x)
  | 46 => .is (.pointer (some ⟨g, 4, none⟩))
  | 47 => .is (.slice ao m cap)
  | 48 => .is (.int .i64 (k : Nat))
  | 49 => .is (.slice ao k cap)
  | 50 => .is (.int .i64 (E : Nat))
  | 5 => .is (.int .i64 (E : Nat))
  | _ => .any
/-- All names are of a length that Go has. -/
def Rl.fits (r : Rl) : Prop := r.name.length ≤ 9223372036854775807 ∧ ∀ c ∈ r.cols, c.name.length ≤ 9223372036854775807
set_option maxRecDepth 20000 in
set_option maxHeartbeats 4000000 in
theorem relRight_any (r : Rl) (cv : Value) (w : World) (hb : ColS w cv r.cols) (hf : r.fits) :
    Calls Try.prog 17 #[.agg (relv r cv)] w fun e w' => e = .returned (.int .i64 (rlErr r : Nat)) ∧ Ext w w' := by
  have h1 := heap_alloc_new w (.cells (relv r cv) 32)
  obtain ⟨W, hW⟩ : ∃ W, W = w.alloc (.cells (relv r cv) 32) := ⟨_, rfl⟩
  have hx : Ext w W := by rw [hW]; exact (Ch.refl _ _).alloc _
  rw [← hW] at h1
  have HB := Lib.hid (ColS.ext hb hx)
  obtain ⟨ao, cap, rfl, hlc, hcm, _⟩ := id hb
  have c0 : W.cell? ⟨w.heap.size, 0, none⟩ = some (.int .u32 (r.oid : Nat)) := by rw [cell_of_row _ _ _ _ _ _ h1]; rfl
  have c1 : W.cell? ⟨w.heap.size, 1, none⟩ = some (.int .u32 (r.ver : Nat)) := by rw [cell_of_row _ _ _ _ _ _ h1]; rfl
  have c2 : W.cell? ⟨w.heap.size, 2, none⟩ = some (.string ⟨r.name.toArray⟩) := by rw [cell_of_row _ _ _ _ _ _ h1]; rfl
  have c3 : W.cell? ⟨w.heap.size, 3, none⟩ = some (.int .u8 (r.ident : Nat)) := by rw [cell_of_row _ _ _ _ _ _ h1]; rfl
  have c4 : W.cell? ⟨w.heap.size, 4, none⟩ = some (.slice ao r.cols.length cap) := by rw [cell_of_row _ _ _ _ _ _ h1]; rfl
  have HG := Lib.hid h1; have HX := Lib.hid hx; have HW := Lib.hid hW
  have HIN := Lib.hid (isName_any r.name W hf.1)
  have HF := Lib.hid hf.2
  have HKEY := Lib.hid (fun w' (h : Ext W w') (hl : r.cols.length ≤ 16) => hasKey_any r (.slice ao r.cols.length cap) w' (ColS.ext HB.out h) (by omega))
  obtain ⟨E, hE⟩ : ∃ E, E = rlErr r := ⟨_, rfl⟩
  have HE1 : Hid (r.oid = 0 ∨ r.ver = 0 → E = 4) := Lib.hid fun h => by rw [hE]; unfold rlErr; rw [if_pos h]
  have HE2 : Hid (¬ (r.oid = 0 ∨ r.ver = 0) → ¬ NameOk r.name → E = 3) := Lib.hid fun h h' => by rw [hE]; unfold rlErr; rw [if_neg h, if_pos h']
  have HE3 : Hid (¬ (r.oid = 0 ∨ r.ver = 0) → NameOk r.name → 2 < r.ident → E = 7) := Lib.hid fun h h' h'' => by rw [hE]; unfold rlErr; rw [if_neg h, if_neg (by simpa using h'), if_pos h'']
  have HE4 : Hid (¬ (r.oid = 0 ∨ r.ver = 0) → NameOk r.name → ¬ 2 < r.ident → (r.cols.length = 0 ∨ 16 < r.cols.length) → E = 17) := Lib.hid fun h h' h'' h3 => by rw [hE]; unfold rlErr; rw [if_neg h, if_neg (by simpa using h'), if_neg h'', if_pos h3]
  have HE5 : Hid (¬ (r.oid = 0 ∨ r.ver = 0) → NameOk r.name → ¬ 2 < r.ident → ¬ (r.cols.length = 0 ∨ 16 < r.cols.length) → (colsErr [] r.cols ≠ 0 → E = colsErr [] r.cols) ∧ (colsErr [] r.cols = 0 → (r.ident = 1 ∧ ¬ (∃ c ∈ r.cols, c.key = true) → E = 13) ∧ (¬ (r.ident = 1 ∧ ¬ (∃ c ∈ r.cols, c.key = true)) → E = 0))) := Lib.hid fun h h' h'' h3 => by
    rw [hE]; unfold rlErr; rw [if_neg h, if_neg (by simpa using h'), if_neg h'', if_neg h3]
    refine ⟨fun h4 => by rw [if_pos h4], fun h4 => ?_⟩
    rw [if_neg (by simpa using h4)]
    exact ⟨fun h5 => by rw [if_pos h5], fun h5 => by rw [if_neg h5]⟩
  rw [← hE]
  have hcl : r.cols.length ≤ 9223372036854775807 := by unfold maxLen at hcm; omega
  rw [hW] at c0 c1 c2 c3 c4
  clear h1 hx hW hb hE hf hcm
  generalize hrv : relv r (.slice ao r.cols.length cap) = rv at *
  have HRV := Lib.hid hrv.symm
  unfold relv strV at HRV
  clear hrv
  by_cases h0 : r.oid = 0
  · have HEE := Lib.hid (HE1.out (.inl h0))
    clear HE1 HE2 HE3 HE4 HE5
    rw [h0, Int.natCast_zero] at c0
    generalize r.cols.length = n at *
    generalize r.ver = n2 at *
    go_enter Try.func17, Try.ntmps17
    go_wp2
    go_ret
    rw [← HW.out]
    exact ⟨by rw [HEE.out]; rfl, HX.out⟩
  by_cases h0' : r.ver = 0
  · have HEE := Lib.hid (HE1.out (.inr h0'))
    have e0 : (((r.oid : Nat) : Int) == 0) = false := by simp; omega
    clear HE1 HE2 HE3 HE4 HE5
    rw [h0', Int.natCast_zero] at c1
    generalize r.cols.length = n at *
    generalize r.oid = n2 at *
    clear h0
    go_enter Try.func17, Try.ntmps17
    go_wp2
    go_ret
    rw [← HW.out]
    exact ⟨by rw [HEE.out]; rfl, HX.out⟩
  have e0 : (((r.oid : Nat) : Int) == 0) = false := by simp; omega
  have e1 : (((r.ver : Nat) : Int) == 0) = false := by simp; omega
  have hnz : ¬ (r.oid = 0 ∨ r.ver = 0) := fun h => h.elim h0 h0'
  clear HE1 h0 h0'
  by_cases hnm : NameOk r.name
  case neg =>
    have HEE := Lib.hid (HE2.out hnz hnm)
    rw [decide_eq_false hnm] at HIN
    unfold strV at HIN
    clear HE2 HE3 HE4 HE5 hnz hnm HKEY
    generalize r.cols.length = n at *
    generalize (⟨r.name.toArray⟩ : ByteArray) = A1 at *
    generalize r.oid = n1 at *
    generalize r.ver = n2 at *
    go_enter Try.func17, Try.ntmps17
    go_wp2_with (go_at_call 50; rw [← HW.out]; refine HIN.out.mono ?_; rintro e w' ⟨rfl, rfl⟩)
    go_ret
    exact ⟨by rw [HEE.out]; rfl, HX.out⟩
  rw [decide_eq_true hnm] at HIN
  unfold strV at HIN
  have HE3' := Lib.hid (HE3.out hnz hnm); have HE4' := Lib.hid (HE4.out hnz hnm); have HE5' := Lib.hid (HE5.out hnz hnm)
  clear HE2 HE3 HE4 HE5 hnz hnm
  generalize (⟨r.name.toArray⟩ : ByteArray) = A1 at *
  generalize r.oid = n1 at *
  generalize r.ver = n2 at *
  by_cases hid : 2 < r.ident
  · have HEE := Lib.hid (HE3'.out hid)
    clear HE3' HE4' HE5' HKEY
    generalize r.cols.length = n at *
    generalize r.ident = n3 at *
    go_enter Try.func17, Try.ntmps17
    go_wp2_with (go_at_call 50; rw [← HW.out]; refine HIN.out.mono ?_; rintro e w' ⟨rfl, rfl⟩; rw [← HW.out] at c0 c1 c2 c3 c4)
    go_ret
    exact ⟨by rw [HEE.out]; rfl, HX.out⟩
  have hid' : r.ident ≤ 2 := by omega
  have HE4 := Lib.hid (HE4'.out hid); have HE5 := Lib.hid (HE5'.out hid)
  clear HE3' HE4' HE5' hid
  by_cases hlen : r.cols.length = 0 ∨ 16 < r.cols.length
  · have HEE := Lib.hid (HE4.out hlen)
    clear HE4 HE5 HKEY
    generalize r.ident = n3 at *
    rcases hlen with hlen | hlen
    · rw [hlen] at c4
      generalize r.cols.length = n at *
      clear hlc hcl hlen
      go_enter Try.func17, Try.ntmps17
      go_wp2_with (go_at_call 50; rw [← HW.out]; refine HIN.out.mono ?_; rintro e w' ⟨rfl, rfl⟩; rw [← HW.out] at c0 c1 c2 c3 c4)
      go_ret
      exact ⟨by rw [HEE.out]; rfl, HX.out⟩
    · have e3 : (((r.cols.length : Nat) : Int) == 0) = false := beq_eq_false_iff_ne.2 (by omega)
      generalize r.cols.length = n at *
      clear hlc
      go_enter Try.func17, Try.ntmps17
      go_wp2_with (go_at_call 50; rw [← HW.out]; refine HIN.out.mono ?_; rintro e w' ⟨rfl, rfl⟩; rw [← HW.out] at c0 c1 c2 c3 c4)
      go_ret
      exact ⟨by rw [HEE.out]; rfl, HX.out⟩
  have e3 : (((r.cols.length : Nat) : Int) == 0) = false := beq_eq_false_iff_ne.2 (by omega)
  have HEE := Lib.hid (HE5.out hlen)
  have hl16 : r.cols.length ≤ 16 := by omega
  have HK16 := Lib.hid (fun w' (h : Ext W w') => HKEY.out w' h hl16)
  clear HE4 HE5 hlen hcl HKEY
  obtain ⟨ci, chi, _, chs, _⟩ := info_parts infoCoZ
  have CHI := Lib.hid chi; have CHS := Lib.hid chs
  have HHK : Hid ((∃ c ∈ r.cols, c.key = true) → decide (∃ c ∈ r.cols, c.key = true) = true) := Lib.hid decide_eq_true
  have HHN : Hid (¬ (∃ c ∈ r.cols, c.key = true) → decide (∃ c ∈ r.cols, c.key = true) = false) := Lib.hid decide_eq_false
  generalize decide (∃ c ∈ r.cols, c.key = true) = DK at *
  have HLC := Lib.hid hlc
  generalize hm : r.cols.length = m at *
  have HM := Lib.hid hm
  clear hm hlc chi chs
  generalize hcs : r.cols = cs at *
  clear hcs
  generalize r.ident = n3 at *
  have hrv := HRV.out
  subst hrv
  go_enter Try.func17, Try.ntmps17
  go_wp2_with (go_at_call 50; rw [← HW.out]; refine HIN.out.mono ?_; rintro e w' ⟨rfl, rfl⟩; rw [← HW.out] at c0 c1 c2 c3 c4)
  clear HIN
  go_loopw [40] (fun ix wr => ∃ k : Nat, k ≤ m ∧ ix = .int .i64 k ∧ Hid (Ext W wr) ∧ Hid (colsErr (cs.take k) (cs.drop k) = colsErr [] cs)) (fun ix _ => m - (intOf ix).toNat)
  case atStart => exact ⟨0, Nat.zero_le _, rfl, Lib.hid (Ch.refl _ _), Lib.hid (by simp)⟩
  case round =>
    obtain ⟨k, hk, rfl, HX1, HP⟩ := hrel
    by_cases hlt : k < m
    · have hkl : k < cs.length := by have := HM.out; omega
      have hcs := ColS.ext HB.out HX1.out
      obtain ⟨b, o, rfl, hra⟩ := colS_at hcs hkl
      have hidx := run_indexSl wr Try.underlying30 CHI.out CHS.out b o m cap k hlt
      have q0 : wr.cell? ⟨b, o + k * 3, none⟩ = some (.string ⟨cs[k].name.toArray⟩) := by have := hra 0 _ rfl; simpa [strV] using this
      have q1 : wr.cell? ⟨b, o + k * 3 + 1, none⟩ = some (.int .u8 (cs[k].ty : Nat)) := hra 1 _ rfl
      have q2 : wr.cell? ⟨b, o + k * 3 + 2, none⟩ = some (.bool cs[k].key) := hra 2 _ rfl
      have HQ := Lib.hid (colsErr_at cs k hkl HP.out)
      have hxl := HF.out cs[k] (List.getElem_mem hkl)
      obtain ⟨x, hx⟩ : ∃ x, x = cs[k] := ⟨_, rfl⟩
      rw [← hx] at q0 q1 q2 HQ hxl
      have HXL := Lib.hid hxl
      have HCS := Lib.hid hcs; have HLT := Lib.hid hlt
      clear hra hcs hx hxl
      go_wp2
      have hrow := heap_alloc_new wr (.cells (colv x) 49)
      have hxa : Ext W (wr.alloc (.cells (colv x) 49)) := HX1.out.alloc _
      have HROW := Lib.hid hrow; have HXA := Lib.hid hxa
      have HC3 := Lib.hid (ColS.take (k := k) (ColS.ext HCS.out ((Ch.refl _ _).alloc (.cells (colv x) 49))) (by omega))
      have HCR := Lib.hid (fun w' (h : Ext (wr.alloc (.cells (colv x) 49)) w') => colRight_any x (.slice (some ⟨b, o, none⟩) k cap) (cs.take k) w' (ColS.ext HC3.out h) HXL.out)
      obtain ⟨E2, hE2⟩ : ∃ E2, E2 = colErr (cs.take k) x := ⟨_, rfl⟩
      rw [← hE2] at HCR HQ
      have HGW := Lib.hid (heap_of_ext hxa HG.out)
      clear hrow hxa hE2 q0 q1 q2 hidx
      refine wp_region_ext (w0 := wr.alloc (.cells (colv x) 49)) (rgtT w.heap.size wr.heap.size (some ⟨b, o, none⟩) m cap k E2 x) mixedV (by rfl) (by rfl) ?all ?fin
      case all =>
        refine ⟨?_, ?_, ?_, ?_, ?_, ?_, ?_, trivial⟩
        · refine StepOK.plain (kn_stable _) rfl fun ρ w' hρ hw hf => ?_
          have h : ρ (.tmp 4) = .pointer (some ⟨wr.heap.size, 0, none⟩) := (hf 4).2 rfl rfl
          exact Exec.kloadrow rfl rfl h (heap_of_ext hw HROW.out) Try.underlying49 rfl infoCo rfl
        · refine StepOK.plain (kn_stable _) rfl fun ρ w' hρ hw hf => ?_
          have h : ρ (.tmp 1) = .pointer (some ⟨w.heap.size, 0, none⟩) := (hf 1).2 rfl rfl
          exact Exec.kfield rfl rfl h (fieldRl_3 w' _) rfl
        · refine StepOK.plain (kn_stable _) rfl fun ρ w' hρ hw hf => ?_
          have h : ρ (.tmp 46) = .pointer (some ⟨w.heap.size, 4, none⟩) := (hf 46).1 rfl
          have hc : w'.cell? ⟨w.heap.size, 4, none⟩ = some (.slice (some ⟨b, o, none⟩) m cap) := (HXA.out.trans hw).cell (p := ⟨w.heap.size, 4, none⟩) (fun f => f) _ c4
          exact Exec.same (v := .slice (some ⟨b, o, none⟩) m cap) rfl (by simp [go_sem, hρ.const, h, hc]) rfl
        · refine StepOK.plain (kn_stable _) rfl fun ρ w' hρ hw hf => ?_
          have h : ρ (.tmp 3) = .int .i64 (k : Nat) := (hf 3).2 rfl rfl
          exact Exec.kmove rfl rfl h
        · refine StepOK.plain (kn_stable _) rfl fun ρ w' hρ hw hf => ?_
          have h1 : ρ (.tmp 47) = .slice (some ⟨b, o, none⟩) m cap := (hf 47).1 rfl
          have h2 : ρ (.tmp 48) = .int .i64 (k : Nat) := (hf 48).1 rfl
          have hr := run_takeCo w' (t := 30) Try.underlying30 CHI.out (some ⟨b, o, none⟩) m cap k (by have := HLT.out; omega) HLC.out
          exact Exec.same (v := .slice (some ⟨b, o, none⟩) k cap) rfl (by unfold execOp; simp only [h1, h2, Option.map_some, Option.map_none, Sem.run_bind, hr, Result.andThen_ok, Sem.run_pure]) rfl
        · refine StepOK.plain (kn_stable _) rfl fun ρ w' hρ hw hf => ?_
          have h1 : ρ (.tmp 45) = pcol x := (hf 45).1 rfl
          have h2 : ρ (.tmp 49) = .slice (some ⟨b, o, none⟩) k cap := (hf 49).1 rfl
          exact Exec.kcall #[pcol x, .slice (some ⟨b, o, none⟩) k cap] hρ rfl rfl (by simp [h1, h2]) Try.func51 (by rfl) (by rfl) ((HCR.out w' hw).mono (by rintro e w'' ⟨rfl, hx⟩; exact ⟨_, rfl, rfl, hx⟩))
        · refine StepOK.plain (kn_stable _) rfl fun ρ w' hρ hw hf => ?_
          have h1 : ρ (.tmp 50) = .int .i64 (E2 : Nat) := (hf 50).1 rfl
          exact Exec.kassign rfl rfl h1
      case fin =>
        intro ν w8 hfin hx8
        have h5 : ν 5 = .int .i64 (E2 : Nat) := hfin 6 5 rfl
        simp only [Exit.then, ended, List.foldl_cons, List.foldl_nil, List.setIfInBounds_toArray, List.set_cons_succ, List.set_cons_zero, h5]
        have HX8 := Lib.hid (HXA.out.trans hx8)
        clear hfin hx8 h5
        by_cases hz : E2 = 0
        · have HPK := Lib.hid (HQ.out.2 hz)
          rw [hz, Int.natCast_zero]
          clear hz
          go_wp2
          exact ⟨⟨k + 1, HLT.out, rfl, HX8, HPK⟩, by simp only [intOf]; have := HLT.out; omega⟩
        · have en : (((E2 : Nat) : Int) != 0) = true := by simp; omega
          have HEF : Hid (E = E2) := Lib.hid (by have h := HQ.out.1 hz; rw [← h]; exact HEE.out.1 (by rw [h]; exact hz))
          clear hz
          go_wp2
          go_ret
          exact ⟨by rw [HEF.out]; rfl, HX.out.trans HX8.out⟩
    · obtain rfl : k = m := by omega
      have HP0 : Hid (colsErr [] cs = 0) := Lib.hid (by have := HP.out; rw [← HM.out, List.drop_length, colsErr] at this; exact this.symm)
      have HEE2 := Lib.hid (HEE.out.2 HP0.out)
      have c0 := HX1.out.cell (p := ⟨w.heap.size, 0, none⟩) (fun f => f) _ c0
      have c1 := HX1.out.cell (p := ⟨w.heap.size, 1, none⟩) (fun f => f) _ c1
      have c2 := HX1.out.cell (p := ⟨w.heap.size, 2, none⟩) (fun f => f) _ c2
      have c3 := HX1.out.cell (p := ⟨w.heap.size, 3, none⟩) (fun f => f) _ c3
      have c4 := HX1.out.cell (p := ⟨w.heap.size, 4, none⟩) (fun f => f) _ c4
      have HKW := Lib.hid (HK16.out wr HX1.out)
      by_cases hi1 : n3 = 1
      · have e4 : (((n3 : Nat) : Int) == 1) = true := by rw [hi1]; rfl
        by_cases hk1 : ∃ c ∈ cs, c.key = true
        · have HD := Lib.hid (HHK.out hk1)
          have HF0 := Lib.hid (HEE2.out.2 fun h => h.2 hk1)
          clear hi1 hk1
          go_wp2_with (go_at_call 52; refine HKW.out.mono ?_; rintro e w' ⟨rfl, hx⟩; rw [HD.out]; have HX9 := Lib.hid (HX1.out.trans hx); clear hx)
          go_ret
          exact ⟨by rw [HF0.out]; rfl, HX.out.trans HX9.out⟩
        · have HD := Lib.hid (HHN.out hk1)
          have HF0 := Lib.hid (HEE2.out.1 ⟨hi1, hk1⟩)
          clear hi1 hk1
          go_wp2_with (go_at_call 52; refine HKW.out.mono ?_; rintro e w' ⟨rfl, hx⟩; rw [HD.out]; have HX9 := Lib.hid (HX1.out.trans hx); clear hx)
          go_ret
          exact ⟨by rw [HF0.out]; rfl, HX.out.trans HX9.out⟩
      · have e4 : (((n3 : Nat) : Int) == 1) = false := by simp; omega
        have HF0 := Lib.hid (HEE2.out.2 fun h => hi1 h.1)
        clear hi1
        go_wp2
        go_ret
        exact ⟨by rw [HF0.out]; rfl, HX.out.trans HX1.out⟩
end Go.Proofs.Ytcejjckhhdgdnaa
namespace Go.Proofs.Ytcejjckhhdgdnaa
open Go.RowKit Go.Lac

theorem row_cells {w : World} {g : Nat} {r : Rl} {cv : Value} {T : TypeId} (h : w.heap[g]? = some (.cells (relv r cv) T (0, 0))) :
    w.cell? ⟨g, 0, none⟩ = some (.int .u32 (r.oid : Nat)) ∧ w.cell? ⟨g, 1, none⟩ = some (.int .u32 (r.ver : Nat)) ∧ w.cell? ⟨g, 2, none⟩ = some (.string ⟨r.name.toArray⟩) ∧
    w.cell? ⟨g, 3, none⟩ = some (.int .u8 (r.ident : Nat)) ∧ w.cell? ⟨g, 4, none⟩ = some cv :=
  ⟨by rw [cell_of_row _ _ _ _ _ _ h]; rfl, by rw [cell_of_row _ _ _ _ _ _ h]; rfl, by rw [cell_of_row _ _ _ _ _ _ h]; rfl, by rw [cell_of_row _ _ _ _ _ _ h]; rfl, by rw [cell_of_row _ _ _ _ _ _ h]; rfl⟩
theorem txt_len {s : List UInt8} (h : s.length ≤ 31) : (txt s).length ≤ 41 := by
  have := sev_length_10 s.length (by omega)
  unfold txt
  rw [List.length_append]
  omega
theorem colB_len {c : Col} (h : NameOk c.name) : (colB c).length ≤ 42 := by
  have := txt_len h.2.1
  unfold colB
  rw [List.length_append]
  simp only [List.length_cons, List.length_nil]
  omega
theorem colsB_len : ∀ (l : List Col), (∀ c ∈ l, NameOk c.name) → (l.flatMap colB).length ≤ l.length * 42
  | [], _ => by simp
  | c :: l, h => by
    have h1 := colB_len (h c List.mem_cons_self)
    have h2 := colsB_len l fun x hx => h x (List.mem_cons_of_mem _ hx)
    rw [List.flatMap_cons, List.length_append, List.length_cons]
    omega
theorem ownsRow_down {w : World} {b b' : Nat} {e : TypeId} {size : Nat} {v : Value} {n : Nat} {xs : List Value} (h : w.ownsRow b e size v n xs) (hb : b' ≤ b) : w.ownsRow b' e size v n xs := by
  refine ⟨h.1, ?_⟩
  rcases h.2 with ⟨h1, h2⟩ | ⟨g, cap, cur, h1, h2, h3⟩
  · exact .inl ⟨h1, h2⟩
  · exact .inr ⟨g, cap, cur, h1, by omega, h3⟩
def EncPost (E : Nat) (bs : List UInt8) (w : World) (e : Ending) (w' : World) : Prop :=
  ∃ s, e = .returned (.tuple #[s, .int .i64 (E : Nat)]) ∧ Ext w w' ∧ Rd w' s (if E = 0 then bs else [])
def encT (g base n : Nat) (bs tx : List UInt8) (x : Col) (A : ByteArray) : Tmp → Kn
  | 46 => .rd bs
  | 47 => .is (.pointer (some ⟨g, 0, none⟩))
  | 48 => .is (.string A)
  | 49 => Kn.own base 5 n (cellsB tx)
  | 50 => .is (pcol x)
  | 51 => .is (.int .u8 (colForm x : Nat))
  | 52 => .rd [UInt8.ofNat (colForm x)]
  | _ => .any
def encT' (base n : Nat) (tx : List UInt8) (x : Col) : Tmp → Kn
  | 53 => Kn.own base 5 (n + 1) (cellsB (tx ++ [UInt8.ofNat (colForm x)]))
  | 5 => Kn.own base 5 (n + 1) (cellsB (tx ++ [UInt8.ofNat (colForm x)]))
  | _ => .any
theorem fieldCo_0 (w : World) (b : Nat) : (Instr.fieldAt 49 (.pointer (some ⟨b, 0, none⟩)) 0).run Try.prog w = .ok (.pointer (some ⟨b, 0, none⟩)) w := by kernel_rfl

set_option maxRecDepth 20000 in
set_option maxHeartbeats 4000000 in
theorem relEnc_any (r : Rl) (cv : Value) (w : World) (hb : ColS w cv r.cols) (hf : r.fits) (hok : r.ok) :
    Calls Try.prog 14 #[.agg (relv r cv)] w (EncPost (rlErr r) (rlBytes r) w) := by
  have h1 := heap_alloc_new w (.cells (relv r cv) 32)
  obtain ⟨W, hW⟩ : ∃ W, W = w.alloc (.cells (relv r cv) 32) := ⟨_, rfl⟩
  have hx : Ext w W := by rw [hW]; exact (Ch.refl _ _).alloc _
  rw [← hW] at h1
  have HG := Lib.hid h1; have HX := Lib.hid hx; have HW := Lib.hid hW
  have HB := Lib.hid (ColS.ext hb hx)
  have HR := Lib.hid (relRight_any r cv W HB.out hf)
  obtain ⟨c0, c1, c2, c3, c4⟩ := row_cells h1
  have HZ := Lib.hid (rlErr_zero (r := r))
  have HOK := Lib.hid hok
  have HEE := Lib.hid (Nat.eq_zero_or_pos (rlErr r))
  generalize hE : rlErr r = E at *
  clear hE h1 hx hb hf hok
  obtain ⟨ao, cap, rfl, hlc, _⟩ := HB.out
  rw [hW] at c0 c1 c2 c3 c4
  clear hW
  unfold relv strV at *
  generalize hA : (⟨r.name.toArray⟩ : ByteArray) = A1 at *
  have HA := Lib.hid hA; clear hA
  generalize hm : r.cols.length = m at *
  have HM := Lib.hid hm; clear hm
  have HLC := Lib.hid hlc; clear hlc
  go_enter Try.func14, Try.ntmps14
  go_wp2_with fail
  rw [← HW.out]
  refine HR.out.mono ?_
  rintro e w1 ⟨rfl, hx⟩
  have HX1 := Lib.hid hx
  clear c0 c1 c2 c3 c4 hx
  rcases HEE.out with hE | hE
  case inr =>
    have e1 : (((E : Nat) : Int) != 0) = true := by simp; omega
    have hne : ¬ E = 0 := by omega
    have HN := Lib.hid hne
    clear hE hne
    go_wp2
    refine bodyPost_ret (results_tmp2 rfl _ _ _) rfl ?_
    exact ⟨_, rfl, HX.out.trans HX1.out, by rw [if_neg HN.out]; exact rd_nil _⟩
  have HE0 := Lib.hid hE
  clear HEE
  have HZZ := Lib.hid (HZ.out hE)
  rw [hE, Int.natCast_zero]
  clear hE HZ
  obtain ⟨o1, o2, o3, o4⟩ := HOK.out
  have HID := Lib.hid o3; have HO4 := Lib.hid o4
  have hv1 : IntKind.u64.wrap (r.oid : Int) = (r.oid : Int) := wrap_u64_of (by omega) (by omega)
  have hv2 : IntKind.u64.wrap (r.ver : Int) = (r.ver : Int) := wrap_u64_of (by omega) (by omega)
  have HP1 := Lib.hid (fun w => putUint_any (.slice none 0 0) [] r.oid w (rd_nil w) (by simp) (by omega))
  have HP2 := Lib.hid (fun v w h => putUint_any v (sev r.oid) r.ver w h (by have := sev_length_10 r.oid (by omega); omega) (by omega))
  have hs1 := sev_length_10 r.oid (by omega)
  have hs2 := sev_length_10 r.ver (by omega)
  have hnl := HZZ.out.2.2.1.2.1
  have htl := txt_len hnl
  obtain ⟨b1, hb1⟩ : ∃ b1, b1 = sev r.oid ++ sev r.ver := ⟨_, rfl⟩
  have hb1l : b1.length ≤ 20 := by rw [hb1, List.length_append]; omega
  have HP3 := Lib.hid (fun v w h => putText_any v b1 r.name w h (by omega) (by omega))
  obtain ⟨b2, hb2⟩ : ∃ b2, b2 = b1 ++ txt r.name := ⟨_, rfl⟩
  have hb2l : b2.length ≤ 61 := by rw [hb2, List.length_append]; omega
  have HB2L := Lib.hid hb2l
  have HB1 := Lib.hid hb1; have HB2 := Lib.hid hb2
  have HHA := HA.out
  rw [HHA] at HP3
  rw [← hb2] at HP3
  rw [← hb1] at HP2
  rw [List.nil_append] at HP1
  have hm16 := HZZ.out.2.2.2.2.2.1
  obtain ⟨b3, hb3⟩ : ∃ b3, b3 = b2 ++ [UInt8.ofNat r.ident] := ⟨_, rfl⟩
  have hb3l : b3.length ≤ 62 := by rw [hb3, List.length_append]; simp only [List.length_cons, List.length_nil]; omega
  have HB3 := Lib.hid hb3
  obtain ⟨b4, hb4⟩ : ∃ b4, b4 = b3 ++ sev m := ⟨_, rfl⟩
  have HB4 := Lib.hid hb4
  have hs4 := sev_length_10 m (by omega)
  have hb4l : b4.length ≤ 72 := by rw [hb4, List.length_append]; omega
  have HB4L := Lib.hid hb4l
  have HP4 := Lib.hid (fun v w h => putUint_any v b3 m w h (by omega) (by omega))
  rw [← hb4] at HP4
  have HCN := Lib.hid (colsErr_zero _ _ HZZ.out.2.2.2.2.2.2.1)
  have HM16 := Lib.hid hm16
  have HEND : Hid (b4 ++ r.cols.flatMap colB = rlBytes r) := Lib.hid (by rw [hb4, hb3, hb2, hb1]; unfold rlBytes; rw [HM.out])
  clear hb1 hb2 hb3 hb4 hb1l hb2l hb3l hb4l hs1 hs2 hs4 htl hnl hm16 o1 o2 o3 o4 HHA HA
  obtain ⟨c0, c1, c2, c3, c4⟩ : w1.cell? ⟨w.heap.size, 0, none⟩ = some (.int .u32 (r.oid : Nat)) ∧ w1.cell? ⟨w.heap.size, 1, none⟩ = some (.int .u32 (r.ver : Nat)) ∧ w1.cell? ⟨w.heap.size, 2, none⟩ = some (.string A1) ∧ w1.cell? ⟨w.heap.size, 3, none⟩ = some (.int .u8 (r.ident : Nat)) ∧ w1.cell? ⟨w.heap.size, 4, none⟩ = some (.slice ao m cap) := by
    have h := heap_of_ext HX1.out HG.out
    exact ⟨by rw [cell_of_row _ _ _ _ _ _ h]; rfl, by rw [cell_of_row _ _ _ _ _ _ h]; rfl, by rw [cell_of_row _ _ _ _ _ _ h]; rfl, by rw [cell_of_row _ _ _ _ _ _ h]; rfl, by rw [cell_of_row _ _ _ _ _ _ h]; rfl⟩
  generalize r.oid = n1 at *
  generalize r.ver = n2 at *
  go_wp2_with fail
  refine (HP1.out _).mono ?_
  rintro e w2 ⟨s1, rfl, hx, hr⟩
  have HX2 := Lib.hid (HX1.out.trans hx)
  have HR1 := Lib.hid (Rd.ofOwns hr)
  obtain ⟨a1, cp1, rfl⟩ := owns_shape hr
  have c0 := hx.cell (p := ⟨w.heap.size, 0, none⟩) (fun f => f) _ c0
  have c1 := hx.cell (p := ⟨w.heap.size, 1, none⟩) (fun f => f) _ c1
  have c2 := hx.cell (p := ⟨w.heap.size, 2, none⟩) (fun f => f) _ c2
  have c3 := hx.cell (p := ⟨w.heap.size, 3, none⟩) (fun f => f) _ c3
  have c4 := hx.cell (p := ⟨w.heap.size, 4, none⟩) (fun f => f) _ c4
  clear hx hr
  go_wp2_with fail
  refine (HP2.out _ _ HR1.out).mono ?_
  rintro e w3 ⟨s2, rfl, hx, hr⟩
  have HX3 := Lib.hid (HX2.out.trans hx)
  have HR2 := Lib.hid (Rd.ofOwns hr)
  obtain ⟨a2, cp2, rfl⟩ := owns_shape hr
  have c2 := hx.cell (p := ⟨w.heap.size, 2, none⟩) (fun f => f) _ c2
  have c3 := hx.cell (p := ⟨w.heap.size, 3, none⟩) (fun f => f) _ c3
  have c4 := hx.cell (p := ⟨w.heap.size, 4, none⟩) (fun f => f) _ c4
  clear hx hr c0 c1 HR1
  go_wp2_with fail
  refine (HP3.out _ _ HR2.out).mono ?_
  rintro e w4 ⟨s3, rfl, hx, hr⟩
  have HX4 := Lib.hid (HX3.out.trans hx)
  have HO3 := Lib.hid hr
  have HS3 := Lib.hid hx.size; have HXX3 := Lib.hid hx
  obtain ⟨a3, cp3, rfl⟩ := owns_shape hr
  have c3 := hx.cell (p := ⟨w.heap.size, 3, none⟩) (fun f => f) _ c3
  have c4 := hx.cell (p := ⟨w.heap.size, 4, none⟩) (fun f => f) _ c4
  clear hx hr c2 HR2
  generalize hl2 : b2.length = l2 at *
  have HL2 := Lib.hid hl2; clear hl2
  obtain ⟨i, hi1, hz, hs, hby⟩ := info_parts infoU8
  have HI := Lib.hid hi1; have HZ1 := Lib.hid hz; have HSZ := Lib.hid hs; have HBY := Lib.hid hby
  clear hi1 hz hs hby
  have HU8 := Lib.hid (cellB_ofNat HID.out)
  have hal := HO3.out.alloc (.cells #[.int .u8 (r.ident : Nat)] 5)
  go_wp2_with (at_builtin; refine wpList_append_own _ rfl _ _ 34 rfl w3.heap.size 5 i (.int .u8 0) 1 1 Try.underlying34 HI.out HZ1.out HSZ.out HBY.out rfl (by decide) _ _ _ rfl hal ⟨w4.heap.size, 0, none⟩ 1 1 [.int .u8 (r.ident : Nat)] rfl rfl ?c1 ?c2 ?c3 ?c4 ?c5 ?_)
  case c1 => exact new_cells w4 _ _
  case c2 => exact one_oneCell rfl
  case c3 => unfold maxLen; have h1 := HB2L.out; have h2 := HL2.out; omega
  case c4 => have h1 := HB2L.out; have h2 := HL2.out; omega
  case c5 => have := HS3.out; simp; omega
  intro v5 w5 hown hgrow _
  have hx5 : Ext w3 w5 := (HXX3.out.alloc _).grown hgrow fun k hk => .inr (HO3.out.lt k hk).1
  have HX5 := Lib.hid (HX3.out.trans hx5)
  have c4 : w5.cell? ⟨w.heap.size, 4, none⟩ = some (.slice ao m cap) := by
    have h := heap_of_ext HX5.out HG.out
    rw [cell_of_row _ _ _ _ _ _ h]; rfl
  have hrd : Rd w5 v5 b3 := by
    have h := Sl.ofOwns hown
    unfold Rd
    rw [HB3.out, List.length_append, cellsB_append, HL2.out]
    have e : cellsB [UInt8.ofNat r.ident] = [.int .u8 (r.ident : Nat)] := by simp only [cellsB, List.map_cons, List.map_nil]; rw [HU8.out]
    rw [e]
    exact h
  have HR5 := Lib.hid hrd
  obtain ⟨a5, cp5, rfl⟩ := hrd.shape
  have hvm : IntKind.u64.wrap (m : Int) = (m : Int) := wrap_u64_of (by omega) (by have := HM16.out; omega)
  clear hown hgrow hx5 hrd hal c3 HO3 HXX3 HS3
  generalize b3.length = l3 at *
  go_wp2_with fail
  refine (HP4.out _ _ HR5.out).mono ?_
  rintro e w6 ⟨s6, rfl, hx, hr⟩
  have HX6 := Lib.hid (HX5.out.trans hx)
  have HR6 := Lib.hid (Rd.ofOwns hr)
  obtain ⟨a6, cp6, rfl⟩ := owns_shape hr
  have c4 := hx.cell (p := ⟨w.heap.size, 4, none⟩) (fun f => f) _ c4
  clear hx hr HR5 hvm HP1 HP2 HP3 HP4
  generalize hl4 : b4.length = l4 at *
  have HL4 := Lib.hid hl4; clear hl4
  obtain ⟨ci, chi, _, chs, _⟩ := info_parts infoCoZ
  have CHI := Lib.hid chi; have CHS := Lib.hid chs
  clear chi chs
  generalize hcs : r.cols = cs at *
  have HCS := Lib.hid hcs; clear hcs
  go_wp2
  go_loopw [5, 42] (fun vb ix wr => ∃ k : Nat, k ≤ m ∧ ix = .int .i64 k ∧ Hid (Ext W wr) ∧ Rd wr vb (b4 ++ (cs.take k).flatMap colB)) (fun _ ix _ => m - (intOf ix).toNat)
  case atStart => exact ⟨0, Nat.zero_le _, rfl, HX6, by simpa using HR6.out⟩
  case round =>
    obtain ⟨k, hk, rfl, HXr, hrb⟩ := hrel
    obtain ⟨ab, cb, rfl⟩ := hrb.shape
    have HRB := Lib.hid hrb; clear hrb
    generalize hln : (b4 ++ (cs.take k).flatMap colB).length = ln at *
    by_cases hlt : k < m
    · have hkl : k < cs.length := by have := HM.out; omega
      have hcs := ColS.ext HB.out HXr.out
      obtain ⟨b, o, rfl, hra⟩ := colS_at hcs hkl
      have hidx := run_indexSl wr Try.underlying30 CHI.out CHS.out b o m cap k hlt
      have q0 : wr.cell? ⟨b, o + k * 3, none⟩ = some (.string ⟨cs[k].name.toArray⟩) := by have := hra 0 _ rfl; simpa [strV] using this
      have q1 : wr.cell? ⟨b, o + k * 3 + 1, none⟩ = some (.int .u8 (cs[k].ty : Nat)) := hra 1 _ rfl
      have q2 : wr.cell? ⟨b, o + k * 3 + 2, none⟩ = some (.bool cs[k].key) := hra 2 _ rfl
      have hcn := HCN.out cs[k] (List.getElem_mem hkl)
      have hbl : (b4 ++ (cs.take k).flatMap colB).length ≤ 1000 := by
        have h1 := HB4L.out
        have h4 := HL4.out
        have h2 := colsB_len (cs.take k) fun c hc => (HCN.out c (List.mem_of_mem_take hc)).1
        have h3 := HM16.out
        rw [List.length_take] at h2
        rw [List.length_append]
        omega
      have hnx : b4 ++ (cs.take (k + 1)).flatMap colB = (b4 ++ (cs.take k).flatMap colB) ++ colB cs[k] := by
        rw [List.take_succ_eq_append_getElem hkl, List.flatMap_append, List.append_assoc]; simp
      obtain ⟨x, hx⟩ : ∃ x, x = cs[k] := ⟨_, rfl⟩
      rw [← hx] at q0 q1 q2 hcn hnx
      obtain ⟨bs, hbs⟩ : ∃ bs, bs = b4 ++ (cs.take k).flatMap colB := ⟨_, rfl⟩
      rw [← hbs] at hnx hbl HRB hln
      have HNX := Lib.hid hnx; have HLT := Lib.hid hlt; have HLN := Lib.hid hln; have HBL := Lib.hid hbl; have HCX := Lib.hid hcn
      clear hra hcs hx hbs hnx hln hbl hcn
      go_wp2
      have hrow := heap_alloc_new wr (.cells (colv x) 49)
      obtain ⟨w0, hw0⟩ : ∃ w0, w0 = wr.alloc (.cells (colv x) 49) := ⟨_, rfl⟩
      rw [← hw0] at hrow
      have hxa : Ext wr w0 := by rw [hw0]; exact (Ch.refl _ _).alloc _
      have HROW := Lib.hid hrow; have HXA := Lib.hid hxa; have HW0 := Lib.hid hw0
      have HPT := Lib.hid (fun v w h => putText_any v bs x.name w h (by have := HBL.out; omega) (by have := HCX.out.1.2.1; omega))
      have HFM := Lib.hid (fun w => form_any x w (by have := HCX.out.2.2; omega))
      have HFB : Hid (((UInt8.ofNat (colForm x)).toNat : Int) = (colForm x : Nat)) := Lib.hid (by
        have := HCX.out.2.2
        have h : colForm x < 256 := by unfold colForm; split <;> omega
        simp [Nat.mod_eq_of_lt h])
      have HTL := Lib.hid (txt_len HCX.out.1.2.1)
      clear hrow hxa q0 q1 q2 hidx
      have hst : wr.alloc (.cells #[.string ⟨x.name.toArray⟩, .int .u8 (x.ty : Nat), .bool x.key] 49) = w0 := hw0.symm
      rw [hst]
      clear hst hw0
      obtain ⟨tx, htx⟩ : ∃ tx, tx = bs ++ txt x.name := ⟨_, rfl⟩
      have HTX := Lib.hid htx
      rw [← htx] at HPT
      have htl : tx.length ≤ 1041 := by rw [htx, List.length_append]; have h1 := HTL.out; have h2 := HBL.out; omega
      have HTXL := Lib.hid htl
      clear htx htl
      refine wp_region_late (encT wr.heap.size w0.heap.size tx.length bs tx x ⟨x.name.toArray⟩) (encT' w0.heap.size tx.length tx x) 7 (fun w' => Ext w0 w') mixedV (by rfl) (by rfl) (by decide) ?all ?fin
      case all =>
        refine ⟨?_, ?_, ?_, ?_, ?_, ?_, ?_, ?_, ?_, trivial⟩
        · refine StepG.early (by rfl) (by decide) rfl fun ρ w5 hρ hw hf => ?_
          have h : ρ (.tmp 5) = .slice ab ln cb := (hf 5).2 rfl rfl
          exact Exec.kmove rfl rfl (by rw [h]; exact (HRB.out.ext HXA.out).ext hw)
        · refine StepG.early (by rfl) (by decide) rfl fun ρ w5 hρ hw hf => ?_
          have h : ρ (.tmp 7) = .pointer (some ⟨wr.heap.size, 0, none⟩) := (hf 7).2 rfl rfl
          exact Exec.kfield rfl rfl h (fieldCo_0 w5 _) rfl
        · refine StepG.early (by rfl) (by decide) rfl fun ρ w5 hρ hw hf => ?_
          have h : ρ (.tmp 47) = .pointer (some ⟨wr.heap.size, 0, none⟩) := (hf 47).1 rfl
          have hc : w5.cell? ⟨wr.heap.size, 0, none⟩ = some (.string ⟨x.name.toArray⟩) := by rw [cell_of_row _ _ _ _ _ _ (heap_of_ext hw HROW.out)]; rfl
          exact Exec.same (v := .string ⟨x.name.toArray⟩) rfl (by simp [go_sem, hρ.const, h, hc]) rfl
        · refine StepG.early (by rfl) (by decide) rfl fun ρ w5 hρ hw hf => ?_
          have h1 : Rd w5 (ρ (.tmp 46)) bs := (hf 46).1 rfl
          have h2 : ρ (.tmp 48) = .string ⟨x.name.toArray⟩ := (hf 48).1 rfl
          exact Exec.kcall #[ρ (.tmp 46), .string ⟨x.name.toArray⟩] hρ rfl rfl (by simp [h2]) Try.func45 (by rfl) (by rfl) ((HPT.out _ w5 h1).mono (by
            rintro e w6 ⟨s, rfl, h1, h2⟩
            exact ⟨_, rfl, ownsRow_down h2 hw.size, h1⟩))
        · refine StepG.early (by rfl) (by decide) rfl fun ρ w5 hρ hw hf => ?_
          have h : ρ (.tmp 7) = .pointer (some ⟨wr.heap.size, 0, none⟩) := (hf 7).2 rfl rfl
          exact Exec.kloadrow rfl rfl h (heap_of_ext hw HROW.out) Try.underlying49 rfl infoCo rfl
        · refine StepG.early (by rfl) (by decide) rfl fun ρ w5 hρ hw hf => ?_
          have h1 : ρ (.tmp 50) = pcol x := (hf 50).1 rfl
          exact Exec.kcall #[pcol x] hρ rfl rfl (by simp [h1]) Try.func46 (by rfl) (by rfl) ((HFM.out w5).mono (by rintro e w6 ⟨rfl, hx⟩; exact ⟨_, rfl, rfl, hx⟩))
        · refine StepG.early (by rfl) (by decide) rfl fun ρ w5 hρ hw hf => ?_
          have h1 : ρ (.tmp 51) = .int .u8 (colForm x : Nat) := (hf 51).1 rfl
          exact Exec.kbyte (b := UInt8.ofNat (colForm x)) rfl rfl Try.underlying34 HI.out HZ1.out HSZ.out (by rw [h1]; congr 1; exact HFB.out.symm) fun v w' hv => hv
        · refine StepG.write (late := [53, 5]) (by rfl) rfl (fun d v w w' hd _ => by
            simp only [List.mem_cons, List.not_mem_nil, or_false, not_or] at hd
            unfold encT'
            split <;> first | trivial | (exfalso; omega)) fun ρ w5 hρ hw hf => ?_
          have h1 : w5.ownsRow w0.heap.size 5 1 (ρ (.tmp 49)) tx.length (cellsB tx) := (hf 49).1 rfl
          have h2 : Rd w5 (ρ (.tmp 52)) [UInt8.ofNat (colForm x)] := (hf 52).1 rfl
          refine (Exec.kappend (m := 1) rfl w0.heap.size Try.underlying34 HI.out HZ1.out HSZ.out HBY.out rfl (by decide) rfl h1 h2 (by rfl) (cellsB_one _) (by have := HTXL.out; omega) (by have := HTXL.out; unfold maxLen; omega) hw.size).mono ?_
          rintro v w6 ⟨q1, q2⟩
          refine ⟨fun d hd => by cases hd; rw [← cellsB_append] at q1; exact q1, hw.grown q2 fun kk hk => .inr (h1.lt kk hk).1⟩
        · refine StepG.later (late := [53, 5]) (by rfl) (by decide) (by rfl) rfl fun ρ w5 hρ hw hf => ?_
          have h : w5.ownsRow w0.heap.size 5 1 (ρ (.tmp 53)) (tx.length + 1) (cellsB (tx ++ [UInt8.ofNat (colForm x)])) := (hf 53).1 rfl
          exact Exec.value (v := ρ (.tmp 53)) (by unfold execOp; rfl) ⟨fun d hd => by cases hd; exact h, rfl⟩
      case fin =>
        intro ν w5 hfin hx
        have e5 : w5.ownsRow w0.heap.size 5 1 (ν 5) (tx.length + 1) (cellsB (tx ++ [UInt8.ofNat (colForm x)])) := hfin 8 5 rfl
        simp only [Exit.then, ended, List.foldl_cons, List.foldl_nil, List.setIfInBounds_toArray, List.set_cons_succ, List.set_cons_zero]
        have hrd : Rd w5 (ν 5) (b4 ++ (cs.take (k + 1)).flatMap colB) := by
          rw [HNX.out]
          unfold colB
          rw [← List.append_assoc, ← HTX.out]
          have := Sl.ofOwns e5
          unfold Rd
          rwa [List.length_append]
        have HRD := Lib.hid hrd
        have HX8 := Lib.hid ((HXr.out.trans HXA.out).trans hx)
        clear hfin hx e5 hrd
        generalize ν 5 = s5 at *
        have hm16 := HM16.out
        have hlt := HLT.out
        go_wp2
        exact ⟨⟨k + 1, HLT.out, rfl, HX8, HRD.out⟩, by simp only [intOf]; have := HLT.out; omega⟩
    · obtain rfl : k = m := by omega
      have HR9 : Rd wr (.slice ab ln cb) (rlBytes r) := by
        have h := HRB.out
        rw [← HM.out, List.take_length, HEND.out] at h
        exact h
      have HRE := Lib.hid HR9
      clear HR9 HRB hln
      go_wp2
      refine bodyPost_ret (results_tmp2 rfl _ _ _) rfl ?_
      exact ⟨_, by rw [HE0.out]; rfl, HX.out.trans HXr.out, by rw [if_pos HE0.out]; exact HRE.out⟩
end Go.Proofs.Ytcejjckhhdgdnaa
namespace Go.Proofs.Ytcejjckhhdgdnaa
open Go.RowKit Go.Lac

theorem colS_heap {w : World} {g : Nat} {l : List Col} {T : TypeId} (h : w.heap[g]? = some (.cells (colC l).toArray T (0, 0))) (hl : l.length ≤ maxLen) : ColS w (.slice (some ⟨g, 0, none⟩) l.length l.length) l := by
  refine ⟨_, l.length, rfl, Nat.le_refl _, hl, (fun h => by cases h), fun x hx j u hu => ?_⟩
  cases hx
  refine ⟨g, 0, rfl, ?_⟩
  rw [Nat.zero_add, cell_of_row w g j _ _ _ h]
  simpa using hu
theorem sev_5 : sev 5 = [5] := by rw [sev_small (by decide)]; rfl
theorem sev_1' : sev 1 = [1] := by rw [sev_small (by decide)]; rfl
def egR : Rl := ⟨5, 1, [116], 1, [⟨[97], 2, true⟩]⟩
theorem egR_err : rlErr egR = 0 := by decide
theorem egR_bytes : rlBytes egR = [5, 1, 1, 116, 1, 1, 1, 97, 130] := by
  unfold rlBytes egR colB txt
  simp only [List.flatMap_cons, List.flatMap_nil, List.length_cons, List.length_nil, Nat.zero_add]
  rw [sev_5, sev_1']
  rfl
theorem egR_ok : egR.ok := ⟨by decide, by decide, by decide, by unfold Col.ok; decide⟩
theorem egR_fits : egR.fits := ⟨by decide, by decide⟩
theorem build_rf (w : World) (x y : Int) : (Instr.build 29 #[(0, .int .u32 x), (1, .int .u32 y)]).run Try.prog w = .ok (.agg #[.int .u32 x, .int .u32 y]) w := by kernel_rfl
theorem one_co (w : World) (A : ByteArray) (n : Int) (k : Bool) : (Instr.buildSlice 30 1 #[(0, .agg #[.string A, .int .u8 n, .bool k])]).run Try.prog w = .ok (.slice (some ⟨w.heap.size, 0, none⟩) 1 1) (w.alloc (.cells #[.string A, .int .u8 n, .bool k] 49)) := by kernel_rfl
theorem build_rl (w : World) (x y i : Int) (A : ByteArray) (b n c : Nat) : (Instr.build 32 #[(0, .agg #[.int .u32 x, .int .u32 y]), (1, .string A), (2, .int .u8 i), (3, .slice (some ⟨b, 0, none⟩) n c)]).run Try.prog w = .ok (.agg #[.int .u32 x, .int .u32 y, .string A, .int .u8 i, .slice (some ⟨b, 0, none⟩) n c]) w := by kernel_rfl

set_option maxRecDepth 20000 in
set_option maxHeartbeats 1600000 in
theorem awake8_any (w : World) : Calls Try.prog 22 #[] w fun e w' => e = .returned (.bool true) ∧ Ext w w' := by
  have hg := heap_alloc_new w (.cells #[.string ⟨#[97]⟩, .int .u8 2, .bool true] 49)
  obtain ⟨W, hW⟩ : ∃ W, W = w.alloc (.cells #[.string ⟨#[97]⟩, .int .u8 2, .bool true] 49) := ⟨_, rfl⟩
  have hx : Ext w W := by rw [hW]; exact (Ch.refl _ _).alloc _
  rw [← hW] at hg
  have hc : ColS W (.slice (some ⟨w.heap.size, 0, none⟩) 1 1) egR.cols := colS_heap (l := egR.cols) hg (by decide)
  have he := relEnc_any egR (.slice (some ⟨w.heap.size, 0, none⟩) 1 1) W hc egR_fits egR_ok
  rw [egR_err, egR_bytes] at he
  have hrl : relv egR (.slice (some ⟨w.heap.size, 0, none⟩) 1 1) = #[.int .u32 5, .int .u32 1, .string ⟨#[116]⟩, .int .u8 1, .slice (some ⟨w.heap.size, 0, none⟩) 1 1] := rfl
  rw [hrl] at he
  have HE := Lib.hid he; have HX := Lib.hid hx; have HW := Lib.hid hW
  have b1 := fun w => build_rf w 5 1
  have b2 := fun w => buildCo w ⟨#[97]⟩ 2 true
  have b3 := fun w => one_co w ⟨#[97]⟩ 2 true
  have b4 := fun w b => build_rl w 5 1 1 ⟨#[116]⟩ b 1 1
  clear hg hW hx hc he hrl
  go_enter Try.func22, Try.ntmps22
  go_wp2_with fail
  rw [← HW.out]
  refine HE.out.mono ?_
  rintro e w1 ⟨s, rfl, hx, hr⟩
  rw [if_pos rfl] at hr
  have HX1 := Lib.hid (HX.out.trans hx)
  have hs1 := run_toString (P := Try.prog) hr (src := 34) (dst := 9) Try.underlying34 Try.underlying5 Try.underlying9
  have hr2 := rd_new w1 [5, 1, 1, 116, 1, 1, 1, 97, 130] 5 (by decide)
  have hs2 := run_toString (P := Try.prog) hr2 (src := 34) (dst := 9) Try.underlying34 Try.underlying5 Try.underlying9
  obtain ⟨a1, c1, rfl⟩ := hr.shape
  have hs1' : (convert 34 9 (.slice a1 9 c1)).run Try.prog w1 = .ok (.string ⟨#[5, 1, 1, 116, 1, 1, 1, 97, 130]⟩) w1 := hs1
  have hs2' : (convert 34 9 (.slice (some ⟨w1.heap.size, 0, none⟩) 9 9)).run Try.prog (w1.alloc (.cells #[.int .u8 5, .int .u8 1, .int .u8 1, .int .u8 116, .int .u8 1, .int .u8 1, .int .u8 1, .int .u8 97, .int .u8 130] 5)) = .ok (.string ⟨#[5, 1, 1, 116, 1, 1, 1, 97, 130]⟩) (w1.alloc (.cells #[.int .u8 5, .int .u8 1, .int .u8 1, .int .u8 116, .int .u8 1, .int .u8 1, .int .u8 1, .int .u8 97, .int .u8 130] 5)) := hs2
  clear hx hr hr2 b1 b2 b3 b4 hs1 hs2
  generalize (⟨#[5, 1, 1, 116, 1, 1, 1, 97, 130]⟩ : ByteArray) = A at *
  go_wp2
  go_ret
  exact ⟨by simp, HX1.out.alloc _⟩
end Go.Proofs.Ytcejjckhhdgdnaa
namespace Go.Proofs.Ytcejjckhhdgdnaa
open Go.RowKit Go.Lac

def Great (r : Rl) : Prop := (∃ c ∈ r.cols, 60 < c.name.length) ∨ 30 < r.cols.length ∨ 60 < r.name.length
instance (r : Rl) : Decidable (Great r) := by unfold Great; exact inferInstance
theorem infoRC : (Try.prog.info? 50).map (·.size) = some 3 := by kernel_rfl
theorem infoRCZ : (Try.prog.info? 50).map (fun i => (i.zero, i.size, i.bytes)) = some (some (.agg #[.string ⟨#[]⟩, .int .u8 0, .bool false]), 3, 24) := by kernel_rfl
set_option maxRecDepth 20000 in
set_option maxHeartbeats 2000000 in
theorem great_any (r : Rl) (cv : Value) (w : World) (hb : ColS w cv r.cols) (hf : r.fits) :
    Calls Try.prog 12 #[.agg (relv r cv)] w fun e w' => e = .returned (.bool (decide (Great r))) ∧ Ext w w' := by
  have h1 := heap_alloc_new w (.cells (relv r cv) 27)
  obtain ⟨W, hW⟩ : ∃ W, W = w.alloc (.cells (relv r cv) 27) := ⟨_, rfl⟩
  have hx : Ext w W := by rw [hW]; exact (Ch.refl _ _).alloc _
  rw [← hW] at h1
  have HX := Lib.hid hx; have HW := Lib.hid hW
  have HB := Lib.hid (ColS.ext hb hx)
  obtain ⟨c0, c1, c2, c3, c4⟩ := row_cells h1
  obtain ⟨ao, cap, rfl, hlc, hcm, _⟩ := id hb
  have HT : Hid (Great r → decide (Great r) = true) := Lib.hid decide_eq_true
  have HN : Hid (¬ Great r → decide (Great r) = false) := Lib.hid decide_eq_false
  generalize decide (Great r) = D at *
  have hm63 : r.cols.length ≤ 9223372036854775807 := by unfold maxLen at hcm; omega
  have HF := Lib.hid hf
  have hsa : (⟨r.name.toArray⟩ : ByteArray).size = r.name.length := by simp [ByteArray.size]
  have hnl63 : r.name.length ≤ 9223372036854775807 := hf.1
  unfold relv strV at *
  generalize (⟨r.name.toArray⟩ : ByteArray) = A1 at *
  generalize hm : r.cols.length = m at *
  have HM := Lib.hid hm
  generalize hnl : r.name.length = nl at *
  have HNL := Lib.hid hnl
  obtain ⟨ci, chi, _, chs, _⟩ := info_parts infoRCZ
  have CHI := Lib.hid chi; have CHS := Lib.hid chs
  clear h1 hx hb hf hlc hcm chi chs hm hnl c0 c1 c3
  rw [hW] at c2 c4
  go_enter Try.func12, Try.ntmps12
  go_wp2
  rw [← hW] at c2 c4 ⊢
  clear hW
  go_loop [3] (fun ix => ∃ k : Nat, k ≤ m ∧ ix = .int .i64 k ∧ Hid (∀ j (h : j < r.cols.length), j < k → r.cols[j].name.length ≤ 60)) (fun ix => m - (intOf ix).toNat)
  case atStart => exact ⟨0, Nat.zero_le _, rfl, Lib.hid fun j h hj => absurd hj (Nat.not_lt_zero _)⟩
  case round =>
    obtain ⟨k, hk, rfl, HP⟩ := hrel
    by_cases hlt : k < m
    · have hkl : k < r.cols.length := by have := HM.out; omega
      obtain ⟨b, o, rfl, hra⟩ := colS_at HB.out hkl
      have hidx := run_indexSl W Try.underlying25 CHI.out CHS.out b o m cap k hlt
      have q0 : W.cell? ⟨b, o + k * 3, none⟩ = some (.string ⟨r.cols[k].name.toArray⟩) := by have := hra 0 _ rfl; simpa [strV] using this
      have hs2 : (⟨r.cols[k].name.toArray⟩ : ByteArray).size = r.cols[k].name.length := by simp [ByteArray.size]
      have hcl := HF.out.2 r.cols[k] (List.getElem_mem hkl)
      have HPK : Hid (r.cols[k].name.length ≤ 60 → ∀ j (h : j < r.cols.length), j < k + 1 → r.cols[j].name.length ≤ 60) := Lib.hid fun h0 j h hj => by
        by_cases hjk : j < k
        · exact HP.out j h hjk
        · have : j = k := by omega
          subst this
          exact h0
      have HGT : Hid (60 < r.cols[k].name.length → D = true) := Lib.hid fun h => HT.out (.inl ⟨r.cols[k], List.getElem_mem hkl, h⟩)
      generalize (⟨r.cols[k].name.toArray⟩ : ByteArray) = A2 at *
      generalize r.cols[k].name.length = n2 at *
      have HLT := Lib.hid hlt
      clear hra
      by_cases h60 : 60 < n2
      · have HD := Lib.hid (HGT.out h60)
        clear HGT HPK
        go_wp2
        go_ret
        exact ⟨by rw [HD.out]; rfl, HX.out⟩
      · have HPK2 := Lib.hid (HPK.out (by omega))
        have h60' : n2 ≤ 60 := by omega
        clear HGT HPK h60
        go_wp2
        go_round
        case rel => exact ⟨k + 1, HLT.out, by simp, HPK2⟩
        case measure => simp [intOf]; omega
    · obtain rfl : k = m := by omega
      have HNC : Hid (¬ ∃ c ∈ r.cols, 60 < c.name.length) := Lib.hid fun ⟨c, hc, h⟩ => by
        obtain ⟨j, hj, rfl⟩ := List.mem_iff_getElem.1 hc
        have := HP.out j hj (by have := HM.out; omega)
        omega
      by_cases h30 : 30 < k
      · have HD := Lib.hid (HT.out (.inr (.inl (by rw [HM.out]; exact h30))))
        go_wp2
        go_ret
        exact ⟨by rw [HD.out]; simp, HX.out⟩
      · have h30' : k ≤ 30 := by omega
        by_cases h60 : 60 < nl
        · have HD := Lib.hid (HT.out (.inr (.inr (by rw [HNL.out]; exact h60))))
          clear h30
          go_wp2
          go_ret
          exact ⟨by rw [HD.out]; simp; try omega, HX.out⟩
        · have HD := Lib.hid (HN.out (fun h => by
            rcases h with h | h | h
            · exact HNC.out h
            · rw [HM.out] at h; exact h30 h
            · rw [HNL.out] at h; exact h60 h))
          have h60' : nl ≤ 60 := by omega
          clear h30 h60
          go_wp2
          go_ret
          exact ⟨by rw [HD.out]; simp; try omega, HX.out⟩
end Go.Proofs.Ytcejjckhhdgdnaa
namespace Go.Proofs.Ytcejjckhhdgdnaa
open Go.RowKit Go.Lac

theorem run_rcoeq (a b : Col) (w : World) : (binOp .eql 50 (pcol a) (pcol b)).run Try.prog w = .ok (.bool (decide (a = b))) w := by
  obtain ⟨t, k, y⟩ := a
  obtain ⟨t', k', y'⟩ := b
  have hp : Try.prog.stoodInHeld 50 = false := by kernel_rfl
  have hq := toList_beq t t'
  have hd : decide ((⟨t, k, y⟩ : Col) = ⟨t', k', y'⟩) = (decide (t = t') && (decide (k = k') && decide (y = y'))) := by
    rw [Bool.eq_iff_iff]; simp
  rw [hd, ← hq, ← nat_beq k]
  unfold pcol colv strV
  simp only
  generalize (⟨t.toArray⟩ : ByteArray) = A1
  generalize (⟨t'.toArray⟩ : ByteArray) = A2
  generalize ((k : Nat) : Int) = k
  generalize ((k' : Nat) : Int) = k'
  clear hq hd
  rw [run_eql_struct, run_equalIn_agg _ _ _ _ _ (by kernel_rfl) hp]
  simp [go_sem, Program.fieldsOf]
  by_cases h0 : A1.toList = A2.toList <;> by_cases h1 : k = k' <;> by_cases h2 : y = y' <;> simp [h0, h1, h2]
theorem run_rconeq (a b : Col) (w : World) : (binOp .neq 50 (pcol a) (pcol b)).run Try.prog w = .ok (.bool (!decide (a = b))) w := by
  have h := run_rcoeq a b w
  unfold pcol at *
  rw [run_eql_struct] at h
  rw [run_neq_struct]
  cases hX : (Op.equalIn 10000 50 (.agg (colv a)) (.agg (colv b))).run Try.prog w with
  | ok b' w' =>
    rw [hX] at h
    simp only [Result.andThen_ok] at h ⊢
    cases h
    rfl
  | _ =>
    rw [hX] at h
    simp [Result.andThen] at h
theorem run_rrefeq2 (a b c d : Nat) (w : World) : (binOp .eql 24 (.agg #[.int .u32 (a : Nat), .int .u32 (b : Nat)]) (.agg #[.int .u32 (c : Nat), .int .u32 (d : Nat)])).run Try.prog w = .ok (.bool (decide (a = c ∧ b = d))) w := by
  have hp : Try.prog.stoodInHeld 24 = false := by kernel_rfl
  rw [show decide (a = c ∧ b = d) = (decide (a = c) && decide (b = d)) by rw [Bool.eq_iff_iff]; simp, ← nat_beq a, ← nat_beq b]
  generalize ((a : Nat) : Int) = a
  generalize ((b : Nat) : Int) = b
  generalize ((c : Nat) : Int) = c
  generalize ((d : Nat) : Int) = d
  rw [run_eql_struct, run_equalIn_agg _ _ _ _ _ (by kernel_rfl) hp]
  simp [go_sem, Program.fieldsOf]
  by_cases h0 : a = c <;> by_cases h1 : b = d <;> simp [h0, h1]
theorem ei_rref (a b c d : Nat) (w : World) : (Op.equalIn 10000 24 (.agg #[.int .u32 (a : Nat), .int .u32 (b : Nat)]) (.agg #[.int .u32 (c : Nat), .int .u32 (d : Nat)])).run Try.prog w = .ok (decide (a = c ∧ b = d)) w := by
  have h := run_rrefeq2 a b c d w
  rw [run_eql_struct] at h
  cases hX : (Op.equalIn 10000 24 (.agg #[.int .u32 (a : Nat), .int .u32 (b : Nat)]) (.agg #[.int .u32 (c : Nat), .int .u32 (d : Nat)])).run Try.prog w with
  | ok b' w' =>
    rw [hX] at h
    simp only [Result.andThen_ok] at h ⊢
    cases h
    rfl
  | _ =>
    rw [hX] at h
    simp [Result.andThen] at h
theorem fieldRR_3 (w : World) (b : Nat) : (Instr.fieldAt 27 (.pointer (some ⟨b, 0, none⟩)) 3).run Try.prog w = .ok (.pointer (some ⟨b, 4, none⟩)) w := by kernel_rfl
def rsamT (g1 g2 b1 o1 c1 b2 o2 c2 n k : Nat) (x y : Col) : Tmp → Kn
  | 41 => .is (.pointer (some ⟨g1, 4, none⟩))
  | 42 => .is (.slice (some ⟨b1, o1, none⟩) n c1)
  | 43 => .is (.int .i64 (k : Nat))
  | 44 => .is (.pointer (some ⟨b1, o1 + k * 3, none⟩))
  | 45 => .is (pcol x)
  | 46 => .is (.pointer (some ⟨g2, 4, none⟩))
  | 47 => .is (.slice (some ⟨b2, o2, none⟩) n c2)
  | 48 => .is (.int .i64 (k : Nat))
  | 49 => .is (.pointer (some ⟨b2, o2 + k * 3, none⟩))
  | 50 => .is (pcol y)
  | 51 => .is (.bool (!decide (x = y)))
  | _ => .any
set_option maxRecDepth 20000 in
set_option maxHeartbeats 4000000 in
theorem refSame_any (r s : Rl) (cv dv : Value) (w : World) (hc : ColS w cv r.cols) (hd : ColS w dv s.cols) :
    Calls Try.prog 19 #[.agg (relv r cv), .agg (relv s dv)] w fun e w' => e = .returned (.bool (decide (r = s))) ∧ Ext w w' := by
  have h1 := heap_alloc2_old w (.cells (relv r cv) 27) (.cells (relv s dv) 27)
  have h2 := heap_alloc2_new w (.cells (relv r cv) 27) (.cells (relv s dv) 27)
  obtain ⟨W, hW⟩ : ∃ W, W = (w.alloc (.cells (relv r cv) 27)).alloc (.cells (relv s dv) 27) := ⟨_, rfl⟩
  have hx : Ext w W := by rw [hW]; exact ((Ch.refl _ _).alloc _).alloc _
  rw [← hW] at h1 h2
  obtain ⟨a0, a1, a2, a3, a4⟩ := row_cells h1
  obtain ⟨b0, b1, b2, b3, b4⟩ := row_cells h2
  have HX := Lib.hid hx; have HW := Lib.hid hW
  have H1 := Lib.hid (ColS.ext hc hx); have H2 := Lib.hid (ColS.ext hd hx)
  have hq := toList_beq r.name s.name
  have hre := fun w => ei_rref r.oid r.ver s.oid s.ver w
  have hgd : Try.prog.eqGuardType Try.prog.depth 24 = false := by kernel_rfl
  have HDD : Hid (decide (r = s) = (decide (r.oid = s.oid ∧ r.ver = s.ver) && (decide (r.name = s.name) && (decide (r.ident = s.ident) && decide (r.cols = s.cols))))) := Lib.hid (by
    obtain ⟨o, v, n, i, c⟩ := r
    obtain ⟨o', v', n', i', c'⟩ := s
    rw [Bool.eq_iff_iff]; simp [and_assoc])
  have HT : Hid ((r.cols = s.cols → decide (r.cols = s.cols) = true) ∧ (¬ r.cols = s.cols → decide (r.cols = s.cols) = false)) := Lib.hid ⟨decide_eq_true, decide_eq_false⟩
  have hq3 := nat_beq r.ident s.ident
  have hq3' : (((r.ident : Nat) : Int) != ((s.ident : Nat) : Int)) = !decide (r.ident = s.ident) := by rw [bne, hq3]
  generalize decide (r = s) = D at *
  generalize decide (r.oid = s.oid ∧ r.ver = s.ver) = D1 at *
  generalize decide (r.name = s.name) = D2 at *
  generalize decide (r.cols = s.cols) = D4 at *
  generalize decide (r.ident = s.ident) = D3 at *
  obtain ⟨p1, q1, rfl, g1, gm1, _⟩ := id hc
  obtain ⟨p2, q2, rfl, g3, gm2, _⟩ := id hd
  unfold maxLen at gm1 gm2
  unfold relv at *
  unfold strV at *
  generalize (⟨r.name.toArray⟩ : ByteArray) = A1 at *
  generalize (⟨s.name.toArray⟩ : ByteArray) = A2 at *
  generalize r.oid = n1 at *
  generalize r.ver = n2 at *
  generalize r.ident = n3 at *
  generalize s.oid = m1 at *
  generalize s.ver = m2 at *
  generalize s.ident = m3 at *
  generalize r.cols = l1 at *
  generalize s.cols = l2 at *
  rw [hW] at a0 a1 a2 a3 a4 b0 b1 b2 b3 b4
  have HG1 := Lib.hid h1; have HG2 := Lib.hid h2
  clear hW h1 h2 hx hc hd hq3'
  cases D1 with
  | false =>
    have HF : Hid (D = false) := Lib.hid HDD.out
    clear HDD HT
    generalize l1.length = z1 at *
    generalize l2.length = z2 at *
    go_enter Try.func19, Try.ntmps19
    go_wp2_with fail
    go_ret
    rw [← HW.out]
    exact ⟨by rw [HF.out]; rfl, HX.out⟩
  | true =>
    cases D2 with
    | false =>
      have HF : Hid (D = false) := Lib.hid HDD.out
      clear HDD HT
      generalize l1.length = z1 at *
      generalize l2.length = z2 at *
      go_enter Try.func19, Try.ntmps19
      go_wp2_with fail
      go_ret
      rw [← HW.out]
      exact ⟨by rw [HF.out]; rfl, HX.out⟩
    | true =>
      cases D3 with
      | false =>
        have HF : Hid (D = false) := Lib.hid HDD.out
        clear HDD HT
        generalize l1.length = z1 at *
        generalize l2.length = z2 at *
        go_enter Try.func19, Try.ntmps19
        go_wp2_with fail
        go_ret
        rw [← HW.out]
        exact ⟨by rw [HF.out]; rfl, HX.out⟩
      | true =>
        have HF : Hid (D = D4) := Lib.hid (by rw [HDD.out]; simp)
        clear HDD
        have e3 : n3 = m3 := by have := eq_of_beq hq3; omega
        subst e3
        clear hq3
        by_cases hlen : l1.length = l2.length
        case neg =>
          have hle : (((l1.length : Nat) : Int) == ((l2.length : Nat) : Int)) = false := beq_eq_false_iff_ne.2 (by omega)
          have hle2 : (((l1.length : Nat) : Int) != ((l2.length : Nat) : Int)) = true := by rw [bne, hle]; rfl
          have HF2 : Hid (D4 = false) := Lib.hid (HT.out.2 fun h => hlen (by rw [h]))
          clear hlen HT
          generalize l1.length = z1 at *
          generalize l2.length = z2 at *
          go_enter Try.func19, Try.ntmps19
          go_wp2_with fail
          go_ret
          rw [← HW.out]
          exact ⟨by rw [HF.out, HF2.out]; rfl, HX.out⟩
        obtain ⟨ci, chi, _, chs, _⟩ := info_parts infoRCZ
        have CHI := Lib.hid chi; have CHS := Lib.hid chs
        clear chi chs
        generalize hn2 : l2.length = n at *
        rw [hlen] at g1 H1 HG1 HW a0 a1 a2 a3 a4 b0 b1 b2 b3 b4 ⊢
        have HN1 := Lib.hid hlen; have HN2 := Lib.hid hn2
        clear hlen hn2
        go_enter Try.func19, Try.ntmps19
        go_wp2_with fail
        rw [← HW.out]
        have HA4 := Lib.hid (show W.cell? ⟨w.heap.size, 4, none⟩ = some (.slice p1 n q1) by rw [HW.out]; exact a4)
        have HB4 := Lib.hid (show W.cell? ⟨w.heap.size + 1, 4, none⟩ = some (.slice p2 n q2) by rw [HW.out]; exact b4)
        clear a0 a1 a2 a3 a4 b0 b1 b2 b3 b4 hre hgd
        go_loopw [5] (fun ix wr => ∃ k : Nat, k ≤ n ∧ ix = .int .i64 k ∧ Ext W wr ∧ Hid (∀ j (h : j < l1.length) (h' : j < l2.length), j < k → l1[j] = l2[j])) (fun ix _ => n - (intOf ix).toNat)
        case atStart => exact ⟨0, Nat.zero_le _, rfl, Ch.refl _ _, Lib.hid fun j h h' hj => absurd hj (Nat.not_lt_zero _)⟩
        case round =>
          obtain ⟨k, hk, rfl, hext, HP⟩ := hrel
          have HEXT := Lib.hid hext; clear hext
          have a4 := HEXT.out.cell (p := ⟨w.heap.size, 4, none⟩) (fun f => f) _ HA4.out
          have b4 := HEXT.out.cell (p := ⟨w.heap.size + 1, 4, none⟩) (fun f => f) _ HB4.out
          have HA4w := Lib.hid a4; have HB4w := Lib.hid b4
          by_cases hlt : k < n
          · have hk1 : k < l1.length := by have := HN1.out; omega
            have hk2 : k < l2.length := by have := HN2.out; omega
            have hs1 := ColS.ext H1.out HEXT.out
            have hs2 := ColS.ext H2.out HEXT.out
            obtain ⟨b1, o1, rfl, ha⟩ := colS_at hs1 hk1
            obtain ⟨b2, o2, rfl, hb⟩ := colS_at hs2 hk2
            obtain ⟨x, hx⟩ : ∃ x, x = l1[k] := ⟨_, rfl⟩
            obtain ⟨y, hy⟩ : ∃ y, y = l2[k] := ⟨_, rfl⟩
            rw [← hx] at ha
            rw [← hy] at hb
            have HXX : Hid ((∀ h : k < l1.length, l1[k] = x) ∧ (∀ h : k < l2.length, l2[k] = y)) := Lib.hid ⟨fun _ => hx.symm, fun _ => hy.symm⟩
            have HA := Lib.hid ha; have HB := Lib.hid hb; have HLT := Lib.hid hlt
            clear ha hb hx hy hk1 hk2 hs1 hs2
            go_wp2
            refine wp_region_ext (rsamT w.heap.size (w.heap.size + 1) b1 o1 q1 b2 o2 q2 n k x y) mixedV (by rfl) (by rfl) ?all ?fin
            case all =>
              refine ⟨?_, ?_, ?_, ?_, ?_, ?_, ?_, ?_, ?_, ?_, ?_, trivial⟩
              · refine StepOK.plain (kn_stable _) rfl fun ρ w' hρ hw hf => ?_
                have h : ρ (.tmp 2) = .pointer (some ⟨w.heap.size, 0, none⟩) := (hf 2).2 rfl rfl
                exact Exec.kfield rfl rfl h (fieldRR_3 w' _) rfl
              · refine StepOK.plain (kn_stable _) rfl fun ρ w' hρ hw hf => ?_
                have h : ρ (.tmp 41) = .pointer (some ⟨w.heap.size, 4, none⟩) := (hf 41).1 rfl
                have hc := hw.cell (p := ⟨w.heap.size, 4, none⟩) (fun f => f) _ HA4w.out
                exact Exec.same (v := .slice (some ⟨b1, o1, none⟩) n q1) rfl (by simp [go_sem, hρ.const, h, hc]) rfl
              · refine StepOK.plain (kn_stable _) rfl fun ρ w' hρ hw hf => ?_
                have h1 : ρ (.tmp 5) = .int .i64 (k : Nat) := (hf 5).2 rfl rfl
                exact Exec.kmove rfl rfl h1
              · refine StepOK.plain (kn_stable _) rfl fun ρ w' hρ hw hf => ?_
                have h1 : ρ (.tmp 42) = .slice (some ⟨b1, o1, none⟩) n q1 := (hf 42).1 rfl
                have h2 : ρ (.tmp 43) = .int .i64 (k : Nat) := (hf 43).1 rfl
                exact Exec.kindex rfl rfl Try.underlying25 CHI.out CHS.out h1 h2 HLT.out rfl
              · refine StepOK.plain (kn_stable _) rfl fun ρ w' hρ hw hf => ?_
                have h1 : ρ (.tmp 44) = .pointer (some ⟨b1, o1 + k * 3, none⟩) := (hf 44).1 rfl
                have hm : w'.rangeAt b1 (o1 + k * 3) (colv x).toList := fun j u hu => hw.cell (p := ⟨b1, o1 + k * 3 + j, none⟩) (fun f => f) _ (HA.out j u hu)
                have hr := run_loadAt_mid (P := Try.prog) w' b1 (o1 + k * 3) 50 (colv x).toList _ hm Try.underlying50 rfl infoRC
                exact Exec.same (v := pcol x) rfl (by unfold execOp; simp only [h1, Sem.run_bind, hr, Result.andThen_ok, Sem.run_pure]; rfl) rfl
              · refine StepOK.plain (kn_stable _) rfl fun ρ w' hρ hw hf => ?_
                have h : ρ (.tmp 3) = .pointer (some ⟨(w.heap.size + 1), 0, none⟩) := (hf 3).2 rfl rfl
                exact Exec.kfield rfl rfl h (fieldRR_3 w' _) rfl
              · refine StepOK.plain (kn_stable _) rfl fun ρ w' hρ hw hf => ?_
                have h : ρ (.tmp 46) = .pointer (some ⟨(w.heap.size + 1), 4, none⟩) := (hf 46).1 rfl
                have hc := hw.cell (p := ⟨(w.heap.size + 1), 4, none⟩) (fun f => f) _ HB4w.out
                exact Exec.same (v := .slice (some ⟨b2, o2, none⟩) n q2) rfl (by simp [go_sem, hρ.const, h, hc]) rfl
              · refine StepOK.plain (kn_stable _) rfl fun ρ w' hρ hw hf => ?_
                have h1 : ρ (.tmp 5) = .int .i64 (k : Nat) := (hf 5).2 rfl rfl
                exact Exec.kmove rfl rfl h1
              · refine StepOK.plain (kn_stable _) rfl fun ρ w' hρ hw hf => ?_
                have h1 : ρ (.tmp 47) = .slice (some ⟨b2, o2, none⟩) n q2 := (hf 47).1 rfl
                have h2 : ρ (.tmp 48) = .int .i64 (k : Nat) := (hf 48).1 rfl
                exact Exec.kindex rfl rfl Try.underlying25 CHI.out CHS.out h1 h2 HLT.out rfl
              · refine StepOK.plain (kn_stable _) rfl fun ρ w' hρ hw hf => ?_
                have h1 : ρ (.tmp 49) = .pointer (some ⟨b2, o2 + k * 3, none⟩) := (hf 49).1 rfl
                have hm : w'.rangeAt b2 (o2 + k * 3) (colv y).toList := fun j u hu => hw.cell (p := ⟨b2, o2 + k * 3 + j, none⟩) (fun f => f) _ (HB.out j u hu)
                have hr := run_loadAt_mid (P := Try.prog) w' b2 (o2 + k * 3) 50 (colv y).toList _ hm Try.underlying50 rfl infoRC
                exact Exec.same (v := pcol y) rfl (by unfold execOp; simp only [h1, Sem.run_bind, hr, Result.andThen_ok, Sem.run_pure]; rfl) rfl
              · refine StepOK.plain (kn_stable _) rfl fun ρ w' hρ hw hf => ?_
                have h1 : ρ (.tmp 45) = pcol x := (hf 45).1 rfl
                have h2 : ρ (.tmp 50) = pcol y := (hf 50).1 rfl
                refine Exec.same (v := .bool (!decide (x = y))) rfl ?_ rfl
                unfold execOp
                have hg : (eqGuard .neq 50 (.tmp 45) (.tmp 50) (pcol x) (pcol y)).run Try.prog w' = .ok () w' := run_eqGuard_agg w' _ _ _ _ _ _ (by kernel_rfl)
                simp only [h1, h2, Sem.run_bind, hg, Result.andThen_ok, run_rconeq, Sem.run_pure]
            case fin =>
              intro ν w8 hfin hx8
              have h24 : ν 51 = .bool (!decide (x = y)) := hfin 10 51 rfl
              simp only [Exit.then, ended, List.foldl_cons, List.foldl_nil, List.setIfInBounds_toArray, List.set_cons_succ, List.set_cons_zero, h24]
              have HX8 := Lib.hid (HEXT.out.trans hx8)
              clear hfin hx8 h24 a4 b4 HA4w HB4w
              by_cases hxy : x = y
              · have HPK : Hid (∀ j (h : j < l1.length) (h' : j < l2.length), j < k + 1 → l1[j] = l2[j]) := Lib.hid fun j h h' hj => by
                  by_cases hjk : j < k
                  · exact HP.out j h h' hjk
                  · have : j = k := by omega
                    subst this
                    rw [HXX.out.1 h, HXX.out.2 h', hxy]
                rw [decide_eq_true hxy]
                clear hxy
                go_wp2
                exact ⟨⟨k + 1, HLT.out, rfl, HX8.out, HPK⟩, by simp only [intOf]; have := HLT.out; omega⟩
              · have HD : Hid (D4 = false) := Lib.hid (HT.out.2 fun h => hxy (by
                  have h1 : k < l1.length := by have := HN1.out; have := HLT.out; omega
                  have h2 : k < l2.length := by have := HN2.out; have := HLT.out; omega
                  rw [← HXX.out.1 h1, ← HXX.out.2 h2]
                  subst h
                  rfl))
                rw [decide_eq_false hxy]
                clear hxy
                go_wp2
                go_ret
                exact ⟨by rw [HF.out, HD.out]; rfl, HX.out.trans HX8.out⟩
          · have hkn : k = n := by omega
            subst hkn
            have HD : Hid (D4 = true) := Lib.hid (HT.out.1 (List.ext_getElem (by rw [HN1.out, HN2.out]) fun j h h' => HP.out j h h' (by have := HN1.out; omega)))
            go_wp2
            go_ret
            exact ⟨by rw [HF.out, HD.out]; rfl, HX.out.trans HEXT.out⟩
end Go.Proofs.Ytcejjckhhdgdnaa
