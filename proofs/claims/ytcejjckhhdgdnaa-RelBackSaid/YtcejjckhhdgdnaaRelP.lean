/-
  Relations: the document's Same.
-/
import Derived.Test.YtcejjckhhdgdnaaRelN
import Derived.Test.YtcejjckhhdgdnaaRelG
namespace Go.Proofs.Ytcejjckhhdgdnaa
open Go.RowKit Go.Lac

theorem run_rcoeq (a b : Col) (w : World) : (binOp .eql 50 (pcol a) (pcol b)).run Try.prog w = .ok (.bool (decide (a = b))) w := by
  obtain ⟨t, k, y⟩ := a
  obtain ⟨t', k', y'⟩ := b
  have hp : Try.prog.stoodInHeld 50 = false := by kernel_rfl
  have hq := toList_beq t t'
  have hd : decide ((⟨t, k, y⟩ : Col) = ⟨t', k', y'⟩) = (decide (t = t') && (decide (k = k') && decide (y = y'))) := by
    rw [Bool.eq_iff_iff]; simp
  rw [hd, ← hq, ← nat_beq k]
  unfold pcol colv strV
  simp only
  generalize (⟨t.toArray⟩ : ByteArray) = A1
  generalize (⟨t'.toArray⟩ : ByteArray) = A2
  generalize ((k : Nat) : Int) = k
  generalize ((k' : Nat) : Int) = k'
  clear hq hd
  rw [run_eql_struct, run_equalIn_agg _ _ _ _ _ (by kernel_rfl) hp]
  simp [go_sem, Program.fieldsOf]
  by_cases h0 : A1.toList = A2.toList <;> by_cases h1 : k = k' <;> by_cases h2 : y = y' <;> simp [h0, h1, h2]
theorem run_rconeq (a b : Col) (w : World) : (binOp .neq 50 (pcol a) (pcol b)).run Try.prog w = .ok (.bool (!decide (a = b))) w := by
  have h := run_rcoeq a b w
  unfold pcol at *
  rw [run_eql_struct] at h
  rw [run_neq_struct]
  cases hX : (Op.equalIn 10000 50 (.agg (colv a)) (.agg (colv b))).run Try.prog w with
  | ok b' w' =>
    rw [hX] at h
    simp only [Result.andThen_ok] at h ⊢
    cases h
    rfl
  | _ =>
    rw [hX] at h
    simp [Result.andThen] at h
theorem run_rrefeq2 (a b c d : Nat) (w : World) : (binOp .eql 24 (.agg #[.int .u32 (a : Nat), .int .u32 (b : Nat)]) (.agg #[.int .u32 (c : Nat), .int .u32 (d : Nat)])).run Try.prog w = .ok (.bool (decide (a = c ∧ b = d))) w := by
  have hp : Try.prog.stoodInHeld 24 = false := by kernel_rfl
  rw [show decide (a = c ∧ b = d) = (decide (a = c) && decide (b = d)) by rw [Bool.eq_iff_iff]; simp, ← nat_beq a, ← nat_beq b]
  generalize ((a : Nat) : Int) = a
  generalize ((b : Nat) : Int) = b
  generalize ((c : Nat) : Int) = c
  generalize ((d : Nat) : Int) = d
  rw [run_eql_struct, run_equalIn_agg _ _ _ _ _ (by kernel_rfl) hp]
  simp [go_sem, Program.fieldsOf]
  by_cases h0 : a = c <;> by_cases h1 : b = d <;> simp [h0, h1]
theorem ei_rref (a b c d : Nat) (w : World) : (Op.equalIn 10000 24 (.agg #[.int .u32 (a : Nat), .int .u32 (b : Nat)]) (.agg #[.int .u32 (c : Nat), .int .u32 (d : Nat)])).run Try.prog w = .ok (decide (a = c ∧ b = d)) w := by
  have h := run_rrefeq2 a b c d w
  rw [run_eql_struct] at h
  cases hX : (Op.equalIn 10000 24 (.agg #[.int .u32 (a : Nat), .int .u32 (b : Nat)]) (.agg #[.int .u32 (c : Nat), .int .u32 (d : Nat)])).run Try.prog w with
  | ok b' w' =>
    rw [hX] at h
    simp only [Result.andThen_ok] at h ⊢
    cases h
    rfl
  | _ =>
    rw [hX] at h
    simp [Result.andThen] at h
theorem fieldRR_3 (w : World) (b : Nat) : (Instr.fieldAt 27 (.pointer (some ⟨b, 0, none⟩)) 3).run Try.prog w = .ok (.pointer (some ⟨b, 4, none⟩)) w := by kernel_rfl
def rsamT (g1 g2 b1 o1 c1 b2 o2 c2 n k : Nat) (x y : Col) : Tmp → Kn
  | 41 => .is (.pointer (some ⟨g1, 4, none⟩))
  | 42 => .is (.slice (some ⟨b1, o1, none⟩) n c1)
  | 43 => .is (.int .i64 (k : Nat))
  | 44 => .is (.pointer (some ⟨b1, o1 + k * 3, none⟩))
  | 45 => .is (pcol x)
  | 46 => .is (.pointer (some ⟨g2, 4, none⟩))
  | 47 => .is (.slice (some ⟨b2, o2, none⟩) n c2)
  | 48 => .is (.int .i64 (k : Nat))
  | 49 => .is (.pointer (some ⟨b2, o2 + k * 3, none⟩))
  | 50 => .is (pcol y)
  | 51 => .is (.bool (!decide (x = y)))
  | _ => .any
set_option maxRecDepth 20000 in
set_option maxHeartbeats 4000000 in
theorem refSame_any (r s : Rl) (cv dv : Value) (w : World) (hc : ColS w cv r.cols) (hd : ColS w dv s.cols) :
    Calls Try.prog 19 #[.agg (relv r cv), .agg (relv s dv)] w fun e w' => e = .returned (.bool (decide (r = s))) ∧ Ext w w' := by
  have h1 := heap_alloc2_old w (.cells (relv r cv) 27) (.cells (relv s dv) 27)
  have h2 := heap_alloc2_new w (.cells (relv r cv) 27) (.cells (relv s dv) 27)
  obtain ⟨W, hW⟩ : ∃ W, W = (w.alloc (.cells (relv r cv) 27)).alloc (.cells (relv s dv) 27) := ⟨_, rfl⟩
  have hx : Ext w W := by rw [hW]; exact ((Ch.refl _ _).alloc _).alloc _
  rw [← hW] at h1 h2
  obtain ⟨a0, a1, a2, a3, a4⟩ := row_cells h1
  obtain ⟨b0, b1, b2, b3, b4⟩ := row_cells h2
  have HX := Lib.hid hx; have HW := Lib.hid hW
  have H1 := Lib.hid (ColS.ext hc hx); have H2 := Lib.hid (ColS.ext hd hx)
  have hq := toList_beq r.name s.name
  have hre := fun w => ei_rref r.oid r.ver s.oid s.ver w
  have hgd : Try.prog.eqGuardType Try.prog.depth 24 = false := by kernel_rfl
  have HDD : Hid (decide (r = s) = (decide (r.oid = s.oid ∧ r.ver = s.ver) && (decide (r.name = s.name) && (decide (r.ident = s.ident) && decide (r.cols = s.cols))))) := Lib.hid (by
    obtain ⟨o, v, n, i, c⟩ := r
    obtain ⟨o', v', n', i', c'⟩ := s
    rw [Bool.eq_iff_iff]; simp [and_assoc])
  have HT : Hid ((r.cols = s.cols → decide (r.cols = s.cols) = true) ∧ (¬ r.cols = s.cols → decide (r.cols = s.cols) = false)) := Lib.hid ⟨decide_eq_true, decide_eq_false⟩
  have hq3 := nat_beq r.ident s.ident
  have hq3' : (((r.ident : Nat) : Int) != ((s.ident : Nat) : Int)) = !decide (r.ident = s.ident) := by rw [bne, hq3]
  generalize decide (r = s) = D at *
  generalize decide (r.oid = s.oid ∧ r.ver = s.ver) = D1 at *
  generalize decide (r.name = s.name) = D2 at *
  generalize decide (r.cols = s.cols) = D4 at *
  generalize decide (r.ident = s.ident) = D3 at *
  obtain ⟨p1, q1, rfl, g1, gm1, _⟩ := id hc
  obtain ⟨p2, q2, rfl, g3, gm2, _⟩ := id hd
  unfold maxLen at gm1 gm2
  unfold relv at *
  unfold strV at *
  generalize (⟨r.name.toArray⟩ : ByteArray) = A1 at *
  generalize (⟨s.name.toArray⟩ : ByteArray) = A2 at *
  generalize r.oid = n1 at *
  generalize r.ver = n2 at *
  generalize r.ident = n3 at *
  generalize s.oid = m1 at *
  generalize s.ver = m2 at *
  generalize s.ident = m3 at *
  generalize r.cols = l1 at *
  generalize s.cols = l2 at *
  rw [hW] at a0 a1 a2 a3 a4 b0 b1 b2 b3 b4
  have HG1 := Lib.hid h1; have HG2 := Lib.hid h2
  clear hW h1 h2 hx hc hd hq3'
  cases D1 with
  | false =>
    have HF : Hid (D = false) := Lib.hid HDD.out
    clear HDD HT
    generalize l1.length = z1 at *
    generalize l2.length = z2 at *
    go_enter Try.func19, Try.ntmps19
    go_wp2_with fail
    go_ret
    rw [← HW.out]
    exact ⟨by rw [HF.out]; rfl, HX.out⟩
  | true =>
    cases D2 with
    | false =>
      have HF : Hid (D = false) := Lib.hid HDD.out
      clear HDD HT
      generalize l1.length = z1 at *
      generalize l2.length = z2 at *
      go_enter Try.func19, Try.ntmps19
      go_wp2_with fail
      go_ret
      rw [← HW.out]
      exact ⟨by rw [HF.out]; rfl, HX.out⟩
    | true =>
      cases D3 with
      | false =>
        have HF : Hid (D = false) := Lib.hid HDD.out
        clear HDD HT
        generalize l1.length = z1 at *
        generalize l2.length = z2 at *
        go_enter Try.func19, Try.ntmps19
        go_wp2_with fail
        go_ret
        rw [← HW.out]
        exact ⟨by rw [HF.out]; rfl, HX.out⟩
      | true =>
        have HF : Hid (D = D4) := Lib.hid (by rw [HDD.out]; simp)
        clear HDD
        have e3 : n3 = m3 := by have := eq_of_beq hq3; omega
        subst e3
        clear hq3
        by_cases hlen : l1.length = l2.length
        case neg =>
          have hle : (((l1.length : Nat) : Int) == ((l2.length : Nat) : Int)) = false := beq_eq_false_iff_ne.2 (by omega)
          have hle2 : (((l1.length : Nat) : Int) != ((l2.length : Nat) : Int)) = true := by rw [bne, hle]; rfl
          have HF2 : Hid (D4 = false) := Lib.hid (HT.out.2 fun h => hlen (by rw [h]))
          clear hlen HT
          generalize l1.length = z1 at *
          generalize l2.length = z2 at *
          go_enter Try.func19, Try.ntmps19
          go_wp2_with fail
          go_ret
          rw [← HW.out]
          exact ⟨by rw [HF.out, HF2.out]; rfl, HX.out⟩
        obtain ⟨ci, chi, _, chs, _⟩ := info_parts infoRCZ
        have CHI := Lib.hid chi; have CHS := Lib.hid chs
        clear chi chs
        generalize hn2 : l2.length = n at *
        rw [hlen] at g1 H1 HG1 HW a0 a1 a2 a3 a4 b0 b1 b2 b3 b4 ⊢
        have HN1 := Lib.hid hlen; have HN2 := Lib.hid hn2
        clear hlen hn2
        go_enter Try.func19, Try.ntmps19
        go_wp2_with fail
        rw [← HW.out]
        have HA4 := Lib.hid (show W.cell? ⟨w.heap.size, 4, none⟩ = some (.slice p1 n q1) by rw [HW.out]; exact a4)
        have HB4 := Lib.hid (show W.cell? ⟨w.heap.size + 1, 4, none⟩ = some (.slice p2 n q2) by rw [HW.out]; exact b4)
        clear a0 a1 a2 a3 a4 b0 b1 b2 b3 b4 hre hgd
        go_loopw [5] (fun ix wr => ∃ k : Nat, k ≤ n ∧ ix = .int .i64 k ∧ Ext W wr ∧ Hid (∀ j (h : j < l1.length) (h' : j < l2.length), j < k → l1[j] = l2[j])) (fun ix _ => n - (intOf ix).toNat)
        case atStart => exact ⟨0, Nat.zero_le _, rfl, Ch.refl _ _, Lib.hid fun j h h' hj => absurd hj (Nat.not_lt_zero _)⟩
        case round =>
          obtain ⟨k, hk, rfl, hext, HP⟩ := hrel
          have HEXT := Lib.hid hext; clear hext
          have a4 := HEXT.out.cell (p := ⟨w.heap.size, 4, none⟩) (fun f => f) _ HA4.out
          have b4 := HEXT.out.cell (p := ⟨w.heap.size + 1, 4, none⟩) (fun f => f) _ HB4.out
          have HA4w := Lib.hid a4; have HB4w := Lib.hid b4
          by_cases hlt : k < n
          · have hk1 : k < l1.length := by have := HN1.out; omega
            have hk2 : k < l2.length := by have := HN2.out; omega
            have hs1 := ColS.ext H1.out HEXT.out
            have hs2 := ColS.ext H2.out HEXT.out
            obtain ⟨b1, o1, rfl, ha⟩ := colS_at hs1 hk1
            obtain ⟨b2, o2, rfl, hb⟩ := colS_at hs2 hk2
            obtain ⟨x, hx⟩ : ∃ x, x = l1[k] := ⟨_, rfl⟩
            obtain ⟨y, hy⟩ : ∃ y, y = l2[k] := ⟨_, rfl⟩
            rw [← hx] at ha
            rw [← hy] at hb
            have HXX : Hid ((∀ h : k < l1.length, l1[k] = x) ∧ (∀ h : k < l2.length, l2[k] = y)) := Lib.hid ⟨fun _ => hx.symm, fun _ => hy.symm⟩
            have HA := Lib.hid ha; have HB := Lib.hid hb; have HLT := Lib.hid hlt
            clear ha hb hx hy hk1 hk2 hs1 hs2
            go_wp2
            refine wp_region_ext (rsamT w.heap.size (w.heap.size + 1) b1 o1 q1 b2 o2 q2 n k x y) mixedV (by rfl) (by rfl) ?all ?fin
            case all =>
              refine ⟨?_, ?_, ?_, ?_, ?_, ?_, ?_, ?_, ?_, ?_, ?_, trivial⟩
              · refine StepOK.plain (kn_stable _) rfl fun ρ w' hρ hw hf => ?_
                have h : ρ (.tmp 2) = .pointer (some ⟨w.heap.size, 0, none⟩) := (hf 2).2 rfl rfl
                exact Exec.kfield rfl rfl h (fieldRR_3 w' _) rfl
              · refine StepOK.plain (kn_stable _) rfl fun ρ w' hρ hw hf => ?_
                have h : ρ (.tmp 41) = .pointer (some ⟨w.heap.size, 4, none⟩) := (hf 41).1 rfl
                have hc := hw.cell (p := ⟨w.heap.size, 4, none⟩) (fun f => f) _ HA4w.out
                exact Exec.same (v := .slice (some ⟨b1, o1, none⟩) n q1) rfl (by simp [go_sem, hρ.const, h, hc]) rfl
              · refine StepOK.plain (kn_stable _) rfl fun ρ w' hρ hw hf => ?_
                have h1 : ρ (.tmp 5) = .int .i64 (k : Nat) := (hf 5).2 rfl rfl
                exact Exec.kmove rfl rfl h1
              · refine StepOK.plain (kn_stable _) rfl fun ρ w' hρ hw hf => ?_
                have h1 : ρ (.tmp 42) = .slice (some ⟨b1, o1, none⟩) n q1 := (hf 42).1 rfl
                have h2 : ρ (.tmp 43) = .int .i64 (k : Nat) := (hf 43).1 rfl
                exact Exec.kindex rfl rfl Try.underlying25 CHI.out CHS.out h1 h2 HLT.out rfl
              · refine StepOK.plain (kn_stable _) rfl fun ρ w' hρ hw hf => ?_
                have h1 : ρ (.tmp 44) = .pointer (some ⟨b1, o1 + k * 3, none⟩) := (hf 44).1 rfl
                have hm : w'.rangeAt b1 (o1 + k * 3) (colv x).toList := fun j u hu => hw.cell (p := ⟨b1, o1 + k * 3 + j, none⟩) (fun f => f) _ (HA.out j u hu)
                have hr := run_loadAt_mid (P := Try.prog) w' b1 (o1 + k * 3) 50 (colv x).toList _ hm Try.underlying50 rfl infoRC
                exact Exec.same (v := pcol x) rfl (by unfold execOp; simp only [h1, Sem.run_bind, hr, Result.andThen_ok, Sem.run_pure]; rfl) rfl
              · refine StepOK.plain (kn_stable _) rfl fun ρ w' hρ hw hf => ?_
                have h : ρ (.tmp 3) = .pointer (some ⟨(w.heap.size + 1), 0, none⟩) := (hf 3).2 rfl rfl
                exact Exec.kfield rfl rfl h (fieldRR_3 w' _) rfl
              · refine StepOK.plain (kn_stable _) rfl fun ρ w' hρ hw hf => ?_
                have h : ρ (.tmp 46) = .pointer (some ⟨(w.heap.size + 1), 4, none⟩) := (hf 46).1 rfl
                have hc := hw.cell (p := ⟨(w.heap.size + 1), 4, none⟩) (fun f => f) _ HB4w.out
                exact Exec.same (v := .slice (some ⟨b2, o2, none⟩) n q2) rfl (by simp [go_sem, hρ.const, h, hc]) rfl
              · refine StepOK.plain (kn_stable _) rfl fun ρ w' hρ hw hf => ?_
                have h1 : ρ (.tmp 5) = .int .i64 (k : Nat) := (hf 5).2 rfl rfl
                exact Exec.kmove rfl rfl h1
              · refine StepOK.plain (kn_stable _) rfl fun ρ w' hρ hw hf => ?_
                have h1 : ρ (.tmp 47) = .slice (some ⟨b2, o2, none⟩) n q2 := (hf 47).1 rfl
                have h2 : ρ (.tmp 48) = .int .i64 (k : Nat) := (hf 48).1 rfl
                exact Exec.kindex rfl rfl Try.underlying25 CHI.out CHS.out h1 h2 HLT.out rfl
              · refine StepOK.plain (kn_stable _) rfl fun ρ w' hρ hw hf => ?_
                have h1 : ρ (.tmp 49) = .pointer (some ⟨b2, o2 + k * 3, none⟩) := (hf 49).1 rfl
                have hm : w'.rangeAt b2 (o2 + k * 3) (colv y).toList := fun j u hu => hw.cell (p := ⟨b2, o2 + k * 3 + j, none⟩) (fun f => f) _ (HB.out j u hu)
                have hr := run_loadAt_mid (P := Try.prog) w' b2 (o2 + k * 3) 50 (colv y).toList _ hm Try.underlying50 rfl infoRC
                exact Exec.same (v := pcol y) rfl (by unfold execOp; simp only [h1, Sem.run_bind, hr, Result.andThen_ok, Sem.run_pure]; rfl) rfl
              · refine StepOK.plain (kn_stable _) rfl fun ρ w' hρ hw hf => ?_
                have h1 : ρ (.tmp 45) = pcol x := (hf 45).1 rfl
                have h2 : ρ (.tmp 50) = pcol y := (hf 50).1 rfl
                refine Exec.same (v := .bool (!decide (x = y))) rfl ?_ rfl
                unfold execOp
                have hg : (eqGuard .neq 50 (.tmp 45) (.tmp 50) (pcol x) (pcol y)).run Try.prog w' = .ok () w' := run_eqGuard_agg w' _ _ _ _ _ _ (by kernel_rfl)
                simp only [h1, h2, Sem.run_bind, hg, Result.andThen_ok, run_rconeq, Sem.run_pure]
            case fin =>
              intro ν w8 hfin hx8
              have h24 : ν 51 = .bool (!decide (x = y)) := hfin 10 51 rfl
              simp only [Exit.then, ended, List.foldl_cons, List.foldl_nil, List.setIfInBounds_toArray, List.set_cons_succ, List.set_cons_zero, h24]
              have HX8 := Lib.hid (HEXT.out.trans hx8)
              clear hfin hx8 h24 a4 b4 HA4w HB4w
              by_cases hxy : x = y
              · have HPK : Hid (∀ j (h : j < l1.length) (h' : j < l2.length), j < k + 1 → l1[j] = l2[j]) := Lib.hid fun j h h' hj => by
                  by_cases hjk : j < k
                  · exact HP.out j h h' hjk
                  · have : j = k := by omega
                    subst this
                    rw [HXX.out.1 h, HXX.out.2 h', hxy]
                rw [decide_eq_true hxy]
                clear hxy
                go_wp2
                exact ⟨⟨k + 1, HLT.out, rfl, HX8.out, HPK⟩, by simp only [intOf]; have := HLT.out; omega⟩
              · have HD : Hid (D4 = false) := Lib.hid (HT.out.2 fun h => hxy (by
                  have h1 : k < l1.length := by have := HN1.out; have := HLT.out; omega
                  have h2 : k < l2.length := by have := HN2.out; have := HLT.out; omega
                  rw [← HXX.out.1 h1, ← HXX.out.2 h2]
                  subst h
                  rfl))
                rw [decide_eq_false hxy]
                clear hxy
                go_wp2
                go_ret
                exact ⟨by rw [HF.out, HD.out]; rfl, HX.out.trans HX8.out⟩
          · have hkn : k = n := by omega
            subst hkn
            have HD : Hid (D4 = true) := Lib.hid (HT.out.1 (List.ext_getElem (by rw [HN1.out, HN2.out]) fun j h h' => HP.out j h h' (by have := HN1.out; omega)))
            go_wp2
            go_ret
            exact ⟨by rw [HF.out, HD.out]; rfl, HX.out.trans HEXT.out⟩
end Go.Proofs.Ytcejjckhhdgdnaa
