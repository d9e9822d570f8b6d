/-
  Relations: columns compared, slices.Equal of them.
-/
import Derived.Test.YtcejjckhhdgdnaaRelF
import Derived.Test.YtcejjckhhdgdnaaValH
namespace Go.Proofs.Ytcejjckhhdgdnaa
open Go.RowKit Go.Lac

theorem run_coeq (a b : Col) (w : World) : (binOp .eql 49 (pcol a) (pcol b)).run Try.prog w = .ok (.bool (decide (a = b))) w := by
  obtain ⟨t, k, y⟩ := a
  obtain ⟨t', k', y'⟩ := b
  have hp : Try.prog.stoodInHeld 49 = false := by kernel_rfl
  have hq := toList_beq t t'
  have hd : decide ((⟨t, k, y⟩ : Col) = ⟨t', k', y'⟩) = (decide (t = t') && (decide (k = k') && decide (y = y'))) := by
    rw [Bool.eq_iff_iff]; simp
  rw [hd, ← hq, ← nat_beq k]
  unfold pcol colv strV
  simp only
  generalize (⟨t.toArray⟩ : ByteArray) = A1
  generalize (⟨t'.toArray⟩ : ByteArray) = A2
  generalize ((k : Nat) : Int) = k
  generalize ((k' : Nat) : Int) = k'
  clear hq hd
  rw [run_eql_struct, run_equalIn_agg _ _ _ _ _ (by kernel_rfl) hp]
  simp [go_sem, Program.fieldsOf]
  by_cases h0 : A1.toList = A2.toList <;> by_cases h1 : k = k' <;> by_cases h2 : y = y' <;> simp [h0, h1, h2]
theorem run_coneq (a b : Col) (w : World) : (binOp .neq 49 (pcol a) (pcol b)).run Try.prog w = .ok (.bool (!decide (a = b))) w := by
  have h := run_coeq a b w
  unfold pcol at *
  rw [run_eql_struct] at h
  rw [run_neq_struct]
  cases hX : (Op.equalIn 10000 49 (.agg (colv a)) (.agg (colv b))).run Try.prog w with
  | ok b' w' =>
    rw [hX] at h
    simp only [Result.andThen_ok] at h ⊢
    cases h
    rfl
  | _ =>
    rw [hX] at h
    simp [Result.andThen] at h
def coeT (b1 o1 c1 b2 o2 c2 n k : Nat) (x y : Col) : Tmp → Kn
  | 16 => .is (.slice (some ⟨b1, o1, none⟩) n c1)
  | 17 => .is (.int .i64 (k : Nat))
  | 18 => .is (.pointer (some ⟨b1, o1 + k * 3, none⟩))
  | 19 => .is (pcol x)
  | 20 => .is (.slice (some ⟨b2, o2, none⟩) n c2)
  | 21 => .is (.int .i64 (k : Nat))
  | 22 => .is (.pointer (some ⟨b2, o2 + k * 3, none⟩))
  | 23 => .is (pcol y)
  | 24 => .is (.bool (!decide (x = y)))
  | _ => .any
set_option maxRecDepth 20000 in
set_option maxHeartbeats 1600000 in
theorem equalCo_any (v1 v2 : Value) (l1 l2 : List Col) (w : World) (h1 : ColS w v1 l1) (h2 : ColS w v2 l2) :
    Calls Try.prog 53 #[v1, v2] w fun e w' => e = .returned (.bool (decide (l1 = l2))) ∧ Ext w w' := by
  have H1 := Lib.hid h1; have H2 := Lib.hid h2
  obtain ⟨ao1, c1, rfl, g1, g2, _⟩ := id h1
  obtain ⟨ao2, c2, rfl, g3, g4, _⟩ := id h2
  obtain ⟨ci, chi, _, chs, _⟩ := info_parts infoCoZ
  have CHI := Lib.hid chi; have CHS := Lib.hid chs
  have HT : Hid ((l1 = l2 → decide (l1 = l2) = true) ∧ (¬ l1 = l2 → decide (l1 = l2) = false)) := Lib.hid ⟨decide_eq_true, decide_eq_false⟩
  generalize decide (l1 = l2) = D at *
  unfold maxLen at g2 g4
  clear h1 h2 chi chs
  by_cases hlen : l1.length = l2.length
  case neg =>
    have e1 : (((l1.length : Nat) : Int) != ((l2.length : Nat) : Int)) = true := by simp; omega
    have HD : Hid (D = false) := Lib.hid (HT.out.2 fun h => hlen (by rw [h]))
    clear HT H1 H2 hlen
    generalize l1.length = n1 at *
    generalize l2.length = n2 at *
    go_enter Try.func53, Try.ntmps53
    go_wp2
    go_ret
    exact ⟨by rw [HD.out]; rfl, Ch.refl _ _⟩
  obtain ⟨n, hn⟩ : ∃ n, n = l1.length := ⟨_, rfl⟩
  have hn2 : l2.length = n := by omega
  rw [← hn] at g1 H1 ⊢
  rw [hn2] at g3 H2 ⊢
  have HN1 := Lib.hid hn; have HN2 := Lib.hid hn2
  clear hn hn2 hlen
  go_enter Try.func53, Try.ntmps53
  go_wp2
  go_loopw [13] (fun ix wr => ∃ k : Nat, k ≤ n ∧ ix = .int .i64 k ∧ Ext w wr ∧ Hid (∀ j (h : j < l1.length) (h' : j < l2.length), j < k → l1[j] = l2[j])) (fun ix _ => n - (intOf ix).toNat)
  case atStart => exact ⟨0, Nat.zero_le _, rfl, Ch.refl _ _, Lib.hid fun j h h' hj => absurd hj (Nat.not_lt_zero _)⟩
  case round =>
    obtain ⟨k, hk, rfl, hext, HP⟩ := hrel
    have HEXT := Lib.hid hext; clear hext
    by_cases hlt : k < n
    · have hk1 : k < l1.length := by have := HN1.out; omega
      have hk2 : k < l2.length := by have := HN2.out; omega
      obtain ⟨b1, o1, rfl, ha⟩ := colS_at (ColS.ext H1.out HEXT.out) hk1
      obtain ⟨b2, o2, rfl, hb⟩ := colS_at (ColS.ext H2.out HEXT.out) hk2
      obtain ⟨x, hx⟩ : ∃ x, x = l1[k] := ⟨_, rfl⟩
      obtain ⟨y, hy⟩ : ∃ y, y = l2[k] := ⟨_, rfl⟩
      rw [← hx] at ha
      rw [← hy] at hb
      have HXX : Hid ((∀ h : k < l1.length, l1[k] = x) ∧ (∀ h : k < l2.length, l2[k] = y)) := Lib.hid ⟨fun _ => hx.symm, fun _ => hy.symm⟩
      have HA := Lib.hid ha; have HB := Lib.hid hb; have HLT := Lib.hid hlt
      clear ha hb hx hy hk1 hk2
      go_wp2
      refine wp_region_ext (coeT b1 o1 c1 b2 o2 c2 n k x y) mixedV (by rfl) (by rfl) ?all ?fin
      case all =>
        refine ⟨?_, ?_, ?_, ?_, ?_, ?_, ?_, ?_, ?_, trivial⟩
        · refine StepOK.plain (kn_stable _) rfl fun ρ w' hρ hw hf => ?_
          have h1 : ρ (.tmp 0) = .slice (some ⟨b1, o1, none⟩) n c1 := (hf 0).2 rfl rfl
          exact Exec.kmove rfl rfl h1
        · refine StepOK.plain (kn_stable _) rfl fun ρ w' hρ hw hf => ?_
          have h1 : ρ (.tmp 5) = .int .i64 (k : Nat) := (hf 5).2 rfl rfl
          exact Exec.kmove rfl rfl h1
        · refine StepOK.plain (kn_stable _) rfl fun ρ w' hρ hw hf => ?_
          have h1 : ρ (.tmp 16) = .slice (some ⟨b1, o1, none⟩) n c1 := (hf 16).1 rfl
          have h2 : ρ (.tmp 17) = .int .i64 (k : Nat) := (hf 17).1 rfl
          exact Exec.kindex rfl rfl Try.underlying30 CHI.out CHS.out h1 h2 HLT.out rfl
        · refine StepOK.plain (kn_stable _) rfl fun ρ w' hρ hw hf => ?_
          have h1 : ρ (.tmp 18) = .pointer (some ⟨b1, o1 + k * 3, none⟩) := (hf 18).1 rfl
          have hm : w'.rangeAt b1 (o1 + k * 3) (colv x).toList := fun j u hu => hw.cell (p := ⟨b1, o1 + k * 3 + j, none⟩) (fun f => f) _ (HA.out j u hu)
          have hr := run_loadAt_mid (P := Try.prog) w' b1 (o1 + k * 3) 49 (colv x).toList _ hm Try.underlying49 rfl infoCo
          exact Exec.same (v := pcol x) rfl (by unfold execOp; simp only [h1, Sem.run_bind, hr, Result.andThen_ok, Sem.run_pure]; rfl) rfl
        · refine StepOK.plain (kn_stable _) rfl fun ρ w' hρ hw hf => ?_
          have h1 : ρ (.tmp 1) = .slice (some ⟨b2, o2, none⟩) n c2 := (hf 1).2 rfl rfl
          exact Exec.kmove rfl rfl h1
        · refine StepOK.plain (kn_stable _) rfl fun ρ w' hρ hw hf => ?_
          have h1 : ρ (.tmp 5) = .int .i64 (k : Nat) := (hf 5).2 rfl rfl
          exact Exec.kmove rfl rfl h1
        · refine StepOK.plain (kn_stable _) rfl fun ρ w' hρ hw hf => ?_
          have h1 : ρ (.tmp 20) = .slice (some ⟨b2, o2, none⟩) n c2 := (hf 20).1 rfl
          have h2 : ρ (.tmp 21) = .int .i64 (k : Nat) := (hf 21).1 rfl
          exact Exec.kindex rfl rfl Try.underlying30 CHI.out CHS.out h1 h2 HLT.out rfl
        · refine StepOK.plain (kn_stable _) rfl fun ρ w' hρ hw hf => ?_
          have h1 : ρ (.tmp 22) = .pointer (some ⟨b2, o2 + k * 3, none⟩) := (hf 22).1 rfl
          have hm : w'.rangeAt b2 (o2 + k * 3) (colv y).toList := fun j u hu => hw.cell (p := ⟨b2, o2 + k * 3 + j, none⟩) (fun f => f) _ (HB.out j u hu)
          have hr := run_loadAt_mid (P := Try.prog) w' b2 (o2 + k * 3) 49 (colv y).toList _ hm Try.underlying49 rfl infoCo
          exact Exec.same (v := pcol y) rfl (by unfold execOp; simp only [h1, Sem.run_bind, hr, Result.andThen_ok, Sem.run_pure]; rfl) rfl
        · refine StepOK.plain (kn_stable _) rfl fun ρ w' hρ hw hf => ?_
          have h1 : ρ (.tmp 19) = pcol x := (hf 19).1 rfl
          have h2 : ρ (.tmp 23) = pcol y := (hf 23).1 rfl
          refine Exec.same (v := .bool (!decide (x = y))) rfl ?_ rfl
          unfold execOp
          have hg : (eqGuard .neq 49 (.tmp 19) (.tmp 23) (pcol x) (pcol y)).run Try.prog w' = .ok () w' := run_eqGuard_agg w' _ _ _ _ _ _ (by kernel_rfl)
          simp only [h1, h2, Sem.run_bind, hg, Result.andThen_ok, run_coneq, Sem.run_pure]
      case fin =>
        intro ν w8 hfin hx8
        have h24 : ν 24 = .bool (!decide (x = y)) := hfin 8 24 rfl
        simp only [Exit.then, ended, List.foldl_cons, List.foldl_nil, List.setIfInBounds_toArray, List.set_cons_succ, List.set_cons_zero, h24]
        have HX8 := Lib.hid (HEXT.out.trans hx8)
        clear hfin hx8 h24
        by_cases hxy : x = y
        · have HPK : Hid (∀ j (h : j < l1.length) (h' : j < l2.length), j < k + 1 → l1[j] = l2[j]) := Lib.hid fun j h h' hj => by
            by_cases hjk : j < k
            · exact HP.out j h h' hjk
            · have : j = k := by omega
              subst this
              rw [HXX.out.1 h, HXX.out.2 h', hxy]
          rw [decide_eq_true hxy]
          clear hxy
          go_wp2
          exact ⟨⟨k + 1, HLT.out, rfl, HX8.out, HPK⟩, by simp only [intOf]; have := HLT.out; omega⟩
        · have HD : Hid (D = false) := Lib.hid (HT.out.2 fun h => hxy (by
            have h1 : k < l1.length := by have := HN1.out; have := HLT.out; omega
            have h2 : k < l2.length := by have := HN2.out; have := HLT.out; omega
            rw [← HXX.out.1 h1, ← HXX.out.2 h2]
            subst h
            rfl))
          rw [decide_eq_false hxy]
          clear hxy
          go_wp2
          go_ret
          exact ⟨by rw [HD.out]; rfl, HX8.out⟩
    · have hkn : k = n := by omega
      subst hkn
      have HD : Hid (D = true) := Lib.hid (HT.out.1 (List.ext_getElem (by rw [← HN1.out, HN2.out]) fun j h h' => HP.out j h h' (by have := HN1.out; omega)))
      go_wp2
      go_ret
      exact ⟨by rw [HD.out]; rfl, HEXT.out⟩
end Go.Proofs.Ytcejjckhhdgdnaa
