/-
  chunk: the document's Join.
-/
import Derived.Test.YtolelgbkohccbaaChkG
import Derived.Deep.QuietTactic
import Derived.BigQuiet
namespace Go.Proofs.Ytolelgbkohccbaa
open Go.RowKit Go.Lac

theorem natL_get (l : List Nat) (i : Nat) (h : i < (natL l).length) : (natL l)[i] = ((l[i]'(by simpa [natL] using h) : Nat) : Int) := by simp [natL]
set_option maxRecDepth 100000 in
set_option maxHeartbeats 4000000 in
theorem rJoin_any (v v2 : Value) (ps : List (List UInt8)) (l : List Int) (w : World) (h : TxS w v ps) (h' : InS w v2 l) (hl : l.length ≤ 1000) :
    Calls Try.prog 14 #[v, v2] w (JoinPost (joinL ps l) w) := by
  have HT := Lib.hid h; have HI := Lib.hid h'
  obtain ⟨po, pc, rfl, g1, g2⟩ := h.shape
  obtain ⟨ao, cap, rfl, h1, h2⟩ := h'.shape
  obtain ⟨ci, chi, chz, chs, chb⟩ := info_parts infoInt
  have CHI := Lib.hid chi; have CHS := Lib.hid chs
  obtain ⟨di, dhi, dhz, dhs, dhb⟩ := info_parts infoStr
  have DHI := Lib.hid dhi; have DHS := Lib.hid dhs
  have hpm : ps.length ≤ 9223372036854775807 := by unfold maxLen at g2; omega
  clear h h' g1 g2 h1 h2 chi chs chz chb dhi dhz dhs dhb
  generalize hn : l.length = n at *
  have HN := Lib.hid hn; clear hn
  generalize hpl : ps.length = pn at *
  have HPL := Lib.hid hpl; clear hpl
  go_enter Try.func14, Try.ntmps14
  go_wp2
  go_loop [6] (fun ix => ∃ (k : Nat), k ≤ n ∧ ix = .int .i64 k ∧ Hid (∀ j (h : j < l.length), j < k → 0 ≤ l[j] ∧ l[j] ≤ 2048)) (fun ix => n - (intOf ix).toNat)
  case atStart => exact ⟨0, Nat.zero_le _, rfl, Lib.hid fun j h hj => absurd hj (Nat.not_lt_zero _)⟩
  case round =>
    obtain ⟨k, hk, rfl, HC⟩ := hrel
    by_cases hlt : k < n
    · have hkl : k < l.length := by have := HN.out; omega
      obtain ⟨b, o, rfl, hcl⟩ := HI.out.at hkl
      have hidx := run_indexSl w Try.underlying32 CHI.out CHS.out b o n cap k hlt
      rw [Nat.mul_one] at hidx
      have HBAD : Hid ((l[k] < 0 ∨ 2048 < l[k]) → joinL ps l = ([], 4)) := Lib.hid fun h => join_range (sizes_not hkl h)
      have HOK : Hid ((0 ≤ l[k] ∧ l[k] ≤ 2048) → ∀ j (h : j < l.length), j < k + 1 → 0 ≤ l[j] ∧ l[j] ≤ 2048) := Lib.hid fun e j h hj => by
        by_cases hjk : j < k
        · exact HC.out j h hjk
        · have : j = k := by omega
          subst this
          exact e
      generalize l[k] = x at *
      clear hkl
      by_cases hx0 : x < 0
      · have HE := Lib.hid (HBAD.out (.inl hx0))
        go_wp2
        go_ret2
        exact ⟨_, by rw [HE.out]; rfl, Ch.refl _ _, by rw [HE.out]; exact txs_nil _⟩
      · by_cases hx1 : x > 2048
        · have HE := Lib.hid (HBAD.out (.inr hx1))
          go_wp2
          go_ret2
          exact ⟨_, by rw [HE.out]; rfl, Ch.refl _ _, by rw [HE.out]; exact txs_nil _⟩
        · have HE := Lib.hid (HOK.out ⟨by omega, by omega⟩)
          go_wp2
          go_round
          case rel => exact ⟨k + 1, hlt, by simp, HE⟩
          case measure => simp [intOf]; omega
    · obtain rfl : k = n := by omega
      have HS : Hid (sizesOk l) := Lib.hid fun x hx => by
        obtain ⟨j, hj, rfl⟩ := List.getElem_of_mem hx
        exact HC.out j hj (by have := HN.out; omega)
      have HLG := Lib.hid (lengths_any _ l w HI.out (by rw [HN.out]; omega) (fun x hx => by have := HS.out x hx; omega))
      have HLL : Hid ((natL (lensL l)).length = cntL l) := Lib.hid (by simp [natL, lensL_length])
      generalize hct : cntL l = ct at HLL
      have HCT := Lib.hid hct
      have hctb : ct ≤ 3000000 := by
        have h1 := cntL_le (l := l) (M := 2048) fun x hx => by have := HS.out x hx; omega
        have h2 := HN.out
        have : l.length * 2048 ≤ 1000 * 2048 := Nat.mul_le_mul_right _ (by omega)
        omega
      clear hct
      go_wp2_with fail
      refine HLG.out.mono ?_
      rintro e w1 ⟨lv, rfl, hx1, ho1⟩
      have HX1 := Lib.hid hx1
      obtain ⟨lo, lc, rfl, hq1, hq2⟩ := ho1.ins.shape
      have HLV := Lib.hid ho1.ins
      rw [HLL.out] at HLV ⊢
      clear hx1 ho1 hq1 hq2
      by_cases hpc : pn = ct
      case neg =>
        have HE : Hid (joinL ps l = ([], 16)) := Lib.hid (join_wrong HS.out (join_count (by rw [HPL.out, HCT.out]; exact hpc)))
        have hb : (((ct : Nat) : Int) == ((pn : Nat) : Int)) = false := by simp; omega
        have hb2 : (((ct : Nat) : Int) != ((pn : Nat) : Int)) = true := by simp; omega
        clear hpc
        go_wp2
        go_ret2
        exact ⟨_, by rw [HE.out]; rfl, HX1.out, by rw [HE.out]; exact txs_nil _⟩
      have HPC := Lib.hid hpc
      have hb : (((ct : Nat) : Int) == ((pn : Nat) : Int)) = true := by simp [hpc]
      have hb2 : (((ct : Nat) : Int) != ((pn : Nat) : Int)) = false := by simp [hpc]
      clear hpc
      go_wp2
      clear hb hb2
      go_loopw [8, 9] (fun vs ix wr => ∃ (i : Nat) (s : ByteArray), i ≤ ct ∧ ix = .int .i64 i ∧ vs = .string s ∧ s.size ≤ i * 256 ∧ Hid (s = ⟨(ps.take i).flatten.toArray⟩) ∧ Hid (Ext w1 wr) ∧ Hid (∀ j (h : j < ps.length) (h' : j < (lensL l).length), j < i → ps[j].length = (lensL l)[j])) (fun _ ix _ => ct - (intOf ix).toNat)
      case atStart => exact ⟨0, _, Nat.zero_le _, rfl, rfl, by simp [ByteArray.size], Lib.hid (by simp), Lib.hid (Ch.refl _ _), Lib.hid fun j h h' hj => absurd hj (Nat.not_lt_zero _)⟩
      case round =>
        obtain ⟨i, s, hi, rfl, rfl, hss, HSS, HX, HF⟩ := hrel
        by_cases hilt : i < ct
        · have hip : i < ps.length := by have := HPL.out; have := HPC.out; omega
          have hil : i < (lensL l).length := by have h1 := HLL.out; simp only [natL, List.length_map] at h1; omega
          have hil2 : i < (natL (lensL l)).length := by rw [HLL.out]; exact hilt
          obtain ⟨b, o, rfl, hcp0⟩ := (HT.out.ext HX1.out).at hip
          obtain ⟨b2, o2, rfl, hcl0⟩ := HLV.out.at hil2
          rw [natL_get] at hcl0
          have hcp := HX.out.cell (p := ⟨b, o + i, none⟩) (fun f => f) _ hcp0
          have hcl := HX.out.cell (p := ⟨b2, o2 + i, none⟩) (fun f => f) _ hcl0
          have hidx := fun w => run_indexSl w Try.underlying22 DHI.out DHS.out b o pn pc i (by have := HPC.out; omega)
          have hidx2 := fun w => run_indexSl w Try.underlying32 CHI.out CHS.out b2 o2 ct lc i hilt
          simp only [Nat.mul_one] at hidx hidx2
          have HFS := Lib.hid (flatten_take_succ ps i hip)
          have HBAD : Hid (ps[i].length ≠ (lensL l)[i] → joinL ps l = ([], 16)) := Lib.hid fun h => join_wrong HS.out fun e => h (by
            have h4 : (ps.map List.length)[i]'(by simpa using hip) = (lensL l)[i] := by simp only [e]
            simpa using h4)
          have HOK : Hid (ps[i].length = (lensL l)[i] → ∀ j (h : j < ps.length) (h' : j < (lensL l).length), j < i + 1 → ps[j].length = (lensL l)[j]) := Lib.hid fun e j h h' hj => by
            by_cases hjk : j < i
            · exact HF.out j h h' hjk
            · have : j = i := by omega
              subst this
              exact e
          have hq := lensL_le (List.getElem_mem hil)
          generalize ps[i] = x at *
          generalize (lensL l)[i] = q at *
          have HLT := Lib.hid hilt
          clear hcp0 hcl0 hip hil hil2
          unfold strV at hcp
          by_cases hxq : x.length = q
          case neg =>
            have HE := Lib.hid (HBAD.out hxq)
            have hb : (((x.length : Nat) : Int) == ((q : Nat) : Int)) = false := by simp; omega
            have hb2 : (((x.length : Nat) : Int) != ((q : Nat) : Int)) = true := by simp; omega
            clear hxq
            go_wp2
            go_quiet (fail)
            go_wp2
            go_ret2
            exact ⟨_, by rw [HE.out]; rfl, (HX1.out.trans HX.out).trans (Ext.drewN _ _), by rw [HE.out]; exact txs_nil _⟩
          have HE := Lib.hid (HOK.out hxq)
          have hb : (((x.length : Nat) : Int) == ((q : Nat) : Int)) = true := by simp [hxq]
          have hb2 : (((x.length : Nat) : Int) != ((q : Nat) : Int)) = false := by simp [hxq]
          have hxl : x.length ≤ 256 := by omega
          clear hxq
          go_wp2
          go_quiet (fail)
          have hXd := Lib.hid (HX.out.trans (Ext.drewN wr nq))
          have hssz : (s.size : Int) + ((x.length : Nat) : Int) ≤ 1000000000 := by omega
          have HSX : Hid (s ++ ⟨x.toArray⟩ = ⟨(ps.take (i + 1)).flatten.toArray⟩) := Lib.hid (by rw [HFS.out, HSS.out]; apply ByteArray.ext; simp)
          have HSZ : Hid ((s ++ ⟨x.toArray⟩ : ByteArray).size = s.size + x.length) := Lib.hid (by rw [ByteArray.size_append]; show s.size + x.toArray.size = _; rw [List.size_toArray])
          clear hb hb2
          go_wp2
          go_roundw
          case rel => exact ⟨i + 1, _, HLT.out, by simp, rfl, by rw [HSZ.out]; omega, HSX, hXd, HE⟩
          case measure => simp [intOf]; have := HLT.out; omega
        · obtain rfl : i = ct := by omega
          have HALL : Hid (ps.map List.length = lensL l) := Lib.hid (by
            refine List.ext_getElem ?_ fun j h1 h2 => ?_
            · have h1 := HPL.out; have h2 := HPC.out; have h3 := HLL.out; simp only [natL, List.length_map] at h3 ⊢; omega
            · rw [List.getElem_map]
              have h3 : j < ps.length := by simpa using h1
              exact HF.out j h3 h2 (by have := HPL.out; have := HPC.out; omega))
          have HE : Hid (joinL ps l = (cutL ps.flatten l, 0)) := Lib.hid (join_ok HS.out HALL.out)
          have HFL := Lib.hid (flatten_sum HALL.out)
          have HS0 : Hid (s = ⟨(ps.flatten.drop (sumN (l.take 0))).toArray⟩) := Lib.hid (by rw [HSS.out, show i = ps.length by rw [HPL.out, HPC.out], List.take_length]; simp [sumN])
          have hss0 : s.size ≤ 3000000000 := by omega
          clear hss HSS
          go_wp2
          go_loopw [8, 10, 11] (fun vs vb ix w2 => ∃ (j : Nat) (s : ByteArray), j ≤ k ∧ ix = .int .i64 j ∧ vs = .string s ∧ Hid (s = ⟨(ps.flatten.drop (sumN (l.take j))).toArray⟩) ∧ Hid (Ext w w2) ∧ Hid (OwnTx w.heap.size w2 vb (cutL ps.flatten (l.take j)))) (fun _ _ ix _ => k - (intOf ix).toNat)
          case atStart => exact ⟨0, s, Nat.zero_le _, rfl, rfl, HS0, Lib.hid (HX1.out.trans HX.out), Lib.hid (OwnTx.nil _ _)⟩
          case round =>
            obtain ⟨j, s, hj, rfl, rfl, HSS, HX2, HO2⟩ := hrel
            obtain ⟨vo, vc, rfl⟩ := owns_shape HO2.out
            by_cases hjlt : j < k
            · have hjl : j < l.length := by have := HN.out; omega
              obtain ⟨b, o, rfl, hcl0⟩ := HI.out.at hjl
              have hcl := HX2.out.cell (p := ⟨b, o + j, none⟩) (fun f => f) _ hcl0
              have hidx := fun w => run_indexSl w Try.underlying32 CHI.out CHS.out b o k cap j hjlt
              simp only [Nat.mul_one] at hidx
              obtain ⟨xn, hxn⟩ : ∃ xn : Nat, l[j] = (xn : Int) := ⟨l[j].toNat, by have := HS.out _ (List.getElem_mem hjl); omega⟩
              have hx2 : xn ≤ 2048 := by have := HS.out _ (List.getElem_mem hjl); omega
              have HCS := Lib.hid (cutL_take_succ ps.flatten l j hjl)
              have HSN := Lib.hid (sumN_take_succ l j hjl)
              have HSL := Lib.hid (sumN_take_le l (j + 1))
              rw [hxn] at hcl HCS HSN
              rw [Int.toNat_natCast] at HCS HSN
              have HSZ : Hid (xn ≤ s.size) := Lib.hid (by
                rw [HSS.out]
                have h1 := HFL.out; have h2 := HSN.out; have h3 := HSL.out
                simp only [ByteArray.size, List.size_toArray, List.length_drop]
                omega)
              have hxs : (xn : Int) ≤ ((s.size : Nat) : Int) := by have := HSZ.out; omega
              have HC1 : Hid (s.extract 0 xn = ⟨((ps.flatten.drop (sumN (l.take j))).take xn).toArray⟩) := Lib.hid (by rw [HSS.out, ext_take])
              have HC2 : Hid (s.extract xn s.size = ⟨(ps.flatten.drop (sumN (l.take (j + 1)))).toArray⟩) := Lib.hid (by rw [HSS.out, ext_drop, List.drop_drop, HSN.out])
              have hone := fun w => oneTx w (s.extract 0 xn)
              have HLT := Lib.hid hjlt
              have HGL : Hid ((cutL ps.flatten (l.take j)).length ≤ 200000000) := Lib.hid (by rw [cutL_length, List.length_take]; omega)
              have HCL0 := Lib.hid hcl
              clear hcl0 hjl hxn
              generalize cutL ps.flatten (l.take j) = G1 at *
              go_wp2_with (at_builtin; go_must (refine wpList_tx rfl _ _ rfl HC1.out HX2.out HO2.out rfl rfl HGL.out ?_))
              intro g3 cap3 w4 hx4 ho4
              have HX4 := Lib.hid hx4; have HO4 : Hid (OwnTx w.heap.size w4 (.slice (some ⟨g3, 0, none⟩) (G1.length + 1) cap3) (cutL ps.flatten (l.take (j + 1)))) := Lib.hid (by rw [HCS.out]; exact ho4)
              have hcl4 : w4.cell? ⟨b, o + j, none⟩ = some (.int .i64 (xn : Nat)) := by
                obtain ⟨b', o', e, h⟩ := (HI.out.ext HX4.out).at (j := j) (by have := HN.out; have := HLT.out; omega)
                cases e
                obtain ⟨b'', o'', e, h'⟩ := (HI.out.ext HX2.out).at (j := j) (by have := HN.out; have := HLT.out; omega)
                cases e
                rw [HCL0.out] at h'
                rw [h, ← h']
              clear hx4 ho4 hone hcl
              generalize G1.length + 1 = n3 at *
              go_wp2
              go_roundw
              case rel => exact ⟨j + 1, _, HLT.out, by simp, rfl, HC2, HX4, HO4⟩
              case measure => simp [intOf]; have := HLT.out; omega
            · obtain rfl : j = k := by omega
              have HT1 : Hid (l.take j = l) := Lib.hid (by rw [← HN.out, List.take_length])
              have HE2 : Hid (joinL ps l = (cutL ps.flatten (l.take j), 0)) := Lib.hid (by rw [HE.out, HT1.out])
              go_wp2
              go_ret2
              exact ⟨_, by rw [HE2.out]; rfl, HX2.out, by rw [HE2.out]; exact HO2.out.tx⟩
end Go.Proofs.Ytolelgbkohccbaa
