/-
  chunk: Join; the document's Join.
-/
import Derived.Test.YtolelgbkohccbaaChkE
namespace Go.Proofs.Ytolelgbkohccbaa
open Go.RowKit Go.Lac

def JoinPost (r : List (List UInt8) × Nat) (w : World) (e : Ending) (w' : World) : Prop := ∃ v, e = .returned (.tuple #[v, .int .i64 (r.2 : Nat)]) ∧ Ext w w' ∧ TxS w' v r.1
theorem txs_nil (w : World) : TxS w (.slice none 0 0) [] := ⟨none, 0, rfl, Nat.le_refl _, by unfold maxLen; simp, fun _ => rfl, fun x hx => by cases hx⟩
theorem sizes_not {l : List Int} {k : Nat} (h : k < l.length) (hx : l[k] < 0 ∨ 2048 < l[k]) : ¬ sizesOk l := fun hs => by have := hs _ (List.getElem_mem h); omega
set_option maxRecDepth 20000 in
set_option maxHeartbeats 2000000 in
theorem chunkJoin_any (v v2 : Value) (ps : List (List UInt8)) (l : List Int) (w : World) (h : TxS w v ps) (h' : InS w v2 l) (hl : l.length ≤ 1000) :
    Calls Try.prog 13 #[v, v2] w (JoinPost (joinL ps l) w) := by
  have HT := Lib.hid h; have HI := Lib.hid h'
  obtain ⟨po, pc, rfl, g1, g2⟩ := h.shape
  obtain ⟨ao, cap, rfl, h1, h2⟩ := h'.shape
  obtain ⟨ci, chi, chz, chs, chb⟩ := info_parts infoInt
  have CHI := Lib.hid chi; have CHS := Lib.hid chs
  have hpm : ps.length ≤ 9223372036854775807 := by unfold maxLen at g2; omega
  have HPM := Lib.hid (show ps.length ≤ pc ∧ pc ≤ maxLen from ⟨g1, g2⟩)
  clear h h' g1 g2 h1 h2 chi chs chz chb
  generalize hn : l.length = n at *
  have HN := Lib.hid hn; clear hn
  generalize hpl : ps.length = pn at *
  have HPL := Lib.hid hpl; clear hpl
  go_enter Try.func13, Try.ntmps13
  go_wp2
  go_loop [14] (fun ix => ∃ (k : Nat), k ≤ n ∧ ix = .int .i64 k ∧ Hid (∀ j (h : j < l.length), j < k → 0 ≤ l[j] ∧ l[j] ≤ 2048)) (fun ix => n - (intOf ix).toNat)
  case atStart => exact ⟨0, Nat.zero_le _, rfl, Lib.hid fun j h hj => absurd hj (Nat.not_lt_zero _)⟩
  case round =>
    obtain ⟨k, hk, rfl, HC⟩ := hrel
    by_cases hlt : k < n
    · have hkl : k < l.length := by have := HN.out; omega
      obtain ⟨b, o, rfl, hcl⟩ := HI.out.at hkl
      have hidx := run_indexSl w Try.underlying32 CHI.out CHS.out b o n cap k hlt
      rw [Nat.mul_one] at hidx
      have HBAD : Hid ((l[k] < 0 ∨ 2048 < l[k]) → joinL ps l = ([], 4)) := Lib.hid fun h => join_range (sizes_not hkl h)
      have HOK : Hid ((0 ≤ l[k] ∧ l[k] ≤ 2048) → ∀ j (h : j < l.length), j < k + 1 → 0 ≤ l[j] ∧ l[j] ≤ 2048) := Lib.hid fun e j h hj => by
        by_cases hjk : j < k
        · exact HC.out j h hjk
        · have : j = k := by omega
          subst this
          exact e
      generalize l[k] = x at *
      clear hkl
      by_cases hx0 : x < 0
      · have HE := Lib.hid (HBAD.out (.inl hx0))
        go_wp2
        go_ret2
        exact ⟨_, by rw [HE.out]; rfl, Ch.refl _ _, by rw [HE.out]; exact txs_nil _⟩
      · by_cases hx1 : x > 2048
        · have HE := Lib.hid (HBAD.out (.inr hx1))
          go_wp2
          go_ret2
          exact ⟨_, by rw [HE.out]; rfl, Ch.refl _ _, by rw [HE.out]; exact txs_nil _⟩
        · have HE := Lib.hid (HOK.out ⟨by omega, by omega⟩)
          go_wp2
          go_round
          case rel => exact ⟨k + 1, hlt, by simp, HE⟩
          case measure => simp [intOf]; omega
    · obtain rfl : k = n := by omega
      have HS : Hid (sizesOk l) := Lib.hid fun x hx => by
        obtain ⟨j, hj, rfl⟩ := List.getElem_of_mem hx
        exact HC.out j hj (by have := HN.out; omega)
      have HCN := Lib.hid (chunkCount_any _ l w HI.out (by rw [HN.out]; omega) (fun x hx => by have := HS.out x hx; omega))
      generalize hct : cntL l = ct at HCN
      have HCT := Lib.hid hct; clear hct
      have hctb : ct ≤ 3000000 := by
        have h1 := cntL_le (l := l) (M := 2048) fun x hx => by have := HS.out x hx; omega
        have h2 := HN.out; have h3 := HCT.out
        have : l.length * 2048 ≤ 1000 * 2048 := Nat.mul_le_mul_right _ (by omega)
        omega
      go_wp2_with fail
      refine HCN.out.mono ?_
      rintro e w1 ⟨rfl, rfl⟩
      by_cases hpc : pn = ct
      case neg =>
        have HE : Hid (joinL ps l = ([], 16)) := Lib.hid (join_wrong HS.out (join_count (by rw [HPL.out, HCT.out]; exact hpc)))
        have hb : (((pn : Nat) : Int) == ((ct : Nat) : Int)) = false := by simp; omega
        have hb2 : (((pn : Nat) : Int) != ((ct : Nat) : Int)) = true := by simp; omega
        clear hpc
        go_wp2
        go_ret2
        exact ⟨_, by rw [HE.out]; rfl, Ch.refl _ _, by rw [HE.out]; exact txs_nil _⟩
      have HPC := Lib.hid hpc
      have hb : (((pn : Nat) : Int) == ((ct : Nat) : Int)) = true := by simp [hpc]
      have hb2 : (((pn : Nat) : Int) != ((ct : Nat) : Int)) = false := by simp [hpc]
      clear hpc
      go_wp2
      clear hb hb2
      go_loopw [0, 8, 32] (fun vp vt ix wr => ∃ (i : Nat) (pv : Option Addr) (pk : Nat) (pcap : Nat), i ≤ k ∧ ix = .int .i64 i ∧ vp = .slice pv pk pcap ∧ Hid (pk = (ps.drop (cntL (l.take i))).length) ∧ Hid (Ext w wr) ∧ Hid (TxS w (.slice pv pk pcap) (ps.drop (cntL (l.take i)))) ∧ Hid (OwnTx w.heap.size wr vt (grp ps (l.take i))) ∧
        Hid ((ps.take (cntL (l.take i))).map List.length = lensL (l.take i))) (fun _ _ ix _ => k - (intOf ix).toNat)
      case atStart => exact ⟨0, po, pn, pc, Nat.zero_le _, rfl, rfl, Lib.hid (by simp [cntL, HPL.out]), Lib.hid (Ch.refl _ _), Lib.hid (by simpa [cntL] using HT.out), Lib.hid (by simpa [grp] using OwnTx.nil _ _), Lib.hid (by simp [cntL, lensL])⟩
      case round =>
        obtain ⟨i, pv, pk, pcap, hi, rfl, rfl, HPK, HX, HTX, HO, HF⟩ := hrel
        obtain ⟨vo, vc, rfl⟩ := owns_shape HO.out
        by_cases hilt : i < k
        · have hkl : i < l.length := by have := HN.out; omega
          obtain ⟨b, o, rfl, hcl0⟩ := HI.out.at hkl
          have hcl := HX.out.cell (p := ⟨b, o + i, none⟩) (fun f => f) _ hcl0
          have hidx := run_indexSl wr Try.underlying32 CHI.out CHS.out b o k cap i hilt
          rw [Nat.mul_one] at hidx
          obtain ⟨xn, hxn⟩ : ∃ xn : Nat, l[i] = (xn : Int) := ⟨l[i].toNat, by have := HS.out _ (List.getElem_mem hkl); omega⟩
          have hx2 : xn ≤ 2048 := by have := HS.out _ (List.getElem_mem hkl); omega
          have HCS := Lib.hid (cntL_take_succ l i hkl)
          have HGS := Lib.hid (grp_take_succ ps l i hkl)
          have HFS := Lib.hid (fit_step (ps := ps) hkl HF.out)
          have HFN := Lib.hid (fit_not (ps := ps) hkl)
          rw [hxn] at hcl HCS HGS HFS HFN
          rw [Int.toNat_natCast] at HCS HGS HFS HFN
          have HCL := Lib.hid (cntL_take_le l (i + 1))
          obtain ⟨c, hc⟩ : ∃ c, c = cntL (l.take i) := ⟨_, rfl⟩
          obtain ⟨q, hq⟩ : ∃ q, q = cnt xn := ⟨_, rfl⟩
          have HCN2 := Lib.hid (count_any (xn : Nat) wr (by omega))
          rw [Int.toNat_natCast, ← hq] at HCN2
          rw [← hc] at HPK HTX HF HCS HGS HFS HFN
          rw [← hq] at HCS HGS HFS HFN
          have hqk : q ≤ pk := by have h1 := HPK.out; rw [List.length_drop, HPL.out, HPC.out, ← HCT.out] at h1; have := HCS.out; have := HCL.out; omega
          obtain ⟨cs, cst, csz, css, csb⟩ := info_parts infoStr
          have hpp : pk ≤ pcap ∧ pcap ≤ maxLen := by obtain ⟨_, _, e, g1, g2⟩ := HTX.out.shape; cases e; exact ⟨by have := HPK.out; omega, g2⟩
          have hpm2 : pk ≤ 3000000 := by have := HPK.out; rw [List.length_drop, HPL.out, HPC.out] at this; omega
          have htk := fun w0 => run_takeT (P := Try.prog) (w := w) (t := 22) Try.underlying22 cst css pv pk pcap q (by omega) w0
          obtain ⟨dv, dc, hdr, hds⟩ := run_dropT (P := Try.prog) (t := 22) Try.underlying22 cst css (w := w) (ao := pv) (n := pk) (cap := pcap) (cs := (ps.drop c).map strV) (by have := HTX.out; unfold TxS at this; rwa [← HPK.out] at this) (by rw [List.length_map, ← HPK.out]) q hqk
          have HTK : Hid (TxS w (.slice pv q pcap) ((ps.drop c).take q)) := Lib.hid (HTX.out.take q (by have := HPK.out; omega))
          have HTL : Hid (((ps.drop c).take q).length = q) := Lib.hid (by rw [List.length_take]; have := HPK.out; omega)
          have HTD : Hid (TxS w (.slice dv (pk - q) dc) (ps.drop (c + q))) := Lib.hid (by
            unfold TxS
            rw [show (ps.drop (c + q)).length = pk - q by rw [List.length_drop]; have := HPK.out; rw [List.length_drop] at this; omega]
            rw [← List.drop_drop, List.map_drop]
            exact hds)
          have HFT := Lib.hid (fit_any _ _ xn wr (HTK.out.ext HX.out) (by omega) (by rw [HTL.out, hq]))
          have HPK2 : Hid (pk - q = (ps.drop (c + q)).length) := Lib.hid (by rw [List.length_drop]; have := HPK.out; rw [List.length_drop] at this; omega)
          have HLT := Lib.hid hilt; have HDR := Lib.hid hdr; have HTKE := Lib.hid htk
          have hqm : q ≤ 3000000 := by omega
          clear hcl0 hkl hxn hc hq hds cst css csz csb hpp hdr
          go_wp2_with fail
          refine HCN2.out.mono ?_
          rintro e w2 ⟨rfl, rfl⟩
          go_wp2_with fail
          refine HFT.out.mono ?_
          rintro e w2 ⟨rfl, rfl⟩
          by_cases hft : ((ps.drop c).take q).map List.length = lens xn
          case neg =>
            have HE : Hid (joinL ps l = ([], 16)) := Lib.hid (join_wrong HS.out (HFN.out hft))
            rw [decide_eq_false hft]
            clear hft
            go_wp2
            go_ret2
            exact ⟨_, by rw [HE.out]; rfl, HX.out, by rw [HE.out]; exact txs_nil _⟩
          have HJ := Lib.hid (join_any _ _ wr (HTK.out.ext HX.out) (by rw [HTL.out]; omega) (by rw [flat_length, hft, lens_sum]; omega))
          have HF2 := Lib.hid (HFS.out hft)
          rw [decide_eq_true hft]
          clear hft HFS HFN
          generalize hfl : ((ps.drop c).take q).flatten = fl at *
          have HFL := Lib.hid hfl; clear hfl
          have HGL : Hid ((grp ps (l.take i)).length ≤ 200000000) := Lib.hid (by rw [grp_length, List.length_take]; omega)
          unfold strV at HJ
          go_wp2_with fail
          refine HJ.out.mono ?_
          rintro e w3 ⟨rfl, hx3⟩
          have HX3 := Lib.hid (HX.out.trans hx3); have HO3 := Lib.hid (HO.out.ext hx3); have HXX := Lib.hid hx3
          have hone := fun w => oneTx w ⟨fl.toArray⟩
          have hdr := HDR.out
          clear hx3 hcl hidx htk
          generalize grp ps (l.take i) = G1 at *
          go_wp2_with (at_builtin; go_must (refine wpList_tx rfl _ _ rfl rfl HX3.out HO3.out rfl rfl HGL.out ?_))
          intro g3 cap3 w4 hx4 ho4
          have HX4 := Lib.hid hx4; have HO4 : Hid (OwnTx w.heap.size w4 (.slice (some ⟨g3, 0, none⟩) (G1.length + 1) cap3) (grp ps (l.take (i + 1)))) := Lib.hid (by rw [HGS.out]; exact ho4)
          clear hx4 ho4 hone
          generalize G1.length + 1 = n3 at *
          go_wp2
          go_roundw
          case rel => exact ⟨i + 1, dv, pk - q, dc, HLT.out, by simp, rfl, by rw [HCS.out]; exact HPK2, HX4, by rw [HCS.out]; exact HTD, HO4, HF2⟩
          case measure => simp [intOf]; have := HLT.out; omega
        · obtain rfl : i = k := by omega
          have HT1 : Hid (l.take i = l) := Lib.hid (by rw [← HN.out, List.take_length])
          have HALL : Hid (ps.map List.length = lensL l) := Lib.hid (fit_all (by rw [HPL.out, HCT.out]; exact HPC.out) (by have := HF.out; rwa [HT1.out] at this))
          have HE : Hid (joinL ps l = (grp ps (l.take i), 0)) := Lib.hid (by rw [join_ok HS.out HALL.out, HT1.out, grp_cut _ _ HALL.out])
          go_wp2
          go_ret2
          exact ⟨_, by rw [HE.out]; rfl, HX.out, by rw [HE.out]; exact HO.out.tx⟩
end Go.Proofs.Ytolelgbkohccbaa
