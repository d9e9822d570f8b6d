/-
  chunk: Count, fit, Join; the document's Lengths, Join.
-/
import Derived.Test.YtolelgbkohccbaaChkD
namespace Go.Proofs.Ytolelgbkohccbaa
open Go.RowKit Go.Lac

theorem run_takeT {P : Program} {w : World} {t e : TypeId} (h : P.underlying t = some (.slice e)) {inf : TypeInfo} (hinf : P.info? e = some inf) (hsz : inf.size = 1) (ao : Option Addr) (n cap k : Nat) (hk : k ≤ cap) (w0 : World) :
    (Instr.sliceAt t (.slice ao n cap) none (some (.int .i64 (k : Nat))) none).run P w0 = .ok (.slice ao k cap) w0 := by
  have he := elem_eq h
  have h' : P.underlying t = some (.slice (P.elem t)) := by rw [he]; exact h
  have hs : sliced ao 0 k cap 1 = .slice ao k cap := by
    unfold sliced
    cases ao with
    | none => simp
    | some a => obtain ⟨b, off, s⟩ := a; simp [Addr.add]
  rw [run_sliceAt_slice (h := h'), run_slice_h (ht := h') (h0 := by omega) (h2 := by omega), he]
  simp [sizeOf, typeInfo, hinf, hsz, hs]
theorem run_dropT {P : Program} {w : World} {t e : TypeId} {inf : TypeInfo} (h : P.underlying t = some (.slice e)) (hinf : P.info? e = some inf) (hsz : inf.size = 1) {ao : Option Addr} {n cap : Nat} {cs : List Value} (hr : Sl w (.slice ao n cap) n cs) (hl : cs.length = n) (k : Nat) (hk : k ≤ n) :
    ∃ ao' cap', (∀ w0, (Instr.sliceAt t (.slice ao n cap) (some (.int .i64 (k : Nat))) none none).run P w0 = .ok (.slice ao' (n - k) cap') w0) ∧ Sl w (.slice ao' (n - k) cap') (n - k) (cs.drop k) := by
  obtain ⟨ao', cap', e0, g1, g2, g3, g5⟩ := hr
  cases e0
  have he := elem_eq h
  have h' : P.underlying t = some (.slice (P.elem t)) := by rw [he]; exact h
  have key : ∀ w0 : World, (Instr.sliceAt t (.slice ao n cap) (some (.int .i64 (k : Nat))) none none).run P w0 = .ok (sliced ao k n cap 1) w0 := fun w0 => by
    rw [run_sliceAt_slice (h := h'), run_slice_l (ht := h') (h0 := by omega) (h1 := by omega), he]
    simp [sizeOf, typeInfo, hinf, hsz]
  unfold sliced at key
  by_cases hcn : cap = k
  · rw [if_pos hcn] at key
    refine ⟨ao, cap - k, fun w0 => by rw [key], ao, cap - k, rfl, by omega, by omega, fun h0 => by have := g3 h0; omega, fun x hx j u hu => ?_⟩
    have : cs.drop k = [] := List.drop_eq_nil_of_le (by omega)
    rw [this] at hu
    simp at hu
  · rw [if_neg hcn] at key
    refine ⟨ao.map (·.add (k * 1)), cap - k, fun w0 => by rw [key], ao.map (·.add (k * 1)), cap - k, rfl, by omega, by omega, fun h0 => by (cases ao with | none => have := g3 rfl; omega | some a => simp at h0), fun x hx j u hu => ?_⟩
    cases ao with
    | none => simp at hx
    | some a =>
      rw [List.getElem?_drop] at hu
      obtain ⟨b, off, rfl, h6⟩ := g5 a rfl _ u hu
      simp at hx
      subst hx
      exact ⟨b, off + k, by rw [Addr.add_lit], by rw [show off + k + j = off + (k + j) by omega]; exact h6⟩
theorem TxS.take {w : World} {ao : Option Addr} {n cap : Nat} {l : List (List UInt8)} (h : TxS w (.slice ao n cap) l) (k : Nat) (hk : k ≤ l.length) : TxS w (.slice ao k cap) (l.take k) := by
  obtain ⟨ao', cap', e0, g1, g2, g3, g5⟩ := h
  cases e0
  unfold TxS
  rw [List.length_take, Nat.min_eq_left hk]
  refine ⟨ao, cap, rfl, by omega, g2, g3, fun x hx j u hu => g5 x hx j u ?_⟩
  rw [List.map_take, List.getElem?_take] at hu
  split at hu
  · exact hu
  · cases hu

set_option maxRecDepth 20000 in
theorem chunkCount_any (v : Value) (l : List Int) (w : World) (h : InS w v l) (hl : l.length ≤ 1000) (hb : ∀ n ∈ l, n ≤ 1000000) :
    Calls Try.prog 15 #[v] w fun e w' => e = .returned (.int .i64 (cntL l : Nat)) ∧ w = w' := by
  have HT := Lib.hid h; have HB := Lib.hid hb
  obtain ⟨ao, cap, rfl, h1, h2⟩ := h.shape
  obtain ⟨ci, chi, chz, chs, chb⟩ := info_parts infoInt
  have CHI := Lib.hid chi; have CHS := Lib.hid chs
  clear h h1 h2 chi chs chz chb hb
  generalize hn : l.length = n at *
  have HN := Lib.hid hn; clear hn
  go_enter Try.func15, Try.ntmps15
  go_wp2
  go_loop [3, 8] (fun vc ix => ∃ (k c : Nat), k ≤ n ∧ ix = .int .i64 k ∧ vc = .int .i64 (c : Nat) ∧ Hid (c = cntL (l.take k)) ∧ c ≤ k * 1000000) (fun _ ix => n - (intOf ix).toNat)
  case atStart => exact ⟨0, 0, Nat.zero_le _, rfl, rfl, Lib.hid (by simp [cntL]), by omega⟩
  case round =>
    obtain ⟨k, c, hk, rfl, rfl, HC, hc⟩ := hrel
    by_cases hlt : k < n
    · have hkl : k < l.length := by have := HN.out; omega
      obtain ⟨b, o, rfl, hcl⟩ := HT.out.at hkl
      have hidx := run_indexSl w Try.underlying32 CHI.out CHS.out b o n cap k hlt
      rw [Nat.mul_one] at hidx
      have HTK := Lib.hid (cntL_take_succ l k hkl)
      have hx := HB.out l[k] (List.getElem_mem hkl)
      generalize l[k] = x at *
      have HCN := Lib.hid (count_any x w (by omega))
      have hcx : cnt x.toNat ≤ 1000000 := by unfold cnt; omega
      generalize cnt x.toNat = q at *
      clear hkl
      go_wp2_with fail
      refine HCN.out.mono ?_
      rintro e w1 ⟨rfl, rfl⟩
      go_wp2
      go_round
      case rel => exact ⟨k + 1, c + q, hlt, by simp, by simp, Lib.hid (by rw [HTK.out, HC.out]), by omega⟩
      case measure => simp [intOf]; omega
    · obtain rfl : k = n := by omega
      have HF : Hid (c = cntL l) := Lib.hid (by rw [HC.out, ← HN.out, List.take_length])
      go_wp2
      go_ret
      exact ⟨by rw [← HF.out]; rfl, rfl⟩

set_option maxRecDepth 20000 in
theorem fit_any (v : Value) (ps : List (List UInt8)) (n : Nat) (w : World) (h : TxS w v ps) (hn : n ≤ 1000000) (hp : ps.length = cnt n) :
    Calls Try.prog 21 #[v, .int .i64 (n : Nat)] w fun e w' => e = .returned (.bool (decide (ps.map List.length = lens n))) ∧ w = w' := by
  have HT := Lib.hid h
  obtain ⟨ao, cap, rfl, h1, h2⟩ := h.shape
  obtain ⟨ci, chi, chz, chs, chb⟩ := info_parts infoStr
  have CHI := Lib.hid chi; have CHS := Lib.hid chs
  have hm : ps.length ≤ 1000000 := by rw [hp]; unfold cnt; omega
  clear h h1 h2 chi chs chz chb
  have HP := Lib.hid hp
  clear hp
  generalize hm2 : ps.length = m at *
  have HM := Lib.hid hm2; clear hm2
  go_enter Try.func21, Try.ntmps21
  go_wp2
  go_loop [9] (fun ix => ∃ (k : Nat), k ≤ m ∧ ix = .int .i64 k ∧ Hid (∀ j (h : j < ps.length), j < k → ps[j].length = min (n - j * 256) 256)) (fun ix => m - (intOf ix).toNat)
  case atStart => exact ⟨0, Nat.zero_le _, rfl, Lib.hid fun j h hj => absurd hj (Nat.not_lt_zero _)⟩
  case round =>
    obtain ⟨k, hk, rfl, HC⟩ := hrel
    by_cases hlt : k < m
    · have hkl : k < ps.length := by have := HM.out; omega
      obtain ⟨b, o, rfl, hcl⟩ := HT.out.at hkl
      have hidx := run_indexSl w Try.underlying22 CHI.out CHS.out b o m cap k hlt
      rw [Nat.mul_one] at hidx
      have hkn := cnt_lt.1 (show k < cnt n by have := HP.out; omega)
      have HS := Lib.hid (size_any n k w hn (Nat.le_of_lt hkn))
      have HNE : Hid (ps[k].length ≠ min (n - k * 256) 256 → decide (ps.map List.length = lens n) = false) := Lib.hid fun h => decide_eq_false fun e => h (by
        have h3 : k < (lens n).length := by rw [lens_length]; have := HP.out; omega
        have h4 : (ps.map List.length)[k]'(by simpa using hkl) = (lens n)[k] := by simp only [e]
        rw [lens_get] at h4
        simpa using h4)
      have HEQ : Hid (ps[k].length = min (n - k * 256) 256 → ∀ j (h : j < ps.length), j < k + 1 → ps[j].length = min (n - j * 256) 256) := Lib.hid fun e j h hj => by
        by_cases hjk : j < k
        · exact HC.out j h hjk
        · have : j = k := by omega
          subst this
          exact e
      generalize ps[k] = x at *
      unfold strV at hcl
      generalize min (n - k * 256) 256 = q at *
      clear hkl hkn
      go_wp2_with fail
      refine HS.out.mono ?_
      rintro e w1 ⟨rfl, rfl⟩
      by_cases hxq : x.length = q
      · have HE := Lib.hid (HEQ.out hxq)
        have hb : (((x.length : Nat) : Int) == ((q : Nat) : Int)) = true := by simp [hxq]
        have hb2 : (((x.length : Nat) : Int) != ((q : Nat) : Int)) = false := by simp [hxq]
        clear hxq
        go_wp2
        go_round
        case rel => exact ⟨k + 1, hlt, by simp, HE⟩
        case measure => simp [intOf]; omega
      · have HE := Lib.hid (HNE.out hxq)
        have hb : (((x.length : Nat) : Int) == ((q : Nat) : Int)) = false := by simp; omega
        have hb2 : (((x.length : Nat) : Int) != ((q : Nat) : Int)) = true := by simp; omega
        clear hxq
        go_wp2
        go_ret
        exact ⟨by rw [HE.out]; rfl, rfl⟩
    · obtain rfl : k = m := by omega
      have HF : Hid (decide (ps.map List.length = lens n) = true) := Lib.hid (decide_eq_true (by
        refine List.ext_getElem (by rw [List.length_map, lens_length, HM.out, HP.out]) fun j h1 h2 => ?_
        rw [lens_get, List.getElem_map]
        have h3 : j < ps.length := by simpa using h1
        exact HC.out j h3 (by have := HM.out; omega)))
      go_wp2
      go_ret
      exact ⟨by rw [HF.out]; rfl, rfl⟩

def natL (l : List Nat) : List Int := l.map fun n : Nat => (n : Int)
set_option maxRecDepth 20000 in
set_option maxHeartbeats 2000000 in
theorem lengths_any (v : Value) (l : List Int) (w : World) (h : InS w v l) (hl : l.length ≤ 1000) (hb : ∀ n ∈ l, n ≤ 100000) :
    Calls Try.prog 16 #[v] w (InPost (natL (lensL l)) w) := by
  have HT := Lib.hid h; have HB := Lib.hid hb
  obtain ⟨ao, cap, rfl, h1, h2⟩ := h.shape
  obtain ⟨ci, chi, chz, chs, chb⟩ := info_parts infoInt
  have CHI := Lib.hid chi; have CHS := Lib.hid chs
  clear h h1 h2 chi chs chz chb hb
  generalize hn : l.length = n at *
  have HN := Lib.hid hn; clear hn
  go_enter Try.func16, Try.ntmps16
  go_wp2
  go_loopw [3, 4] (fun vb ix wr => ∃ k : Nat, k ≤ n ∧ ix = .int .i64 k ∧ Hid (Ext w wr) ∧ Hid (OwnIn w.heap.size wr vb (natL (lensL (l.take k)))) ∧ Hid ((lensL (l.take k)).length ≤ k * 100000)) (fun _ ix _ => n - (intOf ix).toNat)
  case atStart => exact ⟨0, Nat.zero_le _, rfl, Lib.hid (Ch.refl _ _), Lib.hid (World.ownsRow_nil _ _ _ _), Lib.hid (by simp [lensL])⟩
  case round =>
    obtain ⟨k, hk, rfl, HX, HO, HLEN⟩ := hrel
    obtain ⟨vo, vc, rfl⟩ := owns_shape HO.out
    by_cases hlt : k < n
    · have hkl : k < l.length := by have := HN.out; omega
      obtain ⟨b, o, rfl, hc0⟩ := HT.out.at hkl
      have hc := HX.out.cell (p := ⟨b, o + k, none⟩) (fun f => f) _ hc0
      have hidx := run_indexSl wr Try.underlying32 CHI.out CHS.out b o n cap k hlt
      rw [Nat.mul_one] at hidx
      have HTK : Hid (lensL (l.take (k + 1)) = lensL (l.take k) ++ lens l[k].toNat) := Lib.hid (by rw [List.take_succ_eq_append_getElem hkl, lensL_append]; simp [lensL])
      have HLX := Lib.hid (HB.out l[k] (List.getElem_mem hkl))
      generalize l[k] = x at *
      have HL2 : Hid ((lensL (l.take (k + 1))).length ≤ (k + 1) * 100000) := Lib.hid (by
        have h1 := HLEN.out; have h2 := HLX.out
        have : cnt x.toNat ≤ 100000 := by unfold cnt; omega
        rw [HTK.out, List.length_append, lens_length]; omega)
      have HLT := Lib.hid hlt
      clear hc0 hkl
      have hkb : k ≤ 1000 := by omega
      generalize lensL (l.take k) = S0 at *
      go_wp2
      go_loopw [3, 5] (fun vb vs w2 => ∃ (j : Nat) (m : Int), vs = .int .i64 m ∧ Hid (m = x - ((j * 256 : Nat) : Int)) ∧ Hid (j = 0 ∨ j * 256 < x.toNat) ∧ Hid (Ext w w2) ∧ Hid (OwnIn w.heap.size w2 vb (natL (S0 ++ (lens x.toNat).take j)))) (fun _ vs _ => (intOf vs).toNat)
      case atStart => exact ⟨0, x, rfl, Lib.hid (by simp), Lib.hid (.inl rfl), HX, Lib.hid (by simpa using HO.out)⟩
      case round =>
        obtain ⟨j, m, rfl, HY, HJ, HX2, HO2⟩ := hrel
        obtain ⟨vo2, vc2, rfl⟩ := owns_shape HO2.out
        have HLQ : Hid ((natL (S0 ++ (lens x.toNat).take j)).length ≤ 200000000) := Lib.hid (by have h1 := HLEN.out; have h2 := HLX.out; have := lens_take_le x.toNat j; simp only [natL, List.length_map, List.length_append]; have : k * 100000 ≤ 1000 * 100000 := Nat.mul_le_mul_right _ hkb; omega)
        have hm1 : m ≤ 100000 := by have := HY.out; have := HLX.out; omega
        by_cases hy : 256 < m
        · have hy2 : m > 256 := hy
          have HMO : Hid (natL (S0 ++ (lens x.toNat).take (j + 1)) = natL (S0 ++ (lens x.toNat).take j) ++ [256]) := Lib.hid (by
            rw [lens_more (by have := HY.out; omega), ← List.append_assoc]; simp [natL])
          have HYD : Hid (m - 256 = x - (((j + 1) * 256 : Nat) : Int)) := Lib.hid (by rw [HY.out]; omega)
          have HJ2 : Hid ((j + 1) * 256 < x.toNat) := Lib.hid (by have := HY.out; omega)
          have hone := fun w => oneIn w 256
          generalize natL (S0 ++ (lens x.toNat).take j) = S1 at *
          go_wp2_with (at_builtin; go_must (refine wpList_in rfl _ _ rfl HX2.out HO2.out rfl rfl HLQ.out ?_))
          intro g3 cap3 w3 hx3 ho3
          have HX3 := Lib.hid hx3; have HO3 : Hid (OwnIn w.heap.size w3 (.slice (some ⟨g3, 0, none⟩) (S1.length + 1) cap3) (natL (S0 ++ (lens x.toNat).take (j + 1)))) := Lib.hid (by rw [HMO.out]; exact ho3)
          clear hx3 ho3 hone
          generalize S1.length + 1 = n3 at *
          go_wp2
          go_roundw
          case rel => exact ⟨j + 1, m - 256, rfl, HYD, Lib.hid (.inr HJ2.out), HX3, HO3⟩
          case measure => simp [intOf]; omega
        · have hy2 : ¬ m > 256 := hy
          have HFIN : Hid (natL (S0 ++ lens x.toNat) = natL (S0 ++ (lens x.toNat).take j) ++ (if m ≤ 0 then [] else [m])) := Lib.hid (by
            have h1 := lens_last (n := x.toNat) HJ.out (by have := HY.out; omega)
            have h2 := HY.out
            have h3 := HJ.out
            conv => lhs; rw [← h1]
            by_cases hz : x.toNat - j * 256 = 0
            · rw [if_pos hz, if_pos (by omega)]; simp
            · rw [if_neg hz, if_neg (by omega), ← List.append_assoc]
              have : ((x.toNat - j * 256 : Nat) : Int) = m := by omega
              simp [natL, this])
          generalize natL (S0 ++ (lens x.toNat).take j) = S1 at *
          by_cases hye : m ≤ 0
          · have hne : ¬ m > 0 := by omega
            have HO3 : Hid (OwnIn w.heap.size wr (.slice vo2 S1.length vc2) (natL (lensL (l.take (k + 1))))) := Lib.hid (by rw [HTK.out, HFIN.out, if_pos hye, List.append_nil]; exact HO2.out)
            clear hy hye
            go_wp2
            go_roundw
            case rel => exact ⟨k + 1, HLT.out, by simp, HX2, HO3, HL2⟩
            case measure => simp [intOf]; have := HLT.out; omega
          · have hne : m > 0 := by omega
            have HO4 : Hid (natL (lensL (l.take (k + 1))) = S1 ++ [m]) := Lib.hid (by rw [HTK.out, HFIN.out, if_neg hye])
            have hone := fun w => oneIn w m
            clear hye hy
            go_wp2_with (at_builtin; go_must (refine wpList_in rfl _ _ rfl HX2.out HO2.out rfl rfl HLQ.out ?_))
            intro g3 cap3 w3 hx3 ho3
            have HX3 := Lib.hid hx3; have HO3 : Hid (OwnIn w.heap.size w3 (.slice (some ⟨g3, 0, none⟩) (S1.length + 1) cap3) (natL (lensL (l.take (k + 1))))) := Lib.hid (by rw [HO4.out]; exact ho3)
            clear hx3 ho3 hone
            generalize S1.length + 1 = n3 at *
            go_wp2
            go_roundw
            case rel => exact ⟨k + 1, HLT.out, by simp, HX3, HO3, HL2⟩
            case measure => simp [intOf]; have := HLT.out; omega
    · obtain rfl : k = n := by omega
      have HS : Hid (lensL (l.take k) = lensL l) := Lib.hid (by rw [← HN.out, List.take_length])
      go_wp2
      go_ret
      exact ⟨_, rfl, HX.out, by rw [← HS.out]; exact HO.out⟩
end Go.Proofs.Ytolelgbkohccbaa
