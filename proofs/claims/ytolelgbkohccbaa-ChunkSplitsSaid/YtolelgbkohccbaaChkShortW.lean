/-
  ChunkShort: the walk.
-/
import Derived.Test.YtolelgbkohccbaaChkI
namespace Go.Proofs.Ytolelgbkohccbaa
open Go.RowKit Go.Lac

theorem not_great {l : List (List UInt8)} {most : Nat} (h : ¬ GreatL l most) : l.length ≤ most ∧ ∀ b ∈ l, b.length ≤ 3000 := by
  constructor
  · have : ¬ (most : Int) < l.length := fun k => h (.inr k)
    omega
  · intro b hb
    have : ¬ 3000 < b.length := fun k => h (.inl ⟨b, hb, k⟩)
    omega
set_option maxRecDepth 20000 in
set_option maxHeartbeats 2000000 in
theorem chunkShort_walk (v : Value) (l : List (List UInt8)) (w : World) (h : TxS w v l) :
    Calls Try.prog 6 #[v] w fun e w' => e = .returned (.bool true) ∧ Ext w w' := by
  have HT := Lib.hid h
  have HG := Lib.hid (great_any v l (12 : Nat) w h)
  obtain ⟨ao, cap, rfl, h1, h2⟩ := h.shape
  obtain ⟨di, dhi, dhz, dhs, dhb⟩ := info_parts infoStr
  have DHI := Lib.hid dhi; have DHS := Lib.hid dhs
  clear h h1 h2 dhi dhz dhs dhb
  by_cases hg : GreatL l (12 : Nat)
  · rw [decide_eq_true hg] at HG
    clear hg
    go_enter Try.func6, Try.ntmps6
    go_wp2_with fail
    refine HG.out.mono ?_
    rintro e w1 ⟨rfl, rfl⟩
    go_wp2
    go_ret
    exact ⟨rfl, Ch.refl _ _⟩
  rw [decide_eq_false hg] at HG
  have HB := Lib.hid (not_great hg).2
  have hn12 := (not_great hg).1
  have HSP := Lib.hid (split_any _ l w HT.out (by omega) (fun b hb => by have := HB.out b hb; omega))
  have hpl : (splitL l).length ≤ 36000 := by
    have h1 := splitL_len_le (l := l) (M := 3000) HB.out
    have := Nat.mul_le_mul_right 3000 hn12
    omega
  clear hg
  generalize hn : l.length = n at *
  have HN := Lib.hid hn; clear hn
  go_enter Try.func6, Try.ntmps6
  go_wp2_with fail
  refine HG.out.mono ?_
  rintro e w1 ⟨rfl, rfl⟩
  go_wp2_with fail
  refine HSP.out.mono ?_
  rintro e w1 ⟨pv, rfl, hx1, ho1⟩
  have HX1 := Lib.hid hx1
  have HTP : Hid (TxS w1 pv (splitL l)) := Lib.hid (Sl.ofOwns ho1)
  obtain ⟨po, pc, rfl⟩ := owns_shape ho1
  have HMEM : Hid (∀ b ∈ splitL l, 1 ≤ b.length ∧ b.length ≤ 256) := Lib.hid fun b hb => splitL_mem hb
  have HFL := Lib.hid (splitL_flat l)
  generalize hpn : (splitL l).length = pn at *
  have HPN := Lib.hid hpn
  generalize splitL l = S at *
  clear hx1 ho1 hpn
  go_wp2
  go_loopw [3, 6] (fun vs ix wr => ∃ (i : Nat) (s : ByteArray), i ≤ pn ∧ wr = w1 ∧ ix = .int .i64 i ∧ vs = .string s ∧ s.size ≤ i * 256 ∧ Hid (s = ⟨(S.take i).flatten.toArray⟩)) (fun _ ix _ => pn - (intOf ix).toNat)
  case atStart => exact ⟨0, _, Nat.zero_le _, rfl, rfl, rfl, by simp [ByteArray.size], Lib.hid (by simp)⟩
  case round =>
    obtain ⟨i, s, hi, rfl, rfl, rfl, hss, HSS⟩ := hrel
    by_cases hilt : i < pn
    · have hip : i < S.length := by have := HPN.out; omega
      obtain ⟨b, o, rfl, hcp⟩ := HTP.out.at hip
      have hidx := run_indexSl wr Try.underlying22 DHI.out DHS.out b o pn pc i hilt
      rw [Nat.mul_one] at hidx
      have HFS := Lib.hid (flatten_take_succ S i hip)
      have hxb := HMEM.out _ (List.getElem_mem hip)
      generalize S[i] = x at *
      have hx1 : ¬ ((x.length : Nat) : Int) < 1 := by omega
      have hx2 : ¬ ((x.length : Nat) : Int) > 256 := by omega
      have hssz : (s.size : Int) + ((x.length : Nat) : Int) ≤ 1000000000 := by omega
      have HSX : Hid (s ++ ⟨x.toArray⟩ = ⟨(S.take (i + 1)).flatten.toArray⟩) := Lib.hid (by rw [HFS.out, HSS.out]; apply ByteArray.ext; simp)
      have HSZ : Hid ((s ++ ⟨x.toArray⟩ : ByteArray).size = s.size + x.length) := Lib.hid (by rw [ByteArray.size_append]; show s.size + x.toArray.size = _; rw [List.size_toArray])
      have HLT := Lib.hid hilt
      clear hip
      unfold strV at hcp
      go_wp2
      go_roundw
      case rel => exact ⟨i + 1, _, HLT.out, trivial, by simp, rfl, by rw [HSZ.out]; omega, HSX⟩
      case measure => simp [intOf]; have := HLT.out; omega
    · obtain rfl : i = pn := by omega
      have HSF : Hid (s = ⟨l.flatten.toArray⟩) := Lib.hid (by rw [HSS.out, ← HFL.out, ← HPN.out, List.take_length])
      clear hss HSS
      go_wp2
      go_loopw [4, 7] (fun vs ix w2 => ∃ (j : Nat) (t : ByteArray), j ≤ n ∧ w2 = wr ∧ ix = .int .i64 j ∧ vs = .string t ∧ t.size ≤ j * 3000 ∧ Hid (t = ⟨(l.take j).flatten.toArray⟩)) (fun _ ix _ => n - (intOf ix).toNat)
      case atStart => exact ⟨0, _, Nat.zero_le _, rfl, rfl, rfl, by simp [ByteArray.size], Lib.hid (by simp)⟩
      case round =>
        obtain ⟨j, t, hj, rfl, rfl, rfl, hts, HTS⟩ := hrel
        by_cases hjlt : j < n
        · have hjl : j < l.length := by have := HN.out; omega
          obtain ⟨b, o, rfl, hcp⟩ := (HT.out.ext HX1.out).at hjl
          have hidx := run_indexSl wr Try.underlying22 DHI.out DHS.out b o n cap j hjlt
          rw [Nat.mul_one] at hidx
          have HFS := Lib.hid (flatten_take_succ l j hjl)
          have hxb := HB.out _ (List.getElem_mem hjl)
          generalize l[j] = x at *
          have hssz : (t.size : Int) + ((x.length : Nat) : Int) ≤ 1000000000 := by omega
          have HSX : Hid (t ++ ⟨x.toArray⟩ = ⟨(l.take (j + 1)).flatten.toArray⟩) := Lib.hid (by rw [HFS.out, HTS.out]; apply ByteArray.ext; simp)
          have HSZ : Hid ((t ++ ⟨x.toArray⟩ : ByteArray).size = t.size + x.length) := Lib.hid (by rw [ByteArray.size_append]; show t.size + x.toArray.size = _; rw [List.size_toArray])
          have HLT := Lib.hid hjlt
          clear hjl
          unfold strV at hcp
          go_wp2
          go_roundw
          case rel => exact ⟨j + 1, _, HLT.out, trivial, by simp, rfl, by rw [HSZ.out]; omega, HSX⟩
          case measure => simp [intOf]; have := HLT.out; omega
        · obtain rfl : j = n := by omega
          have hst : s = t := by rw [HSF.out, HTS.out, ← HN.out, List.take_length]
          subst hst
          have hbe : (s.toList == s.toList) = true := by simp
          clear hts HTS
          go_wp2_with (go_at_call 12; refine (awake11_any _).mono ?_)
          rintro e w3 ⟨rfl, hx3⟩
          have HX3 := Lib.hid hx3
          clear hx3
          go_wp2
          go_ret
          exact ⟨rfl, HX1.out.trans HX3.out⟩
end Go.Proofs.Ytolelgbkohccbaa
