/-
  ChunkJoins: the walk.
-/
import Derived.Test.YtolelgbkohccbaaChkI
import Derived.Test.YtolelgbkohccbaaChkH
import Derived.Test.YtolelgbkohccbaaChkShortW
namespace Go.Proofs.Ytolelgbkohccbaa
open Go.RowKit Go.Lac

set_option maxRecDepth 20000 in
set_option maxHeartbeats 2000000 in
theorem chunkJoins_walk (v v2 : Value) (ps : List (List UInt8)) (l : List Int) (w : World) (h : TxS w v ps) (h' : InS w v2 l) :
    Calls Try.prog 4 #[v, v2] w fun e w' => e = .returned (.bool true) ∧ Ext w w' := by
  have HT := Lib.hid h; have HI := Lib.hid h'
  have HG := Lib.hid (great_any v ps (60 : Nat) w h)
  obtain ⟨po, pc, rfl, g1, g2⟩ := h.shape
  obtain ⟨ao, cap, rfl, h1, h2⟩ := h'.shape
  obtain ⟨ci, chi, chz, chs, chb⟩ := info_parts infoInt
  have CHI := Lib.hid chi; have CHS := Lib.hid chs
  have hm1 : l.length ≤ 9223372036854775807 := by unfold maxLen at h2; omega
  clear h h' g1 g2 h1 h2 chi chz chs chb
  by_cases hg : GreatL ps (60 : Nat)
  · rw [decide_eq_true hg] at HG
    clear hg
    generalize l.length = n at *
    generalize ps.length = pn at *
    go_enter Try.func4, Try.ntmps4
    go_wp2_with fail
    refine HG.out.mono ?_
    rintro e w1 ⟨rfl, rfl⟩
    go_wp2
    go_ret
    exact ⟨rfl, Ch.refl _ _⟩
  rw [decide_eq_false hg] at HG
  clear hg
  by_cases hn20 : (l.length : Int) > 20
  · generalize l.length = n at *
    generalize ps.length = pn at *
    go_enter Try.func4, Try.ntmps4
    go_wp2_with fail
    refine HG.out.mono ?_
    rintro e w1 ⟨rfl, rfl⟩
    go_wp2
    go_ret
    exact ⟨rfl, Ch.refl _ _⟩
  have HJ := Lib.hid (chunkJoin_any _ _ ps l w HT.out HI.out (by omega))
  have HRJ := Lib.hid (fun w2 (hx : Ext w w2) => rJoin_any _ _ ps l w2 (HT.out.ext hx) (HI.out.ext hx) (by omega))
  generalize hr : joinL ps l = R at *
  clear hr
  generalize hn : l.length = n at *
  have HN := Lib.hid hn; clear hn
  generalize ps.length = pn at *
  go_enter Try.func4, Try.ntmps4
  go_wp2_with fail
  refine HG.out.mono ?_
  rintro e w1 ⟨rfl, rfl⟩
  go_wp2_with fail
  refine HJ.out.mono ?_
  rintro e w1 ⟨r1, rfl, hx1, ht1⟩
  have HX1 := Lib.hid hx1; have HT1 := Lib.hid ht1
  clear hx1 ht1
  go_wp2_with fail
  refine (HRJ.out w1 HX1.out).mono ?_
  rintro e w2 ⟨r2, rfl, hx2, ht2⟩
  have HX2 := Lib.hid (HX1.out.trans hx2)
  have HS := Lib.hid (same_any r1 r2 R.1 R.1 w2 (HT1.out.ext hx2) ht2)
  rw [decide_eq_true rfl] at HS
  clear hx2 ht2
  have hb : (((R.2 : Nat) : Int) == ((R.2 : Nat) : Int)) = true := by simp
  have hb2 : (((R.2 : Nat) : Int) != ((R.2 : Nat) : Int)) = false := by simp
  generalize R.2 = r at *
  go_wp2_with fail
  refine HS.out.mono ?_
  rintro e w3 ⟨rfl, hx3⟩
  have HX3 := Lib.hid (HX2.out.trans hx3)
  clear hx3
  go_wp2
  clear hb hb2
  go_loopw [9] (fun ix wr => ∃ (k : Nat), k ≤ n ∧ wr = w3 ∧ ix = .int .i64 k ∧ Hid (∀ j (h : j < l.length), j < k → l[j] ≤ 2048)) (fun ix _ => n - (intOf ix).toNat)
  case atStart => exact ⟨0, Nat.zero_le _, rfl, rfl, Lib.hid fun j h hj => absurd hj (Nat.not_lt_zero _)⟩
  case round =>
    obtain ⟨k, hk, rfl, rfl, HC⟩ := hrel
    by_cases hlt : k < n
    · have hkl : k < l.length := by have := HN.out; omega
      obtain ⟨b, o, rfl, hcl⟩ := (HI.out.ext HX3.out).at hkl
      have hidx := run_indexSl wr Try.underlying32 CHI.out CHS.out b o n cap k hlt
      rw [Nat.mul_one] at hidx
      have HOK : Hid (l[k] ≤ 2048 → ∀ j (h : j < l.length), j < k + 1 → l[j] ≤ 2048) := Lib.hid fun e j h hj => by
        by_cases hjk : j < k
        · exact HC.out j h hjk
        · have : j = k := by omega
          subst this
          exact e
      generalize l[k] = x at *
      clear hkl
      by_cases hx1 : x > 2048
      · go_wp2_with (go_at_call 12; refine (awake11_any _).mono ?_)
        rintro e w4 ⟨rfl, hx4⟩
        have HX4 := Lib.hid (HX3.out.trans hx4)
        clear hx4
        go_wp2
        go_ret
        exact ⟨rfl, HX4.out⟩
      · have HE := Lib.hid (HOK.out (by omega))
        go_wp2
        go_roundw
        case rel => exact ⟨k + 1, hlt, trivial, by simp, HE⟩
        case measure => simp [intOf]; omega
    · obtain rfl : k = n := by omega
      have HB : Hid (∀ x ∈ l, x ≤ 2048) := Lib.hid fun x hx => by
        obtain ⟨j, hj, rfl⟩ := List.getElem_of_mem hx
        exact HC.out j hj (by have := HN.out; omega)
      have HCN := Lib.hid (chunkCount_any _ l wr (HI.out.ext HX3.out) (by rw [HN.out]; omega) (fun x hx => by have := HB.out x hx; omega))
      have HLG := Lib.hid (lengths_any _ l wr (HI.out.ext HX3.out) (by rw [HN.out]; omega) (fun x hx => by have := HB.out x hx; omega))
      have HLL : Hid ((natL (lensL l)).length = cntL l) := Lib.hid (by simp [natL, lensL_length])
      generalize cntL l = ct at *
      go_wp2_with fail
      refine HCN.out.mono ?_
      rintro e w4 ⟨rfl, rfl⟩
      go_wp2_with fail
      refine HLG.out.mono ?_
      rintro e w4 ⟨lv, rfl, hx4, ho4⟩
      have HX4 := Lib.hid (HX3.out.trans hx4)
      obtain ⟨lo, lc, rfl, _⟩ := ho4.ins.shape
      rw [HLL.out]
      clear hx4 ho4
      have hb : (((ct : Nat) : Int) == ((ct : Nat) : Int)) = true := by simp
      go_wp2_with (go_at_call 12; refine (awake11_any _).mono ?_)
      rintro e w5 ⟨rfl, hx5⟩
      have HX5 := Lib.hid (HX4.out.trans hx5)
      clear hx5
      go_wp2
      go_ret
      exact ⟨rfl, HX5.out⟩
end Go.Proofs.Ytolelgbkohccbaa
