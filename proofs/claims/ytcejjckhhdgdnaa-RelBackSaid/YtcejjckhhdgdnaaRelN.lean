/-
  Relations: the law's great; the document's Same.
-/
import Derived.Test.YtcejjckhhdgdnaaRelK
namespace Go.Proofs.Ytcejjckhhdgdnaa
open Go.RowKit Go.Lac

def Great (r : Rl) : Prop := (∃ c ∈ r.cols, 60 < c.name.length) ∨ 30 < r.cols.length ∨ 60 < r.name.length
instance (r : Rl) : Decidable (Great r) := by unfold Great; exact inferInstance
theorem infoRC : (Try.prog.info? 50).map (·.size) = some 3 := by kernel_rfl
theorem infoRCZ : (Try.prog.info? 50).map (fun i => (i.zero, i.size, i.bytes)) = some (some (.agg #[.string ⟨#[]⟩, .int .u8 0, .bool false]), 3, 24) := by kernel_rfl
set_option maxRecDepth 20000 in
set_option maxHeartbeats 2000000 in
theorem great_any (r : Rl) (cv : Value) (w : World) (hb : ColS w cv r.cols) (hf : r.fits) :
    Calls Try.prog 12 #[.agg (relv r cv)] w fun e w' => e = .returned (.bool (decide (Great r))) ∧ Ext w w' := by
  have h1 := heap_alloc_new w (.cells (relv r cv) 27)
  obtain ⟨W, hW⟩ : ∃ W, W = w.alloc (.cells (relv r cv) 27) := ⟨_, rfl⟩
  have hx : Ext w W := by rw [hW]; exact (Ch.refl _ _).alloc _
  rw [← hW] at h1
  have HX := Lib.hid hx; have HW := Lib.hid hW
  have HB := Lib.hid (ColS.ext hb hx)
  obtain ⟨c0, c1, c2, c3, c4⟩ := row_cells h1
  obtain ⟨ao, cap, rfl, hlc, hcm, _⟩ := id hb
  have HT : Hid (Great r → decide (Great r) = true) := Lib.hid decide_eq_true
  have HN : Hid (¬ Great r → decide (Great r) = false) := Lib.hid decide_eq_false
  generalize decide (Great r) = D at *
  have hm63 : r.cols.length ≤ 9223372036854775807 := by unfold maxLen at hcm; omega
  have HF := Lib.hid hf
  have hsa : (⟨r.name.toArray⟩ : ByteArray).size = r.name.length := by simp [ByteArray.size]
  have hnl63 : r.name.length ≤ 9223372036854775807 := hf.1
  unfold relv strV at *
  generalize (⟨r.name.toArray⟩ : ByteArray) = A1 at *
  generalize hm : r.cols.length = m at *
  have HM := Lib.hid hm
  generalize hnl : r.name.length = nl at *
  have HNL := Lib.hid hnl
  obtain ⟨ci, chi, _, chs, _⟩ := info_parts infoRCZ
  have CHI := Lib.hid chi; have CHS := Lib.hid chs
  clear h1 hx hb hf hlc hcm chi chs hm hnl c0 c1 c3
  rw [hW] at c2 c4
  go_enter Try.func12, Try.ntmps12
  go_wp2
  rw [← hW] at c2 c4 ⊢
  clear hW
  go_loop [3] (fun ix => ∃ k : Nat, k ≤ m ∧ ix = .int .i64 k ∧ Hid (∀ j (h : j < r.cols.length), j < k → r.cols[j].name.length ≤ 60)) (fun ix => m - (intOf ix).toNat)
  case atStart => exact ⟨0, Nat.zero_le _, rfl, Lib.hid fun j h hj => absurd hj (Nat.not_lt_zero _)⟩
  case round =>
    obtain ⟨k, hk, rfl, HP⟩ := hrel
    by_cases hlt : k < m
    · have hkl : k < r.cols.length := by have := HM.out; omega
      obtain ⟨b, o, rfl, hra⟩ := colS_at HB.out hkl
      have hidx := run_indexSl W Try.underlying25 CHI.out CHS.out b o m cap k hlt
      have q0 : W.cell? ⟨b, o + k * 3, none⟩ = some (.string ⟨r.cols[k].name.toArray⟩) := by have := hra 0 _ rfl; simpa [strV] using this
      have hs2 : (⟨r.cols[k].name.toArray⟩ : ByteArray).size = r.cols[k].name.length := by simp [ByteArray.size]
      have hcl := HF.out.2 r.cols[k] (List.getElem_mem hkl)
      have HPK : Hid (r.cols[k].name.length ≤ 60 → ∀ j (h : j < r.cols.length), j < k + 1 → r.cols[j].name.length ≤ 60) := Lib.hid fun h0 j h hj => by
        by_cases hjk : j < k
        · exact HP.out j h hjk
        · have : j = k := by omega
          subst this
          exact h0
      have HGT : Hid (60 < r.cols[k].name.length → D = true) := Lib.hid fun h => HT.out (.inl ⟨r.cols[k], List.getElem_mem hkl, h⟩)
      generalize (⟨r.cols[k].name.toArray⟩ : ByteArray) = A2 at *
      generalize r.cols[k].name.length = n2 at *
      have HLT := Lib.hid hlt
      clear hra
      by_cases h60 : 60 < n2
      · have HD := Lib.hid (HGT.out h60)
        clear HGT HPK
        go_wp2
        go_ret
        exact ⟨by rw [HD.out]; rfl, HX.out⟩
      · have HPK2 := Lib.hid (HPK.out (by omega))
        have h60' : n2 ≤ 60 := by omega
        clear HGT HPK h60
        go_wp2
        go_round
        case rel => exact ⟨k + 1, HLT.out, by simp, HPK2⟩
        case measure => simp [intOf]; omega
    · obtain rfl : k = m := by omega
      have HNC : Hid (¬ ∃ c ∈ r.cols, 60 < c.name.length) := Lib.hid fun ⟨c, hc, h⟩ => by
        obtain ⟨j, hj, rfl⟩ := List.mem_iff_getElem.1 hc
        have := HP.out j hj (by have := HM.out; omega)
        omega
      by_cases h30 : 30 < k
      · have HD := Lib.hid (HT.out (.inr (.inl (by rw [HM.out]; exact h30))))
        go_wp2
        go_ret
        exact ⟨by rw [HD.out]; simp, HX.out⟩
      · have h30' : k ≤ 30 := by omega
        by_cases h60 : 60 < nl
        · have HD := Lib.hid (HT.out (.inr (.inr (by rw [HNL.out]; exact h60))))
          clear h30
          go_wp2
          go_ret
          exact ⟨by rw [HD.out]; simp; try omega, HX.out⟩
        · have HD := Lib.hid (HN.out (fun h => by
            rcases h with h | h | h
            · exact HNC.out h
            · rw [HM.out] at h; exact h30 h
            · rw [HNL.out] at h; exact h60 h))
          have h60' : nl ≤ 60 := by omega
          clear h30 h60
          go_wp2
          go_ret
          exact ⟨by rw [HD.out]; simp; try omega, HX.out⟩
end Go.Proofs.Ytcejjckhhdgdnaa
