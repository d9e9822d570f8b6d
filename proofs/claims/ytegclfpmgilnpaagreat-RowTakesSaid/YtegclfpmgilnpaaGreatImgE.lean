import Derived.Test.YtegclfpmgilnpaaGreatImgD
namespace Go.Proofs.YtegclfpmgilnpaaGreat
open Go.RowKit Go.Lac
def GreatR (l : List Cel) (r : Rl) : Prop := (∃ c ∈ l, 3000 < c.v.t.length) ∨ (∃ q ∈ r.cols, 60 < q.name.length) ∨ 20 < l.length ∨ 20 < r.cols.length ∨ 60 < r.name.length
instance (l : List Cel) (r : Rl) : Decidable (GreatR l r) := inferInstanceAs (Decidable ((∃ c ∈ l, 3000 < c.v.t.length) ∨ (∃ q ∈ r.cols, 60 < q.name.length) ∨ 20 < l.length ∨ 20 < r.cols.length ∨ 60 < r.name.length))
set_option maxRecDepth 20000 in
set_option maxHeartbeats 4000000 in
theorem great10_any (r : Rl) (v cv : Value) (l : List Cel) (w : World) (hv : RcS w v l) (hb : ColS w cv r.cols) :
    Calls Tryz.prog 6 #[v, .agg (relv r cv)] w fun e w' => e = .returned (.bool (decide (GreatR l r))) ∧ Ext w w' := by
  have h1 := heap_alloc_new w (.cells (relv r cv) 28)
  obtain ⟨W, hW⟩ : ∃ W, W = w.alloc (.cells (relv r cv) 28) := ⟨_, rfl⟩
  have hx : Ext w W := by rw [hW]; exact (Ch.refl _ _).alloc _
  rw [← hW] at h1
  have HB := Lib.hid (ColS.ext hb hx); have HV := Lib.hid (RcS.ext hv hx)
  obtain ⟨ao, cap, rfl, hlc, hcm, _⟩ := id hb
  obtain ⟨vo, vcap, rfl, k1, k2⟩ := hv.shape
  have c2 : W.cell? ⟨w.heap.size, 2, none⟩ = some (.string ⟨r.name.toArray⟩) := by rw [cell_of_row _ _ _ _ _ _ h1]; rfl
  have c4 : W.cell? ⟨w.heap.size, 4, none⟩ = some (.slice ao r.cols.length cap) := by rw [cell_of_row _ _ _ _ _ _ h1]; rfl
  have HX := Lib.hid hx; have HW := Lib.hid hW
  have hcl : r.cols.length ≤ 9223372036854775807 := by unfold maxLen at hcm; omega
  have hvl : l.length ≤ 9223372036854775807 := by unfold maxLen at k2; omega
  obtain ⟨ci, chi, _, chs, _⟩ := info_parts infoRrZ
  obtain ⟨qi, qhi, _, qhs, _⟩ := info_parts infoRCZ
  have CHV := Lib.hid chi; have CSV := Lib.hid chs
  have CHQ := Lib.hid qhi; have CSQ := Lib.hid qhs
  have HG : Hid ((∃ c ∈ l, 3000 < c.v.t.length) → decide (GreatR l r) = true) := Lib.hid fun h => decide_eq_true (.inl h)
  have HG2 : Hid ((∃ q ∈ r.cols, 60 < q.name.length) → decide (GreatR l r) = true) := Lib.hid fun h => decide_eq_true (.inr (.inl h))
  have HG3 : Hid ((∀ c ∈ l, ¬ 3000 < c.v.t.length) → (∀ q ∈ r.cols, ¬ 60 < q.name.length) → decide (GreatR l r) = decide (20 < l.length ∨ 20 < r.cols.length ∨ 60 < r.name.length)) := Lib.hid fun h h' => by
    rw [decide_eq_decide]
    unfold GreatR
    exact ⟨fun k => k.elim (fun ⟨c, h1, h2⟩ => absurd h2 (h c h1)) (fun k => k.elim (fun ⟨c, h1, h2⟩ => absurd h2 (h' c h1)) id), fun k => .inr (.inr k)⟩
  generalize decide (GreatR l r) = D at *
  rw [hW] at c2 c4
  have HC2 := Lib.hid c2; have HC4 := Lib.hid c4
  have hR2 : Hid (∃ R, R = r) := Lib.hid ⟨r, rfl⟩
  clear h1 hx hW hb hv c2 c4 chi chs qhi qhs hlc hcm k1 k2 hR2
  generalize hn : r.cols.length = n at *
  generalize hm : l.length = m at *
  generalize hz : r.name.length = z at *
  have HN := Lib.hid hn; have HM := Lib.hid hm; have HZ : Hid ((⟨r.name.toArray⟩ : ByteArray).size = z) := Lib.hid (by rw [← hz]; simp [ByteArray.size])
  clear hn hm hz
  generalize r.cols = qs at *
  unfold relv strV at *
  generalize (⟨r.name.toArray⟩ : ByteArray) = A1 at *
  generalize r.oid = o1 at *
  generalize r.ver = o2 at *
  generalize r.ident = o3 at *
  go_enter Tryz.func6, Tryz.ntmps6
  go_wp2
  go_loop [5] (fun ix => ∃ k : Nat, k ≤ m ∧ ix = .int .i64 k ∧ Hid (∀ c ∈ l.take k, ¬ 3000 < c.v.t.length)) (fun ix => m - (intOf ix).toNat)
  case atStart => exact ⟨0, Nat.zero_le _, rfl, Lib.hid (by simp)⟩
  case round =>
    obtain ⟨k, hk, rfl, HP⟩ := hrel
    by_cases hlt : k < m
    · have hkl : k < l.length := by have := HM.out; omega
      obtain ⟨b, o, rfl, hra⟩ := HV.out.at hkl
      have HTK : Hid (l.take (k + 1) = l.take k ++ [l[k]]) := Lib.hid (List.take_succ_eq_append_getElem hkl)
      have HMM := Lib.hid (List.getElem_mem hkl)
      generalize l[k] = x at *
      have q5 : W.cell? ⟨b, o + k * 6 + 5, none⟩ = some (.string ⟨x.v.t.toArray⟩) := hra 5 _ rfl
      rw [HW.out] at q5
      have hidx := run_indexSl (w.alloc (.cells #[.int .u32 (o1 : Nat), .int .u32 (o2 : Nat), .string A1, .int .u8 (o3 : Nat), .slice ao n cap] 28)) Tryz.underlying45 CHV.out CSV.out b o m vcap k hlt
      have hsz : (⟨x.v.t.toArray⟩ : ByteArray).size = x.v.t.length := by simp [ByteArray.size]
      generalize (⟨x.v.t.toArray⟩ : ByteArray) = A2 at *
      clear hra hkl
      by_cases hx : 3000 < x.v.t.length
      · have HD : Hid (D = true) := Lib.hid (HG.out ⟨x, HMM.out, hx⟩)
        have hx2 : ((A2.size : Nat) : Int) > 3000 := by omega
        clear hsz hx
        go_wp2
        go_ret
        exact ⟨by rw [HD.out]; rfl, by have := HX.out; rwa [HW.out] at this⟩
      · have HP2 : Hid (∀ b ∈ l.take (k + 1), ¬ 3000 < b.v.t.length) := Lib.hid (by
          rw [HTK.out]
          intro b hb
          rcases List.mem_append.1 hb with hb | hb
          · exact HP.out b hb
          · simp only [List.mem_cons, List.not_mem_nil, or_false] at hb; subst hb; exact hx)
        have hx2 : ¬ ((A2.size : Nat) : Int) > 3000 := by omega
        clear hsz hx
        go_wp2
        go_round
        case rel => exact ⟨k + 1, hlt, by simp, HP2⟩
        case measure => simp [intOf]; omega
    · obtain rfl : k = m := by omega
      have HPL : Hid (∀ c ∈ l, ¬ 3000 < c.v.t.length) := Lib.hid (by have := HP.out; rwa [← HM.out, List.take_length] at this)
      clear hlt HP
      go_wp2
      go_loop [6] (fun ix => ∃ j : Nat, j ≤ n ∧ ix = .int .i64 j ∧ Hid (∀ q ∈ qs.take j, ¬ 60 < q.name.length)) (fun ix => n - (intOf ix).toNat)
      case atStart => exact ⟨0, Nat.zero_le _, rfl, Lib.hid (by simp)⟩
      case round =>
        obtain ⟨j, hj, rfl, HP⟩ := hrel
        have c4 := HC4.out
        by_cases hlt : j < n
        · have hjl : j < qs.length := by have := HN.out; omega
          obtain ⟨b, o, rfl, hra⟩ := colS_at HB.out hjl
          have HTK : Hid (qs.take (j + 1) = qs.take j ++ [qs[j]]) := Lib.hid (List.take_succ_eq_append_getElem hjl)
          have HMM := Lib.hid (List.getElem_mem hjl)
          generalize qs[j] = x at *
          have q0 : W.cell? ⟨b, o + j * 3, none⟩ = some (.string ⟨x.name.toArray⟩) := by have := hra 0 _ rfl; simpa [strV] using this
          rw [HW.out] at q0
          have hidx := run_indexSl (w.alloc (.cells #[.int .u32 (o1 : Nat), .int .u32 (o2 : Nat), .string A1, .int .u8 (o3 : Nat), .slice (some ⟨b, o, none⟩) n cap] 28)) Tryz.underlying26 CHQ.out CSQ.out b o n cap j hlt
          have hsz : (⟨x.name.toArray⟩ : ByteArray).size = x.name.length := by simp [ByteArray.size]
          generalize (⟨x.name.toArray⟩ : ByteArray) = A2 at *
          clear hra hjl
          by_cases hx : 60 < x.name.length
          · have HD : Hid (D = true) := Lib.hid (HG2.out ⟨x, HMM.out, hx⟩)
            have hx2 : ((A2.size : Nat) : Int) > 60 := by omega
            clear hsz hx
            go_wp2
            go_ret
            exact ⟨by rw [HD.out]; rfl, by have := HX.out; rwa [HW.out] at this⟩
          · have HP2 : Hid (∀ b ∈ qs.take (j + 1), ¬ 60 < b.name.length) := Lib.hid (by
              rw [HTK.out]
              intro b hb
              rcases List.mem_append.1 hb with hb | hb
              · exact HP.out b hb
              · simp only [List.mem_cons, List.not_mem_nil, or_false] at hb; subst hb; exact hx)
            have hx2 : ¬ ((A2.size : Nat) : Int) > 60 := by omega
            clear hsz hx
            go_wp2
            go_round
            case rel => exact ⟨j + 1, hlt, by simp, HP2⟩
            case measure => simp [intOf]; omega
        · obtain rfl : j = n := by omega
          have HD : Hid (D = decide (20 < k ∨ 20 < j ∨ 60 < z)) := Lib.hid (HG3.out HPL.out (by have := HP.out; rwa [← HN.out, List.take_length] at this))
          have c2 := HC2.out
          have hzz := HZ.out
          by_cases e1 : 20 < k
          · have e1' : ((k : Nat) : Int) > 20 := by omega
            have HD' : Hid (D = true) := Lib.hid (by rw [HD.out]; exact decide_eq_true (.inl e1))
            clear e1
            go_wp2
            go_ret
            exact ⟨by rw [HD'.out]; rfl, by have := HX.out; rwa [HW.out] at this⟩
          have e1' : ¬ ((k : Nat) : Int) > 20 := by omega
          by_cases e2 : 20 < j
          · have e2' : ((j : Nat) : Int) > 20 := by omega
            have HD' : Hid (D = true) := Lib.hid (by rw [HD.out]; exact decide_eq_true (.inr (.inl e2)))
            clear e1 e2
            go_wp2
            go_ret
            exact ⟨by rw [HD'.out]; rfl, by have := HX.out; rwa [HW.out] at this⟩
          have e2' : ¬ ((j : Nat) : Int) > 20 := by omega
          by_cases e3 : 60 < z
          · have e3' : ((A1.size : Nat) : Int) > 60 := by omega
            have HD' : Hid (D = true) := Lib.hid (by rw [HD.out]; exact decide_eq_true (.inr (.inr e3)))
            clear e1 e2 e3 hzz
            go_wp2
            go_ret
            exact ⟨by rw [HD'.out]; rfl, by have := HX.out; rwa [HW.out] at this⟩
          have e3' : ¬ ((A1.size : Nat) : Int) > 60 := by omega
          have HD' : Hid (D = false) := Lib.hid (by rw [HD.out]; exact decide_eq_false (by omega))
          clear e1 e2 e3 hzz
          go_wp2
          go_ret
          exact ⟨by rw [HD'.out]; rfl, by have := HX.out; rwa [HW.out] at this⟩
end Go.Proofs.YtegclfpmgilnpaaGreat
