import Derived.Test.YtegclfpmgilnpaaGreatProg
import Derived.Test.YtegclfpmgilnpaaGreatGLib
import Derived.Test.YtegclfpmgilnpaaGreatBitC
import Derived.WalkKit
import Derived.Lib.Hide
namespace Go.Proofs.YtegclfpmgilnpaaGreat
open Go.RowKit Go.Lac
theorem grow_ext {w wr w' : World} {l : Value} {E : TypeId} {n : Nat} {cs : List Value} (h4 : Ext w wr) (o : Obj) (h5 : wr.ownsRow w.heap.size E 1 l n cs)
    (h6 : (wr.alloc o).grownBy w' l.ownBlock) : Ext w w' := by
  refine (h4.alloc o).grown h6 fun k hk => .inr ?_
  exact (h5.lt k hk).1
theorem valB_drop_lt (l : List UInt8) (j : Nat) (h : l.length ≤ 2) : valB (l.drop j) < 65536 := by
  have := valB_lt (l.drop j)
  exact Nat.lt_of_lt_of_le this (Nat.pow_le_pow_right (n := 256) (by omega) (show _ ≤ 2 by rw [List.length_drop]; omega))
set_option maxRecDepth 20000 in
set_option maxHeartbeats 2000000 in
theorem refUnpack_any (v : Value) (bs : List UInt8) (n : Int) (w : World) (h : Rd w v bs) (hn : -9223372036854775808 ≤ n ∧ n ≤ 9223372036854775807) : Calls Tryz.prog 35 #[v, .int .i64 n] w (UnpackPost bs n w) := by
  obtain ⟨i2, hi2, hz2, hs2, hby2⟩ := info_parts infoBool
  obtain ⟨ao, cap, rfl⟩ := h.shape
  have hlen : bs.length ≤ maxLen := by obtain ⟨_, _, _, g1, g2, _⟩ := h; omega
  unfold maxLen at hlen
  have H := Lib.hid h; clear h
  by_cases hn0 : n < 0
  · have hp : UnpackPost bs n w (.returned (.tuple #[.slice none 0 0, .int .i64 17])) w := .err (by unfold unpC; rw [if_neg (by omega)]) (by decide) (Ch.refl _ _)
    have HP := Lib.hid hp; clear hp
    go_enter Tryz.func35, Tryz.ntmps35
    go_wp2
    refine bodyPost_ret (results_tmp2 rfl _ _ _) rfl ?_
    exact HP.out
  by_cases hn16 : 16 < n
  · have hp : UnpackPost bs n w (.returned (.tuple #[.slice none 0 0, .int .i64 17])) w := .err (by unfold unpC; rw [if_neg (by omega)]) (by decide) (Ch.refl _ _)
    have HP := Lib.hid hp; clear hp
    go_enter Tryz.func35, Tryz.ntmps35
    go_wp2
    refine bodyPost_ret (results_tmp2 rfl _ _ _) rfl ?_
    exact HP.out
  obtain ⟨m, rfl⟩ : ∃ m : Nat, n = m := ⟨n.toNat, by omega⟩
  have hm16 : m ≤ 16 := by omega
  clear hn hn0 hn16
  have hsz : ∀ w, Calls Tryz.prog 34 #[.int .i64 (m : Nat)] w fun e w' => e = .returned (.int .i64 (sizeN m : Nat)) ∧ w = w' := fun w => by
    have := refSize_any (m : Int) w
    rwa [show sizeI (m : Int) = ((sizeN m : Nat) : Int) from by unfold sizeI; rw [if_pos (by omega), Int.toNat_natCast]] at this
  have HSZF := Lib.hid hsz; clear hsz
  have hle := sizeN_le hm16
  have hC1 : bs.length < sizeN m → unpC bs (m : Int) = 1 := fun h => by unfold unpC; rw [if_pos (by omega), Int.toNat_natCast, if_pos h]
  have hC2 : sizeN m < bs.length → unpC bs (m : Int) = 2 := fun h => by unfold unpC; rw [if_pos (by omega), Int.toNat_natCast, if_neg (by omega), if_pos h]
  have HC1 := Lib.hid hC1; have HC2 := Lib.hid hC2; clear hC1 hC2
  have hC := unpC_lt (bs := bs) (n := m) hm16
  have HC := Lib.hid hC; clear hC
  generalize hszn : sizeN m = sz at *
  clear hszn
  by_cases hlt : bs.length < sz
  · have hp : UnpackPost bs m w (.returned (.tuple #[.slice none 0 0, .int .i64 1])) w := .err (HC1.out hlt) (by decide) (Ch.refl _ _)
    have HP := Lib.hid hp; clear hp
    go_enter Tryz.func35, Tryz.ntmps35
    go_wp2_with (go_at_call 34; refine (HSZF.out _).mono ?_; rintro e w' ⟨rfl, rfl⟩)
    refine bodyPost_ret (results_tmp2 rfl _ _ _) rfl ?_
    exact HP.out
  by_cases hgt : sz < bs.length
  · have hp : UnpackPost bs m w (.returned (.tuple #[.slice none 0 0, .int .i64 2])) w := .err (HC2.out hgt) (by decide) (Ch.refl _ _)
    have HP := Lib.hid hp; clear hp
    go_enter Tryz.func35, Tryz.ntmps35
    go_wp2_with (go_at_call 34; refine (HSZF.out _).mono ?_; rintro e w' ⟨rfl, rfl⟩)
    refine bodyPost_ret (results_tmp2 rfl _ _ _) rfl ?_
    exact HP.out
  obtain rfl : bs.length = sz := by omega
  clear HC1 HC2 hlt hgt
  have HC' := Lib.hid (HC.out rfl); clear HC
  go_enter Tryz.func35, Tryz.ntmps35
  go_wp2_with (go_at_call 34; refine (HSZF.out _).mono ?_; rintro e w' ⟨rfl, rfl⟩)
  go_loop [6, 7] (fun n ix => ∃ j : Nat, j ≤ bs.length ∧ ix = .int .i64 ((j : Int) - 1) ∧ n = .int .i64 (valB (bs.drop j) : Nat)) (fun _ ix => (intOf ix + 1).toNat)
  case atStart => exact ⟨bs.length, Nat.le_refl _, rfl, by rw [List.drop_length]; rfl⟩
  case round =>
    obtain ⟨j, hj, rfl, rfl⟩ := hrel
    cases j with
    | succ k =>
      have e : ((k + 1 : Nat) : Int) - 1 = (k : Int) := by omega
      rw [e]; clear e
      have hlt : k < bs.length := hj
      obtain ⟨b, off, rfl, g1, g2, g3⟩ := bytes_cell H.out rfl (by omega)
      have hc := g3 k hlt
      have hs := valB_drop bs k hlt
      have hb1 := valB_drop_lt bs (k + 1) hle
      have hb0 := valB_drop_lt bs k hle
      have HS := Lib.hid hs
      clear g3
      unfold maxLen at g2
      have hx := bs[k].toNat_lt
      generalize valB (bs.drop (k + 1)) = n at *
      generalize bs[k].toNat = x at *
      have hb2 : x + 256 * n < 65536 := by rw [← hs]; exact hb0
      clear hs hb0
      go_wp2
      go_round
      case rel => exact ⟨k, by omega, rfl, by rw [HS.out]; first | rfl | go_num⟩
      case measure => simp [intOf] <;> omega
    | zero =>
      have e : ((0 : Nat) : Int) - 1 = -1 := rfl
      rw [e, List.drop_zero]; clear e
      have hvlt := valB_drop_lt bs 0 hle
      rw [List.drop_zero] at hvlt
      have HVL := Lib.hid hvlt; clear hvlt
      go_wp2
      go_loopw [6, 8, 9] (fun x s ix wr => ∃ k : Nat, k ≤ m ∧ ix = .int .i64 k ∧ x = .int .i64 (valB bs / 2 ^ k : Nat) ∧ Ext w wr ∧ wr.ownsRow w.heap.size 4 1 s k (boolsV (bitsL (valB bs) k))) (fun _ _ ix _ => m - (intOf ix).toNat)
      case atStart => exact ⟨0, Nat.zero_le _, rfl, by simp, Ch.refl _ _, World.ownsRow_nil _ _ _ _⟩
      case round =>
        obtain ⟨k, hk, rfl, rfl, h4, h5⟩ := hrel
        by_cases hkm : k < m
        · have hq : valB bs / 2 ^ (k + 1) = valB bs / 2 ^ k / 2 := by rw [Nat.pow_succ, Nat.div_div_eq_div_mul]
          have hbit : (valB bs / 2 ^ k % 2 = 1) ↔ (valB bs).testBit k = true := by rw [Nat.testBit_eq_decide_div_mod_eq]; simp
          have hle2 : valB bs / 2 ^ k ≤ valB bs := Nat.div_le_self _ _
          have hxl : valB bs / 2 ^ k < 65536 := Nat.lt_of_le_of_lt hle2 HVL.out
          have hsn := bitsL_snoc (valB bs) k
          have HQ := Lib.hid hq; have HSN := Lib.hid hsn; have H4 := Lib.hid h4; clear hq hsn h4 hle2
          generalize valB bs / 2 ^ k = x at *
          cases hbk : (valB bs).testBit k with
          | true =>
            rw [hbk] at hbit
            have hx2 : ((x : Int) % 2 == 1) = true := by have := hbit.2 rfl; simp; omega
            have HSN' := Lib.hid (show bitsL (valB bs) (k + 1) = bitsL (valB bs) k ++ [true] by rw [HSN.out, hbk])
            clear hbit hbk
            go_wp2_with (at_builtin; refine wpList_append_own _ rfl _ _ 84 rfl (w.heap.size) 4 i2 (.bool false) 1 1 Tryz.underlying84 hi2 hz2 hs2 hby2 rfl (by decide) _ _ _ rfl (h5.alloc _) ⟨wr.heap.size, 0, none⟩ 1 1 [.bool true] rfl rfl ?c1 ?c2 ?c3 ?c4 ?c5 ?_)
            case c1 => exact new_cells wr _ _
            case c2 => exact one_oneCell rfl
            case c3 => unfold maxLen; omega
            case c4 => omega
            case c5 => have := H4.out.size; simp; omega
            intro v' w' hown' hgrow _
            have hx1 := grow_ext H4.out _ h5 hgrow
            have how : w'.ownsRow w.heap.size 4 1 v' (k + 1) (boolsV (bitsL (valB bs) (k + 1))) := by rw [HSN'.out]; simpa [boolsV] using hown'
            have HX1 := Lib.hid hx1; have HOW := Lib.hid how; clear hx1 how hown' hgrow h5
            go_wp2
            go_roundw
            case rel => exact ⟨k + 1, by omega, by go_num, by rw [HQ.out]; first | rfl | go_num, HX1.out, HOW.out⟩
            case measure => simp [intOf] <;> omega
          | false =>
            have hx2 : ((x : Int) % 2 == 1) = false := by
              rw [hbk] at hbit
              rw [beq_eq_false_iff_ne]
              intro h
              exact absurd (hbit.1 (by omega)) (by simp)
            have HSN' := Lib.hid (show bitsL (valB bs) (k + 1) = bitsL (valB bs) k ++ [false] by rw [HSN.out, hbk])
            clear hbit hbk
            go_wp2_with (at_builtin; refine wpList_append_own _ rfl _ _ 84 rfl (w.heap.size) 4 i2 (.bool false) 1 1 Tryz.underlying84 hi2 hz2 hs2 hby2 rfl (by decide) _ _ _ rfl (h5.alloc _) ⟨wr.heap.size, 0, none⟩ 1 1 [.bool false] rfl rfl ?c1 ?c2 ?c3 ?c4 ?c5 ?_)
            case c1 => exact new_cells wr _ _
            case c2 => exact one_oneCell rfl
            case c3 => unfold maxLen; omega
            case c4 => omega
            case c5 => have := H4.out.size; simp; omega
            intro v' w' hown' hgrow _
            have hx1 := grow_ext H4.out _ h5 hgrow
            have how : w'.ownsRow w.heap.size 4 1 v' (k + 1) (boolsV (bitsL (valB bs) (k + 1))) := by rw [HSN'.out]; simpa [boolsV] using hown'
            have HX1 := Lib.hid hx1; have HOW := Lib.hid how; clear hx1 how hown' hgrow h5
            go_wp2
            go_roundw
            case rel => exact ⟨k + 1, by omega, by go_num, by rw [HQ.out]; first | rfl | go_num, HX1.out, HOW.out⟩
            case measure => simp [intOf] <;> omega
        · have hkm' : k = m := by omega
          subst hkm'
          have H4 := Lib.hid h4; clear h4
          have hle2 : valB bs / 2 ^ k ≤ valB bs := Nat.div_le_self _ _
          have hxl : valB bs / 2 ^ k < 65536 := Nat.lt_of_le_of_lt hle2 HVL.out
          by_cases h0 : valB bs < 2 ^ k
          · have hp : UnpackPost bs k w (.returned (.tuple #[u8, .int .i64 0])) wr := .ok (by rw [HC'.out, if_pos h0]) H4.out (by
              have := Sl.ofOwns h5
              rw [Int.toNat_natCast]; rw [RdBools, bitsL_length]; exact this)
            have HP := Lib.hid hp; clear hp
            have hz : valB bs / 2 ^ k = 0 := Nat.div_eq_of_lt h0
            rw [hz]; clear hz hle2 hxl h0
            go_wp2
            refine bodyPost_ret (results_tmp2 rfl _ _ _) rfl ?_
            exact HP.out
          · have hp : UnpackPost bs k w (.returned (.tuple #[.slice none 0 0, .int .i64 3])) wr := .err (by rw [HC'.out, if_neg h0]) (by decide) H4.out
            have HP := Lib.hid hp; clear hp
            have hz : 0 < valB bs / 2 ^ k := Nat.div_pos (by omega) (Nat.pow_pos (by omega))
            clear h0 hle2
            generalize valB bs / 2 ^ k = x at *
            go_wp2
            refine bodyPost_ret (results_tmp2 rfl _ _ _) rfl ?_
            exact HP.out
end Go.Proofs.YtegclfpmgilnpaaGreat
