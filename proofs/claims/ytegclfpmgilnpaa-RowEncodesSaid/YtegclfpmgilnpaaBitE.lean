/-
  The reference's Pack and Unpack.
-/
import Derived.Test.YtegclfpmgilnpaaProg
import Derived.Test.YtegclfpmgilnpaaGLib
import Derived.Test.YtegclfpmgilnpaaBitC
import Derived.WalkKit
import Derived.Lib.Hide
namespace Go.Proofs.Ytegclfpmgilnpaa
open Go.RowKit Go.Lac

theorem bitsV_drop (l : List Bool) (j : Nat) (h : j < l.length) : bitsV (l.drop j) = l[j].toNat + 2 * bitsV (l.drop (j + 1)) := by
  rw [List.drop_eq_getElem_cons h]; rfl
theorem bitsV_drop_lt (l : List Bool) (j : Nat) (h : l.length ≤ 16) : bitsV (l.drop j) < 65536 := by
  have := bitsV_lt (l.drop j)
  exact Nat.lt_of_lt_of_le this (Nat.pow_le_pow_right (n := 2) (by omega) (show _ ≤ 16 by rw [List.length_drop]; omega))

set_option maxRecDepth 20000 in
set_option maxHeartbeats 2000000 in
theorem refPack_any (v : Value) (l : List Bool) (w : World) (h : RdBools w v l) : Calls Try.prog 64 #[v] w (PackPost l w) := by
  obtain ⟨ao, cap, rfl⟩ := h.shape
  have hlen : l.length ≤ maxLen := by obtain ⟨_, _, _, g1, g2, _⟩ := h; omega
  unfold maxLen at hlen
  have H := Lib.hid h; clear h
  by_cases h16 : l.length ≤ 16
  · have hsz : ∀ w, Calls Try.prog 94 #[.int .i64 (l.length : Nat)] w fun e w' => e = .returned (.int .i64 (sizeN l.length : Nat)) ∧ w = w' := fun w => by
      have := refSize_any (l.length : Int) w
      rwa [show sizeI (l.length : Int) = ((sizeN l.length : Nat) : Int) from by unfold sizeI; rw [if_pos (by omega), Int.toNat_natCast]] at this
    have HSZF := Lib.hid hsz; clear hsz
    have hle := sizeN_le h16
    have hpost : ∀ e w', (∃ s, e = .returned (.tuple #[s, .int .i64 0]) ∧ Ext w w' ∧ Rd w' s (mapB l) ∧ ∃ ao cap, s = .slice ao (sizeN l.length) cap) → PackPost l w e w' := fun e w' h => by unfold PackPost; rw [if_pos h16]; exact h
    have HPOST := Lib.hid hpost; clear hpost
    have hmapB : mapB l = [UInt8.ofNat (bitsV l % 256), UInt8.ofNat (bitsV l / 256 % 256)].take (sizeN l.length) := rfl
    have HMAP := Lib.hid hmapB; clear hmapB
    have HLT := Lib.hid (bitsV_drop_lt l 0 h16)
    generalize sizeN l.length = sz at *
    go_enter Try.func64, Try.ntmps64
    go_wp2
    go_loop [4, 5] (fun n ix => ∃ j : Nat, j ≤ l.length ∧ ix = .int .i64 ((j : Int) - 1) ∧ n = .int .i64 (bitsV (l.drop j) : Nat)) (fun _ ix => (intOf ix + 1).toNat)
    case atStart => exact ⟨l.length, Nat.le_refl _, rfl, by rw [List.drop_length]; rfl⟩
    case round =>
      obtain ⟨j, hj, rfl, rfl⟩ := hrel
      cases j with
      | succ k =>
        have e : ((k + 1 : Nat) : Int) - 1 = (k : Int) := by omega
        rw [e]; clear e
        have hlt : k < l.length := hj
        obtain ⟨b, off, rfl, g1, g2, g3⟩ := bools_cell H.out rfl (by omega)
        have hc := g3 k hlt
        have hs := bitsV_drop l k hlt
        have hb1 := bitsV_drop_lt l (k + 1) h16
        have HS := Lib.hid hs
        clear hs g3
        unfold maxLen at g2
        generalize bitsV (l.drop (k + 1)) = n at *
        generalize hb : l[k] = bk at hc HS
        clear hb
        cases bk with
        | true =>
          go_wp2
          go_round
          case rel => exact ⟨k, by omega, rfl, by rw [HS.out, show Bool.toNat true = 1 from rfl]; first | rfl | go_num⟩
          case measure => simp [intOf] <;> omega
        | false =>
          go_wp2
          go_round
          case rel => exact ⟨k, by omega, rfl, by rw [HS.out, show Bool.toNat false = 0 from rfl]; first | rfl | go_num⟩
          case measure => simp [intOf] <;> omega
      | zero =>
        have e : ((0 : Nat) : Int) - 1 = -1 := rfl
        rw [e, List.drop_zero]; clear e
        have hlt := HLT.out
        rw [List.drop_zero] at hlt
        generalize bitsV l = n at *
        have hcells : #[Value.int .u8 ((n : Int) % 256), Value.int .u8 ((n : Int) / 256)] = (cellsB [UInt8.ofNat (n % 256), UInt8.ofNat (n / 256 % 256)]).toArray := by
          simp only [cellsB, List.map_cons, List.map_nil, cellB_ofNat (show n % 256 < 256 by omega), cellB_ofNat (show n / 256 % 256 < 256 by omega)]
          rw [show ((n % 256 : Nat) : Int) = (n : Int) % 256 by omega, show ((n / 256 % 256 : Nat) : Int) = (n : Int) / 256 by omega]
        have hrd : Rd (w.alloc (.cells #[Value.int .u8 ((n : Int) % 256), Value.int .u8 ((n : Int) / 256)] 5)) (.slice (some ⟨w.heap.size, 0, none⟩) sz 2) (mapB l) := by
          rw [hcells, HMAP.out]; exact Rd.take (rd_new w _ _ (by simp [maxLen])) sz hle
        have HRD := Lib.hid hrd; clear hrd hcells
        go_wp2_with (go_at_call 94; refine (HSZF.out _).mono ?_; rintro e w' ⟨rfl, rfl⟩)
        refine bodyPost_ret (results_tmp2 rfl _ _ _) rfl ?_
        exact HPOST.out _ _ ⟨_, rfl, (Ch.refl _ _).alloc _, HRD.out, _, _, rfl⟩
  · have hpost : PackPost l w (.returned (.tuple #[.slice none 0 0, .int .i64 17])) w := by unfold PackPost; rw [if_neg h16]; exact ⟨rfl, rfl⟩
    have HPOST := Lib.hid hpost; clear hpost
    go_enter Try.func64, Try.ntmps64
    go_wp2
    refine bodyPost_ret (results_tmp2 rfl _ _ _) rfl ?_
    exact HPOST.out

theorem grow_ext {w wr w' : World} {l : Value} {E : TypeId} {n : Nat} {cs : List Value} (h4 : Ext w wr) (o : Obj) (h5 : wr.ownsRow w.heap.size E 1 l n cs)
    (h6 : (wr.alloc o).grownBy w' l.ownBlock) : Ext w w' := by
  refine (h4.alloc o).grown h6 fun k hk => .inr ?_
  exact (h5.lt k hk).1

theorem valB_drop_lt (l : List UInt8) (j : Nat) (h : l.length ≤ 2) : valB (l.drop j) < 65536 := by
  have := valB_lt (l.drop j)
  exact Nat.lt_of_lt_of_le this (Nat.pow_le_pow_right (n := 256) (by omega) (show _ ≤ 2 by rw [List.length_drop]; omega))

end Go.Proofs.Ytegclfpmgilnpaa
