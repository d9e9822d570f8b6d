/-
  The reference's reader: Byte, Word.
-/
import Derived.Test.YteechmgcjfnjbaaProg
import Derived.Test.YteechmgcjfnjbaaLib
import Derived.Test.YteechmgcjfnjbaaRefB
import Derived.WalkKit
import Derived.Lib.Hide
namespace Go.Proofs.Yteechmgcjfnjbaa
open Go.RowKit Go.Lac

set_option maxRecDepth 20000 in
set_option maxHeartbeats 1000000 in
theorem qbyte_any (q : Nat) (s : RS) (w : World) (h : IsQ w q s) :
    Calls Try.prog 78 #[QPtr q] w (QPost q (.int .u8 (byteR s).1) (byteR s).2 w) := by
  have HT := qbytes_any q s 1 w h (by omega)
  have hl := takeR_length 1 s
  unfold byteR
  generalize (takeR 1 s).1 = bs at *
  generalize (takeR 1 s).2 = s' at *
  have HT := Lib.hid HT
  clear h
  unfold QPtr at *
  cases bs with
  | nil =>
    go_enter Try.func78, Try.ntmps78
    go_wp2_with fail
    refine HT.out.mono ?_
    rintro e w1 ⟨rfl, k1, k2⟩
    have K1 := Lib.hid k1; have K2 := Lib.hid k2; clear k1 k2
    rw [show strV [] = .string ⟨#[]⟩ from rfl]
    go_wp2
    go_ret
    exact ⟨rfl, K1.out, K2.out⟩
  | cons b l =>
    have hl0 : l = [] := List.eq_nil_of_length_eq_zero (by rw [List.length_cons] at hl; omega)
    subst hl0
    have hq := toList_beq [b] []
    rw [decide_eq_false (by simp)] at hq
    clear hl
    go_enter Try.func78, Try.ntmps78
    go_wp2_with fail
    refine HT.out.mono ?_
    rintro e w1 ⟨rfl, k1, k2⟩
    have K1 := Lib.hid k1; have K2 := Lib.hid k2; clear k1 k2
    rw [show strV [b] = .string ⟨#[b]⟩ from rfl]
    go_wp2
    go_ret
    exact ⟨rfl, K1.out, K2.out⟩

theorem wordV_drop (l : List UInt8) (j : Nat) (h : j < l.length) : wordV (l.drop j) = l[j].toNat + 256 * wordV (l.drop (j + 1)) := by
  rw [List.drop_eq_getElem_cons h]; rfl
theorem wordV_drop_lt (l : List UInt8) (j : Nat) (h : l.length ≤ 8) : wordV (l.drop j) < 18446744073709551616 := by
  have := wordV_lt (l.drop j)
  exact Nat.lt_of_lt_of_le this (Nat.pow_le_pow_right (n := 256) (by omega) (show _ ≤ 8 by rw [List.length_drop]; omega))

set_option maxRecDepth 20000 in
set_option maxHeartbeats 1000000 in
theorem qword_any (q : Nat) (s : RS) (w : World) (h : IsQ w q s) :
    Calls Try.prog 133 #[QPtr q] w (QPost q (.int .u64 (wordR s).1) (wordR s).2 w) := by
  have HT := qbytes_any q s 8 w h (by omega)
  have hl := takeR_length 8 s
  unfold wordR
  generalize (takeR 8 s).1 = bs at *
  generalize (takeR 8 s).2 = s' at *
  have HT := Lib.hid HT
  clear h
  unfold QPtr at *
  go_enter Try.func133, Try.ntmps133
  go_wp2_with fail
  refine HT.out.mono ?_
  rintro e w1 ⟨rfl, k1, k2⟩
  have K1 := Lib.hid k1; have K2 := Lib.hid k2; clear k1 k2
  unfold strV
  go_wp2
  go_loop [4, 5] (fun v ix => ∃ j : Nat, j ≤ bs.length ∧ ix = .int .i64 ((j : Int) - 1) ∧ v = .int .u64 (wordV (bs.drop j) : Nat)) (fun _ ix => (intOf ix + 1).toNat)
  case atStart => exact ⟨bs.length, Nat.le_refl _, rfl, by rw [List.drop_length]; rfl⟩
  case round =>
    obtain ⟨j, hj, rfl, rfl⟩ := hrel
    cases j with
    | succ k =>
      have e : ((k + 1 : Nat) : Int) - 1 = (k : Int) := by omega
      rw [e]; clear e
      have hlt : k < bs.length := hj
      have hs := wordV_drop bs k hlt
      have hb0 := wordV_drop_lt bs k hl
      have HS := Lib.hid hs
      generalize wordV (bs.drop (k + 1)) = n at *
      have hx := bs[k].toNat_lt
      rw [hs] at hb0
      clear hs
      go_wp2
      go_round
      case rel =>
        refine ⟨k, by omega, rfl, ?_⟩
        rw [HS.out]
        have hg : ∀ h, (({ data := bs.toArray } : ByteArray)[k]'h).toNat = bs[k].toNat := fun h => rfl
        simp only [hg]
        have hw1 : IntKind.u64.wrap ((bs[k].toNat : Nat) : Int) = (bs[k].toNat : Nat) := wrap_u64_of (by omega) (by omega)
        rw [hw1, wrap_u64_of (by omega) (by omega)]
        congr 1; omega
      case measure => simp [intOf] <;> omega
    | zero =>
      have e : ((0 : Nat) : Int) - 1 = -1 := rfl
      rw [e, List.drop_zero]; clear e
      go_wp2
      go_ret
      exact ⟨rfl, K1.out, K2.out⟩
end Go.Proofs.Yteechmgcjfnjbaa
