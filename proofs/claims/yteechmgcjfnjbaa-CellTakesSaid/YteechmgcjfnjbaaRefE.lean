/-
  The reference's reader: Int, Text.
-/
import Derived.Test.YteechmgcjfnjbaaProg
import Derived.Test.YteechmgcjfnjbaaLib
import Derived.Test.YteechmgcjfnjbaaRefC
import Derived.Test.YteechmgcjfnjbaaRefD
import Derived.WalkKit
import Derived.Lib.Hide
namespace Go.Proofs.Yteechmgcjfnjbaa
open Go.RowKit Go.Lac

set_option maxRecDepth 20000 in
set_option maxHeartbeats 1000000 in
theorem qint_any (q : Nat) (s : RS) (w : World) (h : IsQ w q s) :
    Calls Try.prog 134 #[QPtr q] w (QPost q (.int .i64 (intR s).1) (intR s).2 w) := by
  have HU := quint_any q s 18446744073709551615 w h (by decide)
  have HZ := fun w' => qzag_any (uintR 18446744073709551615 s).1 w' (uintR_lt _ _)
  unfold intR
  generalize (uintR 18446744073709551615 s).1 = u at *
  generalize (uintR 18446744073709551615 s).2 = s' at *
  have HU := Lib.hid HU
  have HZ := Lib.hid HZ
  clear h
  unfold QPtr at *
  go_enter Try.func134, Try.ntmps134
  go_wp2_with fail
  refine HU.out.mono ?_
  rintro e w1 ⟨rfl, k1, k2⟩
  have K1 := Lib.hid k1; have K2 := Lib.hid k2; clear k1 k2
  go_wp2_with (go_at_call 149; refine (HZ.out _).mono ?_; rintro e w' ⟨rfl, rfl⟩)
  go_ret
  exact ⟨rfl, K1.out, K2.out⟩

theorem i64_u64 (m : Nat) (h : m ≤ 9223372036854775807) : IntKind.u64.wrap (m : Int) = m := wrap_u64_of (by omega) (by omega)

set_option maxRecDepth 20000 in
set_option maxHeartbeats 1000000 in
theorem qtext_any (q : Nat) (s : RS) (m : Int) (w : World) (h : IsQ w q s) (hm : m ≤ 9223372036854775807) :
    Calls Try.prog 77 #[QPtr q, .int .i64 m] w (QPost q (strV (textR m.toNat s).1) (textR m.toNat s).2 w) := by
  have HU := Lib.hid (quint_any q s m.toNat w h (by omega))
  have HT := fun w' (h' : IsQ w' q (uintR m.toNat s).2) => qbytes_any q (uintR m.toNat s).2 (uintR m.toNat s).1 w' h' (uintR_lt _ _)
  have HTX : textR m.toNat s = takeR (uintR m.toNat s).1 (uintR m.toNat s).2 := rfl
  rw [HTX]
  clear HTX
  generalize takeR (uintR m.toNat s).1 (uintR m.toNat s).2 = tk at *
  generalize hus : (uintR m.toNat s).2 = us at *
  generalize hun : (uintR m.toNat s).1 = un at *
  have HT := Lib.hid HT
  clear hus hun h
  unfold QPtr at *
  by_cases h0 : 0 ≤ m
  · obtain ⟨k, rfl⟩ := Int.eq_ofNat_of_zero_le h0
    rw [Int.toNat_natCast] at HU
    clear h0
    go_enter Try.func77, Try.ntmps77
    go_wp2_with fail
    refine HU.out.mono ?_
    rintro e w1 ⟨rfl, k1, k2⟩
    have K1 := Lib.hid k1; have K2 := Lib.hid k2; clear k1 k2
    go_wp2_with fail
    refine (HT.out _ K2.out).mono ?_
    rintro e w2 ⟨rfl, k3, k4⟩
    have K3 := Lib.hid k3; have K4 := Lib.hid k4; clear k3 k4
    go_wp2
    go_ret
    exact ⟨rfl, K1.out.trans K3.out, K4.out⟩
  · have hk : m.toNat = 0 := by omega
    rw [hk] at HU
    clear hk
    have hneg : m < 0 := by omega
    clear h0
    go_enter Try.func77, Try.ntmps77
    go_wp2_with fail
    refine HU.out.mono ?_
    rintro e w1 ⟨rfl, k1, k2⟩
    have K1 := Lib.hid k1; have K2 := Lib.hid k2; clear k1 k2
    go_wp2_with fail
    refine (HT.out _ K2.out).mono ?_
    rintro e w2 ⟨rfl, k3, k4⟩
    have K3 := Lib.hid k3; have K4 := Lib.hid k4; clear k3 k4
    go_wp2
    go_ret
    exact ⟨rfl, K1.out.trans K3.out, K4.out⟩
end Go.Proofs.Yteechmgcjfnjbaa
