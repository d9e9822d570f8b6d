/-
  BitmapUnpacks: the walk.
-/
import Derived.Test.YtpbedbbggnhkbaaProg
import Derived.Test.YtpbedbbggnhkbaaLib
import Derived.Test.YtpbedbbggnhkbaaBitF
import Derived.Test.YtpbedbbggnhkbaaBitG
import Derived.Test.YtpbedbbggnhkbaaBitH
import Derived.WalkKit
import Derived.Lib.Hide
namespace Go.Proofs.Ytpbedbbggnhkbaa
open Go.RowKit Go.Lac

set_option maxRecDepth 20000 in
set_option maxHeartbeats 2000000 in
theorem bitmapUnpacks_walk (v : Value) (bs : List UInt8) (n : Int) (w : World) (h : Rd w v bs) (hn : -9223372036854775808 ≤ n ∧ n ≤ 9223372036854775807) :
    Calls Try.prog 10 #[v, .int .i64 n] w fun e w' => e = .returned (.bool true) ∧ Ext w w' := by
  obtain ⟨ao, cap, rfl⟩ := h.shape
  have hlen : bs.length ≤ maxLen := by obtain ⟨_, _, _, g1, g2, _⟩ := h; omega
  unfold maxLen at hlen
  have H := Lib.hid h; have HN := Lib.hid hn; clear h hn
  by_cases h60 : 10 < bs.length
  · go_enter Try.func10, Try.ntmps10
    go_wp2
    go_ret
    exact ⟨rfl, Ch.refl _ _⟩
  have hz1 := fun w => size_any n w
  have hz2 := fun w => refSize_any n w
  generalize sizeI n = z at hz1 hz2
  have HZ1 := Lib.hid hz1; have HZ2 := Lib.hid hz2; clear hz1 hz2
  go_enter Try.func10, Try.ntmps10
  go_wp2_with (go_at_call 42; refine (unpack_any _ _ _ _ H.out HN.out).mono ?_)
  rintro e w1 ⟨s1, rfl, x1, r1⟩
  have H1 := Lib.hid (Rd.ext H.out x1)
  have X1 := Lib.hid x1; have R1 := Lib.hid r1; clear x1 r1
  go_wp2_with (go_at_call 43; refine (refUnpack_any _ _ _ _ H1.out HN.out).mono ?_)
  rintro e w2 ⟨s2, rfl, x2, r2⟩
  have R1' := Lib.hid (Sl.ext R1.out x2)
  have X2 := Lib.hid (X1.out.trans x2); have R2 := Lib.hid r2; clear x2 r2
  generalize unpC bs n = c at *
  have hsm := same_any _ _ _ _ w2 R1'.out R2.out
  rw [decide_eq_true rfl] at hsm
  have HSM := Lib.hid hsm; clear hsm
  go_wp2_with (go_at_call 44; refine HSM.out.mono ?_)
  rintro e w3 ⟨rfl, x3⟩
  have X3 := Lib.hid (X2.out.trans x3); clear x3
  go_wp2_with (first | (go_at_call 45; refine (HZ1.out _).mono ?_; rintro e w' ⟨rfl, rfl⟩) | (go_at_call 46; refine (HZ2.out _).mono ?_; rintro e w' ⟨rfl, rfl⟩) | (go_at_call 41; refine (awake2_any _).mono ?_; rintro e w' ⟨rfl, hx⟩))
  have HX := Lib.hid (X3.out.trans hx); clear hx
  go_wp2
  go_ret
  exact ⟨rfl, HX.out⟩
end Go.Proofs.Ytpbedbbggnhkbaa
