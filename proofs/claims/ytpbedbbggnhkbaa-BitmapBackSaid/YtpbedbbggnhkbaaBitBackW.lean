/-
  BitmapBack: the walk.
-/
import Derived.Test.YtpbedbbggnhkbaaProg
import Derived.Test.YtpbedbbggnhkbaaLib
import Derived.Test.YtpbedbbggnhkbaaBitF
import Derived.Test.YtpbedbbggnhkbaaBitG
import Derived.Test.YtpbedbbggnhkbaaBitH
import Derived.WalkKit
import Derived.Lib.Hide
namespace Go.Proofs.Ytpbedbbggnhkbaa
open Go.RowKit Go.Lac

set_option maxRecDepth 20000 in
set_option maxHeartbeats 2000000 in
theorem bitmapBack_walk (v vb : Value) (l : List Bool) (bs : List UInt8) (n : Int) (w : World) (h : RdBools w v l) (hb : Rd w vb bs) (hn : -9223372036854775808 ≤ n ∧ n ≤ 9223372036854775807) :
    Calls Try.prog 11 #[v, vb, .int .i64 n] w fun e w' => e = .returned (.bool true) ∧ Ext w w' := by
  obtain ⟨ao, cap, rfl⟩ := h.shape
  obtain ⟨ab, capb, rfl⟩ := hb.shape
  have hlen : l.length ≤ maxLen := by obtain ⟨_, _, _, g1, g2, _⟩ := h; omega
  have hlenb : bs.length ≤ maxLen := by obtain ⟨_, _, _, g1, g2, _⟩ := hb; omega
  unfold maxLen at hlen hlenb
  have H := Lib.hid h; have HB := Lib.hid hb; have HN := Lib.hid hn; clear h hb hn
  by_cases h16 : 16 < l.length
  · go_enter Try.func11, Try.ntmps11
    go_wp2
    go_ret
    exact ⟨rfl, Ch.refl _ _⟩
  by_cases h10 : 10 < bs.length
  · go_enter Try.func11, Try.ntmps11
    go_wp2
    go_ret
    exact ⟨rfl, Ch.refl _ _⟩
  have hl16 : l.length ≤ 16 := by omega
  have hz1 := fun w => size_any (l.length : Int) w
  rw [show sizeI (l.length : Int) = ((sizeN l.length : Nat) : Int) from by unfold sizeI; rw [if_pos (by omega), Int.toNat_natCast]] at hz1
  have HZ1 := Lib.hid hz1; clear hz1
  have hpk := fun w h => pack_any (.slice ao l.length cap) l w h
  have HPK := Lib.hid hpk; clear hpk
  have hun := unp_pack hl16
  have HUN := Lib.hid hun; clear hun
  have hun2 := fun v w h => unpack_any v (mapB l) (l.length : Int) w h (by omega)
  have HUN2 := Lib.hid hun2; clear hun2
  have hml := mapB_length l hl16
  have HML := Lib.hid hml; clear hml
  have HL16 := Lib.hid hl16; clear hl16
  go_enter Try.func11, Try.ntmps11
  go_wp2_with (go_at_call 38; refine (HPK.out _ H.out).mono ?_)
  intro e w1 hp
  unfold PackPost at hp
  rw [if_pos HL16.out] at hp
  obtain ⟨s1, rfl, x1, r1, _⟩ := hp
  obtain ⟨a1, c1, rfl⟩ := r1.shape
  have R1 := Lib.hid r1; have X1 := Lib.hid x1; have H1 := Lib.hid (Sl.ext H.out x1); have HB1 := Lib.hid (Rd.ext HB.out x1); clear r1 x1
  go_wp2_with (go_at_call 42; refine (HUN2.out _ _ R1.out).mono ?_)
  rintro e w2 ⟨s2, rfl, x2, r2⟩
  rw [HUN.out.1]
  rw [HUN.out.2] at r2
  have R2 := Lib.hid r2; have X2 := Lib.hid (X1.out.trans x2); have H2 := Lib.hid (Sl.ext H1.out x2); have HB2 := Lib.hid (Rd.ext HB1.out x2); clear r2 x2
  have hsm := same_any _ _ _ _ w2 R2.out H2.out
  rw [decide_eq_true rfl] at hsm
  have HSM := Lib.hid hsm; clear hsm
  rw [HML.out]
  generalize sizeN l.length = sz at *
  go_wp2_with (first | (go_at_call 44; refine HSM.out.mono ?_; rintro e w3 ⟨rfl, x3⟩) | (go_at_call 45; refine (HZ1.out _).mono ?_; rintro e w' ⟨rfl, rfl⟩))
  have X3 := Lib.hid (X2.out.trans x3); have HB3 := Lib.hid (Rd.ext HB2.out x3); clear x3
  refine (unpack_any _ _ _ _ HB3.out HN.out).mono ?_
  rintro e w4 ⟨s4, rfl, x4, r4⟩
  have X4 := Lib.hid (X3.out.trans x4); have HB4 := Lib.hid (Rd.ext HB3.out x4); clear x4
  by_cases hc : unpC bs n = 0
  · rw [hc]
    obtain ⟨hp1, hp2⟩ := pack_unp hc
    have HP1 := Lib.hid hp1; have HP2 := Lib.hid hp2; clear hp1 hp2 hc
    obtain ⟨a4, c4, rfl⟩ := r4.shape
    have R4 := Lib.hid r4; clear r4
    go_wp2_with (go_at_call 38; refine (pack_any _ _ _ R4.out).mono ?_)
    intro e w5 hp
    obtain ⟨s5, rfl, x5, r5⟩ := hp.uni
    clear hp
    rw [HP1.out] at r5
    rw [HP2.out]
    have X5 := Lib.hid (X4.out.trans x5)
    have hs1 := run_toString (P := Try.prog) r5 (src := 22) (dst := 9) Try.underlying22 Try.underlying5 Try.underlying9
    have hs2 := run_toString (P := Try.prog) (Rd.ext HB4.out x5) (src := 22) (dst := 9) Try.underlying22 Try.underlying5 Try.underlying9
    unfold strV at hs1 hs2
    clear x5 r5
    generalize bs.toArray = A1 at hs1 hs2
    go_wp2_with (go_at_call 41; refine (awake2_any _).mono ?_; rintro e w' ⟨rfl, hx⟩)
    have HX := Lib.hid (X5.out.trans hx); clear hx
    go_wp2
    go_ret
    exact ⟨rfl, HX.out⟩
  · rw [unpL_nil hc] at r4
    obtain ⟨a4, c4, rfl⟩ := r4.shape
    have hne : (unpC bs n == 0) = false := beq_eq_false_iff_ne.2 hc
    clear hc r4
    generalize unpC bs n = c at *
    go_wp2_with (go_at_call 41; refine (awake2_any _).mono ?_; rintro e w' ⟨rfl, hx⟩)
    have HX := Lib.hid (X4.out.trans hx); clear hx
    go_wp2
    go_ret
    exact ⟨rfl, HX.out⟩
end Go.Proofs.Ytpbedbbggnhkbaa
