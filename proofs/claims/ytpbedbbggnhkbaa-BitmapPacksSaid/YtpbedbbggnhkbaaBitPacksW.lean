/-
  BitmapPacks: the walk.
-/
import Derived.Test.YtpbedbbggnhkbaaProg
import Derived.Test.YtpbedbbggnhkbaaLib
import Derived.Test.YtpbedbbggnhkbaaBitF
import Derived.Test.YtpbedbbggnhkbaaBitG
import Derived.Test.YtpbedbbggnhkbaaBitH
import Derived.WalkKit
import Derived.Lib.Hide
namespace Go.Proofs.Ytpbedbbggnhkbaa
open Go.RowKit Go.Lac

set_option maxRecDepth 20000 in
set_option maxHeartbeats 2000000 in
theorem bitmapPacks_walk (v : Value) (l : List Bool) (w : World) (h : RdBools w v l) :
    Calls Try.prog 9 #[v] w fun e w' => e = .returned (.bool true) ∧ Ext w w' := by
  obtain ⟨ao, cap, rfl⟩ := h.shape
  have hlen : l.length ≤ maxLen := by obtain ⟨_, _, _, g1, g2, _⟩ := h; omega
  unfold maxLen at hlen
  have H := Lib.hid h; clear h
  by_cases h60 : 60 < l.length
  · go_enter Try.func9, Try.ntmps9
    go_wp2
    go_ret
    exact ⟨rfl, Ch.refl _ _⟩
  go_enter Try.func9, Try.ntmps9
  go_wp2_with (go_at_call 38; refine (pack_any _ _ _ H.out).mono ?_)
  intro e w1 hp
  obtain ⟨s1, rfl, x1, r1⟩ := hp.uni
  clear hp
  have H1 := Lib.hid (Sl.ext H.out x1)
  have X1 := Lib.hid x1; have R1 := Lib.hid r1; clear x1 r1
  go_wp2_with (go_at_call 39; refine (refPack_any _ _ _ H1.out).mono ?_)
  intro e w2 hp
  obtain ⟨s2, rfl, x2, r2⟩ := hp.uni
  clear hp
  have H2 := Lib.hid (Sl.ext H1.out x2)
  have X2 := Lib.hid (X1.out.trans x2)
  have hs1 := run_toString (P := Try.prog) (Rd.ext R1.out x2) (src := 22) (dst := 9) Try.underlying22 Try.underlying5 Try.underlying9
  have hs2 := run_toString (P := Try.prog) r2 (src := 22) (dst := 9) Try.underlying22 Try.underlying5 Try.underlying9
  unfold strV at hs1 hs2
  clear x2 r2
  generalize (packL l).toArray = A1 at *
  have hcount := fun w h => count_any (.slice ao l.length cap) l w h
  have HCT := Lib.hid hcount; clear hcount
  have HS1 := Lib.hid hs1; have HS2 := Lib.hid hs2; clear hs1 hs2
  go_wp2
  go_loop [7, 8] (fun n ix => ∃ k : Nat, k ≤ l.length ∧ ix = .int .i64 k ∧ n = .int .i64 (countT (l.take k) : Nat)) (fun _ ix => l.length - (intOf ix).toNat)
  case atStart => exact ⟨0, Nat.zero_le _, rfl, rfl⟩
  case round =>
    obtain ⟨k, hk, rfl, rfl⟩ := hrel
    by_cases hlt : k < l.length
    · obtain ⟨b, off, rfl, g1, g2, g3⟩ := bools_cell H2.out rfl (by omega)
      have hc := g3 k hlt
      have hs := countT_take l k hlt
      have hle := countT_le l k
      have HS := Lib.hid hs
      clear hs g3
      unfold maxLen at g2
      generalize countT (l.take k) = n at *
      generalize hb : l[k] = bk at hc HS
      have HB := Lib.hid hb; clear hb
      cases bk with
      | true =>
        go_wp2
        go_round
        case rel => exact ⟨k + 1, by omega, by go_num, by rw [HS.out]; go_num⟩
        case measure => simp [intOf] <;> omega
      | false =>
        go_wp2
        go_round
        case rel => exact ⟨k + 1, by omega, by go_num, by rw [HS.out]; go_num⟩
        case measure => simp [intOf] <;> omega
    · have hkn : k = l.length := by omega
      subst hkn
      have hfull : l.take l.length = l := List.take_of_length_le (Nat.le_refl _)
      rw [hfull]
      clear hfull
      have hs1 := HS1.out; have hs2 := HS2.out
      have hct := HCT.out w2 H2.out
      have HC := Lib.hid hct; clear hct
      go_wp2_with (first | (go_at_call 40; refine HC.out.mono ?_; rintro e w' ⟨rfl, rfl⟩) | (go_at_call 41; refine (awake2_any _).mono ?_; rintro e w' ⟨rfl, hx⟩))
      have HX := Lib.hid (X2.out.trans hx); clear hx
      go_wp2
      go_ret
      exact ⟨rfl, HX.out⟩
end Go.Proofs.Ytpbedbbggnhkbaa
