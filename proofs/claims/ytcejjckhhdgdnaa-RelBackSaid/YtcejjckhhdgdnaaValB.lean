/-
  Values: whether two are the same; one's own.
-/
import Derived.Test.YtcejjckhhdgdnaaValA
namespace Go.Proofs.Ytcejjckhhdgdnaa
open Go.RowKit Go.Lac

set_option maxRecDepth 20000 in
set_option maxHeartbeats 800000 in
theorem same_any (a b : Val) (w : World) :
    Calls Try.prog 99 #[pv a, pv b] w fun e w' => e = .returned (.bool (decide (a = b))) ∧ Ext w w' := by
  obtain ⟨k, n, re, im, t⟩ := a
  obtain ⟨k', n', re', im', t'⟩ := b
  have hx2 : Ext w ((w.alloc (.cells #[.int .u8 (k : Nat), .int .i64 n, .complex .f64 re im, strV t] 135)).alloc (.cells #[.int .u8 (k' : Nat), .int .i64 n', .complex .f64 re' im', strV t'] 135)) := ((Ch.refl _ _).alloc _).alloc _
  have HX := Lib.hid hx2; clear hx2
  unfold pv pvals
  simp only
  by_cases h1 : k = k'
  · subst h1
    by_cases h2 : n = n'
    · subst h2
      by_cases h3 : re = re'
      · subst h3
        by_cases h4 : im = im'
        · subst h4
          have hd : decide ((⟨k, n, re, im, t⟩ : Val) = ⟨k, n, re, im, t'⟩) = decide (t = t') := by simp
          rw [hd]
          have hq := toList_beq t t'
          unfold strV at *
          generalize decide (t = t') = z at *
          generalize (⟨t.toArray⟩ : ByteArray) = A1 at *
          generalize (⟨t'.toArray⟩ : ByteArray) = A2 at *
          clear hd
          go_enter Try.func99, Try.ntmps99
          go_wp2_with (go_at_call 105; refine (bits_any _ _ _).mono ?_; rintro e w' ⟨rfl, rfl⟩)
          go_ret
          exact ⟨rfl, HX.out⟩
        · have hd : decide ((⟨k, n, re, im, t⟩ : Val) = ⟨k, n, re, im', t'⟩) = false := by simp [h4]
          rw [hd]
          have e : (((im : Nat) : Int) == (im' : Nat)) = false := by simp; omega
          unfold strV at *
          clear hd h4
          go_enter Try.func99, Try.ntmps99
          go_wp2_with (go_at_call 105; refine (bits_any _ _ _).mono ?_; rintro e w' ⟨rfl, rfl⟩)
          go_ret
          exact ⟨rfl, HX.out⟩
      · have hd : decide ((⟨k, n, re, im, t⟩ : Val) = ⟨k, n, re', im', t'⟩) = false := by simp [h3]
        rw [hd]
        have e : (((re : Nat) : Int) == (re' : Nat)) = false := by simp; omega
        unfold strV at *
        clear hd h3
        go_enter Try.func99, Try.ntmps99
        go_wp2_with (go_at_call 105; refine (bits_any _ _ _).mono ?_; rintro e w' ⟨rfl, rfl⟩)
        go_ret
        exact ⟨rfl, HX.out⟩
    · have hd : decide ((⟨k, n, re, im, t⟩ : Val) = ⟨k, n', re', im', t'⟩) = false := by simp [h2]
      rw [hd]
      have e : (n == n') = false := by simpa using h2
      unfold strV at *
      clear hd h2
      go_enter Try.func99, Try.ntmps99
      go_wp2_with (go_at_call 105; refine (bits_any _ _ _).mono ?_; rintro e w' ⟨rfl, rfl⟩)
      go_ret
      exact ⟨rfl, HX.out⟩
  · have hd : decide ((⟨k, n, re, im, t⟩ : Val) = ⟨k', n', re', im', t'⟩) = false := by simp [h1]
    rw [hd]
    have e : (((k : Nat) : Int) == (k' : Nat)) = false := by simp; omega
    unfold strV at *
    clear hd h1
    go_enter Try.func99, Try.ntmps99
    go_wp2_with (go_at_call 105; refine (bits_any _ _ _).mono ?_; rintro e w' ⟨rfl, rfl⟩)
    go_ret
    exact ⟨rfl, HX.out⟩
end Go.Proofs.Ytcejjckhhdgdnaa
