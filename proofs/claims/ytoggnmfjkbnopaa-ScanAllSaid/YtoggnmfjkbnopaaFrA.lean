/-
  Frames: the plain bytes; what is wrong with a frame.
-/
import Derived.Test.YtoggnmfjkbnopaaProg
import Derived.Test.YtoggnmfjkbnopaaLib
import Derived.Test.YtoggnmfjkbnopaaLibC
import Derived.Test.YtoggnmfjkbnopaaInfo
import Derived.Test.YtoggnmfjkbnopaaCrcM
import Derived.WalkKit
import Derived.Lib.Hide
import Derived.Outline
namespace Go.Proofs.Ytoggnmfjkbnopaa
open Go.RowKit Go.Lac

/-- What is wrong with a version, a kind, a payload's length: an error's number. -/
def frRight (v k n : Nat) : Nat := if v ≠ 1 ∧ v ≠ 2 then 18 else if k < 1 ∨ 8 < k then 7 else if 4096 < n then 2 else 0

theorem frRight_cases (v k n : Nat) : (frRight v k n = 18 ∧ v ≠ 1 ∧ v ≠ 2) ∨ (frRight v k n = 7 ∧ (v = 1 ∨ v = 2) ∧ (k < 1 ∨ 8 < k)) ∨ (frRight v k n = 2 ∧ (v = 1 ∨ v = 2) ∧ 1 ≤ k ∧ k ≤ 8 ∧ 4096 < n) ∨ (frRight v k n = 0 ∧ (v = 1 ∨ v = 2) ∧ 1 ≤ k ∧ k ≤ 8 ∧ n ≤ 4096) := by
  unfold frRight
  by_cases h1 : v ≠ 1 ∧ v ≠ 2
  · rw [if_pos h1]; exact .inl ⟨rfl, h1⟩
  · rw [if_neg h1]
    by_cases h2 : k < 1 ∨ 8 < k
    · rw [if_pos h2]; exact .inr (.inl ⟨rfl, by omega, h2⟩)
    · rw [if_neg h2]
      by_cases h3 : 4096 < n
      · rw [if_pos h3]; exact .inr (.inr (.inl ⟨rfl, by omega, by omega, by omega, h3⟩))
      · rw [if_neg h3]; exact .inr (.inr (.inr ⟨rfl, by omega, by omega, by omega, by omega⟩))

set_option maxRecDepth 20000 in
set_option maxHeartbeats 800000 in
theorem right_any (v k n : Nat) (w : World) (hv : v < 256) (hk : k < 256) :
    Calls Try.prog 75 #[.int .u8 (v : Nat), .int .u8 (k : Nat), .int .i64 (n : Nat)] w fun e w' => e = .returned (.int .i64 (frRight v k n : Nat)) ∧ w = w' := by
  rcases frRight_cases v k n with ⟨h, h1, h2⟩ | ⟨h, h1, h2⟩ | ⟨h, h1, h2, h3, h4⟩ | ⟨h, h1, h2, h3, h4⟩
  · rw [h]; clear h
    by_cases h0 : v < 1
    · go_enter Try.func75, Try.ntmps75
      go_wp2
      go_ret
      exact ⟨rfl, rfl⟩
    · have h3 : 2 < v := by omega
      clear h1 h2
      go_enter Try.func75, Try.ntmps75
      go_wp2
      go_ret
      exact ⟨rfl, rfl⟩
  · rw [h]; clear h
    have a1 : 1 ≤ v := by omega
    have a2 : v ≤ 2 := by omega
    clear h1
    by_cases h0 : k < 1
    · clear h2
      go_enter Try.func75, Try.ntmps75
      go_wp2
      go_ret
      exact ⟨rfl, rfl⟩
    · have h3 : 8 < k := by omega
      clear h2
      go_enter Try.func75, Try.ntmps75
      go_wp2
      go_ret
      exact ⟨rfl, rfl⟩
  · rw [h]; clear h
    have a1 : 1 ≤ v := by omega
    have a2 : v ≤ 2 := by omega
    clear h1
    go_enter Try.func75, Try.ntmps75
    go_wp2
    go_ret
    exact ⟨rfl, rfl⟩
  · rw [h]; clear h
    have a1 : 1 ≤ v := by omega
    have a2 : v ≤ 2 := by omega
    clear h1
    go_enter Try.func75, Try.ntmps75
    go_wp2
    go_ret
    exact ⟨rfl, rfl⟩

set_option maxRecDepth 20000 in
set_option maxHeartbeats 800000 in
theorem refRight_any (v k : Nat) (s : Value) (p : List UInt8) (w : World) (hv : v < 256) (hk : k < 256) (h : Rd w s p) :
    Calls Try.prog 22 #[.agg #[.int .u8 (v : Nat), .int .u8 (k : Nat), s]] w fun e w' => e = .returned (.int .i64 (frRight v k p.length : Nat)) ∧ Ext w w' := by
  obtain ⟨ao, cap, rfl⟩ := h.shape
  have hc := frRight_cases v k p.length
  generalize frRight v k p.length = e at *
  generalize p.length = n at *
  clear h
  rcases hc with ⟨h, h1, h2⟩ | ⟨h, h1, h2⟩ | ⟨h, h1, h2, h3, h4⟩ | ⟨h, h1, h2, h3, h4⟩
  · subst h
    have b1 : ((v : Int) != 1) = true := by simp; omega
    have b2 : ((v : Int) != 2) = true := by simp; omega
    clear h1 h2
    go_enter Try.func22, Try.ntmps22
    go_wp2
    go_ret
    exact ⟨rfl, (Ch.refl _ _).alloc _⟩
  all_goals
    subst h
    have b : (((v : Int) != 1) = true ∧ ((v : Int) != 2) = false) ∨ ((v : Int) != 1) = false := by
      rcases h1 with rfl | rfl
      · exact .inr rfl
      · exact .inl ⟨rfl, rfl⟩
    clear h1
  · by_cases h0 : k < 1
    · clear h2
      rcases b with ⟨b1, b2⟩ | b1
      all_goals
        go_enter Try.func22, Try.ntmps22
        go_wp2
        go_ret
        exact ⟨rfl, (Ch.refl _ _).alloc _⟩
    · have h3 : 8 < k := by omega
      clear h2
      rcases b with ⟨b1, b2⟩ | b1
      all_goals
        go_enter Try.func22, Try.ntmps22
        go_wp2
        go_ret
        exact ⟨rfl, (Ch.refl _ _).alloc _⟩
  all_goals
    rcases b with ⟨b1, b2⟩ | b1
    all_goals
      go_enter Try.func22, Try.ntmps22
      go_wp2
      go_ret
      exact ⟨rfl, (Ch.refl _ _).alloc _⟩
end Go.Proofs.Ytoggnmfjkbnopaa
