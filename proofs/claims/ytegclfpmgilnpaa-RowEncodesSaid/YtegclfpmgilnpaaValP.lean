/-
  The reference's floats: turned, float.
-/
import Derived.Test.YtegclfpmgilnpaaValL
namespace Go.Proofs.Ytegclfpmgilnpaa
open Go.RowKit Go.Lac

theorem rev_step {l : List UInt8} {k : Nat} (h : k < l.length) : wordV (l.take (k + 1)).reverse = 256 * wordV (l.take k).reverse + l[k].toNat := by
  rw [List.take_succ_eq_append_getElem h, List.reverse_append, List.reverse_singleton, List.singleton_append, wordV]
  omega

set_option maxRecDepth 20000 in
set_option maxHeartbeats 1600000 in
theorem refTurned_any (u : Nat) (w : World) (hu : u < 18446744073709551616) :
    Calls Try.prog 134 #[.int .u64 (u : Nat)] w fun e w' => e = .returned (.int .u64 (rev8 u : Nat)) ∧ Ext w w' := by
  have HU := Lib.hid hu
  obtain ⟨i, hi1, hz, hs, hb⟩ := info_parts infoU8
  have HI := Lib.hid hi1; have HS := Lib.hid hs
  clear hu hi1 hz hs hb
  go_enter Try.func134, Try.ntmps134
  go_wp2_with fail
  refine (refWord_any u _ HU.out).mono ?_
  intro e w1 hm
  obtain ⟨s, rfl, h1, h2⟩ := hm.rd
  have HX := Lib.hid h1
  have hl : (leN 8 u).length = 8 := leN_length 8 u
  have HR : Hid (rev8 u = wordV (leN 8 u).reverse) := Lib.hid rfl
  obtain ⟨l, hll⟩ : ∃ l, l = leN 8 u := ⟨_, rfl⟩
  rw [← hll] at h2 hl HR
  obtain ⟨ao, cap, rfl⟩ := h2.shape
  obtain ⟨g, off, rfl, g1, g2, g3⟩ := cell_of_rd h2 rfl (by omega)
  have HC := Lib.hid g3
  have HL := Lib.hid hl
  clear hm h1 hll g1 g2 g3 h2
  rw [hl]
  clear hl
  go_wp2
  go_loop [4, 5] (fun x ix => ∃ k : Nat, k ≤ 8 ∧ ix = .int .i64 k ∧ x = .int .u64 (wordV (l.take k).reverse : Nat)) (fun _ ix => 8 - (intOf ix).toNat)
  case atStart => exact ⟨0, by omega, rfl, rfl⟩
  case round =>
    obtain ⟨k, hk, rfl, rfl⟩ := hrel
    by_cases hlt : k < 8
    · have hkl : k < l.length := by have := HL.out; omega
      have hc := HC.out k hkl
      have HN := Lib.hid (rev_step hkl)
      have hbd : wordV (l.take k).reverse < 72057594037927936 := by
        have h1 := wordV_lt (l.take k).reverse
        have h2 : (l.take k).reverse.length ≤ 7 := by rw [List.length_reverse, List.length_take]; omega
        have h3 : 256 ^ (l.take k).reverse.length ≤ 256 ^ 7 := Nat.pow_le_pow_right (by decide) h2
        exact Nat.lt_of_lt_of_le h1 h3
      have hcb := UInt8.toNat_lt l[k]
      generalize l[k].toNat = c at *
      generalize wordV (l.take k).reverse = o at *
      have hw1 : IntKind.u64.wrap (256 * (o : Int)) = 256 * (o : Int) := by rw [IntKind.wrap_u64]; omega
      have hw2 : IntKind.u64.wrap (256 * (o : Int) + (c : Int)) = 256 * (o : Int) + (c : Int) := by rw [IntKind.wrap_u64]; omega
      have hw3 : IntKind.u64.wrap (c : Int) = (c : Int) := by rw [IntKind.wrap_u64]; omega
      have HBD := Lib.hid hbd; have HCB := Lib.hid hcb
      clear hbd hcb
      go_wp2
      go_round
      case rel => exact ⟨k + 1, by omega, by simp, by rw [HN.out]; simp [hw2, hw3]⟩
      case measure => simp [intOf]; omega
    · obtain rfl : k = 8 := by omega
      have HF : Hid (((wordV (l.take 8).reverse : Nat) : Int) = (rev8 u : Nat)) := Lib.hid (by rw [HR.out, List.take_of_length_le (by have := HL.out; omega)])
      generalize wordV (l.take 8).reverse = o at *
      go_wp2
      go_ret
      exact ⟨by rw [← HF.out]; rfl, HX.out⟩

set_option maxRecDepth 20000 in
set_option maxHeartbeats 1600000 in
theorem refFloat_any (u ver : Nat) (w : World) (hu : u < 18446744073709551616) :
    Calls Try.prog 120 #[.int .u64 (u : Nat), .int .u8 (ver : Nat)] w (Made 5 (flt ver u) w) := by
  have HU := Lib.hid hu
  by_cases hv : ver = 1
  · have e : flt ver u = leN 8 u := by unfold flt; rw [if_pos hv]
    rw [e]
    subst hv
    clear e hu
    go_enter Try.func120, Try.ntmps120
    go_wp2_with (go_at_call 118; refine (refWord_any u _ HU.out).mono ?_)
    rintro e w1 ⟨s, rfl, h1, h2⟩
    have HF := Lib.hid (show Made 5 (leN 8 u) w (.returned s) w1 from ⟨s, rfl, h1, h2⟩)
    clear h1 h2
    go_wp2
    go_ret
    exact HF.out
  · have e : flt ver u = sev (rev8 u) := by unfold flt; rw [if_neg hv]
    rw [e]
    have e1 : (((ver : Nat) : Int) == 1) = false := by simp; omega
    clear e hu hv
    go_enter Try.func120, Try.ntmps120
    go_wp2_with (go_at_call 134; refine (refTurned_any u _ HU.out).mono ?_)
    rintro e w1 ⟨rfl, h1⟩
    have HX := Lib.hid h1
    clear h1
    go_wp2_with fail
    refine (refUint_any (rev8 u) _ (rev8_lt u)).mono ?_
    rintro e w2 ⟨s, rfl, h1, h2⟩
    have HF := Lib.hid (Made.after (w0 := w) (show Made 5 (sev (rev8 u)) w1 (.returned s) w2 from ⟨s, rfl, h1, h2⟩) HX.out)
    clear h1 h2
    go_wp2
    go_ret
    exact HF.out
end Go.Proofs.Ytegclfpmgilnpaa
