import Derived.Test.YtegclfpmgilnpaaGreatValL
namespace Go.Proofs.YtegclfpmgilnpaaGreat
open Go.RowKit Go.Lac
theorem rev_step {l : List UInt8} {k : Nat} (h : k < l.length) : wordV (l.take (k + 1)).reverse = 256 * wordV (l.take k).reverse + l[k].toNat := by
  rw [List.take_succ_eq_append_getElem h, List.reverse_append, List.reverse_singleton, List.singleton_append, wordV]
  omega
set_option maxRecDepth 20000 in
set_option maxHeartbeats 1600000 in
theorem refTurned_any (u : Nat) (w : World) (hu : u < 18446744073709551616) :
    Calls Tryz.prog 125 #[.int .u64 (u : Nat)] w fun e w' => e = .returned (.int .u64 (rev8 u : Nat)) ∧ Ext w w' := by
  have HU := Lib.hid hu
  obtain ⟨i, hi1, hz, hs, hb⟩ := info_parts infoU8
  have HI := Lib.hid hi1; have HS := Lib.hid hs
  clear hu hi1 hz hs hb
  go_enter Tryz.func125, Tryz.ntmps125
  go_wp2_with fail
  refine (refWord_any u _ HU.out).mono ?_
  intro e w1 hm
  obtain ⟨s, rfl, h1, h2⟩ := hm.rd
  have HX := Lib.hid h1
  have hl : (leN 8 u).length = 8 := leN_length 8 u
  have HR : Hid (rev8 u = wordV (leN 8 u).reverse) := Lib.hid rfl
  obtain ⟨l, hll⟩ : ∃ l, l = leN 8 u := ⟨_, rfl⟩
  rw [← hll] at h2 hl HR
  obtain ⟨ao, cap, rfl⟩ := h2.shape
  obtain ⟨g, off, rfl, g1, g2, g3⟩ := cell_of_rd h2 rfl (by omega)
  have HC := Lib.hid g3
  have HL := Lib.hid hl
  clear hm h1 hll g1 g2 g3 h2
  rw [hl]
  clear hl
  go_wp2
  go_loop [4, 5] (fun x ix => ∃ k : Nat, k ≤ 8 ∧ ix = .int .i64 k ∧ x = .int .u64 (wordV (l.take k).reverse : Nat)) (fun _ ix => 8 - (intOf ix).toNat)
  case atStart => exact ⟨0, by omega, rfl, rfl⟩
  case round =>
    obtain ⟨k, hk, rfl, rfl⟩ := hrel
    by_cases hlt : k < 8
    · have hkl : k < l.length := by have := HL.out; omega
      have hc := HC.out k hkl
      have HN := Lib.hid (rev_step hkl)
      have hbd : wordV (l.take k).reverse < 72057594037927936 := by
        have h1 := wordV_lt (l.take k).reverse
        have h2 : (l.take k).reverse.length ≤ 7 := by rw [List.length_reverse, List.length_take]; omega
        have h3 : 256 ^ (l.take k).reverse.length ≤ 256 ^ 7 := Nat.pow_le_pow_right (by decide) h2
        exact Nat.lt_of_lt_of_le h1 h3
      have hcb := UInt8.toNat_lt l[k]
      generalize l[k].toNat = c at *
      generalize wordV (l.take k).reverse = o at *
      have hw1 : IntKind.u64.wrap (256 * (o : Int)) = 256 * (o : Int) := by rw [IntKind.wrap_u64]; omega
      have hw2 : IntKind.u64.wrap (256 * (o : Int) + (c : Int)) = 256 * (o : Int) + (c : Int) := by rw [IntKind.wrap_u64]; omega
      have hw3 : IntKind.u64.wrap (c : Int) = (c : Int) := by rw [IntKind.wrap_u64]; omega
      have HBD := Lib.hid hbd; have HCB := Lib.hid hcb
      clear hbd hcb
      go_wp2
      go_round
      case rel => exact ⟨k + 1, by omega, by simp, by rw [HN.out]; simp [hw2, hw3]⟩
      case measure => simp [intOf]; omega
    · obtain rfl : k = 8 := by omega
      have HF : Hid (((wordV (l.take 8).reverse : Nat) : Int) = (rev8 u : Nat)) := Lib.hid (by rw [HR.out, List.take_of_length_le (by have := HL.out; omega)])
      generalize wordV (l.take 8).reverse = o at *
      go_wp2
      go_ret
      exact ⟨by rw [← HF.out]; rfl, HX.out⟩
end Go.Proofs.YtegclfpmgilnpaaGreat
