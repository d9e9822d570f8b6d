import Derived.Test.YtegclfpmgilnpaaGreatValJ
import Derived.Test.YtegclfpmgilnpaaGreatGPrim
namespace Go.Proofs.YtegclfpmgilnpaaGreat
open Go.RowKit Go.Lac
theorem own_set {w : World} {base g n cap : Nat} {e : TypeId} {xs : List Value} (h : w.ownsRow base e 1 (.slice (some ⟨g, 0, none⟩) n cap) n xs) (i : Nat) (hi : i < n) (u : Value) :
    (∃ x, xs[i]? = some x ∧ w.cell? ⟨g, i, none⟩ = some x) ∧ w.frozen? ⟨g, i, none⟩ = false ∧ (w.setCell ⟨g, i, none⟩ u).ownsRow base e 1 (.slice (some ⟨g, 0, none⟩) n cap) n (xs.set i u) := by
  obtain ⟨h1, h2⟩ := h
  rcases h2 with ⟨h2, _⟩ | ⟨g', cap', cur, e1, hb, hg, hn, hm, hs, ht⟩
  · cases h2
  · cases e1
    rw [Nat.mul_one] at h1 hs ht
    have hic : i < cur.size := by omega
    refine ⟨⟨cur[i], ?_, ?_⟩, frozen_of_row w g i _ _ hg, ?_⟩
    · rw [← ht, List.getElem?_take, if_pos hi]; simp [hic]
    · rw [cell_of_row _ _ _ _ _ _ hg]; simp [hic]
    · refine ⟨by simp [h1], .inr ⟨g, cap, cur.setIfInBounds i u, rfl, hb, heap_setCell_same w g i _ _ _ hg, hn, hm, by simp [hs], ?_⟩⟩
      rw [Nat.mul_one, ← ht]
      simp [List.take_set]
set_option maxRecDepth 20000 in
set_option maxHeartbeats 1600000 in
theorem floatForm_any (u ver : Nat) (w : World) (hu : u < 18446744073709551616) :
    Calls Tryz.prog 127 #[.int .u64 (u : Nat), .int .u8 (ver : Nat)] w (RdPost (flt ver u) w) := by
  have HU := Lib.hid hu
  by_cases hv : ver = 1
  · have e : flt ver u = leN 8 u := by unfold flt; rw [if_pos hv]
    rw [e]
    clear e hu
    subst hv
    go_enter Tryz.func127, Tryz.ntmps127
    go_wp2_with (go_at_call 132; refine (word_put_any u _ HU.out).mono ?_)
    rintro e w1 ⟨s, rfl, h1, h2⟩
    have H1 := Lib.hid h1; have H2 := Lib.hid h2
    clear h1 h2
    go_wp2
    go_ret
    exact ⟨_, rfl, H1.out, H2.out⟩
  · have e : flt ver u = [] ++ sev (rev8 u) := by unfold flt; rw [if_neg hv]; rfl
    rw [e]
    have e1 : (((ver : Nat) : Int) == 1) = false := by simp; omega
    have HP := Lib.hid (putUint_any (.slice none 0 0) [] (rev8 u) w (rd_nil w) (by simp) (rev8_lt u))
    have HR := Lib.hid (revBytes_any u w hu)
    clear e hu hv
    go_enter Tryz.func127, Tryz.ntmps127
    go_wp2_with (go_at_call 122; refine HR.out.mono ?_; rintro e w' ⟨rfl, rfl⟩)
    refine HP.out.mono ?_
    rintro e w1 hm
    obtain ⟨s, rfl, h1, h2⟩ := hm.rd
    have H1 := Lib.hid h1; have H2 := Lib.hid h2
    clear h1 h2 hm
    go_wp2
    go_ret
    exact ⟨_, rfl, H1.out, H2.out⟩
set_option maxRecDepth 20000 in
set_option maxHeartbeats 1600000 in
theorem intForm_any (n : Int) (ver : Nat) (w : World) (h0 : -9223372036854775808 ≤ n) (h1 : n ≤ 9223372036854775807) :
    Calls Tryz.prog 126 #[.int .i64 n, .int .u8 (ver : Nat)] w (RdPost (if ver = 1 then leN 8 (i64u n) else sev (Lib.zigzag n)) w) := by
  by_cases hv : ver = 1
  · rw [if_pos hv]
    have hw : IntKind.u64.wrap n = ((i64u n : Nat) : Int) := by rw [IntKind.wrap_u64]; unfold i64u; omega
    have HU := Lib.hid (i64u_lt n)
    subst hv
    clear h0 h1
    generalize i64u n = u at *
    go_enter Tryz.func126, Tryz.ntmps126
    go_wp2_with (go_at_call 132; refine (word_put_any u _ HU.out).mono ?_)
    rintro e w1 ⟨s, rfl, h1, h2⟩
    have H1 := Lib.hid h1; have H2 := Lib.hid h2
    clear h1 h2
    go_wp2
    go_ret
    exact ⟨_, rfl, H1.out, H2.out⟩
  · rw [if_neg hv]
    have e1 : (((ver : Nat) : Int) == 1) = false := by simp; omega
    have HP := Lib.hid (putInt_any (.slice none 0 0) [] n w (rd_nil w) (by simp) h0 h1)
    clear hv h0 h1
    go_enter Tryz.func126, Tryz.ntmps126
    go_wp2_with fail
    refine HP.out.mono ?_
    rintro e w1 hm
    obtain ⟨s, rfl, h1, h2⟩ := hm.rd
    have H1 := Lib.hid h1; have H2 := Lib.hid h2
    clear h1 h2 hm
    go_wp2
    go_ret
    exact ⟨_, rfl, H1.out, H2.out⟩
set_option maxRecDepth 20000 in
set_option maxHeartbeats 1600000 in
theorem complexForm_1 (re im : Nat) (w : World) (hr : re < 18446744073709551616) (hi : im < 18446744073709551616) :
    Calls Tryz.prog 128 #[.int .u64 (re : Nat), .int .u64 (im : Nat), .int .u8 1] w (RdPost (leN 8 re ++ leN 8 im) w) := by
  have HR := Lib.hid hr; have HI := Lib.hid hi
  clear hr hi
  go_enter Tryz.func128, Tryz.ntmps128
  go_wp2_with fail
  refine (word_put_any re _ HR.out).mono ?_
  rintro e w1 ⟨s, rfl, h1, h2⟩
  have H1 := Lib.hid h1; have H2 := Lib.hid h2
  clear h1 h2
  go_wp2_with fail
  refine (word_put_any im _ HI.out).mono ?_
  rintro e w2 ⟨s2, rfl, h3, h4⟩
  obtain ⟨a1, c1, rfl⟩ := H2.out.shape
  obtain ⟨a2, c2, rfl⟩ := h4.shape
  have hcat := concat_any [leN 8 re, leN 8 im] w2.heap.size 0 2 _ (rdAll_two (H2.out.ext h3) h4 22) (by simp [total, leN_length]) (by simp)
  have HC := Lib.hid hcat; have H3 := Lib.hid h3
  clear hcat h3 h4
  go_wp2_with fail
  refine HC.out.mono ?_
  rintro e w3 hm
  obtain ⟨s3, rfl, h5, h6⟩ := hm.rd
  have H5 := Lib.hid (((H1.out.trans H3.out).alloc _).trans h5); have H6 := Lib.hid h6
  clear h5 h6 hm
  go_wp2
  go_ret
  exact ⟨_, rfl, H5.out, by simpa using H6.out⟩
end Go.Proofs.YtegclfpmgilnpaaGreat
