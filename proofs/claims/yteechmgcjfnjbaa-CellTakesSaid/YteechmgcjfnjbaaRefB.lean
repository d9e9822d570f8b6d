/-
  The reference's reader: Bytes, Byte, Word.
-/
import Derived.Test.YteechmgcjfnjbaaProg
import Derived.Test.YteechmgcjfnjbaaLib
import Derived.Test.YteechmgcjfnjbaaPrimF
import Derived.Test.YteechmgcjfnjbaaRefA
import Derived.WalkKit
import Derived.Deep.QuietTactic
import Derived.BigQuiet
import Derived.Lib.Hide
namespace Go.Proofs.Yteechmgcjfnjbaa
open Go.RowKit Go.Lac

theorem rd_mid {w : World} {b off cap : Nat} {bs : List UInt8} (hrd : Rd w (.slice (some ⟨b, off, none⟩) bs.length cap) bs) (a n : Nat) (h : a + n ≤ bs.length) (ao : Option Addr)
    (hao : ao = some ⟨b, off + a, none⟩ ∨ (a = bs.length ∧ ∃ x, ao = some ⟨b, x, none⟩)) : Rd w (.slice ao n (cap - a)) ((bs.drop a).take n) := by
  have h1 := Rd.drop hrd a (by omega) ao hao
  rw [← List.length_drop] at h1
  exact Rd.take h1 n (by rw [List.length_drop]; omega)

set_option maxRecDepth 20000 in
set_option maxHeartbeats 1000000 in
theorem qbytes_any (q : Nat) (s : RS) (n : Nat) (w : World) (h : IsQ w q s) (hn : n < 2 ^ 64) :
    Calls Try.prog 101 #[QPtr q, .int .u64 n] w (QPost q (strV (takeR n s).1) (takeR n s).2 w) := by
  have HL := Lib.hid (qleft_any q s w h)
  have HG := Lib.hid (fun n => giveUp_any q s 1 (w.drewN n) (h.ext (ext_drewN w n)))
  obtain ⟨bs, a, ao, cap, c0, c1, c2, f1, f2, hrd, hle, hm, hs, hrow, hst⟩ := h.cells
  have hll : s.1.length ≤ bs.length := by rw [hs]; split <;> simp
  have H := Lib.hid h; have HS := Lib.hid hs; have HROW := Lib.hid hrow; have HRD := Lib.hid hrd; have HST := Lib.hid hst
  clear h hs hrow hrd hst
  unfold QPtr at *
  by_cases hlt : s.1.length < n
  · have hu : takeR n s = ([], failR s 1) := by unfold takeR; rw [if_pos hlt]
    have HU := Lib.hid hu
    clear hu
    go_enter Try.func101, Try.ntmps101
    go_wp2_with (go_at_call 28; refine HL.out.mono ?_; rintro e w' ⟨rfl, k, rfl⟩)
    refine (HG.out k).mono ?_
    rintro e w1 ⟨rfl, k1, k2⟩
    have K1 := Lib.hid k1; have K2 := Lib.hid k2; clear k1 k2
    go_wp2
    go_ret
    rw [HU.out]
    exact ⟨rfl, (ext_drewN w k).ch.trans K1.out, K2.out⟩
  · have hu : takeR n s = (s.1.take n, (s.1.drop n, s.2)) := by unfold takeR; rw [if_neg hlt]
    have HU := Lib.hid hu
    clear hu
    have hsum : a + n ≤ bs.length := by
      have := HS.out
      by_cases h2 : s.2 = 0
      · rw [if_pos h2] at this; rw [this, List.length_drop] at hlt; omega
      · rw [if_neg h2] at this; rw [this] at hlt; simp at hlt; omega
    have htk : s.1.take n = (bs.drop a).take n := by
      have := HS.out
      by_cases h2 : s.2 = 0
      · rw [this, if_pos h2]
      · rw [if_neg h2] at this; rw [this] at hlt ⊢; simp at hlt; subst hlt; simp
    have hdr : s.1.drop n = if s.2 = 0 then bs.drop (a + n) else [] := by
      have := HS.out
      by_cases h2 : s.2 = 0
      · rw [this, if_pos h2, if_pos h2, List.drop_drop]
      · rw [if_neg h2] at this; rw [this, if_neg h2]; simp
    have HTK := Lib.hid htk; have HDR := Lib.hid hdr; clear htk hdr
    have hrow2 : ∀ (k : Nat), ((w.drewN k).setCell ⟨q, 1, none⟩ (.int .i64 ((a : Int) + n))).heap[q]? = some (.cells #[.slice ao bs.length cap, .int .i64 ((a : Int) + n), .int .i64 s.2] 55 (0, 0)) := fun k => heap_setCell_same (w.drewN k) q 1 _ _ _ HROW.out
    have hrd2 : ∀ (k : Nat), Rd ((w.drewN k).setCell ⟨q, 1, none⟩ (.int .i64 ((a : Int) + n))) (.slice ao bs.length cap) bs := fun k => (HRD.out.ext (ext_drewN w k)).setCell (p := ⟨q, 1, none⟩) (u0 := .int .i64 (a : Nat)) (by simpa using c1) (noByte_i64 _) _
    have hex : ∀ (k : Nat), Only q w ((w.drewN k).setCell ⟨q, 1, none⟩ (.int .i64 ((a : Int) + n))) := fun k => (ext_drewN w k).ch.trans (Ch.setCell (M := fun b => b = q) (Ch.refl _ _) (.inl rfl) _)
    have HROW2 := Lib.hid hrow2; have HRD2 := Lib.hid hrd2; have HEX := Lib.hid hex; clear hrow2 hrd2 hex HROW HRD HS H HG
    go_enter Try.func101, Try.ntmps101
    go_wp2_with (go_at_call 28; refine HL.out.mono ?_; rintro e w' ⟨rfl, k, rfl⟩)
    have hrow2 := HROW2.out k; have hrd2 := HRD2.out k; have hex := HEX.out k
    clear HROW2 HRD2 HEX c0 c1 c2 f1 f2 HL
    generalize (w.drewN k).setCell ⟨q, 1, none⟩ (.int .i64 ((a : Int) + n)) = w2 at *
    have d0 := cell_of_row w2 q 0 _ _ _ hrow2
    have d1 := cell_of_row w2 q 1 _ _ _ hrow2
    have hcap : bs.length ≤ cap ∧ cap ≤ 9223372036854775807 := by obtain ⟨_, _, e, h2, h3, _⟩ := hrd2; cases e; unfold maxLen at h3; omega
    obtain ⟨hcap1, hcap2⟩ := hcap
    cases ao with
    | none =>
      have hz : cap = 0 := by obtain ⟨_, _, e, _, _, h4, _⟩ := hrd2; cases e; exact h4 rfl
      subst hz
      have hb0 : bs = [] := List.eq_nil_of_length_eq_zero (by omega)
      subst hb0
      obtain rfl : a = 0 := by simp at hle; omega
      obtain rfl : n = 0 := by simp at hsum; omega
      have hmid : Rd w2 (.slice none 0 0) ((([] : List UInt8).drop 0).take 0) := rd_nil w2
      have hcv := fun j => run_toString (P := Try.prog) (hmid.ext (ext_drewN w2 j)) (src := 45) (dst := 9) Try.underlying45 Try.underlying5 Try.underlying9
      rw [← HTK.out] at hcv
      have hfin : IsQ w2 q (s.1.drop 0, s.2) := ⟨_, [], 0, by rw [hrow2]; simp, ⟨hrd2, strict_nil⟩, hsum, HDR.out⟩
      have HFIN := Lib.hid hfin
      have HEX := Lib.hid hex
      have HU1 := Lib.hid (show (takeR 0 s).1 = s.1.take 0 by rw [HU.out]); have HU2 := Lib.hid (show (takeR 0 s).2 = (s.1.drop 0, s.2) by rw [HU.out])
      unfold strV at *
      generalize hA : (s.1.take 0).toArray = A1 at *
      have HA := Lib.hid hA; clear hA
      clear hmid hfin hrow2 hrd2 hex HST HTK HDR HU
      go_quiet (fail)
      go_wp2
      go_ret
      exact ⟨by rw [HU1.out, HA.out]; rfl, HEX.out.trans (ext_drewN _ _).ch, by rw [HU2.out]; exact HFIN.out.ext (ext_drewN _ _)⟩
    | some x =>
      have hsp := HST.out _ rfl
      obtain ⟨b, off, sp⟩ := x
      simp only at hsp
      subst hsp
      by_cases hca : cap = a
      · have hmid := rd_mid hrd2 a n hsum (some ⟨b, off, none⟩) (.inr ⟨by omega, _, rfl⟩)
        have hca0 : cap - a = 0 := by omega
        rw [hca0] at hmid
        clear hca0
        have hcv := fun j => run_toString (P := Try.prog) (hmid.ext (ext_drewN w2 j)) (src := 45) (dst := 9) Try.underlying45 Try.underlying5 Try.underlying9
        rw [← HTK.out] at hcv
        have hfin : IsQ w2 q (s.1.drop n, s.2) := ⟨_, bs, a + n, by rw [hrow2]; simp, ⟨hrd2, strict_lit _ _ _ _⟩, hsum, HDR.out⟩
        have HFIN := Lib.hid hfin
        have HEX := Lib.hid hex
        have HU1 := Lib.hid (show (takeR n s).1 = s.1.take n by rw [HU.out]); have HU2 := Lib.hid (show (takeR n s).2 = (s.1.drop n, s.2) by rw [HU.out])
        unfold strV at *
        generalize hA : (s.1.take n).toArray = A1 at *
        have HA := Lib.hid hA; clear hA
        clear hmid hfin hrow2 hrd2 hex HST HTK HDR HU
        go_quiet (fail)
        go_wp2
        go_ret
        exact ⟨by rw [HU1.out, HA.out]; rfl, HEX.out.trans (ext_drewN _ _).ch, by rw [HU2.out]; exact HFIN.out.ext (ext_drewN _ _)⟩
      · have hmid := rd_mid hrd2 a n hsum (some ⟨b, off + a, none⟩) (.inl rfl)
        have hcv := fun j => run_toString (P := Try.prog) (hmid.ext (ext_drewN w2 j)) (src := 45) (dst := 9) Try.underlying45 Try.underlying5 Try.underlying9
        rw [← HTK.out] at hcv
        have hfin : IsQ w2 q (s.1.drop n, s.2) := ⟨_, bs, a + n, by rw [hrow2]; simp, ⟨hrd2, strict_lit _ _ _ _⟩, hsum, HDR.out⟩
        have HFIN := Lib.hid hfin
        have HEX := Lib.hid hex
        have HU1 := Lib.hid (show (takeR n s).1 = s.1.take n by rw [HU.out]); have HU2 := Lib.hid (show (takeR n s).2 = (s.1.drop n, s.2) by rw [HU.out])
        unfold strV at *
        generalize hA : (s.1.take n).toArray = A1 at *
        have HA := Lib.hid hA; clear hA
        clear hmid hfin hrow2 hrd2 hex HST HTK HDR HU
        go_quiet (fail)
        go_wp2
        go_ret
        exact ⟨by rw [HU1.out, HA.out]; rfl, HEX.out.trans (ext_drewN _ _).ch, by rw [HU2.out]; exact HFIN.out.ext (ext_drewN _ _)⟩

end Go.Proofs.Yteechmgcjfnjbaa
