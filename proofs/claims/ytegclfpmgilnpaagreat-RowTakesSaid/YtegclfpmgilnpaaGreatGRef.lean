import Derived.Test.YtegclfpmgilnpaaGreatProg
import Derived.Test.YtegclfpmgilnpaaGreatGLib
import Derived.Test.YtegclfpmgilnpaaGreatGPrim
import Derived.WalkKit
import Derived.Lib.Hide
import Derived.Deep.QuietTactic
import Derived.BigQuiet
namespace Go.Proofs.YtegclfpmgilnpaaGreat
open Go.RowKit Go.Lac
def awakeT (r : Nat) : Tmp → Kn
  | 9 => .is (.int .u64 0)
  | 10 => .is (.bool true)
  | 11 => .is (.bool true)
  | 12 => .is (.pointer (some ⟨r, 0, none⟩))
  | 13 => .is (.int .i64 4)
  | 14 => .is (.bool true)
  | 15 => .is (.bool true)
  | 16 => .is (.bool true)
  | 17 => .rd (sev 300)
  | 18 => .is (strV [172, 2])
  | 19 => .rd [172, 2]
  | 20 => .is (strV [172, 2])
  | 21 => .is (.bool true)
  | 22 => .is (.bool true)
  | 23 => .is (.bool true)
  | 24 => .rd (sev 1)
  | 25 => .is (strV [1])
  | 26 => .is (.bool true)
  | 27 => .is (.bool true)
  | 0 => .is (.bool true)
  | _ => .any
end Go.Proofs.YtegclfpmgilnpaaGreat
namespace Go.Proofs.YtegclfpmgilnpaaGreat
open Go.RowKit Go.Lac
def IsQ (w : World) (q : Nat) (s : RS) : Prop :=
  ∃ lv bs a, w.heap[q]? = some (.cells #[lv, .int .i64 (a : Nat), .int .i64 s.2] 34 (0, 0)) ∧ (Rd w lv bs ∧ (Strict lv ∧ (bs ≠ [] → ∀ x l c, lv = .slice (some x) l c → x.block < q))) ∧ a ≤ bs.length ∧ s.1 = if s.2 = 0 then bs.drop a else []
theorem IsQ.cells {w : World} {q : Nat} {s : RS} (h : IsQ w q s) : ∃ (bs : List UInt8) (a : Nat) (ao : Option Addr) (cap : Nat),
    w.cell? ⟨q, 0, none⟩ = some (.slice ao bs.length cap) ∧ w.cell? ⟨q, 1, none⟩ = some (.int .i64 (a : Nat)) ∧ w.cell? ⟨q, 2, none⟩ = some (.int .i64 s.2) ∧
    w.frozen? ⟨q, 1, none⟩ = false ∧ w.frozen? ⟨q, 2, none⟩ = false ∧ Rd w (.slice ao bs.length cap) bs ∧ a ≤ bs.length ∧ bs.length ≤ 9223372036854775807 ∧ (s.1 = if s.2 = 0 then bs.drop a else []) ∧
    w.heap[q]? = some (.cells #[.slice ao bs.length cap, .int .i64 (a : Nat), .int .i64 s.2] 34 (0, 0)) ∧ ∀ x, ao = some x → x.spot = none := by
  obtain ⟨lv, bs, a, h1, ⟨h2, h5⟩, h3, h4⟩ := h
  obtain ⟨ao, cap, rfl⟩ := h2.shape
  have hm : bs.length ≤ maxLen := by obtain ⟨_, _, _, g1, g2, _⟩ := h2; omega
  exact ⟨bs, a, ao, cap, cell_of_row w q 0 _ _ _ h1, cell_of_row w q 1 _ _ _ h1, cell_of_row w q 2 _ _ _ h1, frozen_of_row w q 1 _ _ h1, frozen_of_row w q 2 _ _ h1, h2, h3, by unfold maxLen at hm; omega, h4, h1, fun x hx => h5.1 x _ _ (by rw [hx])⟩
theorem IsQ.low {w : World} {q : Nat} {s : RS} (h : IsQ w q s) {ao : Option Addr} {n cap : Nat} (hc : w.cell? ⟨q, 0, none⟩ = some (.slice ao n cap)) (hn : 0 < n) : ∀ x, ao = some x → x.block < q := by
  obtain ⟨lv, bs, a, h1, ⟨h2, h5⟩, _⟩ := h
  rw [cell_of_row w q 0 _ _ _ h1] at hc
  have e : lv = .slice ao n cap := Option.some.inj hc
  have hne : bs ≠ [] := by
    rintro rfl
    obtain ⟨ao', cap', e', _⟩ := h2
    rw [e] at e'
    cases e'
    exact absurd hn (Nat.lt_irrefl 0)
  exact fun x hx => h5.2 hne x n cap (by rw [e, hx])
theorem IsQ.lt {w : World} {q : Nat} {s : RS} (h : IsQ w q s) : q < w.heap.size := by
  obtain ⟨_, _, _, h1, _⟩ := h
  exact (Array.getElem?_eq_some_iff.1 h1).1
theorem IsQ.ext {w w' : World} {q : Nat} {s : RS} (h : IsQ w q s) (k : Ext w w') : IsQ w' q s := by
  have hlt := h.lt
  obtain ⟨lv, bs, a, h1, h2, h3⟩ := h
  exact ⟨lv, bs, a, by rw [k.block q hlt (fun f => f)]; exact h1, ⟨h2.1.ext k, h2.2⟩, h3⟩
def QPtr (q : Nat) : Value := .pointer (some ⟨q, 0, none⟩)
def QPost (q : Nat) (v : Value) (s : RS) (w : World) (e : Ending) (w' : World) : Prop := e = .returned v ∧ Only q w w' ∧ IsQ w' q s
set_option maxRecDepth 20000 in
set_option maxHeartbeats 1000000 in
theorem giveUp_any (q : Nat) (s : RS) (e : Int) (w : World) (h : IsQ w q s) :
    Calls Tryz.prog 32 #[QPtr q, .int .i64 e] w (QPost q (.tuple #[]) (failR s e) w) := by
  obtain ⟨bs, a, ao, cap, c0, c1, c2, f1, f2, hrd, hle, hm, hs, hrow, hst⟩ := h.cells
  have H := Lib.hid h; have HS := Lib.hid hs; have HROW := Lib.hid hrow; have HRD := Lib.hid hrd; have C2 := Lib.hid c2; have HST := Lib.hid hst; have C0 := Lib.hid c0
  clear h hs hrow hrd hst
  unfold QPtr
  by_cases h1 : s.2 = 0
  · have e1 : (s.2 == 0) = true := by simp [h1]
    have H1 := Lib.hid h1; clear h1
    go_enter Tryz.func32, Tryz.ntmps32
    go_wp2
    refine bodyPost_end (results_none rfl _ _ _) rfl ?_
    refine ⟨rfl, Ch.setCell (M := fun b => b = q) (Ch.refl _ _) (.inl rfl) _, ?_⟩
    have hs := HS.out
    rw [if_pos H1.out] at hs
    have hf2 : (failR s e).2 = e := by
      unfold failR
      by_cases h2 : e = 0
      · rw [if_pos (.inr h2), H1.out, h2]
      · rw [if_neg (by have := H1.out; omega)]
    have hf1 : (failR s e).1 = if e = 0 then bs.drop a else [] := by
      unfold failR
      by_cases h2 : e = 0
      · rw [if_pos (.inr h2), if_pos h2]; exact hs
      · rw [if_neg (by have := H1.out; omega), if_neg h2]
    exact ⟨_, bs, a, by rw [hf2]; exact heap_setCell_same w q 2 _ _ _ HROW.out, ⟨HRD.out.setCell C2.out (noByte_i64 _) _, fun x l c hx => by cases hx; exact HST.out _ rfl, fun hne x l c hx => by cases hx; exact H.out.low C0.out (List.length_pos_iff.2 hne) _ rfl⟩, hle, by rw [hf2]; exact hf1⟩
  · have e1 : (s.2 == 0) = false := by simp [h1]
    have H1 := Lib.hid h1; clear h1
    go_enter Tryz.func32, Tryz.ntmps32
    go_wp2
    refine bodyPost_end (results_none rfl _ _ _) rfl ?_
    exact ⟨rfl, Ch.refl _ _, by unfold failR; rw [if_pos (Or.inl H1.out)]; exact H.out⟩
set_option maxRecDepth 20000 in
set_option maxHeartbeats 1000000 in
theorem qleft_any (q : Nat) (s : RS) (w : World) (h : IsQ w q s) :
    Calls Tryz.prog 16 #[QPtr q] w fun e w' => e = .returned (.int .i64 s.1.length) ∧ ∃ n, w' = w.drewN n := by
  obtain ⟨bs, a, ao, cap, c0, c1, c2, f1, f2, hrd, hle, hm, hs, hrow, hst⟩ := h.cells
  have HS := Lib.hid hs
  clear h hs hrow hrd hst
  unfold QPtr
  by_cases h1 : s.2 = 0
  · have e1 : (s.2 != 0) = false := by simp [h1]
    have hl : s.1.length = bs.length - a := by rw [HS.out, if_pos h1, List.length_drop]
    rw [show ((s.1.length : Nat) : Int) = (bs.length : Int) - (a : Int) by omega]
    clear h1 hl
    go_enter Tryz.func16, Tryz.ntmps16
    go_wp2
    go_quiet (fail)
    go_wp2
    go_ret
    exact ⟨rfl, _, rfl⟩
  · have e1 : (s.2 != 0) = true := by simp [h1]
    have hl : s.1.length = 0 := by rw [HS.out, if_neg h1]; rfl
    rw [hl]
    clear h1 hl
    go_enter Tryz.func16, Tryz.ntmps16
    go_wp2
    go_ret
    exact ⟨rfl, 0, rfl⟩
theorem ext_drewN (w : World) (n : Nat) : Ext w (w.drewN n) := ⟨rfl, rfl, rfl, Nat.le_refl _, fun _ _ _ => rfl⟩
set_option maxRecDepth 20000 in
set_option maxHeartbeats 1000000 in
theorem qzag_any (u : Nat) (w : World) (hu : u < 2 ^ 64) :
    Calls Tryz.prog 124 #[.int .u64 u] w fun e w' => e = .returned (.int .i64 (zag u)) ∧ w = w' := by
  have hwr : IntKind.i64.wrap ((u : Int) / 2) = (u : Int) / 2 := by rw [IntKind.wrap_i64]; omega
  by_cases h1 : u % 2 = 1
  · have e1 : (((u : Int) % 2) == 1) = true := by simp; omega
    have hz : zag u = -((u : Int) / 2) - 1 := by unfold zag; rw [if_pos h1]; omega
    rw [hz]
    have hw2 : IntKind.i64.wrap (-((u : Int) / 2)) = -((u : Int) / 2) := by rw [IntKind.wrap_i64]; omega
    have hw3 : IntKind.i64.wrap (-((u : Int) / 2) - 1) = -((u : Int) / 2) - 1 := by rw [IntKind.wrap_i64]; omega
    clear hz h1
    go_enter Tryz.func124, Tryz.ntmps124
    go_wp2
    go_ret
    exact ⟨rfl, rfl⟩
  · have e1 : (((u : Int) % 2) == 1) = false := by simp; omega
    have hz : zag u = (u : Int) / 2 := by unfold zag; rw [if_neg h1]; omega
    rw [hz]
    clear hz h1
    go_enter Tryz.func124, Tryz.ntmps124
    go_wp2
    go_ret
    exact ⟨rfl, rfl⟩
end Go.Proofs.YtegclfpmgilnpaaGreat
namespace Go.Proofs.YtegclfpmgilnpaaGreat
open Go.RowKit Go.Lac
theorem rd_mid {w : World} {b off cap : Nat} {bs : List UInt8} (hrd : Rd w (.slice (some ⟨b, off, none⟩) bs.length cap) bs) (a n : Nat) (h : a + n ≤ bs.length) (ao : Option Addr)
    (hao : ao = some ⟨b, off + a, none⟩ ∨ (a = bs.length ∧ ∃ x, ao = some ⟨b, x, none⟩)) : Rd w (.slice ao n (cap - a)) ((bs.drop a).take n) := by
  have h1 := Rd.drop hrd a (by omega) ao hao
  rw [← List.length_drop] at h1
  exact Rd.take h1 n (by rw [List.length_drop]; omega)
set_option maxRecDepth 20000 in
set_option maxHeartbeats 1000000 in
theorem qbytes_any (q : Nat) (s : RS) (n : Nat) (w : World) (h : IsQ w q s) (hn : n < 2 ^ 64) :
    Calls Tryz.prog 33 #[QPtr q, .int .u64 n] w (QPost q (strV (takeR n s).1) (takeR n s).2 w) := by
  have HL := Lib.hid (qleft_any q s w h)
  have HG := Lib.hid (fun n => giveUp_any q s 1 (w.drewN n) (h.ext (ext_drewN w n)))
  obtain ⟨bs, a, ao, cap, c0, c1, c2, f1, f2, hrd, hle, hm, hs, hrow, hst⟩ := h.cells
  have hll : s.1.length ≤ bs.length := by rw [hs]; split <;> simp
  have H := Lib.hid h; have HS := Lib.hid hs; have HROW := Lib.hid hrow; have HRD := Lib.hid hrd; have HST := Lib.hid hst
  have HLOW : Hid (bs ≠ [] → ∀ x, ao = some x → x.block < q) := Lib.hid fun hne => h.low c0 (List.length_pos_iff.2 hne)
  clear h hs hrow hrd hst
  unfold QPtr at *
  by_cases hlt : s.1.length < n
  · have hu : takeR n s = ([], failR s 1) := by unfold takeR; rw [if_pos hlt]
    have HU := Lib.hid hu
    clear hu
    go_enter Tryz.func33, Tryz.ntmps33
    go_wp2_with (go_at_call 16; refine HL.out.mono ?_; rintro e w' ⟨rfl, k, rfl⟩)
    refine (HG.out k).mono ?_
    rintro e w1 ⟨rfl, k1, k2⟩
    have K1 := Lib.hid k1; have K2 := Lib.hid k2; clear k1 k2
    go_wp2
    go_ret
    rw [HU.out]
    exact ⟨rfl, (ext_drewN w k).ch.trans K1.out, K2.out⟩
  · have hu : takeR n s = (s.1.take n, (s.1.drop n, s.2)) := by unfold takeR; rw [if_neg hlt]
    have HU := Lib.hid hu
    clear hu
    have hsum : a + n ≤ bs.length := by
      have := HS.out
      by_cases h2 : s.2 = 0
      · rw [if_pos h2] at this; rw [this, List.length_drop] at hlt; omega
      · rw [if_neg h2] at this; rw [this] at hlt; simp at hlt; omega
    have htk : s.1.take n = (bs.drop a).take n := by
      have := HS.out
      by_cases h2 : s.2 = 0
      · rw [this, if_pos h2]
      · rw [if_neg h2] at this; rw [this] at hlt ⊢; simp at hlt; subst hlt; simp
    have hdr : s.1.drop n = if s.2 = 0 then bs.drop (a + n) else [] := by
      have := HS.out
      by_cases h2 : s.2 = 0
      · rw [this, if_pos h2, if_pos h2, List.drop_drop]
      · rw [if_neg h2] at this; rw [this, if_neg h2]; simp
    have HTK := Lib.hid htk; have HDR := Lib.hid hdr; clear htk hdr
    have hrow2 : ∀ (k : Nat), ((w.drewN k).setCell ⟨q, 1, none⟩ (.int .i64 ((a : Int) + n))).heap[q]? = some (.cells #[.slice ao bs.length cap, .int .i64 ((a : Int) + n), .int .i64 s.2] 34 (0, 0)) := fun k => heap_setCell_same (w.drewN k) q 1 _ _ _ HROW.out
    have hrd2 : ∀ (k : Nat), Rd ((w.drewN k).setCell ⟨q, 1, none⟩ (.int .i64 ((a : Int) + n))) (.slice ao bs.length cap) bs := fun k => (HRD.out.ext (ext_drewN w k)).setCell (p := ⟨q, 1, none⟩) (u0 := .int .i64 (a : Nat)) (by simpa using c1) (noByte_i64 _) _
    have hex : ∀ (k : Nat), Only q w ((w.drewN k).setCell ⟨q, 1, none⟩ (.int .i64 ((a : Int) + n))) := fun k => (ext_drewN w k).ch.trans (Ch.setCell (M := fun b => b = q) (Ch.refl _ _) (.inl rfl) _)
    have HROW2 := Lib.hid hrow2; have HRD2 := Lib.hid hrd2; have HEX := Lib.hid hex; clear hrow2 hrd2 hex HROW HRD HS H HG
    go_enter Tryz.func33, Tryz.ntmps33
    go_wp2_with (go_at_call 16; refine HL.out.mono ?_; rintro e w' ⟨rfl, k, rfl⟩)
    have hrow2 := HROW2.out k; have hrd2 := HRD2.out k; have hex := HEX.out k
    clear HROW2 HRD2 HEX c0 c1 c2 f1 f2 HL
    generalize (w.drewN k).setCell ⟨q, 1, none⟩ (.int .i64 ((a : Int) + n)) = w2 at *
    have d0 := cell_of_row w2 q 0 _ _ _ hrow2
    have d1 := cell_of_row w2 q 1 _ _ _ hrow2
    have hcap : bs.length ≤ cap ∧ cap ≤ 9223372036854775807 := by obtain ⟨_, _, e, h2, h3, _⟩ := hrd2; cases e; unfold maxLen at h3; omega
    obtain ⟨hcap1, hcap2⟩ := hcap
    cases ao with
    | none =>
      have hz : cap = 0 := by obtain ⟨_, _, e, _, _, h4, _⟩ := hrd2; cases e; exact h4 rfl
      subst hz
      have hb0 : bs = [] := List.eq_nil_of_length_eq_zero (by omega)
      subst hb0
      obtain rfl : a = 0 := by simp at hle; omega
      obtain rfl : n = 0 := by simp at hsum; omega
      have hmid : Rd w2 (.slice none 0 0) ((([] : List UInt8).drop 0).take 0) := rd_nil w2
      have hcv := fun j => run_toString (P := Tryz.prog) (hmid.ext (ext_drewN w2 j)) (src := 22) (dst := 9) Tryz.underlying22 Tryz.underlying5 Tryz.underlying9
      rw [← HTK.out] at hcv
      have hfin : IsQ w2 q (s.1.drop 0, s.2) := ⟨_, [], 0, by rw [hrow2]; simp, ⟨hrd2, strict_nil, fun h => absurd rfl h⟩, hsum, HDR.out⟩
      have HFIN := Lib.hid hfin
      have HEX := Lib.hid hex
      have HU1 := Lib.hid (show (takeR 0 s).1 = s.1.take 0 by rw [HU.out]); have HU2 := Lib.hid (show (takeR 0 s).2 = (s.1.drop 0, s.2) by rw [HU.out])
      unfold strV at *
      generalize hA : (s.1.take 0).toArray = A1 at *
      have HA := Lib.hid hA; clear hA
      clear hmid hfin hrow2 hrd2 hex HST HTK HDR HU
      go_quiet (fail)
      go_wp2
      go_ret
      exact ⟨by rw [HU1.out, HA.out]; rfl, HEX.out.trans (ext_drewN _ _).ch, by rw [HU2.out]; exact HFIN.out.ext (ext_drewN _ _)⟩
    | some x =>
      have hsp := HST.out _ rfl
      obtain ⟨b, off, sp⟩ := x
      simp only at hsp
      subst hsp
      by_cases hca : cap = a
      · have hmid := rd_mid hrd2 a n hsum (some ⟨b, off, none⟩) (.inr ⟨by omega, _, rfl⟩)
        have hca0 : cap - a = 0 := by omega
        rw [hca0] at hmid
        clear hca0
        have hcv := fun j => run_toString (P := Tryz.prog) (hmid.ext (ext_drewN w2 j)) (src := 22) (dst := 9) Tryz.underlying22 Tryz.underlying5 Tryz.underlying9
        rw [← HTK.out] at hcv
        have hfin : IsQ w2 q (s.1.drop n, s.2) := ⟨_, bs, a + n, by rw [hrow2]; simp, ⟨hrd2, strict_lit _ _ _ _, fun hne x l c hx => by cases hx; exact HLOW.out hne _ rfl⟩, hsum, HDR.out⟩
        have HFIN := Lib.hid hfin
        have HEX := Lib.hid hex
        have HU1 := Lib.hid (show (takeR n s).1 = s.1.take n by rw [HU.out]); have HU2 := Lib.hid (show (takeR n s).2 = (s.1.drop n, s.2) by rw [HU.out])
        unfold strV at *
        generalize hA : (s.1.take n).toArray = A1 at *
        have HA := Lib.hid hA; clear hA
        clear hmid hfin hrow2 hrd2 hex HST HTK HDR HU
        go_quiet (fail)
        go_wp2
        go_ret
        exact ⟨by rw [HU1.out, HA.out]; rfl, HEX.out.trans (ext_drewN _ _).ch, by rw [HU2.out]; exact HFIN.out.ext (ext_drewN _ _)⟩
      · have hmid := rd_mid hrd2 a n hsum (some ⟨b, off + a, none⟩) (.inl rfl)
        have hcv := fun j => run_toString (P := Tryz.prog) (hmid.ext (ext_drewN w2 j)) (src := 22) (dst := 9) Tryz.underlying22 Tryz.underlying5 Tryz.underlying9
        rw [← HTK.out] at hcv
        have hfin : IsQ w2 q (s.1.drop n, s.2) := ⟨_, bs, a + n, by rw [hrow2]; simp, ⟨hrd2, strict_lit _ _ _ _, fun hne x l c hx => by cases hx; exact HLOW.out hne _ rfl⟩, hsum, HDR.out⟩
        have HFIN := Lib.hid hfin
        have HEX := Lib.hid hex
        have HU1 := Lib.hid (show (takeR n s).1 = s.1.take n by rw [HU.out]); have HU2 := Lib.hid (show (takeR n s).2 = (s.1.drop n, s.2) by rw [HU.out])
        unfold strV at *
        generalize hA : (s.1.take n).toArray = A1 at *
        have HA := Lib.hid hA; clear hA
        clear hmid hfin hrow2 hrd2 hex HST HTK HDR HU
        go_quiet (fail)
        go_wp2
        go_ret
        exact ⟨by rw [HU1.out, HA.out]; rfl, HEX.out.trans (ext_drewN _ _).ch, by rw [HU2.out]; exact HFIN.out.ext (ext_drewN _ _)⟩
end Go.Proofs.YtegclfpmgilnpaaGreat
namespace Go.Proofs.YtegclfpmgilnpaaGreat
open Go.RowKit Go.Lac
set_option maxRecDepth 20000 in
set_option maxHeartbeats 1000000 in
theorem qbyte_any (q : Nat) (s : RS) (w : World) (h : IsQ w q s) :
    Calls Tryz.prog 83 #[QPtr q] w (QPost q (.int .u8 (byteR s).1) (byteR s).2 w) := by
  have HT := qbytes_any q s 1 w h (by omega)
  have hl := takeR_length 1 s
  unfold byteR
  generalize (takeR 1 s).1 = bs at *
  generalize (takeR 1 s).2 = s' at *
  have HT := Lib.hid HT
  clear h
  unfold QPtr at *
  cases bs with
  | nil =>
    go_enter Tryz.func83, Tryz.ntmps83
    go_wp2_with fail
    refine HT.out.mono ?_
    rintro e w1 ⟨rfl, k1, k2⟩
    have K1 := Lib.hid k1; have K2 := Lib.hid k2; clear k1 k2
    rw [show strV [] = .string ⟨#[]⟩ from rfl]
    go_wp2
    go_ret
    exact ⟨rfl, K1.out, K2.out⟩
  | cons b l =>
    have hl0 : l = [] := List.eq_nil_of_length_eq_zero (by rw [List.length_cons] at hl; omega)
    subst hl0
    have hq := toList_beq [b] []
    rw [decide_eq_false (by simp)] at hq
    clear hl
    go_enter Tryz.func83, Tryz.ntmps83
    go_wp2_with fail
    refine HT.out.mono ?_
    rintro e w1 ⟨rfl, k1, k2⟩
    have K1 := Lib.hid k1; have K2 := Lib.hid k2; clear k1 k2
    rw [show strV [b] = .string ⟨#[b]⟩ from rfl]
    go_wp2
    go_ret
    exact ⟨rfl, K1.out, K2.out⟩
theorem wordV_drop (l : List UInt8) (j : Nat) (h : j < l.length) : wordV (l.drop j) = l[j].toNat + 256 * wordV (l.drop (j + 1)) := by
  rw [List.drop_eq_getElem_cons h]; rfl
theorem wordV_drop_lt (l : List UInt8) (j : Nat) (h : l.length ≤ 8) : wordV (l.drop j) < 18446744073709551616 := by
  have := wordV_lt (l.drop j)
  exact Nat.lt_of_lt_of_le this (Nat.pow_le_pow_right (n := 256) (by omega) (show _ ≤ 8 by rw [List.length_drop]; omega))
set_option maxRecDepth 20000 in
set_option maxHeartbeats 1000000 in
theorem qword_any (q : Nat) (s : RS) (w : World) (h : IsQ w q s) :
    Calls Tryz.prog 111 #[QPtr q] w (QPost q (.int .u64 (wordR s).1) (wordR s).2 w) := by
  have HT := qbytes_any q s 8 w h (by omega)
  have hl := takeR_length 8 s
  unfold wordR
  generalize (takeR 8 s).1 = bs at *
  generalize (takeR 8 s).2 = s' at *
  have HT := Lib.hid HT
  clear h
  unfold QPtr at *
  go_enter Tryz.func111, Tryz.ntmps111
  go_wp2_with fail
  refine HT.out.mono ?_
  rintro e w1 ⟨rfl, k1, k2⟩
  have K1 := Lib.hid k1; have K2 := Lib.hid k2; clear k1 k2
  unfold strV
  go_wp2
  go_loop [4, 5] (fun v ix => ∃ j : Nat, j ≤ bs.length ∧ ix = .int .i64 ((j : Int) - 1) ∧ v = .int .u64 (wordV (bs.drop j) : Nat)) (fun _ ix => (intOf ix + 1).toNat)
  case atStart => exact ⟨bs.length, Nat.le_refl _, rfl, by rw [List.drop_length]; rfl⟩
  case round =>
    obtain ⟨j, hj, rfl, rfl⟩ := hrel
    cases j with
    | succ k =>
      have e : ((k + 1 : Nat) : Int) - 1 = (k : Int) := by omega
      rw [e]; clear e
      have hlt : k < bs.length := hj
      have hs := wordV_drop bs k hlt
      have hb0 := wordV_drop_lt bs k hl
      have HS := Lib.hid hs
      generalize wordV (bs.drop (k + 1)) = n at *
      have hx := bs[k].toNat_lt
      rw [hs] at hb0
      clear hs
      go_wp2
      go_round
      case rel =>
        refine ⟨k, by omega, rfl, ?_⟩
        rw [HS.out]
        have hg : ∀ h, (({ data := bs.toArray } : ByteArray)[k]'h).toNat = bs[k].toNat := fun h => rfl
        simp only [hg]
        have hw1 : IntKind.u64.wrap ((bs[k].toNat : Nat) : Int) = (bs[k].toNat : Nat) := wrap_u64_of (by omega) (by omega)
        rw [hw1, wrap_u64_of (by omega) (by omega)]
        congr 1; omega
      case measure => simp [intOf] <;> omega
    | zero =>
      have e : ((0 : Nat) : Int) - 1 = -1 := rfl
      rw [e, List.drop_zero]; clear e
      go_wp2
      go_ret
      exact ⟨rfl, K1.out, K2.out⟩
end Go.Proofs.YtegclfpmgilnpaaGreat
namespace Go.Proofs.YtegclfpmgilnpaaGreat
open Go.RowKit Go.Lac
def dig : List UInt8 → Nat
  | [] => 0
  | b :: l => b.toNat % 128 + 128 * dig l
theorem dig_take (l : List UInt8) : ∀ (k : Nat) (h : k < l.length), dig (l.take (k + 1)) = dig (l.take k) + l[k].toNat % 128 * 128 ^ k := by
  induction l with
  | nil => intro k h; simp at h
  | cons b l ih =>
    intro k h
    cases k with
    | zero => simp [dig]
    | succ k =>
      have := ih k (by simpa using h)
      simp only [List.take_succ_cons, dig, List.getElem_cons_succ, this, Nat.pow_succ]
      rw [Nat.mul_add]
      have e : ∀ x, 128 * (x * 128 ^ k) = x * (128 ^ k * 128) := fun x => by
        rw [Nat.mul_comm (128 ^ k), ← Nat.mul_assoc, ← Nat.mul_assoc, Nat.mul_comm 128]
      rw [e]; omega
theorem dig_drop (l : List UInt8) (j : Nat) (h : j < l.length) : dig (l.drop j) = l[j].toNat % 128 + 128 * dig (l.drop (j + 1)) := by
  rw [List.drop_eq_getElem_cons h]; rfl
theorem dig_drop_le : ∀ (l : List UInt8) (j : Nat), dig (l.drop j) ≤ dig l
  | l, 0 => Nat.le_refl _
  | [], j + 1 => Nat.le_refl _
  | b :: l, j + 1 => by
    have := dig_drop_le l j
    simp only [List.drop_succ_cons, dig]; omega
theorem numAt_go (l : List UInt8) : ∀ n, n ≤ 9 → (hn : n ≤ l.length) → (∀ j (hj : j < n), 127 < (l[j]'(by omega)).toNat) → num l = numAt n (dig (l.take n)) (l.drop n) := by
  intro n
  induction n with
  | zero => intro _ _ _; rfl
  | succ n ih =>
    intro h9 hn hb
    rw [ih (by omega) (by omega) (fun j hj => hb j (by omega)), List.drop_eq_getElem_cons (show n < l.length by omega), numAt]
    have := hb n (by omega)
    rw [if_neg (by omega), if_pos (by omega), dig_take l n (by omega)]
theorem num_ten {l : List UInt8} (hn : 10 ≤ l.length) (hb : ∀ j (hj : j < 10), 127 < (l[j]'(by omega)).toNat) : num l = (0, 0, 5) := by
  rw [numAt_go l 9 (by omega) (by omega) (fun j hj => hb j (by omega)), List.drop_eq_getElem_cons (show 9 < l.length by omega), numAt]
  have := hb 9 (by omega)
  rw [if_pos ⟨rfl, by omega⟩]
theorem num_end {l : List UInt8} (hn : l.length ≤ 9) (hb : ∀ j (hj : j < l.length), 127 < (l[j]'hj).toNat) : num l = (0, 0, 1) := by
  rw [numAt_go l l.length hn (Nat.le_refl _) hb, List.drop_length, numAt]
theorem num_at {l : List UInt8} {n : Nat} (h9 : n ≤ 9) (hn : n < l.length) (hb : ∀ j (hj : j < n), 127 < (l[j]'(by omega)).toNat) (hd : l[n].toNat ≤ 127) :
    num l = if n = 9 ∧ 1 < l[n].toNat then (0, 0, 5) else if l[n].toNat = 0 ∧ 0 < n then (0, 0, 5) else (dig (l.take (n + 1)), n + 1, 0) := by
  rw [numAt_go l n h9 (by omega) hb, List.drop_eq_getElem_cons hn, numAt]
  by_cases h1 : n = 9 ∧ 1 < l[n].toNat
  · rw [if_pos h1, if_pos h1]
  rw [if_neg h1, if_neg h1, if_neg (by omega)]
  by_cases h2 : l[n].toNat = 0 ∧ 0 < n
  · rw [if_pos h2, if_pos h2]
  · rw [if_neg h2, if_neg h2, dig_take l n hn]
theorem uintR_five {s : RS} {m : Nat} (h : num s.1 = (0, 0, 5)) : uintR m s = (0, failR s 5) := by unfold uintR; rw [h]; simp
theorem uintR_one {s : RS} {m : Nat} (h : num s.1 = (0, 0, 1)) : uintR m s = (0, failR s 1) := by unfold uintR; rw [h]; simp
theorem uintR_four {s : RS} {m v n : Nat} (h : num s.1 = (v, n, 0)) (hv : m < v) : uintR m s = (0, failR s 4) := by unfold uintR; rw [h]; simp [hv]
theorem uintR_ok {s : RS} {m v n : Nat} (h : num s.1 = (v, n, 0)) (hv : ¬ m < v) : uintR m s = (v, (s.1.drop n, s.2)) := by unfold uintR; rw [h]; simp [hv]
set_option maxRecDepth 100000 in
set_option maxHeartbeats 4000000 in
theorem quint_any (q : Nat) (s : RS) (most : Nat) (w : World) (h : IsQ w q s) (hmost : most < 2 ^ 64) :
    Calls Tryz.prog 87 #[QPtr q, .int .u64 most] w (QPost q (.int .u64 (uintR most s).1) (uintR most s).2 w) := by
  have hl : ∀ k n, Calls Tryz.prog 16 #[QPtr q] (w.drewN (k + n)) fun e w'' => e = .returned (.int .i64 s.1.length) ∧ ∃ m, w'' = w.drewN (k + m) := fun k n => (qleft_any q s (w.drewN (k + n)) (h.ext (ext_drewN w _))).mono fun e w' ⟨h1, j, h2⟩ => ⟨h1, n + j, by rw [h2, World.drewN_drewN, Nat.add_assoc]⟩
  have hl0 := fun k => (qleft_any q s (w.drewN k) (h.ext (ext_drewN w k)))
  have hg := fun k e => giveUp_any q s e (w.drewN k) (h.ext (ext_drewN w k))
  have HL := Lib.hid hl; have HL0 := Lib.hid hl0; have HG := Lib.hid hg; clear hl hl0 hg
  have HPOST : Hid (∀ (e : Int) (k : Nat) (w1 : World), uintR most s = (0, failR s e) → Only q (w.drewN k) w1 → IsQ w1 q (failR s e) → QPost q (.int .u64 (uintR most s).1) (uintR most s).2 w (.returned (.int .u64 0)) w1) :=
    Lib.hid fun e k w1 hu k1 k2 => by rw [hu]; exact ⟨rfl, (ext_drewN w k).ch.trans k1, k2⟩
  have HPOST5 := HPOST
  generalize hQP : QPost q (.int .u64 (uintR most s).1) (uintR most s).2 w = QP at HPOST
  have HQP := Lib.hid hQP; clear hQP HPOST5
  obtain ⟨bs, a, ao, cap, c0, c1, c2, f1, f2, hrd, hle, hm, hs, hrow, hst⟩ := h.cells
  have H := Lib.hid h; have HS0 := Lib.hid hs; have C0 := Lib.hid c0; have C1 := Lib.hid c1; have C2 := Lib.hid c2; have F1 := Lib.hid f1; have HROW := Lib.hid hrow; have HRD := Lib.hid hrd; have HST := Lib.hid hst
  have hll : s.1.length ≤ bs.length := by rw [hs]; split <;> simp
  clear h hs hrow hrd hst c0 c1 c2 f1 f2
  unfold QPtr at *
  go_enter Tryz.func87, Tryz.ntmps87
  go_wp2
  go_loopw [5] (fun ix wr => ∃ n k : Nat, n ≤ 10 ∧ ix = .int .i64 n ∧ wr = w.drewN k ∧ ∃ hn : n ≤ s.1.length, ∀ j (hj : j < n), 127 < (s.1[j]'(by omega)).toNat) (fun ix _ => 10 - (intOf ix).toNat)
  case atStart => exact ⟨0, 0, by omega, rfl, rfl, Nat.zero_le _, fun j hj => absurd hj (Nat.not_lt_zero _)⟩
  case round =>
    obtain ⟨n, k, h10, rfl, rfl, hn, hb⟩ := hrel
    have HB := Lib.hid hb; clear hb
    by_cases hn10 : n = 10
    · subst hn10
      have hnum := uintR_five (m := most) (num_ten hn HB.out)
      have HN := Lib.hid hnum; clear hnum
      go_wp2
      go_quiet (first | (go_at_call 16; exact HL.out _ _))
      go_wp2
      go_quiet (first | (go_at_call 16; exact HL.out _ _))
      go_wp2_with fail
      refine (HG.out _ 5).mono ?_
      rintro e w1 ⟨rfl, k1, k2⟩
      have K1 := Lib.hid k1; have K2 := Lib.hid k2; clear k1 k2
      go_wp2
      try go_ret
      exact HPOST.out _ _ _ HN.out K1.out K2.out
    have hn10' : n < 10 := by omega
    have e10 : decide ((n : Int) < 10) = true := decide_eq_true (by omega)
    have f10 : ((n : Int) == 10) = false := beq_eq_false_iff_ne.2 (by omega)
    by_cases hnl : n = s.1.length
    · have el : decide (n < s.1.length) = false := decide_eq_false (by omega)
      have HN := Lib.hid (uintR_one (m := most) (num_end (l := s.1) (by omega) (fun j hj => HB.out j (by omega))))
      clear hn10 HB
      by_cases h9 : n = 9
      · have e9 : ((n : Int) == 9) = true := by simp; omega
        have el9 : decide ((9 : Int) < (s.1.length : Int)) = false := decide_eq_false (by omega)
        have hnl' : (s.1.length : Int) ≤ (n : Int) := by omega
        clear h9 hnl
        go_wp2
        go_quiet (first | (go_at_call 16; exact HL.out _ _))
        go_wp2
        go_quiet (first | (go_at_call 16; exact HL.out _ _))
        go_wp2_with (go_at_call 16; refine (HL0.out _).mono ?_; rintro e w' ⟨rfl, kk, rfl⟩)
        refine (HG.out _ 1).mono ?_
        rintro e w1 ⟨rfl, k1, k2⟩
        have K1 := Lib.hid k1; have K2 := Lib.hid k2; clear k1 k2
        go_wp2
        try go_ret
        exact HPOST.out _ _ _ HN.out K1.out K2.out
      · have e9 : ((n : Int) == 9) = false := beq_eq_false_iff_ne.2 (by omega)
        have hnl' : (s.1.length : Int) ≤ (n : Int) := by omega
        clear h9 hnl
        go_wp2
        go_quiet (first | (go_at_call 16; exact HL.out _ _))
        go_wp2
        go_quiet (first | (go_at_call 16; exact HL.out _ _))
        go_wp2_with (go_at_call 16; refine (HL0.out _).mono ?_; rintro e w' ⟨rfl, kk, rfl⟩)
        refine (HG.out _ 1).mono ?_
        rintro e w1 ⟨rfl, k1, k2⟩
        have K1 := Lib.hid k1; have K2 := Lib.hid k2; clear k1 k2
        go_wp2
        try go_ret
        exact HPOST.out _ _ _ HN.out K1.out K2.out
    · have hnl' : n < s.1.length := by omega
      have el : decide (n < s.1.length) = true := decide_eq_true (by omega)
      have hz : s.2 = 0 := by
        rcases Decidable.em (s.2 = 0) with g | g
        · exact g
        · have := HS0.out; rw [if_neg g] at this; rw [this] at hnl'; simp at hnl'
      have HZ := Lib.hid hz; clear hz
      have hbs : s.1 = bs.drop a := by have := HS0.out; rwa [if_pos HZ.out] at this
      have hlen : s.1.length = bs.length - a := by rw [hbs, List.length_drop]
      obtain ⟨b, off, hao, hcap1, hcap2, hcells⟩ := cell_of_rd HRD.out rfl (by omega)
      subst hao
      have hcell : ∀ j (hj : j < s.1.length), w.cell? ⟨b, off + (a + j), none⟩ = some (.int .u8 ((s.1[j]).toNat : Int)) := fun j hj => by
        have := hcells (a + j) (by omega)
        rw [this]
        simp only [hbs, List.getElem_drop]
      have HCELL := Lib.hid hcell; clear hcell hcells
      unfold maxLen at hcap2
      have hcn := HCELL.out n hnl'
      have han : a + n < bs.length := by omega
      have c0 := C0.out; have c1 := C1.out; have c2 := C2.out; have f1 := F1.out
      have hd256 := (s.1[n]).toNat_lt
      have h9n : n ≤ 9 := Nat.le_of_lt_succ hn10'
      have hnumat := fun hd => num_at (l := s.1) (n := n) h9n hnl' (fun j hj => HB.out j hj) hd
      have hbn := fun (hd : 127 < (s.1[n]).toNat) => (show ∀ j (hj : j < n + 1), 127 < (s.1[j]'(Nat.lt_of_lt_of_le hj hnl')).toNat from fun j hj => by
        by_cases hjn : j = n
        · subst hjn; exact hd
        · exact HB.out j (by omega))
      have HBN := Lib.hid hbn; have HNA := Lib.hid hnumat; clear hbn hnumat hbs hn10 hnl
      generalize hd0 : (s.1[n]).toNat = d at *
      clear hd0
      have HLEN := Lib.hid hlen; clear hlen
      by_cases hd : 127 < d
      · have ed : decide ((127 : Int) < (d : Int)) = true := decide_eq_true (by omega)
        have HBN' := Lib.hid (HBN.out hd)
        clear HNA HBN
        go_wp2
        go_quiet (first | (go_at_call 16; exact HL.out _ _))
        go_wp2
        go_roundw
        case rel => exact ⟨n + 1, _, by omega, by go_num, rfl, by omega, HBN'.out⟩
        case measure => simp [intOf] <;> omega
      · have ed : decide ((127 : Int) < (d : Int)) = false := decide_eq_false (by omega)
        have hna := HNA.out (by omega)
        clear HBN HNA
        by_cases h9 : n = 9
        · have e9 : ((n : Int) == 9) = true := by simp; omega
          have el9 : decide ((9 : Int) < (s.1.length : Int)) = true := decide_eq_true (by omega)
          subst h9
          have h9 : (9 : Nat) = 9 := rfl
          by_cases h1 : 1 < d
          · have e1 : decide ((1 : Int) < (d : Int)) = true := decide_eq_true (by omega)
            rw [if_pos ⟨h9, h1⟩] at hna
            have HN := Lib.hid (uintR_five (m := most) hna); clear hna
            go_wp2
            go_quiet (first | (go_at_call 16; exact HL.out _ _))
            go_wp2
            go_quiet (first | (go_at_call 16; exact HL.out _ _))
            go_wp2_with fail
            refine (HG.out _ 5).mono ?_
            rintro e w1 ⟨rfl, k1, k2⟩
            have K1 := Lib.hid k1; have K2 := Lib.hid k2; clear k1 k2
            go_wp2
            try go_ret
            exact HPOST.out _ _ _ HN.out K1.out K2.out
          · have e1 : decide ((1 : Int) < (d : Int)) = false := decide_eq_false (by omega)
            rw [if_neg (by omega)] at hna
            by_cases hd0 : d = 0
            · have ez : ((d : Int) == 0) = true := by simp; omega
              rw [if_pos ⟨hd0, by omega⟩] at hna
              have HN := Lib.hid (uintR_five (m := most) hna); clear hna
              clear hd0
              go_wp2
              go_quiet (first | (go_at_call 16; exact HL.out _ _))
              go_wp2
              go_quiet (first | (go_at_call 16; exact HL.out _ _))
              go_wp2_with (go_at_call 16; refine (HL0.out _).mono ?_; rintro e w' ⟨rfl, kk, rfl⟩)
              go_quiet (fail)
              go_wp2_with fail
              refine (HG.out _ 5).mono ?_
              rintro e w1 ⟨rfl, k1, k2⟩
              have K1 := Lib.hid k1; have K2 := Lib.hid k2; clear k1 k2
              go_wp2
              try go_ret
              exact HPOST.out _ _ _ HN.out K1.out K2.out
            · have ez : ((d : Int) == 0) = false := beq_eq_false_iff_ne.2 (by omega)
              rw [if_neg (by omega)] at hna
              have HNUM := Lib.hid hna; have HV := Lib.hid (num_ok hna).2.2; clear hna
              go_wp2
              go_quiet (first | (go_at_call 16; exact HL.out _ _))
              go_wp2
              go_quiet (first | (go_at_call 16; exact HL.out _ _))
              go_wp2_with (go_at_call 16; refine (HL0.out _).mono ?_; rintro e w' ⟨rfl, kk, rfl⟩)
              go_quiet (fail)
              go_wp2
              go_loopw [6, 7] (fun v ix wr => ∃ j kk : Nat, j ≤ 9 + 1 ∧ ix = .int .i64 ((j : Int) - 1) ∧ v = .int .u64 (dig ((s.1.take (9 + 1)).drop j) : Nat) ∧ wr = w.drewN kk) (fun _ ix _ => (intOf ix + 1).toNat)
              case atStart => exact ⟨9 + 1, _, Nat.le_refl _, by first | rfl | (congr 1; omega), by rw [List.drop_of_length_le (List.length_take_le _ _)]; rfl, by first | rfl | exact World.drewN_drewN _ _ _⟩
              case round =>
                obtain ⟨j, kk, hj, rfl, rfl, rfl⟩ := hrel
                cases j with
                | succ i =>
                  have e : ((i + 1 : Nat) : Int) - 1 = (i : Int) := by omega
                  rw [e]; clear e
                  have hil : i < (s.1.take (9 + 1)).length := by rw [List.length_take]; omega
                  have hs1 := dig_drop (s.1.take (9 + 1)) i hil
                  have hs2 := Nat.lt_of_le_of_lt (dig_drop_le (s.1.take (9 + 1)) i) HV.out
                  rw [hs1, List.getElem_take] at hs2
                  rw [List.getElem_take] at hs1
                  have HS1 := Lib.hid hs1; clear hs1
                  have hci := HCELL.out i (by omega)
                  have hx := (s.1[i]'(by omega)).toNat_lt
                  have hai : a + i < bs.length := by omega
                  generalize (s.1[i]'(by omega)).toNat = x at *
                  generalize dig ((s.1.take (9 + 1)).drop (i + 1)) = y at *
                  clear hil
                  go_wp2
                  go_quiet (fail)
                  go_wp2
                  go_roundw
                  case rel => exact ⟨i, _, by omega, rfl, by rw [HS1.out]; congr 1; omega, by first | rfl | exact World.drewN_drewN _ _ _⟩
                  case measure => simp [intOf] <;> omega
                | zero =>
                  have e : ((0 : Nat) : Int) - 1 = -1 := rfl
                  rw [e, List.drop_zero]; clear e
                  have hv := HV.out
                  by_cases hm1 : most < dig (s.1.take (9 + 1))
                  · have HN := Lib.hid (uintR_four (m := most) HNUM.out hm1)
                    generalize dig (s.1.take (9 + 1)) = y at *
                    go_wp2_with fail
                    refine (HG.out _ 4).mono ?_
                    rintro e w1 ⟨rfl, k1, k2⟩
                    have K1 := Lib.hid k1; have K2 := Lib.hid k2; clear k1 k2
                    go_wp2
                    try go_ret
                    exact HPOST.out _ _ _ HN.out K1.out K2.out
                  · have hok : ∀ kk : Nat, QP (.returned (.int .u64 (dig (s.1.take (9 + 1)) : Nat))) ((w.drewN kk).setCell ⟨q, 1, none⟩ (.int .i64 ((a : Int) + 9 + 1))) := fun kk => by
                      rw [← HQP.out, uintR_ok HNUM.out hm1]
                      refine ⟨rfl, (ext_drewN w kk).ch.trans (Ch.setCell (M := fun b => b = q) (Ch.refl _ _) (.inl rfl) _), ?_⟩
                      refine ⟨_, bs, a + 9 + 1, heap_setCell_same (w.drewN kk) q 1 _ _ _ HROW.out, ⟨(HRD.out.ext (ext_drewN w kk)).setCell (p := ⟨q, 1, none⟩) (u0 := .int .i64 (a : Nat)) (by simpa using C1.out) (noByte_i64 _) _, fun x l c hx => by cases hx; exact HST.out _ rfl, fun hne x l c hx => by cases hx; exact H.out.low C0.out (List.length_pos_iff.2 hne) _ rfl⟩, by omega, ?_⟩
                      show s.1.drop (9 + 1) = if s.2 = 0 then bs.drop (a + 9 + 1) else []
                      rw [if_pos HZ.out, HS0.out, if_pos HZ.out, List.drop_drop] <;> rfl
                    have HOK := Lib.hid hok; clear hok
                    generalize dig (s.1.take (9 + 1)) = y at *
                    go_wp2
                    try go_ret
                    exact HOK.out _
        · have e9 : ((n : Int) == 9) = false := beq_eq_false_iff_ne.2 (by omega)
          rw [if_neg (by omega)] at hna
          by_cases hn0 : n = 0
          · have e0 : decide (0 < n) = false := decide_eq_false (by omega)
            rw [if_neg (by omega)] at hna
            have HNUM := Lib.hid hna; have HV := Lib.hid (num_ok hna).2.2; clear hna hn0
            go_wp2
            go_quiet (first | (go_at_call 16; exact HL.out _ _))
            go_wp2
            go_quiet (first | (go_at_call 16; exact HL.out _ _))
            go_wp2_with (go_at_call 16; refine (HL0.out _).mono ?_; rintro e w' ⟨rfl, kk, rfl⟩)
            go_quiet (fail)
            go_wp2
            go_loopw [6, 7] (fun v ix wr => ∃ j kk : Nat, j ≤ n + 1 ∧ ix = .int .i64 ((j : Int) - 1) ∧ v = .int .u64 (dig ((s.1.take (n + 1)).drop j) : Nat) ∧ wr = w.drewN kk) (fun _ ix _ => (intOf ix + 1).toNat)
            case atStart => exact ⟨n + 1, _, Nat.le_refl _, by first | rfl | (congr 1; omega), by rw [List.drop_of_length_le (List.length_take_le _ _)]; rfl, by first | rfl | exact World.drewN_drewN _ _ _⟩
            case round =>
              obtain ⟨j, kk, hj, rfl, rfl, rfl⟩ := hrel
              cases j with
              | succ i =>
                have e : ((i + 1 : Nat) : Int) - 1 = (i : Int) := by omega
                rw [e]; clear e
                have hil : i < (s.1.take (n + 1)).length := by rw [List.length_take]; omega
                have hs1 := dig_drop (s.1.take (n + 1)) i hil
                have hs2 := Nat.lt_of_le_of_lt (dig_drop_le (s.1.take (n + 1)) i) HV.out
                rw [hs1, List.getElem_take] at hs2
                rw [List.getElem_take] at hs1
                have HS1 := Lib.hid hs1; clear hs1
                have hci := HCELL.out i (by omega)
                have hx := (s.1[i]'(by omega)).toNat_lt
                have hai : a + i < bs.length := by omega
                generalize (s.1[i]'(by omega)).toNat = x at *
                generalize dig ((s.1.take (n + 1)).drop (i + 1)) = y at *
                clear hil
                go_wp2
                go_quiet (fail)
                go_wp2
                go_roundw
                case rel => exact ⟨i, _, by omega, rfl, by rw [HS1.out]; congr 1; omega, by first | rfl | exact World.drewN_drewN _ _ _⟩
                case measure => simp [intOf] <;> omega
              | zero =>
                have e : ((0 : Nat) : Int) - 1 = -1 := rfl
                rw [e, List.drop_zero]; clear e
                have hv := HV.out
                by_cases hm1 : most < dig (s.1.take (n + 1))
                · have HN := Lib.hid (uintR_four (m := most) HNUM.out hm1)
                  generalize dig (s.1.take (n + 1)) = y at *
                  go_wp2_with fail
                  refine (HG.out _ 4).mono ?_
                  rintro e w1 ⟨rfl, k1, k2⟩
                  have K1 := Lib.hid k1; have K2 := Lib.hid k2; clear k1 k2
                  go_wp2
                  try go_ret
                  exact HPOST.out _ _ _ HN.out K1.out K2.out
                · have hok : ∀ kk : Nat, QP (.returned (.int .u64 (dig (s.1.take (n + 1)) : Nat))) ((w.drewN kk).setCell ⟨q, 1, none⟩ (.int .i64 ((a : Int) + n + 1))) := fun kk => by
                    rw [← HQP.out, uintR_ok HNUM.out hm1]
                    refine ⟨rfl, (ext_drewN w kk).ch.trans (Ch.setCell (M := fun b => b = q) (Ch.refl _ _) (.inl rfl) _), ?_⟩
                    refine ⟨_, bs, a + n + 1, heap_setCell_same (w.drewN kk) q 1 _ _ _ HROW.out, ⟨(HRD.out.ext (ext_drewN w kk)).setCell (p := ⟨q, 1, none⟩) (u0 := .int .i64 (a : Nat)) (by simpa using C1.out) (noByte_i64 _) _, fun x l c hx => by cases hx; exact HST.out _ rfl, fun hne x l c hx => by cases hx; exact H.out.low C0.out (List.length_pos_iff.2 hne) _ rfl⟩, by omega, ?_⟩
                    show s.1.drop (n + 1) = if s.2 = 0 then bs.drop (a + n + 1) else []
                    rw [if_pos HZ.out, HS0.out, if_pos HZ.out, List.drop_drop] <;> rfl
                  have HOK := Lib.hid hok; clear hok
                  generalize dig (s.1.take (n + 1)) = y at *
                  go_wp2
                  try go_ret
                  exact HOK.out _
          · have e0 : decide (0 < n) = true := decide_eq_true (by omega)
            by_cases hd0 : d = 0
            · have ez : ((d : Int) == 0) = true := by simp; omega
              rw [if_pos ⟨hd0, by omega⟩] at hna
              have HN := Lib.hid (uintR_five (m := most) hna); clear hna
              clear hd0
              go_wp2
              go_quiet (first | (go_at_call 16; exact HL.out _ _))
              go_wp2
              go_quiet (first | (go_at_call 16; exact HL.out _ _))
              go_wp2_with (go_at_call 16; refine (HL0.out _).mono ?_; rintro e w' ⟨rfl, kk, rfl⟩)
              go_quiet (fail)
              go_wp2_with fail
              refine (HG.out _ 5).mono ?_
              rintro e w1 ⟨rfl, k1, k2⟩
              have K1 := Lib.hid k1; have K2 := Lib.hid k2; clear k1 k2
              go_wp2
              try go_ret
              exact HPOST.out _ _ _ HN.out K1.out K2.out
            · have ez : ((d : Int) == 0) = false := beq_eq_false_iff_ne.2 (by omega)
              rw [if_neg (by omega)] at hna
              have HNUM := Lib.hid hna; have HV := Lib.hid (num_ok hna).2.2; clear hna
              go_wp2
              go_quiet (first | (go_at_call 16; exact HL.out _ _))
              go_wp2
              go_quiet (first | (go_at_call 16; exact HL.out _ _))
              go_wp2_with (go_at_call 16; refine (HL0.out _).mono ?_; rintro e w' ⟨rfl, kk, rfl⟩)
              go_quiet (fail)
              go_wp2
              go_loopw [6, 7] (fun v ix wr => ∃ j kk : Nat, j ≤ n + 1 ∧ ix = .int .i64 ((j : Int) - 1) ∧ v = .int .u64 (dig ((s.1.take (n + 1)).drop j) : Nat) ∧ wr = w.drewN kk) (fun _ ix _ => (intOf ix + 1).toNat)
              case atStart => exact ⟨n + 1, _, Nat.le_refl _, by first | rfl | (congr 1; omega), by rw [List.drop_of_length_le (List.length_take_le _ _)]; rfl, by first | rfl | exact World.drewN_drewN _ _ _⟩
              case round =>
                obtain ⟨j, kk, hj, rfl, rfl, rfl⟩ := hrel
                cases j with
                | succ i =>
                  have e : ((i + 1 : Nat) : Int) - 1 = (i : Int) := by omega
                  rw [e]; clear e
                  have hil : i < (s.1.take (n + 1)).length := by rw [List.length_take]; omega
                  have hs1 := dig_drop (s.1.take (n + 1)) i hil
                  have hs2 := Nat.lt_of_le_of_lt (dig_drop_le (s.1.take (n + 1)) i) HV.out
                  rw [hs1, List.getElem_take] at hs2
                  rw [List.getElem_take] at hs1
                  have HS1 := Lib.hid hs1; clear hs1
                  have hci := HCELL.out i (by omega)
                  have hx := (s.1[i]'(by omega)).toNat_lt
                  have hai : a + i < bs.length := by omega
                  generalize (s.1[i]'(by omega)).toNat = x at *
                  generalize dig ((s.1.take (n + 1)).drop (i + 1)) = y at *
                  clear hil
                  go_wp2
                  go_quiet (fail)
                  go_wp2
                  go_roundw
                  case rel => exact ⟨i, _, by omega, rfl, by rw [HS1.out]; congr 1; omega, by first | rfl | exact World.drewN_drewN _ _ _⟩
                  case measure => simp [intOf] <;> omega
                | zero =>
                  have e : ((0 : Nat) : Int) - 1 = -1 := rfl
                  rw [e, List.drop_zero]; clear e
                  have hv := HV.out
                  by_cases hm1 : most < dig (s.1.take (n + 1))
                  · have HN := Lib.hid (uintR_four (m := most) HNUM.out hm1)
                    generalize dig (s.1.take (n + 1)) = y at *
                    go_wp2_with fail
                    refine (HG.out _ 4).mono ?_
                    rintro e w1 ⟨rfl, k1, k2⟩
                    have K1 := Lib.hid k1; have K2 := Lib.hid k2; clear k1 k2
                    go_wp2
                    try go_ret
                    exact HPOST.out _ _ _ HN.out K1.out K2.out
                  · have hok : ∀ kk : Nat, QP (.returned (.int .u64 (dig (s.1.take (n + 1)) : Nat))) ((w.drewN kk).setCell ⟨q, 1, none⟩ (.int .i64 ((a : Int) + n + 1))) := fun kk => by
                      rw [← HQP.out, uintR_ok HNUM.out hm1]
                      refine ⟨rfl, (ext_drewN w kk).ch.trans (Ch.setCell (M := fun b => b = q) (Ch.refl _ _) (.inl rfl) _), ?_⟩
                      refine ⟨_, bs, a + n + 1, heap_setCell_same (w.drewN kk) q 1 _ _ _ HROW.out, ⟨(HRD.out.ext (ext_drewN w kk)).setCell (p := ⟨q, 1, none⟩) (u0 := .int .i64 (a : Nat)) (by simpa using C1.out) (noByte_i64 _) _, fun x l c hx => by cases hx; exact HST.out _ rfl, fun hne x l c hx => by cases hx; exact H.out.low C0.out (List.length_pos_iff.2 hne) _ rfl⟩, by omega, ?_⟩
                      show s.1.drop (n + 1) = if s.2 = 0 then bs.drop (a + n + 1) else []
                      rw [if_pos HZ.out, HS0.out, if_pos HZ.out, List.drop_drop] <;> rfl
                    have HOK := Lib.hid hok; clear hok
                    generalize dig (s.1.take (n + 1)) = y at *
                    go_wp2
                    try go_ret
                    exact HOK.out _
end Go.Proofs.YtegclfpmgilnpaaGreat
namespace Go.Proofs.YtegclfpmgilnpaaGreat
open Go.RowKit Go.Lac
set_option maxRecDepth 20000 in
set_option maxHeartbeats 1000000 in
theorem qint_any (q : Nat) (s : RS) (w : World) (h : IsQ w q s) :
    Calls Tryz.prog 112 #[QPtr q] w (QPost q (.int .i64 (intR s).1) (intR s).2 w) := by
  have HU := quint_any q s 18446744073709551615 w h (by decide)
  have HZ := fun w' => qzag_any (uintR 18446744073709551615 s).1 w' (uintR_lt _ _)
  unfold intR
  generalize (uintR 18446744073709551615 s).1 = u at *
  generalize (uintR 18446744073709551615 s).2 = s' at *
  have HU := Lib.hid HU
  have HZ := Lib.hid HZ
  clear h
  unfold QPtr at *
  go_enter Tryz.func112, Tryz.ntmps112
  go_wp2_with fail
  refine HU.out.mono ?_
  rintro e w1 ⟨rfl, k1, k2⟩
  have K1 := Lib.hid k1; have K2 := Lib.hid k2; clear k1 k2
  go_wp2_with (go_at_call 124; refine (HZ.out _).mono ?_; rintro e w' ⟨rfl, rfl⟩)
  go_ret
  exact ⟨rfl, K1.out, K2.out⟩
set_option maxRecDepth 20000 in
set_option maxHeartbeats 1000000 in
theorem qtext_any (q : Nat) (s : RS) (m : Int) (w : World) (h : IsQ w q s) (hm : m ≤ 9223372036854775807) :
    Calls Tryz.prog 86 #[QPtr q, .int .i64 m] w (QPost q (strV (textR m.toNat s).1) (textR m.toNat s).2 w) := by
  have HU := Lib.hid (quint_any q s m.toNat w h (by omega))
  have HT := fun w' (h' : IsQ w' q (uintR m.toNat s).2) => qbytes_any q (uintR m.toNat s).2 (uintR m.toNat s).1 w' h' (uintR_lt _ _)
  have HTX : textR m.toNat s = takeR (uintR m.toNat s).1 (uintR m.toNat s).2 := rfl
  rw [HTX]
  clear HTX
  generalize takeR (uintR m.toNat s).1 (uintR m.toNat s).2 = tk at *
  generalize hus : (uintR m.toNat s).2 = us at *
  generalize hun : (uintR m.toNat s).1 = un at *
  have HT := Lib.hid HT
  clear hus hun h
  unfold QPtr at *
  by_cases h0 : 0 ≤ m
  · obtain ⟨k, rfl⟩ := Int.eq_ofNat_of_zero_le h0
    rw [Int.toNat_natCast] at HU
    clear h0
    go_enter Tryz.func86, Tryz.ntmps86
    go_wp2_with fail
    refine HU.out.mono ?_
    rintro e w1 ⟨rfl, k1, k2⟩
    have K1 := Lib.hid k1; have K2 := Lib.hid k2; clear k1 k2
    go_wp2_with fail
    refine (HT.out _ K2.out).mono ?_
    rintro e w2 ⟨rfl, k3, k4⟩
    have K3 := Lib.hid k3; have K4 := Lib.hid k4; clear k3 k4
    go_wp2
    go_ret
    exact ⟨rfl, K1.out.trans K3.out, K4.out⟩
  · have hk : m.toNat = 0 := by omega
    rw [hk] at HU
    clear hk
    have hneg : m < 0 := by omega
    clear h0
    go_enter Tryz.func86, Tryz.ntmps86
    go_wp2_with fail
    refine HU.out.mono ?_
    rintro e w1 ⟨rfl, k1, k2⟩
    have K1 := Lib.hid k1; have K2 := Lib.hid k2; clear k1 k2
    go_wp2_with fail
    refine (HT.out _ K2.out).mono ?_
    rintro e w2 ⟨rfl, k3, k4⟩
    have K3 := Lib.hid k3; have K4 := Lib.hid k4; clear k3 k4
    go_wp2
    go_ret
    exact ⟨rfl, K1.out.trans K3.out, K4.out⟩
end Go.Proofs.YtegclfpmgilnpaaGreat
namespace Go.Lac
open Go.RowKit
section
variable {P : Program} {ops : Array Oper} {T : Tmp → Kn} {A : Bool → Bool → World → Prop} {a0 : Act} {i m1 m2 : Nat} {o : Oper}
def twoS (A : Bool → Bool → World → Prop) (m1 m2 : Nat) (L : Nat → Bool) (w : World) : Prop := A (L m1) (L m2) w
variable {Q : Exit → Act → World → Prop}
end
end Go.Lac
namespace Go.Proofs.YtegclfpmgilnpaaGreat
open Go.RowKit Go.Lac
theorem rd_other {w w' : World} {q : Nat} {v : Value} {bs : List UInt8} {cs : Array Value} {E : TypeId} (h : Rd w v bs) (hq : w.heap[q]? = some (.cells cs E (0, 0))) (hn : ∀ u ∈ cs, NoByte u) (k : Only q w w') : Rd w' v bs := by
  obtain ⟨ao, cap, g1, g2, g3, g4, g5⟩ := h
  refine ⟨ao, cap, g1, g2, g3, g4, fun x hx j c hc => ?_⟩
  obtain ⟨b, off, rfl, g6⟩ := g5 x hx j c hc
  refine ⟨b, off, rfl, k.cell (p := ⟨b, off + j, none⟩) ?_ c g6⟩
  rintro (rfl : b = q)
  obtain ⟨y, _, rfl⟩ := List.mem_map.1 (List.mem_of_getElem? hc)
  rw [cell_of_row w b (off + j) _ _ _ hq] at g6
  exact hn _ (Array.mem_of_getElem? g6) y rfl
theorem owns_empty (w : World) (E : TypeId) : (w.alloc (.cells #[] E)).ownsRow w.heap.size E 1 (.slice (some ⟨w.heap.size, 0, none⟩) 0 0) 0 [] :=
  ⟨rfl, .inr ⟨w.heap.size, 0, #[], rfl, Nat.le_refl _, heap_alloc_new w _, Nat.le_refl _, by unfold maxLen; omega, rfl, rfl⟩⟩
theorem IsQ.otherR {w w' : World} {r q : Nat} {s u : RS} (h : IsQ w q u) (hr : IsR w r s) (hne : q ≠ r) (k : Only r w w') : IsQ w' q u := by
  have hlt := h.lt
  obtain ⟨lv, bs, a, h1, ⟨h2, h4⟩, h3⟩ := h
  obtain ⟨rv, r1, ⟨r2, _⟩, _⟩ := hr
  obtain ⟨ra, rc, rfl⟩ := r2.shape
  exact ⟨lv, bs, a, by rw [k.block q hlt hne]; exact h1, ⟨rd_other h2 r1 (by intro u hu; simp at hu; rcases hu with rfl | rfl <;> first | exact noByte_slice _ _ _ | exact noByte_i64 _) k, h4⟩, h3⟩
end Go.Proofs.YtegclfpmgilnpaaGreat
