/-
  CrcSums: the walk.
-/
import Derived.Test.YtcdhalgpnhdbnaaProg
import Derived.Test.YtcdhalgpnhdbnaaLib
import Derived.Test.YtcdhalgpnhdbnaaLibC
import Derived.Test.YtcdhalgpnhdbnaaInfo
import Derived.Test.YtcdhalgpnhdbnaaConcat
import Derived.Test.YtcdhalgpnhdbnaaCrcC
import Derived.Test.YtcdhalgpnhdbnaaCrcE
import Derived.Test.YtcdhalgpnhdbnaaAwake3
import Derived.WalkKit
import Derived.Lib.Hide
import Derived.Outline
namespace Go.Proofs.Ytcdhalgpnhdbnaa
open Go.RowKit Go.Lac

/-- What is put together so far. -/
def SumsAt (bss : List (List UInt8)) (w : World) (k : Nat) (s : Value) (wr : World) : Prop := CatRel bss w k s wr ∧ total (bss.take k) ≤ 300 * k

set_option maxRecDepth 20000 in
set_option maxHeartbeats 2000000 in
theorem crcSums_walk (v : Value) (bss : List (List UInt8)) (w : World) (h : Parts w v bss) :
    Calls Try.prog 3 #[v] w fun e w' => e = .returned (.bool true) ∧ Ext w w' := by
  obtain ⟨i, hi, hz, hs, hb⟩ := info_parts infoU8
  have hP := h
  obtain ⟨ao, cap, rfl, hlen, hcell⟩ := h
  have HP := Lib.hid hP; have HC := Lib.hid hcell; clear hP hcell
  unfold maxLen at hlen
  by_cases h12 : 12 < bss.length
  · go_enter Try.func3, Try.ntmps3
    go_wp2
    go_ret
    exact ⟨rfl, Ch.refl _ _⟩
  have hof0 := fun w => of_any _ _ w (parts_nil w)
  rw [show ([] : List (List UInt8)).flatten = [] from rfl, crcSum_nil] at hof0
  have HOF0 := Lib.hid hof0; clear hof0
  go_enter Try.func3, Try.ntmps3
  go_wp2_with (go_at_call 12; refine (HOF0.out _).mono ?_)
  rintro e w1 ⟨rfl, hx⟩
  have HX := Lib.hid hx; clear hx
  have hst : SumsAt bss w 0 (.slice none 0 0) w1 := ⟨⟨HX.out, World.ownsRow_nil _ _ _ _⟩, by simp [total]⟩
  have HST := Lib.hid hst; clear hst
  go_wp2
  go_loopw [3, 4, 5] (fun al s ix wr => ∃ k : Nat, k ≤ bss.length ∧ ix = .int .i64 (k : Nat) ∧ s = .int .u32 ((crcSum (bss.take k).flatten : Nat) : Int) ∧ SumsAt bss w k al wr) (fun _ _ ix _ => bss.length - (intOf ix).toNat)
  case atStart => exact ⟨0, Nat.zero_le _, rfl, by rw [show (bss.take 0).flatten = [] by simp, crcSum_nil]; rfl, HST.out⟩
  case round =>
    obtain ⟨k, hk, rfl, rfl, hr⟩ := hrel
    have HR := Lib.hid hr; clear hr
    by_cases hlt : k < bss.length
    · obtain ⟨b, off, u, rfl, hc, hrd⟩ := HC.out k hlt
      have hc2 := HR.out.1.1.cell (p := ⟨b, off + k, none⟩) (fun f => f) _ hc
      have hrd2 := hrd.ext HR.out.1.1
      obtain ⟨a2, c2, rfl⟩ := hrd2.shape
      have hln2 : (bss[k]'hlt).length ≤ maxLen := by obtain ⟨_, _, _, g1, g2, _⟩ := hrd2; omega
      have HRD := Lib.hid hrd2
      have HRD0 := Lib.hid hrd; have HC1 := Lib.hid hc; clear hc hrd hrd2
      unfold maxLen at hln2
      by_cases h300 : 300 < (bss[k]'hlt).length
      · have HX2 := Lib.hid HR.out.1.1
        go_wp2
        go_ret
        exact ⟨rfl, HX2.out⟩
      · have hts := total_take_succ bss k hlt
        have hfs := flatten_take_succ bss k hlt
        have htb := HR.out.2
        have hnext := fun w' s' => CatRel.next (s' := s') (w' := w') HR.out.1 hlt
        have hsum : crcAnd (crcSum (bss.take k).flatten) [bss[k]'hlt].flatten = crcSum (bss.take (k + 1)).flatten := by
          rw [crcAnd_sum, hfs]; simp
        have hSA : ∀ s' w', CatRel bss w (k + 1) s' w' → SumsAt bss w (k + 1) s' w' := fun s' w' h => ⟨h, by rw [hts]; omega⟩
        have hsx := HRD.out
        unfold Rd at hsx
        obtain ⟨ao', capo', alv⟩ := owns_shape HR.out.1.2
        subst alv
        generalize hbk : (bss[k]'hlt) = bk at *
        generalize hlk : bk.length = lk at *
        have HLK := Lib.hid hlk
        have HSX := Lib.hid hsx; have HNEXT := Lib.hid hnext; have HSUM := Lib.hid hsum; have HSA := Lib.hid hSA
        have HLT := Lib.hid (crcSum_lt (bss.take k).flatten)
        generalize hsk : crcSum (bss.take k).flatten = sk at *
        have HTS := Lib.hid hts
        have hown := HR.out.1.2
        clear hts hfs hsum hSA hsx hnext hbk hlk hsk
        generalize htk : total (bss.take k) = tk at *
        have HTK := Lib.hid htk
        have HOWN := Lib.hid hown
        clear htk hown
        go_wp2_with (at_builtin; refine wpList_append_sl _ rfl _ _ 23 rfl w.heap.size 5 i (.int .u8 0) 1 1 Try.underlying23 hi hz hs hb rfl (by decide) _ _ _ rfl HOWN.out _ _ _ rfl HSX.out (by rw [cellsB_length, HLK.out]; omega) (cellsB_one _) (by omega) (by unfold maxLen; omega) HR.out.1.1.size ?_)
        intro v' w' hown hgrow
        have hfin := HNEXT.out w' v' hgrow hown
        obtain ⟨a3, c3, rfl⟩ := owns_shape hfin.2
        have HFIN := Lib.hid hfin
        have HRD2 := Lib.hid (HRD0.out.ext hfin.1)
        have hc3 := hfin.1.cell (p := ⟨b, off + k, none⟩) (fun f => f) _ HC1.out
        clear hown hgrow hfin
        go_wp2_with (go_at_call 13; refine (and_any sk _ [bk] _ HLT.out (parts_one HRD2.out 23)).mono ?_)
        rintro e w2 ⟨rfl, hx⟩
        rw [HSUM.out]
        have hx2 : Ext w' w2 := ((Ch.refl _ _).alloc _).trans hx
        have HR3 : Hid (CatRel bss w (k + 1) (.slice a3 (total (bss.take (k + 1))) c3) w2) := Lib.hid ⟨HFIN.out.1.trans hx2, HFIN.out.2.ext hx2⟩
        have hro := refOf_any (.slice a3 (total (bss.take (k + 1))) c3) (bss.take (k + 1)).flatten w2 (Rd.ofOwns HR3.out.2)
        have HRO := Lib.hid hro
        clear hx hx2 hro
        generalize hsk1 : crcSum (bss.take (k + 1)).flatten = sk1 at *
        have HSK1 := Lib.hid hsk1; clear hsk1
        go_wp2_with (go_at_call 14; refine HRO.out.mono ?_; rintro e w3 ⟨rfl, rfl⟩)
        go_roundw
        case rel => exact ⟨k + 1, by omega, by go_num, by rw [HSK1.out], HSA.out _ _ HR3.out⟩
        case measure => simp [intOf]; omega
    · have hkl : k = bss.length := by omega
      subst hkl
      have hfull : bss.take bss.length = bss := List.take_of_length_le (Nat.le_refl _)
      have hcat := HR.out.1
      unfold CatRel at hcat
      rw [hfull] at hcat ⊢
      obtain ⟨a3, c3, rfl⟩ := owns_shape hcat.2
      have HX2 := Lib.hid hcat.1
      have hof := fun w' (hx : Ext wr w') => of_any _ _ w' (HP.out.ext (hcat.1.trans hx))
      have hro := fun w' (hx : Ext wr w') => refOf_any (.slice a3 (total bss) c3) bss.flatten w' (Rd.ext (Rd.ofOwns hcat.2) hx)
      have HOF := Lib.hid hof; have HRO := Lib.hid hro; clear hcat hof hro hfull HR
      generalize crcSum bss.flatten = sa at *
      generalize total bss = ta at *
      go_wp2_with (go_at_call 12; refine (HOF.out _ (Ch.refl _ _)).mono ?_)
      rintro e w2 ⟨rfl, hx⟩
      have HX3 := Lib.hid hx; clear hx
      go_wp2_with (go_at_call 14; refine (HRO.out _ HX3.out).mono ?_; rintro e w3 ⟨rfl, rfl⟩)
      refine (awake3_any _).mono ?_
      rintro e w4 ⟨rfl, hx⟩
      have HX4 := Lib.hid (HX2.out.trans (HX3.out.trans hx)); clear hx
      go_wp2
      go_ret
      exact ⟨rfl, HX4.out⟩
end Go.Proofs.Ytcdhalgpnhdbnaa
