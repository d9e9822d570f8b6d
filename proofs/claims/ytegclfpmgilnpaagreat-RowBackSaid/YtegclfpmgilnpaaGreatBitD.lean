import Derived.Test.YtegclfpmgilnpaaGreatProg
import Derived.Test.YtegclfpmgilnpaaGreatGLib
import Derived.Test.YtegclfpmgilnpaaGreatBitC
import Derived.WalkKit
import Derived.Lib.Hide
namespace Go.Proofs.YtegclfpmgilnpaaGreat
open Go.RowKit Go.Lac
def unpackT (g off len cap k x p : Nat) (y : Int) (z : Bool) : Tmp → Kn
  | 32 => .is (.slice (some ⟨g, off, none⟩) len cap)
  | 33 => .is (.int .i64 k)
  | 34 => .is (.int .i64 ((k : Int) / 8))
  | 35 => .is (.pointer (some ⟨g, off + k / 8, none⟩))
  | 36 => .is (.int .u8 (x : Nat))
  | 37 => .is (.int .i64 k)
  | 38 => .is (.int .u8 (p : Nat))
  | 39 => .is (.int .u8 y)
  | 40 => .is (.bool z)
  | _ => .any
def UnpAt (v n : Nat) (w : World) (k : Nat) (wr : World) : Prop :=
  Ext w wr ∧ wr.heap[w.heap.size]? = some (.cells (boolsV (unpAt v n k)).toArray 4 (0, 0)) ∧ ∀ j, n ≤ j → j < k → v.testBit j = false
set_option maxRecDepth 20000 in
set_option maxHeartbeats 2000000 in
theorem unpack_any (v : Value) (bs : List UInt8) (n : Int) (w : World) (h : Rd w v bs) (hn : -9223372036854775808 ≤ n ∧ n ≤ 9223372036854775807) : Calls Tryz.prog 53 #[v, .int .i64 n] w (UnpackPost bs n w) := by
  obtain ⟨i, hi, hz, hs, hby⟩ := info_parts infoByte
  obtain ⟨i2, hi2, hz2, hs2, hby2⟩ := info_parts infoBool
  obtain ⟨ao, cap, rfl⟩ := h.shape
  have hlen : bs.length ≤ maxLen := by obtain ⟨_, _, _, g1, g2, _⟩ := h; omega
  unfold maxLen at hlen
  have H := Lib.hid h; clear h
  by_cases h16 : 0 ≤ n ∧ n ≤ 16
  · obtain ⟨m, rfl⟩ : ∃ m : Nat, n = m := ⟨n.toNat, by omega⟩
    have hm16 : m ≤ 16 := by omega
    clear hn
    have hmp : ∀ w, Calls Tryz.prog 64 #[.int .i64 (m : Nat)] w fun e w' => e = .returned (.bool true) ∧ w = w' := fun w => by
      have := mapped_any (m : Int) w
      rwa [decide_eq_true h16] at this
    have hsz : ∀ w, Calls Tryz.prog 51 #[.int .i64 (m : Nat)] w fun e w' => e = .returned (.int .i64 (sizeN m : Nat)) ∧ w = w' := fun w => by
      have := size_any (m : Int) w
      rwa [show sizeI (m : Int) = ((sizeN m : Nat) : Int) from by unfold sizeI; rw [if_pos (by omega), Int.toNat_natCast]] at this
    have HMP := Lib.hid hmp; have HSZF := Lib.hid hsz; clear hmp hsz h16
    have hle := sizeN_le hm16
    have hdef : sizeN m = (m + 7) / 8 := rfl
    have hC1 : bs.length < sizeN m → unpC bs (m : Int) = 1 := fun h => by unfold unpC; rw [if_pos (by omega), Int.toNat_natCast, if_pos h]
    have hC2 : sizeN m < bs.length → unpC bs (m : Int) = 2 := fun h => by unfold unpC; rw [if_pos (by omega), Int.toNat_natCast, if_neg (by omega), if_pos h]
    have HC1 := Lib.hid hC1; have HC2 := Lib.hid hC2; clear hC1 hC2
    have hBig := fun k => unpC_big (bs := bs) (n := m) (k := k) hm16
    have hFit := unpC_fits (bs := bs) (n := m) hm16
    have HBIG := Lib.hid hBig; have HFIT := Lib.hid hFit; clear hBig hFit
    generalize hszn : sizeN m = sz at *
    clear hszn
    by_cases hlt : bs.length < sz
    · have hp : UnpackPost bs m w (.returned (.tuple #[.slice none 0 0, .int .i64 1])) w := .err (HC1.out hlt) (by decide) (Ch.refl _ _)
      have HP := Lib.hid hp; clear hp
      go_enter Tryz.func53, Tryz.ntmps53
      go_wp2_with (first | (go_at_call 64; refine (HMP.out _).mono ?_; rintro e w' ⟨rfl, rfl⟩) | (go_at_call 51; refine (HSZF.out _).mono ?_; rintro e w' ⟨rfl, rfl⟩))
      refine bodyPost_ret (results_tmp2 rfl _ _ _) rfl ?_
      exact HP.out
    by_cases hgt : sz < bs.length
    · have hp : UnpackPost bs m w (.returned (.tuple #[.slice none 0 0, .int .i64 2])) w := .err (HC2.out hgt) (by decide) (Ch.refl _ _)
      have HP := Lib.hid hp; clear hp
      go_enter Tryz.func53, Tryz.ntmps53
      go_wp2_with (first | (go_at_call 64; refine (HMP.out _).mono ?_; rintro e w' ⟨rfl, rfl⟩) | (go_at_call 51; refine (HSZF.out _).mono ?_; rintro e w' ⟨rfl, rfl⟩))
      refine bodyPost_ret (results_tmp2 rfl _ _ _) rfl ?_
      exact HP.out
    obtain rfl : bs.length = sz := by omega
    have HDEF := Lib.hid hdef; clear hdef
    have hmk := fun w => run_make (P := Tryz.prog) w 84 4 i2 _ Tryz.underlying84 hi2 hz2 .i64 .i64 (m : Nat) (m : Nat) (by omega) (by omega) (by rw [hby2]; omega) (by omega)
    rw [hs2] at hmk
    simp only [Int.toNat_natCast, made_bools m] at hmk
    have HI := Lib.hid hi; have HSZ := Lib.hid hs; have HI2 := Lib.hid hi2; have HSZ2 := Lib.hid hs2
    clear hlt hgt hi2 hz2 hs2 hby2 hi hz hs hby
    go_enter Tryz.func53, Tryz.ntmps53
    go_wp2_with (first | (go_at_call 64; refine (HMP.out _).mono ?_; rintro e w' ⟨rfl, rfl⟩) | (go_at_call 51; refine (HSZF.out _).mono ?_; rintro e w' ⟨rfl, rfl⟩))
    clear hmk
    have hst : UnpAt (valB bs) m w 0 (w.alloc (.cells (boolsV (List.replicate m false)).toArray 4)) := ⟨(Ch.refl _ _).alloc _, by rw [unpAt_zero]; exact heap_alloc_new w _, fun j _ h => absurd h (Nat.not_lt_zero _)⟩
    have HST := Lib.hid hst; clear hst
    obtain ⟨g2, hg2⟩ : ∃ g, g = w.heap.size := ⟨_, rfl⟩
    rw [← hg2]
    have HGW := Lib.hid hg2; clear hg2
    generalize w.alloc (.cells (boolsV (List.replicate m false)).toArray 4) = w1 at *
    go_loopw [7, 29] (fun _ ix wr => ∃ k : Nat, k ≤ 8 * bs.length ∧ ix = .int .i64 k ∧ UnpAt (valB bs) m w k wr) (fun _ ix _ => 8 * bs.length - (intOf ix).toNat)
    case atStart => exact ⟨0, Nat.zero_le _, rfl, HST.out⟩
    case round =>
      obtain ⟨k, hk, rfl, hr⟩ := hrel
      have HR := Lib.hid hr; clear hr
      have HGL : Hid (g2 < wr.heap.size) := Lib.hid (by rw [HGW.out]; exact (Array.getElem?_eq_some_iff.1 HR.out.2.1).1)
      by_cases hlt : k < 8 * bs.length
      · obtain ⟨g, off, rfl, g1, g2', g3⟩ := bytes_cell (Rd.ext H.out HR.out.1) rfl (by omega)
        have hks : k / 8 < bs.length := by omega
        have hc := g3 (k / 8) hks
        have hvb := valB_bit bs k hks
        have hab := and_bit _ bs[k / 8].toNat_lt (k % 8) (by omega)
        rw [← hvb] at hab
        generalize hx : bs[k / 8].toNat = x at *
        unfold maxLen at g2'
        have HC := Lib.hid hc; have HKS := Lib.hid hks; have HK := Lib.hid (show k ≤ 16 by omega)
        clear g3 hc hks hvb hx
        have hbit := fun w => bit_any k w (by have := HK.out; omega)
        generalize 2 ^ (k % 8) = p at hbit hab
        have HB := Lib.hid hbit; clear hbit
        obtain ⟨y, hy⟩ : ∃ y, y = bits .and .u8 (x : Int) ((p : Nat) : Int) := ⟨_, rfl⟩
        rw [← hy] at hab
        have HY := Lib.hid hy.symm; clear hy
        obtain ⟨z, hz⟩ : ∃ z, z = !(valB bs).testBit k := ⟨_, rfl⟩
        rw [← hz] at hab
        have HYZ := Lib.hid hab; clear hab
        have HZ := Lib.hid hz; clear hz
        go_wp2
        refine wp_region_ext (unpackT g off bs.length cap k x p y z) mixed2 (by rfl) (by rfl) ?all ?fin
        case all =>
          refine ⟨?_, ?_, ?_, ?_, ?_, ?_, ?_, ?_, ?_, trivial⟩
          ·
            refine StepOK.plain (kn_stable _) rfl fun ρ w hρ hw hf => ?_
            have h0 : ρ (.tmp 0) = .slice (some ⟨g, off, none⟩) bs.length cap := (hf 0).2 rfl rfl
            exact Exec.kmove rfl rfl h0
          ·
            refine StepOK.plain (kn_stable _) rfl fun ρ w hρ hw hf => ?_
            have h7 : ρ (.tmp 7) = .int .i64 k := (hf 7).2 rfl rfl
            exact Exec.kmove rfl rfl h7
          ·
            refine StepOK.plain (kn_stable _) rfl fun ρ w hρ hw hf => ?_
            have h33 : ρ (.tmp 33) = (.int .i64 k) := (hf 33).1 rfl
            have hb : IntKind.i64.wrap ((k : Int) / 8) = (k : Int) / 8 := by rw [IntKind.wrap_i64]; have := HK.out; omega
            exact Exec.same (v := .int .i64 ((k : Int) / 8)) rfl (by simp [go_sem, hρ.const, h33, hb]) rfl
          ·
            refine StepOK.plain (kn_stable _) rfl fun ρ w hρ hw hf => ?_
            have h32 : ρ (.tmp 32) = (.slice (some ⟨g, off, none⟩) bs.length cap) := (hf 32).1 rfl
            have h34 : ρ (.tmp 34) = (.int .i64 ((k : Int) / 8)) := (hf 34).1 rfl
            exact Exec.kindex (i := k / 8) rfl rfl Tryz.underlying22 HI.out HSZ.out h32 (h34.trans (by rw [show ((k : Int)) / 8 = ((k / 8 : Nat) : Int) from by omega])) HKS.out (by rw [Nat.mul_one]; exact rfl)
          ·
            refine StepOK.plain (kn_stable _) rfl fun ρ w hρ hw hf => ?_
            have h35 : ρ (.tmp 35) = (.pointer (some ⟨g, off + k / 8, none⟩)) := (hf 35).1 rfl
            have hc := hw.cell (p := ⟨g, off + k / 8, none⟩) (fun f => f) _ HC.out
            exact Exec.same (v := .int .u8 (x : Nat)) rfl (by simp [go_sem, hρ.const, h35, hc]) rfl
          ·
            refine StepOK.plain (kn_stable _) rfl fun ρ w hρ hw hf => ?_
            have h7 : ρ (.tmp 7) = .int .i64 k := (hf 7).2 rfl rfl
            exact Exec.kmove rfl rfl h7
          ·
            refine StepOK.plain (kn_stable _) rfl fun ρ w hρ hw hf => ?_
            have h37 : ρ (.tmp 37) = (.int .i64 k) := (hf 37).1 rfl
            refine Exec.kcall #[.int .i64 k] hρ rfl rfl (by simp [hρ.const, h37]) Tryz.func65 (by rfl) rfl ?_
            refine (HB.out w).mono ?_
            rintro e w' ⟨rfl, rfl⟩
            exact ⟨_, rfl, rfl, Ch.refl _ _⟩
          ·
            refine StepOK.plain (kn_stable _) rfl fun ρ w hρ hw hf => ?_
            have h36 : ρ (.tmp 36) = (.int .u8 (x : Nat)) := (hf 36).1 rfl
            have h38 : ρ (.tmp 38) = (.int .u8 (p : Nat)) := (hf 38).1 rfl
            exact Exec.same (v := .int .u8 y) rfl (by simp [go_sem, hρ.const, h36, h38, HY.out]) rfl
          ·
            refine StepOK.plain (kn_stable _) rfl fun ρ w hρ hw hf => ?_
            have h39 : ρ (.tmp 39) = (.int .u8 y) := (hf 39).1 rfl
            exact Exec.same (v := .bool z) rfl (by simp [go_sem, hρ.const, h39, HYZ.out]) rfl
        case fin =>
          intro ν w2 hfin hext
          have h0 : ν 40 = .bool z := hfin 8 40 rfl
          simp only [Exit.then, ended, List.foldl_cons, List.foldl_nil, List.setIfInBounds_toArray, List.set_cons_succ, List.set_cons_zero, h0]
          cases hzb : z with
          | true =>
            have hbf : (valB bs).testBit k = false := by have := HZ.out; rw [hzb] at this; simpa using this.symm
            have hnx : UnpAt (valB bs) m w (k + 1) w2 := ⟨HR.out.1.trans hext, by rw [unpAt_skip hbf, ← HGW.out]; rw [hext.block g2 HGL.out (fun f => f), HGW.out]; exact HR.out.2.1, fun j h1 h2 => by
              by_cases hjk : j = k
              · subst hjk; exact hbf
              · exact HR.out.2.2 j h1 (by omega)⟩
            have HNX := Lib.hid hnx; clear hnx hbf hzb hext hfin h0
            go_wp2
            go_roundw
            case rel => exact ⟨k + 1, by omega, by go_num, HNX.out⟩
            case measure => simp [intOf]; omega
          | false =>
            have hbt : (valB bs).testBit k = true := by have := HZ.out; rw [hzb] at this; simpa using this.symm
            have hx1 : Ext w w2 := HR.out.1.trans hext
            by_cases hkm : k < m
            · have hg : w2.heap[g2]? = some (.cells (boolsV (unpAt (valB bs) m k)).toArray 4 (0, 0)) := by rw [hext.block g2 HGL.out (fun f => f), HGW.out]; exact HR.out.2.1
              have hcell : w2.cell? ⟨g2, k, none⟩ = some (.bool ((unpAt (valB bs) m k)[k]'(by rw [unpAt_length]; exact hkm))) := by
                rw [cell_of_row w2 g2 k _ _ _ hg]; simp [boolsV, unpAt_length, hkm]
              have hfr := frozen_of_row w2 g2 k _ _ hg
              have hnx : UnpAt (valB bs) m w (k + 1) (w2.setCell ⟨g2, k, none⟩ (.bool true)) := by
                refine ⟨hx1.setCell (.inr (by rw [HGW.out]; exact Nat.le_refl _)) _, ?_, fun j h1 h2 => HR.out.2.2 j h1 (by omega)⟩
                rw [← HGW.out, heap_setCell_same w2 g2 k _ _ _ hg, boolsV_set, unpAt_set hbt hkm]
              have HNX := Lib.hid hnx; clear hnx hbt hzb hext hfin h0 hg hx1
              go_wp2
              go_roundw
              case rel => exact ⟨k + 1, by omega, by go_num, HNX.out⟩
              case measure => simp [intOf]; omega
            · have hp : UnpackPost bs m w (.returned (.tuple #[.slice none 0 0, .int .i64 3])) w2 := .err (HBIG.out k trivial hbt (by omega)) (by decide) hx1
              have HP := Lib.hid hp; clear hp hbt hzb hext hfin h0 hx1
              go_wp2
              refine bodyPost_ret (results_tmp2 rfl _ _ _) rfl ?_
              exact HP.out
      · have hkn : k = 8 * bs.length := by omega
        subst hkn
        have hp : UnpackPost bs m w (.returned (.tuple #[.slice (some ⟨g2, 0, none⟩) m m, .int .i64 0])) wr := by
          refine .ok (HFIT.out trivial HR.out.2.2) HR.out.1 ?_
          rw [Int.toNat_natCast, ← unpAt_full (show m ≤ 8 * bs.length by have := HDEF.out; omega)]
          exact bools_of_heap (by rw [HGW.out]; exact HR.out.2.1) (unpAt_length _ _ _) (by unfold maxLen; omega)
        have HP := Lib.hid hp; clear hp
        go_wp2
        refine bodyPost_ret (results_tmp2 rfl _ _ _) rfl ?_
        exact HP.out
  · have hmp : ∀ w, Calls Tryz.prog 64 #[.int .i64 n] w fun e w' => e = .returned (.bool false) ∧ w = w' := fun w => by
      have := mapped_any n w
      rwa [decide_eq_false h16] at this
    have HMP := Lib.hid hmp; clear hmp
    have hp : UnpackPost bs n w (.returned (.tuple #[.slice none 0 0, .int .i64 17])) w := .err (by unfold unpC; rw [if_neg h16]) (by decide) (Ch.refl _ _)
    have HP := Lib.hid hp; clear hp h16
    go_enter Tryz.func53, Tryz.ntmps53
    go_wp2_with (go_at_call 64; refine (HMP.out _).mono ?_; rintro e w' ⟨rfl, rfl⟩)
    refine bodyPost_ret (results_tmp2 rfl _ _ _) rfl ?_
    exact HP.out
end Go.Proofs.YtegclfpmgilnpaaGreat
