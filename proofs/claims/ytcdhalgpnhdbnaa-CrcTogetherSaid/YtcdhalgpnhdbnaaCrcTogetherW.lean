/-
  CrcTogether: the walk.
-/
import Derived.Test.YtcdhalgpnhdbnaaProg
import Derived.Test.YtcdhalgpnhdbnaaLib
import Derived.Test.YtcdhalgpnhdbnaaLibC
import Derived.Test.YtcdhalgpnhdbnaaInfo
import Derived.Test.YtcdhalgpnhdbnaaLibD
import Derived.Test.YtcdhalgpnhdbnaaCrcD
import Derived.Test.YtcdhalgpnhdbnaaAwake3
import Derived.WalkKit
import Derived.Lib.Hide
import Derived.Outline
import Derived.Laws.BitsAllLaws
namespace Go.Proofs.Ytcdhalgpnhdbnaa
open Go.RowKit Go.Lac

def togT (ga oa gb ob gc oc na ca nb cb nc cc : Nat) (a1 : Option Addr) (k c1 : Nat) (x y z : UInt8) : Tmp → Kn
  | 24 => .is (.slice a1 k c1)
  | 25 => .is (.slice (some ⟨ga, oa, none⟩) na ca)
  | 26 => .is (.int .i64 (k : Nat))
  | 27 => .is (.pointer (some ⟨ga, oa + k, none⟩))
  | 28 => .is (.int .u8 (x.toNat : Nat))
  | 29 => .is (.slice (some ⟨gb, ob, none⟩) nb cb)
  | 30 => .is (.int .i64 (k : Nat))
  | 31 => .is (.pointer (some ⟨gb, ob + k, none⟩))
  | 32 => .is (.int .u8 (y.toNat : Nat))
  | 33 => .is (.int .u8 ((x ^^^ y).toNat : Nat))
  | 34 => .is (.slice (some ⟨gc, oc, none⟩) nc cc)
  | 35 => .is (.int .i64 (k : Nat))
  | 36 => .is (.pointer (some ⟨gc, oc + k, none⟩))
  | 37 => .is (.int .u8 (z.toNat : Nat))
  | 38 => .is (.int .u8 ((x ^^^ y ^^^ z).toNat : Nat))
  | 39 => .rd [x ^^^ y ^^^ z]
  | _ => .any

def togL (B k : Nat) (X : List UInt8) : Tmp → Kn
  | 40 => .own B 5 (k + 1) (cellsB (X.take (k + 1)))
  | 8 => .own B 5 (k + 1) (cellsB (X.take (k + 1)))
  | _ => .any
theorem togT_pass (ga oa gb ob gc oc na ca nb cb nc cc : Nat) (a1 : Option Addr) (k c1 : Nat) (x y z : UInt8) (B : Nat) (X : List UInt8) :
    ∀ d v w w', d ∉ [40, 8] → (togT ga oa gb ob gc oc na ca nb cb nc cc a1 k c1 x y z d).holds v w → (togL B k X d).holds v w' := by
  intro d v w w' hd _
  unfold togL
  split
  · exact absurd (by simp) hd
  · exact absurd (by simp) hd
  · trivial
theorem u8x (x y : UInt8) : bits .xor .u8 ((x.toNat : Nat) : Int) ((y.toNat : Nat) : Int) = (((x ^^^ y).toNat : Nat) : Int) := by
  rw [UInt8.toNat_xor]; exact u8_xor_nat _ _ x.toNat_lt y.toNat_lt

def togT2 (X la lb lc : List UInt8) (n sx sa sb sc sab : Nat) : Tmp → Kn
  | 6 => .is (.bool true)
  | 41 => .rd X
  | 42 => Kn.parts [X]
  | 43 => .is (.int .u32 (sx : Nat))
  | 44 => .rd la
  | 45 => .is (.int .i64 (n : Nat))
  | 46 => .rd (la.take n)
  | 47 => Kn.parts [la.take n]
  | 48 => .is (.int .u32 (sa : Nat))
  | 49 => .rd lb
  | 50 => .is (.int .i64 (n : Nat))
  | 51 => .rd (lb.take n)
  | 52 => Kn.parts [lb.take n]
  | 53 => .is (.int .u32 (sb : Nat))
  | 54 => .is (.int .u32 (sab : Nat))
  | 55 => .rd lc
  | 56 => .is (.int .i64 (n : Nat))
  | 57 => .rd (lc.take n)
  | 58 => Kn.parts [lc.take n]
  | 59 => .is (.int .u32 (sc : Nat))
  | 60 => .is (.int .u32 (sx : Nat))
  | 61 => .is (.bool true)
  | 62 => .is (.bool true)
  | 63 => .is (.bool true)
  | 64 => .is (.bool true)
  | _ => .any

set_option maxRecDepth 20000 in
set_option maxHeartbeats 2000000 in
theorem crcTogether_walk (va vb vc : Value) (la lb lc : List UInt8) (w : World) (ha : Rd w va la) (hb : Rd w vb lb) (hc : Rd w vc lc) :
    Calls Try.prog 7 #[va, vb, vc] w fun e w' => e = .returned (.bool true) ∧ Ext w w' := by
  obtain ⟨i, hi, hz, hsz, hby⟩ := info_parts infoU8
  obtain ⟨i2, hi2, hz2, hs2, hby2⟩ := info_parts infoSl
  obtain ⟨ao, ca, rfl⟩ := ha.shape
  obtain ⟨bo, cb, rfl⟩ := hb.shape
  obtain ⟨co, cc, rfl⟩ := hc.shape
  have hla : la.length ≤ maxLen := by obtain ⟨_, _, _, g1, g2, _⟩ := ha; omega
  have hlb : lb.length ≤ maxLen := by obtain ⟨_, _, _, g1, g2, _⟩ := hb; omega
  have hlc : lc.length ≤ maxLen := by obtain ⟨_, _, _, g1, g2, _⟩ := hc; omega
  unfold maxLen at hla hlb hlc
  have HA := Lib.hid ha; have HB := Lib.hid hb; have HC := Lib.hid hc; clear ha hb hc
  obtain ⟨n, hn⟩ : ∃ n, n = min (min la.length lb.length) lc.length := ⟨_, rfl⟩
  have hmin : ∀ (w : World) (ts : Array TypeId) (t : TypeId), (Builtin.min_ ts t #[.int .i64 (la.length : Nat), .int .i64 (lb.length : Nat), .int .i64 (lc.length : Nat)]).run Try.prog w = .ok (.int .i64 (n : Nat)) w := fun w ts t => by
    simp [Builtin.min_, Builtin.min2]
    rw [hn]
    by_cases h1 : lb.length < la.length
    · rw [if_pos h1]; split <;> omega
    · rw [if_neg h1]; split <;> omega
  have hna : n ≤ la.length := by omega
  have hnb : n ≤ lb.length := by omega
  have hnc : n ≤ lc.length := by omega
  by_cases h200 : 200 < n
  · clear hn
    go_enter Try.func7, Try.ntmps7
    go_wp2
    go_ret
    exact ⟨rfl, Ch.refl _ _⟩
  have HMIN := Lib.hid hmin
  obtain ⟨X, hX⟩ : ∃ X, X = List.zipWith (· ^^^ ·) (List.zipWith (· ^^^ ·) (la.take n) (lb.take n)) (lc.take n) := ⟨_, rfl⟩
  have hXl : X.length = n := by rw [hX]; simp; omega
  have hXg : ∀ k (hk : k < n) (h1 : k < la.length) (h2 : k < lb.length) (h3 : k < lc.length), X.take (k + 1) = X.take k ++ [la[k]'h1 ^^^ lb[k]'h2 ^^^ lc[k]'h3] := fun k hk h1 h2 h3 => by
    rw [List.take_succ_eq_append_getElem (by omega)]
    congr 1
    subst hX
    simp
  have hXs : crcSum X = crcSum (la.take n) ^^^ crcSum (lb.take n) ^^^ crcSum (lc.take n) := by
    rw [hX]; exact crc_together _ _ _ (by simp; omega) (by simp; omega)
  have HXL := Lib.hid hXl; have HXG := Lib.hid hXg; have HXS := Lib.hid hXs
  clear hX hXl hXg hXs hn
  have HI := Lib.hid hi; have HZ := Lib.hid hz; have HSZ := Lib.hid hsz; have HBY := Lib.hid hby
  have HI2 := Lib.hid hi2; have HZ2 := Lib.hid hz2; have HSZ2 := Lib.hid hs2
  clear hi hz hsz hby hi2 hz2 hs2 hby2 hmin
  obtain ⟨na, hna'⟩ : ∃ na, na = la.length := ⟨_, rfl⟩
  obtain ⟨nb, hnb'⟩ : ∃ nb, nb = lb.length := ⟨_, rfl⟩
  obtain ⟨nc, hnc'⟩ : ∃ nc, nc = lc.length := ⟨_, rfl⟩
  have HNA := Lib.hid hna; have HNB := Lib.hid hnb; have HNC := Lib.hid hnc
  have hmin := HMIN.out
  rw [← hna', ← hnb', ← hnc'] at hmin ⊢
  rw [← hna'] at hna hla HA
  rw [← hnb'] at hnb hlb HB
  rw [← hnc'] at hnc hlc HC
  have HLA := Lib.hid hna'; have HLB := Lib.hid hnb'; have HLC := Lib.hid hnc'; clear hna' hnb' hnc' HMIN
  go_enter Try.func7, Try.ntmps7
  go_wp2
  clear hmin
  go_loopw [8, 9] (fun al ix wr => ∃ k : Nat, k ≤ n ∧ ix = .int .i64 (k : Nat) ∧ Ext w wr ∧ wr.ownsRow w.heap.size 5 1 al k (cellsB (X.take k))) (fun _ ix _ => n - (intOf ix).toNat)
  case atStart => exact ⟨0, Nat.zero_le _, rfl, Ch.refl _ _, World.ownsRow_nil _ _ _ _⟩
  case round =>
    obtain ⟨k, hk, rfl, hext, hown⟩ := hrel
    obtain ⟨a1, c1, rfl⟩ := owns_shape hown
    have HEXT := Lib.hid hext; have HOWN := Lib.hid hown; clear hext hown
    by_cases hlt : k < n
    · have hka : k < la.length := by rw [← HLA.out]; omega
      have hkb : k < lb.length := by rw [← HLB.out]; omega
      have hkc : k < lc.length := by rw [← HLC.out]; omega
      obtain ⟨ga, oa, rfl, _, _, g3⟩ := bytes_cell (HA.out.ext HEXT.out) (by rw [HLA.out]) (by omega)
      obtain ⟨gb, ob, rfl, _, _, g3'⟩ := bytes_cell (HB.out.ext HEXT.out) (by rw [HLB.out]) (by omega)
      obtain ⟨gc, oc, rfl, _, _, g3''⟩ := bytes_cell (HC.out.ext HEXT.out) (by rw [HLC.out]) (by omega)
      have hc1 := g3 k hka
      have hc2 := g3' k hkb
      have hc3 := g3'' k hkc
      have hx1 := HXG.out k hlt hka hkb hkc
      have hx2 : cellsB (X.take (k + 1)) = cellsB (X.take k) ++ cellsB [la[k] ^^^ lb[k] ^^^ lc[k]] := by rw [hx1, cellsB_append]
      generalize la[k] = x at *
      generalize lb[k] = y at *
      generalize lc[k] = z at *
      have HCA := Lib.hid hc1; have HCB := Lib.hid hc2; have HCC := Lib.hid hc3; have HX1 := Lib.hid hx2
      have HKA : Hid (k < na) := Lib.hid (by omega)
      have HKB : Hid (k < nb) := Lib.hid (by omega)
      have HKC : Hid (k < nc) := Lib.hid (by omega)
      have HK2 : Hid (k ≤ 200) := Lib.hid (by omega)
      obtain ⟨B, hB⟩ : ∃ B, B = w.heap.size := ⟨_, rfl⟩
      have HBASE : Hid (w.heap.size ≤ B) := Lib.hid (by rw [hB]; exact Nat.le_refl _)
      have HSIZE : Hid (B ≤ wr.heap.size) := Lib.hid (by rw [hB]; exact HEXT.out.size)
      have HBQ := Lib.hid hB
      rw [← hB] at HOWN
      clear g3 g3' g3'' hc1 hc2 hc3 hx1 hx2 hka hkb hkc hB
      go_wp2
      refine wp_region_late (togT ga oa gb ob gc oc na ca nb cb nc cc a1 k c1 x y z) (togL B k X) 16 (fun w' => Ext w w') mixedEq (by rfl) (by rfl) (by decide) ?all ?fin
      case all =>
        refine ⟨?_, ?_, ?_, ?_, ?_, ?_, ?_, ?_, ?_, ?_, ?_, ?_, ?_, ?_, ?_, ?_, ?_, ?_, trivial⟩
        · -- 0: slot 24 := Op.move t8
          refine StepG.early (by rfl) (by decide) rfl fun ρ w hρ hw hf => ?_
          have h8 : ρ (.tmp 8) = (.slice a1 k c1) := (hf 8).2 rfl rfl
          exact Exec.kmove rfl rfl h8
        · -- 1: slot 25 := Op.move t0
          refine StepG.early (by rfl) (by decide) rfl fun ρ w hρ hw hf => ?_
          have h0 : ρ (.tmp 0) = (.slice (some ⟨ga, oa, none⟩) na ca) := (hf 0).2 rfl rfl
          exact Exec.kmove rfl rfl h0
        · -- 2: slot 26 := Op.move t9
          refine StepG.early (by rfl) (by decide) rfl fun ρ w hρ hw hf => ?_
          have h9 : ρ (.tmp 9) = (.int .i64 (k : Nat)) := (hf 9).2 rfl rfl
          exact Exec.kmove rfl rfl h9
        · -- 3: slot 27 := Op.indexAddr 23 t25 t26
          refine StepG.early (by rfl) (by decide) rfl fun ρ w hρ hw hf => ?_
          have h25 : ρ (.tmp 25) = (.slice (some ⟨ga, oa, none⟩) na ca) := (hf 25).1 rfl
          have h26 : ρ (.tmp 26) = (.int .i64 (k : Nat)) := (hf 26).1 rfl
          exact Exec.kindex (i := k) rfl rfl Try.underlying23 HI.out HSZ.out h25 h26 HKA.out (by rw [Nat.mul_one]; exact rfl)
        · -- 4: slot 28 := Op.load 5 t27
          refine StepG.early (by rfl) (by decide) rfl fun ρ w hρ hw hf => ?_
          have h27 : ρ (.tmp 27) = (.pointer (some ⟨ga, oa + k, none⟩)) := (hf 27).1 rfl
          have hc := hw.cell (p := ⟨ga, oa + k, none⟩) (fun f => f) _ HCA.out
          exact Exec.same (v := .int .u8 (x.toNat : Nat)) rfl (by simp [go_sem, hρ.const, h27, hc]) rfl
        · -- 5: slot 29 := Op.move t1
          refine StepG.early (by rfl) (by decide) rfl fun ρ w hρ hw hf => ?_
          have h1 : ρ (.tmp 1) = (.slice (some ⟨gb, ob, none⟩) nb cb) := (hf 1).2 rfl rfl
          exact Exec.kmove rfl rfl h1
        · -- 6: slot 30 := Op.move t9
          refine StepG.early (by rfl) (by decide) rfl fun ρ w hρ hw hf => ?_
          have h9 : ρ (.tmp 9) = (.int .i64 (k : Nat)) := (hf 9).2 rfl rfl
          exact Exec.kmove rfl rfl h9
        · -- 7: slot 31 := Op.indexAddr 23 t29 t30
          refine StepG.early (by rfl) (by decide) rfl fun ρ w hρ hw hf => ?_
          have h29 : ρ (.tmp 29) = (.slice (some ⟨gb, ob, none⟩) nb cb) := (hf 29).1 rfl
          have h30 : ρ (.tmp 30) = (.int .i64 (k : Nat)) := (hf 30).1 rfl
          exact Exec.kindex (i := k) rfl rfl Try.underlying23 HI.out HSZ.out h29 h30 HKB.out (by rw [Nat.mul_one]; exact rfl)
        · -- 8: slot 32 := Op.load 5 t31
          refine StepG.early (by rfl) (by decide) rfl fun ρ w hρ hw hf => ?_
          have h31 : ρ (.tmp 31) = (.pointer (some ⟨gb, ob + k, none⟩)) := (hf 31).1 rfl
          have hc := hw.cell (p := ⟨gb, ob + k, none⟩) (fun f => f) _ HCB.out
          exact Exec.same (v := .int .u8 (y.toNat : Nat)) rfl (by simp [go_sem, hρ.const, h31, hc]) rfl
        · -- 9: slot 33 := Op.binOp BinOp.xor 5 t28 t32 5
          refine StepG.early (by rfl) (by decide) rfl fun ρ w hρ hw hf => ?_
          have h28 : ρ (.tmp 28) = (.int .u8 (x.toNat : Nat)) := (hf 28).1 rfl
          have h32 : ρ (.tmp 32) = (.int .u8 (y.toNat : Nat)) := (hf 32).1 rfl
          have hx := u8x x y
          exact Exec.same (v := .int .u8 ((x ^^^ y).toNat : Nat)) rfl (by simp only [UInt8.toNat_xor] at hx ⊢; simp [go_sem, hρ.const, h28, h32, hx]) rfl
        · -- 10: slot 34 := Op.move t2
          refine StepG.early (by rfl) (by decide) rfl fun ρ w hρ hw hf => ?_
          have h2 : ρ (.tmp 2) = (.slice (some ⟨gc, oc, none⟩) nc cc) := (hf 2).2 rfl rfl
          exact Exec.kmove rfl rfl h2
        · -- 11: slot 35 := Op.move t9
          refine StepG.early (by rfl) (by decide) rfl fun ρ w hρ hw hf => ?_
          have h9 : ρ (.tmp 9) = (.int .i64 (k : Nat)) := (hf 9).2 rfl rfl
          exact Exec.kmove rfl rfl h9
        · -- 12: slot 36 := Op.indexAddr 23 t34 t35
          refine StepG.early (by rfl) (by decide) rfl fun ρ w hρ hw hf => ?_
          have h34 : ρ (.tmp 34) = (.slice (some ⟨gc, oc, none⟩) nc cc) := (hf 34).1 rfl
          have h35 : ρ (.tmp 35) = (.int .i64 (k : Nat)) := (hf 35).1 rfl
          exact Exec.kindex (i := k) rfl rfl Try.underlying23 HI.out HSZ.out h34 h35 HKC.out (by rw [Nat.mul_one]; exact rfl)
        · -- 13: slot 37 := Op.load 5 t36
          refine StepG.early (by rfl) (by decide) rfl fun ρ w hρ hw hf => ?_
          have h36 : ρ (.tmp 36) = (.pointer (some ⟨gc, oc + k, none⟩)) := (hf 36).1 rfl
          have hc := hw.cell (p := ⟨gc, oc + k, none⟩) (fun f => f) _ HCC.out
          exact Exec.same (v := .int .u8 (z.toNat : Nat)) rfl (by simp [go_sem, hρ.const, h36, hc]) rfl
        · -- 14: slot 38 := Op.binOp BinOp.xor 5 t33 t37 5
          refine StepG.early (by rfl) (by decide) rfl fun ρ w hρ hw hf => ?_
          have h33 : ρ (.tmp 33) = (.int .u8 ((x ^^^ y).toNat : Nat)) := (hf 33).1 rfl
          have h37 : ρ (.tmp 37) = (.int .u8 (z.toNat : Nat)) := (hf 37).1 rfl
          have hx := u8x (x ^^^ y) z
          exact Exec.same (v := .int .u8 ((x ^^^ y ^^^ z).toNat : Nat)) rfl (by simp only [UInt8.toNat_xor] at hx h33 ⊢; simp [go_sem, hρ.const, h33, h37, hx]) rfl
        · -- 15: slot 39 := Op.buildSlice 23 1 #[(0, t38)]
          refine StepG.early (by rfl) (by decide) rfl fun ρ w hρ hw hf => ?_
          have h38 : ρ (.tmp 38) = (.int .u8 ((x ^^^ y ^^^ z).toNat : Nat)) := (hf 38).1 rfl
          exact Exec.kbyte rfl rfl Try.underlying23 HI.out HZ.out HSZ.out h38 fun v w' hv => hv
        · -- 16: append
          refine StepG.write (late := [40, 8]) (by rfl) rfl (togT_pass ga oa gb ob gc oc na ca nb cb nc cc a1 k c1 x y z B X) fun ρ w hρ hw hf => ?_
          have h24 : ρ (.tmp 24) = (.slice a1 k c1) := (hf 24).1 rfl
          have h39 : Rd w (ρ (.tmp 39)) ([x ^^^ y ^^^ z]) := (hf 39).1 rfl
          refine (Exec.kappend rfl B Try.underlying23 HI.out HZ.out HSZ.out HBY.out rfl (by decide) h24 (HOWN.out.ext hw) h39 (by simp [cellsB]) (cellsB_one _) (by have := HK2.out; simp; omega) (by have := HK2.out; unfold maxLen; simp; omega) (by have := hw.size; have := HSIZE.out; omega)).mono ?_
          rintro v' w' ⟨h1, h2⟩
          refine ⟨fun d hd => by cases hd; show w'.ownsRow B 5 1 v' (k + 1) (cellsB (X.take (k + 1))); rw [HX1.out]; exact h1, ?_⟩
          exact (HEXT.out.trans hw).grown h2 fun j hj => .inr (by have := ((HOWN.out.ext hw).lt j hj).1; have := HBASE.out; omega)
        · -- 17: assign
          refine StepG.later (late := [40, 8]) (by rfl) (by decide) rfl rfl fun ρ w hρ hw hf => ?_
          have h40 : w.ownsRow B 5 1 (ρ (.tmp 40)) (k + 1) (cellsB (X.take (k + 1))) := (hf 40).1 rfl
          exact Exec.assign rfl ⟨fun d hd => by cases hd; exact h40, rfl⟩

      case fin =>
        intro ν w2 hfin hext2
        have h8 : w2.ownsRow B 5 1 (ν 8) (k + 1) (cellsB (X.take (k + 1))) := hfin 17 8 rfl
        rw [HBQ.out] at h8
        have H8 := Lib.hid h8; have HX2 := Lib.hid hext2
        simp only [Exit.then, ended, List.foldl_cons, List.foldl_nil, List.setIfInBounds_toArray, List.set_cons_succ, List.set_cons_zero]
        generalize ν 8 = al at *
        clear hfin h8 hext2
        go_wp2
        go_roundw
        case rel => exact ⟨k + 1, by omega, by go_num, HX2.out, H8.out⟩
        case measure => simp [intOf]; omega
    · have hkn : k = n := by omega
      subst hkn
      have hfull : X.take k = X := List.take_of_length_le (by rw [HXL.out]; exact Nat.le_refl _)
      have hd := HOWN.out
      rw [hfull] at hd
      have HD2 : Hid (Rd wr (.slice a1 k c1) X) := Lib.hid (Rd.ofOwns hd)
      have HA2 := Lib.hid (HA.out.ext HEXT.out); have HB2 := Lib.hid (HB.out.ext HEXT.out); have HC2 := Lib.hid (HC.out.ext HEXT.out)
      have HNA2 : Hid (k ≤ la.length) := Lib.hid (by rw [← HLA.out]; exact hna)
      have HNB2 : Hid (k ≤ lb.length) := Lib.hid (by rw [← HLB.out]; exact hnb)
      have HNC2 : Hid (k ≤ lc.length) := Lib.hid (by rw [← HLC.out]; exact hnc)
      have F0 := Lib.hid (show crcSum [X].flatten = crcSum X by simp)
      have F1 := Lib.hid (show crcSum [la.take k].flatten = crcSum (la.take k) by simp)
      have F2 := Lib.hid (show crcSum [lb.take k].flatten = crcSum (lb.take k) by simp)
      have F3 := Lib.hid (show crcSum [lc.take k].flatten = crcSum (lc.take k) by simp)
      have l1 := crcSum_lt (la.take k); have l2 := crcSum_lt (lb.take k); have l3 := crcSum_lt (lc.take k)
      have hxs := HXS.out
      generalize crcSum X = sx at *
      generalize crcSum (la.take k) = sa at *
      generalize crcSum (lb.take k) = sb at *
      generalize crcSum (lc.take k) = sc at *
      obtain ⟨sab, hsab⟩ : ∃ sab, sab = sa ^^^ sb := ⟨_, rfl⟩
      have F4 : Hid (bits .xor .u32 ((sa : Nat) : Int) ((sb : Nat) : Int) = ((sab : Nat) : Int)) := Lib.hid (by rw [hsab]; exact u32_xor _ _ l1 l2)
      have F5 : Hid (bits .xor .u32 ((sab : Nat) : Int) ((sc : Nat) : Int) = ((sx : Nat) : Int)) := Lib.hid (by rw [hxs, ← hsab]; exact u32_xor _ _ (by rw [hsab]; exact Nat.xor_lt_two_pow l1 l2) l3)
      clear hfull hd l1 l2 l3 hxs hsab HXS HXG HXL HOWN HA HB HC
      go_wp2
      refine wp_region_ext (togT2 X la lb lc k sx sa sb sc sab) mixedEq (by rfl) (by rfl) ?all2 ?fin2
      case all2 =>
        refine ⟨?_, ?_, ?_, ?_, ?_, ?_, ?_, ?_, ?_, ?_, ?_, ?_, ?_, ?_, ?_, ?_, ?_, ?_, ?_, ?_, ?_, ?_, ?_, ?_, ?_, trivial⟩
        · -- 0: slot 41 := Op.move t8
          refine StepOK.plain (kn_stable _) rfl fun ρ w hρ hw hf => ?_
          have h8 : ρ (.tmp 8) = (.slice a1 k c1) := (hf 8).2 rfl rfl
          exact Exec.kmove rfl rfl (by rw [h8]; exact HD2.out.ext hw)
        · -- 1: slot 42 := Op.buildSlice 22 1 #[(0, t41)]
          refine StepOK.plain (kn_stable _) rfl fun ρ w hρ hw hf => ?_
          have h41 : Rd w (ρ (.tmp 41)) (X) := (hf 41).1 rfl
          exact Exec.kone rfl rfl Try.underlying22 HI2.out HZ2.out HSZ2.out h41 fun v w' hv => hv
        · -- 2: slot 43 := Op.call { value (Operand.func 12), args := #[t42], argTypes := #[22] }
          refine StepOK.plain (kn_stable _) rfl fun ρ w hρ hw hf => ?_
          have h42 : Parts w (ρ (.tmp 42)) ([X]) := (hf 42).1 rfl
          refine Exec.kcall #[ρ (.tmp 42)] hρ rfl rfl (by simp [hρ.const]) Try.func12 (by rfl) rfl ?_
          refine (of_any _ _ w h42).mono ?_
          rintro e w' ⟨rfl, hx⟩
          exact ⟨_, rfl, by rw [F0.out]; rfl, hx⟩
        · -- 3: slot 44 := Op.move t0
          refine StepOK.plain (kn_stable _) rfl fun ρ w hρ hw hf => ?_
          have h0 : ρ (.tmp 0) = (.slice ao na ca) := (hf 0).2 rfl rfl
          exact Exec.kmove rfl rfl (by rw [h0]; exact HA2.out.ext hw)
        · -- 4: slot 45 := Op.move t7
          refine StepOK.plain (kn_stable _) rfl fun ρ w hρ hw hf => ?_
          have h7 : ρ (.tmp 7) = (.int .i64 (k : Nat)) := (hf 7).2 rfl rfl
          exact Exec.kmove rfl rfl h7
        · -- 5: slot 46 := Op.slice 23 t44 none (some t45) none
          refine StepOK.plain (kn_stable _) rfl fun ρ w hρ hw hf => ?_
          have h44 : Rd w (ρ (.tmp 44)) (la) := (hf 44).1 rfl
          have h45 : ρ (.tmp 45) = (.int .i64 (k : Nat)) := (hf 45).1 rfl
          exact Exec.ktake rfl rfl Try.underlying23 HI.out HSZ.out h44 h45 HNA2.out fun v hv => hv
        · -- 6: slot 47 := Op.buildSlice 22 1 #[(0, t46)]
          refine StepOK.plain (kn_stable _) rfl fun ρ w hρ hw hf => ?_
          have h46 : Rd w (ρ (.tmp 46)) ((la.take k)) := (hf 46).1 rfl
          exact Exec.kone rfl rfl Try.underlying22 HI2.out HZ2.out HSZ2.out h46 fun v w' hv => hv
        · -- 7: slot 48 := Op.call { value (Operand.func 12), args := #[t47], argTypes := #[22] }
          refine StepOK.plain (kn_stable _) rfl fun ρ w hρ hw hf => ?_
          have h47 : Parts w (ρ (.tmp 47)) ([la.take k]) := (hf 47).1 rfl
          refine Exec.kcall #[ρ (.tmp 47)] hρ rfl rfl (by simp [hρ.const]) Try.func12 (by rfl) rfl ?_
          refine (of_any _ _ w h47).mono ?_
          rintro e w' ⟨rfl, hx⟩
          exact ⟨_, rfl, by rw [F1.out]; rfl, hx⟩
        · -- 8: slot 49 := Op.move t1
          refine StepOK.plain (kn_stable _) rfl fun ρ w hρ hw hf => ?_
          have h1 : ρ (.tmp 1) = (.slice bo nb cb) := (hf 1).2 rfl rfl
          exact Exec.kmove rfl rfl (by rw [h1]; exact HB2.out.ext hw)
        · -- 9: slot 50 := Op.move t7
          refine StepOK.plain (kn_stable _) rfl fun ρ w hρ hw hf => ?_
          have h7 : ρ (.tmp 7) = (.int .i64 (k : Nat)) := (hf 7).2 rfl rfl
          exact Exec.kmove rfl rfl h7
        · -- 10: slot 51 := Op.slice 23 t49 none (some t50) none
          refine StepOK.plain (kn_stable _) rfl fun ρ w hρ hw hf => ?_
          have h49 : Rd w (ρ (.tmp 49)) (lb) := (hf 49).1 rfl
          have h50 : ρ (.tmp 50) = (.int .i64 (k : Nat)) := (hf 50).1 rfl
          exact Exec.ktake rfl rfl Try.underlying23 HI.out HSZ.out h49 h50 HNB2.out fun v hv => hv
        · -- 11: slot 52 := Op.buildSlice 22 1 #[(0, t51)]
          refine StepOK.plain (kn_stable _) rfl fun ρ w hρ hw hf => ?_
          have h51 : Rd w (ρ (.tmp 51)) ((lb.take k)) := (hf 51).1 rfl
          exact Exec.kone rfl rfl Try.underlying22 HI2.out HZ2.out HSZ2.out h51 fun v w' hv => hv
        · -- 12: slot 53 := Op.call { value (Operand.func 12), args := #[t52], argTypes := #[22] }
          refine StepOK.plain (kn_stable _) rfl fun ρ w hρ hw hf => ?_
          have h52 : Parts w (ρ (.tmp 52)) ([lb.take k]) := (hf 52).1 rfl
          refine Exec.kcall #[ρ (.tmp 52)] hρ rfl rfl (by simp [hρ.const]) Try.func12 (by rfl) rfl ?_
          refine (of_any _ _ w h52).mono ?_
          rintro e w' ⟨rfl, hx⟩
          exact ⟨_, rfl, by rw [F2.out]; rfl, hx⟩
        · -- 13: slot 54 := Op.binOp BinOp.xor 25 t48 t53 25
          refine StepOK.plain (kn_stable _) rfl fun ρ w hρ hw hf => ?_
          have h48 : ρ (.tmp 48) = (.int .u32 (sa : Nat)) := (hf 48).1 rfl
          have h53 : ρ (.tmp 53) = (.int .u32 (sb : Nat)) := (hf 53).1 rfl
          exact Exec.same (v := .int .u32 (sab : Nat)) rfl (by simp [go_sem, hρ.const, h48, h53, F4.out]) rfl
        · -- 14: slot 55 := Op.move t2
          refine StepOK.plain (kn_stable _) rfl fun ρ w hρ hw hf => ?_
          have h2 : ρ (.tmp 2) = (.slice co nc cc) := (hf 2).2 rfl rfl
          exact Exec.kmove rfl rfl (by rw [h2]; exact HC2.out.ext hw)
        · -- 15: slot 56 := Op.move t7
          refine StepOK.plain (kn_stable _) rfl fun ρ w hρ hw hf => ?_
          have h7 : ρ (.tmp 7) = (.int .i64 (k : Nat)) := (hf 7).2 rfl rfl
          exact Exec.kmove rfl rfl h7
        · -- 16: slot 57 := Op.slice 23 t55 none (some t56) none
          refine StepOK.plain (kn_stable _) rfl fun ρ w hρ hw hf => ?_
          have h55 : Rd w (ρ (.tmp 55)) (lc) := (hf 55).1 rfl
          have h56 : ρ (.tmp 56) = (.int .i64 (k : Nat)) := (hf 56).1 rfl
          exact Exec.ktake rfl rfl Try.underlying23 HI.out HSZ.out h55 h56 HNC2.out fun v hv => hv
        · -- 17: slot 58 := Op.buildSlice 22 1 #[(0, t57)]
          refine StepOK.plain (kn_stable _) rfl fun ρ w hρ hw hf => ?_
          have h57 : Rd w (ρ (.tmp 57)) ((lc.take k)) := (hf 57).1 rfl
          exact Exec.kone rfl rfl Try.underlying22 HI2.out HZ2.out HSZ2.out h57 fun v w' hv => hv
        · -- 18: slot 59 := Op.call { value (Operand.func 12), args := #[t58], argTypes := #[22] }
          refine StepOK.plain (kn_stable _) rfl fun ρ w hρ hw hf => ?_
          have h58 : Parts w (ρ (.tmp 58)) ([lc.take k]) := (hf 58).1 rfl
          refine Exec.kcall #[ρ (.tmp 58)] hρ rfl rfl (by simp [hρ.const]) Try.func12 (by rfl) rfl ?_
          refine (of_any _ _ w h58).mono ?_
          rintro e w' ⟨rfl, hx⟩
          exact ⟨_, rfl, by rw [F3.out]; rfl, hx⟩
        · -- 19: slot 60 := Op.binOp BinOp.xor 25 t54 t59 25
          refine StepOK.plain (kn_stable _) rfl fun ρ w hρ hw hf => ?_
          have h54 : ρ (.tmp 54) = (.int .u32 (sab : Nat)) := (hf 54).1 rfl
          have h59 : ρ (.tmp 59) = (.int .u32 (sc : Nat)) := (hf 59).1 rfl
          exact Exec.same (v := .int .u32 (sx : Nat)) rfl (by simp [go_sem, hρ.const, h54, h59, F5.out]) rfl
        · -- 20: slot 61 := Op.binOp BinOp.eql 25 t43 t60 25
          refine StepOK.plain (kn_stable _) rfl fun ρ w hρ hw hf => ?_
          have h43 : ρ (.tmp 43) = (.int .u32 (sx : Nat)) := (hf 43).1 rfl
          have h60 : ρ (.tmp 60) = (.int .u32 (sx : Nat)) := (hf 60).1 rfl
          exact Exec.same (v := .bool true) rfl (by simp [go_sem, hρ.const, h43, h60]) rfl
        · -- 21: slot 62 := Op.move t61
          refine StepOK.plain (kn_stable _) rfl fun ρ w hρ hw hf => ?_
          have h61 : ρ (.tmp 61) = (.bool true) := (hf 61).1 rfl
          exact Exec.kmove rfl rfl h61
        · -- 22: slot 63 := Op.call { value (Operand.func 15), args := #[], argTypes := #[] }
          refine StepOK.guarded (kn_stable _) 21 true 62 rfl rfl (fun ρ w _ _ hf => (hf 62).1 rfl) fun ρ w hρ hw hf => ?_
          refine Exec.kcall #[] hρ rfl rfl (by simp) Try.func15 (by rfl) rfl ?_
          refine (awake3_any w).mono ?_
          rintro e w' ⟨rfl, hx⟩
          exact ⟨_, rfl, rfl, hx⟩
        · -- 23: slot 64 := Op.pick t62 t63 (const (Value.bool false))
          refine StepOK.plain (kn_stable _) rfl fun ρ w hρ hw hf => ?_
          have h62 : ρ (.tmp 62) = (.bool true) := (hf 62).1 rfl
          have h63 : ρ (.tmp 63) = (.bool true) := (hf 63).1 rfl
          exact Exec.kpickT rfl rfl h62 h63
        · -- 24: slot 6 := Op.assign t64
          refine StepOK.plain (kn_stable _) rfl fun ρ w hρ hw hf => ?_
          have h64 : ρ (.tmp 64) = (.bool true) := (hf 64).1 rfl
          exact Exec.kassign rfl rfl h64

      case fin2 =>
        intro ν w2 hfin hext
        have h0 : ν 6 = .bool true := hfin 24 6 rfl
        simp only [Exit.then, ended, List.foldl_cons, List.foldl_nil, List.setIfInBounds_toArray, List.set_cons_succ, List.set_cons_zero, h0]
        have HX2 := Lib.hid (HEXT.out.trans hext); clear hext hfin h0
        go_wp2
        go_ret
        exact ⟨rfl, HX2.out⟩

end Go.Proofs.Ytcdhalgpnhdbnaa
