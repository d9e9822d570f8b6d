/-
  CrcParts: the walk.
-/
import Derived.Test.YtcdhalgpnhdbnaaProg
import Derived.Test.YtcdhalgpnhdbnaaLib
import Derived.Test.YtcdhalgpnhdbnaaLibC
import Derived.Test.YtcdhalgpnhdbnaaInfo
import Derived.Test.YtcdhalgpnhdbnaaCrcD
import Derived.Test.YtcdhalgpnhdbnaaCrcG
import Derived.Test.YtcdhalgpnhdbnaaAwake3
import Derived.WalkKit
import Derived.Lib.Hide
import Derived.Outline
import Derived.Laws.BitsAllLaws
namespace Go.Proofs.Ytcdhalgpnhdbnaa
open Go.RowKit Go.Lac

def partsT (xs bs : List UInt8) (k s1 sa sab sk : Nat) : Tmp → Kn
  | 6 => .is (.bool true)
  | 22 => .rd xs
  | 23 => .is (.int .i64 (k : Nat))
  | 24 => .rd (xs.take k)
  | 25 => Kn.parts [xs.take k]
  | 26 => .is (.int .u32 (s1 : Nat))
  | 27 => .rd xs
  | 28 => .is (.int .i64 (k : Nat))
  | 29 => .rd (xs.drop k)
  | 30 => Kn.parts [xs.drop k]
  | 31 => .is (.int .u32 (sa : Nat))
  | 32 => .rd xs
  | 33 => Kn.parts [xs]
  | 34 => .is (.int .u32 (sa : Nat))
  | 35 => .is (.bool true)
  | 36 => .is (.bool true)
  | 37 => .rd xs
  | 38 => Kn.parts [xs]
  | 39 => .is (.int .u32 (sa : Nat))
  | 40 => .rd bs
  | 41 => Kn.parts [bs]
  | 42 => .is (.int .u32 (sab : Nat))
  | 43 => .rd xs
  | 44 => .rd bs
  | 45 => Kn.parts [xs, bs]
  | 46 => .is (.int .u32 (sab : Nat))
  | 47 => .is (.bool true)
  | 48 => .is (.bool true)
  | 49 => .is (.bool true)
  | 50 => .rd xs
  | 51 => .rd (crcSign xs)
  | 52 => Kn.parts [crcSign xs]
  | 53 => .is (.int .u32 (sk : Nat))
  | 54 => .rd bs
  | 55 => .rd (crcSign bs)
  | 56 => Kn.parts [crcSign bs]
  | 57 => .is (.int .u32 (sk : Nat))
  | 58 => .is (.bool true)
  | 59 => .is (.bool true)
  | 60 => .is (.bool true)
  | 61 => .is (.bool true)
  | 62 => .is (.bool true)
  | _ => .any

set_option maxRecDepth 20000 in
set_option maxHeartbeats 2000000 in
theorem crcParts_walk (v v' : Value) (xs bs : List UInt8) (cut : Nat) (w : World) (h : Rd w v xs) (h' : Rd w v' bs) (hc : cut < 65536) :
    Calls Try.prog 6 #[v, v', .int .u16 (cut : Nat)] w fun e w' => e = .returned (.bool true) ∧ Ext w w' := by
  obtain ⟨i, hi, hz, hsz, hby⟩ := info_parts infoU8
  obtain ⟨i2, hi2, hz2, hs2, hby2⟩ := info_parts infoSl
  obtain ⟨ao, cap, rfl⟩ := h.shape
  obtain ⟨bo, cap', rfl⟩ := h'.shape
  have hlen : xs.length ≤ maxLen := by obtain ⟨_, _, _, g1, g2, _⟩ := h; omega
  have hlen' : bs.length ≤ maxLen := by obtain ⟨_, _, _, g1, g2, _⟩ := h'; omega
  unfold maxLen at hlen hlen'
  have H := Lib.hid h; have H' := Lib.hid h'; clear h h'
  by_cases ha : 300 < xs.length
  · go_enter Try.func6, Try.ntmps6
    go_wp2
    go_ret
    exact ⟨rfl, Ch.refl _ _⟩
  by_cases hb : 300 < bs.length
  · go_enter Try.func6, Try.ntmps6
    go_wp2
    go_ret
    exact ⟨rfl, Ch.refl _ _⟩
  have hmod : (cut : Int).tmod ((xs.length : Int) + 1) = ((cut % (xs.length + 1) : Nat) : Int) := by
    rw [Int.tmod_eq_emod_of_nonneg (by omega)]
    simp
  have hmod' : (cut : Int) % ((xs.length : Int) + 1) = ((cut % (xs.length + 1) : Nat) : Int) := by simp
  have hk : cut % (xs.length + 1) ≤ xs.length := by have := Nat.mod_lt cut (show 0 < xs.length + 1 by omega); omega
  generalize cut % (xs.length + 1) = k at *
  have F1 := Lib.hid (show crcSum [xs.take k].flatten = crcSum (xs.take k) by simp)
  have F2 := Lib.hid (show crcAnd (crcSum (xs.take k)) [xs.drop k].flatten = crcSum xs by rw [crcAnd_sum]; simp [List.take_append_drop])
  have F3 := Lib.hid (show crcSum [xs].flatten = crcSum xs by simp)
  have F4 := Lib.hid (show crcAnd (crcSum xs) [bs].flatten = crcSum (xs ++ bs) by rw [crcAnd_sum]; simp)
  have F5 := Lib.hid (show crcSum [xs, bs].flatten = crcSum (xs ++ bs) by simp)
  have F6 := Lib.hid (show crcSum [crcSign xs].flatten = crcSum (crcSign xs) by simp)
  have F7 := Lib.hid (show crcSum [crcSign bs].flatten = crcSum (crcSign xs) by rw [crcSum_sign xs bs]; simp)
  have HL1 := Lib.hid (crcSum_lt (xs.take k)); have HLA := Lib.hid (crcSum_lt xs)
  generalize crcSum (xs.take k) = s1 at *
  generalize crcSum xs = sa at *
  generalize crcSum (xs ++ bs) = sab at *
  generalize crcSum (crcSign xs) = sk at *
  have HK := Lib.hid hk
  have HLNA : Hid (xs.length ≤ 1000000) := Lib.hid (by omega)
  have HLNB : Hid (bs.length ≤ 1000000) := Lib.hid (by omega)
  have HI := Lib.hid hi; have HSZ := Lib.hid hsz; have HI2 := Lib.hid hi2; have HZ2 := Lib.hid hz2; have HSZ2 := Lib.hid hs2
  clear hi hz hsz hby hi2 hz2 hs2 hby2
  obtain ⟨na, hna⟩ : ∃ na, na = xs.length := ⟨_, rfl⟩
  obtain ⟨nb, hnb⟩ : ∃ nb, nb = bs.length := ⟨_, rfl⟩
  rw [← hna] at ha hlen hk hmod hmod' ⊢
  rw [← hnb] at hb hlen' ⊢
  have H : Hid (Rd w (.slice ao na cap) xs) := Lib.hid (by rw [hna]; exact H.out)
  have H' : Hid (Rd w (.slice bo nb cap') bs) := Lib.hid (by rw [hnb]; exact H'.out)
  clear hna hnb
  go_enter Try.func6, Try.ntmps6
  go_wp2
  refine wp_region_ext (partsT xs bs k s1 sa sab sk) mixedEq (by rfl) (by rfl) ?all ?fin
  case all =>
    refine ⟨?_, ?_, ?_, ?_, ?_, ?_, ?_, ?_, ?_, ?_, ?_, ?_, ?_, ?_, ?_, ?_, ?_, ?_, ?_, ?_, ?_, ?_, ?_, ?_, ?_, ?_, ?_, ?_, ?_, ?_, ?_, ?_, ?_, ?_, ?_, ?_, ?_, ?_, ?_, ?_, ?_, ?_, trivial⟩
    · -- 0: slot 22 := Op.move t0
      refine StepOK.plain (kn_stable _) rfl fun ρ w hρ hw hf => ?_
      have h0 : ρ (.tmp 0) = (.slice ao na cap) := (hf 0).2 rfl rfl
      exact Exec.kmove rfl rfl (by rw [h0]; exact H.out.ext hw)
    · -- 1: slot 23 := Op.move t7
      refine StepOK.plain (kn_stable _) rfl fun ρ w hρ hw hf => ?_
      have h7 : ρ (.tmp 7) = (.int .i64 (k : Nat)) := (hf 7).2 rfl rfl
      exact Exec.kmove rfl rfl h7
    · -- 2: slot 24 := Op.slice 23 t22 none (some t23) none
      refine StepOK.plain (kn_stable _) rfl fun ρ w hρ hw hf => ?_
      have h22 : Rd w (ρ (.tmp 22)) (xs) := (hf 22).1 rfl
      have h23 : ρ (.tmp 23) = (.int .i64 (k : Nat)) := (hf 23).1 rfl
      exact Exec.ktake rfl rfl Try.underlying23 HI.out HSZ.out h22 h23 HK.out fun v hv => hv
    · -- 3: slot 25 := Op.buildSlice 22 1 #[(0, t24)]
      refine StepOK.plain (kn_stable _) rfl fun ρ w hρ hw hf => ?_
      have h24 : Rd w (ρ (.tmp 24)) ((xs.take k)) := (hf 24).1 rfl
      exact Exec.kone rfl rfl Try.underlying22 HI2.out HZ2.out HSZ2.out h24 fun v w' hv => hv
    · -- 4: slot 26 := Op.call { value (Operand.func 12), args := #[t25], argTypes := #[22] }
      refine StepOK.plain (kn_stable _) rfl fun ρ w hρ hw hf => ?_
      have h25 : Parts w (ρ (.tmp 25)) ([xs.take k]) := (hf 25).1 rfl
      refine Exec.kcall #[ρ (.tmp 25)] hρ rfl rfl (by simp [hρ.const]) Try.func12 (by rfl) rfl ?_
      refine (of_any _ _ w h25).mono ?_
      rintro e w' ⟨rfl, hx⟩
      exact ⟨_, rfl, by rw [F1.out]; rfl, hx⟩
    · -- 5: slot 27 := Op.move t0
      refine StepOK.plain (kn_stable _) rfl fun ρ w hρ hw hf => ?_
      have h0 : ρ (.tmp 0) = (.slice ao na cap) := (hf 0).2 rfl rfl
      exact Exec.kmove rfl rfl (by rw [h0]; exact H.out.ext hw)
    · -- 6: slot 28 := Op.move t7
      refine StepOK.plain (kn_stable _) rfl fun ρ w hρ hw hf => ?_
      have h7 : ρ (.tmp 7) = (.int .i64 (k : Nat)) := (hf 7).2 rfl rfl
      exact Exec.kmove rfl rfl h7
    · -- 7: slot 29 := Op.slice 23 t27 (some t28) none none
      refine StepOK.plain (kn_stable _) rfl fun ρ w hρ hw hf => ?_
      have h27 : Rd w (ρ (.tmp 27)) (xs) := (hf 27).1 rfl
      have h28 : ρ (.tmp 28) = (.int .i64 (k : Nat)) := (hf 28).1 rfl
      exact Exec.kdrop rfl rfl Try.underlying23 HI.out HSZ.out h27 h28 HK.out fun v hv => hv
    · -- 8: slot 30 := Op.buildSlice 22 1 #[(0, t29)]
      refine StepOK.plain (kn_stable _) rfl fun ρ w hρ hw hf => ?_
      have h29 : Rd w (ρ (.tmp 29)) ((xs.drop k)) := (hf 29).1 rfl
      exact Exec.kone rfl rfl Try.underlying22 HI2.out HZ2.out HSZ2.out h29 fun v w' hv => hv
    · -- 9: slot 31 := Op.call { value (Operand.func 13), args := #[t26, t30], argTypes := #[
      refine StepOK.plain (kn_stable _) rfl fun ρ w hρ hw hf => ?_
      have h26 : ρ (.tmp 26) = (.int .u32 (s1 : Nat)) := (hf 26).1 rfl
      have h30 : Parts w (ρ (.tmp 30)) ([xs.drop k]) := (hf 30).1 rfl
      refine Exec.kcall #[.int .u32 (s1 : Nat), ρ (.tmp 30)] hρ rfl rfl (by simp [hρ.const, h26]) Try.func13 (by rfl) rfl ?_
      refine (and_any _ _ _ w HL1.out h30).mono ?_
      rintro e w' ⟨rfl, hx⟩
      exact ⟨_, rfl, by rw [F2.out]; rfl, hx⟩
    · -- 10: slot 32 := Op.move t0
      refine StepOK.plain (kn_stable _) rfl fun ρ w hρ hw hf => ?_
      have h0 : ρ (.tmp 0) = (.slice ao na cap) := (hf 0).2 rfl rfl
      exact Exec.kmove rfl rfl (by rw [h0]; exact H.out.ext hw)
    · -- 11: slot 33 := Op.buildSlice 22 1 #[(0, t32)]
      refine StepOK.plain (kn_stable _) rfl fun ρ w hρ hw hf => ?_
      have h32 : Rd w (ρ (.tmp 32)) (xs) := (hf 32).1 rfl
      exact Exec.kone rfl rfl Try.underlying22 HI2.out HZ2.out HSZ2.out h32 fun v w' hv => hv
    · -- 12: slot 34 := Op.call { value (Operand.func 12), args := #[t33], argTypes := #[22] }
      refine StepOK.plain (kn_stable _) rfl fun ρ w hρ hw hf => ?_
      have h33 : Parts w (ρ (.tmp 33)) ([xs]) := (hf 33).1 rfl
      refine Exec.kcall #[ρ (.tmp 33)] hρ rfl rfl (by simp [hρ.const]) Try.func12 (by rfl) rfl ?_
      refine (of_any _ _ w h33).mono ?_
      rintro e w' ⟨rfl, hx⟩
      exact ⟨_, rfl, by rw [F3.out]; rfl, hx⟩
    · -- 13: slot 35 := Op.binOp BinOp.eql 25 t31 t34 25
      refine StepOK.plain (kn_stable _) rfl fun ρ w hρ hw hf => ?_
      have h31 : ρ (.tmp 31) = (.int .u32 (sa : Nat)) := (hf 31).1 rfl
      have h34 : ρ (.tmp 34) = (.int .u32 (sa : Nat)) := (hf 34).1 rfl
      exact Exec.same (v := .bool true) rfl (by simp [go_sem, hρ.const, h31, h34]) rfl
    · -- 14: slot 36 := Op.move t35
      refine StepOK.plain (kn_stable _) rfl fun ρ w hρ hw hf => ?_
      have h35 : ρ (.tmp 35) = (.bool true) := (hf 35).1 rfl
      exact Exec.kmove rfl rfl h35
    · -- 15: slot 37 := Op.move t0
      refine StepOK.guarded (kn_stable _) 14 true 36 rfl rfl (fun ρ w _ _ hf => (hf 36).1 rfl) fun ρ w hρ hw hf => ?_
      have h0 : ρ (.tmp 0) = (.slice ao na cap) := (hf 0).2 rfl rfl
      exact Exec.kmove rfl rfl (by rw [h0]; exact H.out.ext hw)
    · -- 16: slot 38 := Op.buildSlice 22 1 #[(0, t37)]
      refine StepOK.guarded (kn_stable _) 14 true 36 rfl rfl (fun ρ w _ _ hf => (hf 36).1 rfl) fun ρ w hρ hw hf => ?_
      have h37 : Rd w (ρ (.tmp 37)) (xs) := (hf 37).1 rfl
      exact Exec.kone rfl rfl Try.underlying22 HI2.out HZ2.out HSZ2.out h37 fun v w' hv => hv
    · -- 17: slot 39 := Op.call { value (Operand.func 12), args := #[t38], argTypes := #[22] }
      refine StepOK.guarded (kn_stable _) 14 true 36 rfl rfl (fun ρ w _ _ hf => (hf 36).1 rfl) fun ρ w hρ hw hf => ?_
      have h38 : Parts w (ρ (.tmp 38)) ([xs]) := (hf 38).1 rfl
      refine Exec.kcall #[ρ (.tmp 38)] hρ rfl rfl (by simp [hρ.const]) Try.func12 (by rfl) rfl ?_
      refine (of_any _ _ w h38).mono ?_
      rintro e w' ⟨rfl, hx⟩
      exact ⟨_, rfl, by rw [F3.out]; rfl, hx⟩
    · -- 18: slot 40 := Op.move t1
      refine StepOK.guarded (kn_stable _) 14 true 36 rfl rfl (fun ρ w _ _ hf => (hf 36).1 rfl) fun ρ w hρ hw hf => ?_
      have h1 : ρ (.tmp 1) = (.slice bo nb cap') := (hf 1).2 rfl rfl
      exact Exec.kmove rfl rfl (by rw [h1]; exact H'.out.ext hw)
    · -- 19: slot 41 := Op.buildSlice 22 1 #[(0, t40)]
      refine StepOK.guarded (kn_stable _) 14 true 36 rfl rfl (fun ρ w _ _ hf => (hf 36).1 rfl) fun ρ w hρ hw hf => ?_
      have h40 : Rd w (ρ (.tmp 40)) (bs) := (hf 40).1 rfl
      exact Exec.kone rfl rfl Try.underlying22 HI2.out HZ2.out HSZ2.out h40 fun v w' hv => hv
    · -- 20: slot 42 := Op.call { value (Operand.func 13), args := #[t39, t41], argTypes := #[
      refine StepOK.guarded (kn_stable _) 14 true 36 rfl rfl (fun ρ w _ _ hf => (hf 36).1 rfl) fun ρ w hρ hw hf => ?_
      have h39 : ρ (.tmp 39) = (.int .u32 (sa : Nat)) := (hf 39).1 rfl
      have h41 : Parts w (ρ (.tmp 41)) ([bs]) := (hf 41).1 rfl
      refine Exec.kcall #[.int .u32 (sa : Nat), ρ (.tmp 41)] hρ rfl rfl (by simp [hρ.const, h39]) Try.func13 (by rfl) rfl ?_
      refine (and_any _ _ _ w HLA.out h41).mono ?_
      rintro e w' ⟨rfl, hx⟩
      exact ⟨_, rfl, by rw [F4.out]; rfl, hx⟩
    · -- 21: slot 43 := Op.move t0
      refine StepOK.guarded (kn_stable _) 14 true 36 rfl rfl (fun ρ w _ _ hf => (hf 36).1 rfl) fun ρ w hρ hw hf => ?_
      have h0 : ρ (.tmp 0) = (.slice ao na cap) := (hf 0).2 rfl rfl
      exact Exec.kmove rfl rfl (by rw [h0]; exact H.out.ext hw)
    · -- 22: slot 44 := Op.move t1
      refine StepOK.guarded (kn_stable _) 14 true 36 rfl rfl (fun ρ w _ _ hf => (hf 36).1 rfl) fun ρ w hρ hw hf => ?_
      have h1 : ρ (.tmp 1) = (.slice bo nb cap') := (hf 1).2 rfl rfl
      exact Exec.kmove rfl rfl (by rw [h1]; exact H'.out.ext hw)
    · -- 23: slot 45 := Op.buildSlice 22 2 #[(0, t43), (1, t44)]
      refine StepOK.guarded (kn_stable _) 14 true 36 rfl rfl (fun ρ w _ _ hf => (hf 36).1 rfl) fun ρ w hρ hw hf => ?_
      have h43 : Rd w (ρ (.tmp 43)) (xs) := (hf 43).1 rfl
      have h44 : Rd w (ρ (.tmp 44)) (bs) := (hf 44).1 rfl
      exact Exec.ktwo rfl rfl Try.underlying22 HI2.out HZ2.out HSZ2.out h43 h44 fun v w' hv => hv
    · -- 24: slot 46 := Op.call { value (Operand.func 12), args := #[t45], argTypes := #[22] }
      refine StepOK.guarded (kn_stable _) 14 true 36 rfl rfl (fun ρ w _ _ hf => (hf 36).1 rfl) fun ρ w hρ hw hf => ?_
      have h45 : Parts w (ρ (.tmp 45)) ([xs, bs]) := (hf 45).1 rfl
      refine Exec.kcall #[ρ (.tmp 45)] hρ rfl rfl (by simp [hρ.const]) Try.func12 (by rfl) rfl ?_
      refine (of_any _ _ w h45).mono ?_
      rintro e w' ⟨rfl, hx⟩
      exact ⟨_, rfl, by rw [F5.out]; rfl, hx⟩
    · -- 25: slot 47 := Op.binOp BinOp.eql 25 t42 t46 25
      refine StepOK.guarded (kn_stable _) 14 true 36 rfl rfl (fun ρ w _ _ hf => (hf 36).1 rfl) fun ρ w hρ hw hf => ?_
      have h42 : ρ (.tmp 42) = (.int .u32 (sab : Nat)) := (hf 42).1 rfl
      have h46 : ρ (.tmp 46) = (.int .u32 (sab : Nat)) := (hf 46).1 rfl
      exact Exec.same (v := .bool true) rfl (by simp [go_sem, hρ.const, h42, h46]) rfl
    · -- 26: slot 48 := Op.pick t36 t47 (const (Value.bool false))
      refine StepOK.plain (kn_stable _) rfl fun ρ w hρ hw hf => ?_
      have h36 : ρ (.tmp 36) = (.bool true) := (hf 36).1 rfl
      have h47 : ρ (.tmp 47) = (.bool true) := (hf 47).1 rfl
      exact Exec.kpickT rfl rfl h36 h47
    · -- 27: slot 49 := Op.move t48
      refine StepOK.plain (kn_stable _) rfl fun ρ w hρ hw hf => ?_
      have h48 : ρ (.tmp 48) = (.bool true) := (hf 48).1 rfl
      exact Exec.kmove rfl rfl h48
    · -- 28: slot 50 := Op.move t0
      refine StepOK.guarded (kn_stable _) 27 true 49 rfl rfl (fun ρ w _ _ hf => (hf 49).1 rfl) fun ρ w hρ hw hf => ?_
      have h0 : ρ (.tmp 0) = (.slice ao na cap) := (hf 0).2 rfl rfl
      exact Exec.kmove rfl rfl (by rw [h0]; exact H.out.ext hw)
    · -- 29: slot 51 := Op.call { value (Operand.func 17), args := #[t50], argTypes := #[23] }
      refine StepOK.guarded (kn_stable _) 27 true 49 rfl rfl (fun ρ w _ _ hf => (hf 49).1 rfl) fun ρ w hρ hw hf => ?_
      have h50 : Rd w (ρ (.tmp 50)) (xs) := (hf 50).1 rfl
      refine Exec.kcall #[ρ (.tmp 50)] hρ rfl rfl (by simp [hρ.const]) Try.func17 (by rfl) rfl ?_
      refine (sign_any _ _ w h50 HLNA.out).mono ?_
      intro e w' hm
      obtain ⟨q, rfl, hx, hr⟩ := hm.rd
      exact ⟨_, rfl, hr, hx⟩
    · -- 30: slot 52 := Op.buildSlice 22 1 #[(0, t51)]
      refine StepOK.guarded (kn_stable _) 27 true 49 rfl rfl (fun ρ w _ _ hf => (hf 49).1 rfl) fun ρ w hρ hw hf => ?_
      have h51 : Rd w (ρ (.tmp 51)) ((crcSign xs)) := (hf 51).1 rfl
      exact Exec.kone rfl rfl Try.underlying22 HI2.out HZ2.out HSZ2.out h51 fun v w' hv => hv
    · -- 31: slot 53 := Op.call { value (Operand.func 12), args := #[t52], argTypes := #[22] }
      refine StepOK.guarded (kn_stable _) 27 true 49 rfl rfl (fun ρ w _ _ hf => (hf 49).1 rfl) fun ρ w hρ hw hf => ?_
      have h52 : Parts w (ρ (.tmp 52)) ([crcSign xs]) := (hf 52).1 rfl
      refine Exec.kcall #[ρ (.tmp 52)] hρ rfl rfl (by simp [hρ.const]) Try.func12 (by rfl) rfl ?_
      refine (of_any _ _ w h52).mono ?_
      rintro e w' ⟨rfl, hx⟩
      exact ⟨_, rfl, by rw [F6.out]; rfl, hx⟩
    · -- 32: slot 54 := Op.move t1
      refine StepOK.guarded (kn_stable _) 27 true 49 rfl rfl (fun ρ w _ _ hf => (hf 49).1 rfl) fun ρ w hρ hw hf => ?_
      have h1 : ρ (.tmp 1) = (.slice bo nb cap') := (hf 1).2 rfl rfl
      exact Exec.kmove rfl rfl (by rw [h1]; exact H'.out.ext hw)
    · -- 33: slot 55 := Op.call { value (Operand.func 17), args := #[t54], argTypes := #[23] }
      refine StepOK.guarded (kn_stable _) 27 true 49 rfl rfl (fun ρ w _ _ hf => (hf 49).1 rfl) fun ρ w hρ hw hf => ?_
      have h54 : Rd w (ρ (.tmp 54)) (bs) := (hf 54).1 rfl
      refine Exec.kcall #[ρ (.tmp 54)] hρ rfl rfl (by simp [hρ.const]) Try.func17 (by rfl) rfl ?_
      refine (sign_any _ _ w h54 HLNB.out).mono ?_
      intro e w' hm
      obtain ⟨q, rfl, hx, hr⟩ := hm.rd
      exact ⟨_, rfl, hr, hx⟩
    · -- 34: slot 56 := Op.buildSlice 22 1 #[(0, t55)]
      refine StepOK.guarded (kn_stable _) 27 true 49 rfl rfl (fun ρ w _ _ hf => (hf 49).1 rfl) fun ρ w hρ hw hf => ?_
      have h55 : Rd w (ρ (.tmp 55)) ((crcSign bs)) := (hf 55).1 rfl
      exact Exec.kone rfl rfl Try.underlying22 HI2.out HZ2.out HSZ2.out h55 fun v w' hv => hv
    · -- 35: slot 57 := Op.call { value (Operand.func 12), args := #[t56], argTypes := #[22] }
      refine StepOK.guarded (kn_stable _) 27 true 49 rfl rfl (fun ρ w _ _ hf => (hf 49).1 rfl) fun ρ w hρ hw hf => ?_
      have h56 : Parts w (ρ (.tmp 56)) ([crcSign bs]) := (hf 56).1 rfl
      refine Exec.kcall #[ρ (.tmp 56)] hρ rfl rfl (by simp [hρ.const]) Try.func12 (by rfl) rfl ?_
      refine (of_any _ _ w h56).mono ?_
      rintro e w' ⟨rfl, hx⟩
      exact ⟨_, rfl, by rw [F7.out]; rfl, hx⟩
    · -- 36: slot 58 := Op.binOp BinOp.eql 25 t53 t57 25
      refine StepOK.guarded (kn_stable _) 27 true 49 rfl rfl (fun ρ w _ _ hf => (hf 49).1 rfl) fun ρ w hρ hw hf => ?_
      have h53 : ρ (.tmp 53) = (.int .u32 (sk : Nat)) := (hf 53).1 rfl
      have h57 : ρ (.tmp 57) = (.int .u32 (sk : Nat)) := (hf 57).1 rfl
      exact Exec.same (v := .bool true) rfl (by simp [go_sem, hρ.const, h53, h57]) rfl
    · -- 37: slot 59 := Op.pick t49 t58 (const (Value.bool false))
      refine StepOK.plain (kn_stable _) rfl fun ρ w hρ hw hf => ?_
      have h49 : ρ (.tmp 49) = (.bool true) := (hf 49).1 rfl
      have h58 : ρ (.tmp 58) = (.bool true) := (hf 58).1 rfl
      exact Exec.kpickT rfl rfl h49 h58
    · -- 38: slot 60 := Op.move t59
      refine StepOK.plain (kn_stable _) rfl fun ρ w hρ hw hf => ?_
      have h59 : ρ (.tmp 59) = (.bool true) := (hf 59).1 rfl
      exact Exec.kmove rfl rfl h59
    · -- 39: slot 61 := Op.call { value (Operand.func 15), args := #[], argTypes := #[] }
      refine StepOK.guarded (kn_stable _) 38 true 60 rfl rfl (fun ρ w _ _ hf => (hf 60).1 rfl) fun ρ w hρ hw hf => ?_
      refine Exec.kcall #[] hρ rfl rfl (by simp) Try.func15 (by rfl) rfl ?_
      refine (awake3_any w).mono ?_
      rintro e w' ⟨rfl, hx⟩
      exact ⟨_, rfl, rfl, hx⟩
    · -- 40: slot 62 := Op.pick t60 t61 (const (Value.bool false))
      refine StepOK.plain (kn_stable _) rfl fun ρ w hρ hw hf => ?_
      have h60 : ρ (.tmp 60) = (.bool true) := (hf 60).1 rfl
      have h61 : ρ (.tmp 61) = (.bool true) := (hf 61).1 rfl
      exact Exec.kpickT rfl rfl h60 h61
    · -- 41: slot 6 := Op.assign t62
      refine StepOK.plain (kn_stable _) rfl fun ρ w hρ hw hf => ?_
      have h62 : ρ (.tmp 62) = (.bool true) := (hf 62).1 rfl
      exact Exec.kassign rfl rfl h62

  case fin =>
    intro ν w2 hfin hext
    have h0 : ν 6 = .bool true := hfin 41 6 rfl
    simp only [Exit.then, ended, List.foldl_cons, List.foldl_nil, List.setIfInBounds_toArray, List.set_cons_succ, List.set_cons_zero, h0]
    have HX2 := Lib.hid hext; clear hext hfin h0
    go_wp2
    go_ret
    exact ⟨rfl, HX2.out⟩

end Go.Proofs.Ytcdhalgpnhdbnaa
