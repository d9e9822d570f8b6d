/-
  CrcSigns: the walk.
-/
import Derived.Test.YtcdhalgpnhdbnaaProg
import Derived.Test.YtcdhalgpnhdbnaaLib
import Derived.Test.YtcdhalgpnhdbnaaLibC
import Derived.Test.YtcdhalgpnhdbnaaInfo
import Derived.Test.YtcdhalgpnhdbnaaCrcD
import Derived.Test.YtcdhalgpnhdbnaaCrcG
import Derived.Test.YtcdhalgpnhdbnaaAwake3
import Derived.WalkKit
import Derived.Lib.Hide
import Derived.Outline
import Derived.Laws.BitsAllLaws
namespace Go.Proofs.Ytcdhalgpnhdbnaa
open Go.RowKit Go.Lac

def signsT (g off n c1 s : Nat) (x0 x3 : Int) (bs pt : List UInt8) : Tmp → Kn
  | 12 => .is (.slice (some ⟨g, off, none⟩) (n + 4) c1)
  | 13 => .is (.int .i64 ((n : Int) + 4))
  | 14 => .rd bs
  | 15 => .is (.int .i64 ((n : Nat)))
  | 16 => .is (.int .i64 ((n : Int) + 4))
  | 17 => .is (.bool false)
  | 18 => .is (.bool false)
  | 19 => .rd pt
  | 20 => .rd bs
  | 21 => .is (.int .i64 ((n : Nat)))
  | 22 => .rd bs
  | 23 => .is (strV bs)
  | 24 => .rd bs
  | 25 => .is (strV bs)
  | 26 => .is (.bool false)
  | 27 => .is (.bool false)
  | 28 => .is (.bool false)
  | 29 => .is (.slice (some ⟨g, off, none⟩) (n + 4) c1)
  | 30 => .rd bs
  | 31 => .is (.int .i64 ((n : Nat)))
  | 32 => .is (.pointer (some ⟨g, off + n, none⟩))
  | 33 => .is (.int .u8 x0)
  | 34 => .is (.int .u32 (s : Nat))
  | 35 => .is (.int .u8 x0)
  | 36 => .is (.bool false)
  | 37 => .is (.bool false)
  | 38 => .is (.bool false)
  | 39 => .is (.slice (some ⟨g, off, none⟩) (n + 4) c1)
  | 40 => .rd bs
  | 41 => .is (.int .i64 ((n : Nat)))
  | 42 => .is (.int .i64 ((n : Int) + 3))
  | 43 => .is (.pointer (some ⟨g, off + (n + 3), none⟩))
  | 44 => .is (.int .u8 x3)
  | 45 => .is (.int .u32 (s : Nat))
  | 46 => .is (.int .u32 ((s : Int) / 16777216))
  | 47 => .is (.int .u8 x3)
  | 48 => .is (.bool false)
  | 49 => .is (.bool false)
  | _ => .any

def signsT2 (bs sg : List UInt8) (z : Bool) : Tmp → Kn
  | 4 => .is (.bool true)
  | 50 => .rd bs
  | 51 => .rd sg
  | 52 => .is (strV sg)
  | 53 => .rd bs
  | 54 => .rd sg
  | 55 => .is (strV sg)
  | 56 => .is (.bool true)
  | 57 => .is (.bool true)
  | 58 => .rd bs
  | 59 => .is (.bool z)
  | 60 => .rd bs
  | 61 => .is (.bool z)
  | 62 => .is (.bool true)
  | 63 => .is (.bool true)
  | 64 => .is (.bool true)
  | 65 => .rd bs
  | 66 => .rd sg
  | 67 => .is (.bool true)
  | 68 => .is (.bool true)
  | 69 => .is (.bool true)
  | 70 => .is (.bool true)
  | 71 => .is (.bool true)
  | _ => .any

set_option maxRecDepth 20000 in
set_option maxHeartbeats 2000000 in
theorem crcSigns_walk (v : Value) (bs : List UInt8) (s : Nat) (w : World) (h : Rd w v bs) (hs : s < 2 ^ 32) :
    Calls Try.prog 4 #[v, .int .u32 (s : Nat)] w fun e w' => e = .returned (.bool true) ∧ Ext w w' := by
  obtain ⟨i, hi, hz, hsz, hby⟩ := info_parts infoU8
  obtain ⟨ao, cap, rfl⟩ := h.shape
  have hlen : bs.length ≤ maxLen := by obtain ⟨_, _, _, g1, g2, _⟩ := h; omega
  unfold maxLen at hlen
  by_cases h400 : 400 < bs.length
  · clear h
    go_enter Try.func4, Try.ntmps4
    go_wp2
    go_ret
    exact ⟨rfl, Ch.refl _ _⟩
  · have hput := put_any s _ bs w hs h (by omega)
    have HPUT := Lib.hid hput; have H := Lib.hid h; clear hput h
    have HL : Hid (bs.length ≤ 1000000) := Lib.hid (by omega)
    have HI := Lib.hid hi; have HSZ := Lib.hid hsz; clear hi hz hsz hby
    have HSS := Lib.hid (crcSigned_sign bs)
    obtain ⟨z, hz⟩ : ∃ z, z = crcSigned bs := ⟨_, rfl⟩
    have HZ := Lib.hid hz.symm; clear hz
    have hx0 : (s : Int) % 256 = ((s % 256 : Nat) : Int) := by omega
    have hx3 : (s : Int) / 16777216 % 256 = ((s / 16777216 % 256 : Nat) : Int) := by omega
    obtain ⟨x0, hx0'⟩ : ∃ x0, x0 = (s : Int) % 256 := ⟨_, rfl⟩
    obtain ⟨x3, hx3'⟩ : ∃ x3, x3 = (s : Int) / 16777216 % 256 := ⟨_, rfl⟩
    have HX0 := Lib.hid hx0'.symm; have HX3 := Lib.hid hx3'.symm; clear hx0 hx3 hx0' hx3'
    have hpt : (bs ++ le4 s).take bs.length = bs := by simp
    have hpl : (bs ++ le4 s).length = bs.length + 4 := by simp [le4_length]
    have hc0 : (cellsB (bs ++ le4 s))[bs.length]? = some (.int .u8 x0) := by
      rw [cellsB_append, List.getElem?_append_right (by rw [cellsB_length]; omega), cellsB_length, Nat.sub_self, le4_cells, ← HX0.out]; rfl
    have hc3 : (cellsB (bs ++ le4 s))[bs.length + 3]? = some (.int .u8 x3) := by
      rw [cellsB_append, List.getElem?_append_right (by rw [cellsB_length]; omega), cellsB_length, Nat.add_sub_cancel_left, le4_cells, ← HX3.out]; rfl
    generalize bs ++ le4 s = pt at *
    have HPT := Lib.hid hpt; have HPL := Lib.hid hpl; have HC0' := Lib.hid hc0; have HC3' := Lib.hid hc3
    clear hpt hpl hc0 hc3
    generalize hbl : bs.length = n at *
    have HBL := Lib.hid hbl; clear hbl
    have HN63 : Hid (n ≤ 400) := Lib.hid (by omega)
    clear hs
    go_enter Try.func4, Try.ntmps4
    go_wp2_with (go_at_call 16; refine HPUT.out.mono ?_)
    intro e w1 hm
    obtain ⟨c, rfl, hx, hr⟩ := hm.rd
    clear hm
    obtain ⟨a1, c1, rfl⟩ := hr.shape
    obtain ⟨g, off, rfl, k1, k2, k3⟩ := bytes_cell hr rfl (by rw [HPL.out]; omega)
    have hcc : ∀ j x, (cellsB pt)[j]? = some x → w1.cell? ⟨g, off + j, none⟩ = some x := fun j x hj => by
      obtain ⟨_, _, e1, _, _, _, e4⟩ := hr
      cases e1
      obtain ⟨b', off', e5, e6⟩ := e4 _ rfl j x hj
      cases e5; exact e6
    have HC0 := Lib.hid (hcc _ _ HC0'.out); have HC3 := Lib.hid (hcc _ _ HC3'.out)
    rw [HPL.out] at hr ⊢
    have HX := Lib.hid hx; have HP := Lib.hid hr; have H1 := Lib.hid (H.out.ext hx)
    have HNP : Hid (n ≤ pt.length) := Lib.hid (by rw [HPL.out]; omega)
    clear hx hr k1 k2 k3 hcc HC0' HC3' HPUT
    go_wp2
    refine wp_region_ext (signsT g off n c1 s x0 x3 bs pt) mixedEq (by rfl) (by rfl) ?all ?fin
    case all =>
      refine ⟨?_, ?_, ?_, ?_, ?_, ?_, ?_, ?_, ?_, ?_, ?_, ?_, ?_, ?_, ?_, ?_, ?_, ?_, ?_, ?_, ?_, ?_, ?_, ?_, ?_, ?_, ?_, ?_, ?_, ?_, ?_, ?_, ?_, ?_, ?_, ?_, ?_, ?_, trivial⟩
      · -- 0: slot 12 := Op.move t5
        refine StepOK.plain (kn_stable _) rfl fun ρ w hρ hw hf => ?_
        have h5 : ρ (.tmp 5) = (.slice (some ⟨g, off, none⟩) (n + 4) c1) := (hf 5).2 rfl rfl
        exact Exec.kmove rfl rfl h5
      · -- 1: slot 13 := Op.call { builtin len, args := #[t12], argTypes := #[23] }
        refine StepOK.plain (kn_stable _) rfl fun ρ w hρ hw hf => ?_
        have h12 : ρ (.tmp 12) = (.slice (some ⟨g, off, none⟩) (n + 4) c1) := (hf 12).1 rfl
        exact Exec.same (v := .int .i64 ((n : Int) + 4)) rfl (by simp [go_sem, hρ.const, h12]) rfl
      · -- 2: slot 14 := Op.move t0
        refine StepOK.plain (kn_stable _) rfl fun ρ w hρ hw hf => ?_
        have h0 : ρ (.tmp 0) = (.slice ao n cap) := (hf 0).2 rfl rfl
        exact Exec.kmove rfl rfl (by rw [h0]; exact H1.out.ext hw)
      · -- 3: slot 15 := Op.call { builtin len, args := #[t14], argTypes := #[23] }
        refine StepOK.plain (kn_stable _) rfl fun ρ w hρ hw hf => ?_
        have h14 : Rd w (ρ (.tmp 14)) (bs) := (hf 14).1 rfl
        exact Exec.klen (ats := #[]) rfl rfl Try.underlying23 h14 (by rw [HBL.out]; exact rfl)
      · -- 4: slot 16 := Op.binOp BinOp.add 3 t15 (const (4:i64)) 3
        refine StepOK.plain (kn_stable _) rfl fun ρ w hρ hw hf => ?_
        have h15 : ρ (.tmp 15) = (.int .i64 ((n : Nat))) := (hf 15).1 rfl
        have hwp : IntKind.i64.wrap ((n : Int) + 4) = (n : Int) + 4 := by rw [IntKind.wrap_i64]; have := HN63.out; omega
        exact Exec.same (v := .int .i64 ((n : Int) + 4)) rfl (by simp [go_sem, hρ.const, h15, hwp]) rfl
      · -- 5: slot 17 := Op.binOp BinOp.neq 3 t13 t16 3
        refine StepOK.plain (kn_stable _) rfl fun ρ w hρ hw hf => ?_
        have h13 : ρ (.tmp 13) = (.int .i64 ((n : Int) + 4)) := (hf 13).1 rfl
        have h16 : ρ (.tmp 16) = (.int .i64 ((n : Int) + 4)) := (hf 16).1 rfl
        exact Exec.same (v := .bool false) rfl (by simp [go_sem, hρ.const, h13, h16]) rfl
      · -- 6: slot 18 := Op.move t17
        refine StepOK.plain (kn_stable _) rfl fun ρ w hρ hw hf => ?_
        have h17 : ρ (.tmp 17) = (.bool false) := (hf 17).1 rfl
        exact Exec.kmove rfl rfl h17
      · -- 7: slot 19 := Op.move t5
        refine StepOK.guarded (kn_stable _) 6 false 18 rfl rfl (fun ρ w _ _ hf => (hf 18).1 rfl) fun ρ w hρ hw hf => ?_
        have h5 : ρ (.tmp 5) = (.slice (some ⟨g, off, none⟩) (n + 4) c1) := (hf 5).2 rfl rfl
        exact Exec.kmove rfl rfl (by rw [h5]; exact HP.out.ext hw)
      · -- 8: slot 20 := Op.move t0
        refine StepOK.guarded (kn_stable _) 6 false 18 rfl rfl (fun ρ w _ _ hf => (hf 18).1 rfl) fun ρ w hρ hw hf => ?_
        have h0 : ρ (.tmp 0) = (.slice ao n cap) := (hf 0).2 rfl rfl
        exact Exec.kmove rfl rfl (by rw [h0]; exact H1.out.ext hw)
      · -- 9: slot 21 := Op.call { builtin len, args := #[t20], argTypes := #[23] }
        refine StepOK.guarded (kn_stable _) 6 false 18 rfl rfl (fun ρ w _ _ hf => (hf 18).1 rfl) fun ρ w hρ hw hf => ?_
        have h20 : Rd w (ρ (.tmp 20)) (bs) := (hf 20).1 rfl
        exact Exec.klen (ats := #[]) rfl rfl Try.underlying23 h20 (by rw [HBL.out]; exact rfl)
      · -- 10: slot 22 := Op.slice 23 t19 none (some t21) none
        refine StepOK.guarded (kn_stable _) 6 false 18 rfl rfl (fun ρ w _ _ hf => (hf 18).1 rfl) fun ρ w hρ hw hf => ?_
        have h19 : Rd w (ρ (.tmp 19)) (pt) := (hf 19).1 rfl
        have h21 : ρ (.tmp 21) = (.int .i64 ((n : Nat))) := (hf 21).1 rfl
        exact Exec.ktake rfl rfl Try.underlying23 HI.out HSZ.out h19 h21 HNP.out fun v hv => (by rw [← HPT.out]; exact hv)
      · -- 11: slot 23 := Op.convert 23 9 t22
        refine StepOK.guarded (kn_stable _) 6 false 18 rfl rfl (fun ρ w _ _ hf => (hf 18).1 rfl) fun ρ w hρ hw hf => ?_
        have h22 : Rd w (ρ (.tmp 22)) (bs) := (hf 22).1 rfl
        exact Exec.kstr rfl rfl Try.underlying23 Try.underlying5 Try.underlying9 h22 rfl
      · -- 12: slot 24 := Op.move t0
        refine StepOK.guarded (kn_stable _) 6 false 18 rfl rfl (fun ρ w _ _ hf => (hf 18).1 rfl) fun ρ w hρ hw hf => ?_
        have h0 : ρ (.tmp 0) = (.slice ao n cap) := (hf 0).2 rfl rfl
        exact Exec.kmove rfl rfl (by rw [h0]; exact H1.out.ext hw)
      · -- 13: slot 25 := Op.convert 23 9 t24
        refine StepOK.guarded (kn_stable _) 6 false 18 rfl rfl (fun ρ w _ _ hf => (hf 18).1 rfl) fun ρ w hρ hw hf => ?_
        have h24 : Rd w (ρ (.tmp 24)) (bs) := (hf 24).1 rfl
        exact Exec.kstr rfl rfl Try.underlying23 Try.underlying5 Try.underlying9 h24 rfl
      · -- 14: slot 26 := Op.binOp BinOp.neq 9 t23 t25 9
        refine StepOK.guarded (kn_stable _) 6 false 18 rfl rfl (fun ρ w _ _ hf => (hf 18).1 rfl) fun ρ w hρ hw hf => ?_
        have h23 : ρ (.tmp 23) = (strV bs) := (hf 23).1 rfl
        have h25 : ρ (.tmp 25) = (strV bs) := (hf 25).1 rfl
        exact Exec.kstrne rfl rfl Try.underlying9 h23 h25 (by simp; exact rfl)
      · -- 15: slot 27 := Op.pick t18 (const (Value.bool true)) t26
        refine StepOK.plain (kn_stable _) rfl fun ρ w hρ hw hf => ?_
        have h18 : ρ (.tmp 18) = (.bool false) := (hf 18).1 rfl
        have h26 : ρ (.tmp 26) = (.bool false) := (hf 26).1 rfl
        exact Exec.kpickF rfl rfl h18 h26
      · -- 16: slot 28 := Op.move t27
        refine StepOK.plain (kn_stable _) rfl fun ρ w hρ hw hf => ?_
        have h27 : ρ (.tmp 27) = (.bool false) := (hf 27).1 rfl
        exact Exec.kmove rfl rfl h27
      · -- 17: slot 29 := Op.move t5
        refine StepOK.guarded (kn_stable _) 16 false 28 rfl rfl (fun ρ w _ _ hf => (hf 28).1 rfl) fun ρ w hρ hw hf => ?_
        have h5 : ρ (.tmp 5) = (.slice (some ⟨g, off, none⟩) (n + 4) c1) := (hf 5).2 rfl rfl
        exact Exec.kmove rfl rfl h5
      · -- 18: slot 30 := Op.move t0
        refine StepOK.guarded (kn_stable _) 16 false 28 rfl rfl (fun ρ w _ _ hf => (hf 28).1 rfl) fun ρ w hρ hw hf => ?_
        have h0 : ρ (.tmp 0) = (.slice ao n cap) := (hf 0).2 rfl rfl
        exact Exec.kmove rfl rfl (by rw [h0]; exact H1.out.ext hw)
      · -- 19: slot 31 := Op.call { builtin len, args := #[t30], argTypes := #[23] }
        refine StepOK.guarded (kn_stable _) 16 false 28 rfl rfl (fun ρ w _ _ hf => (hf 28).1 rfl) fun ρ w hρ hw hf => ?_
        have h30 : Rd w (ρ (.tmp 30)) (bs) := (hf 30).1 rfl
        exact Exec.klen (ats := #[]) rfl rfl Try.underlying23 h30 (by rw [HBL.out]; exact rfl)
      · -- 20: slot 32 := Op.indexAddr 23 t29 t31
        refine StepOK.guarded (kn_stable _) 16 false 28 rfl rfl (fun ρ w _ _ hf => (hf 28).1 rfl) fun ρ w hρ hw hf => ?_
        have h29 : ρ (.tmp 29) = (.slice (some ⟨g, off, none⟩) (n + 4) c1) := (hf 29).1 rfl
        have h31 : ρ (.tmp 31) = (.int .i64 ((n : Nat))) := (hf 31).1 rfl
        exact Exec.kindex (i := n) rfl rfl Try.underlying23 HI.out HSZ.out h29 h31 (by omega) (by rw [Nat.mul_one]; exact rfl)
      · -- 21: slot 33 := Op.load 5 t32
        refine StepOK.guarded (kn_stable _) 16 false 28 rfl rfl (fun ρ w _ _ hf => (hf 28).1 rfl) fun ρ w hρ hw hf => ?_
        have h32 : ρ (.tmp 32) = (.pointer (some ⟨g, off + n, none⟩)) := (hf 32).1 rfl
        have hc := hw.cell (p := ⟨g, off + n, none⟩) (fun f => f) _ HC0.out
        exact Exec.same (v := .int .u8 x0) rfl (by simp [go_sem, hρ.const, h32, hc]) rfl
      · -- 22: slot 34 := Op.move t1
        refine StepOK.guarded (kn_stable _) 16 false 28 rfl rfl (fun ρ w _ _ hf => (hf 28).1 rfl) fun ρ w hρ hw hf => ?_
        have h1 : ρ (.tmp 1) = (.int .u32 (s : Nat)) := (hf 1).2 rfl rfl
        exact Exec.kmove rfl rfl h1
      · -- 23: slot 35 := Op.convert 24 5 t34
        refine StepOK.guarded (kn_stable _) 16 false 28 rfl rfl (fun ρ w _ _ hf => (hf 28).1 rfl) fun ρ w hρ hw hf => ?_
        have h34 : ρ (.tmp 34) = (.int .u32 (s : Nat)) := (hf 34).1 rfl
        have hx : IntKind.u8.wrap (s : Int) = x0 := by rw [IntKind.wrap_u8']; exact HX0.out
        exact Exec.same (v := .int .u8 x0) rfl (by simp [go_sem, hρ.const, h34, hx]) rfl
      · -- 24: slot 36 := Op.binOp BinOp.neq 5 t33 t35 5
        refine StepOK.guarded (kn_stable _) 16 false 28 rfl rfl (fun ρ w _ _ hf => (hf 28).1 rfl) fun ρ w hρ hw hf => ?_
        have h33 : ρ (.tmp 33) = (.int .u8 x0) := (hf 33).1 rfl
        have h35 : ρ (.tmp 35) = (.int .u8 x0) := (hf 35).1 rfl
        exact Exec.same (v := .bool false) rfl (by simp [go_sem, hρ.const, h33, h35]) rfl
      · -- 25: slot 37 := Op.pick t28 (const (Value.bool true)) t36
        refine StepOK.plain (kn_stable _) rfl fun ρ w hρ hw hf => ?_
        have h28 : ρ (.tmp 28) = (.bool false) := (hf 28).1 rfl
        have h36 : ρ (.tmp 36) = (.bool false) := (hf 36).1 rfl
        exact Exec.kpickF rfl rfl h28 h36
      · -- 26: slot 38 := Op.move t37
        refine StepOK.plain (kn_stable _) rfl fun ρ w hρ hw hf => ?_
        have h37 : ρ (.tmp 37) = (.bool false) := (hf 37).1 rfl
        exact Exec.kmove rfl rfl h37
      · -- 27: slot 39 := Op.move t5
        refine StepOK.guarded (kn_stable _) 26 false 38 rfl rfl (fun ρ w _ _ hf => (hf 38).1 rfl) fun ρ w hρ hw hf => ?_
        have h5 : ρ (.tmp 5) = (.slice (some ⟨g, off, none⟩) (n + 4) c1) := (hf 5).2 rfl rfl
        exact Exec.kmove rfl rfl h5
      · -- 28: slot 40 := Op.move t0
        refine StepOK.guarded (kn_stable _) 26 false 38 rfl rfl (fun ρ w _ _ hf => (hf 38).1 rfl) fun ρ w hρ hw hf => ?_
        have h0 : ρ (.tmp 0) = (.slice ao n cap) := (hf 0).2 rfl rfl
        exact Exec.kmove rfl rfl (by rw [h0]; exact H1.out.ext hw)
      · -- 29: slot 41 := Op.call { builtin len, args := #[t40], argTypes := #[23] }
        refine StepOK.guarded (kn_stable _) 26 false 38 rfl rfl (fun ρ w _ _ hf => (hf 38).1 rfl) fun ρ w hρ hw hf => ?_
        have h40 : Rd w (ρ (.tmp 40)) (bs) := (hf 40).1 rfl
        exact Exec.klen (ats := #[]) rfl rfl Try.underlying23 h40 (by rw [HBL.out]; exact rfl)
      · -- 30: slot 42 := Op.binOp BinOp.add 3 t41 (const (3:i64)) 3
        refine StepOK.guarded (kn_stable _) 26 false 38 rfl rfl (fun ρ w _ _ hf => (hf 38).1 rfl) fun ρ w hρ hw hf => ?_
        have h41 : ρ (.tmp 41) = (.int .i64 ((n : Nat))) := (hf 41).1 rfl
        have hwp : IntKind.i64.wrap ((n : Int) + 3) = (n : Int) + 3 := by rw [IntKind.wrap_i64]; have := HN63.out; omega
        exact Exec.same (v := .int .i64 ((n : Int) + 3)) rfl (by simp [go_sem, hρ.const, h41, hwp]) rfl
      · -- 31: slot 43 := Op.indexAddr 23 t39 t42
        refine StepOK.guarded (kn_stable _) 26 false 38 rfl rfl (fun ρ w _ _ hf => (hf 38).1 rfl) fun ρ w hρ hw hf => ?_
        have h39 : ρ (.tmp 39) = (.slice (some ⟨g, off, none⟩) (n + 4) c1) := (hf 39).1 rfl
        have h42 : ρ (.tmp 42) = (.int .i64 ((n : Int) + 3)) := (hf 42).1 rfl
        exact Exec.kindex (i := n + 3) rfl rfl Try.underlying23 HI.out HSZ.out h39 h42 (by omega) (by rw [Nat.mul_one]; exact rfl)
      · -- 32: slot 44 := Op.load 5 t43
        refine StepOK.guarded (kn_stable _) 26 false 38 rfl rfl (fun ρ w _ _ hf => (hf 38).1 rfl) fun ρ w hρ hw hf => ?_
        have h43 : ρ (.tmp 43) = (.pointer (some ⟨g, off + (n + 3), none⟩)) := (hf 43).1 rfl
        have hc := hw.cell (p := ⟨g, off + (n + 3), none⟩) (fun f => f) _ HC3.out
        exact Exec.same (v := .int .u8 x3) rfl (by simp [go_sem, hρ.const, h43, hc]) rfl
      · -- 33: slot 45 := Op.move t1
        refine StepOK.guarded (kn_stable _) 26 false 38 rfl rfl (fun ρ w _ _ hf => (hf 38).1 rfl) fun ρ w hρ hw hf => ?_
        have h1 : ρ (.tmp 1) = (.int .u32 (s : Nat)) := (hf 1).2 rfl rfl
        exact Exec.kmove rfl rfl h1
      · -- 34: slot 46 := Op.binOp BinOp.shr 24 t45 (const (24:u64)) 31
        refine StepOK.guarded (kn_stable _) 26 false 38 rfl rfl (fun ρ w _ _ hf => (hf 38).1 rfl) fun ρ w hρ hw hf => ?_
        have h45 : ρ (.tmp 45) = (.int .u32 (s : Nat)) := (hf 45).1 rfl
        exact Exec.same (v := .int .u32 ((s : Int) / 16777216)) rfl (by simp [go_sem, hρ.const, h45]) rfl
      · -- 35: slot 47 := Op.convert 24 5 t46
        refine StepOK.guarded (kn_stable _) 26 false 38 rfl rfl (fun ρ w _ _ hf => (hf 38).1 rfl) fun ρ w hρ hw hf => ?_
        have h46 : ρ (.tmp 46) = (.int .u32 ((s : Int) / 16777216)) := (hf 46).1 rfl
        have hx : IntKind.u8.wrap ((s : Int) / 16777216) = x3 := by rw [IntKind.wrap_u8']; exact HX3.out
        exact Exec.same (v := .int .u8 x3) rfl (by simp [go_sem, hρ.const, h46, hx]) rfl
      · -- 36: slot 48 := Op.binOp BinOp.neq 5 t44 t47 5
        refine StepOK.guarded (kn_stable _) 26 false 38 rfl rfl (fun ρ w _ _ hf => (hf 38).1 rfl) fun ρ w hρ hw hf => ?_
        have h44 : ρ (.tmp 44) = (.int .u8 x3) := (hf 44).1 rfl
        have h47 : ρ (.tmp 47) = (.int .u8 x3) := (hf 47).1 rfl
        exact Exec.same (v := .bool false) rfl (by simp [go_sem, hρ.const, h44, h47]) rfl
      · -- 37: slot 49 := Op.pick t38 (const (Value.bool true)) t48
        refine StepOK.plain (kn_stable _) rfl fun ρ w hρ hw hf => ?_
        have h38 : ρ (.tmp 38) = (.bool false) := (hf 38).1 rfl
        have h48 : ρ (.tmp 48) = (.bool false) := (hf 48).1 rfl
        exact Exec.kpickF rfl rfl h38 h48

    case fin =>
      intro ν w2 hfin hext
      have h0 : ν 49 = .bool false := hfin 37 49 rfl
      simp only [Exit.then, ended, List.foldl_cons, List.foldl_nil, List.setIfInBounds_toArray, List.set_cons_succ, List.set_cons_zero, h0]
      have HX2 := Lib.hid (HX.out.trans hext); have H2 := Lib.hid (H1.out.ext hext); clear hext hfin h0
      go_wp2
      obtain ⟨sg, hsg0⟩ : ∃ sg, sg = crcSign bs := ⟨_, rfl⟩
      have hcs := HSS.out
      rw [← hsg0] at hcs
      refine wp_region_ext (signsT2 bs sg z) mixedEq (by rfl) (by rfl) ?all2 ?fin2
      case all2 =>
        subst hsg0
        have HSS := Lib.hid hcs
        refine ⟨?_, ?_, ?_, ?_, ?_, ?_, ?_, ?_, ?_, ?_, ?_, ?_, ?_, ?_, ?_, ?_, ?_, ?_, ?_, ?_, ?_, ?_, ?_, trivial⟩
        · -- 0: slot 50 := Op.move t0
          refine StepOK.plain (kn_stable _) rfl fun ρ w hρ hw hf => ?_
          have h0 : ρ (.tmp 0) = (.slice ao n cap) := (hf 0).2 rfl rfl
          exact Exec.kmove rfl rfl (by rw [h0]; exact H2.out.ext hw)
        · -- 1: slot 51 := Op.call { value (Operand.func 17), args := #[t50], argTypes := #[23] }
          refine StepOK.plain (kn_stable _) rfl fun ρ w hρ hw hf => ?_
          have h50 : Rd w (ρ (.tmp 50)) (bs) := (hf 50).1 rfl
          refine Exec.kcall #[ρ (.tmp 50)] hρ rfl rfl (by simp [hρ.const]) Try.func17 (by rfl) rfl ?_
          refine (sign_any _ _ w h50 (by rw [HBL.out]; exact HL.out)).mono ?_
          intro e w' hm
          obtain ⟨q, rfl, hx, hr⟩ := hm.rd
          exact ⟨_, rfl, hr, hx⟩
        · -- 2: slot 52 := Op.convert 23 9 t51
          refine StepOK.plain (kn_stable _) rfl fun ρ w hρ hw hf => ?_
          have h51 : Rd w (ρ (.tmp 51)) ((crcSign bs)) := (hf 51).1 rfl
          exact Exec.kstr rfl rfl Try.underlying23 Try.underlying5 Try.underlying9 h51 rfl
        · -- 3: slot 53 := Op.move t0
          refine StepOK.plain (kn_stable _) rfl fun ρ w hρ hw hf => ?_
          have h0 : ρ (.tmp 0) = (.slice ao n cap) := (hf 0).2 rfl rfl
          exact Exec.kmove rfl rfl (by rw [h0]; exact H2.out.ext hw)
        · -- 4: slot 54 := Op.call { value (Operand.func 18), args := #[t53], argTypes := #[23] }
          refine StepOK.plain (kn_stable _) rfl fun ρ w hρ hw hf => ?_
          have h53 : Rd w (ρ (.tmp 53)) (bs) := (hf 53).1 rfl
          refine Exec.kcall #[ρ (.tmp 53)] hρ rfl rfl (by simp [hρ.const]) Try.func18 (by rfl) rfl ?_
          refine (refSign_any _ _ w h53 (by rw [HBL.out]; exact HL.out)).mono ?_
          intro e w' hm
          obtain ⟨q, rfl, hx, hr⟩ := hm.rd
          exact ⟨_, rfl, hr, hx⟩
        · -- 5: slot 55 := Op.convert 23 9 t54
          refine StepOK.plain (kn_stable _) rfl fun ρ w hρ hw hf => ?_
          have h54 : Rd w (ρ (.tmp 54)) ((crcSign bs)) := (hf 54).1 rfl
          exact Exec.kstr rfl rfl Try.underlying23 Try.underlying5 Try.underlying9 h54 rfl
        · -- 6: slot 56 := Op.binOp BinOp.eql 9 t52 t55 9
          refine StepOK.plain (kn_stable _) rfl fun ρ w hρ hw hf => ?_
          have h52 : ρ (.tmp 52) = (strV (crcSign bs)) := (hf 52).1 rfl
          have h55 : ρ (.tmp 55) = (strV (crcSign bs)) := (hf 55).1 rfl
          exact Exec.kstreq rfl rfl Try.underlying9 h52 h55 (by simp; exact rfl)
        · -- 7: slot 57 := Op.move t56
          refine StepOK.plain (kn_stable _) rfl fun ρ w hρ hw hf => ?_
          have h56 : ρ (.tmp 56) = (.bool true) := (hf 56).1 rfl
          exact Exec.kmove rfl rfl h56
        · -- 8: slot 58 := Op.move t0
          refine StepOK.guarded (kn_stable _) 7 true 57 rfl rfl (fun ρ w _ _ hf => (hf 57).1 rfl) fun ρ w hρ hw hf => ?_
          have h0 : ρ (.tmp 0) = (.slice ao n cap) := (hf 0).2 rfl rfl
          exact Exec.kmove rfl rfl (by rw [h0]; exact H2.out.ext hw)
        · -- 9: slot 59 := Op.call { value (Operand.func 19), args := #[t58], argTypes := #[23] }
          refine StepOK.guarded (kn_stable _) 7 true 57 rfl rfl (fun ρ w _ _ hf => (hf 57).1 rfl) fun ρ w hρ hw hf => ?_
          have h58 : Rd w (ρ (.tmp 58)) (bs) := (hf 58).1 rfl
          refine Exec.kcall #[ρ (.tmp 58)] hρ rfl rfl (by simp [hρ.const]) Try.func19 (by rfl) rfl ?_
          refine (signed_any _ _ w h58).mono ?_
          rintro e w' ⟨rfl, hx⟩
          exact ⟨_, rfl, by rw [HZ.out]; rfl, hx⟩
        · -- 10: slot 60 := Op.move t0
          refine StepOK.guarded (kn_stable _) 7 true 57 rfl rfl (fun ρ w _ _ hf => (hf 57).1 rfl) fun ρ w hρ hw hf => ?_
          have h0 : ρ (.tmp 0) = (.slice ao n cap) := (hf 0).2 rfl rfl
          exact Exec.kmove rfl rfl (by rw [h0]; exact H2.out.ext hw)
        · -- 11: slot 61 := Op.call { value (Operand.func 20), args := #[t60], argTypes := #[23] }
          refine StepOK.guarded (kn_stable _) 7 true 57 rfl rfl (fun ρ w _ _ hf => (hf 57).1 rfl) fun ρ w hρ hw hf => ?_
          have h60 : Rd w (ρ (.tmp 60)) (bs) := (hf 60).1 rfl
          refine Exec.kcall #[ρ (.tmp 60)] hρ rfl rfl (by simp [hρ.const]) Try.func20 (by rfl) rfl ?_
          refine (refSigned_any _ _ w h60 (by rw [HBL.out]; exact HL.out)).mono ?_
          rintro e w' ⟨rfl, hx⟩
          exact ⟨_, rfl, by rw [HZ.out]; rfl, hx⟩
        · -- 12: slot 62 := Op.binOp BinOp.eql 4 t59 t61 4
          refine StepOK.guarded (kn_stable _) 7 true 57 rfl rfl (fun ρ w _ _ hf => (hf 57).1 rfl) fun ρ w hρ hw hf => ?_
          have h59 : ρ (.tmp 59) = (.bool z) := (hf 59).1 rfl
          have h61 : ρ (.tmp 61) = (.bool z) := (hf 61).1 rfl
          exact Exec.same (v := .bool true) rfl (by cases z <;> simp [go_sem, hρ.const, h59, h61]) rfl
        · -- 13: slot 63 := Op.pick t57 t62 (const (Value.bool false))
          refine StepOK.plain (kn_stable _) rfl fun ρ w hρ hw hf => ?_
          have h57 : ρ (.tmp 57) = (.bool true) := (hf 57).1 rfl
          have h62 : ρ (.tmp 62) = (.bool true) := (hf 62).1 rfl
          exact Exec.kpickT rfl rfl h57 h62
        · -- 14: slot 64 := Op.move t63
          refine StepOK.plain (kn_stable _) rfl fun ρ w hρ hw hf => ?_
          have h63 : ρ (.tmp 63) = (.bool true) := (hf 63).1 rfl
          exact Exec.kmove rfl rfl h63
        · -- 15: slot 65 := Op.move t0
          refine StepOK.guarded (kn_stable _) 14 true 64 rfl rfl (fun ρ w _ _ hf => (hf 64).1 rfl) fun ρ w hρ hw hf => ?_
          have h0 : ρ (.tmp 0) = (.slice ao n cap) := (hf 0).2 rfl rfl
          exact Exec.kmove rfl rfl (by rw [h0]; exact H2.out.ext hw)
        · -- 16: slot 66 := Op.call { value (Operand.func 17), args := #[t65], argTypes := #[23] }
          refine StepOK.guarded (kn_stable _) 14 true 64 rfl rfl (fun ρ w _ _ hf => (hf 64).1 rfl) fun ρ w hρ hw hf => ?_
          have h65 : Rd w (ρ (.tmp 65)) (bs) := (hf 65).1 rfl
          refine Exec.kcall #[ρ (.tmp 65)] hρ rfl rfl (by simp [hρ.const]) Try.func17 (by rfl) rfl ?_
          refine (sign_any _ _ w h65 (by rw [HBL.out]; exact HL.out)).mono ?_
          intro e w' hm
          obtain ⟨q, rfl, hx, hr⟩ := hm.rd
          exact ⟨_, rfl, hr, hx⟩
        · -- 17: slot 67 := Op.call { value (Operand.func 19), args := #[t66], argTypes := #[23] }
          refine StepOK.guarded (kn_stable _) 14 true 64 rfl rfl (fun ρ w _ _ hf => (hf 64).1 rfl) fun ρ w hρ hw hf => ?_
          have h66 : Rd w (ρ (.tmp 66)) ((crcSign bs)) := (hf 66).1 rfl
          refine Exec.kcall #[ρ (.tmp 66)] hρ rfl rfl (by simp [hρ.const]) Try.func19 (by rfl) rfl ?_
          refine (signed_any _ _ w h66).mono ?_
          rintro e w' ⟨rfl, hx⟩
          exact ⟨_, rfl, by rw [HSS.out]; rfl, hx⟩
        · -- 18: slot 68 := Op.pick t64 t67 (const (Value.bool false))
          refine StepOK.plain (kn_stable _) rfl fun ρ w hρ hw hf => ?_
          have h64 : ρ (.tmp 64) = (.bool true) := (hf 64).1 rfl
          have h67 : ρ (.tmp 67) = (.bool true) := (hf 67).1 rfl
          exact Exec.kpickT rfl rfl h64 h67
        · -- 19: slot 69 := Op.move t68
          refine StepOK.plain (kn_stable _) rfl fun ρ w hρ hw hf => ?_
          have h68 : ρ (.tmp 68) = (.bool true) := (hf 68).1 rfl
          exact Exec.kmove rfl rfl h68
        · -- 20: slot 70 := Op.call { value (Operand.func 15), args := #[], argTypes := #[] }
          refine StepOK.guarded (kn_stable _) 19 true 69 rfl rfl (fun ρ w _ _ hf => (hf 69).1 rfl) fun ρ w hρ hw hf => ?_
          refine Exec.kcall #[] hρ rfl rfl (by simp) Try.func15 (by rfl) rfl ?_
          refine (awake3_any w).mono ?_
          rintro e w' ⟨rfl, hx⟩
          exact ⟨_, rfl, rfl, hx⟩
        · -- 21: slot 71 := Op.pick t69 t70 (const (Value.bool false))
          refine StepOK.plain (kn_stable _) rfl fun ρ w hρ hw hf => ?_
          have h69 : ρ (.tmp 69) = (.bool true) := (hf 69).1 rfl
          have h70 : ρ (.tmp 70) = (.bool true) := (hf 70).1 rfl
          exact Exec.kpickT rfl rfl h69 h70
        · -- 22: slot 4 := Op.assign t71
          refine StepOK.plain (kn_stable _) rfl fun ρ w hρ hw hf => ?_
          have h71 : ρ (.tmp 71) = (.bool true) := (hf 71).1 rfl
          exact Exec.kassign rfl rfl h71

      case fin2 =>
        intro ν w3 hfin hext
        have h0 : ν 4 = .bool true := hfin 22 4 rfl
        simp only [Exit.then, ended, List.foldl_cons, List.foldl_nil, List.setIfInBounds_toArray, List.set_cons_succ, List.set_cons_zero, h0]
        have HX3 := Lib.hid (HX2.out.trans hext); clear hext hfin h0
        go_wp2
        go_ret
        exact ⟨rfl, HX3.out⟩

end Go.Proofs.Ytcdhalgpnhdbnaa
