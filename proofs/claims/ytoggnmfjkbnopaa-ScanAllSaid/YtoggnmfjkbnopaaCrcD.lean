/-
  crc.Signed.
-/
import Derived.Test.YtoggnmfjkbnopaaProg
import Derived.Test.YtoggnmfjkbnopaaLib
import Derived.Test.YtoggnmfjkbnopaaLibB
import Derived.Test.YtoggnmfjkbnopaaInfo
import Derived.Test.YtoggnmfjkbnopaaCrcC
import Derived.Test.YtoggnmfjkbnopaaEqual
import Derived.WalkKit
import Derived.Lib.Hide
import Derived.Deep.QuietTactic
import Derived.BigQuiet
namespace Go.Proofs.Ytoggnmfjkbnopaa
open Go.RowKit Go.Lac

theorem infoSl : (Try.prog.info? 22).map (fun i => (i.zero, i.size, i.bytes)) = some (some (.slice none 0 0), 1, 24) := by kernel_rfl

def signedT (g off cap n s : Nat) (bs : List UInt8) (z : Bool) : Tmp → Kn
  | 7 => .is (.int .i64 n)
  | 8 => .is (.bool true)
  | 9 => .is (.bool true)
  | 10 => .is (.slice (some ⟨g, off, none⟩) (n + 4) cap)
  | 11 => .is (.int .i64 n)
  | 12 => .is (.slice (some ⟨g, off, none⟩) n cap)
  | 13 => Kn.parts [bs.take n]
  | 14 => .is (.int .u32 (s : Nat))
  | 15 => .rd (le4 s)
  | 16 => .is (.slice (some ⟨g, off, none⟩) (n + 4) cap)
  | 17 => .is (.int .i64 n)
  | 18 => .is (.slice (some ⟨g, off + n, none⟩) 4 (cap - n))
  | 19 => .is (.bool z)
  | 20 => .is (.bool z)
  | 2 => .is (.bool z)
  | _ => .any

set_option maxRecDepth 20000 in
set_option maxHeartbeats 2000000 in
theorem signed_any (v : Value) (bs : List UInt8) (w : World) (h : Rd w v bs) :
    Calls Try.prog 76 #[v] w fun e w' => e = .returned (.bool (crcSigned bs)) ∧ Ext w w' := by
  obtain ⟨i, hi, hz, hs, hby⟩ := info_parts infoU8
  obtain ⟨i2, hi2, hz2, hs2, hby2⟩ := info_parts infoSl
  obtain ⟨ao, cap, rfl⟩ := h.shape
  have hlen : bs.length ≤ maxLen := by obtain ⟨_, _, _, g1, g2, _⟩ := h; omega
  unfold maxLen at hlen
  by_cases h4 : 4 ≤ bs.length
  · obtain ⟨g, off, rfl, g1, g2, g3⟩ := bytes_cell h rfl (by omega)
    obtain ⟨n, hn⟩ : ∃ n, bs.length = n + 4 := ⟨bs.length - 4, by omega⟩
    have hsg : crcSigned bs = decide (le4 (crcSum (bs.take n)) = bs.drop n) := by
      unfold crcSigned
      rw [decide_eq_true h4, Bool.true_and, show bs.length - 4 = n by omega]
      apply decide_eq_decide.2
      unfold crcSign
      constructor
      · intro e
        rw [← List.take_append_drop n bs] at e
        simp only [List.take_append_drop] at e
        have := congrArg (List.drop n) e
        rwa [List.drop_append_of_le_length (by rw [List.length_take]; omega), List.drop_eq_nil_of_le (by rw [List.length_take]; omega), List.nil_append] at this
      · intro e; rw [e, List.take_append_drop]
    have rd12 := h.take n (by omega)
    have rd18 := h.drop n (by omega) _ (.inl rfl)
    rw [hn, show n + 4 - n = 4 by omega] at rd18
    rw [hsg, hn]
    have RD12 := Lib.hid rd12; have RD18 := Lib.hid rd18
    have HI := Lib.hid hi; have HSZ := Lib.hid hs; have HI2 := Lib.hid hi2; have HSZ2 := Lib.hid hs2; have HZ2 := Lib.hid hz2
    obtain ⟨s, hs0⟩ : ∃ s, s = crcSum (bs.take n) := ⟨_, rfl⟩
    have HSL : Hid (s < 2 ^ 32) := Lib.hid (by rw [hs0]; exact crcSum_lt _)
    have HS : Hid (crcSum [bs.take n].flatten = s) := Lib.hid (by rw [hs0]; simp)
    rw [← hs0]
    have HN : Hid (n ≤ cap) := Lib.hid (by omega)
    have HC : Hid (n < cap) := Lib.hid (by omega)
    obtain ⟨z, hz0⟩ : ∃ z, z = decide (le4 s = bs.drop n) := ⟨_, rfl⟩
    have HZ := Lib.hid hz0.symm
    rw [← hz0]
    have hn63 : (n : Int) + 4 ≤ 9223372036854775807 := by omega
    clear h hlen h4 g1 g2 g3 hn hsg rd12 rd18 hi hz hs hby hi2 hz2 hs2 hby2 hs0 hz0
    go_enter Try.func76, Try.ntmps76
    go_wp2
    refine wp_region_ext (signedT g off cap n s bs z) mixedEq (by rfl) (by rfl) ?all ?fin
    case all =>
      refine ⟨?_, ?_, ?_, ?_, ?_, ?_, ?_, ?_, ?_, ?_, ?_, ?_, ?_, ?_, ?_, trivial⟩
      · -- 0: slot 7 := Op.move t3
        refine StepOK.plain (kn_stable _) rfl fun ρ w hρ hw hf => ?_
        have h3 : ρ (.tmp 3) = .int .i64 n := (hf 3).2 rfl rfl
        exact Exec.kmove rfl rfl h3
      · -- 1: slot 8 := Op.binOp BinOp.geq 3 t7 (const (0:i64)) 3
        refine StepOK.plain (kn_stable _) rfl fun ρ w hρ hw hf => ?_
        have h7 : ρ (.tmp 7) = (.int .i64 n) := (hf 7).1 rfl
        exact Exec.same (v := (.bool true)) rfl (by simp [go_sem, hρ.const, h7]) rfl
      · -- 2: slot 9 := Op.move t8
        refine StepOK.plain (kn_stable _) rfl fun ρ w hρ hw hf => ?_
        have h8 : ρ (.tmp 8) = (.bool true) := (hf 8).1 rfl
        exact Exec.kmove rfl rfl h8
      · -- 3: slot 10 := Op.move t0
        refine StepOK.guarded (kn_stable _) 2 true 9 rfl rfl (fun ρ w _ _ hf => (hf 9).1 rfl) fun ρ w hρ hw hf => ?_
        have h0 : ρ (.tmp 0) = .slice (some ⟨g, off, none⟩) (n + 4) cap := (hf 0).2 rfl rfl
        exact Exec.kmove rfl rfl h0
      · -- 4: slot 11 := Op.move t3
        refine StepOK.guarded (kn_stable _) 2 true 9 rfl rfl (fun ρ w _ _ hf => (hf 9).1 rfl) fun ρ w hρ hw hf => ?_
        have h3 : ρ (.tmp 3) = .int .i64 n := (hf 3).2 rfl rfl
        exact Exec.kmove rfl rfl h3
      · -- 5: slot 12 := Op.slice 23 t10 none (some t11) none
        refine StepOK.guarded (kn_stable _) 2 true 9 rfl rfl (fun ρ w _ _ hf => (hf 9).1 rfl) fun ρ w hρ hw hf => ?_
        have h10 : ρ (.tmp 10) = (.slice (some ⟨g, off, none⟩) (n + 4) cap) := (hf 10).1 rfl
        have h11 : ρ (.tmp 11) = (.int .i64 n) := (hf 11).1 rfl
        exact Exec.kcut_h rfl rfl Try.underlying22 HI.out HSZ.out h10 h11 HN.out rfl
      · -- 6: slot 13 := Op.buildSlice 22 1 #[(0, t12)]
        refine StepOK.guarded (kn_stable _) 2 true 9 rfl rfl (fun ρ w _ _ hf => (hf 9).1 rfl) fun ρ w hρ hw hf => ?_
        have h12 : ρ (.tmp 12) = (.slice (some ⟨g, off, none⟩) n cap) := (hf 12).1 rfl
        exact Exec.klist_one rfl rfl Try.underlying125 HI2.out HZ2.out HSZ2.out h12 (parts_one (RD12.out.ext hw) _)
      · -- 7: slot 14 := Op.call { value (Operand.func 12), args := #[t13], argTypes := #[22] }
        refine StepOK.guarded (kn_stable _) 2 true 9 rfl rfl (fun ρ w _ _ hf => (hf 9).1 rfl) fun ρ w hρ hw hf => ?_
        have h13 : (Kn.parts [bs.take n]).holds (ρ (.tmp 13)) w := (hf 13).1 rfl
        refine Exec.kcall #[ρ (.tmp 13)] hρ rfl rfl (by simp) Try.func97 (by rfl) rfl ?_
        refine (of_any _ _ _ h13).mono ?_
        rintro e w' ⟨rfl, hx⟩
        exact ⟨_, rfl, by rw [HS.out]; rfl, hx⟩
      · -- 8: slot 15 := Op.call { value (Operand.func 16), args := #[t14, const (Value.slice n
        refine StepOK.guarded (kn_stable _) 2 true 9 rfl rfl (fun ρ w _ _ hf => (hf 9).1 rfl) fun ρ w hρ hw hf => ?_
        have h14 : ρ (.tmp 14) = (.int .u32 (s : Nat)) := (hf 14).1 rfl
        refine Exec.kcall #[.int .u32 (s : Nat), .slice none 0 0] hρ rfl rfl (by simp [hρ.const, h14]) Try.func98 (by rfl) rfl ?_
        refine (put_any s _ [] w HSL.out (rd_nil w) (by simp)).mono ?_
        intro e w' hm
        obtain ⟨q, rfl, hx, hr⟩ := hm.rd
        exact ⟨_, rfl, hr, hx⟩
      · -- 9: slot 16 := Op.move t0
        refine StepOK.guarded (kn_stable _) 2 true 9 rfl rfl (fun ρ w _ _ hf => (hf 9).1 rfl) fun ρ w hρ hw hf => ?_
        have h0 : ρ (.tmp 0) = .slice (some ⟨g, off, none⟩) (n + 4) cap := (hf 0).2 rfl rfl
        exact Exec.kmove rfl rfl h0
      · -- 10: slot 17 := Op.move t3
        refine StepOK.guarded (kn_stable _) 2 true 9 rfl rfl (fun ρ w _ _ hf => (hf 9).1 rfl) fun ρ w hρ hw hf => ?_
        have h3 : ρ (.tmp 3) = .int .i64 n := (hf 3).2 rfl rfl
        exact Exec.kmove rfl rfl h3
      · -- 11: slot 18 := Op.slice 23 t16 (some t17) none none
        refine StepOK.guarded (kn_stable _) 2 true 9 rfl rfl (fun ρ w _ _ hf => (hf 9).1 rfl) fun ρ w hρ hw hf => ?_
        have h16 : ρ (.tmp 16) = (.slice (some ⟨g, off, none⟩) (n + 4) cap) := (hf 16).1 rfl
        have h17 : ρ (.tmp 17) = (.int .i64 n) := (hf 17).1 rfl
        exact Exec.kcut_l rfl rfl Try.underlying22 HI.out HSZ.out h16 h17 (by omega) HC.out (by rw [show n + 4 - n = 4 from by omega]; exact rfl)
      · -- 12: slot 19 := Op.call { value (Operand.func 32), args := #[t15, t18], argTypes := #[
        refine StepOK.guarded (kn_stable _) 2 true 9 rfl rfl (fun ρ w _ _ hf => (hf 9).1 rfl) fun ρ w hρ hw hf => ?_
        have h15 : (Kn.rd (le4 s)).holds (ρ (.tmp 15)) w := (hf 15).1 rfl
        have h18 : ρ (.tmp 18) = (.slice (some ⟨g, off + n, none⟩) 4 (cap - n)) := (hf 18).1 rfl
        refine Exec.kcall #[ρ (.tmp 15), .slice (some ⟨g, off + n, none⟩) 4 (cap - n)] hρ rfl rfl (by simp [h18]) Try.func96 (by rfl) rfl ?_
        refine (equal_any _ _ _ _ w h15 (RD18.out.ext hw)).mono ?_
        rintro e w' ⟨rfl, hx⟩
        exact ⟨_, rfl, by rw [HZ.out]; rfl, hx⟩
      · -- 13: slot 20 := Op.pick t9 t19 (const (Value.bool false))
        refine StepOK.plain (kn_stable _) rfl fun ρ w hρ hw hf => ?_
        have h9 : ρ (.tmp 9) = (.bool true) := (hf 9).1 rfl
        have h19 : ρ (.tmp 19) = (.bool z) := (hf 19).1 rfl
        exact Exec.kpickT rfl rfl h9 h19
      · -- 14: slot 2 := Op.assign t20
        refine StepOK.plain (kn_stable _) rfl fun ρ w hρ hw hf => ?_
        have h20 : ρ (.tmp 20) = (.bool z) := (hf 20).1 rfl
        exact Exec.kassign rfl rfl h20

    case fin =>
      intro ν w2 hfin hext
      have h0 : ν 2 = .bool z := hfin 14 2 rfl
      simp only [Exit.then, ended, List.foldl_cons, List.foldl_nil, List.setIfInBounds_toArray, List.set_cons_succ, List.set_cons_zero, h0]
      have HX := Lib.hid hext; clear hext hfin h0
      go_wp2
      go_ret
      exact ⟨rfl, HX.out⟩
  · have hsg : crcSigned bs = false := by unfold crcSigned; rw [decide_eq_false h4]; rfl
    rw [hsg]
    generalize bs.length = n at *
    have hd : decide (0 ≤ (n : Int) - 4) = false := decide_eq_false (by omega)
    have hd2 : decide (4 ≤ (n : Int)) = false := decide_eq_false (by omega)
    have hneg : (n : Int) < 4 := by omega
    clear h hsg hi hz hs hby hi2 hz2 hs2 hby2
    go_enter Try.func76, Try.ntmps76
    go_wp2
    go_quiet (fail)
    go_wp2
    go_ret
    exact ⟨rfl, Ext.drewN _ _⟩
end Go.Proofs.Ytoggnmfjkbnopaa
