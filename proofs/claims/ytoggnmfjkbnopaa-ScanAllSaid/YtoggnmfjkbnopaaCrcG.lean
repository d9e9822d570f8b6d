/-
  The reference: are bytes signed?
-/
import Derived.Test.YtoggnmfjkbnopaaProg
import Derived.Test.YtoggnmfjkbnopaaLib
import Derived.Test.YtoggnmfjkbnopaaLibB
import Derived.Test.YtoggnmfjkbnopaaInfo
import Derived.Test.YtoggnmfjkbnopaaCrcD
import Derived.Test.YtoggnmfjkbnopaaCrcF
import Derived.WalkKit
import Derived.Lib.Hide
import Derived.Deep.QuietTactic
import Derived.BigQuiet
namespace Go.Proofs.Ytoggnmfjkbnopaa
open Go.RowKit Go.Lac

def refSignedT (g off cap n : Nat) (bs : List UInt8) (z : Bool) : Tmp → Kn
  | 3 => .is (.slice (some ⟨g, off, none⟩) (n + 4) cap)
  | 4 => .is (.int .i64 ((n : Int) + 4))
  | 5 => .is (.bool true)
  | 6 => .is (.bool true)
  | 7 => .is (.slice (some ⟨g, off, none⟩) (n + 4) cap)
  | 8 => .is (.slice (some ⟨g, off, none⟩) (n + 4) cap)
  | 9 => .is (.int .i64 ((n : Int) + 4))
  | 10 => .is (.int .i64 n)
  | 11 => .is (.slice (some ⟨g, off, none⟩) n cap)
  | 12 => .rd (crcSign (bs.take n))
  | 13 => .is (strV (crcSign (bs.take n)))
  | 14 => .is (.slice (some ⟨g, off, none⟩) (n + 4) cap)
  | 15 => .is (strV bs)
  | 16 => .is (.bool z)
  | 17 => .is (.bool z)
  | 2 => .is (.bool z)
  | _ => .any

set_option maxRecDepth 20000 in
set_option maxHeartbeats 2000000 in
theorem refSigned_any (v : Value) (bs : List UInt8) (w : World) (h : Rd w v bs) (hl : bs.length ≤ 1000000) :
    Calls Try.prog 78 #[v] w fun e w' => e = .returned (.bool (crcSigned bs)) ∧ Ext w w' := by
  obtain ⟨i, hi, hz, hs, hby⟩ := info_parts infoU8
  obtain ⟨ao, cap, rfl⟩ := h.shape
  have hlen : bs.length ≤ maxLen := by obtain ⟨_, _, _, g1, g2, _⟩ := h; omega
  unfold maxLen at hlen
  by_cases h4 : 4 ≤ bs.length
  · obtain ⟨g, off, rfl, g1, g2, g3⟩ := bytes_cell h rfl (by omega)
    obtain ⟨n, hn⟩ : ∃ n, bs.length = n + 4 := ⟨bs.length - 4, by omega⟩
    have hsg : crcSigned bs = decide (crcSign (bs.take n) = bs) := by
      unfold crcSigned
      rw [decide_eq_true h4, Bool.true_and, show bs.length - 4 = n by omega]
    have rd12 := h.take n (by omega)
    rw [hsg, hn]
    have RD12 := Lib.hid rd12
    have HI := Lib.hid hi; have HSZ := Lib.hid hs
    have HN : Hid (n ≤ cap) := Lib.hid (by omega)
    have HB : Hid (n + 4 ≤ 9223372036854775807) := Lib.hid (by omega)
    have HL : Hid ((bs.take n).length ≤ 1000000) := Lib.hid (by rw [List.length_take]; omega)
    have H := Lib.hid h
    rw [hn] at H
    obtain ⟨z, hz0⟩ : ∃ z, z = decide (crcSign (bs.take n) = bs) := ⟨_, rfl⟩
    have HZ := Lib.hid hz0.symm
    rw [← hz0]
    clear h hlen h4 g1 g2 g3 hsg rd12 hi hz hs hby hz0 hl hn
    go_enter Try.func78, Try.ntmps78
    go_wp2
    refine wp_region_ext (refSignedT g off cap n bs z) mixedEq (by rfl) (by rfl) ?all ?fin
    case all =>
      refine ⟨?_, ?_, ?_, ?_, ?_, ?_, ?_, ?_, ?_, ?_, ?_, ?_, ?_, ?_, ?_, ?_, trivial⟩
      · -- 0: slot 3 := Op.move t0
        refine StepOK.plain (kn_stable _) rfl fun ρ w hρ hw hf => ?_
        have h0 : ρ (.tmp 0) = .slice (some ⟨g, off, none⟩) (n + 4) cap := (hf 0).2 rfl rfl
        exact Exec.kmove rfl rfl h0
      · -- 1: slot 4 := Op.call { builtin len, args := #[t3], argTypes := #[23] }
        refine StepOK.plain (kn_stable _) rfl fun ρ w hρ hw hf => ?_
        have h3 : ρ (.tmp 3) = (.slice (some ⟨g, off, none⟩) (n + 4) cap) := (hf 3).1 rfl
        exact Exec.same (v := (.int .i64 ((n : Int) + 4))) rfl (by simp [go_sem, hρ.const, h3]) rfl
      · -- 2: slot 5 := Op.binOp BinOp.geq 3 t4 (const (4:i64)) 3
        refine StepOK.plain (kn_stable _) rfl fun ρ w hρ hw hf => ?_
        have h4 : ρ (.tmp 4) = (.int .i64 ((n : Int) + 4)) := (hf 4).1 rfl
        have h44 : (4 : Int) ≤ (n : Int) + 4 := by omega
        exact Exec.same (v := (.bool true)) rfl (by simp [go_sem, hρ.const, h4, h44]) rfl
      · -- 3: slot 6 := Op.move t5
        refine StepOK.plain (kn_stable _) rfl fun ρ w hρ hw hf => ?_
        have h5 : ρ (.tmp 5) = (.bool true) := (hf 5).1 rfl
        exact Exec.kmove rfl rfl h5
      · -- 4: slot 7 := Op.move t0
        refine StepOK.guarded (kn_stable _) 3 true 6 rfl rfl (fun ρ w _ _ hf => (hf 6).1 rfl) fun ρ w hρ hw hf => ?_
        have h0 : ρ (.tmp 0) = .slice (some ⟨g, off, none⟩) (n + 4) cap := (hf 0).2 rfl rfl
        exact Exec.kmove rfl rfl h0
      · -- 5: slot 8 := Op.move t0
        refine StepOK.guarded (kn_stable _) 3 true 6 rfl rfl (fun ρ w _ _ hf => (hf 6).1 rfl) fun ρ w hρ hw hf => ?_
        have h0 : ρ (.tmp 0) = .slice (some ⟨g, off, none⟩) (n + 4) cap := (hf 0).2 rfl rfl
        exact Exec.kmove rfl rfl h0
      · -- 6: slot 9 := Op.call { builtin len, args := #[t8], argTypes := #[23] }
        refine StepOK.guarded (kn_stable _) 3 true 6 rfl rfl (fun ρ w _ _ hf => (hf 6).1 rfl) fun ρ w hρ hw hf => ?_
        have h8 : ρ (.tmp 8) = (.slice (some ⟨g, off, none⟩) (n + 4) cap) := (hf 8).1 rfl
        exact Exec.same (v := (.int .i64 ((n : Int) + 4))) rfl (by simp [go_sem, hρ.const, h8]) rfl
      · -- 7: slot 10 := Op.binOp BinOp.sub 3 t9 (const (4:i64)) 3
        refine StepOK.guarded (kn_stable _) 3 true 6 rfl rfl (fun ρ w _ _ hf => (hf 6).1 rfl) fun ρ w hρ hw hf => ?_
        have h9 : ρ (.tmp 9) = (.int .i64 ((n : Int) + 4)) := (hf 9).1 rfl
        have hwp : IntKind.i64.wrap (n : Int) = n := by rw [IntKind.wrap_i64]; have := HB.out; omega
        exact Exec.same (v := .int .i64 n) rfl (by simp [go_sem, hρ.const, h9, hwp]) rfl
      · -- 8: slot 11 := Op.slice 23 t7 none (some t10) none
        refine StepOK.guarded (kn_stable _) 3 true 6 rfl rfl (fun ρ w _ _ hf => (hf 6).1 rfl) fun ρ w hρ hw hf => ?_
        have h7 : ρ (.tmp 7) = (.slice (some ⟨g, off, none⟩) (n + 4) cap) := (hf 7).1 rfl
        have h10 : ρ (.tmp 10) = (.int .i64 n) := (hf 10).1 rfl
        exact Exec.kcut_h rfl rfl Try.underlying22 HI.out HSZ.out h7 h10 HN.out rfl
      · -- 9: slot 12 := Op.call { value (Operand.func 18), args := #[t11], argTypes := #[23] }
        refine StepOK.guarded (kn_stable _) 3 true 6 rfl rfl (fun ρ w _ _ hf => (hf 6).1 rfl) fun ρ w hρ hw hf => ?_
        have h11 : ρ (.tmp 11) = (.slice (some ⟨g, off, none⟩) n cap) := (hf 11).1 rfl
        refine Exec.kcall #[.slice (some ⟨g, off, none⟩) n cap] hρ rfl rfl (by simp [h11]) Try.func45 (by rfl) rfl ?_
        refine (refSign_any _ _ w (RD12.out.ext hw) HL.out).mono ?_
        intro e w' hm
        obtain ⟨q, rfl, hx, hr⟩ := hm.rd
        exact ⟨_, rfl, hr, hx⟩
      · -- 10: slot 13 := Op.convert 23 9 t12
        refine StepOK.guarded (kn_stable _) 3 true 6 rfl rfl (fun ρ w _ _ hf => (hf 6).1 rfl) fun ρ w hρ hw hf => ?_
        have h12 : (Kn.rd (crcSign (bs.take n))).holds (ρ (.tmp 12)) w := (hf 12).1 rfl
        exact Exec.kstr rfl rfl Try.underlying22 Try.underlying5 Try.underlying9 h12 rfl
      · -- 11: slot 14 := Op.move t0
        refine StepOK.guarded (kn_stable _) 3 true 6 rfl rfl (fun ρ w _ _ hf => (hf 6).1 rfl) fun ρ w hρ hw hf => ?_
        have h0 : ρ (.tmp 0) = .slice (some ⟨g, off, none⟩) (n + 4) cap := (hf 0).2 rfl rfl
        exact Exec.kmove rfl rfl h0
      · -- 12: slot 15 := Op.convert 23 9 t14
        refine StepOK.guarded (kn_stable _) 3 true 6 rfl rfl (fun ρ w _ _ hf => (hf 6).1 rfl) fun ρ w hρ hw hf => ?_
        have h14 : ρ (.tmp 14) = (.slice (some ⟨g, off, none⟩) (n + 4) cap) := (hf 14).1 rfl
        exact Exec.kstr rfl rfl Try.underlying22 Try.underlying5 Try.underlying9 (by rw [h14]; exact H.out.ext hw) rfl
      · -- 13: slot 16 := Op.binOp BinOp.eql 9 t13 t15 9
        refine StepOK.guarded (kn_stable _) 3 true 6 rfl rfl (fun ρ w _ _ hf => (hf 6).1 rfl) fun ρ w hρ hw hf => ?_
        have h13 : ρ (.tmp 13) = (strV (crcSign (bs.take n))) := (hf 13).1 rfl
        have h15 : ρ (.tmp 15) = (strV bs) := (hf 15).1 rfl
        exact Exec.kstreq rfl rfl Try.underlying9 h13 h15 (by rw [HZ.out]; rfl)
      · -- 14: slot 17 := Op.pick t6 t16 (const (Value.bool false))
        refine StepOK.plain (kn_stable _) rfl fun ρ w hρ hw hf => ?_
        have h6 : ρ (.tmp 6) = (.bool true) := (hf 6).1 rfl
        have h16 : ρ (.tmp 16) = (.bool z) := (hf 16).1 rfl
        exact Exec.kpickT rfl rfl h6 h16
      · -- 15: slot 2 := Op.assign t17
        refine StepOK.plain (kn_stable _) rfl fun ρ w hρ hw hf => ?_
        have h17 : ρ (.tmp 17) = (.bool z) := (hf 17).1 rfl
        exact Exec.kassign rfl rfl h17

    case fin =>
      intro ν w2 hfin hext
      have h0 : ν 2 = .bool z := hfin 15 2 rfl
      simp only [Exit.then, ended, List.foldl_cons, List.foldl_nil, List.setIfInBounds_toArray, List.set_cons_succ, List.set_cons_zero, h0]
      have HX := Lib.hid hext; clear hext hfin h0
      go_wp2
      go_ret
      exact ⟨rfl, HX.out⟩
  · have hsg : crcSigned bs = false := by unfold crcSigned; rw [decide_eq_false h4]; rfl
    rw [hsg]
    generalize bs.length = n at *
    have hd2 : decide (4 ≤ (n : Int)) = false := decide_eq_false (by omega)
    have hneg : (n : Int) < 4 := by omega
    clear h hsg hi hz hs hby
    go_enter Try.func78, Try.ntmps78
    go_wp2
    go_quiet (fail)
    go_wp2
    go_ret
    exact ⟨rfl, Ext.drewN _ _⟩
end Go.Proofs.Ytoggnmfjkbnopaa
