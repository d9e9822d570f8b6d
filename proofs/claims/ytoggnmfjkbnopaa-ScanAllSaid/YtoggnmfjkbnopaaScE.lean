/-
  same: the walk (where it is true). MADE BY mkScE.py
-/
import Derived.Test.YtoggnmfjkbnopaaScD
import Derived.Test.YtoggnmfjkbnopaaFrB
import Derived.Test.YtoggnmfjkbnopaaFrC
import Derived.Deep.MidRow
namespace Go.Proofs.Ytoggnmfjkbnopaa
open Go.RowKit Go.Lac

theorem fld50_0 (w : World) (b o : Nat) : (Instr.fieldAt 50 (.pointer (some ⟨b, o, none⟩)) 0).run Try.prog w = .ok (.pointer (some ⟨b, o, none⟩)) w := by kernel_rfl
theorem fld50_1 (w : World) (b o : Nat) : (Instr.fieldAt 50 (.pointer (some ⟨b, o, none⟩)) 1).run Try.prog w = .ok (.pointer (some ⟨b, o + 3, none⟩)) w := by kernel_rfl
theorem fld50_2 (w : World) (b o : Nat) : (Instr.fieldAt 50 (.pointer (some ⟨b, o, none⟩)) 2).run Try.prog w = .ok (.pointer (some ⟨b, o + 4, none⟩)) w := by kernel_rfl
theorem fld89_0 (w : World) (b o : Nat) : (Instr.fieldAt 89 (.pointer (some ⟨b, o, none⟩)) 0).run Try.prog w = .ok (.pointer (some ⟨b, o, none⟩)) w := by kernel_rfl
theorem fld89_1 (w : World) (b o : Nat) : (Instr.fieldAt 89 (.pointer (some ⟨b, o, none⟩)) 1).run Try.prog w = .ok (.pointer (some ⟨b, o + 3, none⟩)) w := by kernel_rfl
theorem fld89_2 (w : World) (b o : Nat) : (Instr.fieldAt 89 (.pointer (some ⟨b, o, none⟩)) 2).run Try.prog w = .ok (.pointer (some ⟨b, o + 4, none⟩)) w := by kernel_rfl
theorem infoFr4 : (Try.prog.info? 44).map (·.size) = some 3 := by kernel_rfl

theorem wrap64_small (j : Nat) (h : j < 9223372036854775807) : wrap64 ((j : Int) + 1) = (j : Int) + 1 := by unfold wrap64; omega
theorem rel_step (n j : Nat) (h : j < n) (h63 : n ≤ 9223372036854775807) : Value.int .i64 (wrap64 ((j : Int) + 1)) = .int .i64 ((j + 1 : Nat) : Int) := by
  rw [wrap64_small j (by omega)]; rfl
theorem meas_step (n j : Nat) (h : j < n) (h63 : n ≤ 9223372036854775807) : n - (intOf (.int .i64 (wrap64 ((j : Int) + 1)))).toNat < n - (intOf (.int .i64 (j : Int))).toNat := by
  rw [wrap64_small j (by omega)]
  simp only [intOf]
  omega
/-- A slice of what is found. -/
def FdS (w : World) (ak : IntKind) (v : Value) (l : List Fnd) : Prop := ∃ cs, Sl w v l.length cs ∧ FdC w ak (fun _ => True) cs l
theorem FdC.ext {w w' : World} {ak : IntKind} {N : Nat → Prop} {l : List Fnd} {cs : List Value} (h : FdC w ak N cs l) (k : Ext w w') : FdC w' ak N cs l := (h.keep k fun _ _ _ f => f).mono fun _ _ h => h.2
theorem FdS.ext {w w' : World} {ak : IntKind} {v : Value} {l : List Fnd} (h : FdS w ak v l) (k : Ext w w') : FdS w' ak v l := by
  obtain ⟨cs, h1, h2⟩ := h
  exact ⟨cs, h1.ext k, h2.ext k⟩
theorem FdL.toS {w : World} {base B : Nat} {E : TypeId} {ak : IntKind} {v : Value} {l : List Fnd} (h : FdL w base B E ak v l) : FdS w ak v l := by
  obtain ⟨cs, h1, h2⟩ := h
  exact ⟨cs, Sl.ofOwns h1, h2.mono fun _ _ _ => trivial⟩
theorem FdS.shape {w : World} {ak : IntKind} {v : Value} {l : List Fnd} (h : FdS w ak v l) : ∃ ao cap, v = .slice ao l.length cap := by
  obtain ⟨cs, ⟨ao, cap, h1, _⟩, _⟩ := h
  exact ⟨ao, cap, h1⟩
/-- The j-th, cell by cell. -/
theorem FdS.at' {w : World} {ak : IntKind} {ao : Option Addr} {n cap : Nat} {l : List Fnd} (h : FdS w ak (.slice ao n cap) l) {j : Nat} (hj : j < l.length) :
    ∃ b o ta tc, ao = some ⟨b, o, none⟩ ∧ w.rangeAt b (o + j * 5) [.int .u8 (l[j].v : Nat), .int .u8 (l[j].k : Nat), .slice ta l[j].p.length tc] ∧ w.cell? ⟨b, o + j * 5 + 3, none⟩ = some (.int ak (l[j].at' : Nat)) ∧ w.cell? ⟨b, o + j * 5 + 4, none⟩ = some (.int .i64 (l[j].size : Nat)) ∧
      Rd w (.slice ta l[j].p.length tc) l[j].p := by
  obtain ⟨cs, ⟨ao', cap', e, gc1, gc2, gc3, g5⟩, h2⟩ := h
  cases e
  obtain ⟨t, k0, k1, k2, k3, k4, hr⟩ := h2.get (List.getElem?_eq_getElem hj)
  obtain ⟨ta, tc, rfl⟩ := hr.shape
  cases ao with
  | none =>
    exfalso
    have := gc3 rfl
    omega
  | some x =>
    obtain ⟨b, o, rfl, c0⟩ := g5 x rfl _ _ k0
    have gg : ∀ (q : Nat) (u : Value), cs[q]? = some u → w.cell? ⟨b, o + q, none⟩ = some u := fun q u hq => by
      obtain ⟨b', o', e, c⟩ := g5 ⟨b, o, none⟩ rfl q u hq
      cases e
      exact c
    refine ⟨b, o, ta, tc, rfl, ?_, ?_, ?_, hr⟩
    · intro q u hq
      rw [show o + j * 5 + q = o + (5 * j + q) by omega]
      match q, hq with
      | 0, hq => cases hq; exact gg _ _ k0
      | 1, hq => cases hq; exact gg _ _ k1
      | 2, hq => cases hq; exact gg _ _ k2
      | _ + 3, hq => simp at hq
    · rw [show o + j * 5 + 3 = o + (5 * j + 3) by omega]; exact gg _ _ k3
    · rw [show o + j * 5 + 4 = o + (5 * j + 4) by omega]; exact gg _ _ k4

def same5T (b1 o1 n1 k1 b2 o2 n2 k2 j x y pl at' sz : Nat) (a1 : Option Addr) (c1 : Nat) (a2 : Option Addr) (c2 : Nat) : Tmp → Kn
  | 17 => .is (.slice (some ⟨b1, o1, none⟩) n1 k1)
  | 18 => .is (.int .i64 (j : Nat))
  | 19 => .is (.pointer (some ⟨b1, o1 + j * 5, none⟩))
  | 20 => .is (.pointer (some ⟨b1, o1 + j * 5, none⟩))
  | 21 => .is (.agg #[.int .u8 (x : Nat), .int .u8 (y : Nat), .slice a1 pl c1])
  | 22 => .is (.agg #[.int .u8 (x : Nat), .int .u8 (y : Nat), .slice a1 pl c1])
  | 23 => .is (.slice (some ⟨b2, o2, none⟩) n2 k2)
  | 24 => .is (.int .i64 (j : Nat))
  | 25 => .is (.pointer (some ⟨b2, o2 + j * 5, none⟩))
  | 26 => .is (.pointer (some ⟨b2, o2 + j * 5, none⟩))
  | 27 => .is (.agg #[.int .u8 (x : Nat), .int .u8 (y : Nat), .slice a2 pl c2])
  | 28 => .is (.bool true)
  | 29 => .is (.bool false)
  | 30 => .is (.bool false)
  | 31 => .is (.slice (some ⟨b1, o1, none⟩) n1 k1)
  | 32 => .is (.int .i64 (j : Nat))
  | 33 => .is (.pointer (some ⟨b1, o1 + j * 5, none⟩))
  | 34 => .is (.pointer (some ⟨b1, o1 + j * 5 + 3, none⟩))
  | 35 => .is (.int .u64 (at' : Nat))
  | 36 => .is (.slice (some ⟨b2, o2, none⟩) n2 k2)
  | 37 => .is (.int .i64 (j : Nat))
  | 38 => .is (.pointer (some ⟨b2, o2 + j * 5, none⟩))
  | 39 => .is (.pointer (some ⟨b2, o2 + j * 5 + 3, none⟩))
  | 40 => .is (.int .i64 (at' : Nat))
  | 41 => .is (.int .u64 (at' : Nat))
  | 42 => .is (.bool false)
  | 43 => .is (.bool false)
  | 44 => .is (.bool false)
  | 45 => .is (.slice (some ⟨b1, o1, none⟩) n1 k1)
  | 46 => .is (.int .i64 (j : Nat))
  | 47 => .is (.pointer (some ⟨b1, o1 + j * 5, none⟩))
  | 48 => .is (.pointer (some ⟨b1, o1 + j * 5 + 4, none⟩))
  | 49 => .is (.int .i64 (sz : Nat))
  | 50 => .is (.slice (some ⟨b2, o2, none⟩) n2 k2)
  | 51 => .is (.int .i64 (j : Nat))
  | 52 => .is (.pointer (some ⟨b2, o2 + j * 5, none⟩))
  | 53 => .is (.pointer (some ⟨b2, o2 + j * 5 + 4, none⟩))
  | 54 => .is (.int .i64 (sz : Nat))
  | 55 => .is (.bool false)
  | 56 => .is (.bool false)
  | _ => .any

set_option maxRecDepth 20000 in
set_option maxHeartbeats 4000000 in
theorem same_true (w : World) (v1 v2 : Value) (l : List Fnd) (h1 : FdS w .u64 v1 l) (h2 : FdS w .i64 v2 l) (hb : ∀ f ∈ l, f.at' ≤ 1000000000) :
    Calls Try.prog 19 #[v1, v2] w fun e w' => e = .returned (.bool true) ∧ Ext w w' := by
  obtain ⟨q1, k1, rfl⟩ := h1.shape
  obtain ⟨q2, k2, rfl⟩ := h2.shape
  obtain ⟨fi, fhi, fhz, fhsz, fhby⟩ := info_parts infoFound
  obtain ⟨gi, ghi, ghz, ghsz, ghby⟩ := info_parts infoFound5
  obtain ⟨n, hn⟩ : ∃ n, n = l.length := ⟨_, rfl⟩
  rw [← hn] at h1 h2 ⊢
  have H1 := Lib.hid h1; have H2 := Lib.hid h2; have HB := Lib.hid hb; have HNL := Lib.hid hn
  have FHI := Lib.hid fhi; have FHSZ := Lib.hid fhsz; have GHI := Lib.hid ghi; have GHSZ := Lib.hid ghsz
  have H63 : Hid (n ≤ 9223372036854775807) := Lib.hid (by obtain ⟨cs, ⟨ao, cap, e, g1, g2, _⟩, _⟩ := h1; unfold maxLen at g2; omega)
  clear h1 h2 hb fhi fhz fhsz fhby ghi ghz ghsz ghby hn
  go_enter Try.func19, Try.ntmps19
  go_wp2
  go_loopw [5] (fun ix wr => ∃ k : Nat, k ≤ n ∧ ix = .int .i64 (k : Nat) ∧ Ext w wr) (fun ix _ => n - (intOf ix).toNat)
  case atStart => exact ⟨0, Nat.zero_le _, rfl, Ch.refl _ _⟩
  case round =>
    obtain ⟨j, hj, rfl, hext⟩ := hrel
    have HEXT := Lib.hid hext; clear hext
    by_cases hlt : j < n
    · have hjl : j < l.length := by have := HNL.out; omega
      obtain ⟨b1, o1, a1, c1, rfl, m1, p3, p4, r1⟩ := (H1.out.ext HEXT.out).at' hjl
      obtain ⟨b2, o2, a2, c2, rfl, m2, s3, s4, r2⟩ := (H2.out.ext HEXT.out).at' hjl
      have hbd := HB.out _ (List.getElem_mem hjl)
      generalize l[j].v = x at *
      generalize l[j].k = y at *
      generalize hp : l[j].p = p at *
      generalize l[j].at' = at' at *
      generalize l[j].size = sz at *
      have HW : Hid (IntKind.u64.wrap (at' : Int) = (at' : Int)) := Lib.hid (wrap_u64_of (by omega) (by omega))
      have HM1 := Lib.hid m1; have HA3 := Lib.hid p3; have HA4 := Lib.hid p4; have HR1 := Lib.hid r1
      have HM2 := Lib.hid m2; have HB3 := Lib.hid s3; have HB4 := Lib.hid s4; have HR2 := Lib.hid r2
      have HN1 : Hid (j < n) := Lib.hid hlt
      have HN2 : Hid (j < n) := Lib.hid hlt
      have hd1 : decide ((j : Int) < (n : Int)) = true := decide_eq_true (by omega)
      clear m1 p3 p4 r1 m2 s3 s4 r2 hbd hjl hp
      have HJN := Lib.hid hj
      clear hj
      go_wp2
      refine wp_region_ext (same5T b1 o1 n k1 b2 o2 n k2 j x y p.length at' sz a1 c1 a2 c2) mixedS (by rfl) (by rfl) ?all ?fin
      case all =>
        refine ⟨?_, ?_, ?_, ?_, ?_, ?_, ?_, ?_, ?_, ?_, ?_, ?_, ?_, ?_, ?_, ?_, ?_, ?_, ?_, ?_, ?_, ?_, ?_, ?_, ?_, ?_, ?_, ?_, ?_, ?_, ?_, ?_, ?_, ?_, ?_, ?_, ?_, ?_, ?_, ?_, trivial⟩
        · -- 0: slot 17 := Op.move t0
          refine StepOK.plain (kn_stable _) rfl fun ρ w hρ hw hf => ?_
          have h0 : ρ (.tmp 0) = (.slice (some ⟨b1, o1, none⟩) n k1) := (hf 0).2 rfl rfl
          exact Exec.kmove rfl rfl h0
        · -- 1: slot 18 := Op.move t5
          refine StepOK.plain (kn_stable _) rfl fun ρ w hρ hw hf => ?_
          have h5 : ρ (.tmp 5) = (.int .i64 (j : Nat)) := (hf 5).2 rfl rfl
          exact Exec.kmove rfl rfl h5
        · -- 2: slot 19 := Op.indexAddr 27 t17 t18
          refine StepOK.plain (kn_stable _) rfl fun ρ w hρ hw hf => ?_
          have h17 : ρ (.tmp 17) = (.slice (some ⟨b1, o1, none⟩) n k1) := (hf 17).1 rfl
          have h18 : ρ (.tmp 18) = (.int .i64 (j : Nat)) := (hf 18).1 rfl
          exact Exec.kindex rfl rfl Try.underlying27 FHI.out FHSZ.out h17 h18 HN1.out rfl
        · -- 3: slot 20 := Op.fieldAddr 50 t19 0
          refine StepOK.plain (kn_stable _) rfl fun ρ w hρ hw hf => ?_
          have h19 : ρ (.tmp 19) = (.pointer (some ⟨b1, o1 + j * 5, none⟩)) := (hf 19).1 rfl
          exact Exec.kfield rfl rfl h19 (fld50_0 w _ _) rfl
        · -- 4: slot 21 := Op.load 48 t20
          refine StepOK.plain (kn_stable _) rfl fun ρ w hρ hw hf => ?_
          have h20 : ρ (.tmp 20) = (.pointer (some ⟨b1, o1 + j * 5, none⟩)) := (hf 20).1 rfl
          have hm : w.rangeAt _ _ [.int .u8 (x : Nat), .int .u8 (y : Nat), .slice a1 p.length c1] := fun j v hj => hw.cell (fun f => f) _ (HM1.out j v hj)
          exact Exec.same (v := .agg #[.int .u8 (x : Nat), .int .u8 (y : Nat), .slice a1 p.length c1]) rfl (by unfold execOp; simp only [h20, Sem.run_bind, run_loadAt_mid w _ _ 48 _ _ hm Try.underlying48 rfl infoFr, Result.andThen_ok, Sem.run_pure]) rfl
        · -- 5: slot 22 := Op.call { value (Operand.func 44), args := #[t21], argTypes := #[48] }
          refine StepOK.plain (kn_stable _) rfl fun ρ w hρ hw hf => ?_
          have h21 : ρ (.tmp 21) = (.agg #[.int .u8 (x : Nat), .int .u8 (y : Nat), .slice a1 p.length c1]) := (hf 21).1 rfl
          refine Exec.kcall #[.agg #[.int .u8 (x : Nat), .int .u8 (y : Nat), .slice a1 p.length c1]] hρ rfl rfl (by simp [hρ.const, h21]) Try.func44 (by rfl) rfl ?_
          refine (back_any _ _ _ _ _ w).mono ?_
          rintro e w' ⟨rfl, hx⟩
          exact ⟨_, rfl, rfl, hx⟩
        · -- 6: slot 23 := Op.move t1
          refine StepOK.plain (kn_stable _) rfl fun ρ w hρ hw hf => ?_
          have h1 : ρ (.tmp 1) = (.slice (some ⟨b2, o2, none⟩) n k2) := (hf 1).2 rfl rfl
          exact Exec.kmove rfl rfl h1
        · -- 7: slot 24 := Op.move t5
          refine StepOK.plain (kn_stable _) rfl fun ρ w hρ hw hf => ?_
          have h5 : ρ (.tmp 5) = (.int .i64 (j : Nat)) := (hf 5).2 rfl rfl
          exact Exec.kmove rfl rfl h5
        · -- 8: slot 25 := Op.indexAddr 33 t23 t24
          refine StepOK.plain (kn_stable _) rfl fun ρ w hρ hw hf => ?_
          have h23 : ρ (.tmp 23) = (.slice (some ⟨b2, o2, none⟩) n k2) := (hf 23).1 rfl
          have h24 : ρ (.tmp 24) = (.int .i64 (j : Nat)) := (hf 24).1 rfl
          exact Exec.kindex rfl rfl Try.underlying33 GHI.out GHSZ.out h23 h24 HN2.out rfl
        · -- 9: slot 26 := Op.fieldAddr 89 t25 0
          refine StepOK.plain (kn_stable _) rfl fun ρ w hρ hw hf => ?_
          have h25 : ρ (.tmp 25) = (.pointer (some ⟨b2, o2 + j * 5, none⟩)) := (hf 25).1 rfl
          exact Exec.kfield rfl rfl h25 (fld89_0 w _ _) rfl
        · -- 10: slot 27 := Op.load 44 t26
          refine StepOK.plain (kn_stable _) rfl fun ρ w hρ hw hf => ?_
          have h26 : ρ (.tmp 26) = (.pointer (some ⟨b2, o2 + j * 5, none⟩)) := (hf 26).1 rfl
          have hm : w.rangeAt _ _ [.int .u8 (x : Nat), .int .u8 (y : Nat), .slice a2 p.length c2] := fun j v hj => hw.cell (fun f => f) _ (HM2.out j v hj)
          exact Exec.same (v := .agg #[.int .u8 (x : Nat), .int .u8 (y : Nat), .slice a2 p.length c2]) rfl (by unfold execOp; simp only [h26, Sem.run_bind, run_loadAt_mid w _ _ 44 _ _ hm Try.underlying44 rfl infoFr4, Result.andThen_ok, Sem.run_pure]) rfl
        · -- 11: slot 28 := Op.call { value (Operand.func 43), args := #[t22, t27], argTypes := #[
          refine StepOK.plain (kn_stable _) rfl fun ρ w hρ hw hf => ?_
          have h22 : ρ (.tmp 22) = (.agg #[.int .u8 (x : Nat), .int .u8 (y : Nat), .slice a1 p.length c1]) := (hf 22).1 rfl
          have h27 : ρ (.tmp 27) = (.agg #[.int .u8 (x : Nat), .int .u8 (y : Nat), .slice a2 p.length c2]) := (hf 27).1 rfl
          refine Exec.kcall #[.agg #[.int .u8 (x : Nat), .int .u8 (y : Nat), .slice a1 p.length c1], .agg #[.int .u8 (x : Nat), .int .u8 (y : Nat), .slice a2 p.length c2]] hρ rfl rfl (by simp [hρ.const, h22, h27]) Try.func43 (by rfl) rfl ?_
          refine (same4_any _ _ _ _ _ _ _ _ w (HR1.out.ext hw) (HR2.out.ext hw)).mono ?_
          rintro e w' ⟨rfl, hx⟩
          exact ⟨_, rfl, by simp; exact rfl, hx⟩
        · -- 12: slot 29 := Op.unOp UnOp.not 4 t28
          refine StepOK.plain (kn_stable _) rfl fun ρ w hρ hw hf => ?_
          have h28 : ρ (.tmp 28) = (.bool true) := (hf 28).1 rfl
          exact Exec.same (v := .bool false) rfl (by simp [go_sem, hρ.const, h28]) rfl
        · -- 13: slot 30 := Op.move t29
          refine StepOK.plain (kn_stable _) rfl fun ρ w hρ hw hf => ?_
          have h29 : ρ (.tmp 29) = (.bool false) := (hf 29).1 rfl
          exact Exec.kmove rfl rfl h29
        · -- 14: slot 31 := Op.move t0
          refine StepOK.guarded (kn_stable _) 13 false 30 rfl rfl (fun ρ w _ _ hf => (hf 30).1 rfl) fun ρ w hρ hw hf => ?_
          have h0 : ρ (.tmp 0) = (.slice (some ⟨b1, o1, none⟩) n k1) := (hf 0).2 rfl rfl
          exact Exec.kmove rfl rfl h0
        · -- 15: slot 32 := Op.move t5
          refine StepOK.guarded (kn_stable _) 13 false 30 rfl rfl (fun ρ w _ _ hf => (hf 30).1 rfl) fun ρ w hρ hw hf => ?_
          have h5 : ρ (.tmp 5) = (.int .i64 (j : Nat)) := (hf 5).2 rfl rfl
          exact Exec.kmove rfl rfl h5
        · -- 16: slot 33 := Op.indexAddr 27 t31 t32
          refine StepOK.guarded (kn_stable _) 13 false 30 rfl rfl (fun ρ w _ _ hf => (hf 30).1 rfl) fun ρ w hρ hw hf => ?_
          have h31 : ρ (.tmp 31) = (.slice (some ⟨b1, o1, none⟩) n k1) := (hf 31).1 rfl
          have h32 : ρ (.tmp 32) = (.int .i64 (j : Nat)) := (hf 32).1 rfl
          exact Exec.kindex rfl rfl Try.underlying27 FHI.out FHSZ.out h31 h32 HN1.out rfl
        · -- 17: slot 34 := Op.fieldAddr 50 t33 1
          refine StepOK.guarded (kn_stable _) 13 false 30 rfl rfl (fun ρ w _ _ hf => (hf 30).1 rfl) fun ρ w hρ hw hf => ?_
          have h33 : ρ (.tmp 33) = (.pointer (some ⟨b1, o1 + j * 5, none⟩)) := (hf 33).1 rfl
          exact Exec.kfield rfl rfl h33 (fld50_1 w _ _) rfl
        · -- 18: slot 35 := Op.load 37 t34
          refine StepOK.guarded (kn_stable _) 13 false 30 rfl rfl (fun ρ w _ _ hf => (hf 30).1 rfl) fun ρ w hρ hw hf => ?_
          have h34 : ρ (.tmp 34) = (.pointer (some ⟨b1, o1 + j * 5 + 3, none⟩)) := (hf 34).1 rfl
          have hc := hw.cell (fun f => f) _ HA3.out
          exact Exec.same (v := .int .u64 (at' : Nat)) rfl (by simp [go_sem, hρ.const, h34, hc]) rfl
        · -- 19: slot 36 := Op.move t1
          refine StepOK.guarded (kn_stable _) 13 false 30 rfl rfl (fun ρ w _ _ hf => (hf 30).1 rfl) fun ρ w hρ hw hf => ?_
          have h1 : ρ (.tmp 1) = (.slice (some ⟨b2, o2, none⟩) n k2) := (hf 1).2 rfl rfl
          exact Exec.kmove rfl rfl h1
        · -- 20: slot 37 := Op.move t5
          refine StepOK.guarded (kn_stable _) 13 false 30 rfl rfl (fun ρ w _ _ hf => (hf 30).1 rfl) fun ρ w hρ hw hf => ?_
          have h5 : ρ (.tmp 5) = (.int .i64 (j : Nat)) := (hf 5).2 rfl rfl
          exact Exec.kmove rfl rfl h5
        · -- 21: slot 38 := Op.indexAddr 33 t36 t37
          refine StepOK.guarded (kn_stable _) 13 false 30 rfl rfl (fun ρ w _ _ hf => (hf 30).1 rfl) fun ρ w hρ hw hf => ?_
          have h36 : ρ (.tmp 36) = (.slice (some ⟨b2, o2, none⟩) n k2) := (hf 36).1 rfl
          have h37 : ρ (.tmp 37) = (.int .i64 (j : Nat)) := (hf 37).1 rfl
          exact Exec.kindex rfl rfl Try.underlying33 GHI.out GHSZ.out h36 h37 HN2.out rfl
        · -- 22: slot 39 := Op.fieldAddr 89 t38 1
          refine StepOK.guarded (kn_stable _) 13 false 30 rfl rfl (fun ρ w _ _ hf => (hf 30).1 rfl) fun ρ w hρ hw hf => ?_
          have h38 : ρ (.tmp 38) = (.pointer (some ⟨b2, o2 + j * 5, none⟩)) := (hf 38).1 rfl
          exact Exec.kfield rfl rfl h38 (fld89_1 w _ _) rfl
        · -- 23: slot 40 := Op.load 3 t39
          refine StepOK.guarded (kn_stable _) 13 false 30 rfl rfl (fun ρ w _ _ hf => (hf 30).1 rfl) fun ρ w hρ hw hf => ?_
          have h39 : ρ (.tmp 39) = (.pointer (some ⟨b2, o2 + j * 5 + 3, none⟩)) := (hf 39).1 rfl
          have hc := hw.cell (fun f => f) _ HB3.out
          exact Exec.same (v := .int .i64 (at' : Nat)) rfl (by simp [go_sem, hρ.const, h39, hc]) rfl
        · -- 24: slot 41 := Op.convert 3 37 t40
          refine StepOK.guarded (kn_stable _) 13 false 30 rfl rfl (fun ρ w _ _ hf => (hf 30).1 rfl) fun ρ w hρ hw hf => ?_
          have h40 : ρ (.tmp 40) = (.int .i64 (at' : Nat)) := (hf 40).1 rfl
          exact Exec.same (v := .int .u64 (at' : Nat)) rfl (by simp [go_sem, hρ.const, h40, HW.out]) rfl
        · -- 25: slot 42 := Op.binOp BinOp.neq 37 t35 t41 37
          refine StepOK.guarded (kn_stable _) 13 false 30 rfl rfl (fun ρ w _ _ hf => (hf 30).1 rfl) fun ρ w hρ hw hf => ?_
          have h35 : ρ (.tmp 35) = (.int .u64 (at' : Nat)) := (hf 35).1 rfl
          have h41 : ρ (.tmp 41) = (.int .u64 (at' : Nat)) := (hf 41).1 rfl
          exact Exec.same (v := .bool false) rfl (by simp [go_sem, hρ.const, h35, h41]) rfl
        · -- 26: slot 43 := Op.pick t30 (const (Value.bool true)) t42
          refine StepOK.plain (kn_stable _) rfl fun ρ w hρ hw hf => ?_
          have h30 : ρ (.tmp 30) = (.bool false) := (hf 30).1 rfl
          have h42 : ρ (.tmp 42) = (.bool false) := (hf 42).1 rfl
          exact Exec.kpickF rfl rfl h30 h42
        · -- 27: slot 44 := Op.move t43
          refine StepOK.plain (kn_stable _) rfl fun ρ w hρ hw hf => ?_
          have h43 : ρ (.tmp 43) = (.bool false) := (hf 43).1 rfl
          exact Exec.kmove rfl rfl h43
        · -- 28: slot 45 := Op.move t0
          refine StepOK.guarded (kn_stable _) 27 false 44 rfl rfl (fun ρ w _ _ hf => (hf 44).1 rfl) fun ρ w hρ hw hf => ?_
          have h0 : ρ (.tmp 0) = (.slice (some ⟨b1, o1, none⟩) n k1) := (hf 0).2 rfl rfl
          exact Exec.kmove rfl rfl h0
        · -- 29: slot 46 := Op.move t5
          refine StepOK.guarded (kn_stable _) 27 false 44 rfl rfl (fun ρ w _ _ hf => (hf 44).1 rfl) fun ρ w hρ hw hf => ?_
          have h5 : ρ (.tmp 5) = (.int .i64 (j : Nat)) := (hf 5).2 rfl rfl
          exact Exec.kmove rfl rfl h5
        · -- 30: slot 47 := Op.indexAddr 27 t45 t46
          refine StepOK.guarded (kn_stable _) 27 false 44 rfl rfl (fun ρ w _ _ hf => (hf 44).1 rfl) fun ρ w hρ hw hf => ?_
          have h45 : ρ (.tmp 45) = (.slice (some ⟨b1, o1, none⟩) n k1) := (hf 45).1 rfl
          have h46 : ρ (.tmp 46) = (.int .i64 (j : Nat)) := (hf 46).1 rfl
          exact Exec.kindex rfl rfl Try.underlying27 FHI.out FHSZ.out h45 h46 HN1.out rfl
        · -- 31: slot 48 := Op.fieldAddr 50 t47 2
          refine StepOK.guarded (kn_stable _) 27 false 44 rfl rfl (fun ρ w _ _ hf => (hf 44).1 rfl) fun ρ w hρ hw hf => ?_
          have h47 : ρ (.tmp 47) = (.pointer (some ⟨b1, o1 + j * 5, none⟩)) := (hf 47).1 rfl
          exact Exec.kfield rfl rfl h47 (fld50_2 w _ _) rfl
        · -- 32: slot 49 := Op.load 3 t48
          refine StepOK.guarded (kn_stable _) 27 false 44 rfl rfl (fun ρ w _ _ hf => (hf 44).1 rfl) fun ρ w hρ hw hf => ?_
          have h48 : ρ (.tmp 48) = (.pointer (some ⟨b1, o1 + j * 5 + 4, none⟩)) := (hf 48).1 rfl
          have hc := hw.cell (fun f => f) _ HA4.out
          exact Exec.same (v := .int .i64 (sz : Nat)) rfl (by simp [go_sem, hρ.const, h48, hc]) rfl
        · -- 33: slot 50 := Op.move t1
          refine StepOK.guarded (kn_stable _) 27 false 44 rfl rfl (fun ρ w _ _ hf => (hf 44).1 rfl) fun ρ w hρ hw hf => ?_
          have h1 : ρ (.tmp 1) = (.slice (some ⟨b2, o2, none⟩) n k2) := (hf 1).2 rfl rfl
          exact Exec.kmove rfl rfl h1
        · -- 34: slot 51 := Op.move t5
          refine StepOK.guarded (kn_stable _) 27 false 44 rfl rfl (fun ρ w _ _ hf => (hf 44).1 rfl) fun ρ w hρ hw hf => ?_
          have h5 : ρ (.tmp 5) = (.int .i64 (j : Nat)) := (hf 5).2 rfl rfl
          exact Exec.kmove rfl rfl h5
        · -- 35: slot 52 := Op.indexAddr 33 t50 t51
          refine StepOK.guarded (kn_stable _) 27 false 44 rfl rfl (fun ρ w _ _ hf => (hf 44).1 rfl) fun ρ w hρ hw hf => ?_
          have h50 : ρ (.tmp 50) = (.slice (some ⟨b2, o2, none⟩) n k2) := (hf 50).1 rfl
          have h51 : ρ (.tmp 51) = (.int .i64 (j : Nat)) := (hf 51).1 rfl
          exact Exec.kindex rfl rfl Try.underlying33 GHI.out GHSZ.out h50 h51 HN2.out rfl
        · -- 36: slot 53 := Op.fieldAddr 89 t52 2
          refine StepOK.guarded (kn_stable _) 27 false 44 rfl rfl (fun ρ w _ _ hf => (hf 44).1 rfl) fun ρ w hρ hw hf => ?_
          have h52 : ρ (.tmp 52) = (.pointer (some ⟨b2, o2 + j * 5, none⟩)) := (hf 52).1 rfl
          exact Exec.kfield rfl rfl h52 (fld89_2 w _ _) rfl
        · -- 37: slot 54 := Op.load 3 t53
          refine StepOK.guarded (kn_stable _) 27 false 44 rfl rfl (fun ρ w _ _ hf => (hf 44).1 rfl) fun ρ w hρ hw hf => ?_
          have h53 : ρ (.tmp 53) = (.pointer (some ⟨b2, o2 + j * 5 + 4, none⟩)) := (hf 53).1 rfl
          have hc := hw.cell (fun f => f) _ HB4.out
          exact Exec.same (v := .int .i64 (sz : Nat)) rfl (by simp [go_sem, hρ.const, h53, hc]) rfl
        · -- 38: slot 55 := Op.binOp BinOp.neq 3 t49 t54 3
          refine StepOK.guarded (kn_stable _) 27 false 44 rfl rfl (fun ρ w _ _ hf => (hf 44).1 rfl) fun ρ w hρ hw hf => ?_
          have h49 : ρ (.tmp 49) = (.int .i64 (sz : Nat)) := (hf 49).1 rfl
          have h54 : ρ (.tmp 54) = (.int .i64 (sz : Nat)) := (hf 54).1 rfl
          exact Exec.same (v := .bool false) rfl (by simp [go_sem, hρ.const, h49, h54]) rfl
        · -- 39: slot 56 := Op.pick t44 (const (Value.bool true)) t55
          refine StepOK.plain (kn_stable _) rfl fun ρ w hρ hw hf => ?_
          have h44 : ρ (.tmp 44) = (.bool false) := (hf 44).1 rfl
          have h55 : ρ (.tmp 55) = (.bool false) := (hf 55).1 rfl
          exact Exec.kpickF rfl rfl h44 h55
      case fin =>
        intro ν w4 hfin hx4
        have h56 : ν 56 = .bool false := hfin 39 56 rfl
        simp only [Exit.then, ended, List.foldl_cons, List.foldl_nil, List.setIfInBounds_toArray, List.set_cons_succ, List.set_cons_zero, h56]
        have HX4 := Lib.hid (HEXT.out.trans hx4)
        clear hfin hx4 h56
        go_wp2
        exact ⟨⟨j + 1, HN1.out, rel_step n j HN1.out H63.out, HX4.out⟩, meas_step n j HN1.out H63.out⟩
    · go_wp2
      go_ret
      exact ⟨rfl, HEXT.out⟩
end Go.Proofs.Ytoggnmfjkbnopaa
