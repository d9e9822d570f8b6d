/-
  CellPuts: the walk. MADE BY mkCePuts.py
-/
import Derived.Test.YteechmgcjfnjbaaCelE
import Derived.Test.YteechmgcjfnjbaaCelG
import Derived.Test.YteechmgcjfnjbaaTwo
namespace Go.Proofs.Yteechmgcjfnjbaa
open Go.RowKit Go.Lac

/-- Bytes and a number. -/
def Kn.tup (bs : List UInt8) (e : Int) : Kn := ⟨fun v w => ∃ s, v = .tuple #[s, .int .i64 e] ∧ Rd w s bs, fun _ _ _ k ⟨s, h1, h2⟩ => ⟨s, h1, h2.ext k⟩⟩
theorem fieldPl_0 (w : World) (b : Nat) : (Instr.fieldAt 44 (.pointer (some ⟨b, 0, none⟩)) 0).run Try.prog w = .ok (.pointer (some ⟨b, 0, none⟩)) w := by kernel_rfl
theorem fieldPl_1 (w : World) (b : Nat) : (Instr.fieldAt 44 (.pointer (some ⟨b, 0, none⟩)) 1).run Try.prog w = .ok (.pointer (some ⟨b, 1, none⟩)) w := by kernel_rfl
def putsT (g1 g2 : Nat) (b L : List UInt8) (c : Cel) (kind ver E : Nat) : Tmp → Kn
  | 22 => .rd b
  | 23 => .is (rc c)
  | 24 => .is (pc c)
  | 25 => .is (.pointer (some ⟨g2, 0, none⟩))
  | 26 => .is (.int .u8 (kind : Nat))
  | 27 => .is (.pointer (some ⟨g2, 1, none⟩))
  | 28 => .is (.int .u8 (ver : Nat))
  | 29 => Kn.tup L E
  | 21 => Kn.tup L E
  | 30 => .rd L
  | 31 => .is (.int .i64 (E : Nat))
  | 7 => .rd L
  | 8 => .is (.int .i64 (E : Nat))
  | _ => .any

theorem cpErr_len {ver kind : Nat} {c : Cel} (hc : c.ok) (h : cpErr ver c kind = 0) : (cBytes ver c).length ≤ 2200 := by
  unfold cpErr at h
  split at h
  · cases h
  split at h
  · rename_i h1 h2; exact absurd h h2
  split at h
  · cases h
  · rename_i h1 h2 h3; exact cBytes_len (kind := kind) hc (Decidable.byContradiction h2) h3
set_option maxRecDepth 20000 in
set_option maxHeartbeats 4000000 in
theorem cellPuts_walk (c : Cel) (kind ver : Nat) (vb : Value) (b : List UInt8) (w0 : World) (hc : c.ok) (hb : Rd w0 vb b) :
    Calls Try.prog 4 #[rc c, .agg #[.int .u8 (kind : Nat), .int .u8 (ver : Nat)], vb] w0 fun e w' => e = .returned (.bool true) ∧ Ext w0 w' := by
  obtain ⟨i, hi1, hz, hs, hby⟩ := info_parts infoU8
  have HI1 := Lib.hid hi1; have HZI := Lib.hid hz; have HSI := Lib.hid hs; have HBI := Lib.hid hby
  clear hi1 hz hs hby
  obtain ⟨ao, cap, rfl⟩ := hb.shape
  have hbl : b.length ≤ maxLen := by obtain ⟨_, _, _, g1, g2, _⟩ := hb; omega
  unfold maxLen at hbl
  obtain ⟨W1, hW1⟩ : ∃ W1, W1 = (w0.alloc (.cells (rcv c) 26)).alloc (.cells #[.int .u8 (kind : Nat), .int .u8 (ver : Nat)] 44) := ⟨_, rfl⟩
  have hx1 : Ext w0 W1 := by rw [hW1]; exact ((Ch.refl _ _).alloc _).alloc _
  have HP := Lib.hid (show RRow W1 w0.heap.size c by rw [hW1]; exact heap_alloc2_old _ _ _)
  have HQ := Lib.hid (show W1.heap[w0.heap.size + 1]? = some (.cells #[.int .u8 (kind : Nat), .int .u8 (ver : Nat)] 44 (0, 0)) by rw [hW1]; exact heap_alloc2_new _ _ _)
  have HX1 := Lib.hid hx1; have HW1 := Lib.hid hW1
  have HB1 := Lib.hid (hb.ext hx1)
  have hsa : (⟨c.v.t.toArray⟩ : ByteArray).size = c.v.t.length := by simp [ByteArray.size]
  obtain ⟨c0, l1, l2, l3, l4, l5⟩ := HP.out.cells
  unfold strV at l5
  have HOA := Lib.hid (own7_any c)
  have HRP := Lib.hid (fun w => rcput_any c kind ver w hc)
  have HPP := Lib.hid (fun vb w hb hl => cput_any vb b c kind ver w hb hl hc)
  have HVL := Lib.hid (fun h => cpErr_len (ver := ver) (kind := kind) hc h)
  have hia : rc c = .agg (rcv c) := rfl
  rw [hia]
  rw [hW1] at c0 l1 l2 l3 l4 l5
  clear hia hx1 hW1 hb hc
  by_cases hla : 3000 < c.v.t.length
  · generalize c.v.t.length = na at *
    generalize b.length = nb at *
    go_enter Try.func4, Try.ntmps4
    go_wp2
    go_ret
    rw [← HW1.out]
    exact ⟨rfl, HX1.out⟩
  by_cases hlb : 100 < b.length
  · generalize c.v.t.length = na at *
    generalize hnb : b.length = nb at *
    clear hnb
    go_enter Try.func4, Try.ntmps4
    go_wp2
    go_ret
    rw [← HW1.out]
    exact ⟨rfl, HX1.out⟩
  have hla' : c.v.t.length ≤ 3000 := by omega
  have hlb' : b.length ≤ 100 := by omega
  have HLB := Lib.hid hlb'
  clear hla hlb hbl
  generalize hnb : b.length = nb at *
  have HNB := Lib.hid hnb
  clear hnb
  obtain ⟨L1, hL1⟩ : ∃ L1, L1 = (if cpErr ver c kind = 0 then b ++ cBytes ver c else []) := ⟨_, rfl⟩
  have HPP2 : Hid (∀ vb w, Rd w vb b → Calls Try.prog 21 #[vb, pc c, .int .u8 (kind : Nat), .int .u8 (ver : Nat)] w fun e w' => ∃ s, e = .returned (.tuple #[s, .int .i64 (cpErr ver c kind : Nat)]) ∧ Ext w w' ∧ Rd w' s L1) := Lib.hid fun vb w h => by
    rw [hL1]
    exact HPP.out vb w h (by have := HLB.out; omega)
  have HL1 := Lib.hid hL1
  obtain ⟨E, hE⟩ : ∃ E, E = cpErr ver c kind := ⟨_, rfl⟩
  have HEE := Lib.hid hE
  rw [← hE] at HPP2
  clear hL1 HPP hE
  go_enter Try.func4, Try.ntmps4
  go_wp2
  rw [← HW1.out]
  clear c0 l1 l2 l3 l4 l5 hsa hla' hlb'
  refine wp_region_ext (putsT w0.heap.size (w0.heap.size + 1) b L1 c kind ver E) mixedV (by rfl) (by rfl) ?all ?fin
  case all =>
    refine ⟨?_, ?_, ?_, ?_, ?_, ?_, ?_, ?_, ?_, ?_, ?_, ?_, ?_, trivial⟩
    · refine StepOK.plain (kn_stable _) rfl fun ρ w hρ hw hf => ?_
      have h2 : ρ (.tmp 2) = .slice ao nb cap := (hf 2).2 rfl rfl
      have hr := HB1.out.ext hw
      rw [← h2] at hr
      exact Exec.kmove rfl rfl hr
    · refine StepOK.plain (kn_stable _) rfl fun ρ w hρ hw hf => ?_
      have h3 : ρ (.tmp 3) = .pointer (some ⟨w0.heap.size, 0, none⟩) := (hf 3).2 rfl rfl
      exact Exec.kloadmid rfl rfl h3 (HP.out.ext hw).whole rfl
    · refine StepOK.plain (kn_stable _) rfl fun ρ w hρ hw hf => ?_
      have h23 : ρ (.tmp 23) = rc c := (hf 23).1 rfl
      exact Exec.kcall #[rc c] hρ rfl rfl (by simp [h23]) Try.func12 (by rfl) (by rfl) ((HOA.out w).mono (by rintro e w' ⟨rfl, hx⟩; exact ⟨_, rfl, rfl, hx⟩))
    · refine StepOK.plain (kn_stable _) rfl fun ρ w hρ hw hf => ?_
      have h4 : ρ (.tmp 4) = .pointer (some ⟨w0.heap.size + 1, 0, none⟩) := (hf 4).2 rfl rfl
      exact Exec.kfield rfl rfl h4 (fieldPl_0 w _) rfl
    · refine StepOK.plain (kn_stable _) rfl fun ρ w hρ hw hf => ?_
      have h25 : ρ (.tmp 25) = .pointer (some ⟨w0.heap.size + 1, 0, none⟩) := (hf 25).1 rfl
      have hc : w.cell? ⟨w0.heap.size + 1, 0, none⟩ = some (.int .u8 (kind : Nat)) := by rw [cell_of_row _ _ _ _ _ _ (heap_of_ext hw HQ.out)]; rfl
      exact Exec.same (v := .int .u8 (kind : Nat)) rfl (by simp [go_sem, hρ.const, h25, hc]) rfl
    · refine StepOK.plain (kn_stable _) rfl fun ρ w hρ hw hf => ?_
      have h4 : ρ (.tmp 4) = .pointer (some ⟨w0.heap.size + 1, 0, none⟩) := (hf 4).2 rfl rfl
      exact Exec.kfield rfl rfl h4 (fieldPl_1 w _) rfl
    · refine StepOK.plain (kn_stable _) rfl fun ρ w hρ hw hf => ?_
      have h27 : ρ (.tmp 27) = .pointer (some ⟨w0.heap.size + 1, 1, none⟩) := (hf 27).1 rfl
      have hc : w.cell? ⟨w0.heap.size + 1, 1, none⟩ = some (.int .u8 (ver : Nat)) := by rw [cell_of_row _ _ _ _ _ _ (heap_of_ext hw HQ.out)]; rfl
      exact Exec.same (v := .int .u8 (ver : Nat)) rfl (by simp [go_sem, hρ.const, h27, hc]) rfl
    · refine StepOK.plain (kn_stable _) rfl fun ρ w hρ hw hf => ?_
      have h22 : Rd w (ρ (.tmp 22)) b := (hf 22).1 rfl
      have h24 : ρ (.tmp 24) = pc c := (hf 24).1 rfl
      have h26 : ρ (.tmp 26) = .int .u8 (kind : Nat) := (hf 26).1 rfl
      have h28 : ρ (.tmp 28) = .int .u8 (ver : Nat) := (hf 28).1 rfl
      exact Exec.kcall #[ρ (.tmp 22), pc c, .int .u8 (kind : Nat), .int .u8 (ver : Nat)] hρ rfl rfl (by simp [h24, h26, h28]) Try.func21 (by rfl) (by rfl) ((HPP2.out _ w h22).mono (by rintro e w' ⟨s, rfl, hx, hr⟩; exact ⟨_, rfl, ⟨s, rfl, hr⟩, hx⟩))
    · refine StepOK.plain (kn_stable _) rfl fun ρ w hρ hw hf => ?_
      have h29 : (Kn.tup L1 E).holds (ρ (.tmp 29)) w := (hf 29).1 rfl
      exact Exec.kmove rfl rfl h29
    · refine StepOK.plain (kn_stable _) rfl fun ρ w hρ hw hf => ?_
      have h21 : (Kn.tup L1 E).holds (ρ (.tmp 21)) w := (hf 21).1 rfl
      obtain ⟨s, h1, h2⟩ := h21
      exact Exec.same (v := s) rfl (by simp [go_sem, h1]) h2
    · refine StepOK.plain (kn_stable _) rfl fun ρ w hρ hw hf => ?_
      have h21 : (Kn.tup L1 E).holds (ρ (.tmp 21)) w := (hf 21).1 rfl
      obtain ⟨s, h1, h2⟩ := h21
      exact Exec.same (v := .int .i64 (E : Nat)) rfl (by simp [go_sem, h1]) rfl
    · refine StepOK.plain (kn_stable _) rfl fun ρ w hρ hw hf => ?_
      have h30 : Rd w (ρ (.tmp 30)) L1 := (hf 30).1 rfl
      exact Exec.kassign rfl rfl h30
    · refine StepOK.plain (kn_stable _) rfl fun ρ w hρ hw hf => ?_
      have h31 : ρ (.tmp 31) = .int .i64 (E : Nat) := (hf 31).1 rfl
      exact Exec.kassign rfl rfl h31
  case fin =>
  intro ν w3 hfin hext
  have h7 : Rd w3 (ν 7) L1 := hfin 11 7 rfl
  have h8 : ν 8 = .int .i64 (E : Nat) := hfin 12 8 rfl
  obtain ⟨a1, c1, h7s⟩ := h7.shape
  have hp3 := HP.out.ext hext
  have hq3 := heap_of_ext hext HQ.out
  obtain ⟨c0, l1, l2, l3, l4, l5⟩ := hp3.cells
  have p0 : w3.cell? ⟨w0.heap.size + 1, 0, none⟩ = some (.int .u8 (kind : Nat)) := by rw [cell_of_row _ _ _ _ _ _ hq3]; rfl
  have p1 : w3.cell? ⟨w0.heap.size + 1, 1, none⟩ = some (.int .u8 (ver : Nat)) := by rw [cell_of_row _ _ _ _ _ _ hq3]; rfl
  have HX3 := Lib.hid (HX1.out.trans hext); have HB3 := Lib.hid (HB1.out.ext hext)
  simp only [Exit.then, ended, List.foldl_cons, List.foldl_nil, List.setIfInBounds_toArray, List.set_cons_succ, List.set_cons_zero, h7s, h8]
  rw [h7s] at h7
  have HR3 := Lib.hid h7
  have HE := HEE.out
  subst HE
  clear hfin hext h7 h8 h7s hp3 hq3
  go_wp2_with fail
  refine (HRP.out _).mono ?_
  intro e w4 hm
  obtain ⟨s2, rfl, hx, hr⟩ := hm
  obtain ⟨L2, hL2⟩ : ∃ L2, L2 = (if cpErr ver c kind = 0 then [] ++ cBytes ver c else []) := ⟨_, rfl⟩
  rw [← hL2] at hr
  have HL2 := Lib.hid hL2
  clear hL2
  have HX4 := Lib.hid (HX3.out.trans hx); have HR4 := Lib.hid (HR3.out.ext hx); have HB4 := Lib.hid (HB3.out.ext hx)
  have HQ4 := Lib.hid hr
  obtain ⟨a2, c2, rfl⟩ := hr.shape
  clear hx hr HRP c0 l1 l2 l3 l4 l5 p0 p1
  by_cases hp0 : cpErr ver c kind = 0
  · have HVL2 := Lib.hid (HVL.out hp0)
    have e1 : L1 = b ++ cBytes ver c := by rw [HL1.out, if_pos hp0]
    have e2 : L2 = cBytes ver c := by rw [HL2.out, if_pos hp0, List.nil_append]
    have hR := HR4.out; have hQ := HQ4.out
    rw [e1] at hR
    rw [e2] at hQ
    rw [e1, e2, hp0]
    clear e1 e2 HL1 HL2
    generalize cBytes ver c = vs at *
    have hlr : (b ++ vs).length = nb + vs.length := by rw [List.length_append, HNB.out]
    rw [hlr] at hR ⊢
    have HRR := Lib.hid hR; have HQQ := Lib.hid hQ
    clear hp0 hR hQ HR4 HQ4 HVL HR3 hlr
    generalize hnv : vs.length = nv at *
    have HNV := Lib.hid hnv
    clear hnv
    have HO5 := Lib.hid (owns_empty w4 5)
    have HX5 : Hid (Ext w0 (w4.alloc (.cells #[] 5))) := Lib.hid (HX4.out.alloc _)
    have HB5 : Hid (Rd (w4.alloc (.cells #[] 5)) (.slice ao nb cap) b) := Lib.hid (HB4.out.ext ((Ch.refl _ _).alloc _))
    have HSLB : Hid (Sl (w4.alloc (.cells #[] 5)) (.slice ao nb cap) nb (cellsB b)) := Lib.hid (by have := HB5.out; unfold Rd at this; rwa [HNB.out] at this)
    have hempty := fun w => emptyU8 w
    go_wp2_with (at_builtin; refine wpList_append_sl _ rfl _ _ 45 rfl w4.heap.size 5 i (.int .u8 0) 1 1 Try.underlying45 HI1.out HZI.out HSI.out HBI.out rfl (by decide) _ _ _ rfl HO5.out _ _ _ rfl HSLB.out (by rw [cellsB_length, HNB.out, Nat.mul_one]) (cellsB_one _) (by have := HLB.out; omega) (by have := HLB.out; unfold maxLen; omega) (by simp) ?_)
    intro v5 w5 hown hgrow
    have hx5 : Ext w4 w5 := ((Ch.refl _ w4).alloc _).grown hgrow (fun k hk => .inr (HO5.out.lt k hk).1)
    have HX6 := Lib.hid (HX4.out.trans hx5)
    have HO6 := Lib.hid hown
    have HS6 : Hid (Sl w5 (.slice a2 nv c2) nv (cellsB vs)) := Lib.hid (by have := HQQ.out.ext hx5; unfold Rd at this; rwa [HNV.out] at this)
    have HR6 := Lib.hid (HRR.out.ext hx5)
    have HS5 := Lib.hid hx5.size; have HXX := Lib.hid hx5
    clear hown hgrow hx5 hempty
    go_wp2_with (at_builtin; refine wpList_append_sl _ rfl _ _ 45 rfl w4.heap.size 5 i (.int .u8 0) 1 1 Try.underlying45 HI1.out HZI.out HSI.out HBI.out rfl (by decide) _ _ _ rfl HO6.out _ _ _ rfl HS6.out (by rw [cellsB_length, HNV.out, Nat.mul_one]) (cellsB_one _) (by have := HLB.out; have := HVL2.out; have := HNV.out; omega) (by have := HLB.out; have := HVL2.out; have := HNV.out; unfold maxLen; omega) HS5.out ?_)
    intro v7 w7 hown hgrow
    have hx7 : Ext w4 w7 := HXX.out.grown hgrow (fun k hk => .inr (HO6.out.lt k hk).1)
    have HX8 := Lib.hid (HX4.out.trans hx7)
    have hrd : Rd w7 v7 (b ++ vs) := by
      unfold Rd
      have := Sl.ofOwns hown
      simpa [cellsB_append, HNB.out, HNV.out] using this
    have hs1 := run_toString (P := Try.prog) hrd (src := 45) (dst := 9) Try.underlying45 Try.underlying5 Try.underlying9
    have hr7 := HRR.out.ext hx7
    have hs2 := run_toString (P := Try.prog) hr7 (src := 45) (dst := 9) Try.underlying45 Try.underlying5 Try.underlying9
    obtain ⟨a7, c7, hv7⟩ := hrd.shape
    rw [hv7] at hs1 ⊢
    unfold strV at hs1 hs2
    generalize (⟨(b ++ vs).toArray⟩ : ByteArray) = BS at *
    generalize (b ++ vs).length = nn at *
    clear hown hgrow hx7 hrd hr7 hv7
    go_wp2_with (go_at_call 20; refine (awake7_any _).mono ?_)
    rintro e w9 ⟨rfl, hx⟩
    have HX9 := Lib.hid (HX8.out.trans hx)
    clear hx
    go_wp2
    go_ret
    exact ⟨rfl, HX9.out⟩
  · have e1 : L1 = [] := by rw [HL1.out, if_neg hp0]
    have e2 : L2 = [] := by rw [HL2.out, if_neg hp0]
    have hR := HR4.out; have hQ := HQ4.out
    rw [e1] at hR
    rw [e2] at hQ
    rw [e1, e2]
    clear e1 e2 HL1 HL2
    have hs1 := run_toString (P := Try.prog) hR (src := 45) (dst := 9) Try.underlying45 Try.underlying5 Try.underlying9
    have hs2 := run_toString (P := Try.prog) hQ (src := 45) (dst := 9) Try.underlying45 Try.underlying5 Try.underlying9
    have he : (((cpErr ver c kind : Nat) : Int) == 0) = false := by simp; omega
    unfold strV at hs1 hs2
    simp only [List.length_nil] at hs1 hs2 ⊢
    generalize cpErr ver c kind = E at *
    clear hR hQ HR4 HQ4 HR3 HVL
    go_wp2_with (go_at_call 20; refine (awake7_any _).mono ?_)
    rintro e w9 ⟨rfl, hx⟩
    have HX9 := Lib.hid (HX4.out.trans hx)
    clear hx
    go_wp2
    go_ret
    exact ⟨rfl, HX9.out⟩

end Go.Proofs.Yteechmgcjfnjbaa
