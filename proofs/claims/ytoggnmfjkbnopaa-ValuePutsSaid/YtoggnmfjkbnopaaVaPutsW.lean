/-
  ValuePuts: the walk.
-/
import Derived.Test.YtoggnmfjkbnopaaValO
import Derived.Test.YtoggnmfjkbnopaaValS
import Derived.Test.YtoggnmfjkbnopaaValG
import Derived.Test.YtoggnmfjkbnopaaValH
import Derived.Test.YtoggnmfjkbnopaaAwake6
import Derived.Test.YtoggnmfjkbnopaaTwo
namespace Go.Proofs.Ytoggnmfjkbnopaa
open Go.RowKit Go.Lac


set_option maxRecDepth 20000 in
set_option maxHeartbeats 4000000 in
theorem valuePuts_walk (a : Val) (ver : Nat) (vb : Value) (b : List UInt8) (w : World) (ha : a.ok) (hb : Rd w vb b) :
    Calls Try.prog 8 #[rv a, .int .u8 (ver : Nat), vb] w fun e w' => e = .returned (.bool true) ∧ Ext w w' := by
  obtain ⟨i, hi1, hz, hs, hby⟩ := info_parts infoU8
  have HI1 := Lib.hid hi1; have HZI := Lib.hid hz; have HSI := Lib.hid hs; have HBI := Lib.hid hby
  clear hi1 hz hs hby
  obtain ⟨ao, cap, rfl⟩ := hb.shape
  have hbl : b.length ≤ maxLen := by obtain ⟨_, _, _, g1, g2, _⟩ := hb; omega
  unfold maxLen at hbl
  obtain ⟨W1, hW1⟩ : ∃ W1, W1 = w.alloc (.cells (rvals a) 54) := ⟨_, rfl⟩
  have hx1 : Ext w W1 := by rw [hW1]; exact (Ch.refl _ _).alloc _
  have hga : W1.heap[w.heap.size]? = some (.cells (rvals a) 54 (0, 0)) := by rw [hW1]; exact heap_alloc_new _ _
  have HGA := Lib.hid hga; have HX1 := Lib.hid hx1; have HW1 := Lib.hid hW1
  have HB1 := Lib.hid (hb.ext hx1)
  have hsa : (⟨a.t.toArray⟩ : ByteArray).size = a.t.length := by simp [ByteArray.size]
  obtain ⟨AS, hAS⟩ : ∃ AS, AS = (⟨a.t.toArray⟩ : ByteArray) := ⟨_, rfl⟩
  rw [← hAS] at hsa
  have ca4 : W1.cell? ⟨w.heap.size, 4, none⟩ = some (.string AS) := by rw [cell_of_row _ _ _ _ _ _ hga, hAS]; rfl
  have hia : rv a = .agg (rvals a) := rfl
  have HOA : Hid (∀ w, Calls Try.prog 27 #[.agg (rvals a)] w (PvPost a w)) := Lib.hid (lawOwn_any a)
  have HRP : Hid (∀ w, Calls Try.prog 32 #[.agg (rvals a), .int .u8 (ver : Nat)] w (PutPost [] ver a w)) := Lib.hid (fun w => refPut_any a ver w ha)
  have HPP := Lib.hid (fun vb w hb hl => put_any vb b ver a w hb hl ha)
  have HVL := Lib.hid (fun h => vBytes_len (ver := ver) ha h)
  rw [hia]
  rw [hW1] at ca4
  clear hia hga hx1 hW1 hAS hb ha
  by_cases hla : 3000 < a.t.length
  · generalize a.t.length = na at *
    generalize b.length = nb at *
    go_enter Try.func8, Try.ntmps8
    go_wp2
    go_ret
    rw [← HW1.out]
    exact ⟨rfl, HX1.out⟩
  by_cases hlb : 100 < b.length
  · generalize a.t.length = na at *
    generalize hnb : b.length = nb at *
    clear hnb
    go_enter Try.func8, Try.ntmps8
    go_wp2
    go_ret
    rw [← HW1.out]
    exact ⟨rfl, HX1.out⟩
  have hla' : a.t.length ≤ 3000 := by omega
  have hlb' : b.length ≤ 100 := by omega
  have HLB := Lib.hid hlb'
  clear hla hlb hbl
  generalize hnb : b.length = nb at *
  have HNB := Lib.hid hnb
  clear hnb
  go_enter Try.func8, Try.ntmps8
  go_wp2_with (first
    | (refine wpList_load_row rfl _ _ rfl w.heap.size rfl _ _ _ _ (show (w.alloc (.cells (rvals a) 54)).heap[w.heap.size]? = _ by rw [← HW1.out]; exact HGA.out) Try.underlying54 rfl (infoR _) ?_)
    | (go_at_call 27; refine (HOA.out _).mono ?_))
  rintro e w2 ⟨rfl, hx⟩
  rw [← HW1.out] at hx
  have HX2 := Lib.hid (HX1.out.trans hx)
  have HB2 := Lib.hid (HB1.out.ext hx)
  have HGA2 : Hid (w2.heap[w.heap.size]? = some (.cells (rvals a) 54 (0, 0))) := Lib.hid ((hx.block _ (Array.getElem?_eq_some_iff.1 HGA.out).1 (fun f => f)).trans HGA.out)
  clear hx ca4 hla' hsa
  go_wp2_with fail
  refine (HPP.out _ _ (by have := HB2.out; exact this) (by have := HLB.out; have := HNB.out; omega)).mono ?_
  rintro e w3 ⟨s1, rfl, hx, hr⟩
  obtain ⟨L1, hL1⟩ : ∃ L1, L1 = (if putE ver a = 0 then b ++ vBytes ver a else []) := ⟨_, rfl⟩
  rw [← hL1] at hr
  have HL1 := Lib.hid hL1
  clear hL1
  have HX3 := Lib.hid (HX2.out.trans hx); have HR3 := Lib.hid hr
  have HB3 := Lib.hid (HB2.out.ext hx)
  have HGA3 : Hid (w3.heap[w.heap.size]? = some (.cells (rvals a) 54 (0, 0))) := Lib.hid ((hx.block _ (Array.getElem?_eq_some_iff.1 HGA2.out).1 (fun f => f)).trans HGA2.out)
  obtain ⟨a1, c1, rfl⟩ := hr.shape
  clear hx hr
  go_wp2_with (first
    | (refine wpList_load_row rfl _ _ rfl w.heap.size rfl _ _ _ _ HGA3.out Try.underlying54 rfl (infoR _) ?_)
    | (go_at_call 32; refine (HRP.out _).mono ?_))
  rintro e w4 ⟨s2, rfl, hx, hr⟩
  obtain ⟨L2, hL2⟩ : ∃ L2, L2 = (if putE ver a = 0 then [] ++ vBytes ver a else []) := ⟨_, rfl⟩
  rw [← hL2] at hr
  have HL2 := Lib.hid hL2
  clear hL2
  have HX4 := Lib.hid (HX3.out.trans hx); have HR4 := Lib.hid (HR3.out.ext hx); have HB4 := Lib.hid (HB3.out.ext hx)
  have HQ4 := Lib.hid hr
  obtain ⟨a2, c2, rfl⟩ := hr.shape
  clear hx hr HPP HRP HOA
  by_cases hp0 : putE ver a = 0
  · have he : vErr a = 0 := by unfold putE at hp0; split at hp0; cases hp0; exact hp0
    have HVL2 := Lib.hid (HVL.out he)
    have e1 : L1 = b ++ vBytes ver a := by rw [HL1.out, if_pos hp0]
    have e2 : L2 = vBytes ver a := by rw [HL2.out, if_pos hp0, List.nil_append]
    have hR := HR4.out; have hQ := HQ4.out
    rw [e1] at hR
    rw [e2] at hQ
    rw [e1, e2, hp0]
    clear e1 e2 HL1 HL2
    generalize vBytes ver a = vs at *
    have hlr : (b ++ vs).length = nb + vs.length := by rw [List.length_append, HNB.out]
    rw [hlr] at hR ⊢
    have HRR := Lib.hid hR; have HQQ := Lib.hid hQ
    clear hp0 he hR hQ HR4 HQ4 HVL HR3 hlr
    generalize hnv : vs.length = nv at *
    have HNV := Lib.hid hnv
    clear hnv
    have HO5 := Lib.hid (owns_empty w4 5)
    have HX5 : Hid (Ext w (w4.alloc (.cells #[] 5))) := Lib.hid (HX4.out.alloc _)
    have HB5 : Hid (Rd (w4.alloc (.cells #[] 5)) (.slice ao nb cap) b) := Lib.hid (HB4.out.ext ((Ch.refl _ _).alloc _))
    have HSLB : Hid (Sl (w4.alloc (.cells #[] 5)) (.slice ao nb cap) nb (cellsB b)) := Lib.hid (by have := HB5.out; unfold Rd at this; rwa [HNB.out] at this)
    have hempty := fun w => emptyU8 w
    go_wp2_with (at_builtin; refine wpList_append_sl _ rfl _ _ 22 rfl w4.heap.size 5 i (.int .u8 0) 1 1 Try.underlying22 HI1.out HZI.out HSI.out HBI.out rfl (by decide) _ _ _ rfl HO5.out _ _ _ rfl HSLB.out (by rw [cellsB_length, HNB.out, Nat.mul_one]) (cellsB_one _) (by have := HLB.out; omega) (by have := HLB.out; unfold maxLen; omega) (by simp) ?_)
    intro v5 w5 hown hgrow
    have hx5 : Ext w4 w5 := ((Ch.refl _ w4).alloc _).grown hgrow (fun k hk => .inr (HO5.out.lt k hk).1)
    have HX6 := Lib.hid (HX4.out.trans hx5)
    have HO6 := Lib.hid hown
    have HS6 : Hid (Sl w5 (.slice a2 nv c2) nv (cellsB vs)) := Lib.hid (by have := HQQ.out.ext hx5; unfold Rd at this; rwa [HNV.out] at this)
    have HR6 := Lib.hid (HRR.out.ext hx5)
    have HS5 := Lib.hid hx5.size; have HXX := Lib.hid hx5
    clear hown hgrow hx5 hempty
    go_wp2_with (at_builtin; refine wpList_append_sl _ rfl _ _ 22 rfl w4.heap.size 5 i (.int .u8 0) 1 1 Try.underlying22 HI1.out HZI.out HSI.out HBI.out rfl (by decide) _ _ _ rfl HO6.out _ _ _ rfl HS6.out (by rw [cellsB_length, HNV.out, Nat.mul_one]) (cellsB_one _) (by have := HLB.out; have := HVL2.out; have := HNV.out; omega) (by have := HLB.out; have := HVL2.out; have := HNV.out; unfold maxLen; omega) HS5.out ?_)
    intro v7 w7 hown hgrow
    have hx7 : Ext w4 w7 := HXX.out.grown hgrow (fun k hk => .inr (HO6.out.lt k hk).1)
    have HX8 := Lib.hid (HX4.out.trans hx7)
    have hrd : Rd w7 v7 (b ++ vs) := by
      unfold Rd
      have := Sl.ofOwns hown
      simpa [cellsB_append, HNB.out, HNV.out] using this
    have hs1 := run_toString (P := Try.prog) hrd (src := 22) (dst := 9) Try.underlying22 Try.underlying5 Try.underlying9
    have hr7 := HRR.out.ext hx7
    have hs2 := run_toString (P := Try.prog) hr7 (src := 22) (dst := 9) Try.underlying22 Try.underlying5 Try.underlying9
    obtain ⟨a7, c7, hv7⟩ := hrd.shape
    rw [hv7] at hs1 ⊢
    unfold strV at hs1 hs2
    generalize (⟨(b ++ vs).toArray⟩ : ByteArray) = BS at *
    generalize (b ++ vs).length = nn at *
    clear hown hgrow hx7 hrd hr7 hv7
    go_wp2_with (go_at_call 30; refine (awake6_any _).mono ?_)
    rintro e w9 ⟨rfl, hx⟩
    have HX9 := Lib.hid (HX8.out.trans hx)
    clear hx
    go_wp2
    go_ret
    exact ⟨rfl, HX9.out⟩
  · have e1 : L1 = [] := by rw [HL1.out, if_neg hp0]
    have e2 : L2 = [] := by rw [HL2.out, if_neg hp0]
    have hR := HR4.out; have hQ := HQ4.out
    rw [e1] at hR
    rw [e2] at hQ
    rw [e1, e2]
    clear e1 e2 HL1 HL2
    have hs1 := run_toString (P := Try.prog) hR (src := 22) (dst := 9) Try.underlying22 Try.underlying5 Try.underlying9
    have hs2 := run_toString (P := Try.prog) hQ (src := 22) (dst := 9) Try.underlying22 Try.underlying5 Try.underlying9
    have he : (((putE ver a : Nat) : Int) == 0) = false := by simp; omega
    unfold strV at hs1 hs2
    simp only [List.length_nil] at hs1 hs2 ⊢
    generalize putE ver a = E at *
    clear hR hQ HR4 HQ4 HR3 HVL
    go_wp2_with (go_at_call 30; refine (awake6_any _).mono ?_)
    rintro e w9 ⟨rfl, hx⟩
    have HX9 := Lib.hid (HX4.out.trans hx)
    clear hx
    go_wp2
    go_ret
    exact ⟨rfl, HX9.out⟩

end Go.Proofs.Ytoggnmfjkbnopaa
