/-
  FrameBursts: the walk.
-/
import Derived.Test.YtcdhalgpnhdbnaaProg
import Derived.Test.YtcdhalgpnhdbnaaLib
import Derived.Test.YtcdhalgpnhdbnaaLibC
import Derived.Test.YtcdhalgpnhdbnaaInfo
import Derived.Test.YtcdhalgpnhdbnaaLibD
import Derived.Test.YtcdhalgpnhdbnaaEqual
import Derived.Test.YtcdhalgpnhdbnaaCrcD
import Derived.Test.YtcdhalgpnhdbnaaFrB
import Derived.Test.YtcdhalgpnhdbnaaFrC
import Derived.Test.YtcdhalgpnhdbnaaFrD
import Derived.Test.YtcdhalgpnhdbnaaFrE
import Derived.Test.YtcdhalgpnhdbnaaFrF
import Derived.Test.YtcdhalgpnhdbnaaRefP
import Derived.Test.YtcdhalgpnhdbnaaRefQ
import Derived.Test.YtcdhalgpnhdbnaaAwake4
import Derived.Test.YtcdhalgpnhdbnaaFrM
import Derived.Test.YtcdhalgpnhdbnaaTurned
import Derived.WalkKit
import Derived.Lib.Hide
import Derived.Outline
import Derived.Laws.BitsAllLaws
namespace Go.Proofs.Ytcdhalgpnhdbnaa
open Go.RowKit Go.Lac


set_option maxRecDepth 20000 in
set_option maxHeartbeats 4000000 in
theorem frameBursts_walk (x y : Nat) (s : Value) (p : List UInt8) (at' pat : Nat) (w : World) (hx : x < 256) (hy : y < 256) (h : Rd w s p) (ha : at' < 2 ^ 32) (hp : pat < 2 ^ 32) :
    Calls Try.prog 10 #[.agg #[.int .u8 (x : Nat), .int .u8 (y : Nat), s], .int .u32 (at' : Nat), .int .u32 (pat : Nat)] w fun e w' => e = .returned (.bool true) ∧ Ext w w' := by
  obtain ⟨i, hi, hz, hsz, hby⟩ := info_parts infoU8
  obtain ⟨ao, cap, rfl⟩ := h.shape
  have hlen : p.length ≤ maxLen := by obtain ⟨_, _, _, g1, g2, _⟩ := h; omega
  unfold maxLen at hlen
  have hrr := fun w h => refRight_any x y (.slice ao p.length cap) p w hx hy h
  have H := Lib.hid h
  obtain ⟨g3, hg3⟩ : ∃ g3, g3 = w.heap.size := ⟨_, rfl⟩
  by_cases h0 : frRight x y p.length = 0
  case neg =>
    have hne : (((frRight x y p.length : Nat) : Int) != 0) = true := by simp; omega
    have HRR := Lib.hid hrr
    clear h hrr hx hy h0 ha hp hg3
    generalize frRight x y p.length = e0 at *
    generalize hpl : p.length = n at *
    go_enter Try.func10, Try.ntmps10
    go_wp2_with (go_at_call 27; refine (HRR.out _ (H.out.ext ((Ch.refl _ _).alloc _))).mono ?_)
    rintro e w1 ⟨rfl, hx⟩
    have HX := Lib.hid (((Ch.refl _ w).alloc _).trans hx); clear hx
    go_wp2
    go_ret
    exact ⟨rfl, HX.out⟩
  rw [h0] at hrr
  have HR0 : Hid (∀ w, Rd w (.slice ao p.length cap) p → Calls Try.prog 27 #[.agg #[.int .u8 (x : Nat), .int .u8 (y : Nat), .slice ao p.length cap]] w fun e w' => e = .returned (.int .i64 0) ∧ Ext w w') := Lib.hid fun w h => hrr w h
  clear hrr
  by_cases h300 : 300 < p.length
  · clear h hx hy h0 ha hp
    generalize hpl : p.length = n at *
    have HG3' := Lib.hid hg3
    go_enter Try.func10, Try.ntmps10
    go_wp2_with (go_at_call 27; refine (HR0.out _ (H.out.ext ((Ch.refl _ _).alloc _))).mono ?_)
    rintro e w1 ⟨rfl, hx⟩
    have hc2 : w1.cell? ⟨w.heap.size, 2, none⟩ = some (.slice ao n cap) := hx.cell (p := ⟨w.heap.size, 2, none⟩) (fun f => f) _ (by rw [cell_of_row _ _ _ _ _ _ (heap_alloc_new w _)]; rfl)
    have HX := Lib.hid (((Ch.refl _ w).alloc _).trans hx); clear hx hg3
    go_wp2
    go_ret
    exact ⟨rfl, HX.out⟩
  obtain ⟨b1, b2, b3, b4⟩ := right_bounds h0
  have hown := fun w h => own_any x y (.slice ao p.length cap) p w h (by omega)
  have hmk := fun s w h => make_any x y s p w hx hy h (by omega)
  have hml := made_length h0
  have hmp := made_parse h0 []
  rw [List.append_nil] at hmp
  have hmb := fun a => made_burst h0 a pat
  have HOWN := Lib.hid hown; have HML := Lib.hid hml; have HMP := Lib.hid hmp; have HMB := Lib.hid hmb
  have HMP1 : Hid (∀ s w, Rd w s p → Calls Try.prog 28 #[.agg #[.int .u8 (x : Nat), .int .u8 (y : Nat), s]] w fun e w' => ∃ t, e = .returned (.tuple #[t, .int .i64 0]) ∧ Ext w w' ∧ Rd w' t (frBytes x y p)) := Lib.hid fun s w h => (hmk s w h).mono fun e w' ⟨t, e1, e2, e3⟩ => by
    rw [h0] at e1
    exact ⟨t, e1, e2, e3⟩
  clear hown hmk hml hmp hmb h0 h hx hy b1 b2 b3 b4
  generalize frBytes x y p = md at *
  generalize hpl : p.length = n at *
  have HPL := Lib.hid hpl; clear hpl
  have hmod : ∀ q : Int, q = 8 * ((n : Int) + 4) → (at' : Int) % q = ((at' % (8 * (n + 4)) : Nat) : Int) := fun q hq => by rw [hq]; simp
  have hmlt : at' % (8 * (n + 4)) < 8 * (n + 4) := Nat.mod_lt _ (by omega)
  have htn := fun v w h => turned_any v (md.drop 6) (at' % (8 * (n + 4))) pat w h (by rw [List.length_drop, HML.out]; omega) (by omega) hp
  have hmod1 := hmod _ rfl
  generalize at' % (8 * (n + 4)) = m at *
  have HMOD := Lib.hid hmod1; have HTN := Lib.hid htn; have HP := Lib.hid hp; have HAT := Lib.hid ha
  clear hmod hmod1 htn hlen hp ha
  have HG3' := Lib.hid hg3
  go_enter Try.func10, Try.ntmps10
  go_wp2_with (go_at_call 27; refine (HR0.out _ (H.out.ext ((Ch.refl _ _).alloc _))).mono ?_)
  rintro e w1 ⟨rfl, hx⟩
  have hr3 : w1.heap[g3]? = some (.cells #[.int .u8 (x : Nat), .int .u8 (y : Nat), .slice ao n cap] 44 (0, 0)) := by
    rw [hg3, hx.block _ (by simp) (fun f => f)]; exact heap_alloc_new w _
  rw [← hg3]
  clear hg3
  have HX1 := Lib.hid (((Ch.refl _ w).alloc _).trans hx); have HG31 := Lib.hid hr3
  have hc2 : w1.cell? ⟨g3, 2, none⟩ = some (.slice ao n cap) := by rw [cell_of_row _ _ _ _ _ _ hr3]; rfl
  clear hx hr3
  go_wp2_with (first
    | (refine wpList_load_row rfl _ _ rfl g3 rfl _ _ _ _ HG31.out Try.underlying44 rfl info44 ?_)
    | (go_at_call 29; refine (HOWN.out _ (H.out.ext HX1.out)).mono ?_))
  rintro e w2 ⟨t2, rfl, hx, hr2⟩
  have HX2 := Lib.hid (HX1.out.trans hx); have HR2 := Lib.hid hr2
  clear hx hr2 HG31 HX1 hc2
  go_wp2_with (go_at_call 28; refine (HMP1.out _ _ HR2.out).mono ?_)
  rintro e w3 ⟨t3, rfl, hx, hr3⟩
  obtain ⟨a7, c7, rfl⟩ := hr3.shape
  obtain ⟨gm, om, rfl, hcm, _, _⟩ := bytes_cell hr3 rfl (by rw [HML.out]; omega)
  have HX3 := Lib.hid (HX2.out.trans hx); have HMD3 := Lib.hid hr3
  have hr6 := hr3.drop 6 (by rw [HML.out]; omega) _ (.inl rfl)
  have hrh := hr3.take 6 (by rw [HML.out]; omega)
  rw [HML.out] at hr3 hcm hr6 ⊢
  rw [show n + 10 - 6 = n + 4 by omega] at hr6
  have HR6 := Lib.hid hr6; have HRH := Lib.hid hrh
  have hc76 : ¬ c7 = 6 := by omega
  clear hx hr3 hr6 hrh HX2 HR2 HOWN HMP1 HR0
  have hwm : wrap64 ((at' : Int) % (8 * ((n : Int) + 4))) = ((m : Nat) : Int) := by rw [HMOD.out]; exact IntWalk.wrap64_in _ ⟨by omega, by omega⟩
  have HWM := Lib.hid hwm; clear hwm
  go_wp2_with fail
  rw [HWM.out]
  refine (HTN.out _ _ HR6.out).mono ?_
  rintro e w4 ⟨d, rfl, hx, hd⟩
  have htl : (turned (md.drop 6) m pat 32).length = n + 4 := by rw [turned_length, List.length_drop, HML.out]; omega
  have hmb := HMB.out m
  generalize turned (md.drop 6) m pat 32 = td at *
  have hdr := Rd.ofOwns hd
  obtain ⟨ad, cd, rfl⟩ := owns_shape hd
  rw [htl] at hdr hd ⊢
  have HTL := Lib.hid htl; have HMB1 := Lib.hid hmb
  have HX4 := Lib.hid (HX3.out.trans hx); have HTD := Lib.hid hdr; have HR64 := Lib.hid (HR6.out.ext hx); have HRH4 := Lib.hid (HRH.out.ext hx)
  clear htl hmb hdr hd hx HTN HMB HWM HX3 HR6 HRH HMOD HMD3
  have hown0 := World.ownsRow_made (e := 5) (size := 1) w4 #[] 0 (Nat.le_refl _) (by decide) (by simp)
  have hrd0 := Rd.ext HRH4.out ((Ch.refl _ w4).alloc (.cells #[] 5))
  have hl6 : (md.take 6).length = 6 := by rw [List.length_take, HML.out]; omega
  unfold Rd at hrd0
  rw [hl6] at hrd0
  have HL6 := Lib.hid hl6
  have HO0 := Lib.hid hown0; have HD0 := Lib.hid hrd0; clear hown0 hrd0 hl6
  go_wp2_with (at_builtin; refine wpList_append_sl _ rfl _ _ 23 rfl w4.heap.size 5 i (.int .u8 0) 1 1 Try.underlying23 hi hz hsz hby rfl (by decide) _ _ _ rfl HO0.out _ _ _ rfl HD0.out (by rw [cellsB_length, HL6.out]) (cellsB_one _) (by omega) (by unfold maxLen; omega) (by simp) ?_)
  intro v5 w5 hown4 hgrow4
  obtain ⟨a4, c4, rfl⟩ := owns_shape hown4
  have hx4 : Ext w4 w5 := ((Ch.refl _ w4).alloc _).grown hgrow4 fun k hk => by have := (HO0.out.lt k hk).1; exact .inr this
  have HX5 := Lib.hid hx4; have HO4 := Lib.hid hown4
  have hrb := HTD.out.ext hx4
  unfold Rd at hrb
  rw [HTL.out] at hrb
  have HRB := Lib.hid hrb
  clear hx4 hown4 hgrow4 hrb HO0 HD0
  go_wp2_with (at_builtin; refine wpList_append_sl _ rfl _ _ 23 rfl w4.heap.size 5 i (.int .u8 0) 1 1 Try.underlying23 hi hz hsz hby rfl (by decide) _ _ _ rfl HO4.out _ _ _ rfl HRB.out (by rw [cellsB_length, HTL.out, Nat.mul_one]) (cellsB_one _) (by omega) (by unfold maxLen; omega) HX5.out.size ?_)
  intro v6 w6 hown5 hgrow5
  have hx5 : Ext w4 w6 := HX5.out.grown hgrow5 fun k hk => by have := (HO4.out.lt k hk).1; exact .inr this
  rw [← cellsB_append] at hown5
  have hpa := parse_any v6 (md.take 6 ++ td) w6 (Rd.ofOwns hown5) (by rw [List.length_append, HL6.out, HTL.out]; omega)
  obtain ⟨a5, c5, rfl⟩ := owns_shape hown5
  have HX6 := Lib.hid hx5; have HPA := Lib.hid hpa
  clear hx5 hown5 hgrow5 hpa HX5 HO4 HRB
  go_wp2_with (go_at_call 22; refine HPA.out.mono ?_)
  rintro e w7 ⟨tp, rfl, hx, hrp⟩
  obtain ⟨a1, c1, rfl⟩ := hrp.shape
  have hx7 : Ext w4 (w7.alloc (.cells #[.int .u8 (frV (md.take 6 ++ td) : Nat), .int .u8 (frK (md.take 6 ++ td) : Nat), .slice a1 (frP (md.take 6 ++ td)).length c1] 40)) := (HX6.out.trans hx).alloc _
  have hs1 := run_toString (P := Try.prog) (HTD.out.ext hx7) (src := 23) (dst := 9) Try.underlying23 Try.underlying5 Try.underlying9
  have hs2 := run_toString (P := Try.prog) (HR64.out.ext hx7) (src := 23) (dst := 9) Try.underlying23 Try.underlying5 Try.underlying9
  have hq := toList_beq td (md.drop 6)
  unfold strV at hs1 hs2
  have HX7 := Lib.hid (HX4.out.trans hx7)
  clear hx hx7 hrp HPA HX6 HX4 HTD HR64
  by_cases hd : td = md.drop 6
  · subst hd
    have hmd : md.take 6 ++ md.drop 6 = md := List.take_append_drop 6 md
    obtain ⟨m1, m2, m3, m4, m5⟩ := HMP.out
    rw [hmd] at hs1 hs2 HX7 ⊢
    rw [m2, m3, m4] at hs1 hs2 HX7
    rw [m1, m2, m3, m4, m5]
    rw [decide_eq_true rfl] at hq
    generalize (⟨(md.drop 6).toArray⟩ : ByteArray) = A1 at *
    generalize p.length = n1 at *
    clear hmd m1 m2 m3 m4 m5 HMB1 HMP
    go_wp2_with (go_at_call 26; refine (awake4_any _).mono ?_)
    rintro e w8 ⟨rfl, hx⟩
    have HX8 := Lib.hid (HX7.out.trans hx); clear hx
    go_wp2
    go_ret
    exact ⟨rfl, HX8.out⟩
  · have hfe := HMB1.out
    rw [if_neg hd] at hfe
    have f4 : frSize (md.take 6 ++ td) = 0 := by unfold frSize; rw [if_neg (by rw [hfe]; decide)]
    rw [decide_eq_false hd] at hq
    rw [hfe, f4]
    generalize (⟨(md.drop 6).toArray⟩ : ByteArray) = A1 at *
    generalize (⟨td.toArray⟩ : ByteArray) = A2 at *
    generalize (frP (md.take 6 ++ td)).length = n1 at *
    generalize frV (md.take 6 ++ td) = fv at *
    generalize frK (md.take 6 ++ td) = fk at *
    clear hd hfe f4 HMB1 HMP
    go_wp2_with (go_at_call 26; refine (awake4_any _).mono ?_)
    rintro e w8 ⟨rfl, hx⟩
    have HX8 := Lib.hid (HX7.out.trans hx); clear hx
    go_wp2
    go_ret
    exact ⟨rfl, HX8.out⟩

end Go.Proofs.Ytcdhalgpnhdbnaa
