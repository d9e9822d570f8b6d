/-
  RowFills: the walk. MADE BY mkRowFills.py
-/
import Derived.Test.YtegclfpmgilnpaaRowE
import Derived.Test.YtegclfpmgilnpaaImgE
namespace Go.Proofs.Ytegclfpmgilnpaa
open Go.RowKit Go.Lac

theorem rcolS_nil (w : World) : ColS w (.slice none 0 0) Rl.zero.cols := ⟨none, 0, rfl, Nat.le_refl _, Nat.zero_le _, fun _ => rfl, fun x hx => by cases hx⟩
theorem rbRl0 (w : World) : (Instr.build 33 #[]).run Try.prog w = .ok (.agg #[.int .u32 0, .int .u32 0, .string ⟨#[]⟩, .int .u8 0, .slice none 0 0]) w := by kernel_rfl
theorem bldHo (w : World) (c s : Int) : (Instr.build 93 #[(0, .int .i64 c), (1, .int .i64 s)]).run Try.prog w = .ok (.agg #[.int .i64 c, .int .i64 s]) w := by kernel_rfl
theorem oneHo (w : World) (c s : Int) : (Instr.buildSlice 88 1 #[(0, .agg #[.int .i64 c, .int .i64 s])]).run Try.prog w = .ok (.slice (some ⟨w.heap.size, 0, none⟩) 1 1) (w.alloc (.cells #[.int .i64 c, .int .i64 s] 93)) := by kernel_rfl
def rfT (hb ho n hcap k : Nat) (c s : Int) (yv : Value) : Tmp → Kn
  | 7 => .any
  | 34 => .is yv
  | 35 => .is (.slice (some ⟨hb, ho, none⟩) n hcap)
  | 36 => .is (.int .i64 (k : Nat))
  | 37 => .is (.pointer (some ⟨hb, ho + k * 2, none⟩))
  | 38 => .is (.pointer (some ⟨hb, ho + k * 2, none⟩))
  | 39 => .is (.int .i64 c)
  | 40 => .is (.slice (some ⟨hb, ho, none⟩) n hcap)
  | 41 => .is (.int .i64 (k : Nat))
  | 42 => .is (.pointer (some ⟨hb, ho + k * 2, none⟩))
  | 43 => .is (.pointer (some ⟨hb, ho + k * 2 + 1, none⟩))
  | 44 => .is (.int .i64 s)
  | 45 => .is (.agg #[.int .i64 c, .int .i64 s])
  | 46 => .sl 1 [.int .i64 c, .int .i64 s]
  | 47 => .any
  | _ => .any
def Kn.hol (base : Nat) (n : Nat) (cs : List Value) : Kn := ⟨fun v w => w.ownsRow base 93 2 v n cs, fun _ _ _ k h => h.ext k⟩
def rfT' (base n : Nat) (cs : List Value) : Tmp → Kn
  | 47 => Kn.hol base n cs
  | 7 => Kn.hol base n cs
  | _ => .any
theorem hoS_of {base : Nat} {w : World} {v : Value} {l : List Ho} (h : w.ownsRow base 93 2 v l.length (HoC l)) : HoS w v l := Sl.ofOwns h
set_option maxRecDepth 20000 in
set_option maxHeartbeats 8000000 in
theorem rowFills_walk (v hv tv : Value) (l : List Cel) (hs : List Ho) (ts : List (List UInt8)) (w : World) (h1 : RcS w v l) (h2 : HoS w hv hs) (h3 : TxR w tv ts) :
    Calls Try.prog 9 #[v, hv, tv] w fun e w' => e = .returned (.bool true) ∧ Ext w w' := by
  have HG1 : Hid (Calls Try.prog 31 #[v, .agg #[.int .u32 0, .int .u32 0, .string ⟨#[]⟩, .int .u8 0, .slice none 0 0]] w fun e w' => e = .returned (.bool (decide (GreatR l .zero))) ∧ Ext w w') := Lib.hid (great10_any .zero v (.slice none 0 0) l w h1 (rcolS_nil w))
  have HV := Lib.hid h1; have HH := Lib.hid h2; have HT := Lib.hid h3
  have bz := rbRl0
  obtain ⟨vo, vcap, rfl, -, -⟩ := h1.shape
  obtain ⟨hao, hcap, rfl, k1, k2⟩ := h2.shape
  obtain ⟨tao, tcap, rfl, k3, k4⟩ := h3.shape
  have hh63 : hs.length ≤ 9223372036854775807 := by unfold maxLen at k2; omega
  have ht63 : ts.length ≤ 9223372036854775807 := by unfold maxLen at k4; omega
  have HLE : Hid (¬ GreatR l .zero → l.length ≤ 20) := Lib.hid fun h => (show l.length ≤ 20 from Nat.le_of_not_lt fun k => h (.inr (.inr (.inl k))))
  obtain ⟨ih, chh, _, csh, _⟩ := info_parts infoHoR
  obtain ⟨it, cht, _, cst, _⟩ := info_parts infoStrR
  obtain ⟨ip, cip, czp, csp, cbp⟩ := info_parts infoHoP
  have CHH := Lib.hid chh; have CSH := Lib.hid csh; have CHT := Lib.hid cht; have CST := Lib.hid cst; have CIP := Lib.hid cip; have CSP := Lib.hid csp; have CZP := Lib.hid czp; have CBP := Lib.hid cbp
  clear h1 h2 h3 k1 k2 k3 k4 chh csh cht cst cip csp czp cbp
  generalize hA : hs.length = n at *
  generalize hB : ts.length = tn at *
  generalize hC : l.length = m at *
  have HA := Lib.hid hA; have HB := Lib.hid hB; have HC := Lib.hid hC
  clear hA hB hC
  by_cases hG : GreatR l .zero
  · rw [decide_eq_true hG] at HG1
    clear hG HLE
    go_enter Try.func9, Try.ntmps9
    go_wp2_with fail
    refine HG1.out.mono ?_
    rintro e w2 ⟨rfl, hx2⟩
    have HX2 := Lib.hid hx2; clear hx2
    go_wp2
    go_ret
    exact ⟨rfl, HX2.out⟩
  rw [decide_eq_false hG] at HG1
  have HM20 := Lib.hid (HLE.out hG)
  clear hG HLE
  by_cases hn20 : (n : Int) > 20
  · go_enter Try.func9, Try.ntmps9
    go_wp2_with fail
    refine HG1.out.mono ?_
    rintro e w2 ⟨rfl, hx2⟩
    have HX2 := Lib.hid hx2; clear hx2
    go_wp2
    go_ret
    exact ⟨rfl, HX2.out⟩
  by_cases ht20 : (tn : Int) > 20
  · go_enter Try.func9, Try.ntmps9
    go_wp2_with fail
    refine HG1.out.mono ?_
    rintro e w2 ⟨rfl, hx2⟩
    have HX2 := Lib.hid hx2; clear hx2
    go_wp2
    go_ret
    exact ⟨rfl, HX2.out⟩
  have HN20 : Hid (n ≤ 20) := Lib.hid (by omega)
  go_enter Try.func9, Try.ntmps9
  go_wp2_with fail
  refine HG1.out.mono ?_
  rintro e w2 ⟨rfl, hx2⟩
  have HX2 : Hid (Ext w w2) := Lib.hid hx2
  clear hx2
  go_wp2
  clear hn20 ht20 bz HG1
  go_loopw [7, 8] (fun yv ix wr => ∃ k : Nat, k ≤ n ∧ ix = .int .i64 k ∧ Hid (Ext w wr) ∧ Hid (wr.ownsRow w.heap.size 93 2 yv k (HoC (hs.take k)))) (fun _ ix _ => n - (intOf ix).toNat)
  case atStart => exact ⟨0, Nat.zero_le _, rfl, HX2, Lib.hid (World.ownsRow_nil _ _ _ _)⟩
  case round =>
    obtain ⟨k, hk, rfl, HXr, HOW⟩ := hrel
    by_cases hlt : k < n
    · have hkh : k < hs.length := by have := HA.out; omega
      obtain ⟨hb, ho, rfl, q0, q1⟩ := (HH.out.ext HXr.out).at hkh
      have HLT := Lib.hid hlt
      have HKN : Hid (k < 20) := Lib.hid (by have := HN20.out; omega)
      have HNX : Hid (HoC (hs.take (k + 1)) = HoC (hs.take k) ++ [.int .i64 hs[k].c, .int .i64 hs[k].s]) := Lib.hid (by rw [List.take_succ_eq_append_getElem hkh, HoC_append]; rfl)
      have RC := Lib.hid q0; have RS := Lib.hid q1
      generalize hs[k].c = c at *
      generalize hs[k].s = s at *
      clear q0 q1 hlt hkh
      go_wp2
      refine wp_region_late (rfT hb ho n hcap k c s u7) (rfT' w.heap.size (k + 1) (HoC (hs.take (k + 1)))) 13 (fun w' => Ext w w') mixedR (by rfl) (by rfl) (by decide) ?all ?fin
      case all =>
          refine ⟨?_, ?_, ?_, ?_, ?_, ?_, ?_, ?_, ?_, ?_, ?_, ?_, ?_, ?_, ?_, trivial⟩
          · -- 0: slot 34 := Op.move t7
            refine StepG.early (by rfl) (by decide) rfl fun ρ w5 hρ hw hf => ?_
            have h7 : ρ (.tmp 7) = (u7) := (hf 7).2 rfl rfl
            exact Exec.kmove rfl rfl h7
          · -- 1: slot 35 := Op.move t1
            refine StepG.early (by rfl) (by decide) rfl fun ρ w5 hρ hw hf => ?_
            have h1 : ρ (.tmp 1) = (.slice (some ⟨hb, ho, none⟩) n hcap) := (hf 1).2 rfl rfl
            exact Exec.kmove rfl rfl h1
          · -- 2: slot 36 := Op.move t8
            refine StepG.early (by rfl) (by decide) rfl fun ρ w5 hρ hw hf => ?_
            have h8 : ρ (.tmp 8) = (.int .i64 (k : Nat)) := (hf 8).2 rfl rfl
            exact Exec.kmove rfl rfl h8
          · -- 3: slot 37 := Op.indexAddr 81 t35 t36
            refine StepG.early (by rfl) (by decide) rfl fun ρ w5 hρ hw hf => ?_
            have h35 : ρ (.tmp 35) = (.slice (some ⟨hb, ho, none⟩) n hcap) := (hf 35).1 rfl
            have h36 : ρ (.tmp 36) = (.int .i64 (k : Nat)) := (hf 36).1 rfl
            exact Exec.kindex rfl rfl Try.underlying81 CHH.out CSH.out h35 h36 HLT.out rfl
          · -- 4: slot 38 := Op.fieldAddr 92 t37 0
            refine StepG.early (by rfl) (by decide) rfl fun ρ w5 hρ hw hf => ?_
            have h37 : ρ (.tmp 37) = (.pointer (some ⟨hb, ho + k * 2, none⟩)) := (hf 37).1 rfl
            exact Exec.kfield rfl rfl h37 (fieldRHo0 w5 _ _) rfl
          · -- 5: slot 39 := Op.load 3 t38
            refine StepG.early (by rfl) (by decide) rfl fun ρ w5 hρ hw hf => ?_
            have h38 : ρ (.tmp 38) = (.pointer (some ⟨hb, ho + k * 2, none⟩)) := (hf 38).1 rfl
            have hc := hw.cell (p := ⟨hb, ho + k * 2, none⟩) (fun f => f) _ RC.out
            exact Exec.same (v := .int .i64 c) rfl (by simp [go_sem, hρ.const, h38, hc]) rfl
          · -- 6: slot 40 := Op.move t1
            refine StepG.early (by rfl) (by decide) rfl fun ρ w5 hρ hw hf => ?_
            have h1 : ρ (.tmp 1) = (.slice (some ⟨hb, ho, none⟩) n hcap) := (hf 1).2 rfl rfl
            exact Exec.kmove rfl rfl h1
          · -- 7: slot 41 := Op.move t8
            refine StepG.early (by rfl) (by decide) rfl fun ρ w5 hρ hw hf => ?_
            have h8 : ρ (.tmp 8) = (.int .i64 (k : Nat)) := (hf 8).2 rfl rfl
            exact Exec.kmove rfl rfl h8
          · -- 8: slot 42 := Op.indexAddr 81 t40 t41
            refine StepG.early (by rfl) (by decide) rfl fun ρ w5 hρ hw hf => ?_
            have h40 : ρ (.tmp 40) = (.slice (some ⟨hb, ho, none⟩) n hcap) := (hf 40).1 rfl
            have h41 : ρ (.tmp 41) = (.int .i64 (k : Nat)) := (hf 41).1 rfl
            exact Exec.kindex rfl rfl Try.underlying81 CHH.out CSH.out h40 h41 HLT.out rfl
          · -- 9: slot 43 := Op.fieldAddr 92 t42 1
            refine StepG.early (by rfl) (by decide) rfl fun ρ w5 hρ hw hf => ?_
            have h42 : ρ (.tmp 42) = (.pointer (some ⟨hb, ho + k * 2, none⟩)) := (hf 42).1 rfl
            exact Exec.kfield rfl rfl h42 (fieldRHo1 w5 _ _) rfl
          · -- 10: slot 44 := Op.load 3 t43
            refine StepG.early (by rfl) (by decide) rfl fun ρ w5 hρ hw hf => ?_
            have h43 : ρ (.tmp 43) = (.pointer (some ⟨hb, ho + k * 2 + 1, none⟩)) := (hf 43).1 rfl
            have hc := hw.cell (p := ⟨hb, ho + k * 2 + 1, none⟩) (fun f => f) _ RS.out
            exact Exec.same (v := .int .i64 s) rfl (by simp [go_sem, hρ.const, h43, hc]) rfl
          · -- 11: slot 45 := Op.build 93 #[(0, t39), (1, t44)]
            refine StepG.early (by rfl) (by decide) rfl fun ρ w5 hρ hw hf => ?_
            have h39 : ρ (.tmp 39) = (.int .i64 c) := (hf 39).1 rfl
            have h44 : ρ (.tmp 44) = (.int .i64 s) := (hf 44).1 rfl
            exact Exec.kbuild2 rfl rfl h39 h44 (bldHo w5 _ _) rfl
          · -- 12: slot 46 := Op.buildSlice 88 1 #[(0, t45)]
            refine StepG.early (by rfl) (by decide) rfl fun ρ w5 hρ hw hf => ?_
            have h45 : ρ (.tmp 45) = (.agg #[.int .i64 c, .int .i64 s]) := (hf 45).1 rfl
            refine Exec.kalloc (v := .slice (some ⟨w5.heap.size, 0, none⟩) 1 1) (ob := .cells #[.int .i64 c, .int .i64 s] 93) rfl ?_ ?_
            · unfold execOp
              simp only [List.map_toArray, List.map_cons, List.map_nil, h45, Sem.run_bind, oneHo, Result.andThen_ok, Sem.run_pure]
            · exact Sl.ofOwns (base := 0) (e := 93) (size := 2) (World.ownsRow_lit w5 #[.int .i64 c, .int .i64 s] 1 (Nat.zero_le _) (by decide) rfl)
          · -- 13: append
            refine StepG.write (late := [47, 7]) (by rfl) rfl (fun d v w w' hd _ => ?_) fun ρ w5 hρ hw hf => ?_
            · unfold rfT'
              split
              · exact absurd (by decide) hd
              · exact absurd (by decide) hd
              · exact trivial
            · have h34 : ρ (.tmp 34) = u7 := (hf 34).1 rfl
              have h46 : Sl w5 (ρ (.tmp 46)) 1 [.int .i64 c, .int .i64 s] := (hf 46).1 rfl
              have hown := HOW.out.ext hw
              refine (Exec.kappend rfl w.heap.size Try.underlying88 CIP.out CZP.out CSP.out CBP.out rfl (by decide) h34 hown h46 rfl (by intro u hu; simp at hu; rcases hu with rfl | rfl <;> rfl) (by have := HKN.out; omega) (by have := HKN.out; unfold maxLen; omega) (by have := HXr.out.size; have := hw.size; omega)).mono ?_
              rintro v' w' ⟨q1, q2⟩
              refine ⟨fun d hd => by cases hd; exact (show w'.ownsRow w.heap.size 93 2 v' (k + 1) (HoC (hs.take (k + 1))) from by rw [HNX.out]; exact q1), ?_⟩
              exact (HXr.out.trans hw).grown q2 fun k hk => .inr (hown.lt k hk).1
          · -- 14: assign
            refine StepG.later (late := [47, 7]) (by rfl) (by decide) rfl rfl fun ρ w5 hρ hw hf => ?_
            have h47 : w5.ownsRow w.heap.size 93 2 (ρ (.tmp 47)) (k + 1) (HoC (hs.take (k + 1))) := (hf 47).1 rfl
            exact Exec.assign rfl ⟨fun d hd => by cases hd; exact h47, rfl⟩
      case fin =>
        intro ν w6 hfin hx6
        have h7 : w6.ownsRow w.heap.size 93 2 (ν 7) (k + 1) (HoC (hs.take (k + 1))) := hfin 14 7 rfl
        have HX6 := Lib.hid hx6; have HO6 := Lib.hid h7
        simp only [Exit.then, ended, List.foldl_cons, List.foldl_nil, List.setIfInBounds_toArray, List.set_cons_succ, List.set_cons_zero]
        clear hfin hx6 h7
        generalize ν 7 = u7' at HO6 ⊢
        go_wp2
        go_roundw
        case rel => exact ⟨k + 1, HLT.out, by simp, HX6, HO6⟩
        case measure => simp [intOf]; have := HLT.out; omega
    · obtain rfl : n = k := by omega
      have HOF : Hid (wr.ownsRow w.heap.size 93 2 u7 hs.length (HoC hs)) := Lib.hid (by have := HOW.out; rwa [← HA.out, List.take_length] at this)
      have HXl := Lib.hid HXr.out
      clear HOW hlt
      generalize u7 = hv2 at *
      generalize wr = wB at *
      go_wp2
      go_loopw [9] (fun ix wr => ∃ k : Nat, k ≤ tn ∧ ix = .int .i64 k ∧ Hid (Ext wB wr)) (fun ix _ => tn - (intOf ix).toNat)
      case atStart => exact ⟨0, Nat.zero_le _, rfl, Lib.hid (Ch.refl _ _)⟩
      case round =>
        obtain ⟨k, hk, rfl, HXr⟩ := hrel
        by_cases hlt : k < tn
        · have hkt : k < ts.length := by have := HB.out; omega
          obtain ⟨tb, to, rfl, r0⟩ := (HT.out.ext (HXl.out.trans HXr.out)).at hkt
          have hidx := run_indexSl wr Try.underlying82 CHT.out CST.out tb to tn tcap k hlt
          rw [Nat.mul_one] at hidx
          have HLT := Lib.hid hlt
          generalize ts[k] = x at *
          unfold strV at r0
          have HX := Lib.hid (HXl.out.trans HXr.out)
          by_cases hx : 3000 < x.length
          · have hx2 : ((x.length : Nat) : Int) > 3000 := by omega
            clear hkt
            go_wp2
            go_ret
            exact ⟨rfl, HX.out⟩
          · have hx2 : ¬ ((x.length : Nat) : Int) > 3000 := by omega
            clear hkt
            go_wp2
            go_roundw
            case rel => exact ⟨k + 1, HLT.out, by simp, HXr⟩
            case measure => simp [intOf]; have := HLT.out; omega
        · obtain rfl : tn = k := by omega
          have HX := Lib.hid (HXl.out.trans HXr.out)
          have HHS : Hid (HoS wr hv2 hs) := Lib.hid ((hoS_of HOF.out).ext HXr.out)
          have HOW1 : Hid (Calls Try.prog 32 #[.slice vo m vcap] wr (PrPost l wr)) := Lib.hid (own10_any _ l wr (RcS.ext HV.out HX.out) (by have := HM20.out; have := HC.out; omega))
          have HL2 : Hid (l.length ≤ 100000) := Lib.hid (by have := HM20.out; have := HC.out; omega)
          have HS2 : Hid (hs.length ≤ 100000) := Lib.hid (by have := HN20.out; have := HA.out; omega)
          have HFL : Hid ((fillR l hs ts).length ≤ 100000) := Lib.hid (by unfold fillR; split; rw [fillZ_length]; exact HL2.out; simp)
          clear HXl HXr HOF hlt
          go_wp2_with fail
          refine HOW1.out.mono ?_
          rintro e w4 ⟨y, rfl, hx4, ho4⟩
          have HX4 := Lib.hid (HX.out.trans hx4); have HY4 := Lib.hid ho4.s
          have HFI := Lib.hid (fill_any y hv2 (.slice tao tn tcap) l hs ts w4 ho4.s (HHS.out.ext hx4) (HT.out.ext HX4.out) HL2.out HS2.out)
          clear hx4 ho4 HOW1 HHS
          go_wp2_with fail
          refine HFI.out.mono ?_
          rintro e w5 ⟨z, rfl, hx5, ho5⟩
          have HX5 := Lib.hid (HX4.out.trans hx5); have HZ5 := Lib.hid ho5.s; have HY5 := Lib.hid (PcS.ext HY4.out hx5)
          have HRF := Lib.hid (rfill_any (.slice vo m vcap) (.slice hao n hcap) (.slice tao tn tcap) l hs ts w5 (RcS.ext HV.out HX5.out) (HH.out.ext HX5.out) (HT.out.ext HX5.out) HL2.out HS2.out)
          clear hx5 ho5 HFI HY4
          go_wp2_with fail
          refine HRF.out.mono ?_
          rintro e w6 ⟨rz, rfl, hx6, ho6⟩
          generalize fillE l hs ts = E at *
          have HX6 := Lib.hid (HX5.out.trans hx6); have HZ6 := Lib.hid (PcS.ext HZ5.out hx6); have HY6 := Lib.hid (PcS.ext HY5.out hx6); have HR6 := Lib.hid ho6.s
          have HB1 := Lib.hid (back10_any z (fillR l hs ts) w6 HZ6.out HFL.out)
          clear hx6 ho6 HRF HZ5 HY5
          generalize fillR l hs ts = R at *
          go_wp2_with fail
          refine HB1.out.mono ?_
          rintro e w7 ⟨bz, rfl, hx7, ho7⟩
          have HX7 := Lib.hid (HX6.out.trans hx7); have HZ7 := Lib.hid (PcS.ext HZ6.out hx7); have HY7 := Lib.hid (PcS.ext HY6.out hx7); have HR7 := Lib.hid (RcS.ext HR6.out hx7)
          have HS1 := Lib.hid (sameR_any bz rz R R w7 ho7.s HR7.out)
          rw [decide_eq_true (rfl : R = R)] at HS1
          clear hx7 ho7 HB1 HZ6 HY6 HR6
          go_wp2_with fail
          refine HS1.out.mono ?_
          rintro e w8 ⟨rfl, hx8⟩
          have HX8 := Lib.hid (HX7.out.trans hx8); have HZ8 := Lib.hid (PcS.ext HZ7.out hx8); have HY8 := Lib.hid (PcS.ext HY7.out hx8); have HR8 := Lib.hid (RcS.ext HR7.out hx8)
          have HB2 := Lib.hid (back10_any y l w8 HY8.out HL2.out)
          clear hx8 HS1 HZ7 HY7 HR7
          go_wp2_with fail
          refine HB2.out.mono ?_
          rintro e w9 ⟨by', rfl, hx9, ho9⟩
          have HX9 := Lib.hid (HX8.out.trans hx9); have HZ9 := Lib.hid (PcS.ext HZ8.out hx9); have HY9 := Lib.hid (PcS.ext HY8.out hx9); have HR9 := Lib.hid (RcS.ext HR8.out hx9)
          have HS2' := Lib.hid (sameR_any by' (.slice vo m vcap) l l w9 ho9.s (RcS.ext HV.out HX9.out))
          rw [decide_eq_true (rfl : l = l)] at HS2'
          clear hx9 ho9 HB2 HZ8 HY8 HR8
          go_wp2_with fail
          refine HS2'.out.mono ?_
          rintro e w10 ⟨rfl, hx10⟩
          have HX10 := Lib.hid (HX9.out.trans hx10); have HR10 := Lib.hid (RcS.ext HR9.out hx10)
          have HAL := Lib.hid (alikeRow_any y z l R w10 (PcS.ext HY9.out hx10) (PcS.ext HZ9.out hx10))
          generalize hD : decide (l = R) = D at *
          have HDE := Lib.hid hD; clear hD
          clear hx10 HS2' HZ9 HY9 HR9
          go_wp2_with fail
          refine HAL.out.mono ?_
          rintro e w11 ⟨rfl, hx11⟩
          have HX11 := Lib.hid (HX10.out.trans hx11)
          have HS3 := Lib.hid (sameR_any (.slice vo m vcap) rz l R w11 (RcS.ext HV.out HX11.out) (RcS.ext HR10.out hx11))
          rw [HDE.out] at HS3
          clear hx11 HAL HR10
          go_wp2_with fail
          refine HS3.out.mono ?_
          rintro e w12 ⟨rfl, hx12⟩
          have HX12 := Lib.hid (HX11.out.trans hx12)
          have HAW := Lib.hid (awake10_any w12)
          have hDD : (D == D) = true := by simp
          clear hx12 HS3
          go_wp2_with fail
          refine HAW.out.mono ?_
          rintro e w13 ⟨rfl, hx13⟩
          have HX13 := Lib.hid (HX12.out.trans hx13)
          clear hx13 HAW
          go_wp2
          go_ret
          exact ⟨rfl, HX13.out⟩
end Go.Proofs.Ytegclfpmgilnpaa
