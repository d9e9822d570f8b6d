/-
  ImageMerged: the walk. MADE BY mkImgMerged.py
-/
import Derived.Test.YtdpebdbfphlmeaaImgN
import Derived.Test.YtdpebdbfphlmeaaImgO
import Derived.Test.YtdpebdbfphlmeaaImgE
namespace Go.Proofs.Ytdpebdbfphlmeaa
open Go.RowKit Go.Lac

theorem merge_at {b a : List Cel} {j : Nat} (h : j < (mergeL b a).length) : (mergeL b a)[j] = mc b a j := by simp [mergeL]
theorem merge_idem (b a : List Cel) : mergeL b (mergeL b a) = mergeL b a := by
  apply List.ext_getElem
  · simp [mergeL]
  · intro j h1 h2
    have hj : j < a.length := by rw [mergeL_length] at h2; exact h2
    rw [merge_at, merge_at]
    by_cases hb : j < b.length
    · by_cases hk : a[j].k = 1
      · have e : (mergeL b a)[j] = b[j] := by rw [merge_at, mc_same hj hb hk]
        by_cases hk2 : b[j].k = 1
        · rw [mc_same h2 hb (by rw [e]; exact hk2), mc_same hj hb hk]
        · rw [mc_not h2 (by rw [e]; exact hk2), e, mc_same hj hb hk]
      · have e : (mergeL b a)[j] = a[j] := by rw [merge_at, mc_not hj hk]
        rw [mc_not h2 (by rw [e]; exact hk), e, mc_not hj hk]
    · have e : (mergeL b a)[j] = a[j] := by rw [merge_at, mc_far hj hb]
      rw [mc_far h2 hb, e, mc_far hj hb]
theorem colS_nil (w : World) : ColS w (.slice none 0 0) Rl.zero.cols := ⟨none, 0, rfl, Nat.le_refl _, Nat.zero_le _, fun _ => rfl, fun x hx => by cases hx⟩
theorem bRl0 (w : World) : (Instr.build 27 #[]).run Try.prog w = .ok (.agg #[.int .u32 0, .int .u32 0, .string ⟨#[]⟩, .int .u8 0, .slice none 0 0]) w := by kernel_rfl
theorem u8_nfM {a : Nat} {z : Int} (h : (a : Int) ≠ z) : (((a : Nat) : Int) != z) = true := by rw [bne, beq_eq_false_iff_ne.2 h]; rfl
theorem u8_ntM {a : Nat} {z : Int} (h : (a : Int) = z) : (((a : Nat) : Int) != z) = false := by rw [h]; simp
def mgA (mb mo bb bo zb zo n mc bc zc k : Nat) (x y z : Cel) : Tmp → Kn
  | 54 => .is (.slice (some ⟨mb, mo, none⟩) n mc)
  | 55 => .is (.int .i64 (k : Nat))
  | 56 => .is (.pointer (some ⟨mb, mo + k * 5, none⟩))
  | 57 => .is (.pointer (some ⟨mb, mo + k * 5, none⟩))
  | 58 => .is (.int .u8 (x.k : Nat))
  | 59 => .is (.bool true)
  | 60 => .is (.bool true)
  | 61 => .is (.slice (some ⟨bb, bo, none⟩) n bc)
  | 62 => .is (.int .i64 (k : Nat))
  | 63 => .is (.pointer (some ⟨bb, bo + k * 5, none⟩))
  | 64 => .is (.pointer (some ⟨bb, bo + k * 5, none⟩))
  | 65 => .is (.int .u8 (y.k : Nat))
  | 66 => .is (.bool false)
  | 67 => .is (.bool false)
  | 68 => .is (.bool false)
  | 69 => .is (.slice (some ⟨zb, zo, none⟩) n zc)
  | 70 => .is (.int .i64 (k : Nat))
  | 71 => .is (.pointer (some ⟨zb, zo + k * 5, none⟩))
  | 72 => .is (.pointer (some ⟨zb, zo + k * 5, none⟩))
  | 73 => .is (.int .u8 (z.k : Nat))
  | 74 => .is (.bool false)
  | 75 => .is (.bool false)
  | 86 => .is (.bool false)
  | 87 => .is (.bool false)
  | _ => .any
def mgB (mb mo bb bo zb zo n mc bc zc k : Nat) (x y z : Cel) : Tmp → Kn
  | 54 => .is (.slice (some ⟨mb, mo, none⟩) n mc)
  | 55 => .is (.int .i64 (k : Nat))
  | 56 => .is (.pointer (some ⟨mb, mo + k * 5, none⟩))
  | 57 => .is (.pointer (some ⟨mb, mo + k * 5, none⟩))
  | 58 => .is (.int .u8 (x.k : Nat))
  | 59 => .is (.bool false)
  | 60 => .is (.bool false)
  | 67 => .is (.bool false)
  | 68 => .is (.bool false)
  | 69 => .is (.slice (some ⟨zb, zo, none⟩) n zc)
  | 70 => .is (.int .i64 (k : Nat))
  | 71 => .is (.pointer (some ⟨zb, zo + k * 5, none⟩))
  | 72 => .is (.pointer (some ⟨zb, zo + k * 5, none⟩))
  | 73 => .is (.int .u8 (z.k : Nat))
  | 74 => .is (.bool false)
  | 75 => .is (.bool false)
  | 86 => .is (.bool false)
  | 87 => .is (.bool false)
  | _ => .any
def mgC (mb mo bb bo zb zo n mc bc zc k : Nat) (x y z : Cel) : Tmp → Kn
  | 54 => .is (.slice (some ⟨mb, mo, none⟩) n mc)
  | 55 => .is (.int .i64 (k : Nat))
  | 56 => .is (.pointer (some ⟨mb, mo + k * 5, none⟩))
  | 57 => .is (.pointer (some ⟨mb, mo + k * 5, none⟩))
  | 58 => .is (.int .u8 (x.k : Nat))
  | 59 => .is (.bool false)
  | 60 => .is (.bool false)
  | 67 => .is (.bool false)
  | 68 => .is (.bool false)
  | 69 => .is (.slice (some ⟨zb, zo, none⟩) n zc)
  | 70 => .is (.int .i64 (k : Nat))
  | 71 => .is (.pointer (some ⟨zb, zo + k * 5, none⟩))
  | 72 => .is (.pointer (some ⟨zb, zo + k * 5, none⟩))
  | 73 => .is (.int .u8 (z.k : Nat))
  | 74 => .is (.bool true)
  | 75 => .is (.bool true)
  | 76 => .is (.slice (some ⟨mb, mo, none⟩) n mc)
  | 77 => .is (.int .i64 (k : Nat))
  | 78 => .is (.pointer (some ⟨mb, mo + k * 5, none⟩))
  | 79 => .is (pc x)
  | 80 => .is (.slice (some ⟨zb, zo, none⟩) n zc)
  | 81 => .is (.int .i64 (k : Nat))
  | 82 => .is (.pointer (some ⟨zb, zo + k * 5, none⟩))
  | 83 => .is (pc z)
  | 84 => .is (.bool true)
  | 85 => .is (.bool false)
  | 86 => .is (.bool false)
  | 87 => .is (.bool false)
  | _ => .any
set_option maxRecDepth 20000 in
set_option maxHeartbeats 8000000 in
theorem imageMerged_walk (v1 v2 : Value) (b a : List Cel) (w : World) (h1 : RcS w v1 b) (h2 : RcS w v2 a) :
    Calls Try.prog 6 #[v1, v2] w fun e w' => e = .returned (.bool true) ∧ Ext w w' := by
  have HG1 : Hid (Calls Try.prog 8 #[v1, .agg #[.int .u32 0, .int .u32 0, .string ⟨#[]⟩, .int .u8 0, .slice none 0 0]] w fun e w' => e = .returned (.bool (decide (GreatR b .zero))) ∧ Ext w w') := Lib.hid (great10_any .zero v1 (.slice none 0 0) b w h1 (colS_nil w))
  have HG2 : Hid (∀ W', Ext w W' → Calls Try.prog 8 #[v2, .agg #[.int .u32 0, .int .u32 0, .string ⟨#[]⟩, .int .u8 0, .slice none 0 0]] W' fun e w' => e = .returned (.bool (decide (GreatR a .zero))) ∧ Ext W' w') := Lib.hid (fun W' h => great10_any .zero v2 (.slice none 0 0) a W' (RcS.ext h2 h) (colS_nil W'))
  have HAW := Lib.hid awake12_any
  have HV1 := Lib.hid h1; have HV2 := Lib.hid h2
  have bz := bRl0
  obtain ⟨bo, bcap, rfl, k1, k2⟩ := h1.shape
  obtain ⟨ao, acap, rfl, k3, k4⟩ := h2.shape
  have HLE1 := Lib.hid (fun h : ¬ GreatR b .zero => (show b.length ≤ 20 from Nat.le_of_not_lt fun k => h (.inr (.inr (.inl k)))))
  have hm1 : b.length ≤ 9223372036854775807 := by unfold maxLen at k2; omega
  have hm2 : a.length ≤ 9223372036854775807 := by unfold maxLen at k4; omega
  clear h1 h2 k1 k2 k3 k4
  by_cases hG : GreatR b .zero
  · rw [decide_eq_true hG] at HG1
    clear hG HG2
    generalize b.length = nb at *
    generalize a.length = na at *
    go_enter Try.func6, Try.ntmps6
    go_wp2_with fail
    refine HG1.out.mono ?_
    rintro e w2 ⟨rfl, hx2⟩
    have HX2 := Lib.hid hx2; clear hx2
    go_wp2
    go_ret
    exact ⟨rfl, HX2.out⟩
  rw [decide_eq_false hG] at HG1
  have HLB := Lib.hid (HLE1.out hG)
  clear hG HLE1
  by_cases hG : GreatR a .zero
  · rw [decide_eq_true hG] at HG2
    clear hG
    generalize b.length = nb at *
    generalize a.length = na at *
    go_enter Try.func6, Try.ntmps6
    go_wp2_with fail
    refine HG1.out.mono ?_
    rintro e w2 ⟨rfl, hx2⟩
    have HX2 := Lib.hid hx2; clear hx2
    go_wp2_with fail
    refine (HG2.out w2 HX2.out).mono ?_
    rintro e w3 ⟨rfl, hx3⟩
    have HX3 := Lib.hid (HX2.out.trans hx3); clear hx3
    go_wp2
    go_ret
    exact ⟨rfl, HX3.out⟩
  rw [decide_eq_false hG] at HG2
  clear hG
  by_cases hl : b.length = a.length
  case neg =>
    have hle : (((b.length : Nat) : Int) == ((a.length : Nat) : Int)) = false := beq_eq_false_iff_ne.2 (by omega)
    have hle2 : (((b.length : Nat) : Int) != ((a.length : Nat) : Int)) = true := by rw [bne, hle]; rfl
    clear hl
    generalize b.length = nb at *
    generalize a.length = na at *
    go_enter Try.func6, Try.ntmps6
    go_wp2_with fail
    refine HG1.out.mono ?_
    rintro e w2 ⟨rfl, hx2⟩
    have HX2 := Lib.hid hx2; clear hx2
    go_wp2_with fail
    refine (HG2.out w2 HX2.out).mono ?_
    rintro e w3 ⟨rfl, hx3⟩
    have HX3 := Lib.hid (HX2.out.trans hx3); clear hx3
    go_wp2
    go_ret
    exact ⟨rfl, HX3.out⟩
  have HO1 : Hid (∀ W', Ext w W' → Calls Try.prog 10 #[.slice bo b.length bcap] W' fun e w'' => ∃ y, e = .returned y ∧ Ext W' w'' ∧ PcS w'' y b ∧ ∃ yo yc, y = .slice yo b.length yc) := Lib.hid (fun W' h => (own10_any _ b W' (RcS.ext HV1.out h) (by have := HLB.out; omega)).mono fun e w'' ⟨y, h1, h2, h3⟩ => ⟨y, h1, h2, h3.s, owns_shape h3⟩)
  have HO2 : Hid (∀ W', Ext w W' → Calls Try.prog 10 #[.slice ao a.length acap] W' fun e w'' => ∃ y, e = .returned y ∧ Ext W' w'' ∧ PcS w'' y a ∧ ∃ yo yc, y = .slice yo a.length yc) := Lib.hid (fun W' h => (own10_any _ a W' (RcS.ext HV2.out h) (by have := HLB.out; omega)).mono fun e w'' ⟨y, h1, h2, h3⟩ => ⟨y, h1, h2, h3.s, owns_shape h3⟩)
  have HMG : Hid (∀ u u' (x : List Cel) W', PcS W' u b → PcS W' u' x → x.length = a.length → Calls Try.prog 22 #[u, u'] W' fun e w'' => ∃ y, e = .returned y ∧ Ext W' w'' ∧ PcS w'' y (mergeL b x) ∧ ∃ yo yc, y = .slice yo a.length yc) := Lib.hid (fun u u' x W' h h' hx => (merge_any u u' b x W' h h' (by have := HLB.out; omega)).mono fun e w'' ⟨y, h1, h2, h3⟩ => ⟨y, h1, h2, h3.s, by obtain ⟨p, q, hh⟩ := owns_shape h3; rw [mergeL_length, hx] at hh; exact ⟨p, q, hh⟩⟩)
  have HML := Lib.hid (mergeL_length b a)
  have HMI := Lib.hid (merge_idem b a)
  have HBL := Lib.hid hl
  generalize hn : a.length = n at *
  rw [hl] at HO1 HG1 HV1 ⊢
  have HN := Lib.hid hn
  clear hn hl hm1
  go_enter Try.func6, Try.ntmps6
  go_wp2_with fail
  refine HG1.out.mono ?_
  rintro e w2 ⟨rfl, hx2⟩
  have HX2 := Lib.hid hx2; clear hx2
  go_wp2_with fail
  refine (HG2.out w2 HX2.out).mono ?_
  rintro e w3 ⟨rfl, hx3⟩
  have HX3 := Lib.hid (HX2.out.trans hx3); clear hx3
  go_wp2_with fail
  refine (HO1.out w3 HX3.out).mono ?_
  rintro e w4 ⟨y, rfl, hx4, hy4, yo, yc, rfl⟩
  have HX4 := Lib.hid (HX3.out.trans hx4); have HY4 := Lib.hid hy4
  clear hx4 hy4
  go_wp2_with fail
  refine (HO2.out w4 HX4.out).mono ?_
  rintro e w5 ⟨z, rfl, hx5, hz5, zo, zc, rfl⟩
  have HX5 := Lib.hid (HX4.out.trans hx5); have HY5 := Lib.hid (PcS.ext HY4.out hx5); have HZ5 := Lib.hid hz5
  clear hx5 hz5
  go_wp2_with fail
  refine (HMG.out _ _ a w5 HY5.out HZ5.out HN.out).mono ?_
  rintro e w6 ⟨m, rfl, hx6, hm6, mo, mc', rfl⟩
  have HX6 := Lib.hid (HX5.out.trans hx6); have HY6 := Lib.hid (PcS.ext HY5.out hx6); have HZ6 := Lib.hid (PcS.ext HZ5.out hx6); have HM6 := Lib.hid hm6
  have HMLN : Hid ((mergeL b a).length = n) := Lib.hid (by rw [HML.out])
  clear hx6 hm6
  go_wp2_with fail
  refine (HMG.out _ _ (mergeL b a) w6 HY6.out HM6.out HMLN.out).mono ?_
  rintro e w7 ⟨m1, rfl, hx7, hm7, mo1, mc1, rfl⟩
  rw [HMI.out] at hm7
  have HX7 := Lib.hid (HX6.out.trans hx7); have HY7 := Lib.hid (PcS.ext HY6.out hx7); have HZ7 := Lib.hid (PcS.ext HZ6.out hx7); have HM7 := Lib.hid (PcS.ext HM6.out hx7); have HP7 := Lib.hid hm7
  clear hx7 hm7
  go_wp2_with fail
  refine (HMG.out _ _ (mergeL b a) w7 HY7.out HM7.out HMLN.out).mono ?_
  rintro e w8 ⟨m2, rfl, hx8, hm8, mo2, mc2, rfl⟩
  rw [HMI.out] at hm8
  have HX8 := Lib.hid (HX7.out.trans hx8); have HY8 := Lib.hid (PcS.ext HY7.out hx8); have HZ8 := Lib.hid (PcS.ext HZ7.out hx8); have HM8 := Lib.hid (PcS.ext HM7.out hx8); have HP8 := Lib.hid (PcS.ext HP7.out hx8); have HQ8 := Lib.hid hm8
  clear hx8 hm8
  go_wp2_with fail
  refine (HMG.out _ _ (mergeL b a) w8 HY8.out HQ8.out HMLN.out).mono ?_
  rintro e w9 ⟨m3, rfl, hx9, hm9, mo3, mc3, rfl⟩
  rw [HMI.out] at hm9
  have HX9 := Lib.hid (HX8.out.trans hx9); have HY9 := Lib.hid (PcS.ext HY8.out hx9); have HZ9 := Lib.hid (PcS.ext HZ8.out hx9); have HM9 := Lib.hid (PcS.ext HM8.out hx9); have HP9 := Lib.hid (PcS.ext HP8.out hx9); have HR9 := Lib.hid hm9
  clear hx9 hm9
  go_wp2_with fail
  refine (alikeRow_any _ _ _ _ w9 HP9.out HR9.out).mono ?_
  rintro e w10 ⟨rfl, hx10⟩
  rw [decide_eq_true rfl]
  have HX10 := Lib.hid (HX9.out.trans hx10); have HY10 := Lib.hid (PcS.ext HY9.out hx10); have HZ10 := Lib.hid (PcS.ext HZ9.out hx10); have HM10 := Lib.hid (PcS.ext HM9.out hx10)
  clear hx10
  obtain ⟨ci, chi, _, chs, _⟩ := info_parts infoPrZ
  have CHI := Lib.hid chi; have CSI := Lib.hid chs
  clear chi chs
  go_wp2
  go_loopw [8] (fun ix wr => ∃ k : Nat, k ≤ n ∧ ix = .int .i64 k ∧ Hid (Ext w10 wr)) (fun ix _ => n - (intOf ix).toNat)
  case atStart => exact ⟨0, Nat.zero_le _, rfl, Lib.hid (Ch.refl _ _)⟩
  case round =>
    obtain ⟨k, hk, rfl, HXR⟩ := hrel
    by_cases hlt : k < n
    · have hkm : k < (mergeL b a).length := by rw [HMLN.out]; exact hlt
      have hkb : k < b.length := by rw [HBL.out]; exact hlt
      have hka : k < a.length := by rw [HN.out]; exact hlt
      obtain ⟨mb, mo', rfl, hrm⟩ := (PcS.ext HM10.out HXR.out).at hkm
      obtain ⟨bb, bo', rfl, hrb⟩ := (PcS.ext HY10.out HXR.out).at hkb
      obtain ⟨zb, zo', rfl, hrz⟩ := (PcS.ext HZ10.out HXR.out).at hka
      have HC1 := Lib.hid (fun h : a[k].k = 1 => (merge_at hkm).trans (mc_same hka hkb h))
      have HC2 := Lib.hid (fun h : ¬ a[k].k = 1 => (merge_at hkm).trans (mc_not hka h))
      generalize (mergeL b a)[k] = x at *
      generalize b[k] = y at *
      generalize a[k] = z at *
      have HRX := Lib.hid hrm; have HRZ := Lib.hid hrz
      have HKX : Hid (wr.cell? ⟨mb, mo' + k * 5, none⟩ = some (.int .u8 (x.k : Nat))) := Lib.hid (by have := hrm 0 _ rfl; simpa using this)
      have HKY : Hid (wr.cell? ⟨bb, bo' + k * 5, none⟩ = some (.int .u8 (y.k : Nat))) := Lib.hid (by have := hrb 0 _ rfl; simpa using this)
      have HKZ : Hid (wr.cell? ⟨zb, zo' + k * 5, none⟩ = some (.int .u8 (z.k : Nat))) := Lib.hid (by have := hrz 0 _ rfl; simpa using this)
      have HLT := Lib.hid hlt
      clear hrm hrb hrz hkm hkb hka
      go_wp2
      by_cases hz : z.k = 1
      · have hxy := HC1.out hz
        have EZ : Hid ((((z.k : Nat) : Int) != 1) = false) := Lib.hid (u8_ntM (by omega))
        by_cases hy : y.k = 1
        · have EX : Hid ((((x.k : Nat) : Int) == 1) = true) := Lib.hid (by rw [hxy, hy]; rfl)
          have EY : Hid ((((y.k : Nat) : Int) != 1) = false) := Lib.hid (u8_ntM (by omega))
          clear hxy hz hy
          refine wp_region_ext (mgA mb mo' bb bo' zb zo' n mc' yc zc k x y z) mixedR (by rfl) (by rfl) ?all ?fin
          case all =>
            refine ⟨?_, ?_, ?_, ?_, ?_, ?_, ?_, ?_, ?_, ?_, ?_, ?_, ?_, ?_, ?_, ?_, ?_, ?_, ?_, ?_, ?_, ?_, ?_, ?_, ?_, ?_, ?_, ?_, ?_, ?_, ?_, ?_, ?_, ?_, trivial⟩
            · refine StepOK.plain (kn_stable _) rfl fun ρ w' hρ hw hf => ?_
              have h7 : ρ (.tmp 7) = (.slice (some ⟨mb, mo', none⟩) n mc') := (hf 7).2 rfl rfl
              exact Exec.kmove rfl rfl h7
            · refine StepOK.plain (kn_stable _) rfl fun ρ w' hρ hw hf => ?_
              have h8 : ρ (.tmp 8) = (.int .i64 (k : Nat)) := (hf 8).2 rfl rfl
              exact Exec.kmove rfl rfl h8
            · refine StepOK.plain (kn_stable _) rfl fun ρ w' hρ hw hf => ?_
              have h54 : ρ (.tmp 54) = (.slice (some ⟨mb, mo', none⟩) n mc') := (hf 54).1 rfl
              have h55 : ρ (.tmp 55) = (.int .i64 (k : Nat)) := (hf 55).1 rfl
              exact Exec.kindex rfl rfl Try.underlying36 CHI.out CSI.out h54 h55 HLT.out rfl
            · refine StepOK.plain (kn_stable _) rfl fun ρ w' hρ hw hf => ?_
              have h56 : ρ (.tmp 56) = (.pointer (some ⟨mb, mo' + k * 5, none⟩)) := (hf 56).1 rfl
              exact Exec.kfield rfl rfl h56 (fieldP0 w' _ _) rfl
            · refine StepOK.plain (kn_stable _) rfl fun ρ w' hρ hw hf => ?_
              have h57 : ρ (.tmp 57) = (.pointer (some ⟨mb, mo' + k * 5, none⟩)) := (hf 57).1 rfl
              have hc : w'.cell? ⟨mb, mo' + k * 5, none⟩ = some (.int .u8 (x.k : Nat)) := hw.cell (p := ⟨mb, mo' + k * 5, none⟩) (fun f => f) _ (HKX.out)
              exact Exec.same (v := (.int .u8 (x.k : Nat))) rfl (by simp [go_sem, hρ.const, h57, hc, strV]) rfl
            · refine StepOK.plain (kn_stable _) rfl fun ρ w' hρ hw hf => ?_
              have h58 : ρ (.tmp 58) = (.int .u8 (x.k : Nat)) := (hf 58).1 rfl
              exact Exec.same (v := (.bool true)) rfl (by simp [go_sem, hρ.const, h58, EX.out]) rfl
            · refine StepOK.plain (kn_stable _) rfl fun ρ w' hρ hw hf => ?_
              have h59 : ρ (.tmp 59) = (.bool true) := (hf 59).1 rfl
              exact Exec.kmove rfl rfl h59
            · refine StepOK.guarded (kn_stable _) 6 true 60 rfl rfl (fun ρ w _ _ hf => (hf 60).1 rfl) fun ρ w' hρ hw hf => ?_
              have h5 : ρ (.tmp 5) = (.slice (some ⟨bb, bo', none⟩) n yc) := (hf 5).2 rfl rfl
              exact Exec.kmove rfl rfl h5
            · refine StepOK.guarded (kn_stable _) 6 true 60 rfl rfl (fun ρ w _ _ hf => (hf 60).1 rfl) fun ρ w' hρ hw hf => ?_
              have h8 : ρ (.tmp 8) = (.int .i64 (k : Nat)) := (hf 8).2 rfl rfl
              exact Exec.kmove rfl rfl h8
            · refine StepOK.guarded (kn_stable _) 6 true 60 rfl rfl (fun ρ w _ _ hf => (hf 60).1 rfl) fun ρ w' hρ hw hf => ?_
              have h61 : ρ (.tmp 61) = (.slice (some ⟨bb, bo', none⟩) n yc) := (hf 61).1 rfl
              have h62 : ρ (.tmp 62) = (.int .i64 (k : Nat)) := (hf 62).1 rfl
              exact Exec.kindex rfl rfl Try.underlying36 CHI.out CSI.out h61 h62 HLT.out rfl
            · refine StepOK.guarded (kn_stable _) 6 true 60 rfl rfl (fun ρ w _ _ hf => (hf 60).1 rfl) fun ρ w' hρ hw hf => ?_
              have h63 : ρ (.tmp 63) = (.pointer (some ⟨bb, bo' + k * 5, none⟩)) := (hf 63).1 rfl
              exact Exec.kfield rfl rfl h63 (fieldP0 w' _ _) rfl
            · refine StepOK.guarded (kn_stable _) 6 true 60 rfl rfl (fun ρ w _ _ hf => (hf 60).1 rfl) fun ρ w' hρ hw hf => ?_
              have h64 : ρ (.tmp 64) = (.pointer (some ⟨bb, bo' + k * 5, none⟩)) := (hf 64).1 rfl
              have hc : w'.cell? ⟨bb, bo' + k * 5, none⟩ = some (.int .u8 (y.k : Nat)) := hw.cell (p := ⟨bb, bo' + k * 5, none⟩) (fun f => f) _ (HKY.out)
              exact Exec.same (v := (.int .u8 (y.k : Nat))) rfl (by simp [go_sem, hρ.const, h64, hc, strV]) rfl
            · refine StepOK.guarded (kn_stable _) 6 true 60 rfl rfl (fun ρ w _ _ hf => (hf 60).1 rfl) fun ρ w' hρ hw hf => ?_
              have h65 : ρ (.tmp 65) = (.int .u8 (y.k : Nat)) := (hf 65).1 rfl
              exact Exec.same (v := (.bool false)) rfl (by simp [go_sem, hρ.const, h65, EY.out]) rfl
            · refine StepOK.plain (kn_stable _) rfl fun ρ w' hρ hw hf => ?_
              have h60 : ρ (.tmp 60) = (.bool true) := (hf 60).1 rfl
              have h66 : ρ (.tmp 66) = (.bool false) := (hf 66).1 rfl
              exact Exec.kpickT rfl rfl h60 h66
            · refine StepOK.plain (kn_stable _) rfl fun ρ w' hρ hw hf => ?_
              have h67 : ρ (.tmp 67) = (.bool false) := (hf 67).1 rfl
              exact Exec.kmove rfl rfl h67
            · refine StepOK.guarded (kn_stable _) 14 false 68 rfl rfl (fun ρ w _ _ hf => (hf 68).1 rfl) fun ρ w' hρ hw hf => ?_
              have h6 : ρ (.tmp 6) = (.slice (some ⟨zb, zo', none⟩) n zc) := (hf 6).2 rfl rfl
              exact Exec.kmove rfl rfl h6
            · refine StepOK.guarded (kn_stable _) 14 false 68 rfl rfl (fun ρ w _ _ hf => (hf 68).1 rfl) fun ρ w' hρ hw hf => ?_
              have h8 : ρ (.tmp 8) = (.int .i64 (k : Nat)) := (hf 8).2 rfl rfl
              exact Exec.kmove rfl rfl h8
            · refine StepOK.guarded (kn_stable _) 14 false 68 rfl rfl (fun ρ w _ _ hf => (hf 68).1 rfl) fun ρ w' hρ hw hf => ?_
              have h69 : ρ (.tmp 69) = (.slice (some ⟨zb, zo', none⟩) n zc) := (hf 69).1 rfl
              have h70 : ρ (.tmp 70) = (.int .i64 (k : Nat)) := (hf 70).1 rfl
              exact Exec.kindex rfl rfl Try.underlying36 CHI.out CSI.out h69 h70 HLT.out rfl
            · refine StepOK.guarded (kn_stable _) 14 false 68 rfl rfl (fun ρ w _ _ hf => (hf 68).1 rfl) fun ρ w' hρ hw hf => ?_
              have h71 : ρ (.tmp 71) = (.pointer (some ⟨zb, zo' + k * 5, none⟩)) := (hf 71).1 rfl
              exact Exec.kfield rfl rfl h71 (fieldP0 w' _ _) rfl
            · refine StepOK.guarded (kn_stable _) 14 false 68 rfl rfl (fun ρ w _ _ hf => (hf 68).1 rfl) fun ρ w' hρ hw hf => ?_
              have h72 : ρ (.tmp 72) = (.pointer (some ⟨zb, zo' + k * 5, none⟩)) := (hf 72).1 rfl
              have hc : w'.cell? ⟨zb, zo' + k * 5, none⟩ = some (.int .u8 (z.k : Nat)) := hw.cell (p := ⟨zb, zo' + k * 5, none⟩) (fun f => f) _ (HKZ.out)
              exact Exec.same (v := (.int .u8 (z.k : Nat))) rfl (by simp [go_sem, hρ.const, h72, hc, strV]) rfl
            · refine StepOK.guarded (kn_stable _) 14 false 68 rfl rfl (fun ρ w _ _ hf => (hf 68).1 rfl) fun ρ w' hρ hw hf => ?_
              have h73 : ρ (.tmp 73) = (.int .u8 (z.k : Nat)) := (hf 73).1 rfl
              exact Exec.same (v := (.bool false)) rfl (by simp [go_sem, hρ.const, h73, EZ.out]) rfl
            · refine StepOK.guarded (kn_stable _) 14 false 68 rfl rfl (fun ρ w _ _ hf => (hf 68).1 rfl) fun ρ w' hρ hw hf => ?_
              have h74 : ρ (.tmp 74) = (.bool false) := (hf 74).1 rfl
              exact Exec.kmove rfl rfl h74
            · exact StepOK.skipped (kn_stable _) (fun w => Ch.refl _ _) 21 true 75 rfl rfl (fun ρ w _ _ hf => .inl ((hf 75).1 rfl)) (fun w d hd => by cases hd; trivial)
            · exact StepOK.skipped (kn_stable _) (fun w => Ch.refl _ _) 21 true 75 rfl rfl (fun ρ w _ _ hf => .inl ((hf 75).1 rfl)) (fun w d hd => by cases hd; trivial)
            · exact StepOK.skipped (kn_stable _) (fun w => Ch.refl _ _) 21 true 75 rfl rfl (fun ρ w _ _ hf => .inl ((hf 75).1 rfl)) (fun w d hd => by cases hd; trivial)
            · exact StepOK.skipped (kn_stable _) (fun w => Ch.refl _ _) 21 true 75 rfl rfl (fun ρ w _ _ hf => .inl ((hf 75).1 rfl)) (fun w d hd => by cases hd; trivial)
            · exact StepOK.skipped (kn_stable _) (fun w => Ch.refl _ _) 21 true 75 rfl rfl (fun ρ w _ _ hf => .inl ((hf 75).1 rfl)) (fun w d hd => by cases hd; trivial)
            · exact StepOK.skipped (kn_stable _) (fun w => Ch.refl _ _) 21 true 75 rfl rfl (fun ρ w _ _ hf => .inl ((hf 75).1 rfl)) (fun w d hd => by cases hd; trivial)
            · exact StepOK.skipped (kn_stable _) (fun w => Ch.refl _ _) 21 true 75 rfl rfl (fun ρ w _ _ hf => .inl ((hf 75).1 rfl)) (fun w d hd => by cases hd; trivial)
            · exact StepOK.skipped (kn_stable _) (fun w => Ch.refl _ _) 21 true 75 rfl rfl (fun ρ w _ _ hf => .inl ((hf 75).1 rfl)) (fun w d hd => by cases hd; trivial)
            · exact StepOK.skipped (kn_stable _) (fun w => Ch.refl _ _) 21 true 75 rfl rfl (fun ρ w _ _ hf => .inl ((hf 75).1 rfl)) (fun w d hd => by cases hd; trivial)
            · exact StepOK.skipped (kn_stable _) (fun w => Ch.refl _ _) 21 true 75 rfl rfl (fun ρ w _ _ hf => .inl ((hf 75).1 rfl)) (fun w d hd => by cases hd; trivial)
            · refine StepOK.guarded (kn_stable _) 14 false 68 rfl rfl (fun ρ w _ _ hf => (hf 68).1 rfl) fun ρ w' hρ hw hf => ?_
              have h75 : ρ (.tmp 75) = (.bool false) := (hf 75).1 rfl
              exact Exec.kpickF rfl rfl h75 (hρ.const _)
            · refine StepOK.plain (kn_stable _) rfl fun ρ w' hρ hw hf => ?_
              have h68 : ρ (.tmp 68) = (.bool false) := (hf 68).1 rfl
              have h86 : ρ (.tmp 86) = (.bool false) := (hf 86).1 rfl
              exact Exec.kpickF rfl rfl h68 h86
          case fin =>
            intro ν w9 hfin hx9
            have e0 : ν 87 = .bool false := hfin 33 87 rfl
            simp only [Exit.then, ended, List.foldl_cons, List.foldl_nil, List.setIfInBounds_toArray, List.set_cons_succ, List.set_cons_zero, e0]
            have HX9' := Lib.hid (HXR.out.trans hx9)
            clear hfin hx9 e0
            go_wp2
            go_roundw
            case rel => exact ⟨k + 1, HLT.out, by simp, HX9'⟩
            case measure => simp [intOf]; have := HLT.out; omega
        · have EX : Hid ((((x.k : Nat) : Int) == 1) = false) := Lib.hid (by rw [hxy]; exact beq_eq_false_iff_ne.2 (by omega))
          clear hxy hz hy
          refine wp_region_ext (mgB mb mo' bb bo' zb zo' n mc' yc zc k x y z) mixedR (by rfl) (by rfl) ?all ?fin
          case all =>
            refine ⟨?_, ?_, ?_, ?_, ?_, ?_, ?_, ?_, ?_, ?_, ?_, ?_, ?_, ?_, ?_, ?_, ?_, ?_, ?_, ?_, ?_, ?_, ?_, ?_, ?_, ?_, ?_, ?_, ?_, ?_, ?_, ?_, ?_, ?_, trivial⟩
            · refine StepOK.plain (kn_stable _) rfl fun ρ w' hρ hw hf => ?_
              have h7 : ρ (.tmp 7) = (.slice (some ⟨mb, mo', none⟩) n mc') := (hf 7).2 rfl rfl
              exact Exec.kmove rfl rfl h7
            · refine StepOK.plain (kn_stable _) rfl fun ρ w' hρ hw hf => ?_
              have h8 : ρ (.tmp 8) = (.int .i64 (k : Nat)) := (hf 8).2 rfl rfl
              exact Exec.kmove rfl rfl h8
            · refine StepOK.plain (kn_stable _) rfl fun ρ w' hρ hw hf => ?_
              have h54 : ρ (.tmp 54) = (.slice (some ⟨mb, mo', none⟩) n mc') := (hf 54).1 rfl
              have h55 : ρ (.tmp 55) = (.int .i64 (k : Nat)) := (hf 55).1 rfl
              exact Exec.kindex rfl rfl Try.underlying36 CHI.out CSI.out h54 h55 HLT.out rfl
            · refine StepOK.plain (kn_stable _) rfl fun ρ w' hρ hw hf => ?_
              have h56 : ρ (.tmp 56) = (.pointer (some ⟨mb, mo' + k * 5, none⟩)) := (hf 56).1 rfl
              exact Exec.kfield rfl rfl h56 (fieldP0 w' _ _) rfl
            · refine StepOK.plain (kn_stable _) rfl fun ρ w' hρ hw hf => ?_
              have h57 : ρ (.tmp 57) = (.pointer (some ⟨mb, mo' + k * 5, none⟩)) := (hf 57).1 rfl
              have hc : w'.cell? ⟨mb, mo' + k * 5, none⟩ = some (.int .u8 (x.k : Nat)) := hw.cell (p := ⟨mb, mo' + k * 5, none⟩) (fun f => f) _ (HKX.out)
              exact Exec.same (v := (.int .u8 (x.k : Nat))) rfl (by simp [go_sem, hρ.const, h57, hc, strV]) rfl
            · refine StepOK.plain (kn_stable _) rfl fun ρ w' hρ hw hf => ?_
              have h58 : ρ (.tmp 58) = (.int .u8 (x.k : Nat)) := (hf 58).1 rfl
              exact Exec.same (v := (.bool false)) rfl (by simp [go_sem, hρ.const, h58, EX.out]) rfl
            · refine StepOK.plain (kn_stable _) rfl fun ρ w' hρ hw hf => ?_
              have h59 : ρ (.tmp 59) = (.bool false) := (hf 59).1 rfl
              exact Exec.kmove rfl rfl h59
            · exact StepOK.skipped (kn_stable _) (fun w => Ch.refl _ _) 6 true 60 rfl rfl (fun ρ w _ _ hf => .inl ((hf 60).1 rfl)) (fun w d hd => by cases hd; trivial)
            · exact StepOK.skipped (kn_stable _) (fun w => Ch.refl _ _) 6 true 60 rfl rfl (fun ρ w _ _ hf => .inl ((hf 60).1 rfl)) (fun w d hd => by cases hd; trivial)
            · exact StepOK.skipped (kn_stable _) (fun w => Ch.refl _ _) 6 true 60 rfl rfl (fun ρ w _ _ hf => .inl ((hf 60).1 rfl)) (fun w d hd => by cases hd; trivial)
            · exact StepOK.skipped (kn_stable _) (fun w => Ch.refl _ _) 6 true 60 rfl rfl (fun ρ w _ _ hf => .inl ((hf 60).1 rfl)) (fun w d hd => by cases hd; trivial)
            · exact StepOK.skipped (kn_stable _) (fun w => Ch.refl _ _) 6 true 60 rfl rfl (fun ρ w _ _ hf => .inl ((hf 60).1 rfl)) (fun w d hd => by cases hd; trivial)
            · exact StepOK.skipped (kn_stable _) (fun w => Ch.refl _ _) 6 true 60 rfl rfl (fun ρ w _ _ hf => .inl ((hf 60).1 rfl)) (fun w d hd => by cases hd; trivial)
            · refine StepOK.plain (kn_stable _) rfl fun ρ w' hρ hw hf => ?_
              have h60 : ρ (.tmp 60) = (.bool false) := (hf 60).1 rfl
              exact Exec.kpickF rfl rfl h60 (hρ.const _)
            · refine StepOK.plain (kn_stable _) rfl fun ρ w' hρ hw hf => ?_
              have h67 : ρ (.tmp 67) = (.bool false) := (hf 67).1 rfl
              exact Exec.kmove rfl rfl h67
            · refine StepOK.guarded (kn_stable _) 14 false 68 rfl rfl (fun ρ w _ _ hf => (hf 68).1 rfl) fun ρ w' hρ hw hf => ?_
              have h6 : ρ (.tmp 6) = (.slice (some ⟨zb, zo', none⟩) n zc) := (hf 6).2 rfl rfl
              exact Exec.kmove rfl rfl h6
            · refine StepOK.guarded (kn_stable _) 14 false 68 rfl rfl (fun ρ w _ _ hf => (hf 68).1 rfl) fun ρ w' hρ hw hf => ?_
              have h8 : ρ (.tmp 8) = (.int .i64 (k : Nat)) := (hf 8).2 rfl rfl
              exact Exec.kmove rfl rfl h8
            · refine StepOK.guarded (kn_stable _) 14 false 68 rfl rfl (fun ρ w _ _ hf => (hf 68).1 rfl) fun ρ w' hρ hw hf => ?_
              have h69 : ρ (.tmp 69) = (.slice (some ⟨zb, zo', none⟩) n zc) := (hf 69).1 rfl
              have h70 : ρ (.tmp 70) = (.int .i64 (k : Nat)) := (hf 70).1 rfl
              exact Exec.kindex rfl rfl Try.underlying36 CHI.out CSI.out h69 h70 HLT.out rfl
            · refine StepOK.guarded (kn_stable _) 14 false 68 rfl rfl (fun ρ w _ _ hf => (hf 68).1 rfl) fun ρ w' hρ hw hf => ?_
              have h71 : ρ (.tmp 71) = (.pointer (some ⟨zb, zo' + k * 5, none⟩)) := (hf 71).1 rfl
              exact Exec.kfield rfl rfl h71 (fieldP0 w' _ _) rfl
            · refine StepOK.guarded (kn_stable _) 14 false 68 rfl rfl (fun ρ w _ _ hf => (hf 68).1 rfl) fun ρ w' hρ hw hf => ?_
              have h72 : ρ (.tmp 72) = (.pointer (some ⟨zb, zo' + k * 5, none⟩)) := (hf 72).1 rfl
              have hc : w'.cell? ⟨zb, zo' + k * 5, none⟩ = some (.int .u8 (z.k : Nat)) := hw.cell (p := ⟨zb, zo' + k * 5, none⟩) (fun f => f) _ (HKZ.out)
              exact Exec.same (v := (.int .u8 (z.k : Nat))) rfl (by simp [go_sem, hρ.const, h72, hc, strV]) rfl
            · refine StepOK.guarded (kn_stable _) 14 false 68 rfl rfl (fun ρ w _ _ hf => (hf 68).1 rfl) fun ρ w' hρ hw hf => ?_
              have h73 : ρ (.tmp 73) = (.int .u8 (z.k : Nat)) := (hf 73).1 rfl
              exact Exec.same (v := (.bool false)) rfl (by simp [go_sem, hρ.const, h73, EZ.out]) rfl
            · refine StepOK.guarded (kn_stable _) 14 false 68 rfl rfl (fun ρ w _ _ hf => (hf 68).1 rfl) fun ρ w' hρ hw hf => ?_
              have h74 : ρ (.tmp 74) = (.bool false) := (hf 74).1 rfl
              exact Exec.kmove rfl rfl h74
            · exact StepOK.skipped (kn_stable _) (fun w => Ch.refl _ _) 21 true 75 rfl rfl (fun ρ w _ _ hf => .inl ((hf 75).1 rfl)) (fun w d hd => by cases hd; trivial)
            · exact StepOK.skipped (kn_stable _) (fun w => Ch.refl _ _) 21 true 75 rfl rfl (fun ρ w _ _ hf => .inl ((hf 75).1 rfl)) (fun w d hd => by cases hd; trivial)
            · exact StepOK.skipped (kn_stable _) (fun w => Ch.refl _ _) 21 true 75 rfl rfl (fun ρ w _ _ hf => .inl ((hf 75).1 rfl)) (fun w d hd => by cases hd; trivial)
            · exact StepOK.skipped (kn_stable _) (fun w => Ch.refl _ _) 21 true 75 rfl rfl (fun ρ w _ _ hf => .inl ((hf 75).1 rfl)) (fun w d hd => by cases hd; trivial)
            · exact StepOK.skipped (kn_stable _) (fun w => Ch.refl _ _) 21 true 75 rfl rfl (fun ρ w _ _ hf => .inl ((hf 75).1 rfl)) (fun w d hd => by cases hd; trivial)
            · exact StepOK.skipped (kn_stable _) (fun w => Ch.refl _ _) 21 true 75 rfl rfl (fun ρ w _ _ hf => .inl ((hf 75).1 rfl)) (fun w d hd => by cases hd; trivial)
            · exact StepOK.skipped (kn_stable _) (fun w => Ch.refl _ _) 21 true 75 rfl rfl (fun ρ w _ _ hf => .inl ((hf 75).1 rfl)) (fun w d hd => by cases hd; trivial)
            · exact StepOK.skipped (kn_stable _) (fun w => Ch.refl _ _) 21 true 75 rfl rfl (fun ρ w _ _ hf => .inl ((hf 75).1 rfl)) (fun w d hd => by cases hd; trivial)
            · exact StepOK.skipped (kn_stable _) (fun w => Ch.refl _ _) 21 true 75 rfl rfl (fun ρ w _ _ hf => .inl ((hf 75).1 rfl)) (fun w d hd => by cases hd; trivial)
            · exact StepOK.skipped (kn_stable _) (fun w => Ch.refl _ _) 21 true 75 rfl rfl (fun ρ w _ _ hf => .inl ((hf 75).1 rfl)) (fun w d hd => by cases hd; trivial)
            · refine StepOK.guarded (kn_stable _) 14 false 68 rfl rfl (fun ρ w _ _ hf => (hf 68).1 rfl) fun ρ w' hρ hw hf => ?_
              have h75 : ρ (.tmp 75) = (.bool false) := (hf 75).1 rfl
              exact Exec.kpickF rfl rfl h75 (hρ.const _)
            · refine StepOK.plain (kn_stable _) rfl fun ρ w' hρ hw hf => ?_
              have h68 : ρ (.tmp 68) = (.bool false) := (hf 68).1 rfl
              have h86 : ρ (.tmp 86) = (.bool false) := (hf 86).1 rfl
              exact Exec.kpickF rfl rfl h68 h86
          case fin =>
            intro ν w9 hfin hx9
            have e0 : ν 87 = .bool false := hfin 33 87 rfl
            simp only [Exit.then, ended, List.foldl_cons, List.foldl_nil, List.setIfInBounds_toArray, List.set_cons_succ, List.set_cons_zero, e0]
            have HX9' := Lib.hid (HXR.out.trans hx9)
            clear hfin hx9 e0
            go_wp2
            go_roundw
            case rel => exact ⟨k + 1, HLT.out, by simp, HX9'⟩
            case measure => simp [intOf]; have := HLT.out; omega
      · have hxz := HC2.out hz
        have EZ : Hid ((((z.k : Nat) : Int) != 1) = true) := Lib.hid (u8_nfM (by omega))
        have EX : Hid ((((x.k : Nat) : Int) == 1) = false) := Lib.hid (by rw [hxz]; exact beq_eq_false_iff_ne.2 (by omega))
        have HAL : Hid (∀ w, Calls Try.prog 25 #[pc x, pc z] w fun e w' => e = .returned (.bool true) ∧ Ext w w') := Lib.hid fun w => (calike_any x z w).mono fun e w' h => ⟨by rw [h.1, decide_eq_true hxz], h.2⟩
        clear hxz hz
        refine wp_region_ext (mgC mb mo' bb bo' zb zo' n mc' yc zc k x y z) mixedR (by rfl) (by rfl) ?all ?fin
        case all =>
          refine ⟨?_, ?_, ?_, ?_, ?_, ?_, ?_, ?_, ?_, ?_, ?_, ?_, ?_, ?_, ?_, ?_, ?_, ?_, ?_, ?_, ?_, ?_, ?_, ?_, ?_, ?_, ?_, ?_, ?_, ?_, ?_, ?_, ?_, ?_, trivial⟩
          · refine StepOK.plain (kn_stable _) rfl fun ρ w' hρ hw hf => ?_
            have h7 : ρ (.tmp 7) = (.slice (some ⟨mb, mo', none⟩) n mc') := (hf 7).2 rfl rfl
            exact Exec.kmove rfl rfl h7
          · refine StepOK.plain (kn_stable _) rfl fun ρ w' hρ hw hf => ?_
            have h8 : ρ (.tmp 8) = (.int .i64 (k : Nat)) := (hf 8).2 rfl rfl
            exact Exec.kmove rfl rfl h8
          · refine StepOK.plain (kn_stable _) rfl fun ρ w' hρ hw hf => ?_
            have h54 : ρ (.tmp 54) = (.slice (some ⟨mb, mo', none⟩) n mc') := (hf 54).1 rfl
            have h55 : ρ (.tmp 55) = (.int .i64 (k : Nat)) := (hf 55).1 rfl
            exact Exec.kindex rfl rfl Try.underlying36 CHI.out CSI.out h54 h55 HLT.out rfl
          · refine StepOK.plain (kn_stable _) rfl fun ρ w' hρ hw hf => ?_
            have h56 : ρ (.tmp 56) = (.pointer (some ⟨mb, mo' + k * 5, none⟩)) := (hf 56).1 rfl
            exact Exec.kfield rfl rfl h56 (fieldP0 w' _ _) rfl
          · refine StepOK.plain (kn_stable _) rfl fun ρ w' hρ hw hf => ?_
            have h57 : ρ (.tmp 57) = (.pointer (some ⟨mb, mo' + k * 5, none⟩)) := (hf 57).1 rfl
            have hc : w'.cell? ⟨mb, mo' + k * 5, none⟩ = some (.int .u8 (x.k : Nat)) := hw.cell (p := ⟨mb, mo' + k * 5, none⟩) (fun f => f) _ (HKX.out)
            exact Exec.same (v := (.int .u8 (x.k : Nat))) rfl (by simp [go_sem, hρ.const, h57, hc, strV]) rfl
          · refine StepOK.plain (kn_stable _) rfl fun ρ w' hρ hw hf => ?_
            have h58 : ρ (.tmp 58) = (.int .u8 (x.k : Nat)) := (hf 58).1 rfl
            exact Exec.same (v := (.bool false)) rfl (by simp [go_sem, hρ.const, h58, EX.out]) rfl
          · refine StepOK.plain (kn_stable _) rfl fun ρ w' hρ hw hf => ?_
            have h59 : ρ (.tmp 59) = (.bool false) := (hf 59).1 rfl
            exact Exec.kmove rfl rfl h59
          · exact StepOK.skipped (kn_stable _) (fun w => Ch.refl _ _) 6 true 60 rfl rfl (fun ρ w _ _ hf => .inl ((hf 60).1 rfl)) (fun w d hd => by cases hd; trivial)
          · exact StepOK.skipped (kn_stable _) (fun w => Ch.refl _ _) 6 true 60 rfl rfl (fun ρ w _ _ hf => .inl ((hf 60).1 rfl)) (fun w d hd => by cases hd; trivial)
          · exact StepOK.skipped (kn_stable _) (fun w => Ch.refl _ _) 6 true 60 rfl rfl (fun ρ w _ _ hf => .inl ((hf 60).1 rfl)) (fun w d hd => by cases hd; trivial)
          · exact StepOK.skipped (kn_stable _) (fun w => Ch.refl _ _) 6 true 60 rfl rfl (fun ρ w _ _ hf => .inl ((hf 60).1 rfl)) (fun w d hd => by cases hd; trivial)
          · exact StepOK.skipped (kn_stable _) (fun w => Ch.refl _ _) 6 true 60 rfl rfl (fun ρ w _ _ hf => .inl ((hf 60).1 rfl)) (fun w d hd => by cases hd; trivial)
          · exact StepOK.skipped (kn_stable _) (fun w => Ch.refl _ _) 6 true 60 rfl rfl (fun ρ w _ _ hf => .inl ((hf 60).1 rfl)) (fun w d hd => by cases hd; trivial)
          · refine StepOK.plain (kn_stable _) rfl fun ρ w' hρ hw hf => ?_
            have h60 : ρ (.tmp 60) = (.bool false) := (hf 60).1 rfl
            exact Exec.kpickF rfl rfl h60 (hρ.const _)
          · refine StepOK.plain (kn_stable _) rfl fun ρ w' hρ hw hf => ?_
            have h67 : ρ (.tmp 67) = (.bool false) := (hf 67).1 rfl
            exact Exec.kmove rfl rfl h67
          · refine StepOK.guarded (kn_stable _) 14 false 68 rfl rfl (fun ρ w _ _ hf => (hf 68).1 rfl) fun ρ w' hρ hw hf => ?_
            have h6 : ρ (.tmp 6) = (.slice (some ⟨zb, zo', none⟩) n zc) := (hf 6).2 rfl rfl
            exact Exec.kmove rfl rfl h6
          · refine StepOK.guarded (kn_stable _) 14 false 68 rfl rfl (fun ρ w _ _ hf => (hf 68).1 rfl) fun ρ w' hρ hw hf => ?_
            have h8 : ρ (.tmp 8) = (.int .i64 (k : Nat)) := (hf 8).2 rfl rfl
            exact Exec.kmove rfl rfl h8
          · refine StepOK.guarded (kn_stable _) 14 false 68 rfl rfl (fun ρ w _ _ hf => (hf 68).1 rfl) fun ρ w' hρ hw hf => ?_
            have h69 : ρ (.tmp 69) = (.slice (some ⟨zb, zo', none⟩) n zc) := (hf 69).1 rfl
            have h70 : ρ (.tmp 70) = (.int .i64 (k : Nat)) := (hf 70).1 rfl
            exact Exec.kindex rfl rfl Try.underlying36 CHI.out CSI.out h69 h70 HLT.out rfl
          · refine StepOK.guarded (kn_stable _) 14 false 68 rfl rfl (fun ρ w _ _ hf => (hf 68).1 rfl) fun ρ w' hρ hw hf => ?_
            have h71 : ρ (.tmp 71) = (.pointer (some ⟨zb, zo' + k * 5, none⟩)) := (hf 71).1 rfl
            exact Exec.kfield rfl rfl h71 (fieldP0 w' _ _) rfl
          · refine StepOK.guarded (kn_stable _) 14 false 68 rfl rfl (fun ρ w _ _ hf => (hf 68).1 rfl) fun ρ w' hρ hw hf => ?_
            have h72 : ρ (.tmp 72) = (.pointer (some ⟨zb, zo' + k * 5, none⟩)) := (hf 72).1 rfl
            have hc : w'.cell? ⟨zb, zo' + k * 5, none⟩ = some (.int .u8 (z.k : Nat)) := hw.cell (p := ⟨zb, zo' + k * 5, none⟩) (fun f => f) _ (HKZ.out)
            exact Exec.same (v := (.int .u8 (z.k : Nat))) rfl (by simp [go_sem, hρ.const, h72, hc, strV]) rfl
          · refine StepOK.guarded (kn_stable _) 14 false 68 rfl rfl (fun ρ w _ _ hf => (hf 68).1 rfl) fun ρ w' hρ hw hf => ?_
            have h73 : ρ (.tmp 73) = (.int .u8 (z.k : Nat)) := (hf 73).1 rfl
            exact Exec.same (v := (.bool true)) rfl (by simp [go_sem, hρ.const, h73, EZ.out]) rfl
          · refine StepOK.guarded (kn_stable _) 14 false 68 rfl rfl (fun ρ w _ _ hf => (hf 68).1 rfl) fun ρ w' hρ hw hf => ?_
            have h74 : ρ (.tmp 74) = (.bool true) := (hf 74).1 rfl
            exact Exec.kmove rfl rfl h74
          · refine StepOK.guarded (kn_stable _) 21 true 75 rfl rfl (fun ρ w _ _ hf => (hf 75).1 rfl) fun ρ w' hρ hw hf => ?_
            have h7 : ρ (.tmp 7) = (.slice (some ⟨mb, mo', none⟩) n mc') := (hf 7).2 rfl rfl
            exact Exec.kmove rfl rfl h7
          · refine StepOK.guarded (kn_stable _) 21 true 75 rfl rfl (fun ρ w _ _ hf => (hf 75).1 rfl) fun ρ w' hρ hw hf => ?_
            have h8 : ρ (.tmp 8) = (.int .i64 (k : Nat)) := (hf 8).2 rfl rfl
            exact Exec.kmove rfl rfl h8
          · refine StepOK.guarded (kn_stable _) 21 true 75 rfl rfl (fun ρ w _ _ hf => (hf 75).1 rfl) fun ρ w' hρ hw hf => ?_
            have h76 : ρ (.tmp 76) = (.slice (some ⟨mb, mo', none⟩) n mc') := (hf 76).1 rfl
            have h77 : ρ (.tmp 77) = (.int .i64 (k : Nat)) := (hf 77).1 rfl
            exact Exec.kindex rfl rfl Try.underlying36 CHI.out CSI.out h76 h77 HLT.out rfl
          · refine StepOK.guarded (kn_stable _) 21 true 75 rfl rfl (fun ρ w _ _ hf => (hf 75).1 rfl) fun ρ w' hρ hw hf => ?_
            have h78 : ρ (.tmp 78) = (.pointer (some ⟨mb, mo' + k * 5, none⟩)) := (hf 78).1 rfl
            exact Exec.kloadmid rfl rfl h78 (load_P (rangeAt_ext HRX.out hw)) rfl
          · refine StepOK.guarded (kn_stable _) 21 true 75 rfl rfl (fun ρ w _ _ hf => (hf 75).1 rfl) fun ρ w' hρ hw hf => ?_
            have h6 : ρ (.tmp 6) = (.slice (some ⟨zb, zo', none⟩) n zc) := (hf 6).2 rfl rfl
            exact Exec.kmove rfl rfl h6
          · refine StepOK.guarded (kn_stable _) 21 true 75 rfl rfl (fun ρ w _ _ hf => (hf 75).1 rfl) fun ρ w' hρ hw hf => ?_
            have h8 : ρ (.tmp 8) = (.int .i64 (k : Nat)) := (hf 8).2 rfl rfl
            exact Exec.kmove rfl rfl h8
          · refine StepOK.guarded (kn_stable _) 21 true 75 rfl rfl (fun ρ w _ _ hf => (hf 75).1 rfl) fun ρ w' hρ hw hf => ?_
            have h80 : ρ (.tmp 80) = (.slice (some ⟨zb, zo', none⟩) n zc) := (hf 80).1 rfl
            have h81 : ρ (.tmp 81) = (.int .i64 (k : Nat)) := (hf 81).1 rfl
            exact Exec.kindex rfl rfl Try.underlying36 CHI.out CSI.out h80 h81 HLT.out rfl
          · refine StepOK.guarded (kn_stable _) 21 true 75 rfl rfl (fun ρ w _ _ hf => (hf 75).1 rfl) fun ρ w' hρ hw hf => ?_
            have h82 : ρ (.tmp 82) = (.pointer (some ⟨zb, zo' + k * 5, none⟩)) := (hf 82).1 rfl
            exact Exec.kloadmid rfl rfl h82 (load_P (rangeAt_ext HRZ.out hw)) rfl
          · refine StepOK.guarded (kn_stable _) 21 true 75 rfl rfl (fun ρ w _ _ hf => (hf 75).1 rfl) fun ρ w' hρ hw hf => ?_
            have h79 : ρ (.tmp 79) = (pc x) := (hf 79).1 rfl
            have h83 : ρ (.tmp 83) = (pc z) := (hf 83).1 rfl
            exact Exec.kcall #[pc x, pc z] hρ rfl rfl (by simp [h79, h83]) Try.func25 (by rfl) (by rfl) ((HAL.out w').mono fun e w'' h => ⟨_, h.1, rfl, h.2⟩)
          · refine StepOK.guarded (kn_stable _) 21 true 75 rfl rfl (fun ρ w _ _ hf => (hf 75).1 rfl) fun ρ w' hρ hw hf => ?_
            have h84 : ρ (.tmp 84) = (.bool true) := (hf 84).1 rfl
            exact Exec.same (v := (.bool false)) rfl (by simp [go_sem, hρ.const, h84]) rfl
          · refine StepOK.guarded (kn_stable _) 14 false 68 rfl rfl (fun ρ w _ _ hf => (hf 68).1 rfl) fun ρ w' hρ hw hf => ?_
            have h75 : ρ (.tmp 75) = (.bool true) := (hf 75).1 rfl
            have h85 : ρ (.tmp 85) = (.bool false) := (hf 85).1 rfl
            exact Exec.kpickT rfl rfl h75 h85
          · refine StepOK.plain (kn_stable _) rfl fun ρ w' hρ hw hf => ?_
            have h68 : ρ (.tmp 68) = (.bool false) := (hf 68).1 rfl
            have h86 : ρ (.tmp 86) = (.bool false) := (hf 86).1 rfl
            exact Exec.kpickF rfl rfl h68 h86
        case fin =>
          intro ν w9 hfin hx9
          have e0 : ν 87 = .bool false := hfin 33 87 rfl
          simp only [Exit.then, ended, List.foldl_cons, List.foldl_nil, List.setIfInBounds_toArray, List.set_cons_succ, List.set_cons_zero, e0]
          have HX9' := Lib.hid (HXR.out.trans hx9)
          clear hfin hx9 e0
          go_wp2
          go_roundw
          case rel => exact ⟨k + 1, HLT.out, by simp, HX9'⟩
          case measure => simp [intOf]; have := HLT.out; omega
    · obtain rfl : k = n := by omega
      go_wp2_with fail
      refine (HAW.out wr).mono ?_
      rintro e w11 ⟨rfl, hx11⟩
      have HX11 := Lib.hid (HXR.out.trans hx11); clear hx11
      go_wp2
      go_ret
      exact ⟨rfl, HX10.out.trans HX11.out⟩
end Go.Proofs.Ytdpebdbfphlmeaa
