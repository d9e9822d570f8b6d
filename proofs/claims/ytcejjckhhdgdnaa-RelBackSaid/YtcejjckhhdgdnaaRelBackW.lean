/-
  RelBack: the walk. MADE BY mkRelBackW.py
-/
import Derived.Test.YtcejjckhhdgdnaaRelU
import Derived.Test.YtcejjckhhdgdnaaRelS
import Derived.Test.YtcejjckhhdgdnaaRelQ
import Derived.Test.YtcejjckhhdgdnaaRelP
import Derived.Test.YtcejjckhhdgdnaaRelH
import Derived.Test.YtcejjckhhdgdnaaRelL
namespace Go.Proofs.Ytcejjckhhdgdnaa
open Go.RowKit Go.Lac

theorem ColS.shape {w : World} {v : Value} {l : List Col} (h : ColS w v l) : ∃ ao cap, v = .slice ao l.length cap := by
  obtain ⟨ao, cap, e, _⟩ := h; exact ⟨ao, cap, e⟩
def Kn.relK (r : Rl) : Kn := ⟨fun v w => ∃ c, v = .agg (relv r c) ∧ ColS w c r.cols, fun _ _ _ k ⟨c, h1, h2⟩ => ⟨c, h1, ColS.ext h2 k⟩⟩
def rb7T (r : Rl) (cx cv : Value) : Tmp → Kn
  | 49 => .is (.int .i64 0)
  | 50 => .is (.bool false)
  | 51 => .is (.bool false)
  | 52 => .is (.agg (relv r cx))
  | 53 => Kn.relK r
  | 54 => .is (.agg (relv r cv))
  | 55 => .is (.bool true)
  | 56 => .is (.bool false)
  | 57 => .is (.bool false)
  | 58 => .is (.bool false)
  | 59 => .is (.int .i64 1)
  | 60 => .is (.bool false)
  | 61 => .is (.bool false)
  | _ => .any
theorem sev_pos (n : Nat) : 1 ≤ (sev n).length := by
  by_cases h : n < 128
  · rw [sev_small h]; simp
  · rw [sev_big (by omega)]; simp
theorem rlBytes_two (r : Rl) : 1 < (rlBytes r).length := by
  have := sev_pos r.oid
  unfold rlBytes
  simp only [List.length_append, List.length_cons, List.length_nil]
  omega
theorem rlBytes_len {r : Rl} (hok : r.ok) (h : rlErr r = 0) : (rlBytes r).length ≤ 1000 := by
  obtain ⟨_, _, e3, _, e5, e6, e7, _⟩ := rlErr_zero h
  have h1 := txt_len e3.2.1
  have h2 := colsB_len r.cols fun c hc => (colsErr_zero _ _ e7 c hc).1
  have s1 := sev_length_10 r.oid (by have := hok.1; omega)
  have s2 := sev_length_10 r.ver (by have := hok.2.1; omega)
  have s3 := sev_length_10 r.cols.length (by omega)
  unfold rlBytes
  simp only [List.length_append, List.length_cons, List.length_nil]
  omega
set_option maxRecDepth 20000 in
set_option maxHeartbeats 4000000 in
theorem relBackLaw_walk (r : Rl) (cv vb : Value) (b : List UInt8) (cut : Nat) (w : World) (hc : ColS w cv r.cols) (hok : r.ok) (hf : r.fits) (hb : Rd w vb b) (hcut : cut < 65536) :
    Calls Try.prog 5 #[.agg (relv r cv), vb, .int .u16 (cut : Nat)] w fun e w' => e = .returned (.bool true) ∧ Ext w w' := by
  have hg := heap_alloc_new w (.cells (relv r cv) 27)
  obtain ⟨W1, hW1⟩ : ∃ W1, W1 = w.alloc (.cells (relv r cv) 27) := ⟨_, rfl⟩
  have hx1 : Ext w W1 := by rw [hW1]; exact (Ch.refl _ _).alloc _
  rw [← hW1] at hg
  obtain ⟨ac, cc, rfl⟩ := hc.shape
  obtain ⟨ab, cb, rfl⟩ := hb.shape
  have hbm : b.length ≤ maxLen := by obtain ⟨_, _, _, g1, g2, _⟩ := hb; omega
  unfold maxLen at hbm
  have HG := Lib.hid hg; have HX1 := Lib.hid hx1
  have HW1 : Hid (W1 = w.alloc (.cells #[.int .u32 (r.oid : Nat), .int .u32 (r.ver : Nat), .string ⟨r.name.toArray⟩, .int .u8 (r.ident : Nat), .slice ac r.cols.length cc] 27)) := Lib.hid hW1
  have HC := Lib.hid hc; have HB := Lib.hid hb; have HOK := Lib.hid hok; have HF := Lib.hid hf
  have HGR := Lib.hid (great_any r (.slice ac r.cols.length cc) W1 (ColS.ext hc hx1) hf)
  obtain ⟨c0, c1, c2, c3, c4⟩ := row_cells hg
  rw [hW1] at c0 c1 c2 c3 c4
  clear hg hx1 hW1 hc hb hok hf
  unfold relv strV at HGR c0 c1 c2 c3 c4 ⊢
  by_cases hgr : Great r
  · rw [decide_eq_true hgr] at HGR
    clear hgr
    generalize b.length = nb at *
    go_enter Try.func5, Try.ntmps5
    go_wp2_with fail
    rw [← HW1.out]
    refine HGR.out.mono ?_
    rintro e w2 ⟨rfl, hx2⟩
    have HX2 := Lib.hid (HX1.out.trans hx2)
    clear hx2
    go_wp2
    go_ret
    exact ⟨rfl, HX2.out⟩
  rw [decide_eq_false hgr] at HGR
  by_cases hlb : 900 < b.length
  · clear hgr
    generalize b.length = nb at *
    go_enter Try.func5, Try.ntmps5
    go_wp2_with fail
    rw [← HW1.out]
    refine HGR.out.mono ?_
    rintro e w2 ⟨rfl, hx2⟩
    have HX2 := Lib.hid (HX1.out.trans hx2)
    clear hx2
    go_wp2
    go_ret
    exact ⟨by simp, HX2.out⟩
  have hlb' : b.length ≤ 900 := by omega
  have HBL := Lib.hid hlb'
  have hcl : r.cols.length ≤ 30 := by
    have : ¬ 30 < r.cols.length := fun h => hgr (.inr (.inl h))
    omega
  have HCL := Lib.hid hcl
  clear hlb hgr hbm hcl
  have HOW := Lib.hid (fun w2 (h : Ext W1 w2) => relOwn_any r (.slice ac r.cols.length cc) w2 (ColS.ext HC.out (HX1.out.trans h)) (by have := HCL.out; omega))
  unfold relv strV at HOW
  go_enter Try.func5, Try.ntmps5
  go_wp2_with fail
  rw [← HW1.out]
  refine HGR.out.mono ?_
  rintro e w2 ⟨rfl, hx2⟩
  have HXX2 := Lib.hid hx2
  have HX2 := Lib.hid (HX1.out.trans hx2); have HG2 := Lib.hid (heap_ext hx2 HG.out)
  obtain ⟨c0, c1, c2, c3, c4⟩ := row_cells HG2.out
  unfold relv strV at HG2
  clear hx2
  go_wp2_with fail
  refine (HOW.out w2 HXX2.out).mono ?_
  rintro e w3 ⟨co, rfl, hx3, ho⟩
  have HX3 := Lib.hid (HX2.out.trans hx3)
  have HEN := Lib.hid (relEnc_any r co w3 (Sl.ofOwns ho) HF.out HOK.out)
  have HR3 := Lib.hid (heap_ext hx3 HG2.out)
  obtain ⟨ao, lo, rfl⟩ := owns_shape ho
  clear hx3 ho c0 c1 c2 c3 c4 HOW
  unfold relv strV at HEN ⊢
  go_wp2_with fail
  refine HEN.out.mono ?_
  rintro e w4 ⟨s4, rfl, hx4, hr4⟩
  have HX4 := Lib.hid (HX3.out.trans hx4); have HR4 := Lib.hid (heap_ext hx4 HR3.out)
  by_cases he : rlErr r = 0
  case neg =>
    have en : (((rlErr r : Nat) : Int) == 0) = false := beq_eq_false_iff_ne.2 (by omega)
    obtain ⟨a4, l4, rfl⟩ := hr4.shape
    rw [if_neg he] at hr4 ⊢
    clear hx4 hr4 he
    generalize rlErr r = E0 at *
    obtain ⟨q, e2, hDD⟩ : ∃ q e2, rlDec b = (q, e2) := ⟨_, _, rfl⟩
    have HDB := Lib.hid (relDec_any (.slice ab b.length cb) b w4 (HB.out.ext HX4.out) (by have := HBL.out; omega))
    rw [hDD] at HDB
    have HDI : Hid (e2 ≠ 0 → q = .zero) := Lib.hid fun h => by have := rlDec_err (b := b) (by rw [hDD]; exact h); rw [hDD] at this; exact this
    have HDJ : Hid (e2 = 0 → b = rlBytes q ∧ rlErr q = 0 ∧ q.ok) := Lib.hid fun h => by have := rlDec_inv (b := b) (by rw [hDD]; exact h); rw [hDD] at this; exact this
    clear hDD
    go_wp2_with fail
    refine HDB.out.mono ?_
    rintro e w20 ⟨cq, rfl, hx20, hcq⟩
    have HX20 := Lib.hid (HX4.out.trans hx20)
    obtain ⟨aq, lq, rfl⟩ := hcq.shape
    have hg20 := heap_alloc_new w20 (.cells (relv q (.slice aq q.cols.length lq)) 32)
    obtain ⟨W20, hW20⟩ : ∃ W20, W20 = w20.alloc (.cells (relv q (.slice aq q.cols.length lq)) 32) := ⟨_, rfl⟩
    have hxx : Ext w20 W20 := by rw [hW20]; exact (Ch.refl _ _).alloc _
    rw [← hW20] at hg20
    have HW20 : Hid (W20 = w20.alloc (.cells #[.int .u32 (q.oid : Nat), .int .u32 (q.ver : Nat), .string ⟨q.name.toArray⟩, .int .u8 (q.ident : Nat), .slice aq q.cols.length lq] 32)) := Lib.hid hW20
    have HX21 := Lib.hid (HX20.out.trans hxx); have HCQ := Lib.hid (ColS.ext hcq hxx); have HG20 := Lib.hid hg20
    obtain ⟨d0, d1, d2, d3, d4⟩ := row_cells hg20
    rw [hW20] at d0 d1 d2 d3 d4
    clear hx20 hcq hg20 hW20 hxx HDB
    unfold relv strV at d0 d1 d2 d3 d4 ⊢
    by_cases he2 : e2 = 0
    case neg =>
      have en : (e2 != 0) = true := by simpa using he2
      have hq := HDI.out he2
      clear he2 HDI HDJ
      have b0 := fun w => build_rl0 w
      have HSM := Lib.hid (relSame_any q .zero (.slice aq q.cols.length lq) (.slice none 0 0) W20 HCQ.out (colS_nil _))
      rw [decide_eq_true hq] at HSM
      have hz2 : relv .zero (.slice none 0 0) = #[.int .u32 0, .int .u32 0, .string ⟨#[]⟩, .int .u8 0, .slice none 0 0] := rfl
      rw [hz2] at HSM
      unfold relv strV at HSM
      clear hz2 hq
      go_wp2_with (go_at_call 18; rw [← HW20.out]; refine HSM.out.mono ?_)
      rintro e w21 ⟨rfl, hx21⟩
      have HX22 := Lib.hid (HX21.out.trans hx21)
      clear hx21 HSM
      go_wp2_with (go_at_call 22; refine (awake8_any _).mono ?_)
      rintro e w22 ⟨rfl, hx22⟩
      have HX23 := Lib.hid (HX22.out.trans hx22)
      clear hx22
      go_wp2
      go_ret
      exact ⟨by simp, HX23.out⟩
    subst he2
    obtain ⟨hbq, heq, hqo⟩ := HDJ.out rfl
    have hqf : q.fits := ⟨by have := (rlErr_zero heq).2.2.1.2.1; omega, fun c hc => by have := (colsErr_zero _ _ (rlErr_zero heq).2.2.2.2.2.2.1 c hc).1.2.1; omega⟩
    have HEN2 := Lib.hid (relEnc_any q (.slice aq q.cols.length lq) W20 HCQ.out hqf hqo)
    rw [heq, ← hbq] at HEN2
    unfold relv strV at HEN2
    clear hbq heq hqo hqf HDI HDJ
    go_wp2_with (go_at_call 14; rw [← HW20.out]; refine HEN2.out.mono ?_)
    rintro e w21 ⟨s21, rfl, hx21, hr21⟩
    rw [if_pos rfl] at hr21
    have HX22 := Lib.hid (HX21.out.trans hx21)
    have hrb := HB.out.ext HX22.out
    have hs1 := run_toString (P := Try.prog) hr21 (src := 34) (dst := 9) Try.underlying34 Try.underlying5 Try.underlying9
    have hs2 := run_toString (P := Try.prog) hrb (src := 34) (dst := 9) Try.underlying34 Try.underlying5 Try.underlying9
    obtain ⟨a21, l21, rfl⟩ := hr21.shape
    unfold strV at hs1 hs2
    generalize (⟨b.toArray⟩ : ByteArray) = BA at *
    clear hx21 hr21 hrb HEN2 d0 d1 d2 d3 d4
    go_wp2_with (go_at_call 22; refine (awake8_any _).mono ?_)
    rintro e w22 ⟨rfl, hx22⟩
    have HX23 := Lib.hid (HX22.out.trans hx22)
    clear hx22
    go_wp2
    go_ret
    exact ⟨by simp, HX23.out⟩

  rw [he, if_pos rfl] at hr4
  rw [he, Int.natCast_zero]
  obtain ⟨a4, l4, rfl⟩ := hr4.shape
  have hbl := rlBytes_pos r
  have HRB2 : Hid (1 < (rlBytes r).length) := Lib.hid (rlBytes_two r)
  have hD1 := rlDec_put HOK.out he
  have hblen : (rlBytes r).length ≤ 1000 := rlBytes_len HOK.out he
  obtain ⟨kc, hkc⟩ : ∃ kc, kc = cut % (rlBytes r).length := ⟨_, rfl⟩
  have hkl : kc < (rlBytes r).length := by rw [hkc]; exact Nat.mod_lt _ (by omega)
  have hD2 := rlDec_cut HOK.out he hkl
  have HDC := Lib.hid (relDec_any (.slice a4 (rlBytes r).length l4) (rlBytes r) w4 hr4 (by omega))
  rw [hD1] at HDC
  have HR4B := Lib.hid hr4
  clear hx4 he hD1
  generalize rlBytes r = rb at *
  go_wp2_with fail
  refine HDC.out.mono ?_
  rintro e w5 ⟨cx, rfl, hx5, hcx⟩
  have HX5 := Lib.hid (HX4.out.trans hx5)
  obtain ⟨ax, lx, rfl⟩ := hcx.shape
  have hg5 := heap_alloc_new w5 (.cells (relv r (.slice ax r.cols.length lx)) 32)
  obtain ⟨W5, hW5⟩ : ∃ W5, W5 = w5.alloc (.cells (relv r (.slice ax r.cols.length lx)) 32) := ⟨_, rfl⟩
  have hxx : Ext w5 W5 := by rw [hW5]; exact (Ch.refl _ _).alloc _
  rw [← hW5] at hg5
  have HW5 : Hid (W5 = w5.alloc (.cells #[.int .u32 (r.oid : Nat), .int .u32 (r.ver : Nat), .string ⟨r.name.toArray⟩, .int .u8 (r.ident : Nat), .slice ax r.cols.length lx] 32)) := Lib.hid hW5
  have HX5' := Lib.hid (HX5.out.trans hxx); have HCX := Lib.hid (ColS.ext hcx hxx); have HG5 := Lib.hid hg5
  have HR5 := Lib.hid (heap_ext (hx5.trans hxx) HR4.out)
  have hr5 := HR4B.out.ext (hx5.trans hxx)
  have HRT := Lib.hid (hr5.take kc (by omega))
  clear hx5 hcx hg5 hW5 hxx hr4 hr5 HDC
  unfold relv strV
  have hcw : IntKind.i64.wrap (cut : Int) = (cut : Int) := by rw [IntKind.wrap_i64]; omega
  have hrl1 : 1 < rb.length := HRB2.out
  obtain ⟨ui, uhi, _⟩ := info_parts infoU8
  have hcap4 : rb.length ≤ l4 := by obtain ⟨_, _, e, g, _⟩ := HR4B.out; cases e; exact g
  have hsl := fun w => run_takeCo (P := Try.prog) w (t := 34) Try.underlying34 uhi a4 rb.length l4 kc (by omega) hcap4
  have hrm : ((cut : Int) % (rb.length : Int)) = (kc : Int) := by rw [hkc]; rfl
  have hrm2 : (cut : Int).tmod (rb.length : Int) = (kc : Int) := by rw [hkc]; rfl
  have HKC := Lib.hid hkc
  have HD2 := Lib.hid hD2; have HKL := Lib.hid hkl; have HBLEN := Lib.hid hblen
  clear hkc hbl hblen hkl hD2 uhi hcap4 hcut
  go_wp2_with fail
  rw [← HW5.out]
  have HDC2 := Lib.hid (relDec_any (.slice a4 kc l4) (rb.take kc) W5 HRT.out (by rw [List.length_take]; have := HBLEN.out; omega))
  rw [HD2.out] at HDC2
  refine HDC2.out.mono ?_
  rintro e w6 ⟨cz, rfl, hx6, hcz⟩
  have HX6 := Lib.hid (HX5'.out.trans hx6)
  obtain ⟨az, lz, rfl⟩ := hcz.shape
  have HG6 := Lib.hid (heap_ext hx6 HG5.out); have HR6 := Lib.hid (heap_ext hx6 HR5.out); have HCX6 := Lib.hid (ColS.ext HCX.out hx6)
  have hz3 : relv .zero (.slice az 0 lz) = #[.int .u32 0, .int .u32 0, .string ⟨#[]⟩, .int .u8 0, .slice az 0 lz] := rfl
  have hze : Rl.zero.cols.length = 0 := rfl
  rw [hze, hz3]
  clear hx6 hcz HDC2 hsl hrm hrm2 hcw hrl1 hz3 hze HD2
  obtain ⟨w7, hw7⟩ : ∃ w7, w7 = w6.alloc (.cells #[.int .u32 0, .int .u32 0, .string ⟨#[]⟩, .int .u8 0, .slice az 0 lz] 32) := ⟨_, rfl⟩
  have hx7 : Ext w6 w7 := by rw [hw7]; exact (Ch.refl _ _).alloc _
  have HW7 := Lib.hid hw7
  have HX7 := Lib.hid (HX6.out.trans hx7)
  have HGX : Hid (w7.heap[w5.heap.size]? = some (.cells (relv r (.slice ax r.cols.length lx)) 32 (0, 0))) := Lib.hid (heap_ext hx7 HG6.out)
  have HRV : Hid (w7.heap[w.heap.size]? = some (.cells (relv r (.slice ac r.cols.length cc)) 27 (0, 0))) := Lib.hid (heap_ext hx7 HR6.out)
  have HCX7 := Lib.hid (ColS.ext HCX6.out hx7); have HCV7 := Lib.hid (ColS.ext HC.out HX7.out)
  clear hx7 hw7
  go_wp2
  rw [← HW7.out]
  generalize w5.heap.size = g9 at *
  obtain ⟨g3, hg3⟩ : ∃ g3, g3 = w.heap.size := ⟨_, rfl⟩
  rw [← hg3] at HRV ⊢
  refine wp_region_ext (rb7T r (.slice ax r.cols.length lx) (.slice ac r.cols.length cc)) mixedV (by rfl) (by rfl) ?all ?fin
  case all =>
    refine ⟨?_, ?_, ?_, ?_, ?_, ?_, ?_, ?_, ?_, ?_, ?_, ?_, ?_, trivial⟩
    · -- 0: slot 49 := Op.move t10
      refine StepOK.plain (kn_stable _) rfl fun ρ w hρ hw hf => ?_
      have h10 : ρ (.tmp 10) = (.int .i64 0) := (hf 10).2 rfl rfl
      exact Exec.kmove rfl rfl h10
    · -- 1: slot 50 := Op.binOp BinOp.neq 35 t49 (const (0:i64)) 35
      refine StepOK.plain (kn_stable _) rfl fun ρ w hρ hw hf => ?_
      have h49 : ρ (.tmp 49) = (.int .i64 0) := (hf 49).1 rfl
      exact Exec.same (v := .bool false) rfl (by simp [go_sem, hρ.const, h49]) rfl
    · -- 2: slot 51 := Op.move t50
      refine StepOK.plain (kn_stable _) rfl fun ρ w hρ hw hf => ?_
      have h50 : ρ (.tmp 50) = (.bool false) := (hf 50).1 rfl
      exact Exec.kmove rfl rfl h50
    · -- 3: slot 52 := Op.load 32 t9
      refine StepOK.guarded (kn_stable _) 2 false 51 rfl rfl (fun ρ w _ _ hf => (hf 51).1 rfl) fun ρ w hρ hw hf => ?_
      have h9 : ρ (.tmp 9) = (.pointer (some ⟨g9, 0, none⟩)) := (hf 9).2 rfl rfl
      exact Exec.kloadrow rfl rfl h9 (heap_ext hw HGX.out) Try.underlying32 rfl infoOw rfl
    · -- 4: slot 53 := Op.call { value (Operand.func 25), args := #[t52], argTypes := #[32] }
      refine StepOK.guarded (kn_stable _) 2 false 51 rfl rfl (fun ρ w _ _ hf => (hf 51).1 rfl) fun ρ w hρ hw hf => ?_
      have h52 : ρ (.tmp 52) = (.agg (relv r (.slice ax r.cols.length lx))) := (hf 52).1 rfl
      refine Exec.kcall #[.agg (relv r (.slice ax r.cols.length lx))] hρ rfl rfl (by simp [h52]) Try.func25 (by rfl) (by rfl) ((relBack_any r (.slice ax r.cols.length lx) w (ColS.ext HCX7.out hw) (by have := HCL.out; omega)).mono ?_)
      rintro e w' ⟨cy, rfl, h1, h2⟩
      exact ⟨_, rfl, ⟨cy, rfl, Sl.ofOwns h2⟩, h1⟩
    · -- 5: slot 54 := Op.load 27 t3
      refine StepOK.guarded (kn_stable _) 2 false 51 rfl rfl (fun ρ w _ _ hf => (hf 51).1 rfl) fun ρ w hρ hw hf => ?_
      have h3 : ρ (.tmp 3) = (.pointer (some ⟨g3, 0, none⟩)) := (hf 3).2 rfl rfl
      exact Exec.kloadrow rfl rfl h3 (heap_ext hw HRV.out) Try.underlying27 rfl infoBk rfl
    · -- 6: slot 55 := Op.call { value (Operand.func 19), args := #[t53, t54], argTypes := #[
      refine StepOK.guarded (kn_stable _) 2 false 51 rfl rfl (fun ρ w _ _ hf => (hf 51).1 rfl) fun ρ w hρ hw hf => ?_
      have h53 : (Kn.relK r).holds (ρ (.tmp 53)) w := (hf 53).1 rfl
      have h54 : ρ (.tmp 54) = (.agg (relv r (.slice ac r.cols.length cc))) := (hf 54).1 rfl
      obtain ⟨cy, hy, hcy⟩ := h53
      refine Exec.kcall #[.agg (relv r cy), .agg (relv r (.slice ac r.cols.length cc))] hρ rfl rfl (by simp [hy, h54]) Try.func19 (by rfl) (by rfl) ((refSame_any r r cy (.slice ac r.cols.length cc) w hcy (ColS.ext HCV7.out hw)).mono ?_)
      rintro e w' ⟨rfl, hx⟩
      exact ⟨_, rfl, by rw [decide_eq_true rfl]; rfl, hx⟩
    · -- 7: slot 56 := Op.unOp UnOp.not 4 t55
      refine StepOK.guarded (kn_stable _) 2 false 51 rfl rfl (fun ρ w _ _ hf => (hf 51).1 rfl) fun ρ w hρ hw hf => ?_
      have h55 : ρ (.tmp 55) = (.bool true) := (hf 55).1 rfl
      exact Exec.same (v := .bool false) rfl (by simp [go_sem, hρ.const, h55]) rfl
    · -- 8: slot 57 := Op.pick t51 (const (Value.bool true)) t56
      refine StepOK.plain (kn_stable _) rfl fun ρ w hρ hw hf => ?_
      have h51 : ρ (.tmp 51) = (.bool false) := (hf 51).1 rfl
      have h56 : ρ (.tmp 56) = (.bool false) := (hf 56).1 rfl
      exact Exec.kpickF rfl rfl h51 h56
    · -- 9: slot 58 := Op.move t57
      refine StepOK.plain (kn_stable _) rfl fun ρ w hρ hw hf => ?_
      have h57 : ρ (.tmp 57) = (.bool false) := (hf 57).1 rfl
      exact Exec.kmove rfl rfl h57
    · -- 10: slot 59 := Op.move t12
      refine StepOK.guarded (kn_stable _) 9 false 58 rfl rfl (fun ρ w _ _ hf => (hf 58).1 rfl) fun ρ w hρ hw hf => ?_
      have h12 : ρ (.tmp 12) = (.int .i64 1) := (hf 12).2 rfl rfl
      exact Exec.kmove rfl rfl h12
    · -- 11: slot 60 := Op.binOp BinOp.neq 35 t59 (const (1:i64)) 35
      refine StepOK.guarded (kn_stable _) 9 false 58 rfl rfl (fun ρ w _ _ hf => (hf 58).1 rfl) fun ρ w hρ hw hf => ?_
      have h59 : ρ (.tmp 59) = (.int .i64 1) := (hf 59).1 rfl
      exact Exec.same (v := .bool false) rfl (by simp [go_sem, hρ.const, h59]) rfl
    · -- 12: slot 61 := Op.pick t58 (const (Value.bool true)) t60
      refine StepOK.plain (kn_stable _) rfl fun ρ w hρ hw hf => ?_
      have h58 : ρ (.tmp 58) = (.bool false) := (hf 58).1 rfl
      have h60 : ρ (.tmp 60) = (.bool false) := (hf 60).1 rfl
      exact Exec.kpickF rfl rfl h58 h60
  case fin =>
    intro ν w8 hfin hext
    have h0 : ν 61 = .bool false := hfin 12 61 rfl
    simp only [Exit.then, ended, List.foldl_cons, List.foldl_nil, List.setIfInBounds_toArray, List.set_cons_succ, List.set_cons_zero, h0]
    have HX8 := Lib.hid (HX7.out.trans hext)
    clear hext hfin h0
    obtain ⟨q, e2, hDD⟩ : ∃ q e2, rlDec b = (q, e2) := ⟨_, _, rfl⟩
    have HDB := Lib.hid (relDec_any (.slice ab b.length cb) b w8 (HB.out.ext HX8.out) (by have := HBL.out; omega))
    rw [hDD] at HDB
    have HDI : Hid (e2 ≠ 0 → q = .zero) := Lib.hid fun h => by have := rlDec_err (b := b) (by rw [hDD]; exact h); rw [hDD] at this; exact this
    have HDJ : Hid (e2 = 0 → b = rlBytes q ∧ rlErr q = 0 ∧ q.ok) := Lib.hid fun h => by have := rlDec_inv (b := b) (by rw [hDD]; exact h); rw [hDD] at this; exact this
    clear hDD
    go_wp2_with fail
    refine HDB.out.mono ?_
    rintro e w20 ⟨cq, rfl, hx20, hcq⟩
    have HX20 := Lib.hid (HX8.out.trans hx20)
    obtain ⟨aq, lq, rfl⟩ := hcq.shape
    have hg20 := heap_alloc_new w20 (.cells (relv q (.slice aq q.cols.length lq)) 32)
    obtain ⟨W20, hW20⟩ : ∃ W20, W20 = w20.alloc (.cells (relv q (.slice aq q.cols.length lq)) 32) := ⟨_, rfl⟩
    have hxx : Ext w20 W20 := by rw [hW20]; exact (Ch.refl _ _).alloc _
    rw [← hW20] at hg20
    have HW20 : Hid (W20 = w20.alloc (.cells #[.int .u32 (q.oid : Nat), .int .u32 (q.ver : Nat), .string ⟨q.name.toArray⟩, .int .u8 (q.ident : Nat), .slice aq q.cols.length lq] 32)) := Lib.hid hW20
    have HX21 := Lib.hid (HX20.out.trans hxx); have HCQ := Lib.hid (ColS.ext hcq hxx); have HG20 := Lib.hid hg20
    obtain ⟨d0, d1, d2, d3, d4⟩ := row_cells hg20
    rw [hW20] at d0 d1 d2 d3 d4
    clear hx20 hcq hg20 hW20 hxx HDB
    unfold relv strV at d0 d1 d2 d3 d4 ⊢
    by_cases he2 : e2 = 0
    case neg =>
      have en : (e2 != 0) = true := by simpa using he2
      have hq := HDI.out he2
      clear he2 HDI HDJ
      have b0 := fun w => build_rl0 w
      have HSM := Lib.hid (relSame_any q .zero (.slice aq q.cols.length lq) (.slice none 0 0) W20 HCQ.out (colS_nil _))
      rw [decide_eq_true hq] at HSM
      have hz2 : relv .zero (.slice none 0 0) = #[.int .u32 0, .int .u32 0, .string ⟨#[]⟩, .int .u8 0, .slice none 0 0] := rfl
      rw [hz2] at HSM
      unfold relv strV at HSM
      clear hz2 hq
      go_wp2_with (go_at_call 18; rw [← HW20.out]; refine HSM.out.mono ?_)
      rintro e w21 ⟨rfl, hx21⟩
      have HX22 := Lib.hid (HX21.out.trans hx21)
      clear hx21 HSM
      go_wp2_with (go_at_call 22; refine (awake8_any _).mono ?_)
      rintro e w22 ⟨rfl, hx22⟩
      have HX23 := Lib.hid (HX22.out.trans hx22)
      clear hx22
      go_wp2
      go_ret
      exact ⟨by simp, HX23.out⟩
    subst he2
    obtain ⟨hbq, heq, hqo⟩ := HDJ.out rfl
    have hqf : q.fits := ⟨by have := (rlErr_zero heq).2.2.1.2.1; omega, fun c hc => by have := (colsErr_zero _ _ (rlErr_zero heq).2.2.2.2.2.2.1 c hc).1.2.1; omega⟩
    have HEN2 := Lib.hid (relEnc_any q (.slice aq q.cols.length lq) W20 HCQ.out hqf hqo)
    rw [heq, ← hbq] at HEN2
    unfold relv strV at HEN2
    clear hbq heq hqo hqf HDI HDJ
    go_wp2_with (go_at_call 14; rw [← HW20.out]; refine HEN2.out.mono ?_)
    rintro e w21 ⟨s21, rfl, hx21, hr21⟩
    rw [if_pos rfl] at hr21
    have HX22 := Lib.hid (HX21.out.trans hx21)
    have hrb := HB.out.ext HX22.out
    have hs1 := run_toString (P := Try.prog) hr21 (src := 34) (dst := 9) Try.underlying34 Try.underlying5 Try.underlying9
    have hs2 := run_toString (P := Try.prog) hrb (src := 34) (dst := 9) Try.underlying34 Try.underlying5 Try.underlying9
    obtain ⟨a21, l21, rfl⟩ := hr21.shape
    unfold strV at hs1 hs2
    generalize (⟨b.toArray⟩ : ByteArray) = BA at *
    clear hx21 hr21 hrb HEN2 d0 d1 d2 d3 d4
    go_wp2_with (go_at_call 22; refine (awake8_any _).mono ?_)
    rintro e w22 ⟨rfl, hx22⟩
    have HX23 := Lib.hid (HX22.out.trans hx22)
    clear hx22
    go_wp2
    go_ret
    exact ⟨by simp, HX23.out⟩

end Go.Proofs.Ytcejjckhhdgdnaa
