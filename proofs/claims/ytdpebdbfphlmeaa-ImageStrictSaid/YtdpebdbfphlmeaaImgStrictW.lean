/-
  ImageStrict: the walk. MADE BY mkImgStrict.py
-/
import Derived.Test.YtdpebdbfphlmeaaImgStrictM
namespace Go.Proofs.Ytdpebdbfphlmeaa
open Go.RowKit Go.Lac

set_option maxRecDepth 20000 in
set_option maxHeartbeats 8000000 in
theorem imageStrict_walk (r : Rl) (cv vb va : Value) (ek eo : Nat) (b a : List Cel) (w : World) (hb : ColS w cv r.cols) (hvb : RcS w vb b) (hva : RcS w va a) (hf : r.fits) :
    Calls Try.prog 7 #[.agg (relv r cv), .agg #[.int .u8 (ek : Nat), .int .u8 (eo : Nat), vb, va]] w fun e w' => e = .returned (.bool true) ∧ Ext w w' := by
  obtain ⟨W, hW⟩ : ∃ W, W = (w.alloc (.cells (relv r cv) 27)).alloc (.cells #[.int .u8 (ek : Nat), .int .u8 (eo : Nat), vb, va] 48) := ⟨_, rfl⟩
  have hx : Ext w W := by rw [hW]; exact ((Ch.refl _ _).alloc _).alloc _
  have HBOX : Hid (W.heap[w.heap.size]? = some (.cells (relv r cv) 27 (0, 0))) := Lib.hid (by rw [hW]; exact heap_alloc2_old _ _ _)
  have HEV : Hid (W.heap[w.heap.size + 1]? = some (.cells #[.int .u8 (ek : Nat), .int .u8 (eo : Nat), vb, va] 48 (0, 0))) := Lib.hid (by rw [hW]; exact heap_alloc2_new _ _ _)
  have HGB := Lib.hid (great10_any r vb cv b W (RcS.ext hvb hx) (ColS.ext hb hx))
  have HGA := Lib.hid (fun W' (h : Ext w W') => great10_any r va cv a W' (RcS.ext hva h) (ColS.ext hb h))
  have HAW := Lib.hid awake12_any
  have HX := Lib.hid hx; have HW := Lib.hid hW
  obtain ⟨ao, cap, hcv, _⟩ := id hb
  obtain ⟨vbo, vbc, hvbe, _⟩ := hvb.shape
  obtain ⟨vao, vac, hvae, _⟩ := hva.shape
  by_cases hG : GreatR b r
  · rw [decide_eq_true hG] at HGB
    subst hcv; subst hvbe; subst hvae
    clear hb hvb hva hf hx hW hG HAW HGA
    generalize r.cols.length = n at *
    generalize b.length = nb at *
    generalize a.length = na at *
    unfold relv strV at *
    generalize (⟨r.name.toArray⟩ : ByteArray) = A1 at *
    generalize r.oid = o1 at *
    generalize r.ver = o2 at *
    generalize r.ident = o3 at *
    go_enter Try.func7, Try.ntmps7
    go_wp2_with fail
    rw [← HW.out]
    refine HGB.out.mono ?_
    rintro e w2 ⟨rfl, hx2⟩
    have HX2 := Lib.hid (HX.out.trans hx2); clear hx2
    go_wp2
    go_ret
    exact ⟨rfl, HX2.out⟩
  rw [decide_eq_false hG] at HGB
  have hl20 : b.length ≤ 20 := Nat.le_of_not_lt fun h => hG (.inr (.inr (.inl h)))
  have hc20 : r.cols.length ≤ 20 := Nat.le_of_not_lt fun h => hG (.inr (.inr (.inr (.inl h))))
  have HBS := Lib.hid hb; have HVB := Lib.hid hvb; have HVA := Lib.hid hva; have HF := Lib.hid hf; have HL20 := Lib.hid hl20; have HC20 := Lib.hid hc20
  have HGL := Lib.hid (fun h : ¬ GreatR a r => (show a.length ≤ 20 from Nat.le_of_not_lt fun k => h (.inr (.inr (.inl k)))))
  have HCV := Lib.hid hcv
  have HREL : Hid (relv r cv = #[.int .u32 (r.oid : Nat), .int .u32 (r.ver : Nat), .string ⟨r.name.toArray⟩, .int .u8 (r.ident : Nat), cv]) := Lib.hid rfl
  have HRELX : Hid (∀ c, relv r c = #[.int .u32 (r.oid : Nat), .int .u32 (r.ver : Nat), .string ⟨r.name.toArray⟩, .int .u8 (r.ident : Nat), c]) := Lib.hid fun c => rfl
  have HRT : Hid (∀ c u u' (k o : Nat) W', ColS W' c r.cols → PcS W' u b → PcS W' u' a → a.length ≤ 20 → Calls Try.prog 20 #[.agg (relv r c), .int .u8 (k : Nat), .int .u8 (o : Nat), u, u'] W' fun e w'' => e = .returned (.int .i64 (rightE r k o b a : Nat)) ∧ Ext W' w'') := Lib.hid (fun c u u' k o W' h h1 h2 h3 => right_any r c u u' k o b a W' h hf (by omega) h1 h2 (by omega))
  have HFU := Lib.hid (fun c u W' (h : ColS W' c r.cols) (h' : PcS W' u a) => isFull_any r c u a W' h hf (by omega) h')
  have M1 := Lib.hid (@cnt_le r ek b a); have M2 := Lib.hid (@insert_facts r eo b a)
  have MC : Hid (cntR r ek b a 0 = 0 ∧ ∀ j, cntR r ek b a (j + 1) = cntR r ek b a j + if rightE r ek j b a = 0 then 1 else 0) := Lib.hid ⟨rfl, fun j => rfl⟩
  clear hb hvb hva hf hx hW hG hl20 hc20 hcv
  rw [HCV.out] at HGB HGA HBOX HW HREL
  have HVBE := Lib.hid hvbe; have HVAE := Lib.hid hvae
  rw [HCV.out]
  subst hvbe; subst hvae
  have HST : Hid (∀ (W' : World), Ext w W' → True) := Lib.hid fun _ _ => trivial
  unfold relv strV at HGB HGA HBOX HW HREL ⊢
  go_enter Try.func7, Try.ntmps7
  go_wp2_with fail
  rw [← HW.out]
  refine HGB.out.mono ?_
  rintro e w2 ⟨rfl, hx2⟩
  have HX2 := Lib.hid (HX.out.trans hx2)
  have HEV2 := Lib.hid (heap_ext hx2 HEV.out); have HBOX2 := Lib.hid (heap_ext hx2 HBOX.out)
  have d0 : w2.cell? ⟨w.heap.size, 0, none⟩ = some (.int .u32 (r.oid : Nat)) := by rw [cell_of_row _ _ _ _ _ _ (HBOX2.out)]; rfl
  have d1 : w2.cell? ⟨w.heap.size, 1, none⟩ = some (.int .u32 (r.ver : Nat)) := by rw [cell_of_row _ _ _ _ _ _ (HBOX2.out)]; rfl
  have d2 : w2.cell? ⟨w.heap.size, 2, none⟩ = some (.string ⟨r.name.toArray⟩) := by rw [cell_of_row _ _ _ _ _ _ (HBOX2.out)]; rfl
  have d3 : w2.cell? ⟨w.heap.size, 3, none⟩ = some (.int .u8 (r.ident : Nat)) := by rw [cell_of_row _ _ _ _ _ _ (HBOX2.out)]; rfl
  have d4 : w2.cell? ⟨w.heap.size, 4, none⟩ = some (.slice ao r.cols.length cap) := by rw [cell_of_row _ _ _ _ _ _ (HBOX2.out)]; rfl
  have e3 : w2.cell? ⟨w.heap.size + 1, 3, none⟩ = some (.slice vao a.length vac) := by rw [cell_of_row _ _ _ _ _ _ HEV2.out]; rfl
  clear hx2
  go_wp2_with fail
  refine (HGA.out w2 HX2.out).mono ?_
  rintro e w3 ⟨rfl, hx3⟩
  have HX3 := Lib.hid (HX2.out.trans hx3)
  have HEV3 := Lib.hid (heap_ext hx3 HEV2.out); have HBOX3 := Lib.hid (heap_ext hx3 HBOX2.out)
  clear hx3 d0 d1 d2 d3 d4 e3
  by_cases hG : GreatR a r
  · rw [decide_eq_true hG]
    clear hG
    go_wp2
    go_ret
    exact ⟨rfl, HX3.out⟩
  have HLA := Lib.hid (HGL.out hG)
  rw [decide_eq_false hG]
  clear hG
  go_wp2
  have hrx : (#[.int .u32 (r.oid : Nat), .int .u32 (r.ver : Nat), .string ⟨r.name.toArray⟩, .int .u8 (r.ident : Nat), .slice ao r.cols.length cap] : Array Value) = relv r (.slice ao r.cols.length cap) := rfl
  refine wp_region_boxes (stT r (.slice ao r.cols.length cap) (.slice vbo b.length vbc) (.slice vao a.length vac) (w.heap.size + 1) b a) [stB] mixedR (by rfl) (by rfl) ?all ?fin
  case all =>
    refine ⟨?_, ?_, ?_, ?_, ?_, ?_, ?_, ?_, ?_, ?_, ?_, ?_, trivial⟩
    · refine StepA.bplain (by rfl) (by rfl) rfl fun ρ w4 L hρ hw hf => ?_
      have h : ρ (.tmp 2) = .pointer (some ⟨w.heap.size, 0, none⟩) := (hf 2).2 rfl rfl
      exact Exec.kloadrow rfl rfl h (heap_of_ext hw HBOX3.out) Try.underlying27 rfl infoBk rfl
    · refine StepA.bplain (by rfl) (by rfl) rfl fun ρ w4 L hρ hw hf => ?_
      have h : ρ (.tmp 21) = .agg (relv r (.slice ao r.cols.length cap)) := (hf 21).1 rfl
      refine Exec.kcall #[.agg (relv r (.slice ao r.cols.length cap))] hρ rfl rfl (by simp [h]) Try.func9 (by rfl) (by rfl) ((relOwn_any r (.slice ao r.cols.length cap) w4 (by rw [← HCV.out]; exact ColS.ext HBS.out (HX3.out.trans hw)) (by have := HC20.out; omega)).mono ?_)
      rintro e w' ⟨cc, rfl, h1, h2⟩
      exact ⟨_, rfl, ⟨cc, rfl, ownsRow_down h2 (Nat.zero_le _)⟩, h1⟩
    · refine StepA.bplain (by rfl) (by rfl) rfl fun ρ w4 L hρ hw hf => ?_
      have h : ρ (.tmp 3) = .pointer (some ⟨(w.heap.size + 1), 0, none⟩) := (hf 3).2 rfl rfl
      exact Exec.kfield (T := fun d => (stT r (.slice ao r.cols.length cap) (.slice vbo b.length vbc) (.slice vao a.length vac) (w.heap.size + 1) b a d).kn) rfl rfl h (fieldE2 w4 _) rfl
    · refine StepA.bplain (by rfl) (by rfl) rfl fun ρ w4 L hρ hw hf => ?_
      have h : ρ (.tmp 23) = .pointer (some ⟨(w.heap.size + 1), 2, none⟩) := (hf 23).1 rfl
      have hc : w4.cell? ⟨w.heap.size + 1, 2, none⟩ = some (.slice vbo b.length vbc) := by rw [cell_of_row _ _ _ _ _ _ (heap_of_ext hw HEV3.out)]; rfl
      exact Exec.same (v := .slice vbo b.length vbc) rfl (by simp [go_sem, hρ.const, h, hc]) rfl
    · refine StepA.bplain (by rfl) (by rfl) rfl fun ρ w4 L hρ hw hf => ?_
      have h : ρ (.tmp 24) = .slice vbo b.length vbc := (hf 24).1 rfl
      refine Exec.kcall #[.slice vbo b.length vbc] hρ rfl rfl (by simp [h]) Try.func10 (by rfl) (by rfl) ((own10_any _ b w4 (RcS.ext HVB.out (HX3.out.trans hw)) (by have := HL20.out; omega)).mono ?_)
      rintro e w' ⟨y, rfl, h1, h2⟩
      exact ⟨_, rfl, ownsRow_down h2 (Nat.zero_le _), h1⟩
    · refine StepA.bplain (by rfl) (by rfl) rfl fun ρ w4 L hρ hw hf => ?_
      have h : ρ (.tmp 3) = .pointer (some ⟨(w.heap.size + 1), 0, none⟩) := (hf 3).2 rfl rfl
      exact Exec.kfield (T := fun d => (stT r (.slice ao r.cols.length cap) (.slice vbo b.length vbc) (.slice vao a.length vac) (w.heap.size + 1) b a d).kn) rfl rfl h (fieldE3 w4 _) rfl
    · refine StepA.bplain (by rfl) (by rfl) rfl fun ρ w4 L hρ hw hf => ?_
      have h : ρ (.tmp 26) = .pointer (some ⟨(w.heap.size + 1), 3, none⟩) := (hf 26).1 rfl
      have hc : w4.cell? ⟨w.heap.size + 1, 3, none⟩ = some (.slice vao a.length vac) := by rw [cell_of_row _ _ _ _ _ _ (heap_of_ext hw HEV3.out)]; rfl
      exact Exec.same (v := .slice vao a.length vac) rfl (by simp [go_sem, hρ.const, h, hc]) rfl
    · refine StepA.bplain (by rfl) (by rfl) rfl fun ρ w4 L hρ hw hf => ?_
      have h : ρ (.tmp 27) = .slice vao a.length vac := (hf 27).1 rfl
      refine Exec.kcall #[.slice vao a.length vac] hρ rfl rfl (by simp [h]) Try.func10 (by rfl) (by rfl) ((own10_any _ a w4 (RcS.ext HVA.out (HX3.out.trans hw)) (by have := HLA.out; omega)).mono ?_)
      rintro e w' ⟨y, rfl, h1, h2⟩
      exact ⟨_, rfl, ownsRow_down h2 (Nat.zero_le _), h1⟩
    · exact StepA.balloc (b := stB) (by rfl) (by simp) (show 5 < 74 by decide) rfl (by rfl) rfl rfl (relv .zero (.slice none 0 0)) rfl (fun x w => by unfold execOp; simp [go_sem, stB, relv, Rl.zero, strV])
    · exact StepA.bstore (by rfl) (by rfl) (b := stB) (by simp) rfl (by rfl) (by decide) rfl rfl rfl (by rfl) (by rfl) (by rfl) rfl infoOw (fun v w h => by obtain ⟨c, rfl, ho⟩ := h; obtain ⟨ao, cap, rfl⟩ := owns_shape ho; exact ⟨_, rfl, rfl, relv_one _ _ _ _⟩)
    · refine StepA.bplain (by rfl) (by rfl) rfl fun ρ w4 L hρ hw hf => ?_
      have h := (hf 25).1 rfl
      exact Exec.kassign (T := fun d => (stT r (.slice ao r.cols.length cap) (.slice vbo b.length vbc) (.slice vao a.length vac) (w.heap.size + 1) b a d).kn) rfl rfl h
    · refine StepA.bplain (by rfl) (by rfl) rfl fun ρ w4 L hρ hw hf => ?_
      have h := (hf 28).1 rfl
      exact Exec.kassign (T := fun d => (stT r (.slice ao r.cols.length cap) (.slice vbo b.length vbc) (.slice vao a.length vac) (w.heap.size + 1) b a d).kn) rfl rfl h
  case fin =>
    intro ν w4 hV hx4
    obtain ⟨g5, c5, e5, s5, k5, _, q5⟩ := hV 8 5 rfl
    obtain ⟨cx, ec5, hcx⟩ : ∃ c, Value.agg c5 = .agg (relv r c) ∧ w4.ownsRow 0 68 3 c r.cols.length (colC r.cols) := q5 (by rfl)
    cases ec5
    have hy : w4.ownsRow 0 59 5 (ν 6) b.length (PcC b) := hV 10 6 rfl
    have hz : w4.ownsRow 0 59 5 (ν 7) a.length (PcC a) := hV 11 7 rfl
    obtain ⟨xo, xc, rfl⟩ := owns_shape hcx
    obtain ⟨yo, yc, hye⟩ := owns_shape hy
    obtain ⟨zo, zc, hze⟩ := owns_shape hz
    rw [hye] at hy; rw [hze] at hz
    simp only [Exit.then, ended, List.foldl_cons, List.foldl_nil, List.setIfInBounds_toArray, List.set_cons_succ, List.set_cons_zero, e5, hye, hze]
    have HX4 := Lib.hid (HX3.out.trans hx4)
    have HG5 : Hid (w4.heap[g5]? = some (.cells (relv r (.slice xo r.cols.length xc)) 33 (0, 0))) := Lib.hid k5
    have HEV4 := Lib.hid (heap_ext hx4 HEV3.out)
    have HCX : Hid (ColS w4 (.slice xo r.cols.length xc) r.cols) := Lib.hid (Sl.ofOwns hcx)
    have HY : Hid (PcS w4 (.slice yo b.length yc) b) := Lib.hid (Sl.ofOwns hy)
    have HZ : Hid (PcS w4 (.slice zo a.length zc) a) := Lib.hid (Sl.ofOwns hz)
    clear hV hx4 e5 k5 q5 s5 hcx hy hz hye hze
    generalize ν 21 = v21 at *
    generalize ν 22 = v22 at *
    generalize ν 23 = v23 at *
    generalize ν 24 = v24 at *
    generalize ν 25 = v25 at *
    generalize ν 26 = v26 at *
    generalize ν 27 = v27 at *
    generalize ν 28 = v28 at *
    have HRT' : Hid (∀ (k o : Nat) W', Ext w4 W' → Calls Try.prog 20 #[.agg (relv r (.slice xo r.cols.length xc)), .int .u8 (k : Nat), .int .u8 (o : Nat), .slice yo b.length yc, .slice zo a.length zc] W' fun e w'' => e = .returned (.int .i64 (rightE r k o b a : Nat)) ∧ Ext W' w'') := Lib.hid (fun k o W' h => HRT.out _ _ _ k o W' (ColS.ext HCX.out h) (PcS.ext HY.out h) (PcS.ext HZ.out h) HLA.out)
    have HR0 : Hid (∀ W', Ext w4 W' → Calls Try.prog 20 #[.agg (relv r (.slice xo r.cols.length xc)), .int .u8 (ek : Nat), .int .u8 0, .slice yo b.length yc, .slice zo a.length zc] W' fun e w'' => e = .returned (.int .i64 (rightE r ek 0 b a : Nat)) ∧ Ext W' w'') := Lib.hid (fun W' h => HRT'.out ek 0 W' h)
    have HR1 : Hid (∀ W', Ext w4 W' → Calls Try.prog 20 #[.agg (relv r (.slice xo r.cols.length xc)), .int .u8 (ek : Nat), .int .u8 1, .slice yo b.length yc, .slice zo a.length zc] W' fun e w'' => e = .returned (.int .i64 (rightE r ek 1 b a : Nat)) ∧ Ext W' w'') := Lib.hid (fun W' h => HRT'.out ek 1 W' h)
    have HR2 : Hid (∀ W', Ext w4 W' → Calls Try.prog 20 #[.agg (relv r (.slice xo r.cols.length xc)), .int .u8 (ek : Nat), .int .u8 2, .slice yo b.length yc, .slice zo a.length zc] W' fun e w'' => e = .returned (.int .i64 (rightE r ek 2 b a : Nat)) ∧ Ext W' w'') := Lib.hid (fun W' h => HRT'.out ek 2 W' h)
    have HR3 : Hid (∀ W', Ext w4 W' → Calls Try.prog 20 #[.agg (relv r (.slice xo r.cols.length xc)), .int .u8 (ek : Nat), .int .u8 3, .slice yo b.length yc, .slice zo a.length zc] W' fun e w'' => e = .returned (.int .i64 (rightE r ek 3 b a : Nat)) ∧ Ext W' w'') := Lib.hid (fun W' h => HRT'.out ek 3 W' h)
    have HI4 : Hid (∀ W', Ext w4 W' → Calls Try.prog 20 #[.agg (relv r (.slice xo r.cols.length xc)), .int .u8 4, .int .u8 0, .slice yo b.length yc, .slice zo a.length zc] W' fun e w'' => e = .returned (.int .i64 (rightE r 4 0 b a : Nat)) ∧ Ext W' w'') := Lib.hid (fun W' h => HRT'.out 4 0 W' h)
    have HI6 : Hid (∀ W', Ext w4 W' → Calls Try.prog 20 #[.agg (relv r (.slice xo r.cols.length xc)), .int .u8 6, .int .u8 (eo : Nat), .slice yo b.length yc, .slice zo a.length zc] W' fun e w'' => e = .returned (.int .i64 (rightE r 6 eo b a : Nat)) ∧ Ext W' w'') := Lib.hid (fun W' h => HRT'.out 6 eo W' h)
    have HIF : Hid (∀ W', Ext w4 W' → Calls Try.prog 17 #[.agg (relv r (.slice xo r.cols.length xc)), .slice zo a.length zc] W' fun e w'' => e = .returned (.int .i64 (isFullE r a : Nat)) ∧ Ext W' w'') := Lib.hid (fun W' h => HFU.out _ _ W' (ColS.ext HCX.out h) (PcS.ext HZ.out h))
    clear HRT HRT' HFU HREL HRELX HGB HGA HST hrx
    unfold relv strV at *
    generalize (⟨r.name.toArray⟩ : ByteArray) = A1 at *
    generalize r.oid = o1 at *
    generalize r.ver = o2 at *
    generalize r.ident = o3 at *
    generalize hnq : r.cols.length = nq at *
    generalize hnb : b.length = nb at *
    generalize hna : a.length = na at *
    have HNB := Lib.hid hnb
    clear hnq hnb hna
    go_wp2
    go_loopw [8, 9] (fun vm vo wr => ∃ j : Nat, j ≤ 4 ∧ vo = .int .u8 (j : Nat) ∧ vm = .int .i64 (cntR r ek b a j : Nat) ∧ Hid (cntR r ek b a j ≤ j) ∧ Hid (Ext w4 wr)) (fun _ vo _ => 4 - (intOf vo).toNat)
    case atStart => exact ⟨0, by decide, rfl, by rw [MC.out.1]; rfl, Lib.hid (by rw [MC.out.1]; decide), Lib.hid (Ch.refl _ _)⟩
    case round =>
      obtain ⟨j, hj, rfl, rfl, HLE, HXR⟩ := hrel
      have HBR := Lib.hid (heap_ext HXR.out HG5.out); have HER := Lib.hid (heap_ext HXR.out HEV4.out)
      have d0 : wr.cell? ⟨g5, 0, none⟩ = some (.int .u32 (o1 : Nat)) := by rw [cell_of_row _ _ _ _ _ _ (HBR.out)]; rfl
      have d1 : wr.cell? ⟨g5, 1, none⟩ = some (.int .u32 (o2 : Nat)) := by rw [cell_of_row _ _ _ _ _ _ (HBR.out)]; rfl
      have d2 : wr.cell? ⟨g5, 2, none⟩ = some (.string A1) := by rw [cell_of_row _ _ _ _ _ _ (HBR.out)]; rfl
      have d3 : wr.cell? ⟨g5, 3, none⟩ = some (.int .u8 (o3 : Nat)) := by rw [cell_of_row _ _ _ _ _ _ (HBR.out)]; rfl
      have d4 : wr.cell? ⟨g5, 4, none⟩ = some (.slice xo nq xc) := by rw [cell_of_row _ _ _ _ _ _ (HBR.out)]; rfl
      have e0 : wr.cell? ⟨w.heap.size + 1, 0, none⟩ = some (.int .u8 (ek : Nat)) := by rw [cell_of_row _ _ _ _ _ _ HER.out]; rfl
      have e1 : wr.cell? ⟨w.heap.size + 1, 1, none⟩ = some (.int .u8 (eo : Nat)) := by rw [cell_of_row _ _ _ _ _ _ HER.out]; rfl
      rcases (show j = 0 ∨ j = 1 ∨ j = 2 ∨ j = 3 ∨ j = 4 by omega) with rfl | rfl | rfl | rfl | rfl
      · have HS := Lib.hid (MC.out.2 0)
        go_wp2_with fail
        refine (HR0.out wr HXR.out).mono ?_
        rintro e w5 ⟨rfl, hx5⟩
        have HX5 := Lib.hid (HXR.out.trans hx5)
        clear hx5 d0 d1 d2 d3 d4 e0 e1
        by_cases hE : rightE r ek 0 b a = 0
        · have HS2 : Hid (cntR r ek b a (0 + 1) = cntR r ek b a 0 + 1) := Lib.hid (by rw [HS.out, if_pos hE])
          have n1 := u8_t (a := rightE r ek 0 b a) (z := 0) (by omega)
          have hcl : cntR r ek b a 0 ≤ 4 := Nat.le_trans HLE.out (by decide)
          clear hE HS
          generalize rightE r ek 0 b a = E5 at *
          go_wp2
          go_roundw
          case rel => exact ⟨0 + 1, by decide, rfl, by rw [HS2.out]; rfl, Lib.hid (by rw [HS2.out]; have := HLE.out; omega), HX5⟩
          case measure => simp [intOf]
        · have HS2 : Hid (cntR r ek b a (0 + 1) = cntR r ek b a 0) := Lib.hid (by rw [HS.out, if_neg hE]; rfl)
          have n1 := u8_f (a := rightE r ek 0 b a) (z := 0) (by omega)
          clear hE HS
          generalize rightE r ek 0 b a = E5 at *
          go_wp2
          go_roundw
          case rel => exact ⟨0 + 1, by decide, rfl, by rw [HS2.out], Lib.hid (by rw [HS2.out]; have := HLE.out; omega), HX5⟩
          case measure => simp [intOf]
      · have HS := Lib.hid (MC.out.2 1)
        go_wp2_with fail
        refine (HR1.out wr HXR.out).mono ?_
        rintro e w5 ⟨rfl, hx5⟩
        have HX5 := Lib.hid (HXR.out.trans hx5)
        clear hx5 d0 d1 d2 d3 d4 e0 e1
        by_cases hE : rightE r ek 1 b a = 0
        · have HS2 : Hid (cntR r ek b a (1 + 1) = cntR r ek b a 1 + 1) := Lib.hid (by rw [HS.out, if_pos hE])
          have n1 := u8_t (a := rightE r ek 1 b a) (z := 0) (by omega)
          have hcl : cntR r ek b a 1 ≤ 4 := Nat.le_trans HLE.out (by decide)
          clear hE HS
          generalize rightE r ek 1 b a = E5 at *
          go_wp2
          go_roundw
          case rel => exact ⟨1 + 1, by decide, rfl, by rw [HS2.out]; rfl, Lib.hid (by rw [HS2.out]; have := HLE.out; omega), HX5⟩
          case measure => simp [intOf]
        · have HS2 : Hid (cntR r ek b a (1 + 1) = cntR r ek b a 1) := Lib.hid (by rw [HS.out, if_neg hE]; rfl)
          have n1 := u8_f (a := rightE r ek 1 b a) (z := 0) (by omega)
          clear hE HS
          generalize rightE r ek 1 b a = E5 at *
          go_wp2
          go_roundw
          case rel => exact ⟨1 + 1, by decide, rfl, by rw [HS2.out], Lib.hid (by rw [HS2.out]; have := HLE.out; omega), HX5⟩
          case measure => simp [intOf]
      · have HS := Lib.hid (MC.out.2 2)
        go_wp2_with fail
        refine (HR2.out wr HXR.out).mono ?_
        rintro e w5 ⟨rfl, hx5⟩
        have HX5 := Lib.hid (HXR.out.trans hx5)
        clear hx5 d0 d1 d2 d3 d4 e0 e1
        by_cases hE : rightE r ek 2 b a = 0
        · have HS2 : Hid (cntR r ek b a (2 + 1) = cntR r ek b a 2 + 1) := Lib.hid (by rw [HS.out, if_pos hE])
          have n1 := u8_t (a := rightE r ek 2 b a) (z := 0) (by omega)
          have hcl : cntR r ek b a 2 ≤ 4 := Nat.le_trans HLE.out (by decide)
          clear hE HS
          generalize rightE r ek 2 b a = E5 at *
          go_wp2
          go_roundw
          case rel => exact ⟨2 + 1, by decide, rfl, by rw [HS2.out]; rfl, Lib.hid (by rw [HS2.out]; have := HLE.out; omega), HX5⟩
          case measure => simp [intOf]
        · have HS2 : Hid (cntR r ek b a (2 + 1) = cntR r ek b a 2) := Lib.hid (by rw [HS.out, if_neg hE]; rfl)
          have n1 := u8_f (a := rightE r ek 2 b a) (z := 0) (by omega)
          clear hE HS
          generalize rightE r ek 2 b a = E5 at *
          go_wp2
          go_roundw
          case rel => exact ⟨2 + 1, by decide, rfl, by rw [HS2.out], Lib.hid (by rw [HS2.out]; have := HLE.out; omega), HX5⟩
          case measure => simp [intOf]
      · have HS := Lib.hid (MC.out.2 3)
        go_wp2_with fail
        refine (HR3.out wr HXR.out).mono ?_
        rintro e w5 ⟨rfl, hx5⟩
        have HX5 := Lib.hid (HXR.out.trans hx5)
        clear hx5 d0 d1 d2 d3 d4 e0 e1
        by_cases hE : rightE r ek 3 b a = 0
        · have HS2 : Hid (cntR r ek b a (3 + 1) = cntR r ek b a 3 + 1) := Lib.hid (by rw [HS.out, if_pos hE])
          have n1 := u8_t (a := rightE r ek 3 b a) (z := 0) (by omega)
          have hcl : cntR r ek b a 3 ≤ 4 := Nat.le_trans HLE.out (by decide)
          clear hE HS
          generalize rightE r ek 3 b a = E5 at *
          go_wp2
          go_roundw
          case rel => exact ⟨3 + 1, by decide, rfl, by rw [HS2.out]; rfl, Lib.hid (by rw [HS2.out]; have := HLE.out; omega), HX5⟩
          case measure => simp [intOf]
        · have HS2 : Hid (cntR r ek b a (3 + 1) = cntR r ek b a 3) := Lib.hid (by rw [HS.out, if_neg hE]; rfl)
          have n1 := u8_f (a := rightE r ek 3 b a) (z := 0) (by omega)
          clear hE HS
          generalize rightE r ek 3 b a = E5 at *
          go_wp2
          go_roundw
          case rel => exact ⟨3 + 1, by decide, rfl, by rw [HS2.out], Lib.hid (by rw [HS2.out]; have := HLE.out; omega), HX5⟩
          case measure => simp [intOf]
      · go_wp2_with fail
        refine (HI4.out wr HXR.out).mono ?_
        rintro e w5 ⟨rfl, hx5⟩
        have HX5 := Lib.hid (HXR.out.trans hx5)
        have HB5 := Lib.hid (heap_ext HX5.out HG5.out); have HE5 := Lib.hid (heap_ext HX5.out HEV4.out)
        clear hx5 d0 d1 d2 d3 d4 e0 e1
        have hle : ((cntR r ek b a 4 : Nat) : Int) ≤ 1 := by have := M1.out; omega
        by_cases hE : rightE r 4 0 b a = 0
        case neg =>
          have n1 := u8_f (a := rightE r 4 0 b a) (z := 0) (by omega)
          clear hE
          generalize rightE r 4 0 b a = E4 at *
          generalize cntR r ek b a 4 = C4 at *
          go_wp2_with fail
          refine (HAW.out w5).mono ?_
          rintro e w6 ⟨rfl, hx6⟩
          have HX6 := Lib.hid (HX5.out.trans hx6); clear hx6
          go_wp2
          go_ret
          exact ⟨rfl, HX4.out.trans HX6.out⟩
        obtain ⟨m1, m2, m3⟩ := M2.out hE
        subst m1
        have n1 := u8_t (a := rightE r 4 0 b a) (z := 0) (by omega)
        have HM3 := Lib.hid m3; have HM2 := Lib.hid m2
        clear hE m2 m3
        generalize rightE r 4 0 b a = E4 at *
        generalize cntR r ek b a 4 = C4 at *
        have d0 : w5.cell? ⟨g5, 0, none⟩ = some (.int .u32 (o1 : Nat)) := by rw [cell_of_row _ _ _ _ _ _ (HB5.out)]; rfl
        have d1 : w5.cell? ⟨g5, 1, none⟩ = some (.int .u32 (o2 : Nat)) := by rw [cell_of_row _ _ _ _ _ _ (HB5.out)]; rfl
        have d2 : w5.cell? ⟨g5, 2, none⟩ = some (.string A1) := by rw [cell_of_row _ _ _ _ _ _ (HB5.out)]; rfl
        have d3 : w5.cell? ⟨g5, 3, none⟩ = some (.int .u8 (o3 : Nat)) := by rw [cell_of_row _ _ _ _ _ _ (HB5.out)]; rfl
        have d4 : w5.cell? ⟨g5, 4, none⟩ = some (.slice xo nq xc) := by rw [cell_of_row _ _ _ _ _ _ (HB5.out)]; rfl
        have e1 : w5.cell? ⟨w.heap.size + 1, 1, none⟩ = some (.int .u8 (eo : Nat)) := by rw [cell_of_row _ _ _ _ _ _ HE5.out]; rfl
        go_wp2_with fail
        refine (HIF.out w5 HX5.out).mono ?_
        rintro e w6 ⟨rfl, hx6⟩
        rw [HM2.out]
        have HX6 := Lib.hid (HX5.out.trans hx6)
        have HB6 := Lib.hid (heap_ext HX6.out HG5.out); have HE6 := Lib.hid (heap_ext HX6.out HEV4.out)
        clear hx6 d0 d1 d2 d3 d4 e1
        have d0 : w6.cell? ⟨g5, 0, none⟩ = some (.int .u32 (o1 : Nat)) := by rw [cell_of_row _ _ _ _ _ _ (HB6.out)]; rfl
        have d1 : w6.cell? ⟨g5, 1, none⟩ = some (.int .u32 (o2 : Nat)) := by rw [cell_of_row _ _ _ _ _ _ (HB6.out)]; rfl
        have d2 : w6.cell? ⟨g5, 2, none⟩ = some (.string A1) := by rw [cell_of_row _ _ _ _ _ _ (HB6.out)]; rfl
        have d3 : w6.cell? ⟨g5, 3, none⟩ = some (.int .u8 (o3 : Nat)) := by rw [cell_of_row _ _ _ _ _ _ (HB6.out)]; rfl
        have d4 : w6.cell? ⟨g5, 4, none⟩ = some (.slice xo nq xc) := by rw [cell_of_row _ _ _ _ _ _ (HB6.out)]; rfl
        have e1 : w6.cell? ⟨w.heap.size + 1, 1, none⟩ = some (.int .u8 (eo : Nat)) := by rw [cell_of_row _ _ _ _ _ _ HE6.out]; rfl
        go_wp2_with fail
        refine (HI6.out w6 HX6.out).mono ?_
        rintro e w7 ⟨rfl, hx7⟩
        have HX7 := Lib.hid (HX6.out.trans hx7)
        clear hx7 d0 d1 d2 d3 d4 e1
        have n2 := u8_f (a := rightE r 6 eo b a) (z := 0) (by have := HM3.out; omega)
        generalize rightE r 6 eo b a = E6 at *
        go_wp2_with fail
        refine (HAW.out w7).mono ?_
        rintro e w8 ⟨rfl, hx8⟩
        have HX8 := Lib.hid (HX7.out.trans hx8); clear hx8
        go_wp2
        go_ret
        exact ⟨rfl, HX4.out.trans HX8.out⟩
end Go.Proofs.Ytdpebdbfphlmeaa
