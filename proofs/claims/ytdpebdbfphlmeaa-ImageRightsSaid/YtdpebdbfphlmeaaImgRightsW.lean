/-
  ImageRights: the walk. MADE BY mkImgRights.py
-/
import Derived.Test.YtdpebdbfphlmeaaImgStrictM
import Derived.Test.YtdpebdbfphlmeaaImgTellsW
import Derived.Test.YtdpebdbfphlmeaaImgPA
import Derived.Test.YtdpebdbfphlmeaaImgN
namespace Go.Proofs.Ytdpebdbfphlmeaa
open Go.RowKit Go.Lac

theorem fieldE0 (w : World) (b : Nat) : (Instr.fieldAt 48 (.pointer (some ⟨b, 0, none⟩)) 0).run Try.prog w = .ok (.pointer (some ⟨b, 0, none⟩)) w := by kernel_rfl
theorem fieldE1 (w : World) (b : Nat) : (Instr.fieldAt 48 (.pointer (some ⟨b, 0, none⟩)) 1).run Try.prog w = .ok (.pointer (some ⟨b, 1, none⟩)) w := by kernel_rfl
def rgS : Bx := ⟨5, 8, 9, 19, 33, 5⟩
def rgT (r : Rl) (cv vb va : Value) (ge : Nat) (b a : List Cel) : Tmp → KnT stTs
  | 18 => .is (.agg (relv r cv))
  | 19 => KnT.relO (by decide) r
  | 20 => .is (.pointer (some ⟨ge, 2, none⟩))
  | 21 => .is vb
  | 22 => KnT.rowO (by decide) b
  | 23 => .is (.pointer (some ⟨ge, 3, none⟩))
  | 24 => .is va
  | 25 => KnT.rowO (by decide) a
  | 6 => KnT.rowO (by decide) b
  | 7 => KnT.rowO (by decide) a
  | _ => .any
def rgA (o1 o2 o3 : Nat) (A1 : ByteArray) (xo ao yo zo vbo vao : Option Addr) (nq xc cap nb yc na zc vbc vac g0 ge g5 ek eo : Nat) (r : Rl) (b a : List Cel) : Tmp → Kn
  | 26 => .is (.agg #[.int .u32 (o1 : Nat), .int .u32 (o2 : Nat), .string A1, .int .u8 (o3 : Nat), .slice xo nq xc])
  | 27 => .is (.pointer (some ⟨ge, 0, none⟩))
  | 28 => .is (.int .u8 (ek : Nat))
  | 29 => .is (.pointer (some ⟨ge, 1, none⟩))
  | 30 => .is (.int .u8 (eo : Nat))
  | 31 => .is (.slice yo nb yc)
  | 32 => .is (.slice zo na zc)
  | 33 => .is (.int .i64 (rightE r ek eo b a : Nat))
  | 34 => .is (.agg #[.int .u32 (o1 : Nat), .int .u32 (o2 : Nat), .string A1, .int .u8 (o3 : Nat), .slice ao nq cap])
  | 35 => .is (.pointer (some ⟨ge, 0, none⟩))
  | 36 => .is (.int .u8 (ek : Nat))
  | 37 => .is (.pointer (some ⟨ge, 1, none⟩))
  | 38 => .is (.int .u8 (eo : Nat))
  | 39 => .is (.pointer (some ⟨ge, 2, none⟩))
  | 40 => .is (.slice vbo nb vbc)
  | 41 => .is (.pointer (some ⟨ge, 3, none⟩))
  | 42 => .is (.slice vao na vac)
  | 43 => .is (.int .i64 (rightE r ek eo b a : Nat))
  | 44 => .is (.bool false)
  | _ => .any
def rgB (o1 o2 o3 : Nat) (A1 : ByteArray) (xo ao yo zo vbo vao : Option Addr) (nq xc cap nb yc na zc vbc vac g0 ge g5 ek eo : Nat) (r : Rl) (b a : List Cel) : Tmp → Kn
  | 45 => .is (.slice yo nb yc)
  | 46 => .is (.slice zo na zc)
  | 47 => Kn.pcs (mergeL b a)
  | 48 => Kn.rcs (mergeL b a)
  | 49 => .is (.pointer (some ⟨ge, 2, none⟩))
  | 50 => .is (.slice vbo nb vbc)
  | 51 => .is (.pointer (some ⟨ge, 3, none⟩))
  | 52 => .is (.slice vao na vac)
  | 53 => Kn.rcs (mergeL b a)
  | 54 => .is (.bool true)
  | 55 => .is (.bool true)
  | 56 => .is (.bool true)
  | 57 => .is (.bool true)
  | 4 => .is (.bool true)
  | _ => .any
set_option maxRecDepth 20000 in
set_option maxHeartbeats 8000000 in
theorem imageRights_walk (r : Rl) (cv vb va : Value) (ek eo : Nat) (b a : List Cel) (w : World) (hb : ColS w cv r.cols) (hvb : RcS w vb b) (hva : RcS w va a) (hf : r.fits) :
    Calls Try.prog 4 #[.agg (relv r cv), .agg #[.int .u8 (ek : Nat), .int .u8 (eo : Nat), vb, va]] w fun e w' => e = .returned (.bool true) ∧ Ext w w' := by
  obtain ⟨W, hW⟩ : ∃ W, W = (w.alloc (.cells (relv r cv) 27)).alloc (.cells #[.int .u8 (ek : Nat), .int .u8 (eo : Nat), vb, va] 48) := ⟨_, rfl⟩
  have hx : Ext w W := by rw [hW]; exact ((Ch.refl _ _).alloc _).alloc _
  have HBOX : Hid (W.heap[w.heap.size]? = some (.cells (relv r cv) 27 (0, 0))) := Lib.hid (by rw [hW]; exact heap_alloc2_old _ _ _)
  have HEV : Hid (W.heap[w.heap.size + 1]? = some (.cells #[.int .u8 (ek : Nat), .int .u8 (eo : Nat), vb, va] 48 (0, 0))) := Lib.hid (by rw [hW]; exact heap_alloc2_new _ _ _)
  have HGB := Lib.hid (great10_any r vb cv b W (RcS.ext hvb hx) (ColS.ext hb hx))
  have HGA := Lib.hid (fun W' (h : Ext w W') => great10_any r va cv a W' (RcS.ext hva h) (ColS.ext hb h))
  have HAW := Lib.hid awake12_any
  have HX := Lib.hid hx; have HW := Lib.hid hW
  obtain ⟨ao, cap, hcv, _⟩ := id hb
  obtain ⟨vbo, vbc, hvbe, _⟩ := hvb.shape
  obtain ⟨vao, vac, hvae, _⟩ := hva.shape
  by_cases hG : GreatR b r
  · rw [decide_eq_true hG] at HGB
    subst hcv; subst hvbe; subst hvae
    clear hb hvb hva hf hx hW hG HAW HGA
    generalize r.cols.length = n at *
    generalize b.length = nb at *
    generalize a.length = na at *
    unfold relv strV at *
    generalize (⟨r.name.toArray⟩ : ByteArray) = A1 at *
    generalize r.oid = o1 at *
    generalize r.ver = o2 at *
    generalize r.ident = o3 at *
    go_enter Try.func4, Try.ntmps4
    go_wp2_with fail
    rw [← HW.out]
    refine HGB.out.mono ?_
    rintro e w2 ⟨rfl, hx2⟩
    have HX2 := Lib.hid (HX.out.trans hx2); clear hx2
    go_wp2
    go_ret
    exact ⟨rfl, HX2.out⟩
  rw [decide_eq_false hG] at HGB
  have hl20 : b.length ≤ 20 := Nat.le_of_not_lt fun h => hG (.inr (.inr (.inl h)))
  have hc20 : r.cols.length ≤ 20 := Nat.le_of_not_lt fun h => hG (.inr (.inr (.inr (.inl h))))
  have HBS := Lib.hid hb; have HVB := Lib.hid hvb; have HVA := Lib.hid hva; have HF := Lib.hid hf; have HL20 := Lib.hid hl20; have HC20 := Lib.hid hc20
  have HGL := Lib.hid (fun h : ¬ GreatR a r => (show a.length ≤ 20 from Nat.le_of_not_lt fun k => h (.inr (.inr (.inl k)))))
  have HCV := Lib.hid hcv
  have HREL : Hid (relv r cv = #[.int .u32 (r.oid : Nat), .int .u32 (r.ver : Nat), .string ⟨r.name.toArray⟩, .int .u8 (r.ident : Nat), cv]) := Lib.hid rfl
  have HRELX : Hid (∀ c, relv r c = #[.int .u32 (r.oid : Nat), .int .u32 (r.ver : Nat), .string ⟨r.name.toArray⟩, .int .u8 (r.ident : Nat), c]) := Lib.hid fun c => rfl
  have HRT : Hid (∀ c u u' (k o : Nat) W', ColS W' c r.cols → PcS W' u b → PcS W' u' a → a.length ≤ 20 → Calls Try.prog 20 #[.agg (relv r c), .int .u8 (k : Nat), .int .u8 (o : Nat), u, u'] W' fun e w'' => e = .returned (.int .i64 (rightE r k o b a : Nat)) ∧ Ext W' w'') := Lib.hid (fun c u u' k o W' h h1 h2 h3 => right_any r c u u' k o b a W' h hf (by omega) h1 h2 (by omega))
  have HRR : Hid (∀ W', Ext w W' → a.length ≤ 20 → Calls Try.prog 21 #[.agg (relv r cv), .int .u8 (ek : Nat), .int .u8 (eo : Nat), vb, va] W' fun e w'' => e = .returned (.int .i64 (rightE r ek eo b a : Nat)) ∧ Ext W' w'') := Lib.hid (fun W' h h3 => rright12_any r cv vb va ek eo b a W' (ColS.ext hb h) hf (by omega) (RcS.ext hvb h) (RcS.ext hva h) (by omega))
  have HMG : Hid (∀ u u' W', PcS W' u b → PcS W' u' a → a.length ≤ 20 → Calls Try.prog 22 #[u, u'] W' fun e w'' => ∃ y, e = .returned y ∧ Ext W' w'' ∧ PcS w'' y (mergeL b a)) := Lib.hid (fun u u' W' h h' h3 => (merge_any u u' b a W' h h' (by omega)).mono fun e w'' ⟨y, h1, h2, h3⟩ => ⟨y, h1, h2, h3.s⟩)
  have HRM : Hid (∀ W', Ext w W' → a.length ≤ 20 → Calls Try.prog 23 #[vb, va] W' fun e w'' => ∃ y, e = .returned y ∧ Ext W' w'' ∧ RcS w'' y (mergeL b a)) := Lib.hid (fun W' h h3 => (rmerge_any vb va b a W' (RcS.ext hvb h) (RcS.ext hva h) (by omega)).mono fun e w'' ⟨y, h1, h2, h3⟩ => ⟨y, h1, h2, h3.s⟩)
  have HBK : Hid (∀ u W', PcS W' u (mergeL b a) → a.length ≤ 20 → Calls Try.prog 12 #[u] W' fun e w'' => ∃ y, e = .returned y ∧ Ext W' w'' ∧ RcS w'' y (mergeL b a)) := Lib.hid (fun u W' h h3 => (back10_any u _ W' h (by rw [mergeL_length]; omega)).mono fun e w'' ⟨y, h1, h2, h3⟩ => ⟨y, h1, h2, h3.s⟩)
  have HSM : Hid (∀ u u' W', RcS W' u (mergeL b a) → RcS W' u' (mergeL b a) → Calls Try.prog 11 #[u, u'] W' fun e w'' => e = .returned (.bool true) ∧ Ext W' w'') := Lib.hid (fun u u' W' h h' => (sameR_any u u' _ _ W' h h').mono fun e w'' h => ⟨by rw [h.1, decide_eq_true rfl], h.2⟩)
  clear hb hvb hva hf hx hW hG hl20 hc20 hcv
  rw [HCV.out] at HGB HGA HBOX HW HREL HRR
  have HVBE := Lib.hid hvbe; have HVAE := Lib.hid hvae
  rw [HCV.out]
  subst hvbe; subst hvae
  have HST : Hid (∀ (W' : World), Ext w W' → True) := Lib.hid fun _ _ => trivial
  unfold relv strV at HGB HGA HBOX HW HREL ⊢
  go_enter Try.func4, Try.ntmps4
  go_wp2_with fail
  rw [← HW.out]
  refine HGB.out.mono ?_
  rintro e w2 ⟨rfl, hx2⟩
  have HX2 := Lib.hid (HX.out.trans hx2)
  have HEV2 := Lib.hid (heap_ext hx2 HEV.out); have HBOX2 := Lib.hid (heap_ext hx2 HBOX.out)
  have d0 : w2.cell? ⟨w.heap.size, 0, none⟩ = some (.int .u32 (r.oid : Nat)) := by rw [cell_of_row _ _ _ _ _ _ (HBOX2.out)]; rfl
  have d1 : w2.cell? ⟨w.heap.size, 1, none⟩ = some (.int .u32 (r.ver : Nat)) := by rw [cell_of_row _ _ _ _ _ _ (HBOX2.out)]; rfl
  have d2 : w2.cell? ⟨w.heap.size, 2, none⟩ = some (.string ⟨r.name.toArray⟩) := by rw [cell_of_row _ _ _ _ _ _ (HBOX2.out)]; rfl
  have d3 : w2.cell? ⟨w.heap.size, 3, none⟩ = some (.int .u8 (r.ident : Nat)) := by rw [cell_of_row _ _ _ _ _ _ (HBOX2.out)]; rfl
  have d4 : w2.cell? ⟨w.heap.size, 4, none⟩ = some (.slice ao r.cols.length cap) := by rw [cell_of_row _ _ _ _ _ _ (HBOX2.out)]; rfl
  have e3 : w2.cell? ⟨w.heap.size + 1, 3, none⟩ = some (.slice vao a.length vac) := by rw [cell_of_row _ _ _ _ _ _ HEV2.out]; rfl
  clear hx2
  go_wp2_with fail
  refine (HGA.out w2 HX2.out).mono ?_
  rintro e w3 ⟨rfl, hx3⟩
  have HX3 := Lib.hid (HX2.out.trans hx3)
  have HEV3 := Lib.hid (heap_ext hx3 HEV2.out); have HBOX3 := Lib.hid (heap_ext hx3 HBOX2.out)
  clear hx3 d0 d1 d2 d3 d4 e3
  by_cases hG : GreatR a r
  · rw [decide_eq_true hG]
    clear hG
    go_wp2
    go_ret
    exact ⟨rfl, HX3.out⟩
  have HLA := Lib.hid (HGL.out hG)
  rw [decide_eq_false hG]
  clear hG
  go_wp2
  have hrx : (#[.int .u32 (r.oid : Nat), .int .u32 (r.ver : Nat), .string ⟨r.name.toArray⟩, .int .u8 (r.ident : Nat), .slice ao r.cols.length cap] : Array Value) = relv r (.slice ao r.cols.length cap) := rfl
  refine wp_region_boxes (rgT r (.slice ao r.cols.length cap) (.slice vbo b.length vbc) (.slice vao a.length vac) (w.heap.size + 1) b a) [rgS] mixedR (by rfl) (by rfl) ?all ?fin
  case all =>
    refine ⟨?_, ?_, ?_, ?_, ?_, ?_, ?_, ?_, ?_, ?_, ?_, ?_, trivial⟩
    · refine StepA.bplain (by rfl) (by rfl) rfl fun ρ w4 L hρ hw hf => ?_
      have h : ρ (.tmp 2) = .pointer (some ⟨w.heap.size, 0, none⟩) := (hf 2).2 rfl rfl
      exact Exec.kloadrow rfl rfl h (heap_of_ext hw HBOX3.out) Try.underlying27 rfl infoBk rfl
    · refine StepA.bplain (by rfl) (by rfl) rfl fun ρ w4 L hρ hw hf => ?_
      have h : ρ (.tmp 18) = .agg (relv r (.slice ao r.cols.length cap)) := (hf 18).1 rfl
      refine Exec.kcall #[.agg (relv r (.slice ao r.cols.length cap))] hρ rfl rfl (by simp [h]) Try.func9 (by rfl) (by rfl) ((relOwn_any r (.slice ao r.cols.length cap) w4 (by rw [← HCV.out]; exact ColS.ext HBS.out (HX3.out.trans hw)) (by have := HC20.out; omega)).mono ?_)
      rintro e w' ⟨cc, rfl, h1, h2⟩
      exact ⟨_, rfl, ⟨cc, rfl, ownsRow_down h2 (Nat.zero_le _)⟩, h1⟩
    · refine StepA.bplain (by rfl) (by rfl) rfl fun ρ w4 L hρ hw hf => ?_
      have h : ρ (.tmp 3) = .pointer (some ⟨(w.heap.size + 1), 0, none⟩) := (hf 3).2 rfl rfl
      exact Exec.kfield (T := fun d => (rgT r (.slice ao r.cols.length cap) (.slice vbo b.length vbc) (.slice vao a.length vac) (w.heap.size + 1) b a d).kn) rfl rfl h (fieldE2 w4 _) rfl
    · refine StepA.bplain (by rfl) (by rfl) rfl fun ρ w4 L hρ hw hf => ?_
      have h : ρ (.tmp 20) = .pointer (some ⟨(w.heap.size + 1), 2, none⟩) := (hf 20).1 rfl
      have hc : w4.cell? ⟨w.heap.size + 1, 2, none⟩ = some (.slice vbo b.length vbc) := by rw [cell_of_row _ _ _ _ _ _ (heap_of_ext hw HEV3.out)]; rfl
      exact Exec.same (v := .slice vbo b.length vbc) rfl (by simp [go_sem, hρ.const, h, hc]) rfl
    · refine StepA.bplain (by rfl) (by rfl) rfl fun ρ w4 L hρ hw hf => ?_
      have h : ρ (.tmp 21) = .slice vbo b.length vbc := (hf 21).1 rfl
      refine Exec.kcall #[.slice vbo b.length vbc] hρ rfl rfl (by simp [h]) Try.func10 (by rfl) (by rfl) ((own10_any _ b w4 (RcS.ext HVB.out (HX3.out.trans hw)) (by have := HL20.out; omega)).mono ?_)
      rintro e w' ⟨y, rfl, h1, h2⟩
      exact ⟨_, rfl, ownsRow_down h2 (Nat.zero_le _), h1⟩
    · refine StepA.bplain (by rfl) (by rfl) rfl fun ρ w4 L hρ hw hf => ?_
      have h : ρ (.tmp 3) = .pointer (some ⟨(w.heap.size + 1), 0, none⟩) := (hf 3).2 rfl rfl
      exact Exec.kfield (T := fun d => (rgT r (.slice ao r.cols.length cap) (.slice vbo b.length vbc) (.slice vao a.length vac) (w.heap.size + 1) b a d).kn) rfl rfl h (fieldE3 w4 _) rfl
    · refine StepA.bplain (by rfl) (by rfl) rfl fun ρ w4 L hρ hw hf => ?_
      have h : ρ (.tmp 23) = .pointer (some ⟨(w.heap.size + 1), 3, none⟩) := (hf 23).1 rfl
      have hc : w4.cell? ⟨w.heap.size + 1, 3, none⟩ = some (.slice vao a.length vac) := by rw [cell_of_row _ _ _ _ _ _ (heap_of_ext hw HEV3.out)]; rfl
      exact Exec.same (v := .slice vao a.length vac) rfl (by simp [go_sem, hρ.const, h, hc]) rfl
    · refine StepA.bplain (by rfl) (by rfl) rfl fun ρ w4 L hρ hw hf => ?_
      have h : ρ (.tmp 24) = .slice vao a.length vac := (hf 24).1 rfl
      refine Exec.kcall #[.slice vao a.length vac] hρ rfl rfl (by simp [h]) Try.func10 (by rfl) (by rfl) ((own10_any _ a w4 (RcS.ext HVA.out (HX3.out.trans hw)) (by have := HLA.out; omega)).mono ?_)
      rintro e w' ⟨y, rfl, h1, h2⟩
      exact ⟨_, rfl, ownsRow_down h2 (Nat.zero_le _), h1⟩
    · exact StepA.balloc (b := rgS) (by rfl) (by simp) (show 5 < 58 by decide) rfl (by rfl) rfl rfl (relv .zero (.slice none 0 0)) rfl (fun x w => by unfold execOp; simp [go_sem, rgS, relv, Rl.zero, strV])
    · exact StepA.bstore (by rfl) (by rfl) (b := rgS) (by simp) rfl (by rfl) (by decide) rfl rfl rfl (by rfl) (by rfl) (by rfl) rfl infoOw (fun v w h => by obtain ⟨c, rfl, ho⟩ := h; obtain ⟨ao, cap, rfl⟩ := owns_shape ho; exact ⟨_, rfl, rfl, relv_one _ _ _ _⟩)
    · refine StepA.bplain (by rfl) (by rfl) rfl fun ρ w4 L hρ hw hf => ?_
      have h := (hf 22).1 rfl
      exact Exec.kassign (T := fun d => (rgT r (.slice ao r.cols.length cap) (.slice vbo b.length vbc) (.slice vao a.length vac) (w.heap.size + 1) b a d).kn) rfl rfl h
    · refine StepA.bplain (by rfl) (by rfl) rfl fun ρ w4 L hρ hw hf => ?_
      have h := (hf 25).1 rfl
      exact Exec.kassign (T := fun d => (rgT r (.slice ao r.cols.length cap) (.slice vbo b.length vbc) (.slice vao a.length vac) (w.heap.size + 1) b a d).kn) rfl rfl h
  case fin =>
    intro ν w4 hV hx4
    obtain ⟨g5, c5, e5, s5, k5, _, q5⟩ := hV 8 5 rfl
    obtain ⟨cx, ec5, hcx⟩ : ∃ c, Value.agg c5 = .agg (relv r c) ∧ w4.ownsRow 0 68 3 c r.cols.length (colC r.cols) := q5 (by rfl)
    cases ec5
    have hy : w4.ownsRow 0 59 5 (ν 6) b.length (PcC b) := hV 10 6 rfl
    have hz : w4.ownsRow 0 59 5 (ν 7) a.length (PcC a) := hV 11 7 rfl
    obtain ⟨xo, xc, rfl⟩ := owns_shape hcx
    obtain ⟨yo, yc, hye⟩ := owns_shape hy
    obtain ⟨zo, zc, hze⟩ := owns_shape hz
    rw [hye] at hy; rw [hze] at hz
    simp only [Exit.then, ended, List.foldl_cons, List.foldl_nil, List.setIfInBounds_toArray, List.set_cons_succ, List.set_cons_zero, e5, hye, hze]
    have HX4 := Lib.hid (HX3.out.trans hx4); have HX34 := Lib.hid hx4
    have HG5 : Hid (w4.heap[g5]? = some (.cells (relv r (.slice xo r.cols.length xc)) 33 (0, 0))) := Lib.hid k5
    have HEV4 := Lib.hid (heap_ext hx4 HEV3.out)
    have HCX : Hid (ColS w4 (.slice xo r.cols.length xc) r.cols) := Lib.hid (Sl.ofOwns hcx)
    have HY : Hid (PcS w4 (.slice yo b.length yc) b) := Lib.hid (Sl.ofOwns hy)
    have HZ : Hid (PcS w4 (.slice zo a.length zc) a) := Lib.hid (Sl.ofOwns hz)
    clear hV hx4 e5 k5 q5 s5 hcx hy hz hye hze
    generalize ν 18 = v18 at *
    generalize ν 19 = v19 at *
    generalize ν 20 = v20 at *
    generalize ν 21 = v21 at *
    generalize ν 22 = v22 at *
    generalize ν 23 = v23 at *
    generalize ν 24 = v24 at *
    generalize ν 25 = v25 at *
    have HRT' : Hid (∀ (k o : Nat) W', Ext w4 W' → Calls Try.prog 20 #[.agg (relv r (.slice xo r.cols.length xc)), .int .u8 (k : Nat), .int .u8 (o : Nat), .slice yo b.length yc, .slice zo a.length zc] W' fun e w'' => e = .returned (.int .i64 (rightE r k o b a : Nat)) ∧ Ext W' w'') := Lib.hid (fun k o W' h => HRT.out _ _ _ k o W' (ColS.ext HCX.out h) (PcS.ext HY.out h) (PcS.ext HZ.out h) HLA.out)
    have HRR2 : Hid (∀ W', Ext w W' → Calls Try.prog 21 #[.agg (relv r (.slice ao r.cols.length cap)), .int .u8 (ek : Nat), .int .u8 (eo : Nat), .slice vbo b.length vbc, .slice vao a.length vac] W' fun e w'' => e = .returned (.int .i64 (rightE r ek eo b a : Nat)) ∧ Ext W' w'') := Lib.hid (fun W' h => HRR.out W' h HLA.out)
    have HMG2 : Hid (∀ u u' W', PcS W' u b → PcS W' u' a → Calls Try.prog 22 #[u, u'] W' fun e w'' => ∃ y, e = .returned y ∧ Ext W' w'' ∧ PcS w'' y (mergeL b a)) := Lib.hid (fun u u' W' h h' => HMG.out u u' W' h h' HLA.out)
    have HRM2 : Hid (∀ W', Ext w W' → Calls Try.prog 23 #[.slice vbo b.length vbc, .slice vao a.length vac] W' fun e w'' => ∃ y, e = .returned y ∧ Ext W' w'' ∧ RcS w'' y (mergeL b a)) := Lib.hid (fun W' h => HRM.out W' h HLA.out)
    have HBK2 : Hid (∀ u W', PcS W' u (mergeL b a) → Calls Try.prog 12 #[u] W' fun e w'' => ∃ y, e = .returned y ∧ Ext W' w'' ∧ RcS w'' y (mergeL b a)) := Lib.hid (fun u W' h => HBK.out u W' h HLA.out)
    have HBX : Hid (w4.heap[g5]? = some (.cells (relv r (.slice xo r.cols.length xc)) 33 (0, 0))) := HG5
    have HBF : Hid (w4.heap[w.heap.size]? = some (.cells (relv r (.slice ao r.cols.length cap)) 27 (0, 0))) := Lib.hid (heap_ext HX34.out HBOX3.out)
    have HEX := HEV4
    clear HRT HREL HRELX HGB HGA HST hrx
    unfold relv strV at *
    generalize (⟨r.name.toArray⟩ : ByteArray) = A1 at *
    generalize r.oid = o1 at *
    generalize r.ver = o2 at *
    generalize r.ident = o3 at *
    generalize r.cols.length = nq at *
    generalize b.length = nb at *
    generalize a.length = na at *
    go_wp2
    refine wp_region_ext (rgA o1 o2 o3 A1 xo ao yo zo vbo vao nq xc cap nb yc na zc vbc vac w.heap.size (w.heap.size + 1) g5 ek eo r b a) mixedR (by rfl) (by rfl) ?all ?fin
    case all =>
      refine ⟨?_, ?_, ?_, ?_, ?_, ?_, ?_, ?_, ?_, ?_, ?_, ?_, ?_, ?_, ?_, ?_, ?_, ?_, ?_, trivial⟩
      · refine StepOK.plain (kn_stable _) rfl fun ρ w' hρ hw hf => ?_
        have h5 : ρ (.tmp 5) = (.pointer (some ⟨g5, 0, none⟩)) := (hf 5).2 rfl rfl
        exact Exec.kloadrow rfl rfl h5 (heap_ext hw HBX.out) Try.underlying33 rfl infoOw rfl
      · refine StepOK.plain (kn_stable _) rfl fun ρ w' hρ hw hf => ?_
        have h3 : ρ (.tmp 3) = (.pointer (some ⟨(w.heap.size + 1), 0, none⟩)) := (hf 3).2 rfl rfl
        exact Exec.kfield rfl rfl h3 (fieldE0 w' _) rfl
      · refine StepOK.plain (kn_stable _) rfl fun ρ w' hρ hw hf => ?_
        have h27 : ρ (.tmp 27) = (.pointer (some ⟨(w.heap.size + 1), 0, none⟩)) := (hf 27).1 rfl
        have hc : w'.cell? ⟨(w.heap.size + 1), 0, none⟩ = some (.int .u8 (ek : Nat)) := hw.cell (p := ⟨(w.heap.size + 1), 0, none⟩) (fun f => f) _ (by rw [cell_of_row _ _ _ _ _ _ HEX.out]; rfl)
        exact Exec.same (v := (.int .u8 (ek : Nat))) rfl (by simp [go_sem, hρ.const, h27, hc, strV]) rfl
      · refine StepOK.plain (kn_stable _) rfl fun ρ w' hρ hw hf => ?_
        have h3 : ρ (.tmp 3) = (.pointer (some ⟨(w.heap.size + 1), 0, none⟩)) := (hf 3).2 rfl rfl
        exact Exec.kfield rfl rfl h3 (fieldE1 w' _) rfl
      · refine StepOK.plain (kn_stable _) rfl fun ρ w' hρ hw hf => ?_
        have h29 : ρ (.tmp 29) = (.pointer (some ⟨(w.heap.size + 1), 1, none⟩)) := (hf 29).1 rfl
        have hc : w'.cell? ⟨(w.heap.size + 1), 1, none⟩ = some (.int .u8 (eo : Nat)) := hw.cell (p := ⟨(w.heap.size + 1), 1, none⟩) (fun f => f) _ (by rw [cell_of_row _ _ _ _ _ _ HEX.out]; rfl)
        exact Exec.same (v := (.int .u8 (eo : Nat))) rfl (by simp [go_sem, hρ.const, h29, hc, strV]) rfl
      · refine StepOK.plain (kn_stable _) rfl fun ρ w' hρ hw hf => ?_
        have h6 : ρ (.tmp 6) = (.slice yo nb yc) := (hf 6).2 rfl rfl
        exact Exec.kmove rfl rfl h6
      · refine StepOK.plain (kn_stable _) rfl fun ρ w' hρ hw hf => ?_
        have h7 : ρ (.tmp 7) = (.slice zo na zc) := (hf 7).2 rfl rfl
        exact Exec.kmove rfl rfl h7
      · refine StepOK.plain (kn_stable _) rfl fun ρ w' hρ hw hf => ?_
        have h26 : ρ (.tmp 26) = (.agg #[.int .u32 (o1 : Nat), .int .u32 (o2 : Nat), .string A1, .int .u8 (o3 : Nat), .slice xo nq xc]) := (hf 26).1 rfl
        have h28 : ρ (.tmp 28) = (.int .u8 (ek : Nat)) := (hf 28).1 rfl
        have h30 : ρ (.tmp 30) = (.int .u8 (eo : Nat)) := (hf 30).1 rfl
        have h31 : ρ (.tmp 31) = (.slice yo nb yc) := (hf 31).1 rfl
        have h32 : ρ (.tmp 32) = (.slice zo na zc) := (hf 32).1 rfl
        exact Exec.kcall #[(.agg #[.int .u32 (o1 : Nat), .int .u32 (o2 : Nat), .string A1, .int .u8 (o3 : Nat), .slice xo nq xc]), .int .u8 (ek : Nat), .int .u8 (eo : Nat), (.slice yo nb yc), (.slice zo na zc)] hρ rfl rfl (by simp [h26, h28, h30, h31, h32]) Try.func20 (by rfl) (by rfl) ((HRT'.out ek eo w' hw).mono fun e w'' h => ⟨_, h.1, rfl, h.2⟩)
      · refine StepOK.plain (kn_stable _) rfl fun ρ w' hρ hw hf => ?_
        have h2 : ρ (.tmp 2) = (.pointer (some ⟨w.heap.size, 0, none⟩)) := (hf 2).2 rfl rfl
        exact Exec.kloadrow rfl rfl h2 (heap_ext hw HBF.out) Try.underlying27 rfl infoBk rfl
      · refine StepOK.plain (kn_stable _) rfl fun ρ w' hρ hw hf => ?_
        have h3 : ρ (.tmp 3) = (.pointer (some ⟨(w.heap.size + 1), 0, none⟩)) := (hf 3).2 rfl rfl
        exact Exec.kfield rfl rfl h3 (fieldE0 w' _) rfl
      · refine StepOK.plain (kn_stable _) rfl fun ρ w' hρ hw hf => ?_
        have h35 : ρ (.tmp 35) = (.pointer (some ⟨(w.heap.size + 1), 0, none⟩)) := (hf 35).1 rfl
        have hc : w'.cell? ⟨(w.heap.size + 1), 0, none⟩ = some (.int .u8 (ek : Nat)) := hw.cell (p := ⟨(w.heap.size + 1), 0, none⟩) (fun f => f) _ (by rw [cell_of_row _ _ _ _ _ _ HEX.out]; rfl)
        exact Exec.same (v := (.int .u8 (ek : Nat))) rfl (by simp [go_sem, hρ.const, h35, hc, strV]) rfl
      · refine StepOK.plain (kn_stable _) rfl fun ρ w' hρ hw hf => ?_
        have h3 : ρ (.tmp 3) = (.pointer (some ⟨(w.heap.size + 1), 0, none⟩)) := (hf 3).2 rfl rfl
        exact Exec.kfield rfl rfl h3 (fieldE1 w' _) rfl
      · refine StepOK.plain (kn_stable _) rfl fun ρ w' hρ hw hf => ?_
        have h37 : ρ (.tmp 37) = (.pointer (some ⟨(w.heap.size + 1), 1, none⟩)) := (hf 37).1 rfl
        have hc : w'.cell? ⟨(w.heap.size + 1), 1, none⟩ = some (.int .u8 (eo : Nat)) := hw.cell (p := ⟨(w.heap.size + 1), 1, none⟩) (fun f => f) _ (by rw [cell_of_row _ _ _ _ _ _ HEX.out]; rfl)
        exact Exec.same (v := (.int .u8 (eo : Nat))) rfl (by simp [go_sem, hρ.const, h37, hc, strV]) rfl
      · refine StepOK.plain (kn_stable _) rfl fun ρ w' hρ hw hf => ?_
        have h3 : ρ (.tmp 3) = (.pointer (some ⟨(w.heap.size + 1), 0, none⟩)) := (hf 3).2 rfl rfl
        exact Exec.kfield rfl rfl h3 (fieldE2 w' _) rfl
      · refine StepOK.plain (kn_stable _) rfl fun ρ w' hρ hw hf => ?_
        have h39 : ρ (.tmp 39) = (.pointer (some ⟨(w.heap.size + 1), 2, none⟩)) := (hf 39).1 rfl
        have hc : w'.cell? ⟨(w.heap.size + 1), 2, none⟩ = some (.slice vbo nb vbc) := hw.cell (p := ⟨(w.heap.size + 1), 2, none⟩) (fun f => f) _ (by rw [cell_of_row _ _ _ _ _ _ HEX.out]; rfl)
        exact Exec.same (v := (.slice vbo nb vbc)) rfl (by simp [go_sem, hρ.const, h39, hc, strV]) rfl
      · refine StepOK.plain (kn_stable _) rfl fun ρ w' hρ hw hf => ?_
        have h3 : ρ (.tmp 3) = (.pointer (some ⟨(w.heap.size + 1), 0, none⟩)) := (hf 3).2 rfl rfl
        exact Exec.kfield rfl rfl h3 (fieldE3 w' _) rfl
      · refine StepOK.plain (kn_stable _) rfl fun ρ w' hρ hw hf => ?_
        have h41 : ρ (.tmp 41) = (.pointer (some ⟨(w.heap.size + 1), 3, none⟩)) := (hf 41).1 rfl
        have hc : w'.cell? ⟨(w.heap.size + 1), 3, none⟩ = some (.slice vao na vac) := hw.cell (p := ⟨(w.heap.size + 1), 3, none⟩) (fun f => f) _ (by rw [cell_of_row _ _ _ _ _ _ HEX.out]; rfl)
        exact Exec.same (v := (.slice vao na vac)) rfl (by simp [go_sem, hρ.const, h41, hc, strV]) rfl
      · refine StepOK.plain (kn_stable _) rfl fun ρ w' hρ hw hf => ?_
        have h34 : ρ (.tmp 34) = (.agg #[.int .u32 (o1 : Nat), .int .u32 (o2 : Nat), .string A1, .int .u8 (o3 : Nat), .slice ao nq cap]) := (hf 34).1 rfl
        have h36 : ρ (.tmp 36) = (.int .u8 (ek : Nat)) := (hf 36).1 rfl
        have h38 : ρ (.tmp 38) = (.int .u8 (eo : Nat)) := (hf 38).1 rfl
        have h40 : ρ (.tmp 40) = (.slice vbo nb vbc) := (hf 40).1 rfl
        have h42 : ρ (.tmp 42) = (.slice vao na vac) := (hf 42).1 rfl
        exact Exec.kcall #[(.agg #[.int .u32 (o1 : Nat), .int .u32 (o2 : Nat), .string A1, .int .u8 (o3 : Nat), .slice ao nq cap]), .int .u8 (ek : Nat), .int .u8 (eo : Nat), (.slice vbo nb vbc), (.slice vao na vac)] hρ rfl rfl (by simp [h34, h36, h38, h40, h42]) Try.func21 (by rfl) (by rfl) ((HRR2.out w' (HX4.out.trans hw)).mono fun e w'' h => ⟨_, h.1, rfl, h.2⟩)
      · refine StepOK.plain (kn_stable _) rfl fun ρ w' hρ hw hf => ?_
        have h33 : ρ (.tmp 33) = (.int .i64 (rightE r ek eo b a : Nat)) := (hf 33).1 rfl
        have h43 : ρ (.tmp 43) = (.int .i64 (rightE r ek eo b a : Nat)) := (hf 43).1 rfl
        exact Exec.same (v := (.bool false)) rfl (by simp [go_sem, hρ.const, h33, h43]) rfl
    case fin =>
      intro ν9 w9 hfin hx9
      have e0 : ν9 44 = .bool false := hfin 18 44 rfl
      simp only [Exit.then, ended, List.foldl_cons, List.foldl_nil, List.setIfInBounds_toArray, List.set_cons_succ, List.set_cons_zero, e0]
      have HX9 := Lib.hid (HX4.out.trans hx9); have HY9 := Lib.hid (PcS.ext HY.out hx9); have HZ9 := Lib.hid (PcS.ext HZ.out hx9)
      have HEX := Lib.hid (heap_ext hx9 HEX.out)
      clear hfin hx9 e0
      go_wp2
      refine wp_region_ext (rgB o1 o2 o3 A1 xo ao yo zo vbo vao nq xc cap nb yc na zc vbc vac w.heap.size (w.heap.size + 1) g5 ek eo r b a) mixedR (by rfl) (by rfl) ?all ?fin
      case all =>
        refine ⟨?_, ?_, ?_, ?_, ?_, ?_, ?_, ?_, ?_, ?_, ?_, ?_, ?_, ?_, trivial⟩
        · refine StepOK.plain (kn_stable _) rfl fun ρ w' hρ hw hf => ?_
          have h6 : ρ (.tmp 6) = (.slice yo nb yc) := (hf 6).2 rfl rfl
          exact Exec.kmove rfl rfl h6
        · refine StepOK.plain (kn_stable _) rfl fun ρ w' hρ hw hf => ?_
          have h7 : ρ (.tmp 7) = (.slice zo na zc) := (hf 7).2 rfl rfl
          exact Exec.kmove rfl rfl h7
        · refine StepOK.plain (kn_stable _) rfl fun ρ w' hρ hw hf => ?_
          have h45 : ρ (.tmp 45) = (.slice yo nb yc) := (hf 45).1 rfl
          have h46 : ρ (.tmp 46) = (.slice zo na zc) := (hf 46).1 rfl
          exact Exec.kcall #[(.slice yo nb yc), (.slice zo na zc)] hρ rfl rfl (by simp [h45, h46]) Try.func22 (by rfl) (by rfl) ((HMG2.out _ _ w' (PcS.ext HY9.out hw) (PcS.ext HZ9.out hw)).mono fun e w'' ⟨y, h1, h2, h3⟩ => ⟨y, h1, h3, h2⟩)
        · refine StepOK.plain (kn_stable _) rfl fun ρ w' hρ hw hf => ?_
          have h47 : (Kn.pcs (mergeL b a)).holds (ρ (.tmp 47)) w' := (hf 47).1 rfl
          exact Exec.kcall #[ρ (.tmp 47)] hρ rfl rfl (by simp []) Try.func12 (by rfl) (by rfl) ((HBK2.out _ w' h47).mono fun e w'' ⟨y, h1, h2, h3⟩ => ⟨y, h1, h3, h2⟩)
        · refine StepOK.plain (kn_stable _) rfl fun ρ w' hρ hw hf => ?_
          have h3 : ρ (.tmp 3) = (.pointer (some ⟨(w.heap.size + 1), 0, none⟩)) := (hf 3).2 rfl rfl
          exact Exec.kfield rfl rfl h3 (fieldE2 w' _) rfl
        · refine StepOK.plain (kn_stable _) rfl fun ρ w' hρ hw hf => ?_
          have h49 : ρ (.tmp 49) = (.pointer (some ⟨(w.heap.size + 1), 2, none⟩)) := (hf 49).1 rfl
          have hc : w'.cell? ⟨(w.heap.size + 1), 2, none⟩ = some (.slice vbo nb vbc) := hw.cell (p := ⟨(w.heap.size + 1), 2, none⟩) (fun f => f) _ (by rw [cell_of_row _ _ _ _ _ _ HEX.out]; rfl)
          exact Exec.same (v := (.slice vbo nb vbc)) rfl (by simp [go_sem, hρ.const, h49, hc, strV]) rfl
        · refine StepOK.plain (kn_stable _) rfl fun ρ w' hρ hw hf => ?_
          have h3 : ρ (.tmp 3) = (.pointer (some ⟨(w.heap.size + 1), 0, none⟩)) := (hf 3).2 rfl rfl
          exact Exec.kfield rfl rfl h3 (fieldE3 w' _) rfl
        · refine StepOK.plain (kn_stable _) rfl fun ρ w' hρ hw hf => ?_
          have h51 : ρ (.tmp 51) = (.pointer (some ⟨(w.heap.size + 1), 3, none⟩)) := (hf 51).1 rfl
          have hc : w'.cell? ⟨(w.heap.size + 1), 3, none⟩ = some (.slice vao na vac) := hw.cell (p := ⟨(w.heap.size + 1), 3, none⟩) (fun f => f) _ (by rw [cell_of_row _ _ _ _ _ _ HEX.out]; rfl)
          exact Exec.same (v := (.slice vao na vac)) rfl (by simp [go_sem, hρ.const, h51, hc, strV]) rfl
        · refine StepOK.plain (kn_stable _) rfl fun ρ w' hρ hw hf => ?_
          have h50 : ρ (.tmp 50) = (.slice vbo nb vbc) := (hf 50).1 rfl
          have h52 : ρ (.tmp 52) = (.slice vao na vac) := (hf 52).1 rfl
          exact Exec.kcall #[(.slice vbo nb vbc), (.slice vao na vac)] hρ rfl rfl (by simp [h50, h52]) Try.func23 (by rfl) (by rfl) ((HRM2.out w' (HX9.out.trans hw)).mono fun e w'' ⟨y, h1, h2, h3⟩ => ⟨y, h1, h3, h2⟩)
        · refine StepOK.plain (kn_stable _) rfl fun ρ w' hρ hw hf => ?_
          have h48 : (Kn.rcs (mergeL b a)).holds (ρ (.tmp 48)) w' := (hf 48).1 rfl
          have h53 : (Kn.rcs (mergeL b a)).holds (ρ (.tmp 53)) w' := (hf 53).1 rfl
          exact Exec.kcall #[ρ (.tmp 48), ρ (.tmp 53)] hρ rfl rfl (by simp []) Try.func11 (by rfl) (by rfl) ((HSM.out _ _ w' h48 h53).mono fun e w'' h => ⟨_, h.1, rfl, h.2⟩)
        · refine StepOK.plain (kn_stable _) rfl fun ρ w' hρ hw hf => ?_
          have h54 : ρ (.tmp 54) = (.bool true) := (hf 54).1 rfl
          exact Exec.kmove rfl rfl h54
        · refine StepOK.guarded (kn_stable _) 10 true 55 rfl rfl (fun ρ w _ _ hf => (hf 55).1 rfl) fun ρ w' hρ hw hf => ?_
          exact Exec.kcall #[] hρ rfl rfl (by simp []) Try.func19 (by rfl) (by rfl) ((HAW.out w').mono fun e w'' h => ⟨_, h.1, rfl, h.2⟩)
        · refine StepOK.plain (kn_stable _) rfl fun ρ w' hρ hw hf => ?_
          have h55 : ρ (.tmp 55) = (.bool true) := (hf 55).1 rfl
          have h56 : ρ (.tmp 56) = (.bool true) := (hf 56).1 rfl
          exact Exec.kpickT rfl rfl h55 h56
        · refine StepOK.plain (kn_stable _) rfl fun ρ w' hρ hw hf => ?_
          have h57 : ρ (.tmp 57) = (.bool true) := (hf 57).1 rfl
          exact Exec.kassign rfl rfl h57
      case fin =>
        intro ν10 w10 hfin hx10
        have e0 : ν10 4 = .bool true := hfin 13 4 rfl
        simp only [Exit.then, ended, List.foldl_cons, List.foldl_nil, List.setIfInBounds_toArray, List.set_cons_succ, List.set_cons_zero, e0]
        have HX10 := Lib.hid (HX9.out.trans hx10)
        clear hfin hx10 e0
        go_wp2
        go_ret
        exact ⟨rfl, HX10.out⟩
end Go.Proofs.Ytdpebdbfphlmeaa
