/-
  Relations: Decode.
-/
import Derived.Test.YtcejjckhhdgdnaaRelR
namespace Go.Proofs.Ytcejjckhhdgdnaa
open Go.RowKit Go.Lac

theorem results_row_tmp {P : Program} {fn : Func} {p a : Tmp} {ty : TypeId} (h : fn.results = #[.cell p ty, .tmp a]) (tmps : Array Value) (w : World) (g : Nat) (t : TypeId) (cs : Array Value) (fr : Nat × Nat) (d : TypeDesc)
    (hp : tmps.getD p undef = .pointer (some ⟨g, 0, none⟩)) (hg : w.heap[g]? = some (.cells cs t fr))
    (hu : P.underlying ty = some d) (hd : (match d with | .struct _ | .array _ _ => true | _ => false) = true) (hi : (P.info? ty).map (·.size) = some cs.size) :
    (results fn tmps).run P w = .ok (.tuple #[.agg cs, tmps.getD a undef]) w := by
  have hp' : tmps[p]?.getD undef = .pointer (some ⟨g, 0, none⟩) := by simpa using hp
  simp [results, h, hp', asAddr, run_loadVar_row w g t ty cs fr d hg hu hd hi]
theorem colsR_fits : ∀ (n : Nat) (s : RS), ∀ c ∈ (colsR n s).1, c.name.length ≤ 31
  | 0, _, c, hc => by cases hc
  | n + 1, s, c, hc => by
    unfold colsR at hc
    rcases List.mem_cons.1 hc with rfl | hc
    · exact textR_length 31 s
    · exact colsR_fits n _ c hc
theorem rlR_fits (s : RS) : (rlR s).1.fits := by
  refine ⟨?_, fun c hc => ?_⟩
  · have := textR_length 31 (rl1 (rl1 s).2).2
    show (textR 31 (rl1 (rl1 s).2).2).1.length ≤ _
    omega
  · have := colsR_fits _ _ c hc
    omega
def DecPost (T : TypeId) (q : Rl) (er : Int) (w : World) (e : Ending) (w' : World) : Prop :=
  ∃ cv, e = .returned (.tuple #[.agg (relv q cv), .int .i64 er]) ∧ Ext w w' ∧ ColS w' cv q.cols
theorem build_rl0 (w : World) : (Instr.build 32 #[]).run Try.prog w = .ok (.agg #[.int .u32 0, .int .u32 0, .string ⟨#[]⟩, .int .u8 0, .slice none 0 0]) w := by kernel_rfl
theorem colS_nil (w : World) : ColS w (.slice none 0 0) [] := ⟨none, 0, rfl, Nat.le_refl _, Nat.zero_le _, fun _ => rfl, fun x hx => by cases hx⟩

set_option maxRecDepth 20000 in
set_option maxHeartbeats 4000000 in
theorem relDec_any (vb : Value) (b : List UInt8) (w : World) (hb : Rd w vb b) (hl : b.length ≤ 2 ^ 47) :
    Calls Try.prog 23 #[vb] w (DecPost 32 (rlDec b).1 (rlDec b).2 w) := by
  obtain ⟨ao, cap, rfl⟩ := hb.shape
  have hg := heap_alloc_new w (.cells (relv .zero (.slice none 0 0)) 32)
  obtain ⟨W, hW⟩ : ∃ W, W = w.alloc (.cells (relv .zero (.slice none 0 0)) 32) := ⟨_, rfl⟩
  have hx : Ext w W := by rw [hW]; exact (Ch.refl _ _).alloc _
  rw [← hW] at hg
  have HW : Hid (W = w.alloc (.cells #[.int .u32 0, .int .u32 0, .string ⟨#[]⟩, .int .u8 0, .slice none 0 0] 32)) := Lib.hid hW
  have HG := Lib.hid hg; have HX := Lib.hid hx
  have HRD := Lib.hid (read_any (.slice ao b.length cap) b W (hb.ext hx) hl)
  have HD : Hid ((endR (rlR (b, 0)).2 ≠ 0 → rlDec b = (Rl.zero, endR (rlR (b, 0)).2)) ∧ (endR (rlR (b, 0)).2 = 0 → rlErr (rlR (b, 0)).1 ≠ 0 → rlDec b = (Rl.zero, ((rlErr (rlR (b, 0)).1 : Nat) : Int))) ∧ (endR (rlR (b, 0)).2 = 0 → rlErr (rlR (b, 0)).1 = 0 → rlDec b = ((rlR (b, 0)).1, 0))) := Lib.hid (by
    unfold rlDec
    refine ⟨fun h => by rw [if_pos h], fun h h' => by rw [if_neg (by simpa using h), if_pos h'], fun h h' => by rw [if_neg (by simpa using h), if_neg (by simpa using h')]⟩)
  have HTK := Lib.hid (fun r w h => relTake_any r (b, 0) w h)
  have HFT := Lib.hid (rlR_fits (b, 0))
  generalize rlDec b = DD at *
  rcases hR : rlR (b, 0) with ⟨q, s⟩
  rw [hR] at HD HTK HFT
  simp only at HD HTK HFT
  clear hR hg hx hb hl hW
  generalize b.length = n at *
  go_enter Try.func23, Try.ntmps23
  go_wp2_with fail
  rw [← HW.out]
  refine HRD.out.mono ?_
  rintro e w1 ⟨r, rfl, hx1, hi, hr⟩
  have HI := Lib.hid hi
  have HX1 := Lib.hid (HX.out.trans hx1); have HG1 := Lib.hid (heap_ext hx1 HG.out)
  have HGR : Hid (w.heap.size < r) := Lib.hid (by have := (Array.getElem?_eq_some_iff.1 HG.out).1; omega)
  clear hx1 hi hr HRD
  unfold RPtr at *
  go_wp2_with fail
  refine (HTK.out r w1 HI.out).mono ?_
  rintro e w2 ⟨cv, rfl, k1, k2, k3⟩
  have HI2 := Lib.hid k2; have HO2 := Lib.hid k3
  have HX2 : Hid (Ext w w2) := Lib.hid (HX1.out.transOnly k1 (by have := HGR.out; omega))
  have HG2 := Lib.hid (heap_only k1 (by have := HGR.out; omega) HG1.out)
  obtain ⟨av, cc, rfl⟩ := owns_shape k3
  have hg3 := heap_alloc_new w2 (.cells (relv q (.slice av q.cols.length cc)) 32)
  obtain ⟨W3, hW3⟩ : ∃ W3, W3 = w2.alloc (.cells (relv q (.slice av q.cols.length cc)) 32) := ⟨_, rfl⟩
  have hx3 : Ext w2 W3 := by rw [hW3]; exact (Ch.refl _ _).alloc _
  rw [← hW3] at hg3
  have HW3 : Hid (W3 = w2.alloc (.cells #[.int .u32 (q.oid : Nat), .int .u32 (q.ver : Nat), .string ⟨q.name.toArray⟩, .int .u8 (q.ident : Nat), .slice av q.cols.length cc] 32)) := Lib.hid hW3
  have HG3 := Lib.hid hg3; have HX3 := Lib.hid (HX2.out.trans hx3); have HGR3 := Lib.hid (heap_ext hx3 HG2.out)
  have HI3 := Lib.hid (HI2.out.ext hx3)
  have HC3 := Lib.hid (ColS.ext (Sl.ofOwns k3) hx3)
  have HEN := Lib.hid (end_any r s W3 HI3.out)
  have HRT := Lib.hid (relRight_any q (.slice av q.cols.length cc) W3 HC3.out HFT.out)
  have HO3 := Lib.hid (HO2.out.ext hx3)
  clear k1 k2 k3 hg3 hx3 hW3 HTK HO2 HI2
  unfold RPtr at *
  unfold relv strV
  unfold relv strV at HRT
  go_wp2_with (go_at_call 60; rw [← HW3.out]; refine HEN.out.mono ?_)
  rintro e w4 ⟨rfl, rfl⟩
  by_cases he : endR s = 0
  case neg =>
    have en : (endR s != 0) = true := by simpa using he
    have HDE := Lib.hid (HD.out.1 he)
    clear HD he HRT HEN
    generalize endR s = E at *
    have b0 := fun w => build_rl0 w
    go_wp2_with (refine wpList_store_rowTo rfl _ _ _ rfl rfl w.heap.size (relv .zero (.slice none 0 0)) rfl rfl _ _ HGR3.out infoOw rfl (relv_one _ _ _ _) ?_)
    refine bodyPost_ret (results_row_tmp rfl _ _ w.heap.size _ (relv .zero (.slice none 0 0)) _ _ rfl (setRow_heap _ _ _ _ _ _ HGR3.out) Try.underlying32 rfl infoOw) rfl ?_
    rw [HDE.out]
    exact ⟨.slice none 0 0, rfl, HX3.out.setRow (.inr (Nat.le_refl _)) _, colS_nil _⟩
  have HDD := Lib.hid (And.intro (HD.out.2.1 he) (HD.out.2.2 he))
  rw [he]
  clear HD HEN he
  obtain ⟨d0, d1, d2, d3, d4⟩ := (⟨by rw [cell_of_row _ _ _ _ _ _ HG3.out]; rfl, by rw [cell_of_row _ _ _ _ _ _ HG3.out]; rfl, by rw [cell_of_row _ _ _ _ _ _ HG3.out]; rfl, by rw [cell_of_row _ _ _ _ _ _ HG3.out]; rfl, by rw [cell_of_row _ _ _ _ _ _ HG3.out]; rfl⟩ :
    W3.cell? ⟨w2.heap.size, 0, none⟩ = some (.int .u32 (q.oid : Nat)) ∧ W3.cell? ⟨w2.heap.size, 1, none⟩ = some (.int .u32 (q.ver : Nat)) ∧ W3.cell? ⟨w2.heap.size, 2, none⟩ = some (.string ⟨q.name.toArray⟩) ∧ W3.cell? ⟨w2.heap.size, 3, none⟩ = some (.int .u8 (q.ident : Nat)) ∧ W3.cell? ⟨w2.heap.size, 4, none⟩ = some (.slice av q.cols.length cc))
  go_wp2_with fail
  refine HRT.out.mono ?_
  rintro e w5 ⟨rfl, hx5⟩
  have HX5 := Lib.hid (HX3.out.trans hx5); have HG5 := Lib.hid (heap_ext hx5 HGR3.out); have HQ5 := Lib.hid (heap_ext hx5 HG3.out); have HC5 := Lib.hid (ColS.ext HC3.out hx5)
  have HO5 := Lib.hid (HO3.out.ext hx5)
  clear hx5 d0 d1 d2 d3 d4 HRT
  by_cases he2 : rlErr q = 0
  case neg =>
    have en : (((rlErr q : Nat) : Int) != 0) = true := by simp; omega
    have HDE := Lib.hid (HDD.out.1 he2)
    clear HDD he2
    generalize rlErr q = E at *
    have b0 := fun w => build_rl0 w
    go_wp2_with (refine wpList_store_rowTo rfl _ _ _ rfl rfl w.heap.size (relv .zero (.slice none 0 0)) rfl rfl _ _ HG5.out infoOw rfl (relv_one _ _ _ _) ?_)
    refine bodyPost_ret (results_row_tmp rfl _ _ w.heap.size _ (relv .zero (.slice none 0 0)) _ _ rfl (setRow_heap _ _ _ _ _ _ HG5.out) Try.underlying32 rfl infoOw) rfl ?_
    rw [HDE.out]
    exact ⟨.slice none 0 0, rfl, HX5.out.setRow (.inr (Nat.le_refl _)) _, colS_nil _⟩
  have HDE := Lib.hid (HDD.out.2 he2)
  rw [he2, Int.natCast_zero]
  clear HDD he2
  obtain ⟨d0, d1, d2, d3, d4⟩ := (⟨by rw [cell_of_row _ _ _ _ _ _ HQ5.out]; rfl, by rw [cell_of_row _ _ _ _ _ _ HQ5.out]; rfl, by rw [cell_of_row _ _ _ _ _ _ HQ5.out]; rfl, by rw [cell_of_row _ _ _ _ _ _ HQ5.out]; rfl, by rw [cell_of_row _ _ _ _ _ _ HQ5.out]; rfl⟩ :
    w5.cell? ⟨w2.heap.size, 0, none⟩ = some (.int .u32 (q.oid : Nat)) ∧ w5.cell? ⟨w2.heap.size, 1, none⟩ = some (.int .u32 (q.ver : Nat)) ∧ w5.cell? ⟨w2.heap.size, 2, none⟩ = some (.string ⟨q.name.toArray⟩) ∧ w5.cell? ⟨w2.heap.size, 3, none⟩ = some (.int .u8 (q.ident : Nat)) ∧ w5.cell? ⟨w2.heap.size, 4, none⟩ = some (.slice av q.cols.length cc))
  go_wp2_with (refine wpList_store_rowTo rfl _ _ _ rfl rfl w.heap.size (relv q (.slice av q.cols.length cc)) rfl rfl _ _ HG5.out infoOw rfl (relv_one _ _ _ _) ?_)
  refine bodyPost_ret (results_row_tmp rfl _ _ w.heap.size _ (relv q (.slice av q.cols.length cc)) _ _ rfl (setRow_heap _ _ _ _ _ _ HG5.out) Try.underlying32 rfl infoOw) rfl ?_
  rw [HDE.out]
  refine ⟨_, rfl, HX5.out.setRow (.inr (Nat.le_refl _)) _, ?_⟩
  exact Sl.ofOwns (HO5.out.kept (gby_setRow w5 w.heap.size _) (.inr (fun e => own_ne HO5.out HG5.out (by decide) _ e rfl)))
end Go.Proofs.Ytcejjckhhdgdnaa
