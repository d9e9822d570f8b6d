/-
  What the chapter's example of layer 14 says.
-/
import Derived.Test.YtfipjgodkdfdfaaGreatDoorFitB
import Derived.BigQuiet
import Derived.Great.BuildSlice
import Derived.Deep.QuietTactic
namespace Go.Proofs.YtfipjgodkdfdfaaGreatDoor
open Go.RowKit Go.Lac

theorem new14_any (w : World) : Calls Tryz.prog 10 #[] w fun e w' => ∃ g, e = .returned (.pointer (some ⟨g, 0, none⟩)) ∧ Ext w w' := by
  go_enter Tryz.func10, Tryz.ntmps10
  go_wp2
  go_ret
  exact ⟨_, rfl, (Ch.refl _ _).alloc _⟩
theorem results_cell1 {P : Program} {fn : Func} {p : Tmp} {ty : TypeId} (h : fn.results = #[.cell p ty]) (tmps : Array Value) (w : World) (g : Nat) (t : TypeId) (cs : Array Value) (fr : Nat × Nat) (d : TypeDesc)
    (hp : tmps.getD p undef = .pointer (some ⟨g, 0, none⟩)) (hg : w.heap[g]? = some (.cells cs t fr))
    (hu : P.underlying ty = some d) (hd : (match d with | .struct _ | .array _ _ => true | _ => false) = true) (hi : (P.info? ty).map (·.size) = some cs.size) :
    (results fn tmps).run P w = .ok (.agg cs) w := by
  have hp' : tmps[p]?.getD undef = .pointer (some ⟨g, 0, none⟩) := by simpa using hp
  simp [results, h, hp', asAddr, run_loadVar_row w g t ty cs fr d hg hu hd hi]
theorem infoFa : (Tryz.prog.info? 24).map (·.size) = some 3 := by kernel_rfl
theorem none14_any (w : World) : Calls Tryz.prog 15 #[] w fun e w' => e = .returned (.agg #[.int .i64 (-1), .int .i64 (-1), .int .i64 0]) ∧ Ext w w' := by
  go_enter Tryz.func15, Tryz.ntmps15
  go_wp2
  refine bodyPost_ret (results_cell1 rfl _ _ w.heap.size _ _ _ _ rfl (heap_alloc_new w _) Tryz.underlying24 rfl infoFa) rfl ?_
  exact ⟨rfl, (Ch.refl _ _).alloc _⟩
theorem results_two {P : Program} {fn : Func} {a b : Tmp} (h : fn.results = #[.tmp a, .tmp b]) (tmps : Array Value) (w : World) :
    (results fn tmps).run P w = .ok (.tuple #[tmps.getD a undef, tmps.getD b undef]) w := by
  simp [results, h]
theorem right14_any (c : Value) (w : World) : Calls Tryz.prog 14 #[.agg #[.int .u32 3, .int .u64 0, .slice none 0 0], c] w fun e w' => e = .returned (.tuple #[.int .i64 (-1), .int .i64 0]) ∧ Ext w w' := by
  go_enter Tryz.func14, Tryz.ntmps14
  go_wp2
  go_loopw [21] (fun ix wr => ix = .int .i64 0 ∧ Ext w wr) (fun _ _ => 0)
  case atStart => exact ⟨rfl, (Ch.refl _ _).alloc _⟩
  case round =>
    obtain ⟨rfl, hx⟩ := hrel
    have HX := Lib.hid hx; clear hx
    go_wp2
    refine bodyPost_ret (results_two rfl _ _) rfl ?_
    exact ⟨rfl, HX.out⟩
/-- Transactions, in cells. -/
def txC : Nat → List Value
  | 0 => []
  | k + 1 => [.int .u32 3, .int .u64 0, .slice none 0 0] ++ txC k
theorem fieldTx_0 (w : World) (b o : Nat) : (Instr.fieldAt 38 (.pointer (some ⟨b, o, none⟩)) 0).run Tryz.prog w = .ok (.pointer (some ⟨b, o, none⟩)) w := by kernel_rfl
theorem row6 {w : World} {b : Nat} {x0 x1 x2 x3 x4 x5 : Value} {T : TypeId} {fr : Nat × Nat} (h : w.heap[b]? = some (.cells #[x0, x1, x2, x3, x4, x5] T fr)) :
    w.cell? ⟨b, 0, none⟩ = some x0 ∧ w.cell? ⟨b, 1, none⟩ = some x1 ∧ w.cell? ⟨b, 2, none⟩ = some x2 ∧ w.cell? ⟨b, 3, none⟩ = some x3 ∧ w.cell? ⟨b, 4, none⟩ = some x4 ∧ w.cell? ⟨b, 5, none⟩ = some x5 := by
  refine ⟨?_, ?_, ?_, ?_, ?_, ?_⟩ <;> (rw [cell_of_row _ _ _ _ _ _ h]; rfl)
theorem fa_one (a b c : Int) : (#[Value.int .i64 a, .int .i64 b, .int .i64 c] : Array Value).all (·.oneCell') = true := by simp [Value.oneCell']
theorem ext_setRow {a w : World} (h : Ext a w) {g : Nat} (hg : a.heap.size ≤ g) (cs : Array Value) : Ext a (w.setRow g cs) :=
  ⟨h.os, h.tape, h.output, by have := h.size; simpa using this, fun k hk hm => by
    rw [setRow_other _ _ _ _ (by rintro rfl; omega)]; exact h.block k hk hm⟩
set_option maxHeartbeats 1000000 in
theorem check14_two (c : Value) (g : Nat) (w : World) (h : w.heap[g]? = some (.cells #[.int .u32 3, .int .u64 0, .slice none 0 0, .int .u32 3, .int .u64 0, .slice none 0 0] 38 (0, 0))) :
    Calls Tryz.prog 9 #[c, .slice (some ⟨g, 0, none⟩) 2 2] w fun e w' => e = .returned (.agg #[.int .i64 1, .int .i64 (-1), .int .i64 15]) ∧ Ext w w' := by
  have HG := Lib.hid h
  have HRT := Lib.hid (fun w => right14_any c w)
  clear h
  go_enter Tryz.func9, Tryz.ntmps9
  go_wp2
  go_loopw [11] (fun ix wr => (ix = .int .i64 0 ∨ ix = .int .i64 1) ∧ Ext w wr ∧ wr.heap[w.heap.size]? = some (.cells #[.int .i64 0, .int .i64 0, .int .i64 0] 24 (0, 0))) (fun ix _ => 2 - (intOf ix).toNat)
  case atStart => exact ⟨.inl rfl, (Ch.refl _ _).alloc _, heap_alloc_new w _⟩
  case round =>
    obtain ⟨hix, hx, hr⟩ := hrel
    have HX := Lib.hid hx; have HG1 := Lib.hid (heap_of_extF hx HG.out); have HR := Lib.hid hr; clear hx hr
    obtain ⟨d0, d1, d2, d3, d4, d5⟩ := row6 HG1.out
    rcases hix with rfl | rfl
    · go_wp2
      go_quiet (fail)
      go_wp2_with fail
      refine (HRT.out _).mono ?_
      rintro e w2 ⟨rfl, hx2⟩
      have HX2 : Hid (Ext wr w2) := Lib.hid ((((Ch.refl _ _).alloc _).trans (ext_drewM _ _)).trans hx2); clear hx2
      go_wp2
      go_roundw
      case rel => exact ⟨.inr rfl, HX.out.trans HX2.out, heap_of_extF HX2.out HR.out⟩
      case measure => simp [intOf]
    · have hw0 : IntKind.i64.wrap 0 = 0 := by rfl
      have f0 : (wr.alloc (.cells #[.int .u32 3, .int .u64 0, .slice none 0 0] 38)).cell? ⟨g, 0, none⟩ = some (.int .u32 3) := by
        rw [cell_of_row _ _ _ _ _ _ (heap_of_extF ((Ch.refl _ _).alloc _) HG1.out)]; rfl
      have HRQ : Hid (∀ n, ((wr.alloc (.cells #[.int .u32 3, .int .u64 0, .slice none 0 0] 38)).drewN n).heap[w.heap.size]? = some (.cells #[.int .i64 0, .int .i64 0, .int .i64 0] 24 (0, 0))) := Lib.hid (fun n => heap_of_extF (((Ch.refl _ _).alloc _).trans (ext_drewM n _)) HR.out)
      go_wp2
      go_quiet (fail)
      go_wp2_with (refine wpList_store_rowTo rfl _ _ _ rfl rfl w.heap.size #[.int .i64 1, .int .i64 (-1), .int .i64 15] rfl rfl _ _ (HRQ.out _) infoFa rfl (fa_one _ _ _) ?_)
      try go_wp2
      refine bodyPost_ret (results_cell1 rfl _ _ w.heap.size _ #[.int .i64 1, .int .i64 (-1), .int .i64 15] _ _ rfl (setRow_heap _ _ _ _ _ _ (HRQ.out _)) Tryz.underlying24 rfl infoFa) rfl ?_
      exact ⟨rfl, ext_setRow (HX.out.trans (((Ch.refl _ _).alloc _).trans (ext_drewM _ _))) (Nat.le_refl _) _⟩
theorem check14_one (c : Value) (g : Nat) (w : World) (h : w.heap[g]? = some (.cells #[.int .u32 3, .int .u64 0, .slice none 0 0] 38 (0, 0))) :
    Calls Tryz.prog 9 #[c, .slice (some ⟨g, 0, none⟩) 1 1] w fun e w' => e = .returned (.agg #[.int .i64 (-1), .int .i64 (-1), .int .i64 0]) ∧ Ext w w' := by
  have HG := Lib.hid h
  have HRT := Lib.hid (fun w => right14_any c w)
  clear h
  go_enter Tryz.func9, Tryz.ntmps9
  go_wp2
  go_loopw [11] (fun ix wr => (ix = .int .i64 0 ∨ ix = .int .i64 1) ∧ Ext w wr ∧ wr.heap[w.heap.size]? = some (.cells #[.int .i64 0, .int .i64 0, .int .i64 0] 24 (0, 0))) (fun ix _ => 2 - (intOf ix).toNat)
  case atStart => exact ⟨.inl rfl, (Ch.refl _ _).alloc _, heap_alloc_new w _⟩
  case round =>
    obtain ⟨hix, hx, hr⟩ := hrel
    have HX := Lib.hid hx; have HG1 := Lib.hid (heap_of_extF hx HG.out); have HR := Lib.hid hr; clear hx hr
    have d0 : wr.cell? ⟨g, 0, none⟩ = some (.int .u32 3) := by rw [cell_of_row _ _ _ _ _ _ HG1.out]; rfl
    have d1 : wr.cell? ⟨g, 1, none⟩ = some (.int .u64 0) := by rw [cell_of_row _ _ _ _ _ _ HG1.out]; rfl
    have d2 : wr.cell? ⟨g, 2, none⟩ = some (.slice none 0 0) := by rw [cell_of_row _ _ _ _ _ _ HG1.out]; rfl
    rcases hix with rfl | rfl
    · go_wp2
      go_quiet (fail)
      go_wp2_with fail
      refine (HRT.out _).mono ?_
      rintro e w2 ⟨rfl, hx2⟩
      have HX2 : Hid (Ext wr w2) := Lib.hid ((((Ch.refl _ _).alloc _).trans (ext_drewM _ _)).trans hx2); clear hx2
      go_wp2
      go_roundw
      case rel => exact ⟨.inr rfl, HX.out.trans HX2.out, heap_of_extF HX2.out HR.out⟩
      case measure => simp [intOf]
    · go_wp2_with fail
      refine (none14_any wr).mono ?_
      rintro e w2 ⟨rfl, hx2⟩
      have HX2 := Lib.hid hx2; have HR2 := Lib.hid (heap_of_extF hx2 HR.out); clear hx2
      go_wp2_with (refine wpList_store_rowTo rfl _ _ _ rfl rfl w.heap.size #[.int .i64 (-1), .int .i64 (-1), .int .i64 0] rfl rfl _ _ HR2.out infoFa rfl (fa_one _ _ _) ?_)
      try go_wp2
      refine bodyPost_ret (results_cell1 rfl _ _ w.heap.size _ #[.int .i64 (-1), .int .i64 (-1), .int .i64 0] _ _ rfl (setRow_heap _ _ _ _ _ _ HR2.out) Tryz.underlying24 rfl infoFa) rfl ?_
      exact ⟨rfl, ext_setRow (HX.out.trans HX2.out) (Nat.le_refl _) _⟩
theorem fits14_one (c : Value) (g : Nat) (w : World) (h : w.heap[g]? = some (.cells #[.int .u32 3, .int .u64 0, .slice none 0 0] 38 (0, 0))) :
    Calls Tryz.prog 11 #[c, .slice (some ⟨g, 0, none⟩) 1 1] w fun e w' => e = .returned (.bool true) ∧ Ext w w' := by
  have HC := Lib.hid (check14_one c g w h)
  clear h
  go_enter Tryz.func11, Tryz.ntmps11
  go_wp2_with fail
  refine HC.out.mono ?_
  rintro e w1 ⟨rfl, hx1⟩
  have HX1 := Lib.hid hx1; clear hx1
  go_wp2_with fail
  refine (none14_any w1).mono ?_
  rintro e w2 ⟨rfl, hx2⟩
  have HX2 := Lib.hid (HX1.out.trans hx2); clear hx2
  go_wp2
  go_ret
  exact ⟨rfl, HX2.out⟩
theorem text14 : errText 1 (-1) 15 = ⟨#[116, 114, 97, 110, 115, 97, 99, 116, 105, 111, 110, 32, 49, 32, 101, 114, 114, 111, 114, 32, 49, 53]⟩ := by
  have h1 : Lib.itoa 1 = [49] := by unfold Lib.itoa; rw [if_neg (by decide)]; exact Lib.decDigits_one (by decide)
  have h2 : Lib.itoa 15 = [49, 53] := by unfold Lib.itoa; rw [if_neg (by decide)]; exact Lib.decDigits_two (by decide) (by decide)
  unfold errText
  rw [if_neg (by decide), if_pos rfl]
  unfold bIt bTx bEr
  rw [h1, h2]
  rfl
theorem buildTx14 (w : World) : (Instr.build 38 #[(0, .int .u32 3)]).run Tryz.prog w = .ok (.agg #[.int .u32 3, .int .u64 0, .slice none 0 0]) w := by kernel_rfl
theorem slice14_1 (w : World) : (Instr.buildSlice 41 1 #[(0, .agg #[.int .u32 3, .int .u64 0, .slice none 0 0])]).run Tryz.prog w = .ok (.slice (some ⟨w.heap.size, 0, none⟩) 1 1) (w.alloc (.cells #[.int .u32 3, .int .u64 0, .slice none 0 0] 38)) := by kernel_rfl
theorem slice14_2 (w : World) : (Instr.buildSlice 41 2 #[(0, .agg #[.int .u32 3, .int .u64 0, .slice none 0 0]), (1, .agg #[.int .u32 3, .int .u64 0, .slice none 0 0])]).run Tryz.prog w = .ok (.slice (some ⟨w.heap.size, 0, none⟩) 2 2) (w.alloc (.cells #[.int .u32 3, .int .u64 0, .slice none 0 0, .int .u32 3, .int .u64 0, .slice none 0 0] 38)) := by kernel_rfl
theorem awake14_any (w : World) (ht : TabOk w) : Calls Tryz.prog 6 #[] w fun e w' => e = .returned (.bool true) ∧ Ext w w' := by
  have HTB := Lib.hid ht
  have hb1 := buildTx14; have hs1 := slice14_1; have hs2 := slice14_2
  clear ht
  go_enter Tryz.func6, Tryz.ntmps6
  go_wp2_with fail
  refine (new14_any _).mono ?_
  rintro e w1 ⟨g1, rfl, hx1⟩
  have HX1 := Lib.hid hx1; clear hx1
  go_wp2_with fail
  refine (check14_two _ w1.heap.size _ (heap_alloc_new w1 _)).mono ?_
  rintro e w2 ⟨rfl, hx2⟩
  have HX2 := Lib.hid (((Ch.refl (fun _ => False) w1).alloc _).trans hx2); clear hx2
  have HX3 : Hid (Ext w (w2.alloc (.cells #[.int .i64 1, .int .i64 (-1), .int .i64 15] 24))) := Lib.hid ((HX1.out.trans HX2.out).alloc _)
  have c0 : (w2.alloc (.cells #[.int .i64 1, .int .i64 (-1), .int .i64 15] 24)).cell? ⟨w2.heap.size, 0, none⟩ = some (.int .i64 1) := by rw [cell_of_row _ _ _ _ _ _ (heap_alloc_new w2 _)]; rfl
  have c1 : (w2.alloc (.cells #[.int .i64 1, .int .i64 (-1), .int .i64 15] 24)).cell? ⟨w2.heap.size, 1, none⟩ = some (.int .i64 (-1)) := by rw [cell_of_row _ _ _ _ _ _ (heap_alloc_new w2 _)]; rfl
  have c2 : (w2.alloc (.cells #[.int .i64 1, .int .i64 (-1), .int .i64 15] 24)).cell? ⟨w2.heap.size, 2, none⟩ = some (.int .i64 15) := by rw [cell_of_row _ _ _ _ _ _ (heap_alloc_new w2 _)]; rfl
  go_wp2_with fail
  refine (errFit_any 1 (-1) 15 _ (by decide) (by decide) (by decide) (by decide) (by decide) (by decide) (HTB.out.ext HX3.out)).mono ?_
  rintro e w4 ⟨rfl, hx4⟩
  have HX4 := Lib.hid (HX3.out.trans hx4); clear hx4
  rw [text14]
  go_wp2_with fail
  refine (new14_any _).mono ?_
  rintro e w5 ⟨g5, rfl, hx5⟩
  have HX5 := Lib.hid (HX4.out.trans hx5); clear hx5
  go_wp2_with fail
  refine (fits14_one _ w5.heap.size _ (heap_alloc_new w5 _)).mono ?_
  rintro e w6 ⟨rfl, hx6⟩
  have HX6 := Lib.hid ((HX5.out.alloc _).trans hx6); clear hx6
  go_wp2
  go_ret
  exact ⟨rfl, HX6.out⟩
end Go.Proofs.YtfipjgodkdfdfaaGreatDoor
