/-
  frame.Parse: the walk.
-/
import Derived.Test.YtoggnmfjkbnopaaProg
import Derived.Test.YtoggnmfjkbnopaaLib
import Derived.Test.YtoggnmfjkbnopaaLibC
import Derived.Test.YtoggnmfjkbnopaaInfo
import Derived.Test.YtoggnmfjkbnopaaLibD
import Derived.Test.YtoggnmfjkbnopaaEqual
import Derived.Test.YtoggnmfjkbnopaaCrcD
import Derived.Test.YtoggnmfjkbnopaaFrC
import Derived.Test.YtoggnmfjkbnopaaFrE
import Derived.WalkKit
import Derived.Lib.Hide
import Derived.Outline
import Derived.Laws.BitsAllLaws
namespace Go.Proofs.Ytoggnmfjkbnopaa
open Go.RowKit Go.Lac

theorem idx59_2 (w : World) (b : Nat) : (Instr.indexAt 119 (.pointer (some ⟨b, 0, none⟩)) (.int .i64 2)).run Try.prog w = .ok (.pointer (some ⟨b, 2, none⟩)) w := by kernel_rfl
theorem idx59_3 (w : World) (b : Nat) : (Instr.indexAt 119 (.pointer (some ⟨b, 0, none⟩)) (.int .i64 3)).run Try.prog w = .ok (.pointer (some ⟨b, 3, none⟩)) w := by kernel_rfl
theorem idx59_4 (w : World) (b : Nat) : (Instr.indexAt 119 (.pointer (some ⟨b, 0, none⟩)) (.int .i64 4)).run Try.prog w = .ok (.pointer (some ⟨b, 4, none⟩)) w := by kernel_rfl
theorem idx59_5 (w : World) (b : Nat) : (Instr.indexAt 119 (.pointer (some ⟨b, 0, none⟩)) (.int .i64 5)).run Try.prog w = .ok (.pointer (some ⟨b, 5, none⟩)) w := by kernel_rfl
def parse5T (g5 h2 h3 h4 h5' n : Nat) : Tmp → Kn
  | 6 => .is (.int .u8 (h2 : Nat))
  | 7 => .is (.int .u8 (h3 : Nat))
  | 8 => .is (.int .i64 (n : Nat))
  | 25 => .is (.pointer (some ⟨g5, 2, none⟩))
  | 26 => .is (.int .u8 (h2 : Nat))
  | 27 => .is (.pointer (some ⟨g5, 3, none⟩))
  | 28 => .is (.int .u8 (h3 : Nat))
  | 29 => .is (.pointer (some ⟨g5, 4, none⟩))
  | 30 => .is (.int .u8 (h4 : Nat))
  | 31 => .is (.int .i64 (h4 : Nat))
  | 32 => .is (.pointer (some ⟨g5, 5, none⟩))
  | 33 => .is (.int .u8 (h5' : Nat))
  | 34 => .is (.int .i64 (h5' : Nat))
  | 35 => .is (.int .i64 ((h5' : Int) * 256))
  | 36 => .is (.int .i64 (n : Nat))
  | _ => .any
theorem row_one (x y : Int) (a : Option Addr) (n c : Nat) : (#[.int .u8 x, .int .u8 y, .slice a n c] : Array Value).all (·.oneCell') = true := by simp [Value.oneCell']
theorem info40 : (Try.prog.info? 48).map (·.size) = some 3 := by kernel_rfl

set_option maxRecDepth 20000 in
set_option maxHeartbeats 4000000 in
theorem parse_any (v : Value) (b : List UInt8) (w : World) (h : Rd w v b) (hl : b.length ≤ 1000000) :
    Calls Try.prog 41 #[v] w (ParsePost b w) := by
  obtain ⟨i, hi, hz, hsz, hby⟩ := info_parts infoU8
  obtain ⟨ao, cap, rfl⟩ := h.shape
  have hsh := h
  obtain ⟨_, _, e0, k1, k2, k3, k4⟩ := hsh
  cases e0
  have HK4 := Lib.hid k4
  have H := Lib.hid h
  clear h k4
  have hbw : Below (w.alloc (.cells #[.int .u8 0, .int .u8 0, .slice none 0 0] 48)).heap.size (w.alloc (.cells #[.int .u8 0, .int .u8 0, .slice none 0 0] 48)) ((w.alloc (.cells #[.int .u8 0, .int .u8 0, .slice none 0 0] 48)).alloc (.cells (cellsB headD).toArray 119)) := (Below.refl _ _).alloc (Nat.le_refl _) _
  have hg5 : ((w.alloc (.cells #[.int .u8 0, .int .u8 0, .slice none 0 0] 48)).alloc (.cells (cellsB headD).toArray 119)).heap[w.heap.size + 1]? = some (.cells (cellsB headD).toArray 119 (0, 0)) := heap_alloc2_new _ _ _
  have hx0 : Ext w ((w.alloc (.cells #[.int .u8 0, .int .u8 0, .slice none 0 0] 48)).alloc (.cells (cellsB headD).toArray 119)) := ((Ch.refl _ _).alloc _).alloc _
  have hcs : ((cellsB b).take 6).length = Nat.min b.length 6 := by simp [cellsB, Nat.min_comm]
  have hpos : 0 < ((cellsB b).take 6).length → (some (⟨w.heap.size + 1, 0, none⟩ : Addr)) = some ⟨w.heap.size + 1, 0, none⟩ ∧ ∃ ad, ao = some ad ∧ ∀ j u, ((cellsB b).take 6)[j]? = some u → ((w.alloc (.cells #[.int .u8 0, .int .u8 0, .slice none 0 0] 48)).alloc (.cells (cellsB headD).toArray 119)).cell? (ad.add j) = some u := fun hp => by
    refine ⟨rfl, ?_⟩
    cases ao with
    | none =>
      have := k3 rfl
      simp [cellsB] at hp
      omega
    | some ad =>
      refine ⟨ad, rfl, fun j u hj => ?_⟩
      rw [List.getElem?_take] at hj
      split at hj
      · obtain ⟨b', off', rfl, h6⟩ := HK4.out ad rfl j u hj
        rw [Addr.add_lit]
        exact hx0.cell (fun f => f) u h6
      · cases hj
  have hsp := head_splice b
  have HBW := Lib.hid hbw; have HG5 := Lib.hid hg5; have HX0 := Lib.hid hx0; have HCS := Lib.hid hcs; have HPOS := Lib.hid hpos; have HSP := Lib.hid hsp
  clear hbw hg5 hx0 hcs hpos hsp k3
  have hcd : (cellsB headD).toArray = #[.int .u8 76, .int .u8 103, .int .u8 1, .int .u8 1, .int .u8 0, .int .u8 0] := rfl
  rw [hcd] at HBW HG5 HX0 HPOS
  have HG5' : Hid (((w.alloc (.cells #[.int .u8 0, .int .u8 0, .slice none 0 0] 48)).alloc (.cells #[.int .u8 76, .int .u8 103, .int .u8 1, .int .u8 1, .int .u8 0, .int .u8 0] 119)).heap[w.heap.size + 1]? = some (.cells (cellsB headD).toArray 119 (0, 0))) := Lib.hid (by rw [hcd]; exact HG5.out)
  clear hcd HG5
  go_enter Try.func41, Try.ntmps41
  go_wp2_with (with_reducible refine wpList_copy_splice rfl _ _ 22 22 rfl 5 Try.underlying22 (by kernel_rfl) _ ao 6 6 b.length cap rfl rfl (w.heap.size + 1) 0 (cellsB headD) 119 HG5'.out _ HCS.out HPOS.out (by simp [cellsB, headD]; omega) (fun u hu => cellsB_one b u (List.mem_of_mem_take hu)) _ _ HBW.out (by simp) ?_)
  intro w3 HGH hb
  have hx3 : Ext w w3 := ((Ch.refl _ _).alloc _).trans (Ext.ofBelow (by simpa using hb))
  have hg2 : w3.heap[w.heap.size]? = some (.cells #[.int .u8 0, .int .u8 0, .slice none 0 0] 48 (0, 0)) := by
    rw [hb.block _ (by simp)]; exact heap_alloc_new w _
  have hce : ∀ i, i < 6 → w3.cell? ⟨w.heap.size + 1, i, none⟩ = some (.int .u8 (hdAt b i : Nat)) := fun i hi => by
    rw [cell_of_row _ _ _ _ _ _ HGH.out]; simpa using HSP.out i hi
  have HC0 := Lib.hid (hce 0 (by decide)); have HC1 := Lib.hid (hce 1 (by decide)); have HC2 := Lib.hid (hce 2 (by decide)); have HC3 := Lib.hid (hce 3 (by decide)); have HC4 := Lib.hid (hce 4 (by decide)); have HC5 := Lib.hid (hce 5 (by decide))
  have HX3 := Lib.hid hx3; have HG2 := Lib.hid hg2
  have H3 := Lib.hid (H.out.ext hx3)
  have HGE : Hid (w.heap.size ≤ w.heap.size) := Lib.hid (Nat.le_refl _)
  have hsz3 : w.heap.size < w3.heap.size := (Array.getElem?_eq_some_iff.1 hg2).1
  have HS3 := Lib.hid hsz3
  clear hb hx3 hg2 hce hsz3 HBW HX0 HCS HPOS HSP HG5' HGH HK4
  have he0 : hdAt b 0 ≠ 76 ∨ hdAt b 1 ≠ 103 → frErr b = 3 := fun h => by unfold frErr; rw [if_pos h]
  have he1 : ¬ (hdAt b 0 ≠ 76 ∨ hdAt b 1 ≠ 103) → frRight (hdAt b 2) (hdAt b 3) (frN b) ≠ 0 → frErr b = frRight (hdAt b 2) (hdAt b 3) (frN b) := fun h h' => by unfold frErr; rw [if_neg h, if_pos h']
  have he2 : ¬ (hdAt b 0 ≠ 76 ∨ hdAt b 1 ≠ 103) → frRight (hdAt b 2) (hdAt b 3) (frN b) = 0 → b.length < frN b + 10 → frErr b = 1 := fun h h' h2 => by unfold frErr; rw [if_neg h, if_neg (by omega), if_pos h2]
  have he3 : ¬ (hdAt b 0 ≠ 76 ∨ hdAt b 1 ≠ 103) → frRight (hdAt b 2) (hdAt b 3) (frN b) = 0 → ¬ b.length < frN b + 10 → crcSigned (b.take (frN b + 10)) = false → frErr b = 6 := fun h h' h2 h3 => by unfold frErr; rw [if_neg h, if_neg (by omega), if_neg h2, if_pos h3]
  have he4 : ¬ (hdAt b 0 ≠ 76 ∨ hdAt b 1 ≠ 103) → frRight (hdAt b 2) (hdAt b 3) (frN b) = 0 → ¬ b.length < frN b + 10 → crcSigned (b.take (frN b + 10)) = true → frErr b = 0 := fun h h' h2 h3 => by unfold frErr; rw [if_neg h, if_neg (by omega), if_neg h2, if_neg (by rw [h3]; decide)]
  have hPE := fun (c : Nat) (w' : World) (h : frErr b = c) (hc : c ≠ 0) (hw : Ext w w') => ParsePost.err (w := w) (w' := w') h hc hw
  have hPO := fun (t : Value) (w' : World) (h : frErr b = 0) (hw : Ext w w') (ht : Rd w' t ((b.take (frN b + 6)).drop 6)) (hf : Fresh w.heap.size t) => ParsePost.ok h hw ht hf
  have hn : frN b = hdAt b 4 + 256 * hdAt b 5 := rfl
  have l0 := hdAt_lt b 0; have l1 := hdAt_lt b 1; have l2 := hdAt_lt b 2; have l3 := hdAt_lt b 3; have l4 := hdAt_lt b 4; have l5 := hdAt_lt b 5
  have hor := or_hi (hdAt b 4) (hdAt b 5) l4 l5
  rw [← hn] at hor
  have hnl : frN b < 65536 := by omega
  generalize hdAt b 0 = h0 at *
  generalize hdAt b 1 = h1 at *
  generalize hdAt b 2 = h2 at *
  generalize hdAt b 3 = h3 at *
  generalize hdAt b 4 = h4 at *
  generalize hdAt b 5 = h5' at *
  generalize frN b = n at *
  have HE0 := Lib.hid he0; have HE1 := Lib.hid he1; have HE2 := Lib.hid he2; have HE3 := Lib.hid he3; have HE4 := Lib.hid he4; have HPE := Lib.hid hPE; have HPO := Lib.hid hPO; have HOR := Lib.hid hor
  have L2 := Lib.hid l2; have L3 := Lib.hid l3; have L4 := Lib.hid l4; have L5 := Lib.hid l5
  clear he0 he1 he2 he3 he4 hPE hPO hor hn l2 l3 l4 l5
  have hsr : ∀ w' cs, Ext w w' → Ext w (w'.setRow w.heap.size cs) := fun w' cs h => h.setRow (.inr (Nat.le_refl _)) cs
  have HSR := Lib.hid hsr; clear hsr
  obtain ⟨g2, hg2'⟩ : ∃ g2, g2 = w.heap.size := ⟨_, rfl⟩
  obtain ⟨g5, hg5'⟩ : ∃ g5, g5 = w.heap.size + 1 := ⟨_, rfl⟩
  rw [← hg5'] at HC0 HC1 HC2 HC3 HC4 HC5 ⊢
  rw [← hg2'] at HG2 HSR HS3 ⊢
  have HGG : Hid (g2 < g5) := Lib.hid (by omega)
  clear hg2' hg5'
  have hc0 := HC0.out
  have hc1 := HC1.out
  by_cases hA : h0 ≠ 76 ∨ h1 ≠ 103
  · have HF := HPE.out 3 _ (HE0.out hA) (by decide) (HSR.out w3 #[.int .u8 0, .int .u8 0, .slice none 0 0] HX3.out)
    have HFH := Lib.hid HF
    clear HF
    by_cases hA0 : h0 = 76
    · subst hA0
      have b1 : ((h1 : Int) != 103) = true := by simp; omega
      clear hA
      go_wp2_with (refine wpList_store_rowTo rfl _ _ _ rfl rfl g2 #[.int .u8 0, .int .u8 0, .slice none 0 0] rfl rfl _ _ HG2.out info40 rfl (row_one _ _ _ _ _) ?_)
      refine bodyPost_ret (results_cell3 rfl _ _ g2 _ #[.int .u8 0, .int .u8 0, .slice none 0 0] _ _ rfl (setRow_heap _ _ _ _ _ _ HG2.out) Try.underlying48 rfl (by kernel_rfl)) rfl ?_
      exact HFH.out
    · have b0 : ((h0 : Int) != 76) = true := by simp; omega
      clear hA hA0
      go_wp2_with (refine wpList_store_rowTo rfl _ _ _ rfl rfl g2 #[.int .u8 0, .int .u8 0, .slice none 0 0] rfl rfl _ _ HG2.out info40 rfl (row_one _ _ _ _ _) ?_)
      refine bodyPost_ret (results_cell3 rfl _ _ g2 _ #[.int .u8 0, .int .u8 0, .slice none 0 0] _ _ rfl (setRow_heap _ _ _ _ _ _ HG2.out) Try.underlying48 rfl (by kernel_rfl)) rfl ?_
      exact HFH.out
  · obtain rfl : h0 = 76 := by omega
    obtain rfl : h1 = 103 := by omega
    have HA := Lib.hid hA; clear hA
    go_wp2
    have HB4 : Hid (IntKind.i64.wrap (h4 : Int) = (h4 : Int)) := Lib.hid (by rw [IntKind.wrap_i64]; have := L4.out; omega)
    have HB5 : Hid (IntKind.i64.wrap (h5' : Int) = (h5' : Int)) := Lib.hid (by rw [IntKind.wrap_i64]; have := L5.out; omega)
    have HB6 : Hid (IntKind.i64.wrap ((h5' : Int) * 256) = (h5' : Int) * 256) := Lib.hid (by rw [IntKind.wrap_i64]; have := L5.out; omega)
    refine wp_region_ext (parse5T g5 h2 h3 h4 h5' n) mixedEq (by rfl) (by rfl) ?all ?fin
    case all =>
      refine ⟨?_, ?_, ?_, ?_, ?_, ?_, ?_, ?_, ?_, ?_, ?_, ?_, ?_, ?_, ?_, trivial⟩
      · -- 0: slot 25 := Op.indexAddr 59 t5 (const (2:i64))
        refine StepOK.plain (kn_stable _) rfl fun ρ w hρ hw hf => ?_
        have h5 : ρ (.tmp 5) = (.pointer (some ⟨g5, 0, none⟩)) := (hf 5).2 rfl rfl
        exact Exec.kidx rfl rfl h5 (hρ.const _) (idx59_2 w g5) rfl
      · -- 1: slot 26 := Op.load 5 t25
        refine StepOK.plain (kn_stable _) rfl fun ρ w hρ hw hf => ?_
        have h25 : ρ (.tmp 25) = (.pointer (some ⟨g5, 2, none⟩)) := (hf 25).1 rfl
        have hc := hw.cell (p := ⟨g5, 2, none⟩) (fun f => f) _ HC2.out
        exact Exec.same (v := .int .u8 (h2 : Nat)) rfl (by simp [go_sem, hρ.const, h25, hc]) rfl
      · -- 2: slot 27 := Op.indexAddr 59 t5 (const (3:i64))
        refine StepOK.plain (kn_stable _) rfl fun ρ w hρ hw hf => ?_
        have h5 : ρ (.tmp 5) = (.pointer (some ⟨g5, 0, none⟩)) := (hf 5).2 rfl rfl
        exact Exec.kidx rfl rfl h5 (hρ.const _) (idx59_3 w g5) rfl
      · -- 3: slot 28 := Op.load 5 t27
        refine StepOK.plain (kn_stable _) rfl fun ρ w hρ hw hf => ?_
        have h27 : ρ (.tmp 27) = (.pointer (some ⟨g5, 3, none⟩)) := (hf 27).1 rfl
        have hc := hw.cell (p := ⟨g5, 3, none⟩) (fun f => f) _ HC3.out
        exact Exec.same (v := .int .u8 (h3 : Nat)) rfl (by simp [go_sem, hρ.const, h27, hc]) rfl
      · -- 4: slot 29 := Op.indexAddr 59 t5 (const (4:i64))
        refine StepOK.plain (kn_stable _) rfl fun ρ w hρ hw hf => ?_
        have h5 : ρ (.tmp 5) = (.pointer (some ⟨g5, 0, none⟩)) := (hf 5).2 rfl rfl
        exact Exec.kidx rfl rfl h5 (hρ.const _) (idx59_4 w g5) rfl
      · -- 5: slot 30 := Op.load 5 t29
        refine StepOK.plain (kn_stable _) rfl fun ρ w hρ hw hf => ?_
        have h29 : ρ (.tmp 29) = (.pointer (some ⟨g5, 4, none⟩)) := (hf 29).1 rfl
        have hc := hw.cell (p := ⟨g5, 4, none⟩) (fun f => f) _ HC4.out
        exact Exec.same (v := .int .u8 (h4 : Nat)) rfl (by simp [go_sem, hρ.const, h29, hc]) rfl
      · -- 6: slot 31 := Op.convert 5 3 t30
        refine StepOK.plain (kn_stable _) rfl fun ρ w hρ hw hf => ?_
        have h30 : ρ (.tmp 30) = (.int .u8 (h4 : Nat)) := (hf 30).1 rfl
        have hb := HB4.out
        exact Exec.same (v := .int .i64 (h4 : Nat)) rfl (by simp [go_sem, hρ.const, h30, hb]) rfl
      · -- 7: slot 32 := Op.indexAddr 59 t5 (const (5:i64))
        refine StepOK.plain (kn_stable _) rfl fun ρ w hρ hw hf => ?_
        have h5 : ρ (.tmp 5) = (.pointer (some ⟨g5, 0, none⟩)) := (hf 5).2 rfl rfl
        exact Exec.kidx rfl rfl h5 (hρ.const _) (idx59_5 w g5) rfl
      · -- 8: slot 33 := Op.load 5 t32
        refine StepOK.plain (kn_stable _) rfl fun ρ w hρ hw hf => ?_
        have h32 : ρ (.tmp 32) = (.pointer (some ⟨g5, 5, none⟩)) := (hf 32).1 rfl
        have hc := hw.cell (p := ⟨g5, 5, none⟩) (fun f => f) _ HC5.out
        exact Exec.same (v := .int .u8 (h5' : Nat)) rfl (by simp [go_sem, hρ.const, h32, hc]) rfl
      · -- 9: slot 34 := Op.convert 5 3 t33
        refine StepOK.plain (kn_stable _) rfl fun ρ w hρ hw hf => ?_
        have h33 : ρ (.tmp 33) = (.int .u8 (h5' : Nat)) := (hf 33).1 rfl
        have hb := HB5.out
        exact Exec.same (v := .int .i64 (h5' : Nat)) rfl (by simp [go_sem, hρ.const, h33, hb]) rfl
      · -- 10: slot 35 := Op.binOp BinOp.shl 3 t34 (const (8:u64)) 31
        refine StepOK.plain (kn_stable _) rfl fun ρ w hρ hw hf => ?_
        have h34 : ρ (.tmp 34) = (.int .i64 (h5' : Nat)) := (hf 34).1 rfl
        have hb := HB6.out
        exact Exec.same (v := .int .i64 ((h5' : Int) * 256)) rfl (by simp [go_sem, hρ.const, h34, hb]) rfl
      · -- 11: slot 36 := Op.binOp BinOp.or 3 t31 t35 3
        refine StepOK.plain (kn_stable _) rfl fun ρ w hρ hw hf => ?_
        have h31 : ρ (.tmp 31) = (.int .i64 (h4 : Nat)) := (hf 31).1 rfl
        have h35 : ρ (.tmp 35) = (.int .i64 ((h5' : Int) * 256)) := (hf 35).1 rfl
        have hb := HOR.out
        exact Exec.same (v := .int .i64 (n : Nat)) rfl (by simp [go_sem, hρ.const, h31, h35, hb]) rfl
      · -- 12: slot 6 := Op.assign t26
        refine StepOK.plain (kn_stable _) rfl fun ρ w hρ hw hf => ?_
        have h26 : ρ (.tmp 26) = (.int .u8 (h2 : Nat)) := (hf 26).1 rfl
        exact Exec.kassign rfl rfl h26
      · -- 13: slot 7 := Op.assign t28
        refine StepOK.plain (kn_stable _) rfl fun ρ w hρ hw hf => ?_
        have h28 : ρ (.tmp 28) = (.int .u8 (h3 : Nat)) := (hf 28).1 rfl
        exact Exec.kassign rfl rfl h28
      · -- 14: slot 8 := Op.assign t36
        refine StepOK.plain (kn_stable _) rfl fun ρ w hρ hw hf => ?_
        have h36 : ρ (.tmp 36) = (.int .i64 (n : Nat)) := (hf 36).1 rfl
        exact Exec.kassign rfl rfl h36

    case fin =>
      intro ν w4 hfin hext
      have e6 : ν 6 = .int .u8 (h2 : Nat) := hfin 12 6 rfl
      have e7 : ν 7 = .int .u8 (h3 : Nat) := hfin 13 7 rfl
      have e8 : ν 8 = .int .i64 (n : Nat) := hfin 14 8 rfl
      simp only [Exit.then, ended, List.foldl_cons, List.foldl_nil, List.setIfInBounds_toArray, List.set_cons_succ, List.set_cons_zero, e6, e7, e8]
      have hg2 : w4.heap[g2]? = some (.cells #[.int .u8 0, .int .u8 0, .slice none 0 0] 48 (0, 0)) := by
        rw [hext.block g2 HS3.out (fun f => f)]; exact HG2.out
      have HG4 := Lib.hid hg2; have HX4 := Lib.hid (HX3.out.trans hext); have H4 := Lib.hid (H3.out.ext hext)
      clear hg2 hfin hext e6 e7 e8 HC0 HC1 HC2 HC3 HC4 HC5 HB4 HB5 HB6 HOR H3 HG2
      have hr := fun w => right_any h2 h3 n w L2.out L3.out
      by_cases hB : frRight h2 h3 n = 0
      · rw [hB] at hr
        have HR := Lib.hid hr; clear hr
        by_cases hC : b.length < n + 10
        · have HFH := Lib.hid (HPE.out 1 _ (HE2.out HA.out hB hC) (by decide) (HSR.out w4 #[.int .u8 0, .int .u8 0, .slice none 0 0] HX4.out))
          clear hB HE0 HE1 HE2 HE3 HE4 HPE HPO
          go_wp2_with (first
            | (go_at_call 75; refine (HR.out _).mono ?_; rintro e w' ⟨rfl, rfl⟩)
            | (refine wpList_store_rowTo rfl _ _ _ rfl rfl g2 #[.int .u8 0, .int .u8 0, .slice none 0 0] rfl rfl _ _ HG4.out info40 rfl (row_one _ _ _ _ _) ?_))
          refine bodyPost_ret (results_cell3 rfl _ _ g2 _ #[.int .u8 0, .int .u8 0, .slice none 0 0] _ _ rfl (setRow_heap _ _ _ _ _ _ HG4.out) Try.underlying48 rfl (by kernel_rfl)) rfl ?_
          exact HFH.out
        · obtain ⟨gb, ob, rfl, _, _, _⟩ := bytes_cell H4.out rfl (by omega)
          have hn46 : n ≤ 4096 := by rcases frRight_cases h2 h3 n with ⟨q, _⟩ | ⟨q, _⟩ | ⟨q, _⟩ | ⟨_, _, _, _, q⟩ <;> omega
          have hrt : Rd w4 (.slice (some ⟨gb, ob, none⟩) (6 + n + 4) cap) (b.take (n + 10)) := by rw [show 6 + n + 4 = n + 10 by omega]; exact H4.out.take (n + 10) (by omega)
          have hsg := signed_any _ (b.take (n + 10)) w4 hrt
          have hcap : n + 10 ≤ cap := by omega
          cases hD : crcSigned (b.take (n + 10)) with
          | false =>
            rw [hD] at hsg
            have HFE := Lib.hid (HE3.out HA.out hB hC hD)
            have HSG := Lib.hid hsg
            clear hB HE0 HE1 HE2 HE3 HE4 HPO hD hsg hrt
            go_wp2_with (first
              | (go_at_call 75; refine (HR.out _).mono ?_; rintro e w' ⟨rfl, rfl⟩)
              | (go_at_call 76; refine HSG.out.mono ?_))
            rintro e w5 ⟨rfl, hx⟩
            have HX5 := Lib.hid (HX4.out.trans hx)
            have HG5 : Hid (w5.heap[g2]? = some (.cells #[.int .u8 0, .int .u8 0, .slice none 0 0] 48 (0, 0))) := Lib.hid (by
              rw [hx.block g2 (Array.getElem?_eq_some_iff.1 HG4.out).1 (fun f => f)]; exact HG4.out)
            have HFH := Lib.hid (HPE.out 6 _ HFE.out (by decide) (HSR.out w5 #[.int .u8 0, .int .u8 0, .slice none 0 0] HX5.out))
            clear hx HPE HSG
            go_wp2_with (refine wpList_store_rowTo rfl _ _ _ rfl rfl g2 #[.int .u8 0, .int .u8 0, .slice none 0 0] rfl rfl _ _ HG5.out info40 rfl (row_one _ _ _ _ _) ?_)
            refine bodyPost_ret (results_cell3 rfl _ _ g2 _ #[.int .u8 0, .int .u8 0, .slice none 0 0] _ _ rfl (setRow_heap _ _ _ _ _ _ HG5.out) Try.underlying48 rfl (by kernel_rfl)) rfl ?_
            exact HFH.out
          | true =>
            rw [hD] at hsg
            have HFE := Lib.hid (HE4.out HA.out hB hC hD)
            have HSG := Lib.hid hsg
            have hr6 := H4.out.take (n + 6) (by omega)
            have hl6 : (b.take (n + 6)).length = n + 6 := by rw [List.length_take]; omega
            rw [show Value.slice (some ⟨gb, ob, none⟩) (n + 6) cap = Value.slice (some ⟨gb, ob, none⟩) (b.take (n + 6)).length cap by rw [hl6]] at hr6
            have hr7 := hr6.drop 6 (by omega) _ (.inl rfl)
            have hl7 : ((b.take (n + 6)).drop 6).length = n := by rw [List.length_drop, hl6]; omega
            rw [hl6, show n + 6 - 6 = n by omega] at hr7
            have hcl := fun w5 (hx : Ext w4 w5) => clone_any ⟨gb, ob + 6, none⟩ (cap - 6) ((b.take (n + 6)).drop 6) w5 (by rw [hl7]; exact hr7.ext hx) (by rw [hl7]; omega)
            rw [hl7] at hcl
            have HCL := Lib.hid hcl
            have hcap6 : ¬ cap = 6 := by omega
            clear hB HE0 HE1 HE2 HE3 HE4 HPE hD hsg hrt hr6 hl6 hr7 hl7 hcl
            go_wp2_with (first
              | (go_at_call 75; refine (HR.out _).mono ?_; rintro e w' ⟨rfl, rfl⟩)
              | (go_at_call 76; refine HSG.out.mono ?_))
            rintro e w5 ⟨rfl, hx⟩
            have HXX := Lib.hid hx
            have HX5 := Lib.hid (HX4.out.trans hx)
            clear hx HSG
            go_wp2_with (go_at_call 77; refine (HCL.out _ HXX.out).mono ?_)
            intro e w6 hm
            obtain ⟨t, rfl, hx, hown⟩ := hm
            obtain ⟨a6, c6, rfl⟩ := owns_shape hown
            have HG6 : Hid (w6.heap[g2]? = some (.cells #[.int .u8 0, .int .u8 0, .slice none 0 0] 48 (0, 0))) := Lib.hid (by
              rw [(HXX.out.trans hx).block g2 (Array.getElem?_eq_some_iff.1 HG4.out).1 (fun f => f)]; exact HG4.out)
            have hgl : g2 < w5.heap.size := by
              have := (Array.getElem?_eq_some_iff.1 HG4.out).1; have := HXX.out.size; omega
            have HFH := Lib.hid (HPO.out _ _ HFE.out (HSR.out w6 #[.int .u8 (h2 : Nat), .int .u8 (h3 : Nat), .slice a6 ((b.take (n + 6)).drop 6).length c6] (HX5.out.trans hx)) (Rd.ofOwns (ownsRow_setRow hown g2 _ hgl)) (Fresh.ofOwns hown HX5.out.size))
            clear hx hown HPO HCL HFE hgl
            generalize ((b.take (n + 6)).drop 6).length = n6 at *
            go_wp2_with (refine wpList_store_rowTo rfl _ _ _ rfl rfl g2 #[.int .u8 (h2 : Nat), .int .u8 (h3 : Nat), .slice a6 n6 c6] rfl rfl _ _ HG6.out info40 rfl (row_one _ _ _ _ _) ?_)
            refine bodyPost_ret (results_cell3 rfl _ _ g2 _ #[.int .u8 (h2 : Nat), .int .u8 (h3 : Nat), .slice a6 n6 c6] _ _ rfl (setRow_heap _ _ _ _ _ _ HG6.out) Try.underlying48 rfl (by kernel_rfl)) rfl ?_
            have hfin := HFH.out
            rw [show ((n + 10 : Nat) : Int) = 6 + (n : Int) + 4 by omega] at hfin
            exact hfin
      · have HFH := Lib.hid (HPE.out _ _ (HE1.out HA.out hB) hB (HSR.out w4 #[.int .u8 0, .int .u8 0, .slice none 0 0] HX4.out))
        have HR := Lib.hid hr
        have hb2 : (((frRight h2 h3 n : Nat) : Int) != 0) = true := by simp; omega
        clear hr HE0 HE1 HE2 HE3 HE4 HPE HPO
        generalize frRight h2 h3 n = e0 at *
        clear hB
        go_wp2_with (first
          | (go_at_call 75; refine (HR.out _).mono ?_; rintro e w' ⟨rfl, rfl⟩)
          | (refine wpList_store_rowTo rfl _ _ _ rfl rfl g2 #[.int .u8 0, .int .u8 0, .slice none 0 0] rfl rfl _ _ HG4.out info40 rfl (row_one _ _ _ _ _) ?_))
        refine bodyPost_ret (results_cell3 rfl _ _ g2 _ #[.int .u8 0, .int .u8 0, .slice none 0 0] _ _ rfl (setRow_heap _ _ _ _ _ _ HG4.out) Try.underlying48 rfl (by kernel_rfl)) rfl ?_
        exact HFH.out

end Go.Proofs.Ytoggnmfjkbnopaa
