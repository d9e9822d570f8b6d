/-
  Catalogs: the walk through all, its body told what comes, and that each item's columns are its own.
-/
import Derived.Test.YtegclfpmgilnpaaCatL
import Derived.Test.YtegclfpmgilnpaaLibK
import Derived.RangeFuncLeaves
import Derived.Shelf.Abstract
import Derived.Shelf.RegionOpen
import Derived.WalkKit
import Derived.OwnWalkIn
import Derived.TacticsInMore
import Derived.LoopNIn
import Derived.LoopIn
import Derived.RangeFuncBox
namespace Go.Proofs.Ytegclfpmgilnpaa
open Go.RowKit Go.Lac Go.Shelf
attribute [local go_sem] Oper.semAt_some

def encA (x : Rl × Value) : Array Value := #[.agg (refv (rf x.1)), .agg (relv x.1 x.2)]
/-- What the walk knows of an item: it is one of these; its columns lie in a row of their own, from base on. -/
def KnA (base : Nat) (l : List Rl) (x : Rl × Value) (w : World) : Prop := x.1 ∈ l ∧ OwnP base w x.2 x.1.cols
theorem fieldAl_0 (w : World) (b : Nat) : (Instr.fieldAt 39 (.pointer (some ⟨b, 0, none⟩)) 0).run Try.prog w = .ok (.pointer (some ⟨b, 0, none⟩)) w := by kernel_rfl
def alT (base l gb : Nat) (r : Rl) (cv : Value) : Tmp → Kn
  | 11 => .is (.func (.yield l) #[] #[])
  | 12 => .is (.pointer (some ⟨gb, 0, none⟩))
  | 13 => .is (.agg (refv (rf r)))
  | 14 => .is (.agg (relv r cv))
  | 15 => Kn.relF base r
  | _ => .any
def alT' (A B : World → Prop) : Tmp → Value → World → Prop
  | 16, v, w => (v = .bool true ∧ A w) ∨ (v = .bool false ∧ B w)
  | 17, v, w => (v = .bool false ∧ A w) ∨ (v = .bool true ∧ B w)
  | _, _, _ => True
set_option maxRecDepth 100000 in
set_option maxHeartbeats 4000000 in
/-- The walk itself: for every loop body that changes but what is in N. -/
theorem allWalk_mem (base n : Nat) (hn : 1 ≤ n) (l g : Nat) (v : Value) (rs : List Rl) (N : Nat → Prop) (J Jx : List (Rl × Value) → World → Prop) (W : World)
    (hg : W.heap[g]? = some (.cells #[v] 62 (0, 0))) (hS : ∀ W', Ch N W W' → RlS (ColS W') W' v rs) (hNb : ∀ k, W.heap.size ≤ k → N k)
    (hc : ∀ r ∈ rs, r.cols.length ≤ 1000000) (hB : base ≤ W.heap.size)
    (hJ : AbidesFrom W.heap.size J)
    (hY : ∀ pre x W1, pre.map Prod.fst ++ [x.1] <+: rs → J pre W1 → KnA base rs x W1 → pre.length < rs.length → YieldAt Fence.wide (n - 1) Try.prog l (encA x) W1 fun e W' =>
      (e = .returned (.bool true) ∧ J (pre ++ [x]) W' ∧ Ch N W1 W') ∨ (e = .returned (.bool false) ∧ Jx (pre ++ [x]) W'))
    (h0 : J [] W) :
    CallsIn Fence.wide n Try.prog 82 #[.func (.yield l) #[] #[], .pointer (some ⟨g, 0, none⟩)] W fun e W' => (∃ v, e = .returned v) ∧
      ((∃ ys, ys.map Prod.fst = rs ∧ J ys W') ∨ (∃ pre, pre.map Prod.fst <+: rs ∧ Jx pre W')) := by
  have HRS := Lib.hid (hS W (Ch.refl _ _))
  obtain ⟨ao, cap, rfl, hlc, hcm⟩ := HRS.out.shape
  have hcl : W.cell? ⟨g, 0, none⟩ = some (.slice ao rs.length cap) := by rw [cell_of_row _ _ _ _ _ _ hg]; rfl
  obtain ⟨ci, chi, _, chs, _⟩ := info_parts infoRlZ
  have CHI := Lib.hid chi; have CHS := Lib.hid chs
  have HS := Lib.hid hS; have HJ := Lib.hid hJ; have HY := Lib.hid hY; have H0 := Lib.hid h0; have HNB := Lib.hid hNb; have HCC := Lib.hid hc; have HB := Lib.hid hB
  obtain ⟨m, hm⟩ : ∃ m, m = rs.length := ⟨_, rfl⟩
  have HM := Lib.hid hm
  have hm63 : m ≤ 9223372036854775807 := by unfold maxLen at hcm; omega
  rw [← hm] at hcl
  clear hg hS hJ hY h0 chi chs hNb hc hB hlc hcm hm
  refine callsIn_of_wp Try.func82 rfl trivial ?_ rfl
  simp only [Try.ntmps82, List.size_toArray, List.length_cons, List.length_nil, Nat.reduceAdd, Nat.reduceSub, Array.replicate_succ, Array.replicate_zero, List.push_toArray, List.append_toArray, List.nil_append, List.cons_append]
  gi_wp2
  gi_loopw [7] (fun ix wr => ∃ (k : Nat) (p : List (Rl × Value)), k ≤ m ∧ ix = .int .i64 k ∧ Hid (p.map Prod.fst = rs.take k) ∧ Hid (J p wr) ∧ Hid (Ch N W wr)) (fun ix _ => m - (intOf ix).toNat)
  case atStart => exact ⟨0, [], Nat.zero_le _, rfl, Lib.hid (by simp), H0, Lib.hid (Ch.refl _ _)⟩
  case round =>
    obtain ⟨k, p, hk, rfl, HP, HJs, HX⟩ := hrel
    by_cases hlt : k < m
    · have hkl : k < rs.length := by have := HM.out; omega
      obtain ⟨b, o, cv, rfl, hra, hcv⟩ := rlS_at (HS.out wr HX.out) hkl
      have hidx := run_indexSl wr Try.underlying62 CHI.out CHS.out b o m cap k hlt
      have HT : Hid (rs.take (k + 1) = rs.take k ++ [rs[k]]) := Lib.hid (List.take_succ_eq_append_getElem hkl)
      have HMEM : Hid (rs[k] ∈ rs) := Lib.hid (List.getElem_mem hkl)
      have HC6 : Hid (rs[k].cols.length ≤ 1000000) := Lib.hid (HCC.out _ HMEM.out)
      have HPL : Hid (p.length < rs.length) := Lib.hid (by
        have := congrArg List.length HP.out
        rw [List.length_map, List.length_take] at this
        omega)
      generalize rs[k] = x at *
      have q0 : wr.cell? ⟨b, o + k * 5, none⟩ = some (.int .u32 (x.oid : Nat)) := by have := hra 0 _ rfl; simpa using this
      have q1 : wr.cell? ⟨b, o + k * 5 + 1, none⟩ = some (.int .u32 (x.ver : Nat)) := hra 1 _ rfl
      have q2 : wr.cell? ⟨b, o + k * 5 + 2, none⟩ = some (.string ⟨x.name.toArray⟩) := hra 2 _ rfl
      have q3 : wr.cell? ⟨b, o + k * 5 + 3, none⟩ = some (.int .u8 (x.ident : Nat)) := hra 3 _ rfl
      have q4 : wr.cell? ⟨b, o + k * 5 + 4, none⟩ = some cv := hra 4 _ rfl
      obtain ⟨co, cc, rfl, _⟩ := id hcv
      obtain ⟨W1, hW1⟩ : ∃ W1, W1 = wr.alloc (.cells (relv x (.slice co x.cols.length cc)) 39) := ⟨_, rfl⟩
      have hx1 : Ext wr W1 := by rw [hW1]; exact (Ch.refl _ _).alloc _
      have HX1 : Hid (Ch N W W1) := Lib.hid (HX.out.trans (Ext.ch hx1))
      have HJ1 : Hid (J p W1) := Lib.hid (HJ.out.ext HJs.out hx1)
      have HCV := Lib.hid (ColS.ext hcv hx1)
      have hrow := heap_alloc_new wr (.cells (relv x (.slice co x.cols.length cc)) 39)
      rw [← hW1] at hrow
      have HROW := Lib.hid hrow; have HW1 := Lib.hid hW1
      have HPX : Hid (p.map Prod.fst ++ [x] <+: rs) := Lib.hid (by rw [HP.out, ← HT.out]; exact List.take_prefix _ _)
      have HBS : Hid (base ≤ W1.heap.size) := Lib.hid (Nat.le_trans HB.out HX1.out.size)
      obtain ⟨gb, hgb⟩ : ∃ gb, gb = wr.heap.size := ⟨_, rfl⟩
      rw [← hgb] at HROW
      have HGB := Lib.hid hgb
      have HLT := Lib.hid hlt
      clear hra hcv hx1 hrow hW1 hkl hgb
      unfold relv strV at HW1
      gi_wp2_with fail
      rw [← HGB.out, ← HW1.out]
      refine wpIn_region_yield (alT base l gb x (.slice co x.cols.length cc)) (alT' (fun w' => ∃ c, J (p ++ [(x, c)]) w' ∧ Ch N W w') (fun w' => ∃ c, Jx (p ++ [(x, c)]) w')) 5 Open.wide mixedV (by rfl) (by rfl) (by decide) ?all ?fin
      case all =>
        refine ⟨?_, ?_, ?_, ?_, ?_, ?_, ?_, trivial⟩
        · refine StepI.early Open.wide rfl (by rfl) (by decide) rfl fun ρ w hρ hw hf => ?_
          have h0 : ρ (.tmp 0) = .func (.yield l) #[] #[] := (hf 0).2 rfl rfl
          exact Exec.kmove rfl rfl h0
        · refine StepI.early Open.wide rfl (by rfl) (by decide) rfl fun ρ w hρ hw hf => ?_
          have h4 : ρ (.tmp 4) = .pointer (some ⟨gb, 0, none⟩) := (hf 4).2 rfl rfl
          exact Exec.kfield rfl rfl h4 (fieldAl_0 w _) rfl
        · refine StepI.early Open.wide rfl (by rfl) (by decide) rfl fun ρ w hρ hw hf => ?_
          have h12 : ρ (.tmp 12) = .pointer (some ⟨gb, 0, none⟩) := (hf 12).1 rfl
          obtain ⟨d0, d1, _⟩ := row5 (heap_ext hw HROW.out)
          have hm : w.rangeAt gb 0 (refv (rf x)).toList := fun j u hu => by
            match j, hu with
            | 0, hu => cases hu; exact d0
            | 1, hu => cases hu; exact d1
          have hr := run_loadAt_mid (P := Try.prog) w gb 0 36 (refv (rf x)).toList _ hm Try.underlying36 rfl infoRf3
          exact Exec.same (v := .agg (refv (rf x))) rfl (by unfold execOp; simp only [h12, Sem.run_bind, hr, Result.andThen_ok, Sem.run_pure]) rfl
        · refine StepI.early Open.wide rfl (by rfl) (by decide) rfl fun ρ w hρ hw hf => ?_
          have h4 : ρ (.tmp 4) = .pointer (some ⟨gb, 0, none⟩) := (hf 4).2 rfl rfl
          exact Exec.kloadrow rfl rfl h4 (heap_ext hw HROW.out) Try.underlying39 rfl infoOw rfl
        · refine StepI.early Open.wide rfl (by rfl) (by decide) rfl fun ρ w hρ hw hf => ?_
          have h14 : ρ (.tmp 14) = .agg (relv x (.slice co x.cols.length cc)) := (hf 14).1 rfl
          refine Exec.kcall #[.agg (relv x (.slice co x.cols.length cc))] hρ rfl rfl (by simp [h14]) Try.func52 (by rfl) (by rfl) ((fresh_any base x (.slice co x.cols.length cc) w (ColS.ext HCV.out hw) HC6.out).mono ?_)
          rintro e w' ⟨c, rfl, h1, h2⟩
          exact ⟨_, rfl, ⟨c, rfl, ownsRow_down h2 (Nat.le_trans HBS.out hw.size)⟩, h1⟩
        · refine StepI.yield [16, 17] rfl rfl (fun d v w hd => ?_) (by rfl) (by rfl) fun y w hw hf => ?_
          · unfold alT'; split <;> first | trivial | (simp at hd)
          · have h11 : y.eval (.tmp 11) = .func (.yield l) #[] #[] := (hf 11).1 rfl
            have h13 : y.eval (.tmp 13) = .agg (refv (rf x)) := (hf 13).1 rfl
            obtain ⟨c, h15, hown⟩ : (Kn.relF base x).holds (y.eval (.tmp 15)) w := (hf 15).1 rfl
            refine ExecI.kyield (encA (x, c)) Open.wide rfl rfl h11 (by simp [encA, h13, h15]) (HY.out p (x, c) w HPX.out (HJ.out.ext HJ1.out hw) ⟨HMEM.out, hown⟩ HPL.out) ?_
            rintro e w' (⟨rfl, h1, h2⟩ | ⟨rfl, h1⟩)
            · exact ⟨_, rfl, fun d hd => by cases hd; exact .inl ⟨rfl, c, h1, (HX1.out.trans (Ext.ch hw)).trans h2⟩⟩
            · exact ⟨_, rfl, fun d hd => by cases hd; exact .inr ⟨rfl, c, h1⟩⟩
        · refine StepI.tail Open.wide rfl (by rfl) (by decide) rfl rfl fun ρ w hρ hf => ?_
          rcases hf 16 rfl with ⟨h24, h1⟩ | ⟨h24, h1⟩
          · exact ⟨.bool false, by simp [go_sem, hρ.const, h24], fun d hd => by cases hd; exact .inl ⟨rfl, h1⟩⟩
          · exact ⟨.bool true, by simp [go_sem, hρ.const, h24], fun d hd => by cases hd; exact .inr ⟨rfl, h1⟩⟩
      case fin =>
        intro ν w9 hfin
        have hv : alT' (fun w' => ∃ c, J (p ++ [(x, c)]) w' ∧ Ch N W w') (fun w' => ∃ c, Jx (p ++ [(x, c)]) w') 17 (ν 17) w9 := hfin 6 17 rfl
        simp only [Exit.then, ended, List.foldl_cons, List.foldl_nil, List.setIfInBounds_toArray, List.set_cons_succ, List.set_cons_zero]
        clear hfin hidx q0 q1 q2 q3 q4
        rcases hv with ⟨e0, c, h1, h2⟩ | ⟨e0, c, h1⟩
        · have HJ1 := Lib.hid h1; have HX1 := Lib.hid h2
          have HP1 : Hid ((p ++ [(x, c)]).map Prod.fst = rs.take (k + 1)) := Lib.hid (by rw [HT.out, List.map_append, HP.out]; rfl)
          rw [e0]
          clear h1 h2 e0
          generalize p ++ [(x, c)] = p2 at *
          gi_wp2
          go_roundw
          case rel => exact ⟨k + 1, p2, HLT.out, by simp, HP1, HJ1, HX1⟩
          case measure => simp [intOf]; have := HLT.out; omega
        · have HJ1 := Lib.hid h1
          rw [e0]
          clear h1 e0
          gi_wp2
          refine bodyPost_ret (results_none rfl _ _ _) rfl ?_
          exact ⟨⟨_, rfl⟩, .inr ⟨p ++ [(x, c)], by rw [List.map_append]; exact HPX.out, HJ1.out⟩⟩
    · obtain rfl : k = m := by omega
      gi_wp2
      go_end0
      exact ⟨⟨_, rfl⟩, .inl ⟨p, by have := HP.out; rwa [HM.out, List.take_length] at this, HJs.out⟩⟩
end Go.Proofs.Ytegclfpmgilnpaa
