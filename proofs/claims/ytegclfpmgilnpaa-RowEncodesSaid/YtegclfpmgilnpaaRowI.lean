/-
  Rows: the walk through the large cells' texts, its body told what comes.
-/
import Derived.Test.YtegclfpmgilnpaaRowG
import Derived.Test.YtegclfpmgilnpaaRelX
import Derived.Test.YtegclfpmgilnpaaLibK
import Derived.Test.YtegclfpmgilnpaaCelB
import Derived.RangeFuncLeaves
import Derived.Shelf.Abstract
import Derived.Shelf.RegionOpen
import Derived.WalkKit
import Derived.OwnWalkIn
import Derived.TacticsInMore
import Derived.LoopNIn
import Derived.LoopIn
import Derived.RangeFuncBox
namespace Go.Proofs.Ytegclfpmgilnpaa
open Go.RowKit Go.Lac Go.Shelf
attribute [local go_sem] Oper.semAt_some
theorem run_store_complexI {P : Program} {w : World} {a : Addr} {m : Mode} (k : FloatKind) (re im : Nat) : (store a (.complex k re im) m).run P w = stored P w a (.complex k re im) m := run_store P w a _ m rfl
attribute [local go_sem] run_store_complexI

/-- The large cells' texts, with their columns. -/
def lgL (l : List Cel) : List (Nat × List UInt8) := (l.zipIdx.filter fun p => cLarge p.1).map fun p => (p.2, p.1.v.t)
theorem lgL_append (l m : List Cel) : ∃ r, lgL (l ++ m) = lgL l ++ r := by
  unfold lgL
  rw [List.zipIdx_append, List.filter_append, List.map_append]
  exact ⟨_, rfl⟩
theorem lgL_take {l : List Cel} {k : Nat} (h : k < l.length) : lgL (l.take (k + 1)) = lgL (l.take k) ++ (if cLarge l[k] = true then [(k, l[k].v.t)] else []) := by
  rw [List.take_succ_eq_append_getElem h]
  unfold lgL
  rw [List.zipIdx_append, List.filter_append, List.map_append]
  congr 1
  cases hL : cLarge l[k] <;> simp [hL, List.length_take, Nat.min_eq_left (Nat.le_of_lt h)]
theorem lgL_prefix (l : List Cel) (k : Nat) : lgL (l.take k) <+: lgL l := by
  obtain ⟨r, h⟩ := lgL_append (l.take k) (l.drop k)
  rw [List.take_append_drop] at h
  exact ⟨r, h.symm⟩
theorem lgL_length (l : List Cel) : (lgL l).length ≤ l.length := by
  unfold lgL
  rw [List.length_map]
  exact Nat.le_trans (List.length_filter_le _ _) (by simp)
def hoOf (x : Nat × List UInt8) : Ho := ⟨(x.1 : Int), (x.2.length : Int)⟩
theorem holesL_lg (l : List Cel) : holesL l = (lgL l).map hoOf := by
  unfold holesL lgL hoOf
  rw [List.map_map]; rfl
theorem textsL_lg (l : List Cel) : textsL l = (lgL l).map Prod.snd := by
  have h : ∀ k, k ≤ l.length → textsL (l.take k) = (lgL (l.take k)).map Prod.snd := by
    intro k
    induction k with
    | zero => intro _; simp [textsL, lgL]
    | succ k ih =>
      intro hk
      rw [textsL_take (show k < l.length by omega), lgL_take (show k < l.length by omega), ih (by omega), List.map_append]
      congr 1
      split <;> rfl
  have := h l.length (Nat.le_refl _)
  rwa [List.take_length] at this
def encL (x : Nat × List UInt8) : Array Value := #[.int .i64 (x.1 : Nat), strV x.2]
theorem large_any (x : Cel) (w : World) : Calls Try.prog 99 #[.agg #[.int .u8 (x.k : Nat), .int .u8 (x.v.ty : Nat), .int .i64 x.v.i, .complex .f64 x.v.re x.v.im, .string ⟨x.v.t.toArray⟩]] w fun e w' => e = .returned (.bool (cLarge x)) ∧ Ext w w' := clarge_any x w
theorem infoPcI : (Try.prog.info? 129).map (·.size) = some 5 := by kernel_rfl
set_option maxRecDepth 100000 in
set_option maxHeartbeats 4000000 in
/-- The walk itself: for every loop body that changes but what is in N. -/
theorem largeWalk (n : Nat) (hn : 1 ≤ n) (l g : Nat) (v : Value) (cs : List Cel) (N : Nat → Prop) (J Jx : List (Nat × List UInt8) → World → Prop) (W : World)
    (hg : W.heap[g]? = some (.cells #[v] 74 (0, 0))) (hS : ∀ W', Ch N W W' → PcS W' v cs) (hNb : ∀ k, W.heap.size ≤ k → N k)
    (hJ : AbidesFrom W.heap.size J)
    (hY : ∀ pre x W1, pre ++ [x] <+: lgL cs → J pre W1 → pre.length < cs.length → YieldAt Fence.wide (n - 1) Try.prog l (encL x) W1 fun e W' =>
      (e = .returned (.bool true) ∧ J (pre ++ [x]) W' ∧ Ch N W1 W') ∨ (e = .returned (.bool false) ∧ Jx (pre ++ [x]) W'))
    (h0 : J [] W) :
    CallsIn Fence.wide n Try.prog 98 #[.func (.yield l) #[] #[], .pointer (some ⟨g, 0, none⟩)] W fun e W' => (∃ v, e = .returned v) ∧
      ((∃ ys, ys = lgL cs ∧ J ys W') ∨ (∃ pre, pre <+: lgL cs ∧ Jx pre W')) := by
  have HRS := Lib.hid (hS W (Ch.refl _ _))
  obtain ⟨ao, cap, rfl, hlc, hcm⟩ := HRS.out.shape
  have hcl : W.cell? ⟨g, 0, none⟩ = some (.slice ao cs.length cap) := by rw [cell_of_row _ _ _ _ _ _ hg]; rfl
  obtain ⟨ci, chi, _, chs, _⟩ := info_parts infoPrZ
  have CHI := Lib.hid chi; have CHS := Lib.hid chs
  have HS := Lib.hid hS; have HJ := Lib.hid hJ; have HY := Lib.hid hY; have H0 := Lib.hid h0; have HNB := Lib.hid hNb
  obtain ⟨m, hm⟩ : ∃ m, m = cs.length := ⟨_, rfl⟩
  have HM := Lib.hid hm
  have hm63 : m ≤ 9223372036854775807 := by unfold maxLen at hcm; omega
  rw [← hm] at hcl
  clear hg hS hJ hY h0 chi chs hNb hlc hcm hm
  refine callsIn_of_wp Try.func98 rfl trivial ?_ rfl
  simp only [Try.ntmps98, List.size_toArray, List.length_cons, List.length_nil, Nat.reduceAdd, Nat.reduceSub, Array.replicate_succ, Array.replicate_zero, List.push_toArray, List.append_toArray, List.nil_append, List.cons_append]
  gi_wp2
  gi_loopw [7] (fun ix wr => ∃ k : Nat, k ≤ m ∧ ix = .int .i64 k ∧ Hid (J (lgL (cs.take k)) wr) ∧ Hid (Ch N W wr)) (fun ix _ => m - (intOf ix).toNat)
  case atStart => exact ⟨0, Nat.zero_le _, rfl, Lib.hid (by simpa [lgL] using H0.out), Lib.hid (Ch.refl _ _)⟩
  case round =>
    obtain ⟨k, hk, rfl, HJs, HX⟩ := hrel
    by_cases hlt : k < m
    · have hkl : k < cs.length := by have := HM.out; omega
      obtain ⟨b, o, rfl, hra⟩ := (HS.out wr HX.out).at hkl
      have hidx := run_indexSl wr Try.underlying74 CHI.out CHS.out b o m cap k hlt
      have HT := Lib.hid (lgL_take hkl)
      have HP := Lib.hid (lgL_prefix cs (k + 1))
      have HL : Hid ((lgL (cs.take k)).length < cs.length) := Lib.hid (by have := lgL_length (cs.take k); rw [List.length_take] at this; omega)
      generalize cs[k] = x at *
      have q0 : wr.cell? ⟨b, o + k * 5, none⟩ = some (.int .u8 (x.k : Nat)) := by have := hra 0 _ rfl; simpa using this
      have q1 : wr.cell? ⟨b, o + k * 5 + 1, none⟩ = some (.int .u8 (x.v.ty : Nat)) := hra 1 _ rfl
      have q2 : wr.cell? ⟨b, o + k * 5 + 2, none⟩ = some (.int .i64 x.v.i) := hra 2 _ rfl
      have q3 : wr.cell? ⟨b, o + k * 5 + 3, none⟩ = some (.complex .f64 x.v.re x.v.im) := hra 3 _ rfl
      have q4 : wr.cell? ⟨b, o + k * 5 + 4, none⟩ = some (.string ⟨x.v.t.toArray⟩) := hra 4 _ rfl
      obtain ⟨W1, hW1⟩ : ∃ W1, W1 = wr.alloc (.cells #[.int .u8 (x.k : Nat), .int .u8 (x.v.ty : Nat), .int .i64 x.v.i, .complex .f64 x.v.re x.v.im, .string ⟨x.v.t.toArray⟩] 129) := ⟨_, rfl⟩
      have hx1 : Ext wr W1 := by rw [hW1]; exact (Ch.refl _ _).alloc _
      have HX1 : Hid (Ch N W W1) := Lib.hid (HX.out.trans (Ext.ch hx1))
      have HJ1 : Hid (J (lgL (cs.take k)) W1) := Lib.hid (HJ.out.ext HJs.out hx1)
      have hrow := heap_alloc_new wr (.cells #[.int .u8 (x.k : Nat), .int .u8 (x.v.ty : Nat), .int .i64 x.v.i, .complex .f64 x.v.re x.v.im, .string ⟨x.v.t.toArray⟩] 129)
      rw [← hW1] at hrow
      have HROW := Lib.hid hrow; have HW1 := Lib.hid hW1
      have HLA := Lib.hid (large_any x W1)
      have HLT := Lib.hid hlt
      clear hra hx1 hrow hW1 hkl
      gi_wp2_with fail
      refine ⟨trivial, ?_⟩
      rw [← HW1.out]
      refine (callsIn_wide.2 HLA.out).mono ?_
      rintro e w3 ⟨rfl, hx3⟩
      have HX3 : Hid (Ch N W w3) := Lib.hid (HX1.out.trans (Ext.ch hx3))
      have HJ3 : Hid (J (lgL (cs.take k)) w3) := Lib.hid (HJ.out.ext HJ1.out hx3)
      have r4 : w3.cell? ⟨wr.heap.size, 4, none⟩ = some (.string ⟨x.v.t.toArray⟩) := by rw [cell_of_row _ _ _ _ _ _ (heap_ext hx3 HROW.out)]; rfl
      clear q0 q1 q2 q3 q4 hidx HLA hx3 HROW HX1 HJ1 HJs HX
      cases hL : cLarge x with
      | false =>
        rw [hL, if_neg (by decide), List.append_nil] at HT
        clear hL r4
        gi_wp2
        refine ⟨fun _ h => (by cases h), ?_⟩
        gi_wp2
        go_roundw
        case rel => exact ⟨k + 1, HLT.out, by simp, by rw [HT.out]; exact HJ3, HX3⟩
        case measure => simp [intOf]; have := HLT.out; omega
      | true =>
        rw [hL, if_pos rfl] at HT
        clear hL
        obtain ⟨fn, tmps, assign, body, hy, hR⟩ := HY.out _ (k, x.v.t) w3 (by rw [← HT.out]; exact HP.out) HJ3.out HL.out
        unfold encL strV at hy
        dsimp only at hy hR
        gi_wp2
        refine hR.mono ?_
        rintro e W3 (⟨rfl, hJ3, hk3⟩ | ⟨rfl, hJx3⟩)
        · have HJ4 : Hid (J (lgL (cs.take (k + 1))) W3) := Lib.hid (by rw [HT.out]; exact hJ3)
          have HK3 := Lib.hid (HX3.out.trans hk3)
          clear hJ3 hk3 hy hR
          gi_wp2
          go_roundw
          case rel => exact ⟨k + 1, HLT.out, by simp, HJ4, HK3⟩
          case measure => simp [intOf]; have := HLT.out; omega
        · have HJ4 := Lib.hid hJx3
          clear hJx3 hy hR
          gi_wp2
          refine bodyPost_ret (results_none rfl _ _ _) rfl ?_
          exact ⟨⟨_, rfl⟩, .inr ⟨_, by rw [← HT.out]; exact HP.out, HJ4.out⟩⟩
    · obtain rfl : k = m := by omega
      gi_wp2
      go_end0
      exact ⟨⟨_, rfl⟩, .inl ⟨_, rfl, by have := HJs.out; rwa [HM.out, List.take_length] at this⟩⟩
end Go.Proofs.Ytegclfpmgilnpaa
