import Derived.Test.YtegclfpmgilnpaaGreatGRowA
import Derived.Test.YtegclfpmgilnpaaGreatRelX
import Derived.Test.YtegclfpmgilnpaaGreatLibK
import Derived.Test.YtegclfpmgilnpaaGreatCelB
import Derived.RangeFuncLeaves
import Derived.Shelf.Abstract
import Derived.Shelf.RegionOpen
import Derived.WalkKit
import Derived.OwnWalkIn
import Derived.TacticsInMore
import Derived.LoopNIn
import Derived.LoopIn
import Derived.RangeFuncBox
import Derived.Laws.OwnMore
import Derived.Maps.AppendAt
import Derived.Maps.OwnIn
import Derived.Test.YtegclfpmgilnpaaGreatBitH
namespace Go.Proofs.YtegclfpmgilnpaaGreat
open Go.RowKit Go.Lac Go.Shelf
attribute [local go_sem] Oper.semAt_some
theorem run_store_complexI {P : Program} {w : World} {a : Addr} {m : Mode} (k : FloatKind) (re im : Nat) : (store a (.complex k re im) m).run P w = stored P w a (.complex k re im) m := run_store P w a _ m rfl
attribute [local go_sem] run_store_complexI
def lgL (l : List Cel) : List (Nat × List UInt8) := (l.zipIdx.filter fun p => cLarge p.1).map fun p => (p.2, p.1.v.t)
theorem lgL_append (l m : List Cel) : ∃ r, lgL (l ++ m) = lgL l ++ r := by
  unfold lgL
  rw [List.zipIdx_append, List.filter_append, List.map_append]
  exact ⟨_, rfl⟩
theorem lgL_take {l : List Cel} {k : Nat} (h : k < l.length) : lgL (l.take (k + 1)) = lgL (l.take k) ++ (if cLarge l[k] = true then [(k, l[k].v.t)] else []) := by
  rw [List.take_succ_eq_append_getElem h]
  unfold lgL
  rw [List.zipIdx_append, List.filter_append, List.map_append]
  congr 1
  cases hL : cLarge l[k] <;> simp [hL, List.length_take, Nat.min_eq_left (Nat.le_of_lt h)]
theorem lgL_prefix (l : List Cel) (k : Nat) : lgL (l.take k) <+: lgL l := by
  obtain ⟨r, h⟩ := lgL_append (l.take k) (l.drop k)
  rw [List.take_append_drop] at h
  exact ⟨r, h.symm⟩
theorem lgL_length (l : List Cel) : (lgL l).length ≤ l.length := by
  unfold lgL
  rw [List.length_map]
  exact Nat.le_trans (List.length_filter_le _ _) (by simp)
def hoOf (x : Nat × List UInt8) : Ho := ⟨(x.1 : Int), (x.2.length : Int)⟩
theorem textsL_lg (l : List Cel) : textsL l = (lgL l).map Prod.snd := by
  have h : ∀ k, k ≤ l.length → textsL (l.take k) = (lgL (l.take k)).map Prod.snd := by
    intro k
    induction k with
    | zero => intro _; simp [textsL, lgL]
    | succ k ih =>
      intro hk
      rw [textsL_take (show k < l.length by omega), lgL_take (show k < l.length by omega), ih (by omega), List.map_append]
      congr 1
      split <;> rfl
  have := h l.length (Nat.le_refl _)
  rwa [List.take_length] at this
def encL (x : Nat × List UInt8) : Array Value := #[.int .i64 (x.1 : Nat), strV x.2]
theorem large_any (x : Cel) (w : World) : Calls Tryz.prog 69 #[.agg #[.int .u8 (x.k : Nat), .int .u8 (x.v.ty : Nat), .int .i64 x.v.i, .complex .f64 x.v.re x.v.im, .string ⟨x.v.t.toArray⟩]] w fun e w' => e = .returned (.bool (cLarge x)) ∧ Ext w w' := clarge_any x w
set_option maxRecDepth 100000 in
set_option maxHeartbeats 4000000 in
theorem largeWalk (n : Nat) (hn : 1 ≤ n) (l g : Nat) (v : Value) (cs : List Cel) (N : Nat → Prop) (J Jx : List (Nat × List UInt8) → World → Prop) (W : World)
    (hg : W.heap[g]? = some (.cells #[v] 36 (0, 0))) (hS : ∀ W', Ch N W W' → PcS W' v cs) (hNb : ∀ k, W.heap.size ≤ k → N k)
    (hJ : AbidesFrom W.heap.size J)
    (hY : ∀ pre x W1, pre ++ [x] <+: lgL cs → J pre W1 → pre.length < cs.length → YieldAt Fence.wide (n - 1) Tryz.prog l (encL x) W1 fun e W' =>
      (e = .returned (.bool true) ∧ J (pre ++ [x]) W' ∧ Ch N W1 W') ∨ (e = .returned (.bool false) ∧ Jx (pre ++ [x]) W'))
    (h0 : J [] W) :
    CallsIn Fence.wide n Tryz.prog 68 #[.func (.yield l) #[] #[], .pointer (some ⟨g, 0, none⟩)] W fun e W' => (∃ v, e = .returned v) ∧
      ((∃ ys, ys = lgL cs ∧ J ys W') ∨ (∃ pre, pre <+: lgL cs ∧ Jx pre W')) := by
  have HRS := Lib.hid (hS W (Ch.refl _ _))
  obtain ⟨ao, cap, rfl, hlc, hcm⟩ := HRS.out.shape
  have hcl : W.cell? ⟨g, 0, none⟩ = some (.slice ao cs.length cap) := by rw [cell_of_row _ _ _ _ _ _ hg]; rfl
  obtain ⟨ci, chi, _, chs, _⟩ := info_parts infoPrZ
  have CHI := Lib.hid chi; have CHS := Lib.hid chs
  have HS := Lib.hid hS; have HJ := Lib.hid hJ; have HY := Lib.hid hY; have H0 := Lib.hid h0; have HNB := Lib.hid hNb
  obtain ⟨m, hm⟩ : ∃ m, m = cs.length := ⟨_, rfl⟩
  have HM := Lib.hid hm
  have hm63 : m ≤ 9223372036854775807 := by unfold maxLen at hcm; omega
  rw [← hm] at hcl
  clear hg hS hJ hY h0 chi chs hNb hlc hcm hm
  refine callsIn_of_wp Tryz.func68 rfl trivial ?_ rfl
  simp only [Tryz.ntmps68, List.size_toArray, List.length_cons, List.length_nil, Nat.reduceAdd, Nat.reduceSub, Array.replicate_succ, Array.replicate_zero, List.push_toArray, List.append_toArray, List.nil_append, List.cons_append]
  gi_wp2
  gi_loopw [7] (fun ix wr => ∃ k : Nat, k ≤ m ∧ ix = .int .i64 k ∧ Hid (J (lgL (cs.take k)) wr) ∧ Hid (Ch N W wr)) (fun ix _ => m - (intOf ix).toNat)
  case atStart => exact ⟨0, Nat.zero_le _, rfl, Lib.hid (by simpa [lgL] using H0.out), Lib.hid (Ch.refl _ _)⟩
  case round =>
    obtain ⟨k, hk, rfl, HJs, HX⟩ := hrel
    by_cases hlt : k < m
    · have hkl : k < cs.length := by have := HM.out; omega
      obtain ⟨b, o, rfl, hra⟩ := (HS.out wr HX.out).at hkl
      have hidx := run_indexSl wr Tryz.underlying36 CHI.out CHS.out b o m cap k hlt
      have HT := Lib.hid (lgL_take hkl)
      have HP := Lib.hid (lgL_prefix cs (k + 1))
      have HL : Hid ((lgL (cs.take k)).length < cs.length) := Lib.hid (by have := lgL_length (cs.take k); rw [List.length_take] at this; omega)
      generalize cs[k] = x at *
      have q0 : wr.cell? ⟨b, o + k * 5, none⟩ = some (.int .u8 (x.k : Nat)) := by have := hra 0 _ rfl; simpa using this
      have q1 : wr.cell? ⟨b, o + k * 5 + 1, none⟩ = some (.int .u8 (x.v.ty : Nat)) := hra 1 _ rfl
      have q2 : wr.cell? ⟨b, o + k * 5 + 2, none⟩ = some (.int .i64 x.v.i) := hra 2 _ rfl
      have q3 : wr.cell? ⟨b, o + k * 5 + 3, none⟩ = some (.complex .f64 x.v.re x.v.im) := hra 3 _ rfl
      have q4 : wr.cell? ⟨b, o + k * 5 + 4, none⟩ = some (.string ⟨x.v.t.toArray⟩) := hra 4 _ rfl
      obtain ⟨W1, hW1⟩ : ∃ W1, W1 = wr.alloc (.cells #[.int .u8 (x.k : Nat), .int .u8 (x.v.ty : Nat), .int .i64 x.v.i, .complex .f64 x.v.re x.v.im, .string ⟨x.v.t.toArray⟩] 90) := ⟨_, rfl⟩
      have hx1 : Ext wr W1 := by rw [hW1]; exact (Ch.refl _ _).alloc _
      have HX1 : Hid (Ch N W W1) := Lib.hid (HX.out.trans (Ext.ch hx1))
      have HJ1 : Hid (J (lgL (cs.take k)) W1) := Lib.hid (HJ.out.ext HJs.out hx1)
      have hrow := heap_alloc_new wr (.cells #[.int .u8 (x.k : Nat), .int .u8 (x.v.ty : Nat), .int .i64 x.v.i, .complex .f64 x.v.re x.v.im, .string ⟨x.v.t.toArray⟩] 90)
      rw [← hW1] at hrow
      have HROW := Lib.hid hrow; have HW1 := Lib.hid hW1
      have HLA := Lib.hid (large_any x W1)
      have HLT := Lib.hid hlt
      clear hra hx1 hrow hW1 hkl
      gi_wp2_with fail
      refine ⟨trivial, ?_⟩
      rw [← HW1.out]
      refine (callsIn_wide.2 HLA.out).mono ?_
      rintro e w3 ⟨rfl, hx3⟩
      have HX3 : Hid (Ch N W w3) := Lib.hid (HX1.out.trans (Ext.ch hx3))
      have HJ3 : Hid (J (lgL (cs.take k)) w3) := Lib.hid (HJ.out.ext HJ1.out hx3)
      have r4 : w3.cell? ⟨wr.heap.size, 4, none⟩ = some (.string ⟨x.v.t.toArray⟩) := by rw [cell_of_row _ _ _ _ _ _ (heap_ext hx3 HROW.out)]; rfl
      clear q0 q1 q2 q3 q4 hidx HLA hx3 HROW HX1 HJ1 HJs HX
      cases hL : cLarge x with
      | false =>
        rw [hL, if_neg (by decide), List.append_nil] at HT
        clear hL r4
        gi_wp2
        refine ⟨fun _ h => (by cases h), ?_⟩
        gi_wp2
        go_roundw
        case rel => exact ⟨k + 1, HLT.out, by simp, by rw [HT.out]; exact HJ3, HX3⟩
        case measure => simp [intOf]; have := HLT.out; omega
      | true =>
        rw [hL, if_pos rfl] at HT
        clear hL
        obtain ⟨fn, tmps, assign, body, hy, hR⟩ := HY.out _ (k, x.v.t) w3 (by rw [← HT.out]; exact HP.out) HJ3.out HL.out
        unfold encL strV at hy
        dsimp only at hy hR
        gi_wp2
        refine hR.mono ?_
        rintro e W3 (⟨rfl, hJ3, hk3⟩ | ⟨rfl, hJx3⟩)
        · have HJ4 : Hid (J (lgL (cs.take (k + 1))) W3) := Lib.hid (by rw [HT.out]; exact hJ3)
          have HK3 := Lib.hid (HX3.out.trans hk3)
          clear hJ3 hk3 hy hR
          gi_wp2
          go_roundw
          case rel => exact ⟨k + 1, HLT.out, by simp, HJ4, HK3⟩
          case measure => simp [intOf]; have := HLT.out; omega
        · have HJ4 := Lib.hid hJx3
          clear hJx3 hy hR
          gi_wp2
          refine bodyPost_ret (results_none rfl _ _ _) rfl ?_
          exact ⟨⟨_, rfl⟩, .inr ⟨_, by rw [← HT.out]; exact HP.out, HJ4.out⟩⟩
    · obtain rfl : k = m := by omega
      gi_wp2
      go_end0
      exact ⟨⟨_, rfl⟩, .inl ⟨_, rfl, by have := HJs.out; rwa [HM.out, List.take_length] at this⟩⟩
end Go.Proofs.YtegclfpmgilnpaaGreat
namespace Go.Proofs.YtegclfpmgilnpaaGreat
open Go.RowKit Go.Lac Go.Shelf
attribute [local go_sem] Oper.semAt_some
abbrev LgT (cs : List Cel) := {x : Nat × List UInt8 // x ∈ lgL cs}
def encLd {cs : List Cel} (x : LgT cs) : Array Value := encL x.1
theorem large_stops (n : Nat) (hn : 1 ≤ n) (g : Nat) (v : Value) (cs : List Cel) (N : Nat → Prop) (w : World)
    (hg : w.heap[g]? = some (.cells #[v] 36 (0, 0))) (hS : ∀ W', Ch N w W' → PcS W' v cs) (hNb : ∀ k, w.heap.size ≤ k → N k) :
    SeqStopsK Fence.wide n Tryz.prog 68 #[.pointer (some ⟨g, 0, none⟩)] (encLd (cs := cs)) (Ch N) (fun ys => ys.map Subtype.val = lgL cs) (fun pre => pre.map Subtype.val <+: lgL cs) cs.length w := fun l J Jx W hW hJ hJx hY h0 => by
  have hx : Ext w W := Ext.ofBelow hW
  refine (largeWalk n hn l g v cs N (fun pre W => ∃ q : List (LgT cs), q.map Subtype.val = pre ∧ J q W) (fun pre W => ∃ q : List (LgT cs), q.map Subtype.val = pre ∧ Jx q W) W (heap_of_ext hx hg) (fun W' h => hS W' (hx.ch.trans h)) (fun k hk => hNb k (Nat.le_trans hx.size hk)) ?_ ?_ ⟨[], rfl, h0⟩).mono ?_
  · rintro s A B row ⟨q, e, hq⟩ hgr hrow
    exact ⟨q, e, hJ q A B row hq hgr hrow⟩
  · rintro pre x W1 hp ⟨q, e, hq⟩ hl
    have hm : x ∈ lgL cs := hp.subset (by simp)
    have := hY q ⟨x, hm⟩ W1 hq (by rw [← e, List.length_map] at hl; exact hl)
    obtain ⟨fn, tmps, assign, body, hy, hR⟩ := this
    refine ⟨fn, tmps, assign, body, hy, hR.mono ?_⟩
    rintro e' W' (⟨h1, h2, h3⟩ | ⟨h1, h2⟩)
    · exact .inl ⟨h1, ⟨q ++ [⟨x, hm⟩], by simp [e], h2⟩, h3⟩
    · exact .inr ⟨h1, ⟨q ++ [⟨x, hm⟩], by simp [e], h2⟩⟩
  · rintro e' W' ⟨h1, ⟨ys, h2, q, h3, h4⟩ | ⟨pre, h2, q, h3, h4⟩⟩
    · exact ⟨h1, .inl ⟨q, (show q.map Subtype.val = lgL cs by rw [h3, h2]), h4⟩⟩
    · exact ⟨h1, .inr ⟨q, (show q.map Subtype.val <+: lgL cs by rw [h3]; exact h2), h4⟩⟩
theorem large_mk (v : Value) (l : List Cel) (w : World) (h : PcS w v l) :
    Calls Tryz.prog 45 #[v] w fun e w' => ∃ g, e = .returned (.func (.func 68) #[] #[.pointer (some ⟨g, 0, none⟩)]) ∧ Ext w w' ∧ w.heap.size ≤ g ∧ w'.heap[g]? = some (.cells #[v] 36 (0, 0)) := by
  obtain ⟨ao, cap, rfl, _, _⟩ := h.shape
  clear h
  generalize l.length = n at *
  go_enter Tryz.func45, Tryz.ntmps45
  go_wp2
  go_ret
  exact ⟨w.heap.size, rfl, (Ch.refl _ _).alloc _, Nat.le_refl _, heap_alloc_new w _⟩
theorem oneTxL (w : World) (A : ByteArray) : (Instr.buildSlice 66 1 #[(0, .string A)]).run Tryz.prog w = .ok (.slice (some ⟨w.heap.size, 0, none⟩) 1 1) (w.alloc (.cells #[.string A] 9)) := by kernel_rfl
def OwnTx (base : Nat) (w : World) (v : Value) (l : List (List UInt8)) : Prop := w.ownsRow base 9 1 v l.length (l.map strV)
def TextsPost (l : List Cel) (w : World) (e : Ending) (w' : World) : Prop := ∃ v, e = .returned v ∧ Ext w w' ∧ OwnTx w.heap.size w' v (textsL l)
set_option maxRecDepth 100000 in
set_option maxHeartbeats 4000000 in
theorem texts_any (v : Value) (l : List Cel) (w : World) (h : PcS w v l) (hl : l.length ≤ 100000) :
    Calls Tryz.prog 22 #[v] w (TextsPost l w) := by
  obtain ⟨W1, hW1⟩ : ∃ W1, W1 = w.alloc (.cells #[.slice none 0 0] 66) := ⟨_, rfl⟩
  have hx1 : Ext w W1 := by rw [hW1]; exact (Ch.refl _ _).alloc _
  have ga : W1.heap[w.heap.size]? = some (.cells #[.slice none 0 0] 66 (0, 0)) := by rw [hW1]; exact heap_alloc_new w _
  have HMK := Lib.hid (large_mk v l W1 (PcS.ext h hx1))
  have HV := Lib.hid h
  obtain ⟨ao, cap, rfl, _, _⟩ := h.shape
  obtain ⟨ci, chi, chz, chs, chb⟩ := info_parts infoStrR
  have CHI := Lib.hid chi; have CHS := Lib.hid chs; have CHZ := Lib.hid chz; have CHB := Lib.hid chb
  have HX1 := Lib.hid hx1; have HW1 := Lib.hid hW1; have HGA := Lib.hid ga; have HLL := Lib.hid hl
  have HLG : Hid ((lgL l).length ≤ 100000) := Lib.hid (Nat.le_trans (lgL_length l) hl)
  clear h hx1 hW1 ga chi chz chs chb hl
  generalize hn : l.length = n at *
  have HN := Lib.hid hn; clear hn
  refine (callsIn_wide (n := 4)).1 ?_
  refine callsIn_of_wp_marks Tryz.func22 rfl trivial ?_ rfl
  simp only [Tryz.ntmps22, List.size_toArray, List.length_cons, List.length_nil, Nat.reduceAdd, Nat.reduceSub, Array.replicate_succ, Array.replicate_zero, List.push_toArray, List.append_toArray, List.nil_append, List.cons_append]
  gi_wp2_with fail
  refine ⟨trivial, ?_⟩
  rw [← HW1.out]
  refine (callsIn_wide.2 HMK.out).mono ?_
  rintro e w1 ⟨g, rfl, hx4, hgs, hr⟩
  have HXW := Lib.hid (HX1.out.trans hx4)
  have HBX1 : Hid (Boxed w1 w.heap.size 66 (.slice none 0 0)) := Lib.hid (heap_ext hx4 HGA.out)
  have HR := Lib.hid hr
  have HNF : ∀ W : World, (binOp .eql 112 (.func (.func 68) #[] #[.pointer (some ⟨g, 0, none⟩)]) .nilFunc).run Tryz.prog W = .ok (.bool false) W := fun W => by kernel_rfl
  obtain ⟨N, hN⟩ : ∃ N : Nat → Prop, N = fun j => j = w.heap.size ∨ w1.heap.size ≤ j := ⟨_, rfl⟩
  have HNb : Hid (∀ j, w1.heap.size ≤ j → N j) := Lib.hid (by rw [hN]; exact fun j h => .inr h)
  have HNw : Hid (∀ j, N j → w.heap.size ≤ j) := Lib.hid (by rw [hN]; rintro j (h | h); omega; exact Nat.le_trans HXW.out.size h)
  have HNB : Hid (N w.heap.size) := Lib.hid (by rw [hN]; exact .inl rfl)
  have HNo : Hid (∀ k, k < w1.heap.size → N k → k = w.heap.size) := Lib.hid (by rw [hN]; rintro k hk (h | h); exact h; omega)
  have HS : Hid (∀ W', Ch N w1 W' → PcS W' (.slice ao n cap) l) := Lib.hid (fun W' hx => PcS.ext HV.out (((Ext.ch HXW.out).trans hx).mono fun j hj h => by have := HNw.out j h; omega))
  clear hN hr hx4 hgs HMK
  gi_wp2_with fail
  refine with_frameK fun L hL => ?_
  refine wpIn_rangeFunc_ownH rfl (by decide) (gf := 68) (lb := #[.pointer (some ⟨g, 0, none⟩)]) (by rw [hL]; rfl) trivial (enters_of Tryz.func68 (by kernel_rfl) rfl)
    (large_stops (4 - 1) (by decide) g (.slice ao n cap) l N w1 HR.out HS.out HNb.out) (fun h k => h.trans k) (chK_b HNb.out) (Below.refl _ _) (fun _ => rfl)
    (fun (pre : List (LgT l)) W' => Ch N w1 W' ∧ ∃ v', Boxed W' w.heap.size 66 v' ∧ OwnTx w.heap.size W' v' ((pre.map Subtype.val).map Prod.snd) ∧ ∀ j, v'.ownBlock = some j → N j)
    (fun _ _ _ => False) ?hI ?hIx ?h0
    (fun y a' _ => a' = ⟨(((L.set 8 (.int .i64 (y.1.1 : Nat))).set 9 (strV y.1.2)).set 5 (strV y.1.2)).toArray, []⟩) ?hAx ?assign ?body ?done ?stop
  case assign =>
    rintro l' pre y W' K hI hK
    subst hL
    obtain ⟨⟨i, q⟩, hy⟩ := y
    unfold encLd encL
    gi_wp2
    exact hK _ _ (KeepsFrom.refl _ _) (Ch.refl _ _) hI rfl
  case hI =>
    rintro s A B row ⟨h1, v', h2, h3, h4⟩ hg hrow
    exact ⟨h1.grown hg fun k e => .inr (hrow k e).1, v', heap_keptK h2 hg fun r e => (hrow r e).2, own_keptK h3 hg fun r e => (hrow r e).2, h4⟩
  case hIx => exact fun c s A B row h _ _ => h
  case h0 => exact ⟨Ch.refl _ _, _, HBX1.out, World.ownsRow_nil _ _ _ _, fun j h => by simp [Value.ownBlock] at h⟩
  case hAx => exact fun x a' s A B row h _ _ => h
  case body =>
    rintro l' pre y a' W' hl' hlr ⟨hch, v', hbx, hown, hat⟩ rfl hlen
    subst hL
    obtain ⟨⟨i, q⟩, hy⟩ := y
    simp only [List.set_cons_succ, List.set_cons_zero]
    have HLQ : Hid (((pre.map Subtype.val).map Prod.snd).length ≤ 100000) := Lib.hid (by rw [List.length_map, List.length_map]; have := HLL.out; have := HN.out; omega)
    have HE : Hid ((((pre ++ [(⟨(i, q), hy⟩ : LgT l)]).map Subtype.val).map Prod.snd).length = ((pre.map Subtype.val).map Prod.snd).length + 1) := Lib.hid (by simp)
    have HL2 : Hid ((((pre ++ [(⟨(i, q), hy⟩ : LgT l)]).map Subtype.val).map Prod.snd).map strV = ((pre.map Subtype.val).map Prod.snd).map strV ++ [strV q]) := Lib.hid (by simp)
    generalize (pre.map Subtype.val).map Prod.snd = xs0 at *
    have hc := hbx.cell; have hf := hbx.frozen
    have hone := fun w => oneTxL w ⟨q.toArray⟩
    have HOW : Hid (W'.ownsRow w.heap.size 9 1 v' xs0.length (xs0.map strV)) := Lib.hid hown
    have HBX2 := Lib.hid hbx; have HCH := Lib.hid hch; have HAT := Lib.hid hat
    have HSZ : Hid (w.heap.size ≤ W'.heap.size) := Lib.hid (by have := hch.size; have := HXW.out.size; omega)
    clear hown hbx hch hat hlr hlen
    generalize xs0.map strV = xs1 at *
    unfold strV at *
    generalize xs0.length = m0 at *
    gi_wp2_with (gi_at_builtin; go_must (refine wpListIn_append_own_at _ rfl _ _ 66 rfl w.heap.size 9 ci (.string ⟨#[]⟩) 1 16 Tryz.underlying66 CHI.out CHZ.out CHS.out CHB.out rfl (by decide) _ _ _ rfl (HOW.out.alloc _) ⟨W'.heap.size, 0, none⟩ 1 1 [.string ⟨q.toArray⟩] rfl rfl (cell_one_new _ _ _) (by simp [Value.oneCell']) (by have := HLQ.out; unfold maxLen; omega) (by have := HLQ.out; omega) (by have := HSZ.out; simp; omega) ?_))
    intro v2 w3 hown' hgrow hnil hat'
    obtain ⟨g2, cap2, rfl⟩ := ownsRow_succ hown'
    obtain ⟨hv1, hv2, ho2, hks, -⟩ := Boxed.appended HBX2.out (by decide) HOW.out HSZ.out (Nat.le_refl _) hown' hgrow
    have hc1 := hv1.cell; have hf1 := hv1.frozen
    have HV2 := Lib.hid hv2; have HO2 := Lib.hid ho2; have HKS := Lib.hid (hks.from w1.heap.size)
    have HC2 : Hid (Ch N W' (w3.setCell ⟨w.heap.size, 0, none⟩ (.slice (some ⟨g2, 0, none⟩) (m0 + 1) cap2))) := Lib.hid ((((Ch.refl N W').alloc _).grown hgrow fun j hj => .inl (HAT.out j hj)).setCell (p := ⟨w.heap.size, 0, none⟩) (.inl HNB.out) _)
    have HA2 : Hid (∀ j, (Value.slice (some ⟨g2, 0, none⟩) (m0 + 1) cap2).ownBlock = some j → N j) := Lib.hid fun j hj => by
      rcases hat' with h | h
      · exact HAT.out j (by rw [← h]; exact hj)
      · rw [h] at hj
        have h1 := HCH.out.size
        simp only [Option.some.injEq, World.size_alloc] at hj
        exact HNb.out j (by omega)
    clear hown' hgrow hnil hat' hv1 hv2 ho2 hks hc hf hone
    gi_wp2
    refine ⟨HKS.out, HC2.out, HCH.out.trans HC2.out, _, HV2.out, ?_, HA2.out⟩
    have h2 := HL2.out; unfold strV at h2
    unfold OwnTx strV
    rw [HE.out, h2]
    exact HO2.out
  case stop => exact fun D c pre W' hD hSp hIx hK => hIx.elim
  case done =>
    rintro D ys W hD hys ⟨hch, v', hbx, hown, hat⟩ hK
    subst hL
    have e1 : (ys.map Subtype.val).map Prod.snd = textsL l := by rw [hys, textsL_lg]
    rw [e1] at hown
    obtain ⟨vo, vc, rfl⟩ := owns_shape hown
    have hc := hbx.cell
    have hx9 : Ext w (W.putObj D (.deferred none)) := ((Ext.ch HXW.out).trans hch |>.mono fun j hj h => by have := HNw.out j h; omega).grown (grownBy_putObj' W D (.deferred none)) (fun k e => by cases e; exact .inr (by have := HXW.out.size; omega))
    have ho9 : OwnTx w.heap.size (W.putObj D (.deferred none)) (.slice vo (textsL l).length vc) (textsL l) := own_keptK hown (grownBy_putObj' W D (.deferred none)) (fun r e => by cases e; exact ⟨_, hK, rfl⟩)
    have HX9 := Lib.hid hx9; have HO9 := Lib.hid ho9; have HK := Lib.hid hK
    clear hch hbx hown hat hx9 ho9 hK hys e1
    gi_wp2
    refine ⟨by simp, .inl ⟨_, _, rfl, run_takeDeferred HK.out, ?_⟩⟩
    refine ⟨_, results_tmp rfl _ _ _, _, rfl, HX9.out, ?_⟩
    exact HO9.out
end Go.Proofs.YtegclfpmgilnpaaGreat
namespace Go.Proofs.YtegclfpmgilnpaaGreat
open Go.RowKit Go.Lac
abbrev RowS := (List Cel × List Ho) × RS
def rowStep (ver : Nat) (null : Bool) (kind k : Nat) (p : RowS) : RowS :=
  if null = true then ((p.1.1 ++ [.zero], p.1.2), p.2)
  else ((p.1.1 ++ [(cTake ver kind p.2).1.1], p.1.2 ++ (if 0 < (cTake ver kind p.2).1.2 then [⟨(k : Int), ((cTake ver kind p.2).1.2 : Int)⟩] else [])), (cTake ver kind p.2).2)
def colTy (cols : List Col) (k : Nat) : Nat := (cols[k]?.map (·.ty)).getD 0
def rowAt (ver : Nat) (nulls : List Bool) (cols : List Col) (s : RS) : Nat → RowS
  | 0 => (([], []), s)
  | k + 1 => rowStep ver (nulls.getD k false) (colTy cols k) k (rowAt ver nulls cols s k)
def rowPre (ver : Nat) (r : Rl) (s : RS) : RS := if ver = 1 ∨ ver = 2 then failR s (rlErr r : Nat) else failR (failR s (rlErr r : Nat)) 18
def rowTake (ver : Nat) (r : Rl) (s : RS) : RowS :=
  if (rowPre ver r s).2 ≠ 0 then (([], []), rowPre ver r s)
  else if (takeR (sizeN r.cols.length) (rowPre ver r s)).2.2 ≠ 0 then (([], []), (takeR (sizeN r.cols.length) (rowPre ver r s)).2)
  else if unpC (takeR (sizeN r.cols.length) (rowPre ver r s)).1 r.cols.length ≠ 0 then (([], []), failR (takeR (sizeN r.cols.length) (rowPre ver r s)).2 (unpC (takeR (sizeN r.cols.length) (rowPre ver r s)).1 r.cols.length))
  else if (rowAt ver (unpL (takeR (sizeN r.cols.length) (rowPre ver r s)).1 r.cols.length) r.cols (takeR (sizeN r.cols.length) (rowPre ver r s)).2 r.cols.length).2.2 ≠ 0
    then (([], []), (rowAt ver (unpL (takeR (sizeN r.cols.length) (rowPre ver r s)).1 r.cols.length) r.cols (takeR (sizeN r.cols.length) (rowPre ver r s)).2 r.cols.length).2)
  else rowAt ver (unpL (takeR (sizeN r.cols.length) (rowPre ver r s)).1 r.cols.length) r.cols (takeR (sizeN r.cols.length) (rowPre ver r s)).2 r.cols.length
theorem rowStep_null (ver kind k : Nat) (p : RowS) : rowStep ver true kind k p = ((p.1.1 ++ [.zero], p.1.2), p.2) := if_pos rfl
theorem rowStep_full (ver kind k : Nat) (p : RowS) : rowStep ver false kind k p = ((p.1.1 ++ [(cTake ver kind p.2).1.1], p.1.2 ++ (if 0 < (cTake ver kind p.2).1.2 then [⟨(k : Int), ((cTake ver kind p.2).1.2 : Int)⟩] else [])), (cTake ver kind p.2).2) := if_neg (by decide)
theorem rowAt_length (ver : Nat) (nulls : List Bool) (cols : List Col) (s : RS) : ∀ k, (rowAt ver nulls cols s k).1.1.length = k
  | 0 => rfl
  | k + 1 => by
    have ih := rowAt_length ver nulls cols s k
    rw [rowAt]
    cases nulls.getD k false with
    | true => rw [rowStep_null]; simp [ih]
    | false => rw [rowStep_full]; simp [ih]
theorem rowAt_holes (ver : Nat) (nulls : List Bool) (cols : List Col) (s : RS) : ∀ k, (rowAt ver nulls cols s k).1.2.length ≤ k
  | 0 => Nat.le_refl _
  | k + 1 => by
    have ih := rowAt_holes ver nulls cols s k
    rw [rowAt]
    cases nulls.getD k false with
    | true => rw [rowStep_null]; simp only; omega
    | false =>
      rw [rowStep_full]
      simp only [List.length_append]
      split <;> simp <;> omega
theorem colTy_at {cols : List Col} {k : Nat} (h : k < cols.length) : colTy cols k = cols[k].ty := by unfold colTy; rw [List.getElem?_eq_getElem h]; rfl
theorem nullsOf_getD {l : List Cel} {k : Nat} (h : k < l.length) : (nullsOf l).getD k false = decide (l[k].k = 0) := by
  unfold nullsOf
  rw [List.getD_eq_getElem?_getD, List.getElem?_map, List.getElem?_eq_getElem h]; rfl
theorem cOut_null {c : Cel} (h : c.k = 0) (hv : c.v = .zero) : cOut c = .zero ∧ cLarge c = false := by
  obtain ⟨k, v⟩ := c
  simp only at h hv
  subst h hv
  exact ⟨rfl, rfl⟩
theorem encC_drop (ver : Nat) {l : List Cel} {k : Nat} (h : k < l.length) : encC ver (l.drop k) = (if l[k].k = 0 then [] else cBytes ver l[k]) ++ encC ver (l.drop (k + 1)) := by
  unfold encC
  rw [List.drop_eq_getElem_cons h, List.flatMap_cons]
theorem holesL_out (l : List Cel) (k : Nat) (h : k < l.length) : holesL (l.take (k + 1)) = holesL (l.take k) ++ (if 0 < cLen l[k] then [⟨(k : Int), (cLen l[k] : Int)⟩] else []) := by
  rw [holesL_take h]
  congr 1
  unfold cLen
  by_cases hL : cLarge l[k] = true
  · rw [if_pos hL, if_pos hL]
    have h64 : 64 < l[k].v.t.length := by
      unfold cLarge at hL
      simp only [Bool.and_eq_true, decide_eq_true_eq] at hL
      exact hL.2
    rw [if_pos (by omega)]
  · rw [if_neg hL, if_neg hL, if_neg (by omega)]
theorem rowAt_put {ver : Nat} {r : Rl} {l : List Cel} (rest : List UInt8) (hver : ver = 1 ∨ ver = 2) (hok : ∀ c ∈ l, c.ok) (hf : fitsE r l = 0) :
    ∀ k, k ≤ l.length → rowAt ver (nullsOf l) r.cols (encC ver l ++ rest, 0) k = (((l.take k).map cOut, holesL (l.take k)), (encC ver (l.drop k) ++ rest, 0))
  | 0, _ => by simp [rowAt, holesL]
  | k + 1, h => by
    obtain ⟨_, hlen, hcz⟩ := fits_zero hf
    have hk : k < l.length := by omega
    have ih := rowAt_put rest hver hok hf k (by omega)
    have hce := hcz k hk (by omega)
    obtain ⟨e1, e2, e3, e4, e5, e6⟩ := cErr_zero hce
    rw [rowAt, ih, nullsOf_getD hk, colTy_at (show k < r.cols.length by omega), encC_drop ver hk, holesL_out l k hk, List.take_succ_eq_append_getElem hk, List.map_append, List.map_cons, List.map_nil]
    by_cases h0 : l[k].k = 0
    · obtain ⟨o1, o2⟩ := cOut_null h0 (e4 (by omega))
      have o3 : cLen l[k] = 0 := by unfold cLen; rw [o2]; simp
      rw [decide_eq_true h0, rowStep_null, if_pos h0, o1, o3]
      simp
    · rw [decide_eq_false h0, rowStep_full, if_neg h0, List.append_assoc]
      rw [cTake_put _ hver (hok _ (List.getElem_mem hk)) hce h0]
theorem rowPre_ok {ver : Nat} {r : Rl} (s : RS) (hver : ver = 1 ∨ ver = 2) (h : rlErr r = 0) : rowPre ver r s = s := by
  unfold rowPre
  rw [if_pos hver, h]
  exact failR_zero s
theorem fits_len16 {r : Rl} {l : List Cel} (hf : fitsE r l = 0) : l.length ≤ 16 := by
  obtain ⟨h1, h2, _⟩ := fits_zero hf
  have := (rlErr_zero h1).2.2.2.2.2.1
  omega
theorem rowTake_put {ver : Nat} {r : Rl} {l : List Cel} (rest : List UInt8) (hver : ver = 1 ∨ ver = 2) (hok : ∀ c ∈ l, c.ok) (hf : fitsE r l = 0) :
    rowTake ver r (encB ver l ++ rest, 0) = ((l.map cOut, holesL l), (rest, 0)) := by
  obtain ⟨h1, h2, _⟩ := fits_zero hf
  have h16 := fits_len16 hf
  have hn : (nullsOf l).length = r.cols.length := by simp [nullsOf, h2]
  have hsz : (mapB (nullsOf l)).length = sizeN r.cols.length := by rw [mapB_length _ (by omega), hn]
  obtain ⟨u1, u2⟩ := unp_pack (l := nullsOf l) (by omega)
  rw [hn] at u1 u2
  have ht : takeR (sizeN r.cols.length) (encB ver l ++ rest, 0) = (mapB (nullsOf l), (encC ver l ++ rest, 0)) := by
    unfold encB
    rw [List.append_assoc, ← hsz, takeR_app]
  have ha := rowAt_put rest hver hok hf l.length (Nat.le_refl _)
  rw [List.take_length, List.drop_length] at ha
  unfold rowTake
  rw [rowPre_ok _ hver h1, if_neg (by simp), ht]
  simp only
  rw [if_neg (by simp), u1, if_neg (by simp), u2, ← h2, ha]
  simp [encC]
theorem holes_texts (l : List Cel) : ∀ k, k ≤ l.length → (holesL (l.take k)).length = (textsL (l.take k)).length
  | 0, _ => by simp [holesL, textsL]
  | k + 1, h => by
    have ih := holes_texts l k (by omega)
    have hk : k < l.length := by omega
    rw [holesL_take hk, textsL_take hk, List.length_append, List.length_append, ih]
    split <;> rfl
theorem cOut_large {c : Cel} {kind : Nat} (h : cErr c kind = 0) (hL : cLarge c = true) : (⟨(cOut c).k, { (cOut c).v with t := c.v.t }⟩ : Cel) = c := by
  obtain ⟨_, _, _, _, _, e6⟩ := cErr_zero h
  unfold cOut
  rw [if_pos hL]
  unfold cLarge at hL
  simp only [Bool.and_eq_true, decide_eq_true_eq] at hL
  obtain ⟨⟨h2, ht⟩, _⟩ := hL
  obtain ⟨hv, _⟩ := textual (e6 h2).1 ht
  obtain ⟨k, v⟩ := c
  simp only at h2 hv
  subst h2
  unfold bigC
  simp only
  rw [← hv]
theorem cOut_small {c : Cel} (hL : cLarge c = false) : cOut c = c := by unfold cOut; rw [hL]; simp
theorem fill_at {r : Rl} {l : List Cel} (hf : fitsE r l = 0) : ∀ k, k ≤ l.length → fillZ (l.map cOut) ((holesL (l.take k)).zip (textsL (l.take k))) = l.take k ++ (l.drop k).map cOut
  | 0, _ => by simp [holesL, textsL, fillZ]
  | k + 1, h => by
    obtain ⟨_, hlen, hcz⟩ := fits_zero hf
    have hk : k < l.length := by omega
    have ih := fill_at hf k (by omega)
    have hlt := holes_texts l k (by omega)
    rw [holesL_take hk, textsL_take hk, List.take_succ_eq_append_getElem hk]
    cases hL : cLarge l[k] with
    | false =>
      rw [if_neg (by decide), if_neg (by decide), List.append_nil, List.append_nil, ih, List.drop_eq_getElem_cons hk, List.map_cons, cOut_small hL, List.append_assoc]
      rfl
    | true =>
      rw [if_pos rfl, if_pos rfl, List.zip_append hlt, List.zip_cons_cons, List.zip_nil_right, fillZ_snoc, ih]
      have hb : k < (l.take k ++ (l.drop k).map cOut).length := by simp; omega
      rw [fillOne_at rfl hb]
      have hg : (l.take k ++ (l.drop k).map cOut)[k] = cOut l[k] := by
        rw [List.getElem_append_right (by simp; omega)]
        simp [List.length_take, Nat.min_eq_left (Nat.le_of_lt hk)]
      rw [hg, cOut_large (hcz k hk (by omega)) hL, List.drop_eq_getElem_cons hk, List.map_cons]
      rw [List.set_append_right _ _ (by simp; omega)]
      simp only [List.length_take, Nat.min_eq_left (Nat.le_of_lt hk), Nat.sub_self, List.set_cons_zero, List.append_assoc, List.cons_append, List.nil_append]
theorem holesL_mem : ∀ (l : List Cel) (k : Nat), k ≤ l.length → ∀ h ∈ holesL (l.take k), badC l.length h = false
  | l, 0, _, h, hm => by simp [holesL] at hm
  | l, k + 1, hk, h, hm => by
    have hk' : k < l.length := by omega
    rw [holesL_take hk'] at hm
    rcases List.mem_append.1 hm with hm | hm
    · exact holesL_mem l k (by omega) h hm
    · split at hm
      · simp only [List.mem_cons, List.not_mem_nil, or_false] at hm
        subst hm
        unfold badC
        simp only [decide_eq_false_iff_not]
        omega
      · cases hm
theorem zip_bad (l : List Cel) : ∀ k, k ≤ l.length → ∀ p ∈ (holesL (l.take k)).zip (textsL (l.take k)), badS p = false
  | 0, _, p, hm => by simp [holesL] at hm
  | k + 1, h, p, hm => by
    have hk : k < l.length := by omega
    have hlt := holes_texts l k (by omega)
    rw [holesL_take hk, textsL_take hk] at hm
    split at hm
    · rw [List.zip_append hlt, List.zip_cons_cons, List.zip_nil_right] at hm
      rcases List.mem_append.1 hm with hm | hm
      · exact zip_bad l k (by omega) p hm
      · simp only [List.mem_cons, List.not_mem_nil, or_false] at hm
        subst hm
        unfold badS
        simp
    · rw [List.append_nil, List.append_nil] at hm
      exact zip_bad l k (by omega) p hm
theorem fill_back {r : Rl} {l : List Cel} (hf : fitsE r l = 0) : fillE (l.map cOut) (holesL l) (textsL l) = 0 ∧ fillR (l.map cOut) (holesL l) (textsL l) = l := by
  have h1 := holes_texts l l.length (Nat.le_refl _)
  have h2 := holesL_mem l l.length (Nat.le_refl _)
  have h3 := zip_bad l l.length (Nat.le_refl _)
  have h4 := fill_at hf l.length (Nat.le_refl _)
  rw [List.take_length] at h1 h2 h3 h4
  have hE : fillE (l.map cOut) (holesL l) (textsL l) = 0 := by
    unfold fillE
    rw [if_neg (by omega), List.length_map, if_neg, if_neg]
    · intro h
      obtain ⟨p, hp, hb⟩ := List.any_eq_true.1 h
      rw [h3 p hp] at hb; cases hb
    · intro h
      obtain ⟨p, hp, hb⟩ := List.any_eq_true.1 h
      rw [h2 p hp] at hb; cases hb
  refine ⟨hE, ?_⟩
  unfold fillR
  rw [if_pos hE, h4]
  simp
end Go.Proofs.YtegclfpmgilnpaaGreat
namespace Go.Proofs.YtegclfpmgilnpaaGreat
open Go.RowKit Go.Lac
theorem fillOne_app {l m : List Cel} {p : Ho × List UInt8} (h : p.1.c.toNat < l.length) : fillOne (l ++ m) p = fillOne l p ++ m := by
  unfold fillOne
  rw [List.getElem?_append_left h, List.getElem?_eq_getElem h]
  simp only
  rw [List.set_append_left _ _ h]
theorem fillZ_app {m : List Cel} : ∀ (z : List (Ho × List UInt8)) (l : List Cel), (∀ p ∈ z, p.1.c.toNat < l.length) → fillZ (l ++ m) z = fillZ l z ++ m
  | [], _, _ => rfl
  | p :: z, l, h => by
    unfold fillZ
    rw [List.foldl_cons, List.foldl_cons, fillOne_app (h p (by simp))]
    exact fillZ_app z (fillOne l p) fun q hq => by rw [fillOne_length]; exact h q (List.mem_cons_of_mem _ hq)
def asOf (hs : List Ho) : List (List UInt8) := hs.map fun h => List.replicate h.s.toNat 97
theorem asOf_append (a b : List Ho) : asOf (a ++ b) = asOf a ++ asOf b := by simp [asOf]
theorem asOf_length (a : List Ho) : (asOf a).length = a.length := by simp [asOf]
theorem cRaw_big {ver kind : Nat} {s : RS} (h : 0 < (cRaw ver kind s).1.2) : (cRaw ver kind s).1.1 = bigC kind := by
  unfold cRaw at h ⊢
  split at h
  · rename_i h1
    rw [if_pos h1]
    unfold partedR at h ⊢
    split at h
    · cases h
    · rename_i h2
      rw [if_neg h2]
      split at h
      · rename_i h3; rw [if_pos h3]
      · split at h <;> cases h
  · rename_i h1
    rw [if_neg h1]
    split at h
    · rename_i h2
      rw [if_pos h2]
      unfold joinedR at h ⊢
      split at h
      · cases h
      · rename_i h3
        rw [if_neg h3]
        split at h
        · rename_i h4; rw [if_pos h4]
        · cases h
    · cases h
theorem cTake_big {ver kind : Nat} {s : RS} (h : 0 < (cTake ver kind s).1.2) : (cTake ver kind s).1.1.v.t = [] := by
  unfold cTake at h ⊢
  split at h
  · cases h
  · rename_i h1
    rw [if_neg h1, cRaw_big h]
    rfl
def RowInv (ver : Nat) (nulls : List Bool) (cols : List Col) (s : RS) (k : Nat) (p : RowS) : Prop :=
  ∃ F : List Cel, F.length = k ∧ s.2 = 0 ∧ (∀ c ∈ F, c.ok) ∧ (∀ (j : Nat) (hj : j < F.length), cErr F[j] (colTy cols j) = 0) ∧ (∀ (j : Nat) (hj : j < F.length), decide (F[j].k = 0) = nulls.getD j false) ∧
    s.1 = encC ver F ++ p.2.1 ∧ fillZ p.1.1 (p.1.2.zip (asOf p.1.2)) = F ∧ (∀ h ∈ p.1.2, 0 ≤ h.c ∧ h.c.toNat < k ∧ 0 ≤ h.s) ∧ (∀ h ∈ p.1.2, h.s ≤ 2048)
theorem cErr_null {kind : Nat} (h1 : 1 ≤ kind) (h6 : kind ≤ 6) : cErr .zero kind = 0 := by
  unfold cErr Cel.zero
  rw [if_neg (by omega), if_neg (by simp), if_pos (by simp), if_neg (by simp), if_neg (by simp)]
theorem okZero : Cel.ok .zero := by unfold Cel.ok Val.ok Cel.zero Val.zero; simp
theorem rowAt_inv {ver : Nat} {nulls : List Bool} {cols : List Col} {s : RS} (hty : ∀ c ∈ cols, 1 ≤ c.ty ∧ c.ty ≤ 6) :
    ∀ k, k ≤ cols.length → s.2 = 0 → (rowAt ver nulls cols s k).2.2 = 0 → RowInv ver nulls cols s k (rowAt ver nulls cols s k)
  | 0, _, h0, _ => ⟨[], rfl, h0, by simp, by simp, by simp, by simp [rowAt, encC], by simp [rowAt, asOf, fillZ], by simp [rowAt], by simp [rowAt]⟩
  | k + 1, hk, h0, h => by
    have hk' : k < cols.length := by omega
    obtain ⟨t1, t6⟩ := hty _ (List.getElem_mem hk')
    have hct := colTy_at hk'
    rw [rowAt] at h ⊢
    have hpl := rowAt_length ver nulls cols s k
    cases hnl : nulls.getD k false with
    | true =>
      rw [hnl, rowStep_null] at h
      rw [rowStep_null]
      obtain ⟨F, f1, f2, f3, f4, f5, f6, f7, f8, f9⟩ := rowAt_inv hty k (by omega) h0 h
      generalize rowAt ver nulls cols s k = p at *
      refine ⟨F ++ [.zero], by simp [f1], f2, ?_, ?_, ?_, ?_, ?_, fun h hm => ⟨(f8 h hm).1, by have := (f8 h hm).2.1; omega, (f8 h hm).2.2⟩, f9⟩
      · intro c hc
        rcases List.mem_append.1 hc with hc | hc
        · exact f3 c hc
        · simp only [List.mem_cons, List.not_mem_nil, or_false] at hc
          subst hc; exact okZero
      · intro j hj
        by_cases hjk : j < F.length
        · rw [List.getElem_append_left hjk]; exact f4 j hjk
        · have : j = k := by simp at hj; omega
          subst this
          rw [List.getElem_append_right (by omega)]
          simp only [f1, Nat.sub_self, List.getElem_cons_zero]
          rw [hct]; exact cErr_null t1 t6
      · intro j hj
        by_cases hjk : j < F.length
        · rw [List.getElem_append_left hjk]; exact f5 j hjk
        · have : j = k := by simp at hj; omega
          subst this
          rw [List.getElem_append_right (by omega), hnl]
          simp [f1, Cel.zero]
      · rw [encC_snoc]
        simp only [Cel.zero, if_true, List.append_nil]
        exact f6
      · simp only
        rw [fillZ_app _ _ (fun q hq => by
          have := (List.of_mem_zip hq).1
          have := (f8 _ this).2.1
          omega), f7]
    | false =>
      rw [hnl, rowStep_full] at h
      rw [rowStep_full]
      simp only at h
      obtain ⟨i1, i2, i3, i4, i5, i6, i7⟩ := cTake_inv (by rw [hct]; omega) h
      obtain ⟨F, f1, f2, f3, f4, f5, f6, f7, f8, f9⟩ := rowAt_inv hty k (by omega) h0 i2
      have hbig := @cTake_big ver (colTy cols k) (rowAt ver nulls cols s k).2
      generalize rowAt ver nulls cols s k = p at *
      generalize hct' : cTake ver (colTy cols k) p.2 = t at *
      obtain ⟨⟨c, size⟩, s'⟩ := t
      simp only at *
      have hz : fillZ (p.1.1 ++ [c]) (p.1.2.zip (asOf p.1.2)) = F ++ [c] := by
        rw [fillZ_app _ _ (fun q hq => by
          have := (List.of_mem_zip hq).1
          have := (f8 _ this).2.1
          omega), f7]
      refine ⟨F ++ [fillC c size], by simp [f1], f2, ?_, ?_, ?_, ?_, ?_, ?_, ?_⟩
      · intro x hc
        rcases List.mem_append.1 hc with hc | hc
        · exact f3 x hc
        · simp only [List.mem_cons, List.not_mem_nil, or_false] at hc
          subst hc; exact i5
      · intro j hj
        by_cases hjk : j < F.length
        · rw [List.getElem_append_left hjk]; exact f4 j hjk
        · have : j = k := by simp at hj; omega
          subst this
          rw [List.getElem_append_right (by omega)]
          simp only [f1, Nat.sub_self, List.getElem_cons_zero]
          exact i3
      · intro j hj
        by_cases hjk : j < F.length
        · rw [List.getElem_append_left hjk]; exact f5 j hjk
        · have : j = k := by simp at hj; omega
          subst this
          rw [List.getElem_append_right (by omega), hnl]
          simp only [f1, Nat.sub_self, List.getElem_cons_zero]
          exact decide_eq_false i4
      · rw [encC_snoc, if_neg i4, List.append_assoc, ← i6]
        exact f6
      · by_cases hs : 0 < size
        · rw [if_pos hs, asOf_append, List.zip_append (by rw [asOf_length])]
          show fillZ (p.1.1 ++ [c]) (p.1.2.zip (asOf p.1.2) ++ [((⟨(k : Int), (size : Int)⟩ : Ho), List.replicate (size : Int).toNat 97)]) = _
          have hb : k < (F ++ [c]).length := by simp; omega
          rw [fillZ_snoc, hz, fillOne_at rfl hb]
          have hg : (F ++ [c])[k] = c := by rw [List.getElem_append_right (by omega)]; simp [f1]
          rw [hg, List.set_append_right _ _ (by omega), f1, Nat.sub_self]
          unfold fillC
          rw [hbig hs]
          simp
        · have : size = 0 := by omega
          subst this
          rw [if_neg (by omega), List.append_nil, hz, fillC_zero]
      · intro x hm
        rcases List.mem_append.1 hm with hm | hm
        · exact ⟨(f8 x hm).1, by have := (f8 x hm).2.1; omega, (f8 x hm).2.2⟩
        · split at hm
          · simp only [List.mem_cons, List.not_mem_nil, or_false] at hm
            subst hm
            exact ⟨by simp, by simp, by simp⟩
          · cases hm
      · intro x hm
        rcases List.mem_append.1 hm with hm | hm
        · exact f9 x hm
        · split at hm
          · simp only [List.mem_cons, List.not_mem_nil, or_false] at hm
            subst hm
            simp only
            omega
          · cases hm
theorem rowPre_inv {ver : Nat} {r : Rl} {s : RS} (h : (rowPre ver r s).2 = 0) : (ver = 1 ∨ ver = 2) ∧ rlErr r = 0 ∧ rowPre ver r s = s := by
  unfold rowPre at h ⊢
  split at h
  · rename_i hv
    obtain ⟨_, h2, h3⟩ := failR_inv h
    rw [if_pos hv]
    exact ⟨hv, by omega, h3⟩
  · obtain ⟨_, h2, _⟩ := failR_inv h
    cases h2
theorem rowTake_inv {ver : Nat} {r : Rl} {bs : List UInt8} {e : Int} {z : List Cel} {hs : List Ho} (h : rowTake ver r (bs, 0) = ((z, hs), ([], e))) (he : e = 0) :
    (ver = 1 ∨ ver = 2) ∧ rlErr r = 0 ∧ fillE z hs (asOf hs) = 0 ∧ fitsE r (fillR z hs (asOf hs)) = 0 ∧ (∀ c ∈ fillR z hs (asOf hs), c.ok) ∧ encB ver (fillR z hs (asOf hs)) = bs ∧ z.length = r.cols.length ∧ hs.length ≤ 16 ∧ ∀ x ∈ hs, 0 ≤ x.s ∧ x.s ≤ 2048 := by
  subst he
  unfold rowTake at h
  split at h
  · rename_i h1
    obtain ⟨_, h2⟩ := Prod.mk.inj h
    rw [h2] at h1; exact absurd rfl h1
  · rename_i h1
    obtain ⟨hv, hr, hp⟩ := rowPre_inv (Decidable.not_not.1 h1)
    rw [hp] at h
    have hz := rlErr_zero hr
    have hty : ∀ c ∈ r.cols, 1 ≤ c.ty ∧ c.ty ≤ 6 := fun c hc => (colsErr_zero _ _ hz.2.2.2.2.2.2.1 c hc).2
    split at h
    · rename_i h2
      obtain ⟨_, h3⟩ := Prod.mk.inj h
      rw [h3] at h2; exact absurd rfl h2
    · rename_i h2
      obtain ⟨t1, t2, _⟩ := takeR_inv _ _ (Decidable.not_not.1 h2)
      generalize takeR (sizeN r.cols.length) (bs, 0) = t at *
      obtain ⟨tb, ts⟩ := t
      simp only at *
      split at h
      · rename_i h3
        obtain ⟨_, h4⟩ := Prod.mk.inj h
        have : (failR ts (unpC tb r.cols.length)).2 = 0 := by rw [h4]
        exact absurd (failR_inv this).2.1 h3
      · rename_i h3
        have h3' : unpC tb r.cols.length = 0 := Decidable.not_not.1 h3
        split at h
        · rename_i h4
          obtain ⟨_, h5⟩ := Prod.mk.inj h
          rw [h5] at h4; exact absurd rfl h4
        · rename_i h4
          have ts2 : ts.2 = 0 := Decidable.not_not.1 h2
          have hinv := rowAt_inv (ver := ver) (nulls := unpL tb r.cols.length) (s := ts) hty r.cols.length (Nat.le_refl _) ts2 (Decidable.not_not.1 h4)
          have hl1 := rowAt_length ver (unpL tb r.cols.length) r.cols ts r.cols.length
          have hl2 := rowAt_holes ver (unpL tb r.cols.length) r.cols ts r.cols.length
          rw [h] at hinv hl1 hl2
          obtain ⟨F, f1, f2, f3, f4, f5, f6, f7, f8, f9⟩ := hinv
          simp only at f6 f7 f8 f9 hl1 hl2
          have hE : fillE z hs (asOf hs) = 0 := by
            unfold fillE
            rw [if_neg (by rw [asOf_length]; omega), if_neg, if_neg]
            · intro hh
              obtain ⟨p, hp, hb⟩ := List.any_eq_true.1 hh
              unfold asOf at hp
              rw [List.zip_map_right] at hp
              obtain ⟨q, hq, rfl⟩ := List.mem_map.1 hp
              have hq1 := List.of_mem_zip hq
              have hqq : q.1 = q.2 := by
                have : ∀ (l : List Ho) (q : Ho × Ho), q ∈ l.zip l → q.1 = q.2 := by
                  intro l
                  induction l with
                  | nil => intro q h; cases h
                  | cons a l ih =>
                    intro q h
                    rw [List.zip_cons_cons] at h
                    rcases List.mem_cons.1 h with rfl | h
                    · rfl
                    · exact ih q h
                exact this hs q hq
              have := (f8 _ hq1.2).2.2
              unfold badS at hb
              simp only [Prod.map, id_eq, List.length_replicate, decide_eq_true_eq, hqq] at hb
              omega
            · intro hh
              obtain ⟨p, hp, hb⟩ := List.any_eq_true.1 hh
              have := f8 _ hp
              unfold badC at hb
              simp only [decide_eq_true_eq] at hb
              omega
          have hR : fillR z hs (asOf hs) = F := by unfold fillR; rw [if_pos hE, f7]
          have hnul : nullsOf F = unpL tb r.cols.length := by
            have hul : (unpL tb (r.cols.length : Int)).length = r.cols.length := by
              unfold unpL; rw [if_pos h3', bitsL_length, Int.toNat_natCast]
            apply List.ext_getElem
            · rw [hul]; simp [nullsOf, f1]
            · intro j h1 h2
              have hj : j < F.length := by simpa [nullsOf] using h1
              have := f5 j hj
              rw [List.getD_eq_getElem?_getD, List.getElem?_eq_getElem h2] at this
              simp only [Option.getD_some] at this
              rw [← this]
              simp [nullsOf]
          obtain ⟨pk, _⟩ := pack_unp h3'
          refine ⟨hv, hr, hE, ?_, by rw [hR]; exact f3, ?_, hl1, by have := hz.2.2.2.2.2.1; omega, fun x hx => ⟨(f8 x hx).2.2, f9 x hx⟩⟩
          · rw [hR]
            unfold fitsE
            rw [if_neg (fun hn => hn hr), if_neg (fun hn => hn f1)]
            rw [firstN_eq]
            intro j hj
            rw [two_at fitC hj (by omega)]
            have := f4 j hj
            rw [colTy_at (by omega)] at this
            exact this
          · rw [hR]
            unfold encB
            rw [hnul]
            have hul : (unpL tb (r.cols.length : Int)).length ≤ 16 := by
              unfold unpL; rw [if_pos h3', bitsL_length, Int.toNat_natCast]; exact hz.2.2.2.2.2.1
            unfold packL at pk
            rw [if_pos hul] at pk
            rw [pk, t1, f6, List.append_nil]
end Go.Proofs.YtegclfpmgilnpaaGreat
