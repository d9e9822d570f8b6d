/-
  Rows: the program's Texts and Holes: ranges over the walk through the large cells.
-/
import Derived.Test.YtegclfpmgilnpaaRowI
import Derived.Test.YtegclfpmgilnpaaRowD
import Derived.Laws.OwnMore
import Derived.Maps.AppendAt
import Derived.Maps.OwnIn
namespace Go.Proofs.Ytegclfpmgilnpaa
open Go.RowKit Go.Lac Go.Shelf
attribute [local go_sem] Oper.semAt_some

abbrev LgT (cs : List Cel) := {x : Nat × List UInt8 // x ∈ lgL cs}
def encLd {cs : List Cel} (x : LgT cs) : Array Value := encL x.1
theorem large_stops (n : Nat) (hn : 1 ≤ n) (g : Nat) (v : Value) (cs : List Cel) (N : Nat → Prop) (w : World)
    (hg : w.heap[g]? = some (.cells #[v] 74 (0, 0))) (hS : ∀ W', Ch N w W' → PcS W' v cs) (hNb : ∀ k, w.heap.size ≤ k → N k) :
    SeqStopsK Fence.wide n Try.prog 98 #[.pointer (some ⟨g, 0, none⟩)] (encLd (cs := cs)) (Ch N) (fun ys => ys.map Subtype.val = lgL cs) (fun pre => pre.map Subtype.val <+: lgL cs) cs.length w := fun l J Jx W hW hJ hJx hY h0 => by
  have hx : Ext w W := Ext.ofBelow hW
  refine (largeWalk n hn l g v cs N (fun pre W => ∃ q : List (LgT cs), q.map Subtype.val = pre ∧ J q W) (fun pre W => ∃ q : List (LgT cs), q.map Subtype.val = pre ∧ Jx q W) W (heap_of_ext hx hg) (fun W' h => hS W' (hx.ch.trans h)) (fun k hk => hNb k (Nat.le_trans hx.size hk)) ?_ ?_ ⟨[], rfl, h0⟩).mono ?_
  · rintro s A B row ⟨q, e, hq⟩ hgr hrow
    exact ⟨q, e, hJ q A B row hq hgr hrow⟩
  · rintro pre x W1 hp ⟨q, e, hq⟩ hl
    have hm : x ∈ lgL cs := hp.subset (by simp)
    have := hY q ⟨x, hm⟩ W1 hq (by rw [← e, List.length_map] at hl; exact hl)
    obtain ⟨fn, tmps, assign, body, hy, hR⟩ := this
    refine ⟨fn, tmps, assign, body, hy, hR.mono ?_⟩
    rintro e' W' (⟨h1, h2, h3⟩ | ⟨h1, h2⟩)
    · exact .inl ⟨h1, ⟨q ++ [⟨x, hm⟩], by simp [e], h2⟩, h3⟩
    · exact .inr ⟨h1, ⟨q ++ [⟨x, hm⟩], by simp [e], h2⟩⟩
  · rintro e' W' ⟨h1, ⟨ys, h2, q, h3, h4⟩ | ⟨pre, h2, q, h3, h4⟩⟩
    · exact ⟨h1, .inl ⟨q, (show q.map Subtype.val = lgL cs by rw [h3, h2]), h4⟩⟩
    · exact ⟨h1, .inr ⟨q, (show q.map Subtype.val <+: lgL cs by rw [h3]; exact h2), h4⟩⟩
theorem large_mk (v : Value) (l : List Cel) (w : World) (h : PcS w v l) :
    Calls Try.prog 67 #[v] w fun e w' => ∃ g, e = .returned (.func (.func 98) #[] #[.pointer (some ⟨g, 0, none⟩)]) ∧ Ext w w' ∧ w.heap.size ≤ g ∧ w'.heap[g]? = some (.cells #[v] 74 (0, 0)) := by
  obtain ⟨ao, cap, rfl, _, _⟩ := h.shape
  clear h
  generalize l.length = n at *
  go_enter Try.func67, Try.ntmps67
  go_wp2
  go_ret
  exact ⟨w.heap.size, rfl, (Ch.refl _ _).alloc _, Nat.le_refl _, heap_alloc_new w _⟩
theorem oneTxL (w : World) (A : ByteArray) : (Instr.buildSlice 82 1 #[(0, .string A)]).run Try.prog w = .ok (.slice (some ⟨w.heap.size, 0, none⟩) 1 1) (w.alloc (.cells #[.string A] 9)) := by kernel_rfl
def OwnTx (base : Nat) (w : World) (v : Value) (l : List (List UInt8)) : Prop := w.ownsRow base 9 1 v l.length (l.map strV)
def TextsPost (l : List Cel) (w : World) (e : Ending) (w' : World) : Prop := ∃ v, e = .returned v ∧ Ext w w' ∧ OwnTx w.heap.size w' v (textsL l)
set_option maxRecDepth 100000 in
set_option maxHeartbeats 4000000 in
theorem texts_any (v : Value) (l : List Cel) (w : World) (h : PcS w v l) (hl : l.length ≤ 100000) :
    Calls Try.prog 36 #[v] w (TextsPost l w) := by
  obtain ⟨W1, hW1⟩ : ∃ W1, W1 = w.alloc (.cells #[.slice none 0 0] 82) := ⟨_, rfl⟩
  have hx1 : Ext w W1 := by rw [hW1]; exact (Ch.refl _ _).alloc _
  have ga : W1.heap[w.heap.size]? = some (.cells #[.slice none 0 0] 82 (0, 0)) := by rw [hW1]; exact heap_alloc_new w _
  have HMK := Lib.hid (large_mk v l W1 (PcS.ext h hx1))
  have HV := Lib.hid h
  obtain ⟨ao, cap, rfl, _, _⟩ := h.shape
  obtain ⟨ci, chi, chz, chs, chb⟩ := info_parts infoStrR
  have CHI := Lib.hid chi; have CHS := Lib.hid chs; have CHZ := Lib.hid chz; have CHB := Lib.hid chb
  have HX1 := Lib.hid hx1; have HW1 := Lib.hid hW1; have HGA := Lib.hid ga; have HLL := Lib.hid hl
  have HLG : Hid ((lgL l).length ≤ 100000) := Lib.hid (Nat.le_trans (lgL_length l) hl)
  clear h hx1 hW1 ga chi chz chs chb hl
  generalize hn : l.length = n at *
  have HN := Lib.hid hn; clear hn
  refine (callsIn_wide (n := 4)).1 ?_
  refine callsIn_of_wp_marks Try.func36 rfl trivial ?_ rfl
  simp only [Try.ntmps36, List.size_toArray, List.length_cons, List.length_nil, Nat.reduceAdd, Nat.reduceSub, Array.replicate_succ, Array.replicate_zero, List.push_toArray, List.append_toArray, List.nil_append, List.cons_append]
  gi_wp2_with fail
  refine ⟨trivial, ?_⟩
  rw [← HW1.out]
  refine (callsIn_wide.2 HMK.out).mono ?_
  rintro e w1 ⟨g, rfl, hx4, hgs, hr⟩
  have HXW := Lib.hid (HX1.out.trans hx4)
  have HBX1 : Hid (Boxed w1 w.heap.size 82 (.slice none 0 0)) := Lib.hid (heap_ext hx4 HGA.out)
  have HR := Lib.hid hr
  have HNF : ∀ W : World, (binOp .eql 140 (.func (.func 98) #[] #[.pointer (some ⟨g, 0, none⟩)]) .nilFunc).run Try.prog W = .ok (.bool false) W := fun W => by kernel_rfl
  obtain ⟨N, hN⟩ : ∃ N : Nat → Prop, N = fun j => j = w.heap.size ∨ w1.heap.size ≤ j := ⟨_, rfl⟩
  have HNb : Hid (∀ j, w1.heap.size ≤ j → N j) := Lib.hid (by rw [hN]; exact fun j h => .inr h)
  have HNw : Hid (∀ j, N j → w.heap.size ≤ j) := Lib.hid (by rw [hN]; rintro j (h | h); omega; exact Nat.le_trans HXW.out.size h)
  have HNB : Hid (N w.heap.size) := Lib.hid (by rw [hN]; exact .inl rfl)
  have HNo : Hid (∀ k, k < w1.heap.size → N k → k = w.heap.size) := Lib.hid (by rw [hN]; rintro k hk (h | h); exact h; omega)
  have HS : Hid (∀ W', Ch N w1 W' → PcS W' (.slice ao n cap) l) := Lib.hid (fun W' hx => PcS.ext HV.out (((Ext.ch HXW.out).trans hx).mono fun j hj h => by have := HNw.out j h; omega))
  clear hN hr hx4 hgs HMK
  gi_wp2_with fail
  refine with_frameK fun L hL => ?_
  refine wpIn_rangeFunc_ownH rfl (by decide) (gf := 98) (lb := #[.pointer (some ⟨g, 0, none⟩)]) (by rw [hL]; rfl) trivial (enters_of Try.func98 (by kernel_rfl) rfl)
    (large_stops (4 - 1) (by decide) g (.slice ao n cap) l N w1 HR.out HS.out HNb.out) (fun h k => h.trans k) (chK_b HNb.out) (Below.refl _ _) (fun _ => rfl)
    (fun (pre : List (LgT l)) W' => Ch N w1 W' ∧ ∃ v', Boxed W' w.heap.size 82 v' ∧ OwnTx w.heap.size W' v' ((pre.map Subtype.val).map Prod.snd) ∧ ∀ j, v'.ownBlock = some j → N j)
    (fun _ _ _ => False) ?hI ?hIx ?h0
    (fun y a' _ => a' = ⟨(((L.set 8 (.int .i64 (y.1.1 : Nat))).set 9 (strV y.1.2)).set 5 (strV y.1.2)).toArray, []⟩) ?hAx ?assign ?body ?done ?stop
  case assign =>
    rintro l' pre y W' K hI hK
    subst hL
    obtain ⟨⟨i, q⟩, hy⟩ := y
    unfold encLd encL
    gi_wp2
    exact hK _ _ (KeepsFrom.refl _ _) (Ch.refl _ _) hI rfl
  case hI =>
    rintro s A B row ⟨h1, v', h2, h3, h4⟩ hg hrow
    exact ⟨h1.grown hg fun k e => .inr (hrow k e).1, v', heap_keptK h2 hg fun r e => (hrow r e).2, own_keptK h3 hg fun r e => (hrow r e).2, h4⟩
  case hIx => exact fun c s A B row h _ _ => h
  case h0 => exact ⟨Ch.refl _ _, _, HBX1.out, World.ownsRow_nil _ _ _ _, fun j h => by simp [Value.ownBlock] at h⟩
  case hAx => exact fun x a' s A B row h _ _ => h
  case body =>
    rintro l' pre y a' W' hl' hlr ⟨hch, v', hbx, hown, hat⟩ rfl hlen
    subst hL
    obtain ⟨⟨i, q⟩, hy⟩ := y
    simp only [List.set_cons_succ, List.set_cons_zero]
    have HLQ : Hid (((pre.map Subtype.val).map Prod.snd).length ≤ 100000) := Lib.hid (by rw [List.length_map, List.length_map]; have := HLL.out; have := HN.out; omega)
    have HE : Hid ((((pre ++ [(⟨(i, q), hy⟩ : LgT l)]).map Subtype.val).map Prod.snd).length = ((pre.map Subtype.val).map Prod.snd).length + 1) := Lib.hid (by simp)
    have HL2 : Hid ((((pre ++ [(⟨(i, q), hy⟩ : LgT l)]).map Subtype.val).map Prod.snd).map strV = ((pre.map Subtype.val).map Prod.snd).map strV ++ [strV q]) := Lib.hid (by simp)
    generalize (pre.map Subtype.val).map Prod.snd = xs0 at *
    have hc := hbx.cell; have hf := hbx.frozen
    have hone := fun w => oneTxL w ⟨q.toArray⟩
    have HOW : Hid (W'.ownsRow w.heap.size 9 1 v' xs0.length (xs0.map strV)) := Lib.hid hown
    have HBX2 := Lib.hid hbx; have HCH := Lib.hid hch; have HAT := Lib.hid hat
    have HSZ : Hid (w.heap.size ≤ W'.heap.size) := Lib.hid (by have := hch.size; have := HXW.out.size; omega)
    clear hown hbx hch hat hlr hlen
    generalize xs0.map strV = xs1 at *
    unfold strV at *
    generalize xs0.length = m0 at *
    gi_wp2_with (gi_at_builtin; go_must (refine wpListIn_append_own_at _ rfl _ _ 82 rfl w.heap.size 9 ci (.string ⟨#[]⟩) 1 16 Try.underlying82 CHI.out CHZ.out CHS.out CHB.out rfl (by decide) _ _ _ rfl (HOW.out.alloc _) ⟨W'.heap.size, 0, none⟩ 1 1 [.string ⟨q.toArray⟩] rfl rfl (cell_one_new _ _ _) (by simp [Value.oneCell']) (by have := HLQ.out; unfold maxLen; omega) (by have := HLQ.out; omega) (by have := HSZ.out; simp; omega) ?_))
    intro v2 w3 hown' hgrow hnil hat'
    obtain ⟨g2, cap2, rfl⟩ := ownsRow_succ hown'
    obtain ⟨hv1, hv2, ho2, hks, -⟩ := Boxed.appended HBX2.out (by decide) HOW.out HSZ.out (Nat.le_refl _) hown' hgrow
    have hc1 := hv1.cell; have hf1 := hv1.frozen
    have HV2 := Lib.hid hv2; have HO2 := Lib.hid ho2; have HKS := Lib.hid (hks.from w1.heap.size)
    have HC2 : Hid (Ch N W' (w3.setCell ⟨w.heap.size, 0, none⟩ (.slice (some ⟨g2, 0, none⟩) (m0 + 1) cap2))) := Lib.hid ((((Ch.refl N W').alloc _).grown hgrow fun j hj => .inl (HAT.out j hj)).setCell (p := ⟨w.heap.size, 0, none⟩) (.inl HNB.out) _)
    have HA2 : Hid (∀ j, (Value.slice (some ⟨g2, 0, none⟩) (m0 + 1) cap2).ownBlock = some j → N j) := Lib.hid fun j hj => by
      rcases hat' with h | h
      · exact HAT.out j (by rw [← h]; exact hj)
      · rw [h] at hj
        have h1 := HCH.out.size
        simp only [Option.some.injEq, World.size_alloc] at hj
        exact HNb.out j (by omega)
    clear hown' hgrow hnil hat' hv1 hv2 ho2 hks hc hf hone
    gi_wp2
    refine ⟨HKS.out, HC2.out, HCH.out.trans HC2.out, _, HV2.out, ?_, HA2.out⟩
    have h2 := HL2.out; unfold strV at h2
    unfold OwnTx strV
    rw [HE.out, h2]
    exact HO2.out
  case stop => exact fun D c pre W' hD hSp hIx hK => hIx.elim
  case done =>
    rintro D ys W hD hys ⟨hch, v', hbx, hown, hat⟩ hK
    subst hL
    have e1 : (ys.map Subtype.val).map Prod.snd = textsL l := by rw [hys, textsL_lg]
    rw [e1] at hown
    obtain ⟨vo, vc, rfl⟩ := owns_shape hown
    have hc := hbx.cell
    have hx9 : Ext w (W.putObj D (.deferred none)) := ((Ext.ch HXW.out).trans hch |>.mono fun j hj h => by have := HNw.out j h; omega).grown (grownBy_putObj' W D (.deferred none)) (fun k e => by cases e; exact .inr (by have := HXW.out.size; omega))
    have ho9 : OwnTx w.heap.size (W.putObj D (.deferred none)) (.slice vo (textsL l).length vc) (textsL l) := own_keptK hown (grownBy_putObj' W D (.deferred none)) (fun r e => by cases e; exact ⟨_, hK, rfl⟩)
    have HX9 := Lib.hid hx9; have HO9 := Lib.hid ho9; have HK := Lib.hid hK
    clear hch hbx hown hat hx9 ho9 hK hys e1
    gi_wp2
    refine ⟨by simp, .inl ⟨_, _, rfl, run_takeDeferred HK.out, ?_⟩⟩
    refine ⟨_, results_tmp rfl _ _ _, _, rfl, HX9.out, ?_⟩
    exact HO9.out
end Go.Proofs.Ytegclfpmgilnpaa
