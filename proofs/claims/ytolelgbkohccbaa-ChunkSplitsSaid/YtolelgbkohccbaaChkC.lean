/-
  chunk: the iterator's contract; what is left when a function that ranged over functions in a loop leaves; Split.
-/
import Derived.Test.YtolelgbkohccbaaChkB
import Derived.Test.YtolelgbkohccbaaLibF
import Derived.Maps.OwnIn
import Derived.Maps.AppendAt
namespace Go.Proofs.Ytolelgbkohccbaa
open Go.RowKit Go.Lac Go.Shelf
attribute [local go_sem] Oper.semAt_some

/-- A piece that comes, with its place. -/
abbrev WlT (b : List UInt8) := {x : Nat × List UInt8 // x ∈ wl b}
def encWd {b : List UInt8} (x : WlT b) : Array Value := encW x.1
theorem walk_stops (n : Nat) (hn : 1 ≤ n) (g : Nat) (b : List UInt8) (N : Nat → Prop) (w : World) (hl : b.length ≤ 1000000)
    (hg : w.heap[g]? = some (.cells #[strV b] 9 (0, 0))) (hgN : ¬ N g) (hNb : ∀ k, w.heap.size ≤ k → N k) :
    SeqStopsK Fence.wide n Try.prog 17 #[.pointer (some ⟨g, 0, none⟩)] (encWd (b := b)) (Ch N) (fun ys => ys.map Subtype.val = wl b) (fun pre => pre.map Subtype.val <+: wl b) (cnt b.length) w := fun l J Jx W hW hJ hJx hY h0 => by
  have hx : Ext w W := Ext.ofBelow hW
  refine (walkW_mem n hn l g b N (fun pre W => ∃ q : List (WlT b), q.map Subtype.val = pre ∧ J q W) (fun pre W => ∃ q : List (WlT b), q.map Subtype.val = pre ∧ Jx q W) W hl ?_ (fun k hk => hNb k (Nat.le_trans hx.size hk)) ?_ ?_ ⟨[], rfl, h0⟩).mono ?_
  · intro W' h
    have h1 := heap_ext hx hg
    have := (h.block g (Array.getElem?_eq_some_iff.1 h1).1 hgN).trans h1
    rw [cell_of_row _ _ _ _ _ _ this]; rfl
  · rintro s A B row ⟨q, e, hq⟩ hgr hrow
    exact ⟨q, e, hJ q A B row hq hgr hrow⟩
  · rintro pre x W1 hp ⟨q, e, hq⟩ hl
    have hm : x ∈ wl b := hp.subset (by simp)
    have := hY q ⟨x, hm⟩ W1 hq (by rw [← e, List.length_map] at hl; exact hl)
    obtain ⟨fn, tmps, assign, body, hy, hR⟩ := this
    refine ⟨fn, tmps, assign, body, hy, hR.mono ?_⟩
    rintro e' W' (⟨h1, h2, h3⟩ | ⟨h1, h2⟩)
    · exact .inl ⟨h1, ⟨q ++ [⟨x, hm⟩], by simp [e], h2⟩, h3⟩
    · exact .inr ⟨h1, ⟨q ++ [⟨x, hm⟩], by simp [e], h2⟩⟩
  · rintro e' W' ⟨h1, ⟨ys, h2, q, h3, h4⟩ | ⟨pre, h2, q, h3, h4⟩⟩
    · exact ⟨h1, .inl ⟨q, (show q.map Subtype.val = wl b by rw [h3, h2]), h4⟩⟩
    · exact ⟨h1, .inr ⟨q, (show q.map Subtype.val <+: wl b by rw [h3]; exact h2), h4⟩⟩
theorem chK_b {N : Nat → Prop} {w : World} (hN : ∀ k, w.heap.size ≤ k → N k) (W : World) (l : Nat) (o o' : Obj) (hl : w.heap.size ≤ l) (h : W.heap[l]? = some o) (_ : o.isCells = false) (_ : o.isWalk = false) : Ch N W (W.putObj l o') :=
  (Ch.refl N W).grown (grownBy_putObj' W l o') (fun k e => by cases e; exact .inl (hN _ hl))

/-- What is left to be taken when the function leaves: the blocks for the rounds' deferred calls, the youngest first. -/
def Marks (B : Nat) (w : World) : List Deferred → Prop
  | [] => True
  | d :: ds => ∃ D, d = { target := .collected D, args := #[] } ∧ B ≤ D ∧ w.heap[D]? = some (.deferred (some [])) ∧ (∀ d' ∈ ds, ∀ D', d' = { target := .collected D', args := #[] } → D' < D) ∧ Marks B w ds
theorem Marks.same {B : Nat} {w w' : World} : ∀ {ds : List Deferred}, Marks B w ds → (∀ D, B ≤ D → w.heap[D]? = some (.deferred (some [])) → w'.heap[D]? = w.heap[D]?) → Marks B w' ds
  | [], _, _ => trivial
  | d :: ds, ⟨D, h1, h2, h3, h4, h5⟩, k => ⟨D, h1, h2, (k D h2 h3).trans h3, h4, Marks.same h5 k⟩
theorem Marks.below {B : Nat} {w w' : World} {D0 : Nat} : ∀ {ds : List Deferred}, Marks B w ds → (∀ d' ∈ ds, ∀ D', d' = { target := .collected D', args := #[] } → D' < D0) → (∀ D, D < D0 → w'.heap[D]? = w.heap[D]?) → Marks B w' ds
  | [], _, _, _ => trivial
  | d :: ds, ⟨D, h1, h2, h3, h4, h5⟩, hb, k => ⟨D, h1, h2, (k D (hb d (by simp) D h1)).trans h3, h4, Marks.below h5 (fun d' hd => hb d' (by simp [hd])) k⟩
theorem leaves_marks {F : Fence} {n : Nat} {P : Program} {fn : Func} {tmps : Array Value} {R : Ending → World → Prop} {B : Nat} : ∀ (ds : List Deferred) (w : World), Marks B w ds →
    (∀ w', Ch (fun k => B ≤ k) w w' → (∀ (k : Nat) (c : Array Value) (T : TypeId) (o : Nat × Nat), w.heap[k]? = some (Obj.cells c T o) → w'.heap[k]? = some (Obj.cells c T o)) → LeavesIn F n P fn tmps R [] .returning w') → LeavesInM F n P fn tmps R ds .returning w
  | [], w, _, h => h w (Ch.refl _ _) fun _ _ _ _ h => h
  | d :: ds, w, ⟨D, h1, h2, h3, h4, h5⟩, h => by
    have hb : ∀ k, k ≠ D → (w.putObj D (.deferred none)).heap[k]? = w.heap[k]? := fun k hk => World.putObj_heap_other hk
    have hch : Ch (fun k => B ≤ k) w (w.putObj D (.deferred none)) := (Ch.refl _ w).grown (grownBy_putObj' w D _) (fun k e => by cases e; exact .inl h2)
    refine ⟨by simp, .inl ⟨D, _, by rw [h1], run_takeDeferred h3, ?_⟩⟩
    refine leaves_marks ds _ (Marks.below h5 h4 fun k hk => hb k (by omega)) fun w' hw hc => h w' (hch.trans hw) fun k c T o hk => hc k c T o ?_
    rw [hb k (fun e => by rw [e, h3] at hk; cases hk)]
    exact hk

theorem with_frame {F : Fence} {n : Nat} {P : Program} {c : Code} {Q : Exit → Act → World → Prop} {L : List Value} {ds : List Deferred} {w : World} (h : ∀ L' : List Value, L' = L → Code.wpIn F n P c Q ⟨L'.toArray, ds⟩ w) : Code.wpIn F n P c Q ⟨L.toArray, ds⟩ w := h L rfl
theorem map_val_append {α : Type} {p : α → Prop} (a : List {x // p x}) (x : {x // p x}) : (a ++ [x]).map Subtype.val = a.map Subtype.val ++ [x.1] := by simp
theorem Marks.lt {B : Nat} {w : World} : ∀ {ds : List Deferred}, Marks B w ds → ∀ d ∈ ds, ∀ D', d = { target := .collected D', args := #[] } → D' < w.heap.size
  | d :: ds, ⟨D, h1, h2, h3, h4, h5⟩, d', hd, D', e => by
    rcases List.mem_cons.1 hd with rfl | hd
    · rw [h1] at e; cases e
      exact (Array.getElem?_eq_some_iff.1 h3).1
    · exact Marks.lt h5 d' hd D' e
theorem own_noob {w : World} {base : Nat} {e : TypeId} {size : Nat} {v : Value} {n : Nat} {xs : List Value} (h : w.ownsRow base e size v n xs) {g : Nat} {o : Obj} (hg : w.heap[g]? = some o) (hT : ∀ cur, o ≠ .cells cur e (0, 0)) : v.ownBlock ≠ some g := by
  rcases h.2 with ⟨rfl, _⟩ | ⟨g', cap, cur, rfl, hb, hh, _⟩
  · simp [Value.ownBlock]
  · intro e
    simp only [Value.ownBlock, Option.some.injEq] at e
    subst e
    rw [hg] at hh
    cases hh
    exact hT _ rfl
theorem own_keptO {A B : World} {row : Option Nat} {base : Nat} {e : TypeId} {size : Nat} {v : Value} {n : Nat} {xs : List Value} (h : A.ownsRow base e size v n xs) (hg : A.grownBy B row) (hrow : ∀ r, row = some r → ∃ o : Obj, A.heap[r]? = some o ∧ o.isCells = false) : B.ownsRow base e size v n xs := by
  refine h.kept hg ?_
  cases hv : v.ownBlock with
  | none => exact .inl rfl
  | some k =>
    refine .inr fun e' => ?_
    obtain ⟨o, ho, hc⟩ := hrow k e'.symm
    exact own_noob h ho (fun cur e => by subst e; cases hc) hv
def SplitPost (l : List (List UInt8)) (w : World) (e : Ending) (w' : World) : Prop :=
  ∃ v, e = .returned v ∧ Ext w w' ∧ w'.ownsRow w.heap.size 9 1 v (splitL l).length ((splitL l).map strV)
/-- Between two rounds. -/
def SplI (w : World) (l : List (List UInt8)) (ao : Option Addr) (n cap : Nat) (a : Act) (wr : World) : Prop :=
  ∃ (k : Nat) (v : Value) (ds : List Deferred) (u1 u4 u5 u6 u7 u11 u12 u13 u14 u15 u16 u17 u18 u19 u20 u21 u22 u23 : Value), k ≤ n ∧
    a = ⟨#[.slice ao n cap, u1, .slice none 0 0, .pointer (some ⟨w.heap.size, 0, none⟩), u4, u5, u6, u7, .slice ao n cap, .int .i64 (n : Nat), .int .i64 (k : Nat), u11, u12, u13, u14, u15, u16, u17, u18, u19, u20, u21, u22, u23], ds⟩ ∧
    Hid (Marks w.heap.size wr ds) ∧ Hid (Ext w wr) ∧ Hid (Boxed wr w.heap.size 22 v) ∧ Hid (wr.ownsRow w.heap.size 9 1 v (splitL (l.take k)).length ((splitL (l.take k)).map strV))
set_option maxRecDepth 100000 in
set_option maxHeartbeats 2000000 in
theorem split_any (v : Value) (l : List (List UInt8)) (w : World) (h : TxS w v l) (hl : l.length ≤ 1000) (hb : ∀ b ∈ l, b.length ≤ 100000) :
    Calls Try.prog 9 #[v] w (SplitPost l w) := by
  refine (callsIn_wide (n := 4)).1 ?_
  have HT := Lib.hid h; have HB := Lib.hid hb
  obtain ⟨ao, cap, rfl, h1, h2⟩ := h.shape
  obtain ⟨ci, chi, chz, chs, chb⟩ := info_parts infoStr
  have CHI := Lib.hid chi; have CHS := Lib.hid chs; have CHZ := Lib.hid chz; have CHB := Lib.hid chb
  clear h h1 h2 chi chs chz chb hb
  generalize hn : l.length = n at *
  have HN := Lib.hid hn; clear hn
  refine callsIn_of_wp_marks Try.func9 rfl trivial ?_ rfl
  simp only [Try.ntmps9, List.size_toArray, List.length_cons, List.length_nil, Nat.reduceAdd, Nat.reduceSub, Array.replicate_succ, Array.replicate_zero, List.push_toArray, List.append_toArray, List.nil_append, List.cons_append]
  gi_wp2
  refine wpIn_loop (SplI w l ao n cap) (fun a _ => n - (intOf (a.tmps.getD 10 undef)).toNat) ?start ?round
  case start =>
    exact ⟨0, .slice none 0 0, [], _, _, _, _, _, _, _, _, _, _, _, _, _, _, _, _, _, _, Nat.zero_le _, rfl, Lib.hid trivial, Lib.hid ((Ch.refl _ _).alloc _), Lib.hid (Boxed.new _ _ _), Lib.hid (World.ownsRow_nil _ _ _ _)⟩
  case round =>
    rintro a wr ⟨k, v, ds, u1, u4, u5, u6, u7, u11, u12, u13, u14, u15, u16, u17, u18, u19, u20, u21, u22, u23, hk, rfl, HM, HX, HBX, HO⟩
    by_cases hlt : k < n
    · have hkl : k < l.length := by have := HN.out; omega
      obtain ⟨b, o, rfl, hc0⟩ := HT.out.at hkl
      have hc := HX.out.cell (p := ⟨b, o + k, none⟩) (fun f => f) _ hc0
      have hidx := run_indexSl wr Try.underlying22 CHI.out CHS.out b o n cap k hlt
      rw [Nat.mul_one] at hidx
      have HTK := Lib.hid (splitL_take_succ l k hkl)
      have HLX := Lib.hid (HB.out l[k] (List.getElem_mem hkl))
      have HLEN : Hid ((splitL (l.take k)).length ≤ 100000000) := Lib.hid (by
        have h1 := splitL_len_le (l := l.take k) (M := 100000) fun b hb => HB.out b (List.mem_of_mem_take hb)
        have h2 : (l.take k).length ≤ 1000 := by rw [List.length_take]; omega
        have := Nat.mul_le_mul_right 100000 h2
        omega)
      generalize l[k] = x at *
      have HWK := Lib.hid (walk_any x wr)
      clear hc0
      unfold strV at hc HWK
      gi_wp2_with fail
      refine ⟨trivial, ?_⟩
      refine (callsIn_wide.2 HWK.out).mono ?_
      rintro e w1 ⟨g, rfl, hx1, hgs, hgr⟩
      have HX1 := Lib.hid (HX.out.trans hx1); have HXX := Lib.hid hx1; have HG := Lib.hid hgr
      have HBX1 : Hid (Boxed w1 w.heap.size 22 v) := Lib.hid (heap_ext hx1 HBX.out)
      have HO1 := Lib.hid (HO.out.ext hx1)
      obtain ⟨N, hN⟩ : ∃ N : Nat → Prop, N = fun j => j = w.heap.size ∨ v.ownBlock = some j ∨ w1.heap.size ≤ j := ⟨_, rfl⟩
      have HN1 := Lib.hid hN
      have HNb : Hid (∀ j, w1.heap.size ≤ j → N j) := Lib.hid (by rw [hN]; exact fun j h => .inr (.inr h))
      have HNw : Hid (∀ j, N j → w.heap.size ≤ j) := Lib.hid (by rw [hN]; rintro j (h | h | h); omega; exact (HO1.out.lt j h).1; exact Nat.le_trans HX1.out.size h)
      have HNg : Hid (¬ N g) := Lib.hid (by
        rw [hN]
        have h1 := (Array.getElem?_eq_some_iff.1 HG.out).1
        have h2 := HBX.out.lt
        rintro (h | h | h)
        · omega
        · have := (HO.out.lt g h).2; omega
        · omega)
      have HNB : Hid (N w.heap.size) := Lib.hid (by rw [hN]; exact .inl rfl)
      have HNv : Hid (∀ j, v.ownBlock = some j → N j) := Lib.hid (by rw [hN]; exact fun j h => .inr (.inl h))
      have HNd : Hid (∀ D, D < w1.heap.size → w1.heap[D]? = some (.deferred (some [])) → ¬ N D) := Lib.hid (by
        rw [hN]
        rintro D hD hd (h | h | h)
        · subst h; have := HBX1.out; unfold Boxed at this; rw [hd] at this; cases this
        · exact own_noob HO1.out hd (by simp) h
        · omega)
      have HTX := Lib.hid hlt
      clear hx1 hgs hgr hc hidx hN HWK hkl
      gi_wp2_with fail
      refine with_frame fun L hL => ?_
      refine wpIn_rangeFunc_ownH rfl (by decide) (gf := 17) (lb := #[.pointer (some ⟨g, 0, none⟩)]) (by rw [hL]; rfl) trivial (enters_of Try.func17 (by kernel_rfl) rfl)
        (walk_stops (4 - 1) (by decide) g x N w1 (by have := HLX.out; omega) HG.out HNg.out HNb.out) (fun h k => h.trans k) (chK_b HNb.out) (Below.refl _ _) (fun _ => rfl)
        (fun (pre : List (WlT x)) W' => Ch N w1 W' ∧ ∃ v', Boxed W' w.heap.size 22 v' ∧ W'.ownsRow w.heap.size 9 1 v' ((splitL (l.take k)).length + pre.length) ((splitL (l.take k) ++ (pre.map Subtype.val).map Prod.snd).map strV) ∧ ∀ j, v'.ownBlock = some j → N j)
        (fun _ _ _ => False) ?hI ?hIx ?h0
        (fun y a' _ => a' = ⟨(((L.set 16 (.int .i64 (y.1.1 : Nat))).set 17 (strV y.1.2)).set 7 (strV y.1.2)).toArray, []⟩) ?hAx ?assign ?body ?done ?stop
      case assign =>
        rintro l' pre y W' K hI hK
        subst hL
        obtain ⟨⟨i, q⟩, hy⟩ := y
        unfold encWd encW
        gi_wp2
        exact hK _ _ (KeepsFrom.refl _ _) (Ch.refl _ _) hI rfl
      case hI =>
        rintro s A B row ⟨h1, v', h2, h3, h4⟩ hg hrow
        refine ⟨h1.grown hg fun k e => .inr (hrow k e).1, v', h2.kept hg fun e => ?_, own_keptO h3 hg fun r e => (hrow r e).2, h4⟩
        obtain ⟨_, o, ho, hc⟩ := hrow _ e.symm
        rw [show A.heap[_]? = _ from h2] at ho; cases ho; cases hc
      case hIx => exact fun c s A B row h _ _ => h
      case h0 => exact ⟨Ch.refl _ _, v, HBX1.out, by simpa using HO1.out, HNv.out⟩
      case hAx => exact fun x a' s A B row h _ _ => h
      case body =>
        rintro l' pre y a' W' hl' hlr ⟨hch, v', hbx, hown, hat⟩ rfl hlen
        subst hL
        obtain ⟨⟨i, q⟩, hy⟩ := y
        simp only [List.set_cons_succ, List.set_cons_zero]
        have HLQ : Hid ((splitL (l.take k)).length + pre.length ≤ 200000000) := Lib.hid (by
          have := HLEN.out; have := HLX.out; have : cnt x.length ≤ 100000 := by unfold cnt; omega
          omega)
        have HE : Hid ((splitL (l.take k)).length + (pre ++ [(⟨(i, q), hy⟩ : WlT x)]).length = (splitL (l.take k)).length + pre.length + 1) := Lib.hid (by simp; omega)
        have HL2 : Hid ((splitL (l.take k) ++ ((pre ++ [(⟨(i, q), hy⟩ : WlT x)]).map Subtype.val).map Prod.snd).map strV = (splitL (l.take k) ++ (pre.map Subtype.val).map Prod.snd).map strV ++ [strV q]) := Lib.hid (by simp)
        generalize (splitL (l.take k)).length + pre.length = m0 at *
        generalize (splitL (l.take k) ++ (pre.map Subtype.val).map Prod.snd).map strV = xs0 at *
        have hc := hbx.cell; have hf := hbx.frozen
        have hone := fun w => oneTx w ⟨q.toArray⟩
        have HOW := Lib.hid hown; have HBX2 := Lib.hid hbx; have HCH := Lib.hid hch; have HAT := Lib.hid hat
        have hsz : w.heap.size ≤ W'.heap.size := by have h1 := hch.size; have h2 := HX1.out.size; omega
        have HSZ := Lib.hid hsz
        clear hown hbx hch hat hsz hlr hlen
        unfold strV at *
        gi_wp2_with (gi_at_builtin; refine wpListIn_append_own_at _ rfl _ _ 22 rfl w.heap.size 9 ci (.string ⟨#[]⟩) 1 16 Try.underlying22 CHI.out CHZ.out CHS.out CHB.out rfl (by decide) _ _ _ rfl (HOW.out.alloc _) ⟨W'.heap.size, 0, none⟩ 1 1 [.string ⟨q.toArray⟩] rfl rfl (cell_one_new _ _ _) (by simp [Value.oneCell']) (by have := HLQ.out; unfold maxLen; omega) (by have := HLQ.out; omega) (by have := HSZ.out; simp; omega) ?_)
        intro v2 w3 hown' hgrow hnil hat'
        obtain ⟨g2, cap2, rfl⟩ := ownsRow_succ hown'
        obtain ⟨hv1, hv2, ho2, hks, -⟩ := Boxed.appended HBX2.out (by decide) HOW.out HSZ.out (Nat.le_refl _) hown' hgrow
        have hc1 := hv1.cell; have hf1 := hv1.frozen
        have HV2 := Lib.hid hv2; have HO2 := Lib.hid ho2; have HKS := Lib.hid (hks.from w1.heap.size)
        have HC2 : Hid (Ch N W' (w3.setCell ⟨w.heap.size, 0, none⟩ (.slice (some ⟨g2, 0, none⟩) (m0 + 1) cap2))) := Lib.hid ((((Ch.refl N W').alloc _).grown hgrow fun j hj => .inl (HAT.out j hj)).setCell (p := ⟨w.heap.size, 0, none⟩) (.inl HNB.out) _)
        have HA2 : Hid (∀ j, (Value.slice (some ⟨g2, 0, none⟩) (m0 + 1) cap2).ownBlock = some j → N j) := Lib.hid fun j hj => by
          rcases hat' with h | h
          · exact HAT.out j (by rw [← h]; exact hj)
          · rw [h] at hj
            have h1 := HCH.out.size
            simp only [Option.some.injEq, World.size_alloc] at hj
            exact HNb.out j (by omega)
        clear hown' hgrow hnil hat' hv1 hv2 ho2 hks hc hf hone
        gi_wp2
        exact ⟨HKS.out, HC2.out, HCH.out.trans HC2.out, _, HV2.out, by rw [HE.out]; have := HL2.out; unfold strV at this; rw [this]; exact HO2.out, HA2.out⟩
      case stop => exact fun D c pre W' hD hSp hIx hK => hIx.elim
      case done =>
        rintro D ys W' hD hys ⟨hch, v', hbx, hown, hat⟩ hK
        subst hL
        have HM2 : Hid (Marks w.heap.size W' ({ target := .collected D, args := #[] } :: ds)) := Lib.hid ⟨D, rfl, by have := HX1.out.size; omega, hK, fun d' hd D' e => by have h1 := Marks.lt HM.out d' hd D' e; have h2 := HXX.out.size; omega, HM.out.same fun D' _ h => by
          have h1 := (Array.getElem?_eq_some_iff.1 h).1
          have h2 := HXX.out.block D' h1 (fun f => f)
          have h3 : D' < w1.heap.size := Nat.lt_of_lt_of_le h1 HXX.out.size
          exact (hch.block D' h3 (HNd.out D' h3 (h2.trans h))).trans h2⟩
        have HX2 : Hid (Ext w W') := Lib.hid ((Ext.ch HX1.out).trans hch |>.mono fun j hj h => by have := HNw.out j h; omega)
        have e1 : (ys.map Subtype.val).map Prod.snd = pcs x := by rw [hys, wl_snd]
        have e2 : ys.length = (pcs x).length := by rw [← e1]; simp
        have HO2 : Hid (W'.ownsRow w.heap.size 9 1 v' (splitL (l.take (k + 1))).length ((splitL (l.take (k + 1))).map strV)) := Lib.hid (by
          rw [HTK.out, List.length_append, ← e2, ← e1]; exact hown)
        have HB2 := Lib.hid hbx
        clear hD hys hch hbx hown hat hK e1 e2
        gi_wp2
        exact ⟨⟨k + 1, v', _, _, _, _, _, _, _, _, _, _, _, _, _, _, _, _, _, _, _, HTX.out, rfl, HM2, HX2, HB2, HO2⟩, by simp [intOf]; have := HTX.out; omega⟩
    · obtain rfl : k = n := by omega
      have hc := HBX.out.cell
      obtain ⟨vo, vc, rfl⟩ := owns_shape HO.out
      have HS : Hid ((splitL (l.take k)).length = (splitL l).length ∧ (splitL (l.take k)).map strV = (splitL l).map strV) := Lib.hid (by rw [← HN.out, List.take_length]; exact ⟨rfl, rfl⟩)
      gi_wp2
      refine leaves_marks _ _ HM.out fun w' hw hcs => ?_
      refine ⟨.slice vo (splitL (l.take k)).length vc, by simp [results, Try.f9, go_sem], ⟨_, rfl, ?_, ?_⟩⟩
      · exact (Ext.ch HX.out |>.trans hw).mono fun j hj h => by omega
      · rw [← HS.out.1, ← HS.out.2]
        have h1 := HO.out
        refine ⟨h1.1, ?_⟩
        rcases h1.2 with h2 | ⟨g2, cap2, cur, e1, e2, e3, e4⟩
        · exact .inl h2
        · exact .inr ⟨g2, cap2, cur, e1, e2, hcs _ _ _ _ e3, e4⟩
end Go.Proofs.Ytolelgbkohccbaa
