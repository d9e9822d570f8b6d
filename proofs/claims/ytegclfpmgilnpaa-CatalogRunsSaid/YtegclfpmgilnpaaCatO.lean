/-
  Catalogs: the walk through all as an iterator that knows its items; the law's Back.
-/
import Derived.Test.YtegclfpmgilnpaaCatN
import Derived.Test.YtegclfpmgilnpaaGRelD
import Derived.Laws.OwnMore
namespace Go.Proofs.Ytegclfpmgilnpaa
open Go.RowKit Go.Lac Go.Shelf
attribute [local go_sem] Oper.semAt_some

theorem all_knows (base n : Nat) (hn : 1 ≤ n) (g : Nat) (v : Value) (rs : List Rl) (N : Nat → Prop) (w : World)
    (hg : w.heap[g]? = some (.cells #[v] 62 (0, 0))) (hS : ∀ W', Ch N w W' → RlS (ColS W') W' v rs) (hNb : ∀ k, w.heap.size ≤ k → N k)
    (hc : ∀ r ∈ rs, r.cols.length ≤ 1000000) (hB : base ≤ w.heap.size) :
    SeqKnows Fence.wide n Try.prog 82 #[.pointer (some ⟨g, 0, none⟩)] encA (KnA base rs) (Ch N) (fun ys => ys.map Prod.fst = rs) (fun pre => pre.map Prod.fst <+: rs) rs.length w := fun l J Jx W hW hJ hJx hY h0 => by
  have hx : Ext w W := Ext.ofBelow hW
  exact allWalk_mem base n hn l g v rs N J Jx W (heap_of_ext hx hg) (fun W' h => hS W' (hx.ch.trans h)) (fun k hk => hNb k (Nat.le_trans hx.size hk)) hc (Nat.le_trans hB hx.size) hJ (fun pre x W1 _ hj hk hl => hY pre x W1 hj hk hl) h0

/-- A document's column row of one's own. -/
def OwnQ (base : Nat) (w : World) (cv : Value) (cols : List Col) : Prop := w.ownsRow base 111 3 cv cols.length (colC cols)
theorem OwnQ.ext {base : Nat} {w w' : World} (hx : Ext w w') (cv : Value) (cols : List Col) (h : OwnQ base w cv cols) : OwnQ base w' cv cols := World.ownsRow.ext h hx
theorem RlC.oneQ {base : Nat} {w : World} : ∀ {l : List Rl} {cs : List Value}, RlC (OwnQ base w) l cs → ∀ u ∈ cs, u.oneCell' = true
  | [], _, h, u, hu => by rw [show _ = [] from h] at hu; cases hu
  | r :: l, cs, ⟨cv, t, e, h1, h⟩, u, hu => by
    obtain ⟨ao, cap, rfl⟩ := owns_shape h1
    rw [e] at hu
    rcases List.mem_append.1 hu with hu | hu
    · have := relv_one r ao r.cols.length cap
      rw [← Array.all_toList, List.all_eq_true] at this
      exact this u hu
    · exact RlC.oneQ h u hu
theorem ei_ref (a b c d : Nat) (w : World) : (Op.equalIn 10000 36 (.agg #[.int .u32 (a : Nat), .int .u32 (b : Nat)]) (.agg #[.int .u32 (c : Nat), .int .u32 (d : Nat)])).run Try.prog w = .ok (decide (a = c ∧ b = d)) w := by
  have h := run_refeq a b c d w
  rw [run_eql_struct] at h
  cases hX : (Op.equalIn 10000 36 (.agg #[.int .u32 (a : Nat), .int .u32 (b : Nat)]) (.agg #[.int .u32 (c : Nat), .int .u32 (d : Nat)])).run Try.prog w with
  | ok b' w' =>
    rw [hX] at h
    simp only [Result.andThen_ok] at h ⊢
    cases h
    rfl
  | _ =>
    rw [hX] at h
    simp [Result.andThen] at h
theorem oneQl (w : World) (x y : Int) (A : ByteArray) (i : Int) (ao : Option Addr) (n c : Nat) : (Instr.buildSlice 22 1 #[(0, .agg #[.int .u32 x, .int .u32 y, .string A, .int .u8 i, .slice ao n c])]).run Try.prog w = .ok (.slice (some ⟨w.heap.size, 0, none⟩) 1 1) (w.alloc (.cells #[.int .u32 x, .int .u32 y, .string A, .int .u8 i, .slice ao n c] 33)) := by kernel_rfl
def Kn.bkF (base : Nat) (r : Rl) : Kn := ⟨fun v w => ∃ c, v = .agg (relv r c) ∧ OwnQ base w c r.cols, fun _ _ _ k ⟨c, h1, h2⟩ => ⟨c, h1, OwnQ.ext k _ _ h2⟩⟩
def Kn.bkOne (base : Nat) (r : Rl) : Kn := ⟨fun v w => ∃ c b, v = .slice (some ⟨b, 0, none⟩) 1 1 ∧ w.heap[b]? = some (.cells (relv r c) 33 (0, 0)) ∧ OwnQ base w c r.cols, fun _ _ _ k ⟨c, b, h1, h2, h3⟩ => ⟨c, b, h1, heap_ext k h2, OwnQ.ext k _ _ h3⟩⟩
def Kn.bkL (base : Nat) (l : List Rl) : Kn := ⟨fun v w => ∃ cs, RlC (OwnQ base w) l cs ∧ w.ownsRow base 33 5 v l.length cs, fun _ _ _ k ⟨cs, h1, h2⟩ => ⟨cs, h1.imp (OwnQ.ext k), h2.ext k⟩⟩
def bkT (base : Nat) (vb : Value) (l : List Rl) (r : Rl) (c : Value) : Nat → Tmp → Kn
  | 0, 21 => .is vb
  | 0, 22 => .is (.agg (relv r c))
  | 0, 23 => Kn.bkF base r
  | 0, 24 => Kn.bkOne base r
  | 1, 25 => Kn.bkL base (l ++ [r])
  | _, _ => .any
theorem bkT_1 {base : Nat} {vb : Value} {l : List Rl} {r : Rl} {c : Value} {d : Tmp} (h : d ≠ 25) : bkT base vb l r c 1 d = .any := by
  unfold bkT
  split <;> first | rfl | contradiction | (rename_i h1 _ ; cases h1) | (rename_i h1; cases h1)
def bkN (N : Nat → Prop) (base g4 : Nat) (vb : Value) (l : List Rl) (r : Rl) (W : World) : Nat → World → Prop
  | 0, w => Ext W w
  | 1, w => KeepsOthers W w ∧ Ch N W w ∧ w.heap[g4]? = some (.cells #[vb] 22 (0, 0))
  | _, w => KeepsOthers W w ∧ Ch N W w ∧ ∃ v cs, w.heap[g4]? = some (.cells #[v] 22 (0, 0)) ∧ RlC (OwnQ base w) (l ++ [r]) cs ∧ w.ownsRow base 33 5 v (l ++ [r]).length cs
theorem bkN_ext {N : Nat → Prop} {base g4 : Nat} {vb : Value} {l : List Rl} {r : Rl} {W : World} : ∀ p w w', bkN N base g4 vb l r W p w → Ext w w' → bkN N base g4 vb l r W p w'
  | 0, _, _, h, hx => Ch.trans h hx
  | 1, _, _, ⟨h1, h2, h3⟩, hx => ⟨h1.trans (keepsK_ext hx), h2.trans (Ext.ch hx), heap_ext hx h3⟩
  | _ + 2, _, _, ⟨h1, h2, v, cs, h3, h4, h5⟩, hx => ⟨h1.trans (keepsK_ext hx), h2.trans (Ext.ch hx), v, cs, heap_ext hx h3, h4.imp (OwnQ.ext hx), h5.ext hx⟩
def BackPost (l : List Rl) (w : World) (e : Ending) (w' : World) : Prop :=
  Ext w w' ∧ ∃ v, e = .returned (.tuple #[v, .bool true]) ∧ RlS (ColS w') w' v l
set_option maxRecDepth 100000 in
set_option maxHeartbeats 4000000 in
theorem back9_any (base : Nat) (c : Value) (l : List Rl) (w : World) (h : CatS base w c l) (hok : CatOk l) (hc : ∀ r ∈ l, r.cols.length ≤ 1000000) :
    Calls Try.prog 15 #[c] w (BackPost l w) := by
  obtain ⟨W1, hW1⟩ : ∃ W1, W1 = ((w.alloc (.cells #[.slice none 0 0] 22)).alloc (.cells #[.bool false] 4)).alloc (.cells #[.slice none 0 0] 22) := ⟨_, rfl⟩
  obtain ⟨ga, gb, gc⟩ := heap_alloc3 w (.cells #[.slice none 0 0] 22) (.cells #[.bool false] 4) (.cells #[.slice none 0 0] 22)
  rw [← hW1] at ga gb gc
  have hx1 : Ext w W1 := by rw [hW1]; exact (((Ch.refl _ _).alloc _).alloc _).alloc _
  have HAL := Lib.hid (all_any base c l W1 (h.ext hx1))
  obtain ⟨g0, v0, rfl, _⟩ := id h
  have HX1 := Lib.hid hx1; have HW1 := Lib.hid hW1; have HGA := Lib.hid ga; have HGB := Lib.hid gb; have HGC := Lib.hid gc; have HCC := Lib.hid hc; have HOK := Lib.hid hok
  clear hx1 hW1 ga gb gc h hok hc
  refine (callsIn_wide (n := 3)).1 ?_
  refine callsIn_of_wp_marks Try.func15 rfl trivial ?_ rfl
  simp only [Try.ntmps15, List.size_toArray, List.length_cons, List.length_nil, Nat.reduceAdd, Nat.reduceSub, Array.replicate_succ, Array.replicate_zero, List.push_toArray, List.append_toArray, List.nil_append, List.cons_append]
  gi_wp2_with fail
  refine ⟨trivial, ?_⟩
  rw [← HW1.out]
  refine (callsIn_wide.2 HAL.out).mono ?_
  rintro e w4 ⟨g, v, rfl, hx4, hgs, hr, cs, hcs, how⟩
  have HX4 := Lib.hid (HX1.out.trans hx4)
  have HGA4 := Lib.hid (heap_ext hx4 HGA.out); have HGB4 := Lib.hid (heap_ext hx4 HGB.out); have HGC4 := Lib.hid (heap_ext hx4 HGC.out)
  have HR := Lib.hid hr; have HCS := Lib.hid hcs; have HOW := Lib.hid how
  have HS4 : Hid (w.heap.size + 2 < w4.heap.size) := Lib.hid (Array.getElem?_eq_some_iff.1 HGC4.out).1
  obtain ⟨g4, hg4⟩ : ∃ g4, g4 = w.heap.size + 1 + 1 := ⟨_, rfl⟩
  rw [← hg4] at HGC4
  have HG4E := Lib.hid hg4
  obtain ⟨N, hN⟩ : ∃ N : Nat → Prop, N = fun k => k = g4 ∨ w4.heap.size ≤ k := ⟨_, rfl⟩
  have HNb : Hid (∀ j, w4.heap.size ≤ j → N j) := Lib.hid (by rw [hN]; exact fun j h => .inr h)
  have HN4 : Hid (N g4) := Lib.hid (by rw [hN]; exact .inl rfl)
  have HNo : Hid (∀ k, k < w4.heap.size → N k → k = g4) := Lib.hid (by rw [hN]; rintro k hk (h | h); exact h; omega)
  have HNC : Hid (∀ {b : Nat} {T : TypeId} {s : Nat} {u : Value} {m : Nat} {xs : List Value}, w4.ownsRow b T s u m xs → T ≠ 22 → ∀ W', Ch N w4 W' → W'.ownsRow b T s u m xs) := Lib.hid (fun h hT W' hx => own_chK h hx fun k hk hNk => by
    have hlt : k < w4.heap.size := by
      obtain ⟨o, ho, _⟩ := ownsK_cells h k hk
      exact (Array.getElem?_eq_some_iff.1 ho).1
    have e := HNo.out k hlt hNk
    rw [e] at hk
    exact own_noobK h HGC4.out (fun cur e => by cases e; exact hT rfl) hk)
  have HS : Hid (∀ W', Ch N w4 W' → RlS (ColS W') W' v l) := Lib.hid (fun W' hx => ⟨cs, HCS.out.imp fun u c h => Sl.ofOwns (HNC.out h (by decide) W' hx), Sl.ofOwns (HNC.out HOW.out (by decide) W' hx)⟩)
  clear hN hr hcs how hx4 HGA HGB HGC HAL
  rw [← hg4]
  clear hg4
  have HNF : ∀ W : World, (binOp .eql 113 (.func (.func 82) #[] #[.pointer (some ⟨g, 0, none⟩)]) .nilFunc).run Try.prog W = .ok (.bool false) W := fun W => by kernel_rfl
  gi_wp2_with fail
  obtain ⟨i, hi1, hz, hs, hby⟩ := info_parts infoQlZ
  have HI := Lib.hid hi1; have HZ1 := Lib.hid hz; have HSZ := Lib.hid hs; have HBY := Lib.hid hby
  clear hi1 hz hs hby
  have hww : w.heap.size ≤ w4.heap.size := HX4.out.size
  refine with_frameK fun L hL => ?_
  refine wpIn_rangeFunc_knows rfl (by decide) (gf := 82) (lb := #[.pointer (some ⟨g, 0, none⟩)]) (by rw [hL]; rfl) trivial (enters_of Try.func82 (by kernel_rfl) rfl)
    (all_knows 0 (3 - 1) (by decide) g v l N w4 HR.out HS.out HNb.out HCC.out (Nat.zero_le _)) (fun h k => h.trans k) (chK_b HNb.out) (Below.refl _ _) (fun _ => rfl)
    (fun (pre : List (Rl × Value)) W' => Ch N w4 W' ∧ ∃ vb cs, W'.heap[g4]? = some (.cells #[vb] 22 (0, 0)) ∧ RlC (OwnQ w4.heap.size W') (pre.map Prod.fst) cs ∧ W'.ownsRow w4.heap.size 33 5 vb (pre.map Prod.fst).length cs)
    (fun _ _ _ => False) ?hI (fun c s A B row h _ _ => h) ?h0
    (fun x a' W' => ∃ g6 g7, a' = ⟨((((L.set 15 (.agg (refv (rf x.1)))).set 16 (.agg (relv x.1 x.2))).set 6 (.pointer (some ⟨g6, 0, none⟩))).set 7 (.pointer (some ⟨g7, 0, none⟩))).toArray, []⟩ ∧ W'.heap[g6]? = some (.cells (refv (rf x.1)) 36 (0, 0)) ∧ W'.heap[g7]? = some (.cells (relv x.1 x.2) 39 (0, 0)) ∧ KnA 0 l x W') ?hAx ?assign ?body ?done ?stop
  case hI =>
    rintro s A B row ⟨h1, vb, cs, h2, h3, h4⟩ hg hrow
    exact ⟨h1.grown hg fun k e => .inr (hrow k e).1, vb, cs, heap_keptK h2 hg fun r e => (hrow r e).2, h3.imp fun u c h => own_keptK h hg fun r e => (hrow r e).2, own_keptK h4 hg fun r e => (hrow r e).2⟩
  case h0 => exact ⟨Ch.refl _ _, .slice none 0 0, [], HGC4.out, rfl, World.ownsRow_nil _ _ _ _⟩
  case hAx =>
    rintro x a' s A B row ⟨g6, g7, h1, h2, h3, h4, h5⟩ hg hrow
    exact ⟨g6, g7, h1, heap_keptK h2 hg fun r e => (hrow r e).2, heap_keptK h3 hg fun r e => (hrow r e).2, h4, own_keptK h5 hg fun r e => (hrow r e).2⟩
  case stop => exact fun D c pre W hD hSp hIx hK => hIx.elim
  case assign =>
    rintro l' pre ⟨x, xv⟩ W' K ⟨hch, vb, cs1, hbx, h3, h4⟩ hkx hK
    subst hL
    obtain ⟨xo, xc, hxe⟩ := owns_shape hkx.2
    simp only at hxe
    subst hxe
    unfold encA relv refv rf strV
    gi_wp2
    obtain ⟨W2, hW2⟩ : ∃ W2, W2 = (W'.alloc (.cells #[.int .u32 (x.oid : Nat), .int .u32 (x.ver : Nat)] 36)).alloc (.cells #[.int .u32 (x.oid : Nat), .int .u32 (x.ver : Nat), .string ⟨x.name.toArray⟩, .int .u8 (x.ident : Nat), .slice xo x.cols.length xc] 39) := ⟨_, rfl⟩
    have hx2 : Ext W' W2 := by rw [hW2]; exact ((Ch.refl _ _).alloc _).alloc _
    have e6 := heap_alloc2_old W' (.cells #[.int .u32 (x.oid : Nat), .int .u32 (x.ver : Nat)] 36) (.cells #[.int .u32 (x.oid : Nat), .int .u32 (x.ver : Nat), .string ⟨x.name.toArray⟩, .int .u8 (x.ident : Nat), .slice xo x.cols.length xc] 39)
    have e7 := heap_alloc2_new W' (.cells #[.int .u32 (x.oid : Nat), .int .u32 (x.ver : Nat)] 36) (.cells #[.int .u32 (x.oid : Nat), .int .u32 (x.ver : Nat), .string ⟨x.name.toArray⟩, .int .u8 (x.ident : Nat), .slice xo x.cols.length xc] 39)
    rw [← hW2] at e6 e7 ⊢
    refine hK _ _ ((keepsK_ext hx2).from _) (Ext.ch hx2) ⟨hch.trans (Ext.ch hx2), vb, cs1, heap_ext hx2 hbx, h3.imp (OwnQ.ext hx2), h4.ext hx2⟩ ⟨_, _, ?_, e6, e7, hkx.1, OwnP.ext hx2 _ _ hkx.2⟩
    simp only [List.set_cons_succ, List.set_cons_zero]
    rfl
  case body =>
    rintro l' pre ⟨x, xv⟩ a' W hl ⟨hch, vb, cs1, hbx, h3, h4⟩ ⟨g6, g7, rfl, h6, h7, hkx⟩ hlen
    subst hL
    simp only [List.set_cons_succ, List.set_cons_zero]
    obtain ⟨xo, xc, hxe⟩ := owns_shape hkx.2
    simp only at hxe h6 h7 hkx
    subst hxe
    have HL6 : Hid (x.cols.length ≤ 1000000) := Lib.hid (HCC.out _ hkx.1)
    have HCV : Hid (ColS W (.slice xo x.cols.length xc) x.cols) := Lib.hid (Sl.ofOwns hkx.2)
    have HPL : Hid ((pre.map Prod.fst).length ≤ 64) := Lib.hid (by rw [List.length_map]; have := HOK.out.len; omega)
    have H7 := Lib.hid h7; have HBX := Lib.hid hbx; have H3 := Lib.hid h3; have H4 := Lib.hid h4; have HCH := Lib.hid hch
    have HQ : Hid ((pre ++ [(x, (.slice xo x.cols.length xc : Value))]).map Prod.fst = pre.map Prod.fst ++ [x]) := Lib.hid (by simp)
    have r6 : W.cell? ⟨g6, 0, none⟩ = some (.int .u32 (x.oid : Nat)) := by rw [cell_of_row _ _ _ _ _ _ h6]; rfl
    have r6' : W.cell? ⟨g6, 1, none⟩ = some (.int .u32 (x.ver : Nat)) := by rw [cell_of_row _ _ _ _ _ _ h6]; rfl
    obtain ⟨p0, p1, p2, p3, p4⟩ := row5 h7
    have hre : ∀ w, (Op.equalIn 10000 36 (.agg #[.int .u32 (x.oid : Nat), .int .u32 (x.ver : Nat)]) (.agg #[.int .u32 (x.oid : Nat), .int .u32 (x.ver : Nat)])).run Try.prog w = .ok true w := fun w => by rw [ei_ref]; simp
    have hgd : Try.prog.eqGuardType Try.prog.depth 36 = false := by kernel_rfl
    clear hkx h6 h7 hbx h3 h4 hch hlen
    generalize pre ++ [(x, (.slice xo x.cols.length xc : Value))] = pre2 at *
    generalize pre.map Prod.fst = ls at *
    unfold refv rf relv strV
    gi_wp2
    clear r6 r6' p0 p1 p2 p3 p4 hre hgd
    refine wpIn_region_ph (Open.round l') [4, 5] (bkT w4.heap.size vb ls x (.slice xo x.cols.length xc)) (bkN N w4.heap.size g4 vb ls x W) mixedV (by rfl) (by rfl) (by rfl) (by decide) (Ch.drew (Ch.refl _ _)) ?all ?fin
    case all =>
      refine ⟨?_, ?_, ?_, ?_, ?_, ?_, trivial⟩
      · refine StepG.phPlain 0 0 (by decide) (by decide) (by rfl) rfl rfl bkN_ext fun p hlo hhi ρ w2 hρ hF hf => ?_
        obtain rfl : p = 0 := by omega
        have h4 : ρ (.tmp 4) = .pointer (some ⟨g4, 0, none⟩) := (hf 4).2 rfl rfl
        have hw : Ext W w2 := hF
        have hc : w2.cell? ⟨g4, 0, none⟩ = some vb := by rw [cell_of_row _ _ _ _ _ _ (heap_ext hw HBX.out)]; rfl
        exact Exec.same (v := vb) rfl (by simp [go_sem, hρ.const, h4, hc]) rfl
      · refine StepG.phPlain 0 0 (by decide) (by decide) (by rfl) rfl rfl bkN_ext fun p hlo hhi ρ w2 hρ hF hf => ?_
        obtain rfl : p = 0 := by omega
        have h7 : ρ (.tmp 7) = .pointer (some ⟨g7, 0, none⟩) := (hf 7).2 rfl rfl
        have hw : Ext W w2 := hF
        exact Exec.kloadrow rfl rfl h7 (heap_ext hw H7.out) Try.underlying39 rfl infoOw rfl
      · refine StepG.phPlain 0 0 (by decide) (by decide) (by rfl) rfl rfl bkN_ext fun p hlo hhi ρ w2 hρ hF hf => ?_
        obtain rfl : p = 0 := by omega
        have h22 : ρ (.tmp 22) = .agg (relv x (.slice xo x.cols.length xc)) := (hf 22).1 rfl
        have hw : Ext W w2 := hF
        refine Exec.kcall #[.agg (relv x (.slice xo x.cols.length xc))] hρ rfl rfl (by simp [h22]) Try.func23 (by rfl) (by rfl) ((relBack_any x (.slice xo x.cols.length xc) w2 (ColS.ext HCV.out hw) (by have := HL6.out; omega)).mono ?_)
        rintro e w' ⟨c, rfl, h1, h2⟩
        exact ⟨_, rfl, ⟨c, rfl, ownsRow_down h2 (Nat.le_trans HCH.out.size hw.size)⟩, h1⟩
      · refine StepG.phPlain 0 0 (by decide) (by decide) (by rfl) rfl rfl bkN_ext fun p hlo hhi ρ w2 hρ hF hf => ?_
        obtain rfl : p = 0 := by omega
        obtain ⟨c, h23, ho⟩ : (Kn.bkF w4.heap.size x).holds (ρ (.tmp 23)) w2 := (hf 23).1 rfl
        obtain ⟨co, cc, rfl⟩ := owns_shape ho
        refine Exec.kalloc (v := .slice (some ⟨w2.heap.size, 0, none⟩) 1 1) (ob := .cells (relv x (.slice co x.cols.length cc)) 33) rfl ?_ ⟨_, _, rfl, heap_alloc_new w2 _, OwnQ.ext ((Ch.refl _ _).alloc _) _ _ ho⟩
        unfold execOp; simp only [List.map_toArray, List.map_cons, List.map_nil, h23, Sem.run_bind, Result.andThen_ok, Sem.run_pure]
        unfold relv strV
        rw [oneQl]
        rfl
      · refine StepG.phWrite [21, 22, 23, 24] (by rfl) 0 (by decide) (by decide) (by rfl) rfl rfl fun ρ w2 hρ hF hf => ?_
        have h21 : ρ (.tmp 21) = vb := (hf 21).1 rfl
        obtain ⟨c, b, h24, hb, hoc⟩ : (Kn.bkOne w4.heap.size x).holds (ρ (.tmp 24)) w2 := (hf 24).1 rfl
        have hw : Ext W w2 := hF
        have ho := H4.out.ext hw
        refine (Exec.kappend (m := 1) (news := (relv x c).toList) rfl w4.heap.size Try.underlying22 HI.out HZ1.out HSZ.out HBY.out rfl (by decide) h21 ho (by rw [h24]; exact sl_row hb) rfl (fun u hu => RlC.oneQ (RlC.one (r := x) hoc) u hu) (by have := HPL.out; omega) (by have := HPL.out; unfold maxLen; omega) (Nat.le_trans HCH.out.size hw.size)).mono ?_
        rintro v2 w3 ⟨r1, r2⟩
        refine ⟨fun d hd => ?_, fun d v hd hv => ?_, (keepsK_ext hw).trans (keepsK_grown r2 (ownsK_cells ho)), (Ext.ch hw).grown r2 (fun k hk => .inl (HNb.out _ (ho.lt k hk).1)), gby_heap r2 (heap_ext hw HBX.out) (fun e => own_ne ho (heap_ext hw HBX.out) (by decide) _ e rfl)⟩
        · cases hd
          exact ⟨_, (H3.out.imp fun u c h => own_other (OwnQ.ext hw _ _ h) ho (by decide) r2).append (RlC.one (own_other hoc ho (by decide) r2)), by rw [List.length_append]; exact r1⟩
        · have h25 : d ≠ 25 := fun e => by subst e; exact absurd hd (by decide)
          rw [show bkT w4.heap.size vb ls x (.slice xo x.cols.length xc) (0 + 1) d = Kn.any from bkT_1 h25]; trivial
      · refine StepG.phWrite [21, 22, 23, 24, 25] (by rfl) 1 (by decide) (by decide) (by rfl) rfl rfl fun ρ w2 hρ hF hf => ?_
        obtain ⟨cs, k1, k2⟩ : (Kn.bkL w4.heap.size (ls ++ [x])).holds (ρ (.tmp 25)) w2 := (hf 25).1 rfl
        have h4 : ρ (.tmp 4) = .pointer (some ⟨g4, 0, none⟩) := (hf 4).2 rfl rfl
        obtain ⟨f1, f2, f3⟩ := (hF : KeepsOthers W w2 ∧ Ch N W w2 ∧ w2.heap[g4]? = some (.cells #[vb] 22 (0, 0)))
        obtain ⟨vv, hvv⟩ : ∃ vv, vv = ρ (.tmp 25) := ⟨_, rfl⟩
        rw [← hvv] at k2
        have hne := own_ne k2 f3 (by decide)
        obtain ⟨vo, vc, rfl⟩ := owns_shape k2
        have hc4 : w2.cell? ⟨g4, 0, none⟩ = some vb := by rw [cell_of_row _ _ _ _ _ _ f3]; rfl
        have hfz : w2.frozen? ⟨g4, 0, none⟩ = false := frozen_of_row w2 g4 0 _ _ f3
        have hgb := gby_setCell w2 ⟨g4, 0, none⟩ (.slice vo (ls ++ [x]).length vc)
        obtain ⟨vbo, vbc, hvb⟩ := owns_shape H4.out
        refine Exec.skip (w' := w2.setCell ⟨g4, 0, none⟩ (.slice vo (ls ++ [x]).length vc)) ?_ ⟨(fun d hd => by cases hd), (fun d v _ _ => trivial), f1.trans (KeepsOthers.setCell w2 _ _), f2.setCell (p := ⟨g4, 0, none⟩) (.inl HN4.out) _, .slice vo (ls ++ [x]).length vc, cs, ?_, ?_, ?_⟩
        · rw [hvb] at hc4
          simp only [go_sem, hρ.const, h4, ← hvv]
          simp [go_sem, hc4, hfz]
        · exact heap_setCell_same w2 g4 0 _ _ _ f3
        · exact k1.imp fun u c h => World.ownsRow.kept h hgb (by
            cases hv : u.ownBlock with
            | none => exact .inl rfl
            | some k => exact .inr fun e => own_ne h f3 (by decide) k hv (Option.some.inj e))
        · refine k2.kept hgb ?_
          cases hv : (Value.slice vo (ls ++ [x]).length vc).ownBlock with
          | none => exact .inl rfl
          | some k => exact .inr fun e => hne k hv (Option.some.inj e)
    case fin =>
      intro ν w9 _ hF
      obtain ⟨f1, f2, v, cs, f3, f4, f5⟩ := (hF : KeepsOthers W w9 ∧ Ch N W w9 ∧ ∃ v cs, w9.heap[g4]? = some (.cells #[v] 22 (0, 0)) ∧ RlC (OwnQ w4.heap.size w9) (ls ++ [x]) cs ∧ w9.ownsRow w4.heap.size 33 5 v (ls ++ [x]).length cs)
      simp only [Exit.then, ended, List.foldl_cons, List.foldl_nil, List.setIfInBounds_toArray, List.set_cons_succ, List.set_cons_zero]
      rw [← HQ.out] at f4 f5
      gi_wp2
      exact ⟨f1.from _, f2, HCH.out.trans f2, v, cs, f3, f4, f5⟩
  case done =>
    rintro D ys W hD hys ⟨hch, vb, cs1, hbx, h3, h4⟩ hK
    subst hL
    rw [hys] at h3 h4
    obtain ⟨vo, vc, rfl⟩ := owns_shape h4
    have b4 : W.cell? ⟨g4, 0, none⟩ = some (.slice vo l.length vc) := by rw [cell_of_row _ _ _ _ _ _ hbx]; rfl
    have hn2 : ¬ N w.heap.size := fun hn => by have := HNo.out _ (by have := HS4.out; omega) hn; have := HG4E.out; omega
    have hn3 : ¬ N (w.heap.size + 1) := fun hn => by have := HNo.out _ (by have := HS4.out; omega) hn; have := HG4E.out; omega
    have ha : W.heap[w.heap.size]? = some (.cells #[.slice none 0 0] 22 (0, 0)) := (hch.block _ (by have := HS4.out; omega) hn2).trans HGA4.out
    have hb : W.heap[w.heap.size + 1]? = some (.cells #[.bool false] 4 (0, 0)) := (hch.block _ (by have := HS4.out; omega) hn3).trans HGB4.out
    have b2 : W.cell? ⟨w.heap.size, 0, none⟩ = some (.slice none 0 0) := by rw [cell_of_row _ _ _ _ _ _ ha]; rfl
    have f2 := frozen_of_row _ _ 0 _ _ ha
    have b3 : W.cell? ⟨w.heap.size + 1, 0, none⟩ = some (.bool false) := by rw [cell_of_row _ _ _ _ _ _ hb]; rfl
    have f3 := frozen_of_row _ _ 0 _ _ hb
    have HA := Lib.hid ha; have HB := Lib.hid hb; have H3 := Lib.hid h3; have H4 := Lib.hid h4; have HCH := Lib.hid hch; have HK := Lib.hid hK
    have hll := HOK.out.len
    clear ha hb h3 h4 hch hbx hys hn2 hn3
    generalize hln : l.length = n at *
    have HLN := Lib.hid hln; clear hln
    gi_wp2
    obtain ⟨W2, hW2⟩ : ∃ W2, W2 = (W.setCell ⟨w.heap.size, 0, none⟩ (.slice vo n vc)).setCell ⟨w.heap.size + 1, 0, none⟩ (.bool true) := ⟨_, rfl⟩
    rw [← hW2]
    have hxW : Ext w W := ((Ext.ch HX4.out).trans HCH.out).mono fun j hj h => by
      have h2 := HNo.out j (by have := HX4.out.size; omega) h
      have := HG4E.out
      omega
    have hxW2 : Ext w W2 := by rw [hW2]; exact (hxW.setCell (p := ⟨w.heap.size, 0, none⟩) (.inr (Nat.le_refl _)) _).setCell (p := ⟨w.heap.size + 1, 0, none⟩) (.inr (Nat.le_succ _)) _
    have e2 : W2.heap[w.heap.size]? = some (.cells #[.slice vo n vc] 22 (0, 0)) := by
      rw [hW2, (gby_setCell _ ⟨w.heap.size + 1, 0, none⟩ _).block w.heap.size (by have := (gby_setCell W ⟨w.heap.size, 0, none⟩ (.slice vo n vc)).size; have := HCH.out.size; have := HS4.out; omega) (fun e => by have := Option.some.inj e; simp only at this; omega)]
      exact heap_setCell_same W w.heap.size 0 _ _ _ HA.out
    have e3 : W2.heap[w.heap.size + 1]? = some (.cells #[.bool true] 4 (0, 0)) := by
      have hb : (W.setCell ⟨w.heap.size, 0, none⟩ (.slice vo n vc)).heap[w.heap.size + 1]? = some (.cells #[.bool false] 4 (0, 0)) := by
        rw [(gby_setCell W ⟨w.heap.size, 0, none⟩ (.slice vo n vc)).block (w.heap.size + 1) (by have := HCH.out.size; have := HS4.out; omega) (fun e => by have := Option.some.inj e; simp only at this; omega)]
        exact HB.out
      rw [hW2]
      exact heap_setCell_same _ (w.heap.size + 1) 0 _ _ _ hb
    have hk2 : W2.heap[D]? = some (.deferred (some [])) := by
      have h1 : W.heap[D]? = some (.deferred (some [])) := HK.out
      have hkk := ((KeepsOthers.setCell W ⟨w.heap.size, 0, none⟩ (.slice vo n vc)).trans (KeepsOthers.setCell _ ⟨w.heap.size + 1, 0, none⟩ (.bool true)))
      rw [hW2]
      exact (hkk.from 0).same _ _ (Nat.zero_le _) h1 rfl
    have e2' : (W2.putObj D (.deferred none)).heap[w.heap.size]? = some (.cells #[.slice vo n vc] 22 (0, 0)) := (World.putObj_heap_other (by have := HS4.out; omega)).trans e2
    have e3' : (W2.putObj D (.deferred none)).heap[w.heap.size + 1]? = some (.cells #[.bool true] 4 (0, 0)) := (World.putObj_heap_other (by have := HS4.out; omega)).trans e3
    have hx9 : Ext w (W2.putObj D (.deferred none)) := hxW2.grown (grownBy_putObj' W2 D (.deferred none)) (fun k e => by cases e; exact .inr (by have := HX4.out.size; omega))
    have hxR : RlS (ColS (W2.putObj D (.deferred none))) (W2.putObj D (.deferred none)) (.slice vo n vc) l := by
      have hne : ∀ {u : Value} {T : TypeId} {s m : Nat} {xs : List Value}, W.ownsRow w4.heap.size T s u m xs → (W2.putObj D (.deferred none)).ownsRow w4.heap.size T s u m xs := fun {u T s m xs} h => by
        have h1 : W2.ownsRow w4.heap.size T s u m xs := by
          rw [hW2]
          have := HS4.out
          exact (h.kept (gby_setCell W ⟨w.heap.size, 0, none⟩ (.slice vo n vc)) (.inr fun e => by have := (h.lt _ e).1; simp only at this; omega)).kept (gby_setCell _ ⟨w.heap.size + 1, 0, none⟩ (.bool true)) (.inr fun e => by have := (h.lt _ e).1; simp only at this; omega)
        exact own_keptK h1 (grownBy_putObj' W2 D (.deferred none)) (fun r e => by cases e; exact ⟨_, hk2, rfl⟩)
      refine ⟨cs1, H3.out.imp fun u c h => Sl.ofOwns (hne h), ?_⟩
      rw [HLN.out]
      exact Sl.ofOwns (hne H4.out)
    clear b2 f2 b3 f3 b4
    refine ⟨by simp, .inl ⟨_, _, rfl, run_takeDeferred hk2, ?_⟩⟩
    have c2 : (W2.putObj D (.deferred none)).cell? ⟨w.heap.size, 0, none⟩ = some (.slice vo n vc) := by rw [cell_of_row _ _ _ _ _ _ e2']; rfl
    have c3 : (W2.putObj D (.deferred none)).cell? ⟨w.heap.size + 1, 0, none⟩ = some (.bool true) := by rw [cell_of_row _ _ _ _ _ _ e3']; rfl
    refine ⟨.tuple #[.slice vo n vc, .bool true], ?_, hx9, _, rfl, hxR⟩
    generalize W2.putObj D (.deferred none) = W3 at *
    clear hxR hx9 e2' e3' hk2 e2 e3 hW2
    simp [results, Try.f15, go_sem, asAddr, c2, c3]
end Go.Proofs.Ytegclfpmgilnpaa
