/-
  Relations: the document's Decode.
-/
import Derived.Test.YtcejjckhhdgdnaaGRelC
import Derived.Test.YtcejjckhhdgdnaaGRelD
import Derived.Test.YtcejjckhhdgdnaaGRef
namespace Go.Proofs.Ytcejjckhhdgdnaa
open Go.RowKit Go.Lac

theorem IsQ.above {w w' : World} {q : Nat} {s : RS} (h : IsQ w q s) (k : Ch (fun i => q < i) w w') : IsQ w' q s := by
  have hlt := h.lt
  obtain ⟨lv, bs, a, h1, ⟨h2, h5⟩, h3⟩ := h
  refine ⟨lv, bs, a, by rw [k.block q hlt (fun f => by omega)]; exact h1, ⟨?_, h5⟩, h3⟩
  obtain ⟨ao, cap, g1, g2, g3, g4, g5⟩ := h2
  refine ⟨ao, cap, g1, g2, g3, g4, fun x hx j c hc => ?_⟩
  obtain ⟨b, off, rfl, g6⟩ := g5 x hx j c hc
  refine ⟨b, off, rfl, k.cell (p := ⟨b, off + j, none⟩) ?_ c g6⟩
  have hne : bs ≠ [] := fun e => by subst e; simp [cellsB] at hc
  have := h5.2 hne ⟨b, off, none⟩ bs.length cap (by rw [g1, hx])
  show ¬ q < b
  simp only at this
  omega
theorem IsQ.row {w : World} {q : Nat} {s : RS} (h : IsQ w q s) : ∃ c, w.heap[q]? = some (.cells c 112 (0, 0)) := by
  obtain ⟨lv, bs, a, h1, _⟩ := h; exact ⟨_, h1⟩
theorem own_notq {w w' : World} {base q : Nat} {e T : TypeId} {size : Nat} {v : Value} {n : Nat} {xs : List Value} (h : w.ownsRow base e size v n xs) (hq : ∃ c, w.heap[q]? = some (.cells c T (0, 0))) (hT : T ≠ e) (k : Only q w w') : w'.ownsRow base e size v n xs := by
  refine ⟨h.1, ?_⟩
  rcases h.2 with h1 | ⟨g, cap, cur, h1, h2, h3, h4⟩
  · exact .inl h1
  · obtain ⟨c, hc⟩ := hq
    exact .inr ⟨g, cap, cur, h1, h2, heap_only k (fun e => by rw [e, hc] at h3; cases h3; exact hT rfl) h3, h4⟩
/-- While the document takes a relation. -/
structure TqS (TD : TypeId) (w wr : World) (q g2 g3 : Nat) (s : RS) (x : Rl) (v z : Value) : Prop where
  ext : Ext w wr
  isq : IsQ wr q s
  res : wr.heap[g2]? = some (.cells (relv .zero z) TD (0, 0))
  box : wr.heap[g3]? = some (.cells (relv x v) TD (0, 0))
section
variable {TD : TypeId} {w wr w' : World} {q g2 g3 : Nat} {s s' : RS} {x : Rl} {v z : Value}
theorem TqS.call (h : TqS TD w wr q g2 g3 s x v z) (k : Only q wr w') (hi : IsQ w' q s') (hq : w.heap.size ≤ q) (h2 : g2 ≠ q) (h3 : g3 ≠ q) : TqS TD w w' q g2 g3 s' x v z :=
  ⟨h.ext.transOnly k hq, hi, heap_only k h2 h.res, heap_only k h3 h.box⟩
theorem TqS.more (h : TqS TD w wr q g2 g3 s x v z) (k : Ext wr w') : TqS TD w w' q g2 g3 s x v z :=
  ⟨h.ext.trans k, h.isq.ext k, heap_ext k h.res, heap_ext k h.box⟩
theorem TqS.set {x' : Rl} {v' : Value} (h : TqS TD w wr q g2 g3 s x v z) (i : Nat) (u : Value) (hr : q < g3) (h3 : w.heap.size ≤ g3) (h23 : g2 ≠ g3) (he : (relv x v).setIfInBounds i u = relv x' v') : TqS TD w (wr.setCell ⟨g3, i, none⟩ u) q g2 g3 s x' v' z := by
  refine ⟨h.ext.setCell (.inr h3) _, h.isq.above ((Ch.refl _ _).setCell (.inl hr) _), ?_, ?_⟩
  · rw [(gby_setCell wr ⟨g3, i, none⟩ u).block g2 (Array.getElem?_eq_some_iff.1 h.res).1 (fun e => h23 (Option.some.inj e))]; exact h.res
  · have := heap_setCell_same wr g3 i _ _ u h.box
    rwa [he] at this
theorem TqS.cells (h : TqS TD w wr q g2 g3 s x v z) : wr.cell? ⟨g3, 0, none⟩ = some (.int .u32 (x.oid : Nat)) ∧ wr.cell? ⟨g3, 1, none⟩ = some (.int .u32 (x.ver : Nat)) ∧ wr.cell? ⟨g3, 2, none⟩ = some (.string ⟨x.name.toArray⟩) ∧
    wr.cell? ⟨g3, 3, none⟩ = some (.int .u8 (x.ident : Nat)) ∧ wr.cell? ⟨g3, 4, none⟩ = some v := row_cells h.box
theorem TqS.fz (h : TqS TD w wr q g2 g3 s x v z) (i : Nat) : wr.frozen? ⟨g3, i, none⟩ = false := frozen_of_row wr g3 i _ _ h.box
end
theorem build_rq (w : World) (a : Option Addr) (n c : Nat) : (Instr.build 112 #[(0, .slice a n c)]).run Try.prog w = .ok (.agg #[.slice a n c, .int .i64 0, .int .i64 0]) w := by kernel_rfl
theorem build_rr0 (w : World) : (Instr.build 27 #[]).run Try.prog w = .ok (.agg #[.int .u32 0, .int .u32 0, .string ⟨#[]⟩, .int .u8 0, .slice none 0 0]) w := by kernel_rfl

set_option maxRecDepth 20000 in
set_option maxHeartbeats 8000000 in
theorem rDec_any (vb : Value) (b : List UInt8) (w : World) (hb : Rd w vb b) (hst : Strict vb) :
    Calls Try.prog 24 #[vb] w (DecPost 27 (rlDec b).1 (rlDec b).2 w) := by
  obtain ⟨ao, cap, rfl⟩ := hb.shape
  obtain ⟨W, hW⟩ : ∃ W, W = ((w.alloc (.cells (relv .zero (.slice none 0 0)) 27)).alloc (.cells #[.slice ao b.length cap, .int .i64 0, .int .i64 0] 112)).alloc (.cells (relv .zero (.slice none 0 0)) 27) := ⟨_, rfl⟩
  obtain ⟨ga, gb, gc⟩ := heap_alloc3 w (.cells (relv .zero (.slice none 0 0)) 27) (.cells #[.slice ao b.length cap, .int .i64 0, .int .i64 0] 112) (.cells (relv .zero (.slice none 0 0)) 27)
  rw [← hW] at ga gb gc
  have hx : Ext w W := by rw [hW]; exact (((Ch.refl _ _).alloc _).alloc _).alloc _
  have hq : IsQ W (w.heap.size + 1) (b, 0) := ⟨_, b, 0, gb, ⟨hb.ext hx, hst, fun hne x l c hx => by have := rd_low hb hne x l c hx; omega⟩, Nat.zero_le _, by simp⟩
  have h0 : TqS 27 w W (w.heap.size + 1) w.heap.size (w.heap.size + 1 + 1) (b, 0) .zero (.slice none 0 0) (.slice none 0 0) := ⟨hx, hq, ga, gc⟩
  have HW : Hid (W = ((w.alloc (.cells #[.int .u32 0, .int .u32 0, .string ⟨#[]⟩, .int .u8 0, .slice none 0 0] 27)).alloc (.cells #[.slice ao b.length cap, .int .i64 0, .int .i64 0] 112)).alloc (.cells #[.int .u32 0, .int .u32 0, .string ⟨#[]⟩, .int .u8 0, .slice none 0 0] 27)) := Lib.hid hW
  have H0 := Lib.hid h0
  have HD : Hid ((endR (rlR (b, 0)).2 ≠ 0 → rlDec b = (Rl.zero, endR (rlR (b, 0)).2)) ∧ (endR (rlR (b, 0)).2 = 0 → rlErr (rlR (b, 0)).1 ≠ 0 → rlDec b = (Rl.zero, ((rlErr (rlR (b, 0)).1 : Nat) : Int))) ∧ (endR (rlR (b, 0)).2 = 0 → rlErr (rlR (b, 0)).1 = 0 → rlDec b = ((rlR (b, 0)).1, 0))) := Lib.hid (by
    unfold rlDec
    refine ⟨fun h => by rw [if_pos h], fun h h' => by rw [if_neg (by simpa using h), if_pos h'], fun h h' => by rw [if_neg (by simpa using h), if_neg (by simpa using h')]⟩)
  have HFT := Lib.hid (rlR_fits (b, 0))
  obtain ⟨DD, hDD⟩ : ∃ DD, DD = rlDec b := ⟨_, rfl⟩
  rw [← hDD] at HD ⊢
  obtain ⟨s, hs⟩ : ∃ s : RS, s = (b, 0) := ⟨_, rfl⟩
  rw [← hs] at HD HFT H0
  rcases hr1 : rl1 s with ⟨x1, s1⟩
  rcases hr2 : rl1 s1 with ⟨x2, s2⟩
  rcases hr3 : textR 31 s2 with ⟨x3, s3⟩
  rcases hr4 : byteR s3 with ⟨x4, s4⟩
  rcases hr5 : uintR 16 s4 with ⟨x5, s5⟩
  rcases hr6 : colsR x5 s5 with ⟨x6, s6⟩
  have hR : rlR s = (⟨x1, x2, x3, x4, x6⟩, s6) := by unfold rlR; simp only [hr1, hr2, hr3, hr4, hr5, hr6]
  have l1 : x1 ≤ 4294967295 := by have := uintR_le 4294967295 s; rw [show uintR 4294967295 s = (x1, s1) from hr1] at this; exact this
  have l2 : x2 ≤ 4294967295 := by have := uintR_le 4294967295 s1; rw [show uintR 4294967295 s1 = (x2, s2) from hr2] at this; exact this
  have l5 : x5 ≤ 16 := by have := uintR_le 16 s4; rw [hr5] at this; exact this
  have hv1 : IntKind.u32.wrap (x1 : Int) = (x1 : Int) := by rw [IntKind.wrap_u32]; omega
  have hv2 : IntKind.u32.wrap (x2 : Int) = (x2 : Int) := by rw [IntKind.wrap_u32]; omega
  have HQQ : ∃ q, q = w.heap.size + 1 := ⟨_, rfl⟩
  have C1 : Hid (∀ w' , IsQ w' (w.heap.size + 1) s → Calls Try.prog 61 #[.pointer (some ⟨w.heap.size + 1, 0, none⟩), .int .u64 4294967295] w' (QPost (w.heap.size + 1) (.int .u64 x1) s1 w')) := Lib.hid fun w' h => by have := quint_any _ s 4294967295 w' h (by decide); rw [show uintR 4294967295 s = (x1, s1) from hr1] at this; exact this
  have C2 : Hid (∀ w' , IsQ w' (w.heap.size + 1) s1 → Calls Try.prog 61 #[.pointer (some ⟨w.heap.size + 1, 0, none⟩), .int .u64 4294967295] w' (QPost (w.heap.size + 1) (.int .u64 x2) s2 w')) := Lib.hid fun w' h => by have := quint_any _ s1 4294967295 w' h (by decide); rw [show uintR 4294967295 s1 = (x2, s2) from hr2] at this; exact this
  have C3 : Hid (∀ w' , IsQ w' (w.heap.size + 1) s2 → Calls Try.prog 62 #[.pointer (some ⟨w.heap.size + 1, 0, none⟩), .int .i64 31] w' (QPost (w.heap.size + 1) (strV x3) s3 w')) := Lib.hid fun w' h => by have := qtext_any _ s2 31 w' h (by decide); rw [show ((31 : Int)).toNat = 31 from rfl, hr3] at this; exact this
  have C4 : Hid (∀ w' , IsQ w' (w.heap.size + 1) s3 → Calls Try.prog 63 #[.pointer (some ⟨w.heap.size + 1, 0, none⟩)] w' (QPost (w.heap.size + 1) (.int .u8 x4) s4 w')) := Lib.hid fun w' h => by have := qbyte_any _ s3 w' h; rw [hr4] at this; exact this
  have C5 : Hid (∀ w' , IsQ w' (w.heap.size + 1) s4 → Calls Try.prog 61 #[.pointer (some ⟨w.heap.size + 1, 0, none⟩), .int .u64 16] w' (QPost (w.heap.size + 1) (.int .u64 x5) s5 w')) := Lib.hid fun w' h => by have := quint_any _ s4 16 w' h (by decide); rw [hr5] at this; exact this
  have H6 := Lib.hid hr6
  rw [hR] at HD HFT
  simp only at HD HFT
  have HB := Lib.hid hb
  generalize b.length = n at *
  have bq := fun w => build_rq w ao n cap
  clear hx h0 hr1 hr2 hr3 hr4 hr5 hr6 hR hW l1 l2 ga gb gc hq hDD hs hst hb
  go_enter Try.func24, Try.ntmps24
  go_wp2_with fail
  rw [← HW.out]
  refine (C1.out _ H0.out.isq).mono ?_
  rintro e w1 ⟨rfl, k1, k2⟩
  have T1 := Lib.hid (H0.out.call k1 k2 (by omega) (by omega) (by omega))
  clear k1 k2 C1 bq
  have z0 := T1.out.cells.1
  have f0 := T1.out.fz 0
  go_wp2_with fail
  have T1b := Lib.hid (T1.out.set (x' := ⟨x1, 0, [], 0, []⟩) (v' := .slice none 0 0) 0 (.int .u32 (x1 : Nat)) (by omega) (by omega) (by omega) rfl)
  refine (C2.out _ T1b.out.isq).mono ?_
  rintro e w2 ⟨rfl, k1, k2⟩
  have T2 := Lib.hid (T1b.out.call k1 k2 (by omega) (by omega) (by omega))
  clear k1 k2 C2 z0 f0
  have z0 := T2.out.cells.2.1
  have f0 := T2.out.fz 1
  go_wp2_with fail
  have T2b := Lib.hid (T2.out.set (x' := ⟨x1, x2, [], 0, []⟩) (v' := .slice none 0 0) 1 (.int .u32 (x2 : Nat)) (by omega) (by omega) (by omega) rfl)
  refine (C3.out _ T2b.out.isq).mono ?_
  rintro e w3 ⟨rfl, k1, k2⟩
  have T3 := Lib.hid (T2b.out.call k1 k2 (by omega) (by omega) (by omega))
  clear k1 k2 C3 z0 f0
  have z0 := T3.out.cells.2.2.1
  have f0 := T3.out.fz 2
  unfold strV
  go_wp2_with fail
  have T3b := Lib.hid (T3.out.set (x' := ⟨x1, x2, x3, 0, []⟩) (v' := .slice none 0 0) 2 (.string ⟨x3.toArray⟩) (by omega) (by omega) (by omega) rfl)
  refine (C4.out _ T3b.out.isq).mono ?_
  rintro e w4 ⟨rfl, k1, k2⟩
  have T4 := Lib.hid (T3b.out.call k1 k2 (by omega) (by omega) (by omega))
  clear k1 k2 C4 z0 f0
  have z0 := T4.out.cells.2.2.2.1
  have f0 := T4.out.fz 3
  go_wp2_with fail
  have T4b := Lib.hid (T4.out.set (x' := ⟨x1, x2, x3, x4, []⟩) (v' := .slice none 0 0) 3 (.int .u8 (x4 : Nat)) (by omega) (by omega) (by omega) rfl)
  refine (C5.out _ T4b.out.isq).mono ?_
  rintro e w5 ⟨rfl, k1, k2⟩
  have T5 := Lib.hid (T4b.out.call k1 k2 (by omega) (by omega) (by omega))
  clear k1 k2 C5 z0 f0
  go_wp2
  obtain ⟨x, hxq⟩ : ∃ x, x = (⟨x1, x2, x3, x4, []⟩ : Rl) := ⟨_, rfl⟩
  rw [← hxq] at T5
  have HQE := Lib.hid hxq
  obtain ⟨di, dxi, dz, dxs, db⟩ := info_parts infoRCZ
  have CDI := Lib.hid dxi; have CDZ := Lib.hid dz; have CDS := Lib.hid dxs; have CDB := Lib.hid db
  clear hxq dxi dz dxs db T1 T1b T2 T2b T3 T3b T4 T4b HW H0 HB HQQ hv1 hv2
  go_loopw [7] (fun ix wr => ∃ (k : Nat) (l : List Col) (v' : Value) (sk : RS), k ≤ x5 ∧ ix = .int .u64 k ∧ Hid (l.length = k) ∧ Hid ((l ++ (colsR (x5 - k) sk).1, (colsR (x5 - k) sk).2) = (x6, s6)) ∧
    Hid (TqS 27 w wr (w.heap.size + 1) w.heap.size (w.heap.size + 1 + 1) sk x v' (.slice none 0 0)) ∧ Hid (wr.ownsRow w.heap.size 50 3 v' k (colC l))) (fun ix _ => x5 - (intOf ix).toNat)
  case atStart => exact ⟨0, [], .slice none 0 0, s5, Nat.zero_le _, rfl, Lib.hid rfl, Lib.hid (by simp [H6.out]), T5, Lib.hid (World.ownsRow_nil _ _ _ _)⟩
  case round =>
    obtain ⟨k, l, v', sk, hk, rfl, HLL, HCR, TK, HOW⟩ := hrel
    by_cases hlt : k < x5
    · rcases hct : textR 31 sk with ⟨cn, sm⟩
      rcases hcb : byteR sm with ⟨cb, sk'⟩
      have hcr : colR sk = (⟨cn, cb % 128, decide (128 ≤ cb)⟩, sk') := by unfold colR; simp only [hct, hcb]
      have hcb256 : cb < 256 := by have := byteR_lt sm; rw [hcb] at this; exact this
      have E1 : Hid (∀ w', IsQ w' (w.heap.size + 1) sk → Calls Try.prog 62 #[.pointer (some ⟨w.heap.size + 1, 0, none⟩), .int .i64 31] w' (QPost (w.heap.size + 1) (.string ⟨cn.toArray⟩) sm w')) := Lib.hid fun w' h => by have := qtext_any _ sk 31 w' h (by decide); rw [show ((31 : Int)).toNat = 31 from rfl, hct] at this; exact this
      have E2 : Hid (∀ w', IsQ w' (w.heap.size + 1) sm → Calls Try.prog 63 #[.pointer (some ⟨w.heap.size + 1, 0, none⟩)] w' (QPost (w.heap.size + 1) (.int .u8 cb) sk' w')) := Lib.hid fun w' h => by have := qbyte_any _ sm w' h; rw [hcb] at this; exact this
      have HNX : Hid (((l ++ [(⟨cn, cb % 128, decide (128 ≤ cb)⟩ : Col)]) ++ (colsR (x5 - (k + 1)) sk').1, (colsR (x5 - (k + 1)) sk').2) = (x6, s6)) := Lib.hid (by
        have := HCR.out
        rw [show x5 - k = (x5 - (k + 1)) + 1 by omega, colsR, hcr] at this
        simpa using this)
      have HLT := Lib.hid hlt
      have HK16 : Hid (k < 16) := Lib.hid (by omega)
      obtain ⟨dd, hdd⟩ : ∃ dd, dd = decide (128 ≤ cb) := ⟨_, rfl⟩
      obtain ⟨mm, hmm⟩ : ∃ mm, mm = cb % 128 := ⟨_, rfl⟩
      have hm1 : (cb : Int) % 128 = (mm : Int) := by rw [hmm]; rfl
      have hm2 : (cb : Int).tmod 128 = (mm : Int) := by rw [hmm]; rfl
      have hd1 : decide ((127 : Int) < (cb : Int)) = dd := by rw [hdd, decide_eq_decide]; omega
      rw [← hdd, ← hmm] at HNX
      obtain ⟨c, hc⟩ : ∃ c, c = (⟨cn, mm, dd⟩ : Col) := ⟨_, rfl⟩
      rw [← hc] at HNX
      have HCE := Lib.hid hc
      clear hct hcb hcr HCR hcb256 hdd hmm hc
      go_wp2_with fail
      refine (E1.out _ TK.out.isq).mono ?_
      rintro e w6 ⟨rfl, k1, k2⟩
      have TK1 := Lib.hid (TK.out.call k1 k2 (by omega) (by omega) (by omega))
      have HO1 : Hid (w6.ownsRow w.heap.size 50 3 v' k (colC l)) := Lib.hid (own_notq HOW.out TK.out.isq.row (by decide) k1)
      clear k1 k2 E1
      go_wp2_with fail
      refine (E2.out _ TK1.out.isq).mono ?_
      rintro e w7 ⟨rfl, k1, k2⟩
      have TK2 := Lib.hid (TK1.out.call k1 k2 (by omega) (by omega) (by omega))
      have HO2 : Hid (w7.ownsRow w.heap.size 50 3 v' k (colC l)) := Lib.hid (own_notq HO1.out TK1.out.isq.row (by decide) k1)
      clear k1 k2 E2 TK TK1 HOW HO1
      obtain ⟨av, cvv, rfl⟩ := owns_shape HO2.out
      have z0 := TK2.out.cells.2.2.2.2
      have f0 := TK2.out.fz 4
      have bd := fun w => buildBk w ⟨cn.toArray⟩ (mm : Nat) dd
      have bo := fun w => oneBk w ⟨cn.toArray⟩ (mm : Nat) dd
      have hal := HO2.out.alloc (.cells (colv c) 50)
      have hcs : ColS (w7.alloc (.cells (colv c) 50)) (.slice (some ⟨w7.heap.size, 0, none⟩) 1 1) [c] := colS_heap (l := [c]) (T := 50) (heap_alloc_new w7 _) (by unfold maxLen; simp)
      have hcv : colv c = #[.string ⟨cn.toArray⟩, .int .u8 (mm : Nat), .bool dd] := by rw [HCE.out]; rfl
      rw [hcv] at hal hcs
      have HAL := Lib.hid hal; have HCS := Lib.hid hcs
      clear hal hcs hcv
      go_wp2_with (at_builtin; refine wpList_append_sl _ rfl _ _ 25 rfl w.heap.size 50 di (.agg #[.string ⟨#[]⟩, .int .u8 0, .bool false]) 3 24 Try.underlying25 CDI.out CDZ.out CDS.out CDB.out rfl (by decide) _ _ _ rfl HAL.out _ 1 _ rfl HCS.out (by rfl) (colC_one _) (by have := HK16.out; omega) (by have := HK16.out; unfold maxLen; omega) (by have := TK2.out.ext.size; simp; omega) ?_)
      intro v8 w8 hown hgrow
      have hne1 := own_ne HO2.out TK2.out.res (by decide)
      have hne2 := own_ne HO2.out TK2.out.box (by decide)
      obtain ⟨cq, hcq⟩ := TK2.out.isq.row
      have hne3 := own_ne HO2.out hcq (by decide)
      have ha : Ext w7 (w7.alloc (.cells #[.string ⟨cn.toArray⟩, .int .u8 (mm : Nat), .bool dd] 50)) := (Ch.refl _ _).alloc _
      have TK3 : Hid (TqS 27 w w8 (w.heap.size + 1) w.heap.size (w.heap.size + 1 + 1) sk' x (.slice av k cvv) (.slice none 0 0)) := Lib.hid ⟨(TK2.out.ext.trans ha).grown hgrow (fun kk hk => .inr (HO2.out.lt kk hk).1),
        TK2.out.isq.above (((Ch.refl _ _).alloc _).grown hgrow fun kk hk => .inl (by
          have h1 := (HO2.out.lt kk hk).1
          have h2 := hne1 kk hk
          have h3 := hne3 kk hk
          omega)), gby_heap hgrow (heap_ext ha TK2.out.res) (fun e => hne1 _ e rfl), gby_heap hgrow (heap_ext ha TK2.out.box) (fun e => hne2 _ e rfl)⟩
      rw [← colC_append] at hown
      obtain ⟨g8, c8, rfl⟩ := ownsRow_succ' hown
      have HO3 := Lib.hid hown
      clear hne1 hne2 hne3 hcq ha hown hgrow z0 f0 bd bo TK2 HO2 HAL HCS hm1 hm2 hd1
      have z0 := TK3.out.cells.2.2.2.2
      have f0 := TK3.out.fz 4
      have hk16 := HK16.out
      have hw64 : IntKind.u64.wrap ((k : Int) + 1) = ((k + 1 : Nat) : Int) := by rw [IntKind.wrap_u64]; omega
      go_wp2
      have TK4 := Lib.hid (TK3.out.set (x' := x) (v' := .slice (some ⟨g8, 0, none⟩) (k + 1) c8) 4 (.slice (some ⟨g8, 0, none⟩) (k + 1) c8) (by omega) (by omega) (by omega) rfl)
      have HO4 := HO3.out.kept (gby_setCell w8 ⟨w.heap.size + 1 + 1, 4, none⟩ (.slice (some ⟨g8, 0, none⟩) (k + 1) c8)) (.inr (fun e => own_ne HO3.out TK3.out.box (by decide) g8 rfl (Option.some.inj e)))
      exact ⟨⟨k + 1, l ++ [c], .slice (some ⟨g8, 0, none⟩) (k + 1) c8, sk', HLT.out, rfl, Lib.hid (by simp [HLL.out]), HNX, TK4, Lib.hid HO4⟩, by simp only [intOf]; have := HLT.out; omega⟩
    · obtain rfl : k = x5 := by omega
      obtain ⟨av, cv', rfl⟩ := owns_shape HOW.out
      have hxx := HCR.out
      rw [Nat.sub_self, colsR] at hxx
      simp only [List.append_nil, Prod.mk.injEq] at hxx
      obtain ⟨rfl, rfl⟩ := hxx
      have HEN := Lib.hid (qend_any _ sk wr TK.out.isq)
      unfold QPtr at HEN
      obtain ⟨Q, hQ⟩ : ∃ Q, Q = (⟨x1, x2, x3, x4, l⟩ : Rl) := ⟨_, rfl⟩
      rw [← hQ] at HD HFT
      have hQl : Q.cols.length = k := by rw [hQ]; exact HLL.out
      have HQR : Hid (∀ v, relv x v = relv Q v) := Lib.hid fun v => by rw [hQ, HQE.out]; rfl
      have HOQ : Hid (wr.ownsRow w.heap.size 50 3 (.slice av Q.cols.length cv') Q.cols.length (colC Q.cols)) := Lib.hid (by have := HOW.out; rw [hQl]; rw [hQ]; exact this)
      have HQL := Lib.hid hQl
      clear hQ H6 HOW HCR HLL hQl
      go_wp2_with fail
      refine HEN.out.mono ?_
      rintro e w9 ⟨rfl, dn, rfl⟩
      have hxd : Ext wr (wr.drewN dn) := ext_drewN wr dn
      have TK2 := Lib.hid (TK.out.more hxd); have HO2 := Lib.hid (HOQ.out.ext hxd)
      clear HEN hxd
      by_cases he : endR sk = 0
      case neg =>
        have en : (endR sk != 0) = true := by simpa using he
        have HDE := Lib.hid (HD.out.1 he)
        clear HD he
        generalize endR sk = E at *
        have b0 := fun w => build_rr0 w
        go_wp2_with (refine wpList_store_rowTo rfl _ _ _ rfl rfl w.heap.size (relv .zero (.slice none 0 0)) rfl rfl _ _ TK2.out.res infoBk rfl (relv_one _ _ _ _) ?_)
        refine bodyPost_ret (results_row_tmp rfl _ _ w.heap.size _ (relv .zero (.slice none 0 0)) _ _ rfl (setRow_heap _ _ _ _ _ _ TK2.out.res) Try.underlying27 rfl infoBk) rfl ?_
        rw [HDE.out]
        exact ⟨.slice none 0 0, rfl, TK2.out.ext.setRow (.inr (Nat.le_refl _)) _, colS_nil _⟩
      have HDD := Lib.hid (And.intro (HD.out.2.1 he) (HD.out.2.2 he))
      rw [he]
      clear HD he
      have hbx := TK2.out.box
      rw [HQR.out, ← HQL.out] at hbx
      have HBX := Lib.hid hbx
      obtain ⟨d0, d1, d2, d3, d4⟩ := row_cells hbx
      have HRT := Lib.hid (rRight_any Q (.slice av Q.cols.length cv') (wr.drewN dn) (Sl.ofOwns HO2.out) HFT.out)
      unfold relv strV at HRT
      clear hbx
      go_wp2_with fail
      refine HRT.out.mono ?_
      rintro e w10 ⟨rfl, hx10⟩
      have HX10 := Lib.hid (TK2.out.ext.trans hx10); have HR10 := Lib.hid (heap_ext hx10 TK2.out.res); have HB10 := Lib.hid (heap_ext hx10 HBX.out); have HO10 := Lib.hid (HO2.out.ext hx10)
      clear hx10 d0 d1 d2 d3 d4 HRT TK2 HO2 HBX TK HOQ
      by_cases he2 : rlErr Q = 0
      case neg =>
        have en : (((rlErr Q : Nat) : Int) != 0) = true := by simp; omega
        have HDE := Lib.hid (HDD.out.1 he2)
        clear HDD he2
        generalize rlErr Q = E at *
        have b0 := fun w => build_rr0 w
        go_wp2_with (refine wpList_store_rowTo rfl _ _ _ rfl rfl w.heap.size (relv .zero (.slice none 0 0)) rfl rfl _ _ HR10.out infoBk rfl (relv_one _ _ _ _) ?_)
        refine bodyPost_ret (results_row_tmp rfl _ _ w.heap.size _ (relv .zero (.slice none 0 0)) _ _ rfl (setRow_heap _ _ _ _ _ _ HR10.out) Try.underlying27 rfl infoBk) rfl ?_
        rw [HDE.out]
        exact ⟨.slice none 0 0, rfl, HX10.out.setRow (.inr (Nat.le_refl _)) _, colS_nil _⟩
      have HDE := Lib.hid (HDD.out.2 he2)
      rw [he2, Int.natCast_zero]
      clear HDD he2
      obtain ⟨d0, d1, d2, d3, d4⟩ := row_cells HB10.out
      go_wp2_with (refine wpList_store_rowTo rfl _ _ _ rfl rfl w.heap.size (relv Q (.slice av Q.cols.length cv')) rfl rfl _ _ HR10.out infoBk rfl (relv_one _ _ _ _) ?_)
      refine bodyPost_ret (results_row_tmp rfl _ _ w.heap.size _ (relv Q (.slice av Q.cols.length cv')) _ _ rfl (setRow_heap _ _ _ _ _ _ HR10.out) Try.underlying27 rfl infoBk) rfl ?_
      rw [HDE.out]
      refine ⟨_, rfl, HX10.out.setRow (.inr (Nat.le_refl _)) _, ?_⟩
      exact Sl.ofOwns (HO10.out.kept (gby_setRow w10 w.heap.size _) (.inr (fun e => own_ne HO10.out HR10.out (by decide) _ e rfl)))
end Go.Proofs.Ytcejjckhhdgdnaa
