/-
  Catalogs: Only.
-/
import Derived.Test.YtegclfpmgilnpaaCatU
namespace Go.Proofs.Ytegclfpmgilnpaa
open Go.RowKit Go.Lac Go.Shelf
attribute [local go_sem] Oper.semAt_some

def onT (base go : Nat) (vb : Value) (l : List Rl) (r : Rl) (c : Value) : Nat → Tmp → Kn
  | 0, 36 => .is (.pointer (some ⟨go, 0, none⟩))
  | 0, 37 => .is (.pointer (some ⟨go, 0, none⟩))
  | 0, 38 => .is (.pointer (some ⟨go, 0, none⟩))
  | 0, 39 => .is (.pointer (some ⟨go, 0, none⟩))
  | 0, 40 => .is vb
  | 0, 41 => .is (.agg (relv r c))
  | 0, 42 => Kn.oneF base r
  | 0, 44 => .is (.pointer (some ⟨go, 0, none⟩))
  | 0, 45 => .is (.pointer (some ⟨go, 0, none⟩))
  | 1, 36 => .is (.pointer (some ⟨go, 0, none⟩))
  | 1, 43 => Kn.catF base (l ++ [r]).length (l ++ [r])
  | 1, 44 => .is (.pointer (some ⟨go, 0, none⟩))
  | 1, 45 => .is (.pointer (some ⟨go, 0, none⟩))
  | _, _ => .any
theorem onT_1 {base go : Nat} {vb : Value} {l : List Rl} {r : Rl} {c : Value} {d : Tmp} (h : d ≠ 43) (h1 : d ≠ 36) (h2 : d ≠ 44) (h3 : d ≠ 45) : onT base go vb l r c 1 d = .any := by
  unfold onT
  split <;> first | rfl | contradiction | (rename_i h1 _ ; cases h1) | (rename_i h1; cases h1)
def onN (N : Nat → Prop) (base go g10 : Nat) (vb : Value) (l : List Rl) (r : Rl) (W : World) : Nat → World → Prop
  | 0, w => Ext W w
  | 1, w => KeepsOthers W w ∧ Ch N W w ∧ w.heap[g10]? = some (.cells #[.pointer (some ⟨go, 0, none⟩)] 27 (0, 0)) ∧ w.heap[go]? = some (.cells #[vb] 103 (0, 0))
  | _, w => KeepsOthers W w ∧ Ch N W w ∧ w.heap[g10]? = some (.cells #[.pointer (some ⟨go, 0, none⟩)] 27 (0, 0)) ∧ ∃ v cs, w.heap[go]? = some (.cells #[v] 103 (0, 0)) ∧ RlC (OwnP base w) (l ++ [r]) cs ∧ w.ownsRow base 39 5 v (l ++ [r]).length cs
theorem onN_ext {N : Nat → Prop} {base go g10 : Nat} {vb : Value} {l : List Rl} {r : Rl} {W : World} : ∀ p w w', onN N base go g10 vb l r W p w → Ext w w' → onN N base go g10 vb l r W p w'
  | 0, _, _, h, hx => Ch.trans h hx
  | 1, _, _, ⟨h1, h2, h3, h4⟩, hx => ⟨h1.trans (keepsK_ext hx), h2.trans (Ext.ch hx), heap_ext hx h3, heap_ext hx h4⟩
  | _ + 2, _, _, ⟨h1, h2, h0, v, cs, h3, h4, h5⟩, hx => ⟨h1.trans (keepsK_ext hx), h2.trans (Ext.ch hx), heap_ext hx h0, v, cs, heap_ext hx h3, h4.imp (OwnP.ext hx), h5.ext hx⟩
theorem fieldCt3 (w : World) (b : Nat) : (Instr.fieldAt 103 (.pointer (some ⟨b, 0, none⟩)) 0).run Try.prog w = .ok (.pointer (some ⟨b, 0, none⟩)) w := by kernel_rfl
theorem all_at (w : World) (g : Nat) (ao : Option Addr) (n cap : Nat) (h3 : w.heap[g]? = some (.cells #[.slice ao n cap] 103 (0, 0))) :
    Calls Try.prog 53 #[.pointer (some ⟨g, 0, none⟩)] w fun e w' => ∃ g', e = .returned (.func (.func 82) #[] #[.pointer (some ⟨g', 0, none⟩)]) ∧ Ext w w' ∧ w.heap.size ≤ g' ∧ w'.heap[g']? = some (.cells #[.slice ao n cap] 62 (0, 0)) := by
  have c0 : w.cell? ⟨g, 0, none⟩ = some (.slice ao n cap) := by rw [cell_of_row _ _ _ _ _ _ h3]; rfl
  clear h3
  go_enter Try.func53, Try.ntmps53
  go_wp2
  go_ret
  exact ⟨w.heap.size, rfl, (Ch.refl _ _).alloc _, Nat.le_refl _, heap_alloc_new w _⟩
def OnlyPost (l : List Rl) (refs : List (Nat × Nat)) (w : World) (e : Ending) (w' : World) : Prop :=
  Ext w w' ∧ (((catOnly l refs).2 = 0 ∧ ∃ p, e = .returned (.tuple #[p, .int .i64 0]) ∧ CatS w.heap.size w' p (catOnly l refs).1) ∨ ((catOnly l refs).2 = 10 ∧ e = .returned (.tuple #[.pointer none, .int .i64 10])))
set_option maxRecDepth 100000 in
set_option maxHeartbeats 4000000 in
theorem only_any (base : Nat) (c u : Value) (l : List Rl) (refs : List (Nat × Nat)) (w : World) (h : CatS base w c l) (hok : CatOk l) (hu : RfS w u refs) :
    Calls Try.prog 24 #[c, u] w (OnlyPost l refs w) := by
  obtain ⟨W1, hW1⟩ : ∃ W1, W1 = w.alloc (.cells #[u] 54) := ⟨_, rfl⟩
  have ga := heap_alloc_new w (.cells #[u] 54)
  rw [← hW1] at ga
  have hx1 : Ext w W1 := by rw [hW1]; exact (Ch.refl _ _).alloc _
  obtain ⟨uo, uc, rfl, _, huc⟩ := hu.shape
  obtain ⟨g0, v0, rfl, _⟩ := id h
  have hm63 : refs.length ≤ 9223372036854775807 := by
    obtain ⟨_, _, e, h1, h2, _⟩ := hu
    cases e
    unfold maxLen at h2
    omega
  obtain ⟨ri, chr, _, csr, _⟩ := info_parts infoRfZ
  have CHR := Lib.hid chr; have CSR := Lib.hid csr
  have HCT := Lib.hid h; have HOK := Lib.hid hok; have HU := Lib.hid hu; have HX1 := Lib.hid hx1; have HW1 := Lib.hid hW1; have HGA := Lib.hid ga
  have HCC : Hid (∀ r ∈ l, r.cols.length ≤ 1000000) := Lib.hid fun r hr => by have := (rlErr_zero (hok.right r hr)).2.2.2.2.2.1; omega
  have HFD := Lib.hid (fun p w2 (hx2 : Ext w w2) => find_any base (.pointer (some ⟨g0, 0, none⟩)) l p w2 (h.ext hx2) hok.order (by have := hok.len; omega))
  clear h hok hu hx1 hW1 ga chr csr huc
  generalize hm : refs.length = m at *
  have HM := Lib.hid hm; clear hm
  refine (callsIn_wide (n := 3)).1 ?_
  refine callsIn_of_wp_marks Try.func24 rfl trivial ?_ rfl
  simp only [Try.ntmps24, List.size_toArray, List.length_cons, List.length_nil, Nat.reduceAdd, Nat.reduceSub, Array.replicate_succ, Array.replicate_zero, List.push_toArray, List.append_toArray, List.nil_append, List.cons_append]
  gi_wp2
  rw [← HW1.out]
  obtain ⟨g3, hg3⟩ : ∃ g3, g3 = w.heap.size := ⟨_, rfl⟩
  rw [← hg3]
  rw [← hg3] at HGA
  have HG3E := Lib.hid hg3
  clear hg3
  gi_loopw [15] (fun ix wr => ∃ j : Nat, j ≤ m ∧ ix = .int .i64 j ∧ Hid (Ext W1 wr) ∧ Hid (∀ i (hi : i < refs.length), i < j → ∃ x ∈ l, rf x = refs[i])) (fun ix _ => m - (intOf ix).toNat)
  case atStart => exact ⟨0, Nat.zero_le _, rfl, Lib.hid (Ch.refl _ _), Lib.hid fun i hi h => absurd h (Nat.not_lt_zero _)⟩
  case round =>
    obtain ⟨j, hj, rfl, HX, HP⟩ := hrel
    by_cases hlt : j < m
    · have hjl : j < refs.length := by have := HM.out; omega
      obtain ⟨b, o, huo, hra⟩ := rfS_at (ao := uo) (n := m) (cap := uc) (HU.out.ext (HX1.out.trans HX.out)) hjl
      subst huo
      have hidx := run_indexSl wr Try.underlying54 CHR.out CSR.out b o m uc j hlt
      have HYES : Hid ((∃ x ∈ l, rf x = refs[j]) → ∀ i (hi : i < refs.length), i < j + 1 → ∃ x ∈ l, rf x = refs[i]) := Lib.hid fun hx i hi h => by
        by_cases hij : i < j
        · exact HP.out i hi hij
        · have : i = j := by omega
          subst this
          exact hx
      have HNO : Hid ((¬ ∃ x ∈ l, rf x = refs[j]) → catOnly l refs = ([], 10)) := Lib.hid fun hx => by unfold catOnly; rw [if_pos ⟨_, List.getElem_mem hjl, hx⟩]
      generalize refs[j] = p at *
      have q0 : wr.cell? ⟨b, o + j * 2, none⟩ = some (.int .u32 (p.1 : Nat)) := by have := hra 0 _ rfl; simpa using this
      have q1 : wr.cell? ⟨b, o + j * 2 + 1, none⟩ = some (.int .u32 (p.2 : Nat)) := hra 1 _ rfl
      obtain ⟨w2, hw2⟩ : ∃ w2, w2 = wr.alloc (.cells (refv p) 36) := ⟨_, rfl⟩
      have hx2 : Ext wr w2 := by rw [hw2]; exact (Ch.refl _ _).alloc _
      have HX2 := Lib.hid (HX.out.trans hx2)
      have HFP := Lib.hid (HFD.out p w2 (HX1.out.trans HX2.out))
      have HW2 := Lib.hid hw2; have HLT := Lib.hid hlt
      clear hra hjl hx2 hw2
      unfold refv at HFP HW2
      gi_wp2_with fail
      refine ⟨trivial, ?_⟩
      rw [← HW2.out]
      refine (callsIn_wide.2 HFP.out).mono ?_
      rintro e w3 ⟨rfl, hx3⟩
      have HX3 := Lib.hid (HX2.out.trans hx3)
      clear hx3 q0 q1 hidx HFP
      by_cases hth : ∃ x ∈ l, rf x = p
      · rw [decide_eq_true hth]
        have HQ := Lib.hid (HYES.out hth)
        clear hth HYES HNO
        gi_wp2
        go_roundw
        case rel => exact ⟨j + 1, HLT.out, by simp, HX3, HQ⟩
        case measure => simp [intOf]; have := HLT.out; omega
      · rw [decide_eq_false hth]
        have HQ := Lib.hid (HNO.out hth)
        clear hth HYES HNO
        gi_wp2
        exact ⟨_, results_tmp2 rfl _ _ _, HX1.out.trans HX3.out, .inr ⟨by rw [HQ.out], rfl⟩⟩
    · obtain rfl : j = m := by omega
      have HCO : Hid (catOnly l refs = (l.filter fun x => decide (rf x ∈ refs), 0)) := Lib.hid (by
        unfold catOnly
        rw [if_neg]
        rintro ⟨p, hp, hne⟩
        obtain ⟨i, hi, rfl⟩ := List.mem_iff_getElem.1 hp
        exact hne (HP.out i hi (by have := HM.out; omega)))
      clear HP
      gi_wp2_with fail
      refine ⟨trivial, ?_⟩
      refine (callsIn_wide.2 (new_any wr)).mono ?_
      rintro e w3 ⟨p, rfl, hx3, hct⟩
      obtain ⟨go, vn, rfl, hgo, hgh, csn, hcn, hon⟩ := hct
      obtain ⟨w4, hw4⟩ : ∃ w4, w4 = w3.alloc (.cells #[.pointer (some ⟨go, 0, none⟩)] 27) := ⟨_, rfl⟩
      have hx4 : Ext w3 w4 := by rw [hw4]; exact (Ch.refl _ _).alloc _
      obtain ⟨g10, hg10⟩ : ∃ g, g = w3.heap.size := ⟨_, rfl⟩
      have h10 : w4.heap[g10]? = some (.cells #[.pointer (some ⟨go, 0, none⟩)] 27 (0, 0)) := by rw [hw4, hg10]; exact heap_alloc_new w3 _
      have HXr := Lib.hid (HX1.out.trans HX.out)
      have HX4 := Lib.hid (hx3.trans hx4)
      obtain ⟨g0', v, e0, _, hcg, csr, hcsr, howr⟩ := HCT.out.ext HXr.out
      cases e0
      obtain ⟨vo, vc, hve⟩ := owns_shape howr
      subst hve
      have HSv : Hid (∃ csr, RlC (OwnP base wr) l csr ∧ wr.ownsRow base 39 5 (.slice vo l.length vc) l.length csr) := Lib.hid ⟨csr, hcsr, howr⟩
      have HAL := Lib.hid (all_at w4 g0 vo l.length vc (heap_ext HX4.out hcg))
      clear hcg hcsr howr
      have HGH := Lib.hid (heap_ext hx4 hgh); have HCN := Lib.hid (hcn.imp (OwnP.ext hx4)); have HON := Lib.hid (hon.ext hx4); have HGO := Lib.hid hgo; have H10 := Lib.hid h10
      have HG3 := Lib.hid (heap_ext (HX.out.trans HX4.out) HGA.out)
      have HW4 := Lib.hid hw4; have H10E := Lib.hid hg10
      clear hx3 hgo hgh hcn hon hx4 hw4 h10 hg10
      gi_wp2_with fail
      refine ⟨trivial, ?_⟩
      rw [← H10E.out, ← HW4.out]
      refine (callsIn_wide.2 HAL.out).mono ?_
      rintro e w5 ⟨g, rfl, hx5, hgs, hr⟩
      have HX5 := Lib.hid (HX4.out.trans hx5)
      have HGH5 := Lib.hid (heap_ext hx5 HGH.out); have HCN5 := Lib.hid (HCN.out.imp (OwnP.ext hx5)); have HON5 := Lib.hid (HON.out.ext hx5); have H105 := Lib.hid (heap_ext hx5 H10.out); have HG35 := Lib.hid (heap_ext hx5 HG3.out)
      have HR := Lib.hid hr
      have HBS : Hid (wr.heap.size ≤ w5.heap.size) := Lib.hid HX5.out.size
      obtain ⟨B, hB⟩ : ∃ B, B = wr.heap.size := ⟨_, rfl⟩
      rw [← hB] at HGO HCN5 HON5 HBS
      have HBE := Lib.hid hB
      obtain ⟨N, hN⟩ : ∃ N : Nat → Prop, N = fun k => B ≤ k := ⟨_, rfl⟩
      have HNb : Hid (∀ j, w5.heap.size ≤ j → N j) := Lib.hid (by rw [hN]; exact fun j h => by have := HBS.out; show B ≤ j; omega)
      have HNo : Hid (∀ k, N k ↔ B ≤ k) := Lib.hid (by rw [hN]; exact fun k => Iff.rfl)
      have HCTr := Lib.hid (HCT.out.ext HXr.out)
      have HNC : Hid (∀ {b : Nat} {T : TypeId} {s : Nat} {v1 : Value} {k : Nat} {xs : List Value}, wr.ownsRow b T s v1 k xs → ∀ W', Ch N w5 W' → W'.ownsRow b T s v1 k xs) := Lib.hid (fun h W' hx => own_chK (h.ext HX5.out) hx fun q hq hNq => by
        obtain ⟨o, ho, _⟩ := ownsK_cells h q hq
        have h1 := (Array.getElem?_eq_some_iff.1 ho).1
        have h2 := (HNo.out q).1 hNq
        have := HBE.out
        omega)
      have HS : Hid (∀ W', Ch N w5 W' → RlS (ColS W') W' (.slice vo l.length vc) l) := Lib.hid (fun W' hx => by
        obtain ⟨csr, h1, h2⟩ := HSv.out
        exact ⟨csr, h1.imp fun u c h => Sl.ofOwns (HNC.out h W' hx), Sl.ofOwns (HNC.out h2 W' hx)⟩)
      have HNg : Hid (¬ N g3) := Lib.hid fun h => by
        have h1 := (HNo.out _).1 h
        have h2 := HXr.out.size
        have h3 := HBE.out
        have h4 := HX1.out.size
        have h5 := HX.out.size
        have h6 := (Array.getElem?_eq_some_iff.1 HGA.out).1
        omega
      clear hr hx5 hN hB hgs HAL HFD
      gi_wp2_with fail
      obtain ⟨i, hi1, hz, hs, hby⟩ := info_parts infoRlZ
      have HI := Lib.hid hi1; have HZ1 := Lib.hid hz; have HSZ := Lib.hid hs; have HBY := Lib.hid hby
      clear hi1 hz hs hby
      have hww : w.heap.size ≤ w5.heap.size := (HXr.out.trans HX5.out).size
      refine with_frameK fun L' hL => ?_
      refine wpIn_rangeFunc_knows rfl (by decide) (gf := 82) (lb := #[.pointer (some ⟨g, 0, none⟩)]) (by rw [hL]; rfl) trivial (enters_of Try.func82 (by kernel_rfl) rfl)
        (all_knows B (3 - 1) (by decide) g (.slice vo l.length vc) l N w5 HR.out HS.out HNb.out HCC.out HBS.out) (fun h k => h.trans k) (chK_b HNb.out) (Below.refl _ _) (fun _ => rfl)
        (fun (pre : List (Rl × Value)) W' => Ch N w5 W' ∧ W'.heap[g10]? = some (.cells #[.pointer (some ⟨go, 0, none⟩)] 27 (0, 0)) ∧ ∃ vb cs, W'.heap[go]? = some (.cells #[vb] 103 (0, 0)) ∧ RlC (OwnP B W') ((pre.map Prod.fst).filter fun x => decide (rf x ∈ refs)) cs ∧ W'.ownsRow B 39 5 vb ((pre.map Prod.fst).filter fun x => decide (rf x ∈ refs)).length cs)
        (fun _ _ _ => False) ?hI (fun c s A B' row h _ _ => h) ?h0
        (fun x a' W' => ∃ g11 g12, a' = ⟨((((L'.set 31 (.agg (refv (rf x.1)))).set 32 (.agg (relv x.1 x.2))).set 11 (.pointer (some ⟨g11, 0, none⟩))).set 12 (.pointer (some ⟨g12, 0, none⟩))).toArray, []⟩ ∧ W'.heap[g11]? = some (.cells (refv (rf x.1)) 36 (0, 0)) ∧ W'.heap[g12]? = some (.cells (relv x.1 x.2) 39 (0, 0)) ∧ KnA B l x W') ?hAx ?assign ?body ?done ?stop
      case hI =>
        rintro s A B' row ⟨h1, h10, vb, cs, h2, h3, h4⟩ hg hrow
        exact ⟨h1.grown hg fun k e => .inr (hrow k e).1, heap_keptK h10 hg fun r e => (hrow r e).2, vb, cs, heap_keptK h2 hg fun r e => (hrow r e).2, h3.imp fun u c h => own_keptK h hg fun r e => (hrow r e).2, own_keptK h4 hg fun r e => (hrow r e).2⟩
      case h0 => exact ⟨Ch.refl _ _, H105.out, vn, csn, HGH5.out, HCN5.out, HON5.out⟩
      case hAx =>
        rintro x a' s A B' row ⟨g6, g7, h1, h2, h3, h4, h5⟩ hg hrow
        exact ⟨g6, g7, h1, heap_keptK h2 hg fun r e => (hrow r e).2, heap_keptK h3 hg fun r e => (hrow r e).2, h4, own_keptK h5 hg fun r e => (hrow r e).2⟩
      case stop => exact fun D c pre W hD hSp hIx hK => hIx.elim
      case assign =>
        rintro l' pre ⟨x, xv⟩ W' K ⟨hch, h10, vb, cs1, hbx, h3, h4⟩ hkx hK
        subst hL
        obtain ⟨xo, xc, hxe⟩ := owns_shape hkx.2
        simp only at hxe
        subst hxe
        unfold encA relv refv rf strV
        gi_wp2
        obtain ⟨W2, hW2⟩ : ∃ W2, W2 = (W'.alloc (.cells #[.int .u32 (x.oid : Nat), .int .u32 (x.ver : Nat)] 36)).alloc (.cells #[.int .u32 (x.oid : Nat), .int .u32 (x.ver : Nat), .string ⟨x.name.toArray⟩, .int .u8 (x.ident : Nat), .slice xo x.cols.length xc] 39) := ⟨_, rfl⟩
        have hx2 : Ext W' W2 := by rw [hW2]; exact ((Ch.refl _ _).alloc _).alloc _
        have e6 := heap_alloc2_old W' (.cells #[.int .u32 (x.oid : Nat), .int .u32 (x.ver : Nat)] 36) (.cells #[.int .u32 (x.oid : Nat), .int .u32 (x.ver : Nat), .string ⟨x.name.toArray⟩, .int .u8 (x.ident : Nat), .slice xo x.cols.length xc] 39)
        have e7 := heap_alloc2_new W' (.cells #[.int .u32 (x.oid : Nat), .int .u32 (x.ver : Nat)] 36) (.cells #[.int .u32 (x.oid : Nat), .int .u32 (x.ver : Nat), .string ⟨x.name.toArray⟩, .int .u8 (x.ident : Nat), .slice xo x.cols.length xc] 39)
        rw [← hW2] at e6 e7 ⊢
        refine hK _ _ ((keepsK_ext hx2).from _) (Ext.ch hx2) ⟨hch.trans (Ext.ch hx2), heap_ext hx2 h10, vb, cs1, heap_ext hx2 hbx, h3.imp (OwnP.ext hx2), h4.ext hx2⟩ ⟨_, _, ?_, e6, e7, hkx.1, OwnP.ext hx2 _ _ hkx.2⟩
        simp only [List.set_cons_succ, List.set_cons_zero]
        rfl
      case body =>
        rintro l' pre ⟨x, xv⟩ a' W hl ⟨hch, h10, vb, cs1, hbx, h3, h4⟩ ⟨g6, g7, rfl, h6, h7, hkx⟩ hlen
        subst hL
        simp only [List.set_cons_succ, List.set_cons_zero]
        obtain ⟨xo, xc, hxe⟩ := owns_shape hkx.2
        simp only at hxe h6 h7 hkx
        subst hxe
        have HKX : Hid (OwnP B W (.slice xo x.cols.length xc) x.cols) := Lib.hid hkx.2
        have HPL : Hid (((pre.map Prod.fst).filter fun x => decide (rf x ∈ refs)).length ≤ 64) := Lib.hid (Nat.le_trans (List.length_filter_le _ _) (by rw [List.length_map]; have := HOK.out.len; omega))
        have HQ : Hid (((pre ++ [(x, (.slice xo x.cols.length xc : Value))]).map Prod.fst).filter (fun x => decide (rf x ∈ refs)) = (pre.map Prod.fst).filter (fun x => decide (rf x ∈ refs)) ++ (if decide (rf x ∈ refs) = true then [x] else [])) := Lib.hid (by rw [List.map_append, List.filter_append, List.map_cons, List.map_nil, List.filter_cons, List.filter_nil])
        have HXW : Hid (Ext w W) := Lib.hid (((Ext.ch (HXr.out.trans HX5.out)).trans hch).mono fun j hj h => by
          have h1 := (HNo.out j).1 h
          have h2 := HXr.out.size
          have h3 := HBE.out
          omega)
        have h3b := (hch.block _ (Array.getElem?_eq_some_iff.1 HG35.out).1 HNg.out).trans HG35.out
        have r3 : W.cell? ⟨g3, 0, none⟩ = some (.slice uo j uc) := by rw [cell_of_row _ _ _ _ _ _ h3b]; rfl
        have r6 : W.cell? ⟨g6, 0, none⟩ = some (.int .u32 (x.oid : Nat)) := by rw [cell_of_row _ _ _ _ _ _ h6]; rfl
        have r6' : W.cell? ⟨g6, 1, none⟩ = some (.int .u32 (x.ver : Nat)) := by rw [cell_of_row _ _ _ _ _ _ h6]; rfl
        have H7 := Lib.hid h7; have HBX := Lib.hid hbx; have H3 := Lib.hid h3; have H4 := Lib.hid h4; have HCH := Lib.hid hch; have H10W := Lib.hid h10
        have HCTN := Lib.hid (containsRf_any (.slice uo j uc) refs (rf x) W (by have := HU.out.ext HXW.out; exact this))
        clear hkx h6 h7 hbx h3 h4 hch hlen h10 h3b
        generalize pre ++ [(x, (.slice xo x.cols.length xc : Value))] = pre2 at *
        generalize (pre.map Prod.fst).filter (fun x => decide (rf x ∈ refs)) = ls at *
        generalize decide (rf x ∈ refs) = D at *
        unfold refv rf at HCTN
        rw [show refv (rf x) = #[.int .u32 (x.oid : Nat), .int .u32 (x.ver : Nat)] from rfl]
        unfold relv strV
        gi_wp2_with fail
        refine ⟨trivial, ?_⟩
        refine (CallsIn.inRound l' (callsIn_wide.2 HCTN.out)).mono ?_
        rintro e W2 ⟨rfl, hx2⟩
        have HBX2 := Lib.hid (heap_ext hx2 HBX.out); have H72 := Lib.hid (heap_ext hx2 H7.out); have H102 := Lib.hid (heap_ext hx2 H10W.out)
        have H32 := Lib.hid (H3.out.imp (OwnP.ext hx2)); have H42 := Lib.hid (H4.out.ext hx2); have HKX2 := Lib.hid (OwnP.ext hx2 _ _ HKX.out); have HX2 := Lib.hid hx2; have HCH2 := Lib.hid (HCH.out.trans (Ext.ch hx2))
        clear hx2 r3 r6 r6' HCTN
        cases D with
        | false =>
          rw [if_neg (by decide), List.append_nil] at HQ
          gi_wp2
          exact ⟨(keepsK_ext HX2.out).from _, Ext.ch HX2.out, HCH2.out, H102.out, vb, cs1, HBX2.out, by rw [HQ.out]; exact H32.out, by rw [HQ.out]; exact H42.out⟩
        | true =>
          rw [if_pos rfl] at HQ
          gi_wp2
          refine wpIn_region_ph (Open.round l') [7, 10] (onT B go vb ls x (.slice xo x.cols.length xc)) (onN N B go g10 vb ls x W2) mixedV (by rfl) (by rfl) (by rfl) (by decide) (Ch.drew (Ch.refl _ _)) ?all ?fin
          case all =>
            refine ⟨?_, ?_, ?_, ?_, ?_, ?_, ?_, ?_, ?_, ?_, ?_, trivial⟩
            · refine StepG.phPlain 0 1 (by decide) (by decide) (by rfl) rfl rfl onN_ext fun p hlo hhi ρ w2 hρ hF hf => ?_
              have h10 : ρ (.tmp 10) = .pointer (some ⟨g10, 0, none⟩) := (hf 10).2 rfl rfl
              obtain rfl | rfl : p = 0 ∨ p = 1 := by omega
              · have hw : Ext W2 w2 := hF
                have hc : w2.cell? ⟨g10, 0, none⟩ = some (.pointer (some ⟨go, 0, none⟩)) := by rw [cell_of_row _ _ _ _ _ _ (heap_ext hw H102.out)]; rfl
                exact Exec.same (v := .pointer (some ⟨go, 0, none⟩)) rfl (by simp [go_sem, hρ.const, h10, hc]) rfl
              · obtain ⟨_, _, f10, _⟩ := (hF : KeepsOthers W2 w2 ∧ Ch N W2 w2 ∧ w2.heap[g10]? = some (.cells #[.pointer (some ⟨go, 0, none⟩)] 27 (0, 0)) ∧ w2.heap[go]? = some (.cells #[vb] 103 (0, 0)))
                have hc : w2.cell? ⟨g10, 0, none⟩ = some (.pointer (some ⟨go, 0, none⟩)) := by rw [cell_of_row _ _ _ _ _ _ f10]; rfl
                exact Exec.same (v := .pointer (some ⟨go, 0, none⟩)) rfl (by simp [go_sem, hρ.const, h10, hc]) rfl
            · refine StepG.phPlain 0 0 (by decide) (by decide) (by rfl) rfl rfl onN_ext fun p hlo hhi ρ w2 hρ hF hf => ?_
              obtain rfl : p = 0 := by omega
              have h10 : ρ (.tmp 10) = .pointer (some ⟨g10, 0, none⟩) := (hf 10).2 rfl rfl
              have hw : Ext W2 w2 := hF
              have hc : w2.cell? ⟨g10, 0, none⟩ = some (.pointer (some ⟨go, 0, none⟩)) := by rw [cell_of_row _ _ _ _ _ _ (heap_ext hw H102.out)]; rfl
              exact Exec.same (v := .pointer (some ⟨go, 0, none⟩)) rfl (by simp [go_sem, hρ.const, h10, hc]) rfl
            · refine StepG.phPlain 0 0 (by decide) (by decide) (by rfl) rfl rfl onN_ext fun p hlo hhi ρ w2 hρ hF hf => ?_
              obtain rfl : p = 0 := by omega
              have h37 : ρ (.tmp 37) = .pointer (some ⟨go, 0, none⟩) := (hf 37).1 rfl
              exact Exec.same (v := .pointer (some ⟨go, 0, none⟩)) rfl (by simp [go_sem, hρ.const, h37]) rfl
            · refine StepG.phPlain 0 0 (by decide) (by decide) (by rfl) rfl rfl onN_ext fun p hlo hhi ρ w2 hρ hF hf => ?_
              obtain rfl : p = 0 := by omega
              have h38 : ρ (.tmp 38) = .pointer (some ⟨go, 0, none⟩) := (hf 38).1 rfl
              exact Exec.kfield rfl rfl h38 (fieldCt3 w2 _) rfl
            · refine StepG.phPlain 0 0 (by decide) (by decide) (by rfl) rfl rfl onN_ext fun p hlo hhi ρ w2 hρ hF hf => ?_
              obtain rfl : p = 0 := by omega
              have h39 : ρ (.tmp 39) = .pointer (some ⟨go, 0, none⟩) := (hf 39).1 rfl
              have hw : Ext W2 w2 := hF
              have hc : w2.cell? ⟨go, 0, none⟩ = some vb := by rw [cell_of_row _ _ _ _ _ _ (heap_ext hw HBX2.out)]; rfl
              exact Exec.same (v := vb) rfl (by simp [go_sem, hρ.const, h39, hc]) rfl
            · refine StepG.phPlain 0 0 (by decide) (by decide) (by rfl) rfl rfl onN_ext fun p hlo hhi ρ w2 hρ hF hf => ?_
              obtain rfl : p = 0 := by omega
              have h12 : ρ (.tmp 12) = .pointer (some ⟨g7, 0, none⟩) := (hf 12).2 rfl rfl
              have hw : Ext W2 w2 := hF
              exact Exec.kloadrow rfl rfl h12 (heap_ext hw H72.out) Try.underlying39 rfl infoOw rfl
            · refine StepG.phPlain 0 0 (by decide) (by decide) (by rfl) rfl rfl onN_ext fun p hlo hhi ρ w2 hρ hF hf => ?_
              obtain rfl : p = 0 := by omega
              have h41 : ρ (.tmp 41) = .agg (relv x (.slice xo x.cols.length xc)) := (hf 41).1 rfl
              have hw : Ext W2 w2 := hF
              refine Exec.kalloc (v := .slice (some ⟨w2.heap.size, 0, none⟩) 1 1) (ob := .cells (relv x (.slice xo x.cols.length xc)) 39) rfl ?_ ⟨_, _, rfl, heap_alloc_new w2 _, OwnP.ext (hw.trans ((Ch.refl _ _).alloc _)) _ _ HKX2.out⟩
              unfold execOp; simp only [List.map_toArray, List.map_cons, List.map_nil, h41, Sem.run_bind, Result.andThen_ok, Sem.run_pure]
              unfold relv strV
              rw [oneRl]
              rfl
            · refine StepG.phWrite [36, 37, 38, 39, 40, 41, 42] (by rfl) 0 (by decide) (by decide) (by rfl) rfl rfl fun ρ w2 hρ hF hf => ?_
              have h40 : ρ (.tmp 40) = vb := (hf 40).1 rfl
              obtain ⟨c, b, h42, hb, hoc⟩ : (Kn.oneF B x).holds (ρ (.tmp 42)) w2 := (hf 42).1 rfl
              have hw : Ext W2 w2 := hF
              have ho := H42.out.ext hw
              have hsz : B ≤ w2.heap.size := by have h1 := HBS.out; have h2 := HCH2.out.size; have h3 := hw.size; omega
              refine (Exec.kappend (m := 1) (news := (relv x c).toList) rfl B Try.underlying62 HI.out HZ1.out HSZ.out HBY.out rfl (by decide) h40 ho (by rw [h42]; exact sl_row hb) rfl (fun u hu => RlC.oneC (RlC.one (r := x) hoc) u hu) (by have := HPL.out; omega) (by have := HPL.out; unfold maxLen; omega) hsz).mono ?_
              rintro v2 w3 ⟨r1, r2⟩
              refine ⟨fun d hd => ?_, fun d v hd hv => ?_, (keepsK_ext hw).trans (keepsK_grown r2 (ownsK_cells ho)), (Ext.ch hw).grown r2 (fun k hk => .inl ((HNo.out _).2 (ho.lt k hk).1)), gby_heap r2 (heap_ext hw H102.out) (fun e => own_ne ho (heap_ext hw H102.out) (by decide) _ e rfl), gby_heap r2 (heap_ext hw HBX2.out) (fun e => own_ne ho (heap_ext hw HBX2.out) (by decide) _ e rfl)⟩
              · cases hd
                exact ⟨_, (H32.out.imp fun u c h => own_other (OwnP.ext hw _ _ h) ho (by decide) r2).append (RlC.one (own_other hoc ho (by decide) r2)), by rw [List.length_append]; exact r1⟩
              · by_cases e36 : d = 36
                · subst e36; exact hv
                by_cases e44 : d = 44
                · subst e44; exact hv
                by_cases e45 : d = 45
                · subst e45; exact hv
                have h43 : d ≠ 43 := fun e => by subst e; exact absurd hd (by decide)
                rw [show onT B go vb ls x (.slice xo x.cols.length xc) (0 + 1) d = Kn.any from onT_1 h43 e36 e44 e45]; trivial
            · refine StepG.phPlain 0 1 (by decide) (by decide) (by rfl) rfl rfl onN_ext fun p hlo hhi ρ w2 hρ hF hf => ?_
              obtain rfl | rfl : p = 0 ∨ p = 1 := by omega
              · have h36 : ρ (.tmp 36) = .pointer (some ⟨go, 0, none⟩) := (hf 36).1 rfl
                exact Exec.same (v := .pointer (some ⟨go, 0, none⟩)) rfl (by simp [go_sem, hρ.const, h36]) rfl
              · have h36 : ρ (.tmp 36) = .pointer (some ⟨go, 0, none⟩) := (hf 36).1 rfl
                exact Exec.same (v := .pointer (some ⟨go, 0, none⟩)) rfl (by simp [go_sem, hρ.const, h36]) rfl
            · refine StepG.phPlain 0 1 (by decide) (by decide) (by rfl) rfl rfl onN_ext fun p hlo hhi ρ w2 hρ hF hf => ?_
              obtain rfl | rfl : p = 0 ∨ p = 1 := by omega
              · have h44 : ρ (.tmp 44) = .pointer (some ⟨go, 0, none⟩) := (hf 44).1 rfl
                exact Exec.kfield rfl rfl h44 (fieldCt3 w2 _) rfl
              · have h44 : ρ (.tmp 44) = .pointer (some ⟨go, 0, none⟩) := (hf 44).1 rfl
                exact Exec.kfield rfl rfl h44 (fieldCt3 w2 _) rfl
            · refine StepG.phWrite [36, 37, 38, 39, 40, 41, 42, 43, 44, 45] (by rfl) 1 (by decide) (by decide) (by rfl) rfl rfl fun ρ w2 hρ hF hf => ?_
              obtain ⟨cs, k1, k2⟩ : (Kn.catF B (ls ++ [x]).length (ls ++ [x])).holds (ρ (.tmp 43)) w2 := (hf 43).1 rfl
              have h45 : ρ (.tmp 45) = .pointer (some ⟨go, 0, none⟩) := (hf 45).1 rfl
              obtain ⟨f1, f2, f10, f3⟩ := (hF : KeepsOthers W2 w2 ∧ Ch N W2 w2 ∧ w2.heap[g10]? = some (.cells #[.pointer (some ⟨go, 0, none⟩)] 27 (0, 0)) ∧ w2.heap[go]? = some (.cells #[vb] 103 (0, 0)))
              obtain ⟨vv, hvv⟩ : ∃ vv, vv = ρ (.tmp 43) := ⟨_, rfl⟩
              rw [← hvv] at k2
              have hne := own_ne k2 f3 (by decide)
              obtain ⟨vo', vc', rfl⟩ := owns_shape k2
              have hc4 : w2.cell? ⟨go, 0, none⟩ = some vb := by rw [cell_of_row _ _ _ _ _ _ f3]; rfl
              have hfz : w2.frozen? ⟨go, 0, none⟩ = false := frozen_of_row w2 go 0 _ _ f3
              have hgb := gby_setCell w2 ⟨go, 0, none⟩ (.slice vo' (ls ++ [x]).length vc')
              obtain ⟨vbo, vbc, hvb⟩ := owns_shape H42.out
              refine Exec.skip (w' := w2.setCell ⟨go, 0, none⟩ (.slice vo' (ls ++ [x]).length vc')) ?_ ⟨(fun d hd => by cases hd), (fun d v _ _ => trivial), f1.trans (KeepsOthers.setCell w2 _ _), f2.setCell (p := ⟨go, 0, none⟩) (.inl ((HNo.out _).2 HGO.out)) _, ?_, .slice vo' (ls ++ [x]).length vc', cs, ?_, ?_, ?_⟩
              · rw [hvb] at hc4
                simp only [go_sem, hρ.const, h45, ← hvv]
                simp [go_sem, hc4, hfz]
              · rw [hgb.block g10 (Array.getElem?_eq_some_iff.1 f10).1 (fun e => by
                  have e2 := Option.some.inj e
                  simp only at e2
                  rw [e2, f3] at f10
                  cases f10)]
                exact f10
              · exact heap_setCell_same w2 go 0 _ _ _ f3
              · exact k1.imp fun u c h => World.ownsRow.kept h hgb (by
                  cases hv : u.ownBlock with
                  | none => exact .inl rfl
                  | some k => exact .inr fun e => own_ne h f3 (by decide) k hv (Option.some.inj e))
              · refine k2.kept hgb ?_
                cases hv : (Value.slice vo' (ls ++ [x]).length vc').ownBlock with
                | none => exact .inl rfl
                | some k => exact .inr fun e => hne k hv (Option.some.inj e)
          case fin =>
            intro ν w9 _ hF
            obtain ⟨f1, f2, f10, v, cs, f3, f4, f5⟩ := (hF : KeepsOthers W2 w9 ∧ Ch N W2 w9 ∧ w9.heap[g10]? = some (.cells #[.pointer (some ⟨go, 0, none⟩)] 27 (0, 0)) ∧ ∃ v cs, w9.heap[go]? = some (.cells #[v] 103 (0, 0)) ∧ RlC (OwnP B w9) (ls ++ [x]) cs ∧ w9.ownsRow B 39 5 v (ls ++ [x]).length cs)
            simp only [Exit.then, ended, List.foldl_cons, List.foldl_nil, List.setIfInBounds_toArray, List.set_cons_succ, List.set_cons_zero]
            rw [← HQ.out] at f4 f5
            gi_wp2
            exact ⟨((keepsK_ext HX2.out).trans f1).from _, (Ext.ch HX2.out).trans f2, HCH2.out.trans f2, f10, v, cs, f3, f4, f5⟩
      case done =>
        rintro D ys W hD hys ⟨hch, h10, vb, cs1, hbx, h3, h4⟩ hK
        subst hL
        rw [hys] at h3 h4
        have b10 : W.cell? ⟨g10, 0, none⟩ = some (.pointer (some ⟨go, 0, none⟩)) := by rw [cell_of_row _ _ _ _ _ _ h10]; rfl
        have hxW : Ext w W := ((Ext.ch (HXr.out.trans HX5.out)).trans hch).mono fun j hj h => by
          have h1 := (HNo.out j).1 h
          have h2 := HXr.out.size
          have h3 := HBE.out
          omega
        have hsB : w.heap.size ≤ B := by have h2 := HXr.out.size; have h3 := HBE.out; omega
        have hx9 : Ext w (W.putObj D (.deferred none)) := hxW.grown (grownBy_putObj' W D (.deferred none)) (fun k e => by cases e; exact .inr (by omega))
        have hgp := grownBy_putObj' W D (.deferred none)
        have hrw : ∀ r, some D = some r → ∃ o : Obj, W.heap[r]? = some o ∧ o.isCells = false := fun r e => by cases e; exact ⟨_, hK, rfl⟩
        have hfin : CatS w.heap.size (W.putObj D (.deferred none)) (.pointer (some ⟨go, 0, none⟩)) (catOnly l refs).1 := by
          rw [HCO.out]
          exact ⟨go, vb, rfl, Nat.le_trans hsB HGO.out, heap_keptK hbx hgp hrw, cs1, h3.imp fun u c h => ownsRow_down (own_keptK h hgp hrw) hsB, ownsRow_down (own_keptK h4 hgp hrw) hsB⟩
        have HFIN := Lib.hid hfin; have HX9 := Lib.hid hx9; have HK := Lib.hid hK
        clear h3 h4 hbx hch hxW hx9 hgp hrw hfin hys
        gi_wp2
        refine ⟨by simp, .inl ⟨_, _, rfl, run_takeDeferred HK.out, ?_⟩⟩
        exact ⟨_, results_tmp2 rfl _ _ _, HX9.out, .inl ⟨by rw [HCO.out], _, rfl, HFIN.out⟩⟩
end Go.Proofs.Ytegclfpmgilnpaa
