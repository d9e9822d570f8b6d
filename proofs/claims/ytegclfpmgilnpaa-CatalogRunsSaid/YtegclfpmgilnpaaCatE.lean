/-
  Catalogs: Add. MADE BY mkCatE.py
-/
import Derived.Test.YtegclfpmgilnpaaCatD
namespace Go.Proofs.Ytegclfpmgilnpaa
open Go.RowKit Go.Lac

theorem run_dropR {P : Program} {w : World} {t e : TypeId} {inf : TypeInfo} (h : P.underlying t = some (.slice e)) (hinf : P.info? e = some inf) (hsz : inf.size = 5) {ao : Option Addr} {n cap : Nat} {cs : List Value} (hr : Sl w (.slice ao n cap) n cs) (hl : cs.length = n * 5) (k : Nat) (hk : k ≤ n) :
    ∃ v', (∀ w0, (Instr.sliceAt t (.slice ao n cap) (some (.int .i64 (k : Nat))) none none).run P w0 = .ok v' w0) ∧ Sl w v' (n - k) (cs.drop (k * 5)) := by
  obtain ⟨ao', cap', e0, g1, g2, g3, g5⟩ := hr
  cases e0
  have he := elem_eq h
  have h' : P.underlying t = some (.slice (P.elem t)) := by rw [he]; exact h
  refine ⟨sliced ao k n cap 5, fun w0 => ?_, ?_⟩
  · rw [run_sliceAt_slice (h := h'), run_slice_l (ht := h') (h0 := by omega) (h1 := by omega), he]
    simp [sizeOf, typeInfo, hinf, hsz]
  · unfold sliced
    by_cases hcn : cap = k
    · rw [if_pos hcn]
      refine ⟨ao, cap - k, rfl, by omega, by omega, fun h0 => by have := g3 h0; omega, fun x hx j u hu => ?_⟩
      have : cs.drop (k * 5) = [] := List.drop_eq_nil_of_le (by omega)
      rw [this] at hu
      simp at hu
    · rw [if_neg hcn]
      refine ⟨ao.map (·.add (k * 5)), cap - k, rfl, by omega, by omega, fun h0 => by (cases ao with | none => have := g3 rfl; omega | some a => simp at h0), fun x hx j u hu => ?_⟩
      cases ao with
      | none => simp at hx
      | some a =>
        rw [List.getElem?_drop] at hu
        obtain ⟨b, off, rfl, h6⟩ := g5 a rfl _ u hu
        simp at hx
        subst hx
        exact ⟨b, off + k * 5, by rw [Addr.add_lit], by rw [show off + k * 5 + j = off + (k * 5 + j) by omega]; exact h6⟩
theorem sl_take {w : World} {ao : Option Addr} {n cap : Nat} {cs : List Value} (h : Sl w (.slice ao n cap) n cs) (k m : Nat) (hk : k ≤ n) : Sl w (.slice ao k cap) k (cs.take m) := by
  obtain ⟨ao', cap', e0, g1, g2, g3, g5⟩ := h
  cases e0
  refine ⟨ao, cap, rfl, by omega, g2, g3, fun x hx j u hu => g5 x hx j u ?_⟩
  rw [List.getElem?_take] at hu
  split at hu
  · exact hu
  · cases hu
theorem sl_row {w : World} {g : Nat} {cs : Array Value} {T : TypeId} (h : w.heap[g]? = some (.cells cs T (0, 0))) : Sl w (.slice (some ⟨g, 0, none⟩) 1 1) 1 cs.toList :=
  ⟨_, 1, rfl, Nat.le_refl _, by unfold maxLen; omega, (fun h => by cases h), fun x hx j u hu => by
    cases hx
    refine ⟨g, 0, rfl, ?_⟩
    rw [Nat.zero_add, cell_of_row _ _ _ _ _ _ h]
    simpa using hu⟩
theorem oneRl (w : World) (x y : Int) (A : ByteArray) (i : Int) (ao : Option Addr) (n c : Nat) : (Instr.buildSlice 62 1 #[(0, .agg #[.int .u32 x, .int .u32 y, .string A, .int .u8 i, .slice ao n c])]).run Try.prog w = .ok (.slice (some ⟨w.heap.size, 0, none⟩) 1 1) (w.alloc (.cells #[.int .u32 x, .int .u32 y, .string A, .int .u8 i, .slice ao n c] 39)) := by kernel_rfl
theorem threeRl (w : World) (a1 : Option Addr) (n1 c1 : Nat) (a2 : Option Addr) (n2 c2 : Nat) (a3 : Option Addr) (n3 c3 : Nat) : (Instr.buildSlice 151 3 #[(0, .slice a1 n1 c1), (1, .slice a2 n2 c2), (2, .slice a3 n3 c3)]).run Try.prog w = .ok (.slice (some ⟨w.heap.size, 0, none⟩) 3 3) (w.alloc (.cells #[.slice a1 n1 c1, .slice a2 n2 c2, .slice a3 n3 c3] 62)) := by kernel_rfl
def Kn.relF (base : Nat) (r : Rl) : Kn := ⟨fun v w => ∃ c, v = .agg (relv r c) ∧ OwnP base w c r.cols, fun _ _ _ k ⟨c, h1, h2⟩ => ⟨c, h1, OwnP.ext k _ _ h2⟩⟩
def Kn.oneF (base : Nat) (r : Rl) : Kn := ⟨fun v w => ∃ c b, v = .slice (some ⟨b, 0, none⟩) 1 1 ∧ w.heap[b]? = some (.cells (relv r c) 39 (0, 0)) ∧ OwnP base w c r.cols, fun _ _ _ k ⟨c, b, h1, h2, h3⟩ => ⟨c, b, h1, heap_ext k h2, OwnP.ext k _ _ h3⟩⟩
def Kn.threeF (base : Nat) (r : Rl) (x y : Value) : Kn := ⟨fun v w => ∃ g c b, v = .slice (some ⟨g, 0, none⟩) 3 3 ∧ w.heap[g]? = some (.cells #[x, .slice (some ⟨b, 0, none⟩) 1 1, y] 62 (0, 0)) ∧ w.heap[b]? = some (.cells (relv r c) 39 (0, 0)) ∧ OwnP base w c r.cols,
  fun _ _ _ k ⟨g, c, b, h1, h2, h3, h4⟩ => ⟨g, c, b, h1, heap_ext k h2, heap_ext k h3, OwnP.ext k _ _ h4⟩⟩
def Kn.catF (base n : Nat) (l : List Rl) : Kn := ⟨fun v w => ∃ cs, RlC (OwnP base w) l cs ∧ w.ownsRow base 39 5 v n cs, fun _ _ _ k ⟨cs, h1, h2⟩ => ⟨cs, h1.imp (OwnP.ext k), h2.ext k⟩⟩
def addT (base g n k n1 : Nat) (ao : Option Addr) (cap : Nat) (dv : Value) (r : Rl) (cv : Value) (L : List Rl) : Tmp → Kn
  | 26 => .is (.pointer (some ⟨g, 0, none⟩))
  | 27 => .is (.pointer (some ⟨g, 0, none⟩))
  | 28 => .is (.pointer (some ⟨g, 0, none⟩))
  | 29 => .is (.pointer (some ⟨g, 0, none⟩))
  | 30 => .is (.slice ao n cap)
  | 31 => .is (.int .i64 (k : Nat))
  | 32 => .is (.slice ao k cap)
  | 33 => .is (.agg (relv r cv))
  | 34 => Kn.relF base r
  | 35 => Kn.oneF base r
  | 36 => .is (.pointer (some ⟨g, 0, none⟩))
  | 37 => .is (.pointer (some ⟨g, 0, none⟩))
  | 38 => .is (.pointer (some ⟨g, 0, none⟩))
  | 39 => .is (.slice ao n cap)
  | 40 => .is (.int .i64 (k : Nat))
  | 41 => .is dv
  | 42 => Kn.threeF base r (.slice ao k cap) dv
  | 43 => Kn.catF base n1 L
  | 44 => .is (.pointer (some ⟨g, 0, none⟩))
  | 45 => .is (.pointer (some ⟨g, 0, none⟩))
  | _ => .any

theorem RlC.oneC {base : Nat} {w : World} : ∀ {l : List Rl} {cs : List Value}, RlC (OwnP base w) l cs → ∀ u ∈ cs, u.oneCell' = true
  | [], cs, h, u, hu => by rw [show cs = [] from h] at hu; cases hu
  | r :: l, cs, ⟨cv, t, e, h1, h⟩, u, hu => by
    obtain ⟨ao, cap, rfl⟩ := owns_shape h1
    rw [e] at hu
    rcases List.mem_append.1 hu with h2 | h2
    · have := relv_one r ao r.cols.length cap
      rw [Array.all_eq_true_iff_forall_mem] at this
      exact this u (by simpa using h2)
    · exact RlC.oneC h u h2
theorem concat_ins {base : Nat} {w : World} {l : List Rl} {cs : List Value} {ao : Option Addr} {cap k : Nat} {dv : Value} {r : Rl} (hc : RlC (OwnP base w) l cs) (hs : Sl w (.slice ao l.length cap) l.length cs) (hk : k ≤ l.length)
    (hd : Sl w dv (l.length - k) (cs.drop (k * 5))) (hb : base ≤ w.heap.size) (hn : l.length ≤ 1000000)
    {w2 : World} (hx : Ext w w2) {c : Value} {b1 b3 : Nat} (h3 : w2.heap[b3]? = some (.cells #[.slice ao k cap, .slice (some ⟨b1, 0, none⟩) 1 1, dv] 62 (0, 0)))
    (h1 : w2.heap[b1]? = some (.cells (relv r c) 39 (0, 0))) (ho : OwnP base w2 c r.cols) :
    Calls Try.prog 51 #[.slice (some ⟨b3, 0, none⟩) 3 3] w2 fun e w' => ∃ s, e = .returned s ∧ Ext w2 w' ∧ ∃ cs', RlC (OwnP base w') (l.take k ++ r :: l.drop k) cs' ∧ w'.ownsRow base 39 5 s (l.length + 1) cs' := by
  have hlen := hc.length
  have hone := hc.oneC
  have hc2 := hc.imp (Q := OwnP base w2) (OwnP.ext hx)
  have h1c := (RlC.one (P := OwnP base w2) (r := r) ho)
  have hall := (hc2.take k).append (h1c.append (hc2.drop k))
  have ht : totR [(k, cs.take (k * 5)), (1, (relv r c).toList), (l.length - k, cs.drop (k * 5))] = l.length + 1 := by simp [totR]; omega
  have hf : flatR [(k, cs.take (k * 5)), (1, (relv r c).toList), (l.length - k, cs.drop (k * 5))] = cs.take (k * 5) ++ ((relv r c).toList ++ cs.drop (k * 5)) := by simp [flatR]
  have hcat := concatR_any [(k, cs.take (k * 5)), (1, (relv r c).toList), (l.length - k, cs.drop (k * 5))] b3 0 3 w2 ?_ (by rw [ht]; omega) (by simp)
  · refine hcat.mono ?_
    rintro e w' ⟨s, rfl, hx', ho'⟩
    rw [ht, hf] at ho'
    refine ⟨s, rfl, hx', _, ?_, ownsRow_down ho' (Nat.le_trans hb hx.size)⟩
    exact hall.imp (OwnP.ext hx')
  · intro j hj
    match j, hj with
    | 0, _ => exact ⟨_, by rw [cell_of_row _ _ _ _ _ _ h3]; rfl, (sl_take hs k (k * 5) hk).ext hx, by simp; omega, fun u hu => hone u (List.mem_of_mem_take hu)⟩
    | 1, _ => exact ⟨_, by rw [cell_of_row _ _ _ _ _ _ h3]; rfl, sl_row h1, rfl, fun u hu => h1c.oneC u (by simpa using hu)⟩
    | 2, _ => exact ⟨_, by rw [cell_of_row _ _ _ _ _ _ h3]; rfl, hd.ext hx, by simp; omega, fun u hu => hone u (List.mem_of_mem_drop hu)⟩
def AtP (p : Value) (k : Nat) : Prop := p = .pointer (some ⟨k, 0, none⟩)
set_option maxRecDepth 20000 in
set_option maxHeartbeats 4000000 in
theorem add_any (base : Nat) (p : Value) (l : List Rl) (r : Rl) (cv : Value) (w : World) (h : CatS base w p l) (hok : CatOk l) (hb : base ≤ w.heap.size) (hc : ColS w cv r.cols) (hf : r.fits) :
    Calls Try.prog 12 #[p, .agg (relv r cv)] w fun e w' => e = .returned (.int .i64 ((catAdd l r).2 : Nat)) ∧ Ch (AtP p) w w' ∧ CatS base w' p (catAdd l r).1 := by
  have h1 := heap_alloc_new w (.cells (relv r cv) 39)
  obtain ⟨W, hW⟩ : ∃ W, W = w.alloc (.cells (relv r cv) 39) := ⟨_, rfl⟩
  have hx : Ext w W := by rw [hW]; exact (Ch.refl _ _).alloc _
  rw [← hW] at h1
  have HG3 := Lib.hid h1; have HX := Lib.hid hx; have HW := Lib.hid hW; have HCT := Lib.hid h; have HOK := Lib.hid hok; have HBW0 := Lib.hid hb
  have HCC := Lib.hid hc
  have HRT := Lib.hid (relRight_any r cv W (ColS.ext hc hx) hf)
  have HFD := Lib.hid (fun w2 (hx2 : Ext w w2) => find_any base p l (rf r) w2 (h.ext hx2) hok.order (by have := hok.len; omega))
  have HLN := Lib.hid (fun w2 (hx2 : Ext w w2) => len_any base w2 p l (h.ext hx2))
  obtain ⟨c0, c1, c2, c3, c4⟩ := row_cells h1
  obtain ⟨co, cc, rfl, hcm, hcm2, _⟩ := id hc
  obtain ⟨g, v, rfl, _⟩ := id h
  rw [hW] at c0 c1 c2 c3 c4
  clear h1 hx hW h hok hc hf hb
  unfold relv strV at *
  by_cases he : rlErr r = 0
  case neg =>
    have HE : Hid (catAdd l r = (l, rlErr r)) := Lib.hid (by unfold catAdd; rw [if_pos he])
    have en : (((rlErr r : Nat) : Int) != 0) = true := by simp; omega
    generalize rlErr r = E at *
    go_enter Try.func12, Try.ntmps12
    go_wp2_with fail
    rw [← HW.out]
    refine HRT.out.mono ?_
    rintro e w2 ⟨rfl, hx2⟩
    have HX2 := Lib.hid (HX.out.trans hx2)
    clear hx2 c0 c1 c2 c3 c4
    go_wp2
    go_ret
    exact ⟨by rw [HE.out]; rfl, Ext.ch HX2.out, by rw [HE.out]; exact HCT.out.ext HX2.out⟩
  rw [he] at HRT
  rw [Int.natCast_zero] at HRT
  have HFH : Hid (W.heap[w.heap.size]? = some (.cells #[.int .u32 (r.oid : Nat), .int .u32 (r.ver : Nat), .string ⟨r.name.toArray⟩, .int .u8 (r.ident : Nat), .slice co r.cols.length cc] 39 (0, 0))) := HG3
  go_enter Try.func12, Try.ntmps12
  go_wp2_with fail
  rw [← HW.out]
  refine HRT.out.mono ?_
  rintro e w2 ⟨rfl, hx2⟩
  have HX2 := Lib.hid (HX.out.trans hx2)
  obtain ⟨d0, d1, d2, d3, d4⟩ := row5 (heap_ext hx2 HFH.out)
  have HG2 := Lib.hid (heap_ext hx2 HFH.out)
  clear hx2 c0 c1 c2 c3 c4 d2 d3 d4
  go_wp2_with fail
  refine (HFD.out w2 HX2.out).mono ?_
  rintro e w3 ⟨rfl, hx3⟩
  have HX3 := Lib.hid (HX2.out.trans hx3); have HG3b := Lib.hid (heap_ext hx3 HG2.out)
  clear hx3 d0 d1
  by_cases hth : ∃ x ∈ l, rf x = rf r
  · have HE : Hid (catAdd l r = (l, 9)) := Lib.hid (by unfold catAdd; rw [if_neg (by simp [he]), if_pos hth])
    rw [decide_eq_true hth]
    clear hth
    go_wp2
    go_ret
    exact ⟨by rw [HE.out]; rfl, Ext.ch HX3.out, by rw [HE.out]; exact HCT.out.ext HX3.out⟩
  have HTH := Lib.hid hth
  rw [decide_eq_false hth]
  clear hth
  go_wp2_with fail
  refine (HLN.out w3 HX3.out).mono ?_
  rintro e w4 ⟨rfl, hx4⟩
  have HX4 := Lib.hid (HX3.out.trans hx4); have HG4 := Lib.hid (heap_ext hx4 HG3b.out)
  clear hx4
  by_cases hfull : 64 ≤ l.length
  · have HE : Hid (catAdd l r = (l, 8)) := Lib.hid (by unfold catAdd; rw [if_neg (by simp [he]), if_neg HTH.out, if_pos hfull])
    generalize l.length = n at *
    go_wp2
    go_ret
    exact ⟨by rw [HE.out]; rfl, Ext.ch HX4.out, by rw [HE.out]; exact HCT.out.ext HX4.out⟩
  have HE : Hid (catAdd l r = (ins r l, 0)) := Lib.hid (by unfold catAdd; rw [if_neg (by simp [he]), if_neg HTH.out, if_neg hfull])
  have HIN := Lib.hid (ins_place HOK.out.order fun x hx e => HTH.out ⟨x, hx, e⟩)
  have hkn := place_le l (rf r)
  generalize place l (rf r) = k at *
  obtain ⟨g', v', e0, hbg, h3, cs, h4, h5⟩ := HCT.out.ext HX4.out
  cases e0
  obtain ⟨ao, cap, rfl⟩ := owns_shape h5
  obtain ⟨ci, chi, _, chs, _⟩ := info_parts infoRlZ
  have CHI := Lib.hid chi; have CHS := Lib.hid chs
  have hsl := Sl.ofOwns h5
  have HNC : Hid (l.length ≤ cap) := Lib.hid (by obtain ⟨_, _, e, g1, _⟩ := hsl; cases e; exact g1)
  obtain ⟨dv, hdv, hds⟩ := run_dropR (P := Try.prog) (t := 62) Try.underlying62 chi chs hsl h4.length k hkn
  have HDV := Lib.hid hdv; have HDS : Hid (∃ a n c, dv = .slice a n c) := Lib.hid (by obtain ⟨a, c, e, _⟩ := hds; exact ⟨a, _, c, e⟩)
  have HBW := Lib.hid (show base ≤ w4.heap.size by have := HBW0.out; have := HX4.out.size; omega)
  have HCN := Lib.hid (fun w2 (hx : Ext w4 w2) c b1 b3 k1 k2 k3 => concat_ins (r := r) h4 hsl hkn hds HBW.out (by have := HOK.out.len; omega) hx (c := c) (b1 := b1) (b3 := b3) k1 k2 k3)
  have V0 : Hid (w4.cell? ⟨g, 0, none⟩ = some (.slice ao l.length cap)) := Lib.hid (by rw [cell_of_row _ _ _ _ _ _ h3]; rfl)
  have VG := Lib.hid h3
  have HKN := Lib.hid hkn
  have hc16 := (rlErr_zero he).2.2.2.2.2.1
  have HFR := Lib.hid (fun w2 (hx : Ext w4 w2) => fresh_any base r (.slice co r.cols.length cc) w2 (ColS.ext HCC.out (HX4.out.trans hx)) (by omega))
  have HG3' : Hid (w4.heap[w.heap.size]? = some (.cells (relv r (.slice co r.cols.length cc)) 39 (0, 0))) := HG4
  have HGB := Lib.hid hbg
  clear chi chs hsl hdv hds h3 h4 h5 hkn hc16 hcm hcm2 hbg HG3 he
  obtain ⟨g3, hg3⟩ : ∃ g3, g3 = w.heap.size := ⟨_, rfl⟩
  have HG3 : Hid (w4.heap[g3]? = some (.cells (relv r (.slice co r.cols.length cc)) 39 (0, 0))) := Lib.hid (by rw [hg3]; exact HG3'.out)
  have hln : l.length < 64 := by omega
  clear hfull
  generalize hn : l.length = n at *
  have HN := Lib.hid hn
  clear hn
  have HG := Lib.hid hg3
  clear hg3
  go_wp2
  rw [← HG.out]
  refine wp_region_late (addT base g n k (n + 1) ao cap dv r (.slice co r.cols.length cc) (l.take k ++ r :: l.drop k)) (fun _ => .any) 20 (fun w' => Ch (AtP (.pointer (some ⟨g, 0, none⟩))) w w' ∧ CatS base w' (.pointer (some ⟨g, 0, none⟩)) (ins r l)) mixedV (by rfl) (by rfl) (by decide) ?all ?fin
  case all =>
      refine ⟨?_, ?_, ?_, ?_, ?_, ?_, ?_, ?_, ?_, ?_, ?_, ?_, ?_, ?_, ?_, ?_, ?_, ?_, ?_, ?_, ?_, trivial⟩
      · -- 0: slot 26 := Op.move t0
        refine StepG.early (by rfl) (by decide) rfl fun ρ w hρ hw hf => ?_
        have h0 : ρ (.tmp 0) = (.pointer (some ⟨g, 0, none⟩)) := (hf 0).2 rfl rfl
        exact Exec.kmove rfl rfl h0
      · -- 1: slot 27 := Op.move t0
        refine StepG.early (by rfl) (by decide) rfl fun ρ w hρ hw hf => ?_
        have h0 : ρ (.tmp 0) = (.pointer (some ⟨g, 0, none⟩)) := (hf 0).2 rfl rfl
        exact Exec.kmove rfl rfl h0
      · -- 2: slot 28 := Op.nilCheck t27
        refine StepG.early (by rfl) (by decide) rfl fun ρ w hρ hw hf => ?_
        have h27 : ρ (.tmp 27) = (.pointer (some ⟨g, 0, none⟩)) := (hf 27).1 rfl
        exact Exec.same (v := (.pointer (some ⟨g, 0, none⟩))) rfl (by simp [go_sem, hρ.const, h27]) rfl
      · -- 3: slot 29 := Op.fieldAddr 116 t28 0
        refine StepG.early (by rfl) (by decide) rfl fun ρ w hρ hw hf => ?_
        have h28 : ρ (.tmp 28) = (.pointer (some ⟨g, 0, none⟩)) := (hf 28).1 rfl
        exact Exec.kfield rfl rfl h28 (fieldCat_0 w _) rfl
      · -- 4: slot 30 := Op.load 86 t29
        refine StepG.early (by rfl) (by decide) rfl fun ρ w hρ hw hf => ?_
        have h29 : ρ (.tmp 29) = (.pointer (some ⟨g, 0, none⟩)) := (hf 29).1 rfl
        have hc := hw.cell (p := ⟨g, 0, none⟩) (fun f => f) _ V0.out
        exact Exec.same (v := (.slice ao n cap)) rfl (by simp [go_sem, hρ.const, h29, hc]) rfl
      · -- 5: slot 31 := Op.move t6
        refine StepG.early (by rfl) (by decide) rfl fun ρ w hρ hw hf => ?_
        have h6 : ρ (.tmp 6) = (.int .i64 (k : Nat)) := (hf 6).2 rfl rfl
        exact Exec.kmove rfl rfl h6
      · -- 6: slot 32 := Op.slice 86 t30 none (some t31) none
        refine StepG.early (by rfl) (by decide) rfl fun ρ w hρ hw hf => ?_
        have h30 : ρ (.tmp 30) = (.slice ao n cap) := (hf 30).1 rfl
        have h31 : ρ (.tmp 31) = (.int .i64 (k : Nat)) := (hf 31).1 rfl
        have hr := run_takeCo (P := Try.prog) w (t := 62) Try.underlying62 CHI.out ao n cap k HKN.out HNC.out
        exact Exec.same (v := .slice ao k cap) rfl (by unfold execOp; simp only [h30, h31, Option.map_some, Option.map_none, Sem.run_bind, hr, Result.andThen_ok, Sem.run_pure]) rfl
      · -- 7: slot 33 := Op.load 32 t3
        refine StepG.early (by rfl) (by decide) rfl fun ρ w hρ hw hf => ?_
        have h3 : ρ (.tmp 3) = (.pointer (some ⟨g3, 0, none⟩)) := (hf 3).2 rfl rfl
        exact Exec.kloadrow rfl rfl h3 (heap_ext hw HG3.out) Try.underlying39 rfl infoOw rfl
      · -- 8: slot 34 := Op.call { value (Operand.func 67), args := #[t33], argTypes := #[32] }
        refine StepG.early (by rfl) (by decide) rfl fun ρ w hρ hw hf => ?_
        have h33 : ρ (.tmp 33) = (.agg (relv r (.slice co r.cols.length cc))) := (hf 33).1 rfl
        refine Exec.kcall #[.agg (relv r (.slice co r.cols.length cc))] hρ rfl rfl (by simp [h33]) Try.func52 (by rfl) (by rfl) ((HFR.out w hw).mono ?_)
        rintro e w' ⟨c, rfl, hx, ho⟩
        exact ⟨_, rfl, ⟨c, rfl, ownsRow_down ho (Nat.le_trans HBW.out hw.size)⟩, hx⟩
      · -- 9: slot 35 := Op.buildSlice 86 1 #[(0, t34)]
        refine StepG.early (by rfl) (by decide) rfl fun ρ w hρ hw hf => ?_
        have h34 : (Kn.relF base r).holds (ρ (.tmp 34)) w := (hf 34).1 rfl
        obtain ⟨c, hc, ho⟩ := h34
        obtain ⟨co, cc, rfl⟩ := owns_shape ho
        have hr := oneRl w (r.oid : Nat) (r.ver : Nat) ⟨r.name.toArray⟩ (r.ident : Nat) co r.cols.length cc
        refine Exec.value (v := .slice (some ⟨w.heap.size, 0, none⟩) 1 1) (by unfold execOp; simp only [List.map_toArray, List.map_cons, List.map_nil, hc, Sem.run_bind]; unfold relv strV; rw [hr]; simp only [Result.andThen_ok, Sem.run_pure]; rfl) ⟨fun d hd => by cases hd; exact ⟨_, w.heap.size, rfl, heap_alloc_new w _, ho.ext ((Ch.refl _ _).alloc _)⟩, (Ch.refl _ _).alloc _⟩
      · -- 10: slot 36 := Op.move t0
        refine StepG.early (by rfl) (by decide) rfl fun ρ w hρ hw hf => ?_
        have h0 : ρ (.tmp 0) = (.pointer (some ⟨g, 0, none⟩)) := (hf 0).2 rfl rfl
        exact Exec.kmove rfl rfl h0
      · -- 11: slot 37 := Op.nilCheck t36
        refine StepG.early (by rfl) (by decide) rfl fun ρ w hρ hw hf => ?_
        have h36 : ρ (.tmp 36) = (.pointer (some ⟨g, 0, none⟩)) := (hf 36).1 rfl
        exact Exec.same (v := (.pointer (some ⟨g, 0, none⟩))) rfl (by simp [go_sem, hρ.const, h36]) rfl
      · -- 12: slot 38 := Op.fieldAddr 116 t37 0
        refine StepG.early (by rfl) (by decide) rfl fun ρ w hρ hw hf => ?_
        have h37 : ρ (.tmp 37) = (.pointer (some ⟨g, 0, none⟩)) := (hf 37).1 rfl
        exact Exec.kfield rfl rfl h37 (fieldCat_0 w _) rfl
      · -- 13: slot 39 := Op.load 86 t38
        refine StepG.early (by rfl) (by decide) rfl fun ρ w hρ hw hf => ?_
        have h38 : ρ (.tmp 38) = (.pointer (some ⟨g, 0, none⟩)) := (hf 38).1 rfl
        have hc := hw.cell (p := ⟨g, 0, none⟩) (fun f => f) _ V0.out
        exact Exec.same (v := (.slice ao n cap)) rfl (by simp [go_sem, hρ.const, h38, hc]) rfl
      · -- 14: slot 40 := Op.move t6
        refine StepG.early (by rfl) (by decide) rfl fun ρ w hρ hw hf => ?_
        have h6 : ρ (.tmp 6) = (.int .i64 (k : Nat)) := (hf 6).2 rfl rfl
        exact Exec.kmove rfl rfl h6
      · -- 15: slot 41 := Op.slice 86 t39 (some t40) none none
        refine StepG.early (by rfl) (by decide) rfl fun ρ w hρ hw hf => ?_
        have h39 : ρ (.tmp 39) = (.slice ao n cap) := (hf 39).1 rfl
        have h40 : ρ (.tmp 40) = (.int .i64 (k : Nat)) := (hf 40).1 rfl
        exact Exec.same (v := dv) rfl (by unfold execOp; simp only [h39, h40, Option.map_some, Option.map_none, Sem.run_bind, HDV.out w, Result.andThen_ok, Sem.run_pure]) rfl
      · -- 16: slot 42 := Op.buildSlice 144 3 #[(0, t32), (1, t35), (2, t41)]
        refine StepG.early (by rfl) (by decide) rfl fun ρ w hρ hw hf => ?_
        have h32 : ρ (.tmp 32) = (.slice ao k cap) := (hf 32).1 rfl
        have h35 : (Kn.oneF base r).holds (ρ (.tmp 35)) w := (hf 35).1 rfl
        have h41 : ρ (.tmp 41) = (dv) := (hf 41).1 rfl
        obtain ⟨c, b1, hb, hh, ho⟩ := h35
        obtain ⟨dq, dn, dc, hd3⟩ := HDS.out
        have hr := threeRl w ao k cap (some ⟨b1, 0, none⟩) 1 1 dq dn dc
        refine Exec.value (v := .slice (some ⟨w.heap.size, 0, none⟩) 3 3) (by unfold execOp; simp only [List.map_toArray, List.map_cons, List.map_nil, h32, hb, h41, Sem.run_bind]; rw [hd3, hr]; simp only [Result.andThen_ok, Sem.run_pure]; rfl) ⟨fun d hd => by cases hd; exact ⟨w.heap.size, c, b1, rfl, by rw [hd3]; exact heap_alloc_new w _, heap_ext ((Ch.refl _ _).alloc _) hh, ho.ext ((Ch.refl _ _).alloc _)⟩, (Ch.refl _ _).alloc _⟩
      · -- 17: slot 43 := Op.call { value (Operand.func 66), args := #[t42], argTypes := #[144] 
        refine StepG.early (by rfl) (by decide) rfl fun ρ w hρ hw hf => ?_
        have h42 : (Kn.threeF base r (.slice ao k cap) dv).holds (ρ (.tmp 42)) w := (hf 42).1 rfl
        obtain ⟨b3, c, b1, hb, h3a, hh, ho⟩ := h42
        refine Exec.kcall #[ρ (.tmp 42)] hρ rfl rfl (by simp) Try.func51 (by rfl) (by rfl) ?_
        rw [hb]
        exact (HCN.out w hw c b1 b3 h3a hh ho).mono fun e w' ⟨s, e1, e2, e3⟩ => ⟨s, e1, e3, e2⟩
      · -- 18: slot 44 := Op.nilCheck t26
        refine StepG.early (by rfl) (by decide) rfl fun ρ w hρ hw hf => ?_
        have h26 : ρ (.tmp 26) = (.pointer (some ⟨g, 0, none⟩)) := (hf 26).1 rfl
        exact Exec.same (v := (.pointer (some ⟨g, 0, none⟩))) rfl (by simp [go_sem, hρ.const, h26]) rfl
      · -- 19: slot 45 := Op.fieldAddr 116 t44 0
        refine StepG.early (by rfl) (by decide) rfl fun ρ w hρ hw hf => ?_
        have h44 : ρ (.tmp 44) = (.pointer (some ⟨g, 0, none⟩)) := (hf 44).1 rfl
        exact Exec.kfield rfl rfl h44 (fieldCat_0 w _) rfl
      · refine StepG.write (late := []) (by rfl) rfl (fun d v w w' hd _ => trivial) fun ρ w5 hρ hw hf => ?_
        have h45 : ρ (.tmp 45) = .pointer (some ⟨g, 0, none⟩) := (hf 45).1 rfl
        obtain ⟨cs', hcs, hown⟩ : (Kn.catF base (n + 1) (l.take k ++ r :: l.drop k)).holds (ρ (.tmp 43)) w5 := (hf 43).1 rfl
        obtain ⟨so, sc, hs⟩ := owns_shape hown
        have vg := heap_ext hw VG.out
        have hc : w5.cell? ⟨g, 0, none⟩ = some (.slice ao n cap) := by rw [cell_of_row _ _ _ _ _ _ vg]; rfl
        have hfz := frozen_of_row _ _ 0 _ _ vg
        rw [hs] at hown
        refine Exec.skip (w' := w5.setCell ⟨g, 0, none⟩ (.slice so (n + 1) sc)) (by simp [go_sem, hρ.const, h45, hs, hc, hfz]) ⟨fun d hd => (by cases hd), (show Ch (AtP (.pointer (some ⟨g, 0, none⟩))) w w5 from Ext.ch (HX4.out.trans hw)).setCell (p := ⟨g, 0, none⟩) (.inl rfl) _, g, _, rfl, HGB.out, heap_setCell_same _ g 0 _ _ _ vg, cs', ?_, ?_⟩
        · rw [HIN.out]
          exact hcs.imp fun v c ho => World.ownsRow.kept ho (gby_setCell _ _ _) (.inr fun e => own_ne ho vg (by decide) _ e rfl)
        · rw [ins_length, HN.out]
          exact hown.kept (gby_setCell _ _ _) (.inr fun e => own_ne hown vg (by decide) _ e rfl)
  case fin =>
    intro ν w9 hfin ⟨hch, hct⟩
    have HCH := Lib.hid hch; have HCS := Lib.hid hct
    clear hch hct hfin
    simp only [Exit.then, ended, List.foldl_cons, List.foldl_nil, List.setIfInBounds_toArray, List.set_cons_succ, List.set_cons_zero]
    go_wp2
    go_ret
    exact ⟨by rw [HE.out]; rfl, HCH.out, by rw [HE.out]; exact HCS.out⟩
end Go.Proofs.Ytegclfpmgilnpaa
