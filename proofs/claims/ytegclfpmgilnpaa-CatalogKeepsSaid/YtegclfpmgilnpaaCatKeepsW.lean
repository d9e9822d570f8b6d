/-
  CatalogKeeps: the walk. MADE BY mkCatKeeps.py
-/
import Derived.Test.YtegclfpmgilnpaaCatS
import Derived.Test.YtegclfpmgilnpaaCatR
import Derived.Test.YtegclfpmgilnpaaCatQ
namespace Go.Proofs.Ytegclfpmgilnpaa
open Go.RowKit Go.Lac

def Kn.relQ (r : Rl) : Kn := ⟨fun v w => ∃ c, v = .agg (relv r c) ∧ ColS w c r.cols, fun _ _ _ k ⟨c, h1, h2⟩ => ⟨c, h1, ColS.ext h2 k⟩⟩
theorem catGet_mem {l : List Rl} (ho : InOrder l) {x : Rl} (hm : x ∈ l) : catGet l (rf x) = some x := by
  obtain ⟨j, hj, rfl⟩ := List.mem_iff_getElem.1 hm
  unfold catGet
  refine List.find?_eq_some_iff_getElem.2 ⟨by simp, j, hj, rfl, fun i hi => ?_⟩
  have := (List.pairwise_iff_getElem.1 ho i j (by omega) hj hi).ne
  simpa using this
theorem catAdd_mem {l : List Rl} {r x : Rl} (h : x ∈ l) : x ∈ (catAdd l r).1 := by
  unfold catAdd
  split
  · exact h
  · split
    · exact h
    · split
      · exact h
      · exact mem_ins.2 (.inr h)
theorem catAdd_err {l : List Rl} {r : Rl} (h : (catAdd l r).2 ≠ 0) : (catAdd l r).1 = l := by
  unfold catAdd at *
  split at h
  · rename_i h1; rw [if_pos h1]
  · rename_i h1
    split at h
    · rename_i h2; rw [if_neg h1, if_pos h2]
    · rename_i h2
      split at h
      · rename_i h3; rw [if_neg h1, if_neg h2, if_pos h3]
      · exact absurd rfl h
set_option maxRecDepth 20000 in
set_option maxHeartbeats 4000000 in
theorem add_there (base : Nat) (p : Value) (l : List Rl) (r : Rl) (cv : Value) (w : World) (h : CatS base w p l) (hok : CatOk l) (hb : base ≤ w.heap.size) (hc : ColS w cv r.cols) (hf : r.fits) (hz : rlErr r = 0) (hthere : ∃ x ∈ l, rf x = rf r) :
    Calls Try.prog 12 #[p, .agg (relv r cv)] w fun e w' => e = .returned (.int .i64 9) ∧ Ext w w' := by
  have h1 := heap_alloc_new w (.cells (relv r cv) 39)
  obtain ⟨W, hW⟩ : ∃ W, W = w.alloc (.cells (relv r cv) 39) := ⟨_, rfl⟩
  have hx : Ext w W := by rw [hW]; exact (Ch.refl _ _).alloc _
  rw [← hW] at h1
  have HG3 := Lib.hid h1; have HX := Lib.hid hx; have HW := Lib.hid hW; have HCT := Lib.hid h; have HOK := Lib.hid hok; have HBW0 := Lib.hid hb
  have HCC := Lib.hid hc
  have HRT := Lib.hid (relRight_any r cv W (ColS.ext hc hx) hf)
  have HFD := Lib.hid (fun w2 (hx2 : Ext w w2) => find_any base p l (rf r) w2 (h.ext hx2) hok.order (by have := hok.len; omega))
  have HLN := Lib.hid (fun w2 (hx2 : Ext w w2) => len_any base w2 p l (h.ext hx2))
  obtain ⟨c0, c1, c2, c3, c4⟩ := row_cells h1
  obtain ⟨co, cc, rfl, hcm, hcm2, _⟩ := id hc
  obtain ⟨g, v, rfl, _⟩ := id h
  rw [hW] at c0 c1 c2 c3 c4
  clear h1 hx hW h hok hc hf hb
  unfold relv strV at *
  have he := hz
  rw [he] at HRT
  rw [Int.natCast_zero] at HRT
  have HFH : Hid (W.heap[w.heap.size]? = some (.cells #[.int .u32 (r.oid : Nat), .int .u32 (r.ver : Nat), .string ⟨r.name.toArray⟩, .int .u8 (r.ident : Nat), .slice co r.cols.length cc] 39 (0, 0))) := HG3
  go_enter Try.func12, Try.ntmps12
  go_wp2_with fail
  rw [← HW.out]
  refine HRT.out.mono ?_
  rintro e w2 ⟨rfl, hx2⟩
  have HX2 := Lib.hid (HX.out.trans hx2)
  obtain ⟨d0, d1, d2, d3, d4⟩ := row5 (heap_ext hx2 HFH.out)
  have HG2 := Lib.hid (heap_ext hx2 HFH.out)
  clear hx2 c0 c1 c2 c3 c4 d2 d3 d4
  go_wp2_with fail
  refine (HFD.out w2 HX2.out).mono ?_
  rintro e w3 ⟨rfl, hx3⟩
  have HX3 := Lib.hid (HX2.out.trans hx3); have HG3b := Lib.hid (heap_ext hx3 HG2.out)
  clear hx3 d0 d1
  rw [decide_eq_true hthere]
  clear hthere
  go_wp2
  go_ret
  exact ⟨rfl, HX3.out⟩
def ckA (g3 b o m sc k : Nat) (x : Rl) (cg xv : Value) : Tmp → Kn
  | 60 => .is (.bool true)
  | 61 => .is (.bool false)
  | 62 => .is (.bool false)
  | 63 => .is (.agg (relv x cg))
  | 64 => Kn.relQ x
  | 65 => .is (.slice (some ⟨b, o, none⟩) m sc)
  | 66 => .is (.int .i64 (k : Nat))
  | 67 => .is (.pointer (some ⟨b, o + k * 5, none⟩))
  | 68 => .is (.agg (relv x xv))
  | 69 => .is (.bool true)
  | 70 => .is (.bool false)
  | 71 => .is (.bool false)
  | _ => .any
def ckB (g3 : Nat) (so : Option Addr) (m sc : Nat) (r : Rl) (cg cr : Value) : Tmp → Kn
  | 4 => .is (.bool true)
  | 90 => .is (.bool true)
  | 91 => .is (.bool true)
  | 92 => .is (.agg (relv r cg))
  | 93 => Kn.relQ r
  | 94 => .is (.agg (relv r cr))
  | 95 => .is (.bool true)
  | 96 => .is (.bool true)
  | 97 => .is (.bool true)
  | 98 => .is (.pointer (some ⟨g3, 0, none⟩))
  | 99 => .is (.int .i64 (m + 1 : Nat))
  | 100 => .is (.slice so m sc)
  | 101 => .is (.int .i64 (m : Nat))
  | 102 => .is (.int .i64 (m + 1 : Nat))
  | 103 => .is (.bool true)
  | 104 => .is (.bool true)
  | 105 => .is (.bool true)
  | 106 => .is (.pointer (some ⟨g3, 0, none⟩))
  | 107 => .is (.agg (relv r cr))
  | 108 => Kn.relQ r
  | 109 => .is (.int .i64 9)
  | 110 => .is (.bool true)
  | 111 => .is (.bool true)
  | 112 => .is (.bool true)
  | 113 => .is (.bool true)
  | 114 => .is (.bool true)
  | _ => .any
set_option maxRecDepth 20000 in
set_option maxHeartbeats 8000000 in
theorem catalogKeeps_walk (v cr : Value) (l : List Rl) (r : Rl) (w : World) (h : RlS (ColS w) w v l) (hok : ∀ r ∈ l, r.ok ∧ r.fits) (hcr : ColS w cr r.cols) (hfr : r.fits) (hc24 : r.cols.length ≤ 5864062014805) :
    Calls Try.prog 7 #[v, .agg (relv r cr)] w fun e w' => e = .returned (.bool true) ∧ Ext w w' := by
  have hgb := heap_alloc_new w (.cells (relv r cr) 33)
  obtain ⟨W, hW⟩ : ∃ W, W = w.alloc (.cells (relv r cr) 33) := ⟨_, rfl⟩
  have hxW : Ext w W := by rw [hW]; exact (Ch.refl _ _).alloc _
  rw [← hW] at hgb
  obtain ⟨gb, hgbe⟩ : ∃ gb, gb = w.heap.size := ⟨_, rfl⟩
  rw [← hgbe] at hgb
  have HXW := Lib.hid hxW; have HW := Lib.hid hW; have HGBW := Lib.hid hgb; have HGBE := Lib.hid hgbe
  have HCRW := Lib.hid (ColS.ext hcr hxW); have HFR := Lib.hid hfr; have HC24 := Lib.hid hc24
  have HOF := Lib.hid (rOf_any v l W (h.ext hxW fun u c q => ColS.ext q hxW) fun r hr => (hok r hr).2)
  have HR := Lib.hid (h.ext (Q := ColS W) hxW fun u c q => ColS.ext q hxW); have HF := Lib.hid fun r hr => (hok r hr).2
  obtain ⟨ao, cap, rfl, hlc, hcm⟩ := h.shape
  obtain ⟨ci, chi, cz, chs, cby⟩ := info_parts infoQlZ
  have CHI := Lib.hid chi; have CHS := Lib.hid chs; have CHZ := Lib.hid cz; have CBY := Lib.hid cby
  have hm63 : l.length ≤ 9223372036854775807 := by unfold maxLen at hcm; omega
  obtain ⟨cro, crc, hcre, _⟩ := id hcr
  subst hcre
  clear hW hxW hgb hgbe hcr hfr hc24 h hok hlc chi cz chs cby hcm
  generalize hn : l.length = n at *
  have HN := Lib.hid hn; clear hn
  unfold relv strV at HW ⊢
  go_enter Try.func7, Try.ntmps7
  go_wp2_with fail
  rw [← HW.out, ← HGBE.out]
  refine HOF.out.mono ?_
  rintro e w1 ⟨hx1, v1, rfl, hs1⟩
  have HX1 := Lib.hid hx1; have HS1 := Lib.hid hs1
  obtain ⟨so, sc, rfl, _⟩ := hs1.shape
  clear hx1 hs1 HOF
  by_cases h60 : 60 < n
  · generalize (catOf [] 0 l).2.1 = a1 at *
    generalize (catOf [] 0 l).2.2 = a2 at *
    go_wp2
    go_ret
    exact ⟨rfl, HXW.out.trans HX1.out⟩
  by_cases he : (catOf [] 0 l).2.2 = 0
  case neg =>
    have en : ((((catOf [] 0 l).2.2 : Nat) : Int) != 0) = true := by simp; omega
    clear he
    generalize (catOf [] 0 l).2.1 = a1 at *
    generalize (catOf [] 0 l).2.2 = a2 at *
    go_wp2
    go_ret
    exact ⟨rfl, HXW.out.trans HX1.out⟩
  rw [he]
  have HE := Lib.hid he
  have HZ := Lib.hid ((catOf_zero l [] 0).1 he)
  have HC6 : Hid (∀ r ∈ l, r.cols.length ≤ 1000000) := Lib.hid fun r hr => by have := (rlErr_zero (HZ.out.1 r hr)).2.2.2.2.2.1; omega
  clear he
  generalize (catOf [] 0 l).2.1 = a1 at *
  generalize hL : (catOf [] 0 l).1 = L at *
  have HL := Lib.hid hL
  have HLK : Hid (CatOk L) := Lib.hid (by rw [← hL]; exact catOf_ok l [] 0 CatOk.nil)
  clear hL
  have HM64 : Hid (L.length ≤ 64) := Lib.hid HLK.out.len
  generalize hml : L.length = m at *
  have hm64 : m ≤ 64 := HM64.out
  have HML := Lib.hid hml; clear hml
  have hl60 : l.length ≤ 1000000 := by have := HN.out; omega
  have HOW := Lib.hid (owns_any (.slice ao l.length cap) l w1 (by have := HR.out.ext (Q := ColS w1) HX1.out fun v c h => ColS.ext h HX1.out; rwa [← HN.out] at this) hl60 fun r hr => Nat.le_trans (HC6.out r hr) (by decide))
  rw [HN.out] at HOW
  clear hl60
  go_wp2_with fail
  refine HOW.out.mono ?_
  rintro e w2 ⟨u2, rfl, hx2, cs2, hcs2, how2⟩
  have HX2 := Lib.hid (HX1.out.trans hx2); have HX12 := Lib.hid hx2
  have HOF2 := Lib.hid (ofC_any u2 l w2 ⟨cs2, hcs2.imp fun u c h => Sl.ofOwns h, Sl.ofOwns how2⟩ HF.out)
  rw [HN.out] at how2
  obtain ⟨u2o, u2c, rfl⟩ := owns_shape how2
  clear hx2 hcs2 how2 HOW
  go_wp2_with fail
  refine HOF2.out.mono ?_
  rintro e w3 ⟨hx3, (⟨-, p3, rfl, hct3⟩ | ⟨hne, -⟩)⟩
  case inr => exact absurd HE.out hne
  rw [HL.out] at hct3
  rw [HN.out]
  have HX3 := Lib.hid (HX2.out.trans hx3); have HX13 := Lib.hid (HX12.out.trans hx3); have HC3 := Lib.hid hct3
  obtain ⟨g3, v3, rfl, hg3, _⟩ := id hct3
  have HG3 := Lib.hid hg3
  have HGB3 := Lib.hid (heap_ext HX3.out HGBW.out)
  have HCR3 := Lib.hid (ColS.ext HCRW.out HX3.out)
  have HOWR := Lib.hid (relOwn_any r (.slice cro r.cols.length crc) w3 HCR3.out HC24.out)
  obtain ⟨d0, d1, d2, d3, d4⟩ := row5 HGB3.out
  have HOFS : Hid (w2.heap.size ≤ w3.heap.size) := Lib.hid hx3.size
  clear hx3 hct3 HOF2 hg3
  unfold relv strV at HOWR
  go_wp2_with fail
  refine HOWR.out.mono ?_
  rintro e w4 ⟨c4, rfl, hx4, hc4⟩
  have HX14 := Lib.hid (HX13.out.trans hx4)
  have HADD1 := Lib.hid (add_any w2.heap.size (.pointer (some ⟨g3, 0, none⟩)) L r c4 w4 (HC3.out.ext hx4) HLK.out (Nat.le_trans HOFS.out hx4.size) (Sl.ofOwns hc4) HFR.out)
  obtain ⟨c4o, c4c, rfl⟩ := owns_shape hc4
  have HXW4 := Lib.hid (HX3.out.trans hx4); have HX34S : Hid (w3.heap.size ≤ w4.heap.size) := Lib.hid hx4.size
  clear hx4 hc4 HOWR d0 d1 d2 d3 d4
  unfold relv strV at HADD1 ⊢
  go_wp2_with fail
  refine HADD1.out.mono ?_
  rintro e w5 ⟨rfl, hch, hct⟩
  have HX15 : Hid (Ext w1 w5) := Lib.hid (((Ext.ch HX14.out).trans hch).mono fun j hj h => by
    unfold AtP at h
    cases h
    have := HG3.out
    have := HX12.out.size
    omega)
  have HX5 : Hid (Ext W w5) := Lib.hid (HX1.out.trans HX15.out)
  have HC5 := Lib.hid hct
  have HLK5 := Lib.hid (HLK.out.add r)
  have HGB := Lib.hid (heap_ext HX5.out HGBW.out)
  have HXS5 : Hid (w3.heap.size ≤ w5.heap.size) := Lib.hid (Nat.le_trans HX34S.out hch.size)
  clear hch hct HADD1
  have HSL : Hid (RlS (ColS w1) w1 (.slice so m sc) L) := HS1
  go_wp2
  go_loopw [12] (fun ix wr => ∃ k : Nat, k ≤ m ∧ ix = .int .i64 k ∧ Hid (Ext w5 wr)) (fun ix _ => m - (intOf ix).toNat)
  case atStart => exact ⟨0, Nat.zero_le _, rfl, Lib.hid (Ch.refl _ _)⟩
  case round =>
    obtain ⟨k, hk, rfl, HX⟩ := hrel
    by_cases hlt : k < m
    · have hkl : k < L.length := by have := HML.out; omega
      have hx1r := HX15.out.trans HX.out
      obtain ⟨b, o, xv, hso, hra, hxv⟩ := rlS_at (HSL.out.ext (Q := ColS wr) hx1r fun v c h => ColS.ext h hx1r) hkl
      subst hso
      have hget := catGet_mem HLK5.out.order (catAdd_mem (r := r) (List.getElem_mem hkl))
      have HC6 : Hid (L[k].cols.length ≤ 1000000) := Lib.hid (by have := (rlErr_zero (HLK.out.right _ (List.getElem_mem hkl))).2.2.2.2.2.1; omega)
      generalize L[k] = x at *
      have HGT := Lib.hid (fun w6 (hx : Ext wr w6) => get_any w2.heap.size (.pointer (some ⟨g3, 0, none⟩)) (catAdd L r).1 (rf x) w6 (HC5.out.ext (HX.out.trans hx)) HLK5.out)
      rw [hget] at HGT
      have hidx := run_indexSl wr Try.underlying22 CHI.out CHS.out b o m sc k hlt
      have q0 : wr.cell? ⟨b, o + k * 5, none⟩ = some (.int .u32 (x.oid : Nat)) := by have := hra 0 _ rfl; simpa using this
      have q1 : wr.cell? ⟨b, o + k * 5 + 1, none⟩ = some (.int .u32 (x.ver : Nat)) := hra 1 _ rfl
      have HRA0 := Lib.hid hra; have HXV0 := Lib.hid hxv; have HLT := Lib.hid hlt
      have HREF := Lib.hid (lawRef_any (rf x) wr)
      clear hget hra hxv hkl hx1r
      unfold refv rf at HREF HGT
      go_wp2_with fail
      refine HREF.out.mono ?_
      rintro e w6 ⟨rfl, hx6⟩
      have HX6 := Lib.hid hx6
      have HGT6 := Lib.hid (HGT.out w6 hx6)
      clear hx6 HREF HGT q0 q1 hidx
      go_wp2_with fail
      refine HGT6.out.mono ?_
      rintro e w7 ⟨hx7, cg, rfl, hcg⟩
      have eR : (some x).getD Rl.zero = x := rfl
      rw [eR] at hcg ⊢
      rw [Option.isSome_some]
      have hx07 := HX6.out.trans hx7
      obtain ⟨cgo, cgc, hcge⟩ := owns_shape hcg
      subst hcge
      obtain ⟨w8, hw8⟩ : ∃ w8, w8 = w7.alloc (.cells (relv x (.slice cgo x.cols.length cgc)) 39) := ⟨_, rfl⟩
      have hx8 : Ext w7 w8 := by rw [hw8]; exact (Ch.refl _ _).alloc _
      obtain ⟨g13, hg13⟩ : ∃ g, g = w7.heap.size := ⟨_, rfl⟩
      have HG13 : Hid (w8.heap[g13]? = some (.cells (relv x (.slice cgo x.cols.length cgc)) 39 (0, 0))) := Lib.hid (by rw [hw8, hg13]; exact heap_alloc_new w7 _)
      have HX8 := Lib.hid (HX.out.trans (hx07.trans hx8))
      have HCG : Hid (ColS w8 (.slice cgo x.cols.length cgc) x.cols) := Lib.hid (ColS.ext (Sl.ofOwns hcg) hx8)
      have HXV : Hid (ColS w8 xv x.cols) := Lib.hid (ColS.ext HXV0.out (hx07.trans hx8))
      have HRA : Hid (w8.rangeAt b (o + k * 5) (relv x xv).toList) := Lib.hid fun j u hu => (hx07.trans hx8).cell (p := ⟨b, o + k * 5 + j, none⟩) (fun f => f) _ (HRA0.out j u hu)
      have HW8 := Lib.hid hw8; have HG13E := Lib.hid hg13
      clear hx7 hcg hx07 hx8 hw8 hg13 eR HGT6
      unfold relv strV at HW8 ⊢
      go_wp2
      rw [← HG13E.out, ← HW8.out]
      refine wp_region_ext (ckA g3 b o m sc k x (.slice cgo x.cols.length cgc) xv) mixedV (by rfl) (by rfl) ?all ?fin
      case all =>
          refine ⟨?_, ?_, ?_, ?_, ?_, ?_, ?_, ?_, ?_, ?_, ?_, ?_, trivial⟩
          · -- 0: slot 60 := Op.move t14
            refine StepOK.plain (kn_stable _) rfl fun ρ w hρ hw hf => ?_
            have h14 : ρ (.tmp 14) = (.bool true) := (hf 14).2 rfl rfl
            exact Exec.kmove rfl rfl h14
          · -- 1: slot 61 := Op.unOp UnOp.not 4 t60
            refine StepOK.plain (kn_stable _) rfl fun ρ w hρ hw hf => ?_
            have h60 : ρ (.tmp 60) = (.bool true) := (hf 60).1 rfl
            exact Exec.same (v := .bool false) rfl (by simp [go_sem, hρ.const, h60]) rfl
          · -- 2: slot 62 := Op.move t61
            refine StepOK.plain (kn_stable _) rfl fun ρ w hρ hw hf => ?_
            have h61 : ρ (.tmp 61) = (.bool false) := (hf 61).1 rfl
            exact Exec.kmove rfl rfl h61
          · -- 3: slot 63 := Op.load 39 t13
            refine StepOK.guarded (kn_stable _) 2 false 62 rfl rfl (fun ρ w _ _ hf => (hf 62).1 rfl) fun ρ w hρ hw hf => ?_
            have h13 : ρ (.tmp 13) = (.pointer (some ⟨g13, 0, none⟩)) := (hf 13).2 rfl rfl
            exact Exec.kloadrow rfl rfl h13 (heap_ext hw HG13.out) Try.underlying39 rfl infoOw rfl
          · -- 4: slot 64 := Op.call { value (Operand.func 23), args := #[t63], argTypes := #[39] }
            refine StepOK.guarded (kn_stable _) 2 false 62 rfl rfl (fun ρ w _ _ hf => (hf 62).1 rfl) fun ρ w hρ hw hf => ?_
            have h63 : ρ (.tmp 63) = (.agg (relv x (.slice cgo x.cols.length cgc))) := (hf 63).1 rfl
            refine Exec.kcall #[.agg (relv x (.slice cgo x.cols.length cgc))] hρ rfl rfl (by simp [h63]) Try.func23 (by rfl) (by rfl) ((relBack_any x (.slice cgo x.cols.length cgc) w (ColS.ext HCG.out hw) (by have := HC6.out; omega)).mono ?_)
            rintro e w' ⟨c1, rfl, k1, k2⟩
            exact ⟨_, rfl, ⟨c1, rfl, Sl.ofOwns k2⟩, k1⟩
          · -- 5: slot 65 := Op.move t5
            refine StepOK.guarded (kn_stable _) 2 false 62 rfl rfl (fun ρ w _ _ hf => (hf 62).1 rfl) fun ρ w hρ hw hf => ?_
            have h5 : ρ (.tmp 5) = (.slice (some ⟨b, o, none⟩) m sc) := (hf 5).2 rfl rfl
            exact Exec.kmove rfl rfl h5
          · -- 6: slot 66 := Op.move t12
            refine StepOK.guarded (kn_stable _) 2 false 62 rfl rfl (fun ρ w _ _ hf => (hf 62).1 rfl) fun ρ w hρ hw hf => ?_
            have h12 : ρ (.tmp 12) = (.int .i64 (k : Nat)) := (hf 12).2 rfl rfl
            exact Exec.kmove rfl rfl h12
          · -- 7: slot 67 := Op.indexAddr 22 t65 t66
            refine StepOK.guarded (kn_stable _) 2 false 62 rfl rfl (fun ρ w _ _ hf => (hf 62).1 rfl) fun ρ w hρ hw hf => ?_
            have h65 : ρ (.tmp 65) = (.slice (some ⟨b, o, none⟩) m sc) := (hf 65).1 rfl
            have h66 : ρ (.tmp 66) = (.int .i64 (k : Nat)) := (hf 66).1 rfl
            exact Exec.kindex rfl rfl Try.underlying22 CHI.out CHS.out h65 h66 HLT.out rfl
          · -- 8: slot 68 := Op.load 33 t67
            refine StepOK.guarded (kn_stable _) 2 false 62 rfl rfl (fun ρ w _ _ hf => (hf 62).1 rfl) fun ρ w hρ hw hf => ?_
            have h67 : ρ (.tmp 67) = (.pointer (some ⟨b, o + k * 5, none⟩)) := (hf 67).1 rfl
            have hm : w.rangeAt b (o + k * 5) (relv x xv).toList := fun j u hu => hw.cell (p := ⟨b, o + k * 5 + j, none⟩) (fun f => f) _ (HRA.out j u hu)
            have hr := run_loadAt_mid (P := Try.prog) w b (o + k * 5) 33 (relv x xv).toList _ hm Try.underlying33 rfl infoQl
            exact Exec.same (v := .agg (relv x xv)) rfl (by unfold execOp; simp only [h67, Sem.run_bind, hr, Result.andThen_ok, Sem.run_pure]) rfl
          · -- 9: slot 69 := Op.call { value (Operand.func 22), args := #[t64, t68], argTypes := #[
            refine StepOK.guarded (kn_stable _) 2 false 62 rfl rfl (fun ρ w _ _ hf => (hf 62).1 rfl) fun ρ w hρ hw hf => ?_
            have h64 : (Kn.relQ x).holds (ρ (.tmp 64)) w := (hf 64).1 rfl
            have h68 : ρ (.tmp 68) = (.agg (relv x xv)) := (hf 68).1 rfl
            obtain ⟨c1, h1, h2⟩ : ∃ c1, ρ (.tmp 64) = .agg (relv x c1) ∧ ColS w c1 x.cols := h64
            refine Exec.kcall #[.agg (relv x c1), .agg (relv x xv)] hρ rfl rfl (by simp [h1, h68]) Try.func22 (by rfl) (by rfl) ((refSame_any x x c1 xv w h2 (ColS.ext HXV.out hw)).mono ?_)
            rintro e w' ⟨rfl, k1⟩
            exact ⟨_, rfl, by rw [decide_eq_true rfl]; rfl, k1⟩
          · -- 10: slot 70 := Op.unOp UnOp.not 4 t69
            refine StepOK.guarded (kn_stable _) 2 false 62 rfl rfl (fun ρ w _ _ hf => (hf 62).1 rfl) fun ρ w hρ hw hf => ?_
            have h69 : ρ (.tmp 69) = (.bool true) := (hf 69).1 rfl
            exact Exec.same (v := .bool false) rfl (by simp [go_sem, hρ.const, h69]) rfl
          · -- 11: slot 71 := Op.pick t62 (const (Value.bool true)) t70
            refine StepOK.plain (kn_stable _) rfl fun ρ w hρ hw hf => ?_
            have h62 : ρ (.tmp 62) = (.bool false) := (hf 62).1 rfl
            have h70 : ρ (.tmp 70) = (.bool false) := (hf 70).1 rfl
            exact Exec.kpickF rfl rfl h62 h70
      case fin =>
        intro ν w9 hfin hx9
        have e0 : ν 71 = .bool false := hfin 11 71 rfl
        simp only [Exit.then, ended, List.foldl_cons, List.foldl_nil, List.setIfInBounds_toArray, List.set_cons_succ, List.set_cons_zero, e0]
        have HX9 := Lib.hid (HX8.out.trans hx9)
        clear hfin hx9 e0
        go_wp2
        go_roundw
        case rel => exact ⟨k + 1, HLT.out, by simp, HX9⟩
        case measure => simp [intOf]; have := HLT.out; omega
    · obtain rfl : k = m := by omega
      have HC9 := Lib.hid (HC5.out.ext HX.out)
      have HXr := Lib.hid (HXW.out.trans (HX5.out.trans HX.out))
      by_cases he : (catAdd L r).2 = 0
      case neg =>
        have en : ((((catAdd L r).2 : Nat) : Int) != 0) = true := by simp; omega
        have HLEN := Lib.hid (len_any w2.heap.size wr (.pointer (some ⟨g3, 0, none⟩)) (catAdd L r).1 HC9.out)
        rw [catAdd_err he, HML.out] at HLEN
        clear he
        generalize (catAdd L r).2 = E at *
        go_wp2_with fail
        refine HLEN.out.mono ?_
        rintro e w6 ⟨rfl, hx6⟩
        have HX6 := Lib.hid (HXr.out.trans hx6)
        clear hx6 HLEN
        go_wp2_with fail
        refine (awake9_any w6).mono ?_
        rintro e w7 ⟨rfl, hx7⟩
        have HX7 := Lib.hid (HX6.out.trans hx7)
        clear hx7
        go_wp2
        go_ret
        exact ⟨rfl, HX7.out⟩
      rw [he]
      obtain ⟨hz, hnt, _⟩ := catAdd_zero.1 he
      have HIN := Lib.hid (catAdd_ins he)
      have HC16 : Hid (r.cols.length ≤ 1000000) := Lib.hid (by have := (rlErr_zero hz).2.2.2.2.2.1; omega)
      have hget := catGet_mem HLK5.out.order (x := r) (by rw [HIN.out]; exact mem_ins.2 (.inl rfl))
      have HGT := Lib.hid (fun w6 (hx : Ext wr w6) => get_any w2.heap.size (.pointer (some ⟨g3, 0, none⟩)) (catAdd L r).1 (rf r) w6 (HC9.out.ext hx) HLK5.out)
      rw [hget] at HGT
      have HZ := Lib.hid hz
      have HGBr := Lib.hid (heap_ext HX.out HGB.out)
      have HREF := Lib.hid (lawRef_any (rf r) wr)
      obtain ⟨d0, d1, _⟩ := row5 HGBr.out
      clear hget hz hnt he
      unfold refv rf at HREF HGT
      go_wp2_with fail
      refine HREF.out.mono ?_
      rintro e w6 ⟨rfl, hx6⟩
      have HX6 := Lib.hid hx6
      have HGT6 := Lib.hid (HGT.out w6 hx6)
      clear hx6 HREF HGT d0 d1
      go_wp2_with fail
      refine HGT6.out.mono ?_
      rintro e w7 ⟨hx7, cg, rfl, hcg⟩
      have eR : (some r).getD Rl.zero = r := rfl
      rw [eR] at hcg ⊢
      rw [Option.isSome_some]
      have hx07 := HX6.out.trans hx7
      obtain ⟨cgo, cgc, hcge⟩ := owns_shape hcg
      subst hcge
      obtain ⟨w8, hw8⟩ : ∃ w8, w8 = w7.alloc (.cells (relv r (.slice cgo r.cols.length cgc)) 39) := ⟨_, rfl⟩
      have hx8 : Ext w7 w8 := by rw [hw8]; exact (Ch.refl _ _).alloc _
      obtain ⟨g15, hg15⟩ : ∃ g, g = w7.heap.size := ⟨_, rfl⟩
      have HG15 : Hid (w8.heap[g15]? = some (.cells (relv r (.slice cgo r.cols.length cgc)) 39 (0, 0))) := Lib.hid (by rw [hw8, hg15]; exact heap_alloc_new w7 _)
      have HXr8 := Lib.hid (hx07.trans hx8)
      have HCG : Hid (ColS w8 (.slice cgo r.cols.length cgc) r.cols) := Lib.hid (ColS.ext (Sl.ofOwns hcg) hx8)
      have HGB8 := Lib.hid (heap_ext HXr8.out HGBr.out)
      have HCR : Hid (ColS w8 (.slice cro r.cols.length crc) r.cols) := Lib.hid (ColS.ext HCRW.out (HX5.out.trans (HX.out.trans HXr8.out)))
      have HC8 := Lib.hid (HC9.out.ext HXr8.out)
      have HLEN : Hid (∀ w9, Ext w8 w9 → Calls Try.prog 14 #[.pointer (some ⟨g3, 0, none⟩)] w9 fun e w' => e = .returned (.int .i64 (k + 1 : Nat)) ∧ Ext w9 w') := Lib.hid fun w9 hx => by
        have := len_any w2.heap.size w9 (.pointer (some ⟨g3, 0, none⟩)) (catAdd L r).1 (HC8.out.ext hx)
        rwa [HIN.out, ins_length, HML.out] at this
      have HADD : Hid (∀ w9, Ext w8 w9 → ∀ c1, ColS w9 c1 r.cols → Calls Try.prog 12 #[.pointer (some ⟨g3, 0, none⟩), .agg (relv r c1)] w9 fun e w' => e = .returned (.int .i64 9) ∧ Ext w9 w') := Lib.hid fun w9 hx c1 hc1 =>
        add_there w2.heap.size (.pointer (some ⟨g3, 0, none⟩)) (catAdd L r).1 r c1 w9 (HC8.out.ext hx) HLK5.out (by have := HXr8.out.size; have := hx.size; have := HX.out.size; have := HX15.out.size; have := HOFS.out; have := HXS5.out; omega) hc1 HFR.out HZ.out ⟨r, by rw [HIN.out]; exact mem_ins.2 (.inl rfl), rfl⟩
      have HGB := HGB8
      have HW8 := Lib.hid hw8; have HG15E := Lib.hid hg15; have HX8 := Lib.hid (HXr.out.trans HXr8.out)
      clear hx7 hcg hx07 hx8 hw8 hg15 eR HGT6
      unfold relv strV at HW8 ⊢
      go_wp2
      rw [← HG15E.out, ← HW8.out]
      refine wp_region_ext (ckB g3 so k sc r (.slice cgo r.cols.length cgc) (.slice cro r.cols.length crc)) mixedV (by rfl) (by rfl) ?all ?fin
      case all =>
          refine ⟨?_, ?_, ?_, ?_, ?_, ?_, ?_, ?_, ?_, ?_, ?_, ?_, ?_, ?_, ?_, ?_, ?_, ?_, ?_, ?_, ?_, ?_, ?_, ?_, ?_, ?_, trivial⟩
          · -- 0: slot 90 := Op.move t16
            refine StepOK.plain (kn_stable _) rfl fun ρ w hρ hw hf => ?_
            have h16 : ρ (.tmp 16) = (.bool true) := (hf 16).2 rfl rfl
            exact Exec.kmove rfl rfl h16
          · -- 1: slot 91 := Op.move t90
            refine StepOK.plain (kn_stable _) rfl fun ρ w hρ hw hf => ?_
            have h90 : ρ (.tmp 90) = (.bool true) := (hf 90).1 rfl
            exact Exec.kmove rfl rfl h90
          · -- 2: slot 92 := Op.load 39 t15
            refine StepOK.guarded (kn_stable _) 1 true 91 rfl rfl (fun ρ w _ _ hf => (hf 91).1 rfl) fun ρ w hρ hw hf => ?_
            have h15 : ρ (.tmp 15) = (.pointer (some ⟨g15, 0, none⟩)) := (hf 15).2 rfl rfl
            exact Exec.kloadrow rfl rfl h15 (heap_ext hw HG15.out) Try.underlying39 rfl infoOw rfl
          · -- 3: slot 93 := Op.call { value (Operand.func 23), args := #[t92], argTypes := #[39] }
            refine StepOK.guarded (kn_stable _) 1 true 91 rfl rfl (fun ρ w _ _ hf => (hf 91).1 rfl) fun ρ w hρ hw hf => ?_
            have h92 : ρ (.tmp 92) = (.agg (relv r (.slice cgo r.cols.length cgc))) := (hf 92).1 rfl
            refine Exec.kcall #[.agg (relv r (.slice cgo r.cols.length cgc))] hρ rfl rfl (by simp [h92]) Try.func23 (by rfl) (by rfl) ((relBack_any r (.slice cgo r.cols.length cgc) w (ColS.ext HCG.out hw) (by have := HC16.out; omega)).mono ?_)
            rintro e w' ⟨c1, rfl, k1, k2⟩
            exact ⟨_, rfl, ⟨c1, rfl, Sl.ofOwns k2⟩, k1⟩
          · -- 4: slot 94 := Op.load 33 t3
            refine StepOK.guarded (kn_stable _) 1 true 91 rfl rfl (fun ρ w _ _ hf => (hf 91).1 rfl) fun ρ w hρ hw hf => ?_
            have h3 : ρ (.tmp 3) = (.pointer (some ⟨gb, 0, none⟩)) := (hf 3).2 rfl rfl
            exact Exec.kloadrow rfl rfl h3 (heap_ext hw HGB.out) Try.underlying33 rfl infoQl rfl
          · -- 5: slot 95 := Op.call { value (Operand.func 22), args := #[t93, t94], argTypes := #[
            refine StepOK.guarded (kn_stable _) 1 true 91 rfl rfl (fun ρ w _ _ hf => (hf 91).1 rfl) fun ρ w hρ hw hf => ?_
            have h93 : (Kn.relQ r).holds (ρ (.tmp 93)) w := (hf 93).1 rfl
            have h94 : ρ (.tmp 94) = (.agg (relv r (.slice cro r.cols.length crc))) := (hf 94).1 rfl
            obtain ⟨c1, h1, h2⟩ : ∃ c1, ρ (.tmp 93) = .agg (relv r c1) ∧ ColS w c1 r.cols := h93
            refine Exec.kcall #[.agg (relv r c1), .agg (relv r (.slice cro r.cols.length crc))] hρ rfl rfl (by simp [h1, h94]) Try.func22 (by rfl) (by rfl) ((refSame_any r r c1 (.slice cro r.cols.length crc) w h2 (ColS.ext HCR.out hw)).mono ?_)
            rintro e w' ⟨rfl, k1⟩
            exact ⟨_, rfl, by rw [decide_eq_true rfl]; rfl, k1⟩
          · -- 6: slot 96 := Op.pick t91 t95 (const (Value.bool false))
            refine StepOK.plain (kn_stable _) rfl fun ρ w hρ hw hf => ?_
            have h91 : ρ (.tmp 91) = (.bool true) := (hf 91).1 rfl
            have h95 : ρ (.tmp 95) = (.bool true) := (hf 95).1 rfl
            exact Exec.kpickT rfl rfl h91 h95
          · -- 7: slot 97 := Op.move t96
            refine StepOK.plain (kn_stable _) rfl fun ρ w hρ hw hf => ?_
            have h96 : ρ (.tmp 96) = (.bool true) := (hf 96).1 rfl
            exact Exec.kmove rfl rfl h96
          · -- 8: slot 98 := Op.move t8
            refine StepOK.guarded (kn_stable _) 7 true 97 rfl rfl (fun ρ w _ _ hf => (hf 97).1 rfl) fun ρ w hρ hw hf => ?_
            have h8 : ρ (.tmp 8) = (.pointer (some ⟨g3, 0, none⟩)) := (hf 8).2 rfl rfl
            exact Exec.kmove rfl rfl h8
          · -- 9: slot 99 := Op.call { value (Operand.func 14), args := #[t98], argTypes := #[27] }
            refine StepOK.guarded (kn_stable _) 7 true 97 rfl rfl (fun ρ w _ _ hf => (hf 97).1 rfl) fun ρ w hρ hw hf => ?_
            have h98 : ρ (.tmp 98) = (.pointer (some ⟨g3, 0, none⟩)) := (hf 98).1 rfl
            refine Exec.kcall #[(.pointer (some ⟨g3, 0, none⟩))] hρ rfl rfl (by simp [h98]) Try.func14 (by rfl) (by rfl) ((HLEN.out w hw).mono ?_)
            rintro e w' ⟨rfl, k1⟩
            exact ⟨_, rfl, rfl, k1⟩
          · -- 10: slot 100 := Op.move t5
            refine StepOK.guarded (kn_stable _) 7 true 97 rfl rfl (fun ρ w _ _ hf => (hf 97).1 rfl) fun ρ w hρ hw hf => ?_
            have h5 : ρ (.tmp 5) = (.slice so k sc) := (hf 5).2 rfl rfl
            exact Exec.kmove rfl rfl h5
          · -- 11: slot 101 := Op.call { builtin len, args := #[t100], argTypes := #[22] }
            refine StepOK.guarded (kn_stable _) 7 true 97 rfl rfl (fun ρ w _ _ hf => (hf 97).1 rfl) fun ρ w hρ hw hf => ?_
            have h100 : ρ (.tmp 100) = (.slice so k sc) := (hf 100).1 rfl
            exact Exec.same (v := .int .i64 (k : Nat)) rfl (by simp [go_sem, hρ.const, h100]) rfl
          · -- 12: slot 102 := Op.binOp BinOp.add 3 t101 (const (1:i64)) 3
            refine StepOK.guarded (kn_stable _) 7 true 97 rfl rfl (fun ρ w _ _ hf => (hf 97).1 rfl) fun ρ w hρ hw hf => ?_
            have h101 : ρ (.tmp 101) = (.int .i64 (k : Nat)) := (hf 101).1 rfl
            have hwr : IntKind.i64.wrap (((k : Nat) : Int) + 1) = ((k + 1 : Nat) : Int) := by have := HM64.out; rw [IntKind.wrap_i64]; omega
            exact Exec.same (v := .int .i64 (k + 1 : Nat)) rfl (by simp only [go_sem, execOp, hρ.const, h101, hwr]; rfl) rfl
          · -- 13: slot 103 := Op.binOp BinOp.eql 3 t99 t102 3
            refine StepOK.guarded (kn_stable _) 7 true 97 rfl rfl (fun ρ w _ _ hf => (hf 97).1 rfl) fun ρ w hρ hw hf => ?_
            have h99 : ρ (.tmp 99) = (.int .i64 (k + 1 : Nat)) := (hf 99).1 rfl
            have h102 : ρ (.tmp 102) = (.int .i64 (k + 1 : Nat)) := (hf 102).1 rfl
            exact Exec.same (v := .bool true) rfl (by simp [go_sem, hρ.const, h99, h102]) rfl
          · -- 14: slot 104 := Op.pick t97 t103 (const (Value.bool false))
            refine StepOK.plain (kn_stable _) rfl fun ρ w hρ hw hf => ?_
            have h97 : ρ (.tmp 97) = (.bool true) := (hf 97).1 rfl
            have h103 : ρ (.tmp 103) = (.bool true) := (hf 103).1 rfl
            exact Exec.kpickT rfl rfl h97 h103
          · -- 15: slot 105 := Op.move t104
            refine StepOK.plain (kn_stable _) rfl fun ρ w hρ hw hf => ?_
            have h104 : ρ (.tmp 104) = (.bool true) := (hf 104).1 rfl
            exact Exec.kmove rfl rfl h104
          · -- 16: slot 106 := Op.move t8
            refine StepOK.guarded (kn_stable _) 15 true 105 rfl rfl (fun ρ w _ _ hf => (hf 105).1 rfl) fun ρ w hρ hw hf => ?_
            have h8 : ρ (.tmp 8) = (.pointer (some ⟨g3, 0, none⟩)) := (hf 8).2 rfl rfl
            exact Exec.kmove rfl rfl h8
          · -- 17: slot 107 := Op.load 33 t3
            refine StepOK.guarded (kn_stable _) 15 true 105 rfl rfl (fun ρ w _ _ hf => (hf 105).1 rfl) fun ρ w hρ hw hf => ?_
            have h3 : ρ (.tmp 3) = (.pointer (some ⟨gb, 0, none⟩)) := (hf 3).2 rfl rfl
            exact Exec.kloadrow rfl rfl h3 (heap_ext hw HGB.out) Try.underlying33 rfl infoQl rfl
          · -- 18: slot 108 := Op.call { value (Operand.func 13), args := #[t107], argTypes := #[33] 
            refine StepOK.guarded (kn_stable _) 15 true 105 rfl rfl (fun ρ w _ _ hf => (hf 105).1 rfl) fun ρ w hρ hw hf => ?_
            have h107 : ρ (.tmp 107) = (.agg (relv r (.slice cro r.cols.length crc))) := (hf 107).1 rfl
            refine Exec.kcall #[.agg (relv r (.slice cro r.cols.length crc))] hρ rfl rfl (by simp [h107]) Try.func13 (by rfl) (by rfl) ((relOwn_any r (.slice cro r.cols.length crc) w (ColS.ext HCR.out hw) (by have := HC16.out; omega)).mono ?_)
            rintro e w' ⟨c1, rfl, k1, k2⟩
            exact ⟨_, rfl, ⟨c1, rfl, Sl.ofOwns k2⟩, k1⟩
          · -- 19: slot 109 := Op.call { value (Operand.func 12), args := #[t106, t108], argTypes := 
            refine StepOK.guarded (kn_stable _) 15 true 105 rfl rfl (fun ρ w _ _ hf => (hf 105).1 rfl) fun ρ w hρ hw hf => ?_
            have h106 : ρ (.tmp 106) = (.pointer (some ⟨g3, 0, none⟩)) := (hf 106).1 rfl
            have h108 : (Kn.relQ r).holds (ρ (.tmp 108)) w := (hf 108).1 rfl
            obtain ⟨c1, h1, h2⟩ : ∃ c1, ρ (.tmp 108) = .agg (relv r c1) ∧ ColS w c1 r.cols := h108
            refine Exec.kcall #[(.pointer (some ⟨g3, 0, none⟩)), .agg (relv r c1)] hρ rfl rfl (by simp [h106, h1]) Try.func12 (by rfl) (by rfl) ((HADD.out w hw c1 h2).mono ?_)
            rintro e w' ⟨rfl, k1⟩
            exact ⟨_, rfl, rfl, k1⟩
          · -- 20: slot 110 := Op.binOp BinOp.eql 34 t109 (const (9:i64)) 34
            refine StepOK.guarded (kn_stable _) 15 true 105 rfl rfl (fun ρ w _ _ hf => (hf 105).1 rfl) fun ρ w hρ hw hf => ?_
            have h109 : ρ (.tmp 109) = (.int .i64 9) := (hf 109).1 rfl
            exact Exec.same (v := .bool true) rfl (by simp [go_sem, hρ.const, h109]) rfl
          · -- 21: slot 111 := Op.pick t105 t110 (const (Value.bool false))
            refine StepOK.plain (kn_stable _) rfl fun ρ w hρ hw hf => ?_
            have h105 : ρ (.tmp 105) = (.bool true) := (hf 105).1 rfl
            have h110 : ρ (.tmp 110) = (.bool true) := (hf 110).1 rfl
            exact Exec.kpickT rfl rfl h105 h110
          · -- 22: slot 112 := Op.move t111
            refine StepOK.plain (kn_stable _) rfl fun ρ w hρ hw hf => ?_
            have h111 : ρ (.tmp 111) = (.bool true) := (hf 111).1 rfl
            exact Exec.kmove rfl rfl h111
          · -- 23: slot 113 := Op.call { value (Operand.func 26), args := #[], argTypes := #[] }
            refine StepOK.guarded (kn_stable _) 22 true 112 rfl rfl (fun ρ w _ _ hf => (hf 112).1 rfl) fun ρ w hρ hw hf => ?_
            refine Exec.kcall #[] hρ rfl rfl (by simp) Try.func26 (by rfl) rfl ((awake9_any w).mono ?_)
            rintro e w' ⟨rfl, k1⟩
            exact ⟨_, rfl, rfl, k1⟩
          · -- 24: slot 114 := Op.pick t112 t113 (const (Value.bool false))
            refine StepOK.plain (kn_stable _) rfl fun ρ w hρ hw hf => ?_
            have h112 : ρ (.tmp 112) = (.bool true) := (hf 112).1 rfl
            have h113 : ρ (.tmp 113) = (.bool true) := (hf 113).1 rfl
            exact Exec.kpickT rfl rfl h112 h113
          · -- 25: slot 4 := Op.assign t114
            refine StepOK.plain (kn_stable _) rfl fun ρ w hρ hw hf => ?_
            have h114 : ρ (.tmp 114) = (.bool true) := (hf 114).1 rfl
            exact Exec.kassign rfl rfl h114
      case fin =>
        intro ν w9 hfin hx9
        have e0 : ν 4 = .bool true := hfin 25 4 rfl
        simp only [Exit.then, ended, List.foldl_cons, List.foldl_nil, List.setIfInBounds_toArray, List.set_cons_succ, List.set_cons_zero, e0]
        have HX9 := Lib.hid (HX8.out.trans hx9)
        clear hfin hx9 e0
        go_wp2
        go_ret
        exact ⟨rfl, HX9.out⟩
end Go.Proofs.Ytegclfpmgilnpaa
