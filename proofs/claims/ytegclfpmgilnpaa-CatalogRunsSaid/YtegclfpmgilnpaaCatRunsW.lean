/-
  CatalogRuns: the walk. MADE BY mkCatRuns.py
-/
import Derived.Test.YtegclfpmgilnpaaCatS
import Derived.Test.YtegclfpmgilnpaaCatT
import Derived.Test.YtegclfpmgilnpaaCatV
namespace Go.Proofs.Ytegclfpmgilnpaa
open Go.RowKit Go.Lac

def Kn.relQ (r : Rl) : Kn := ⟨fun v w => ∃ c, v = .agg (relv r c) ∧ ColS w c r.cols, fun _ _ _ k ⟨c, h1, h2⟩ => ⟨c, h1, ColS.ext h2 k⟩⟩
/-- Relations lie in no box that holds a slice. -/
theorem rlS_box {w w' : World} {v : Value} {l : List Rl} (h : RlS (ColS w) w v l) {G : Nat} {ao : Option Addr} {n c : Nat} {T : TypeId} (hx : Ch (fun k => k = G) w w') (hG : w.heap[G]? = some (.cells #[.slice ao n c] T (0, 0))) : RlS (ColS w') w' v l := by
  have key : ∀ (b o : Nat) (u : Value), w.cell? ⟨b, o, none⟩ = some u → (∀ a n c, u ≠ .slice a n c) → b ≠ G := by
    intro b o u hc hu e
    subst e
    have h8 : w.cell? ⟨b, o, none⟩ = (#[Value.slice ao n c] : Array Value)[o]? := by simp [World.cell?, hG]
    rw [h8] at hc
    cases o with
    | zero => simp at hc; exact hu _ _ _ hc.symm
    | succ o => simp at hc
  have keep : ∀ (b o : Nat) (u : Value), b ≠ G → w.cell? ⟨b, o, none⟩ = some u → w'.cell? ⟨b, o, none⟩ = some u := fun b o u hb hc => hx.cell (p := ⟨b, o, none⟩) hb u hc
  have hcol : ∀ cv cols, ColS w cv cols → ColS w' cv cols := by
    rintro cv cols ⟨ao', cap, h1, h2, h3, h4, h5⟩
    refine ⟨ao', cap, h1, h2, h3, h4, fun x hx' j u hu => ?_⟩
    obtain ⟨b, off, rfl, h6⟩ := h5 x hx' j u hu
    have hb : b ≠ G := by
      cases cols with
      | nil => simp [colC] at hu
      | cons q cols =>
        obtain ⟨b', off', e, h7⟩ := h5 _ hx' 2 (.bool q.key) (by simp [colC, colv])
        cases e
        exact key b _ _ h7 (fun _ _ _ => by simp)
    exact ⟨b, off, rfl, keep b _ _ hb h6⟩
  obtain ⟨cs, hcs, ao', cap, h1, h2, h3, h4, h5⟩ := h
  refine ⟨cs, hcs.imp fun u c h => hcol u c h, ao', cap, h1, h2, h3, h4, fun x hx' j u hu => ?_⟩
  obtain ⟨b, off, rfl, h6⟩ := h5 x hx' j u hu
  have hb : b ≠ G := by
    cases l with
    | nil => rw [show cs = [] from hcs] at hu; simp at hu
    | cons r l =>
      obtain ⟨cv, t, e, _, _⟩ := hcs
      obtain ⟨b', off', e2, h7⟩ := h5 _ hx' 0 (.int .u32 (r.oid : Nat)) (by rw [e]; simp [relv])
      cases e2
      exact key b _ _ h7 (fun _ _ _ => by simp)
  exact ⟨b, off, rfl, keep b _ _ hb h6⟩
theorem RfS.of {w : World} {v : Value} {l : List (Nat × Nat)} (h : Sl w v l.length (RfC l)) : RfS w v l := h
theorem fieldRf8_0p (w : World) (b : Nat) : (Instr.fieldAt 25 (.pointer (some ⟨b, 0, none⟩)) 0).run Try.prog w = .ok (.pointer (some ⟨b, 0, none⟩)) w := by kernel_rfl
theorem oneRf (w : World) (x y : Int) : (Instr.buildSlice 54 1 #[(0, .agg #[.int .u32 x, .int .u32 y])]).run Try.prog w = .ok (.slice (some ⟨w.heap.size, 0, none⟩) 1 1) (w.alloc (.cells #[.int .u32 x, .int .u32 y] 36)) := by kernel_rfl
theorem catGet_ok {l : List Rl} (h : CatOk l) (p : Nat × Nat) : ((catGet l p).getD .zero).cols.length ≤ 1000000 := by
  cases hg : catGet l p with
  | none => simp [Rl.zero]
  | some x =>
    have hm : x ∈ l := List.mem_of_find?_eq_some hg
    have := (rlErr_zero (h.right x hm)).2.2.2.2.2.1
    simp only [Option.getD_some]
    omega
theorem young_ok {l : List Rl} (h : CatOk l) (oid : Nat) : ((young oid none l).getD .zero).cols.length ≤ 1000000 := by
  cases hg : young oid none l with
  | none => simp [Rl.zero]
  | some x =>
    have hm : x ∈ l := by
      rcases young_mem l none hg with h1 | ⟨h1, _⟩
      · cases h1
      · exact h1
    have := (rlErr_zero (h.right x hm)).2.2.2.2.2.1
    simp only [Option.getD_some]
    omega
def crA (v12 v8 : Value) (S1 S2 : Bool) (X Y : Rl) (c14 c16 c18 c20 : Value) : Tmp → Kn
  | 103 => .is (.bool true)
  | 104 => .is (.bool false)
  | 105 => .is (.bool false)
  | 106 => .is v12
  | 107 => .is v8
  | 108 => .is (.bool true)
  | 109 => .is (.bool false)
  | 110 => .is (.bool false)
  | 111 => .is (.bool false)
  | 112 => .is (.bool S1)
  | 113 => .is (.bool S1)
  | 114 => .is (.bool false)
  | 115 => .is (.bool false)
  | 116 => .is (.bool false)
  | 117 => .is (.agg (relv X c14))
  | 118 => Kn.relQ X
  | 119 => .is (.agg (relv X c16))
  | 120 => .is (.bool true)
  | 121 => .is (.bool false)
  | 122 => .is (.bool false)
  | 123 => .is (.bool false)
  | 124 => .is (.bool S2)
  | 125 => .is (.bool S2)
  | 126 => .is (.bool false)
  | 127 => .is (.bool false)
  | 128 => .is (.bool false)
  | 129 => .is (.agg (relv Y c18))
  | 130 => Kn.relQ Y
  | 131 => .is (.agg (relv Y c20))
  | 132 => .is (.bool true)
  | 133 => .is (.bool false)
  | 134 => .is (.bool false)
  | _ => .any
set_option maxRecDepth 20000 in
set_option maxHeartbeats 8000000 in
theorem catalogRuns_walk (v u : Value) (l : List Rl) (p : Nat × Nat) (refs : List (Nat × Nat)) (w : World) (h : RlS (ColS w) w v l) (hu : RfS w u refs) (hok : ∀ r ∈ l, r.ok ∧ r.fits) (hc : ∀ r ∈ l, r.cols.length ≤ 5864062014805) :
    Calls Try.prog 3 #[v, .agg (refv p), u] w fun e w' => e = .returned (.bool true) ∧ Ext w w' := by
  have hgb := heap_alloc_new w (.cells (refv p) 25)
  obtain ⟨W, hW⟩ : ∃ W, W = w.alloc (.cells (refv p) 25) := ⟨_, rfl⟩
  have hxW : Ext w W := by rw [hW]; exact (Ch.refl _ _).alloc _
  rw [← hW] at hgb
  obtain ⟨gb, hgbe⟩ : ∃ gb, gb = w.heap.size := ⟨_, rfl⟩
  rw [← hgbe] at hgb
  have HXW := Lib.hid hxW; have HW := Lib.hid hW; have HGB := Lib.hid hgb; have HGBE := Lib.hid hgbe
  have HR := Lib.hid (h.ext (Q := ColS W) hxW fun u c q => ColS.ext q hxW); have HU := Lib.hid (hu.ext hxW)
  have HF := Lib.hid fun r hr => (hok r hr).2; have HCL := Lib.hid hc
  obtain ⟨ao, cap, rfl, hlc, hcm⟩ := h.shape
  obtain ⟨uo, uc, rfl, hrc, hrm⟩ := hu.shape
  obtain ⟨ci, chi, cz, chs, cby⟩ := info_parts infoQlZ
  have CHI := Lib.hid chi; have CHS := Lib.hid chs
  obtain ⟨ri, chr, _, csr, _⟩ := info_parts infoRRZ
  have CHR := Lib.hid chr; have CSR := Lib.hid csr
  obtain ⟨fi, chf, cfz, csf, cfb⟩ := info_parts infoRfZ
  have CHF := Lib.hid chf; have CFZ := Lib.hid cfz; have CSF := Lib.hid csf; have CFB := Lib.hid cfb
  have hm63 : l.length ≤ 9223372036854775807 := by unfold maxLen at hcm; omega
  have hm2 : refs.length ≤ 9223372036854775807 := by unfold maxLen at hrm; omega
  clear h hu hok hc hlc hcm hrc hrm chi cz chs cby chr csr chf cfz csf cfb hxW hW hgb hgbe
  generalize hn : l.length = n at *
  have HN := Lib.hid hn; clear hn
  generalize hmm : refs.length = m at *
  have HM := Lib.hid hmm; clear hmm
  have HWR := HW
  unfold refv at HW ⊢
  go_enter Try.func3, Try.ntmps3
  by_cases h80 : 80 < n
  · go_wp2
    rw [← HW.out]
    go_ret
    exact ⟨rfl, HXW.out⟩
  by_cases h20 : 20 < m
  · go_wp2
    rw [← HW.out]
    go_ret
    exact ⟨rfl, HXW.out⟩
  go_wp2_with fail
  rw [← HW.out, ← HGBE.out]
  refine (new_any W).mono ?_
  rintro e w1 ⟨c, rfl, hx1, hct1⟩
  have HX1 := Lib.hid hx1; have HC1 := Lib.hid hct1
  obtain ⟨g, v0, rfl, hg, _⟩ := id hct1
  have HG := Lib.hid hg
  clear hx1 hct1 hg
  go_wp2
  go_loopw [8, 9] (fun vb ix wr => ∃ (k : Nat) (L : List Rl), k ≤ n ∧ ix = .int .i64 k ∧ Hid (Ext W wr ∧ CatOk L ∧ CatS W.heap.size wr (.pointer (some ⟨g, 0, none⟩)) L ∧ RlS (ColS wr) wr vb L)) (fun _ ix _ => n - (intOf ix).toNat)
  case atStart => exact ⟨0, [], Nat.zero_le _, rfl, Lib.hid ⟨HX1.out, CatOk.nil, HC1.out, rlS_nil _ _⟩⟩
  case round =>
    obtain ⟨k, L, hk, rfl, HI⟩ := hrel
    by_cases hlt : k < n
    · have hkl : k < l.length := by have := HN.out; omega
      have hrs := HR.out.ext HI.out.1 (Q := ColS wr) fun v c h => ColS.ext h HI.out.1
      obtain ⟨b, o, cv, hao, hra, hcv⟩ := rlS_at hrs hkl
      subst hao
      have HFK := Lib.hid (HF.out l[k] (List.getElem_mem hkl))
      have HCK := Lib.hid (HCL.out l[k] (List.getElem_mem hkl))
      generalize l[k] = x at *
      obtain ⟨co, cc, hcve, _⟩ := id hcv
      subst hcve
      have hidx := run_indexSl wr Try.underlying22 CHI.out CHS.out b o n cap k hlt
      have q0 : wr.cell? ⟨b, o + k * 5, none⟩ = some (.int .u32 (x.oid : Nat)) := by have := hra 0 _ rfl; simpa using this
      have q1 : wr.cell? ⟨b, o + k * 5 + 1, none⟩ = some (.int .u32 (x.ver : Nat)) := hra 1 _ rfl
      have q2 : wr.cell? ⟨b, o + k * 5 + 2, none⟩ = some (.string ⟨x.name.toArray⟩) := hra 2 _ rfl
      have q3 : wr.cell? ⟨b, o + k * 5 + 3, none⟩ = some (.int .u8 (x.ident : Nat)) := hra 3 _ rfl
      have q4 : wr.cell? ⟨b, o + k * 5 + 4, none⟩ = some (.slice co x.cols.length cc) := hra 4 _ rfl
      have HRA := Lib.hid hra; have HCV := Lib.hid hcv
      obtain ⟨vo, vc, hve, _⟩ := HI.out.2.2.2.shape
      have HAD := Lib.hid (rAdd_any _ (.slice co x.cols.length cc) L x wr HI.out.2.2.2 HI.out.2.1 hcv HFK.out)
      rw [hve] at HAD
      subst hve
      have HLT := Lib.hid hlt
      clear hra hcv hrs hkl
      unfold relv strV at HAD
      go_wp2_with fail
      refine HAD.out.mono ?_
      rintro e w3 ⟨hx3, v3, rfl, hs3⟩
      have HX3 := Lib.hid (HI.out.1.trans hx3); have HS3 := Lib.hid hs3; have HX03 := Lib.hid hx3
      obtain ⟨v3o, v3c, rfl, _⟩ := hs3.shape
      have hra3 : w3.rangeAt b (o + k * 5) (relv x (.slice co x.cols.length cc)).toList := fun j u hu => hx3.cell (p := ⟨b, o + k * 5 + j, none⟩) (fun f => f) _ (HRA.out j u hu)
      have p0 : w3.cell? ⟨b, o + k * 5, none⟩ = some (.int .u32 (x.oid : Nat)) := by have := hra3 0 _ rfl; simpa using this
      have p1 : w3.cell? ⟨b, o + k * 5 + 1, none⟩ = some (.int .u32 (x.ver : Nat)) := hra3 1 _ rfl
      have p2 : w3.cell? ⟨b, o + k * 5 + 2, none⟩ = some (.string ⟨x.name.toArray⟩) := hra3 2 _ rfl
      have p3 : w3.cell? ⟨b, o + k * 5 + 3, none⟩ = some (.int .u8 (x.ident : Nat)) := hra3 3 _ rfl
      have p4 : w3.cell? ⟨b, o + k * 5 + 4, none⟩ = some (.slice co x.cols.length cc) := hra3 4 _ rfl
      have hidx3 := run_indexSl w3 Try.underlying22 CHI.out CHS.out b o n cap k hlt
      have HOWR := Lib.hid (relOwn_any x (.slice co x.cols.length cc) w3 (ColS.ext HCV.out hx3) HCK.out)
      have HCT3 := Lib.hid (HI.out.2.2.1.ext hx3)
      have HLK := Lib.hid HI.out.2.1
      clear hx3 hs3 q0 q1 q2 q3 q4 hidx hra3 HAD HI
      unfold relv strV at HOWR
      generalize hal : (catAdd L x).1.length = al at *
      have HAL := Lib.hid hal; clear hal
      go_wp2_with fail
      refine HOWR.out.mono ?_
      rintro e w4 ⟨c4, rfl, hx4, hc4⟩
      have HX4 := Lib.hid (HX3.out.trans hx4)
      have HADD := Lib.hid (add_any W.heap.size (.pointer (some ⟨g, 0, none⟩)) L x c4 w4 (HCT3.out.ext hx4) HLK.out HX4.out.size (Sl.ofOwns hc4) HFK.out)
      have HS4 := Lib.hid (HS3.out.ext (Q := ColS w4) hx4 fun v c h => ColS.ext h hx4)
      obtain ⟨gq, vq, eq0, hgq, hhq, csq, hcq, hoq⟩ := HCT3.out.ext hx4
      cases eq0
      obtain ⟨vqo, vqc, hvq⟩ := owns_shape hoq
      subst hvq
      have HHQ := Lib.hid hhq
      obtain ⟨c4o, c4c, rfl⟩ := owns_shape hc4
      clear hx4 hc4 HOWR p0 p1 p2 p3 p4 hidx3 hhq hcq hoq hgq
      unfold relv strV at HADD ⊢
      go_wp2_with fail
      refine HADD.out.mono ?_
      rintro e w5 ⟨rfl, hch, hct⟩
      have hchg : Ch (fun k => k = g) w4 w5 := hch.mono fun j _ h => by unfold AtP at h; cases h; rfl
      have HS5 := Lib.hid (rlS_box HS4.out hchg HHQ.out)
      have HX5 : Hid (Ext W w5) := Lib.hid (((Ext.ch HX4.out).trans hch).mono fun j hj h => by
        unfold AtP at h
        cases h
        have := HG.out
        omega)
      have HC5 := Lib.hid hct
      have HLK5 := Lib.hid (HLK.out.add x)
      have HLEN := Lib.hid (len_any W.heap.size w5 (.pointer (some ⟨g, 0, none⟩)) (catAdd L x).1 hct)
      rw [HAL.out] at HLEN
      clear hch hct hchg HADD
      generalize (catAdd L x).2 = E at *
      go_wp2_with fail
      refine HLEN.out.mono ?_
      rintro e w6 ⟨rfl, hx6⟩
      have HI6 : Hid (Ext W w6 ∧ CatOk (catAdd L x).1 ∧ CatS W.heap.size w6 (.pointer (some ⟨g, 0, none⟩)) (catAdd L x).1 ∧ RlS (ColS w6) w6 (.slice v3o al v3c) (catAdd L x).1) := Lib.hid ⟨HX5.out.trans hx6, HLK5.out, HC5.out.ext hx6, HS5.out.ext hx6 fun v c h => ColS.ext h hx6⟩
      clear hx6 HLEN
      generalize (catAdd L x).1 = L2 at *
      go_wp2
      go_roundw
      case rel => exact ⟨k + 1, L2, HLT.out, by simp, HI6⟩
      case measure => simp [intOf]; have := HLT.out; omega
    · obtain rfl : k = n := by omega
      obtain ⟨hx0, hok0, hct0, hs0⟩ := HI.out
      have HX0 := Lib.hid hx0; have HOK := Lib.hid hok0; have HCT0 := Lib.hid hct0; have HS0 := Lib.hid hs0
      have HBK := Lib.hid (back9_any W.heap.size (.pointer (some ⟨g, 0, none⟩)) L wr hct0 hok0 fun r hr => by have := (rlErr_zero (hok0.right r hr)).2.2.2.2.2.1; omega)
      obtain ⟨v8o, v8c, hv8, _⟩ := hs0.shape
      subst hv8
      clear hx0 hok0 hct0 hs0 HI
      go_wp2_with fail
      refine HBK.out.mono ?_
      rintro e w2 ⟨hx2, v12, rfl, hs12⟩
      have HX2 := Lib.hid (HX0.out.trans hx2); have HCT2 := Lib.hid (HCT0.out.ext hx2); have HS2 := Lib.hid (HS0.out.ext (Q := ColS w2) hx2 fun v c h => ColS.ext h hx2); have HS12 := Lib.hid hs12
      obtain ⟨v12o, v12c, hv12, _⟩ := hs12.shape
      subst hv12
      have HGB2 := Lib.hid (heap_ext HX2.out HGB.out)
      have d0 : w2.cell? ⟨gb, 0, none⟩ = some (.int .u32 (p.1 : Nat)) := by rw [cell_of_row _ _ _ _ _ _ HGB2.out]; rfl
      have d1 : w2.cell? ⟨gb, 1, none⟩ = some (.int .u32 (p.2 : Nat)) := by rw [cell_of_row _ _ _ _ _ _ HGB2.out]; rfl
      have HREF := Lib.hid (lawRef_any p w2)
      clear hx2 hs12 HBK
      unfold refv at HREF
      go_wp2_with fail
      refine HREF.out.mono ?_
      rintro e w3 ⟨rfl, hx3⟩
      have HX23 := Lib.hid hx3
      have HGT := Lib.hid (get_any W.heap.size (.pointer (some ⟨g, 0, none⟩)) L p w3 (HCT2.out.ext hx3) HOK.out)
      clear hx3 d0 d1 HREF
      unfold refv at HGT
      go_wp2_with fail
      refine HGT.out.mono ?_
      rintro e w4 ⟨hx4, cg, rfl, hcg⟩
      have HXC := Lib.hid (catGet_ok HOK.out p)
      have HYC := Lib.hid (young_ok HOK.out p.1)
      have HRG := Lib.hid (fun w' (hx : Ext w2 w') => rGet_any (.slice v8o L.length v8c) L p w' (HS2.out.ext hx fun v c h => ColS.ext h hx))
      have HLA := Lib.hid (fun w' (hx : Ext w2 w') => last_any W.heap.size (.pointer (some ⟨g, 0, none⟩)) L p.1 w' (HCT2.out.ext hx) HOK.out)
      have HRL := Lib.hid (fun w' (hx : Ext w2 w') => rLast_any (.slice v8o L.length v8c) L p.1 w' (HS2.out.ext hx fun v c h => ColS.ext h hx))
      generalize hX : (catGet L p).getD .zero = X at *
      generalize hS1 : (catGet L p).isSome = S1 at *
      generalize hY : (young p.1 none L).getD .zero = Y at *
      generalize hS2 : (young p.1 none L).isSome = S2 at *
      have HXE := Lib.hid hX; have HS1E := Lib.hid hS1; have HYE := Lib.hid hY; have HS2E := Lib.hid hS2
      clear hX hS1 hY hS2
      obtain ⟨cgo, cgc, hcge⟩ := owns_shape hcg
      subst hcge
      obtain ⟨w5, hw5⟩ : ∃ w5, w5 = w4.alloc (.cells (relv X (.slice cgo X.cols.length cgc)) 39) := ⟨_, rfl⟩
      have hx5 : Ext w4 w5 := by rw [hw5]; exact (Ch.refl _ _).alloc _
      obtain ⟨g14, hg14⟩ : ∃ g, g = w4.heap.size := ⟨_, rfl⟩
      have HG14a := Lib.hid (show w5.heap[g14]? = some (.cells (relv X (.slice cgo X.cols.length cgc)) 39 (0, 0)) by rw [hw5, hg14]; exact heap_alloc_new w4 _)
      have HC14a := Lib.hid (ColS.ext (Sl.ofOwns hcg) hx5)
      have HX25 := Lib.hid (HX23.out.trans (hx4.trans hx5))
      have HRG5 := Lib.hid (HRG.out w5 HX25.out)
      have HGB5 := Lib.hid (heap_ext HX25.out HGB2.out)
      have d0 : w5.cell? ⟨gb, 0, none⟩ = some (.int .u32 (p.1 : Nat)) := by rw [cell_of_row _ _ _ _ _ _ HGB5.out]; rfl
      have d1 : w5.cell? ⟨gb, 1, none⟩ = some (.int .u32 (p.2 : Nat)) := by rw [cell_of_row _ _ _ _ _ _ HGB5.out]; rfl
      have HW5 := Lib.hid hw5; have HG14E := Lib.hid hg14
      rw [hw5] at d0 d1
      clear hx4 hcg hx5 hw5 hg14 HGT HRG
      unfold QlPost at HRG5
      rw [HXE.out, HS1E.out] at HRG5
      unfold refv at HRG5
      unfold relv strV at HW5 d0 d1 ⊢
      go_wp2_with fail
      rw [← HG14E.out, ← HW5.out]
      refine HRG5.out.mono ?_
      rintro e w6 ⟨hx6, cq, rfl, hcq⟩
      obtain ⟨cqo, cqc, hcqe, _⟩ := id hcq
      subst hcqe
      obtain ⟨w7, hw7⟩ : ∃ w7, w7 = w6.alloc (.cells (relv X (.slice cqo X.cols.length cqc)) 33) := ⟨_, rfl⟩
      have hx7 : Ext w6 w7 := by rw [hw7]; exact (Ch.refl _ _).alloc _
      obtain ⟨g16, hg16⟩ : ∃ g, g = w6.heap.size := ⟨_, rfl⟩
      have HG16a := Lib.hid (show w7.heap[g16]? = some (.cells (relv X (.slice cqo X.cols.length cqc)) 33 (0, 0)) by rw [hw7, hg16]; exact heap_alloc_new w6 _)
      have HC16a := Lib.hid (ColS.ext hcq hx7)
      have HX57 := Lib.hid (hx6.trans hx7)
      have HX27 := Lib.hid (HX25.out.trans HX57.out)
      have HLA7 := Lib.hid (HLA.out w7 HX27.out)
      have HGB7 := Lib.hid (heap_ext HX27.out HGB2.out)
      have d0 : w7.cell? ⟨gb, 0, none⟩ = some (.int .u32 (p.1 : Nat)) := by rw [cell_of_row _ _ _ _ _ _ HGB7.out]; rfl
      have HW7 := Lib.hid hw7; have HG16E := Lib.hid hg16
      rw [hw7] at d0
      clear hx6 hcq hx7 hw7 hg16 HRG5 HLA d1
      unfold RlPost at HLA7
      rw [HYE.out, HS2E.out] at HLA7
      unfold relv strV at HW7 d0 ⊢
      go_wp2_with fail
      rw [← HG16E.out, ← HW7.out]
      refine HLA7.out.mono ?_
      rintro e w8 ⟨hx8, cl, rfl, hcl⟩
      obtain ⟨clo, clc, hcle⟩ := owns_shape hcl
      subst hcle
      obtain ⟨w9, hw9⟩ : ∃ w9, w9 = w8.alloc (.cells (relv Y (.slice clo Y.cols.length clc)) 39) := ⟨_, rfl⟩
      have hx9 : Ext w8 w9 := by rw [hw9]; exact (Ch.refl _ _).alloc _
      obtain ⟨g18, hg18⟩ : ∃ g, g = w8.heap.size := ⟨_, rfl⟩
      have HG18a := Lib.hid (show w9.heap[g18]? = some (.cells (relv Y (.slice clo Y.cols.length clc)) 39 (0, 0)) by rw [hw9, hg18]; exact heap_alloc_new w8 _)
      have HC18a := Lib.hid (ColS.ext (Sl.ofOwns hcl) hx9)
      have HX79 := Lib.hid (hx8.trans hx9)
      have HX29 := Lib.hid (HX27.out.trans HX79.out)
      have HRL9 := Lib.hid (HRL.out w9 HX29.out)
      have HGB9 := Lib.hid (heap_ext HX29.out HGB2.out)
      have d0 : w9.cell? ⟨gb, 0, none⟩ = some (.int .u32 (p.1 : Nat)) := by rw [cell_of_row _ _ _ _ _ _ HGB9.out]; rfl
      have HW9 := Lib.hid hw9; have HG18E := Lib.hid hg18
      rw [hw9] at d0
      clear hx8 hcl hx9 hw9 hg18 HLA7 HRL
      unfold QlPost at HRL9
      rw [HYE.out, HS2E.out] at HRL9
      unfold relv strV at HW9 d0 ⊢
      go_wp2_with fail
      rw [← HG18E.out, ← HW9.out]
      refine HRL9.out.mono ?_
      rintro e w10 ⟨hx10, ck, rfl, hck⟩
      obtain ⟨cko, ckc, hcke, _⟩ := id hck
      subst hcke
      obtain ⟨wA, hwA⟩ : ∃ wA, wA = w10.alloc (.cells (relv Y (.slice cko Y.cols.length ckc)) 33) := ⟨_, rfl⟩
      have hxA : Ext w10 wA := by rw [hwA]; exact (Ch.refl _ _).alloc _
      obtain ⟨g20, hg20⟩ : ∃ g, g = w10.heap.size := ⟨_, rfl⟩
      have HG20 := Lib.hid (show wA.heap[g20]? = some (.cells (relv Y (.slice cko Y.cols.length ckc)) 33 (0, 0)) by rw [hwA, hg20]; exact heap_alloc_new w10 _)
      have HC20 := Lib.hid (ColS.ext hck hxA)
      have HX9A := Lib.hid (hx10.trans hxA)
      have HX2A := Lib.hid (HX29.out.trans HX9A.out)
      have HG14 := Lib.hid (heap_ext (HX57.out.trans (HX79.out.trans HX9A.out)) HG14a.out); have HC14 := Lib.hid (ColS.ext HC14a.out (HX57.out.trans (HX79.out.trans HX9A.out)))
      have HG16 := Lib.hid (heap_ext (HX79.out.trans HX9A.out) HG16a.out); have HC16 := Lib.hid (ColS.ext HC16a.out (HX79.out.trans HX9A.out))
      have HG18 := Lib.hid (heap_ext HX9A.out HG18a.out); have HC18 := Lib.hid (ColS.ext HC18a.out HX9A.out)
      have HSM : Hid (∀ w', Ext wA w' → Calls Try.prog 21 #[.slice v12o L.length v12c, .slice v8o L.length v8c] w' fun e w'' => e = .returned (.bool true) ∧ Ext w' w'') := Lib.hid fun w' hx => by
        have := rSame9_any (.slice v12o L.length v12c) (.slice v8o L.length v8c) L L w' (HS12.out.ext (HX2A.out.trans hx) fun v c h => ColS.ext h (HX2A.out.trans hx)) (HS2.out.ext (HX2A.out.trans hx) fun v c h => ColS.ext h (HX2A.out.trans hx))
        rwa [decide_eq_true rfl] at this
      have HWA := Lib.hid hwA; have HG20E := Lib.hid hg20
      clear hx10 hck hxA hwA hg20 HRL9 d0
      generalize hll : L.length = ll at *
      have HLL := Lib.hid hll; clear hll
      unfold relv strV at HWA ⊢
      go_wp2
      rw [← HG20E.out, ← HWA.out]
      refine wp_region_ext (crA (.slice v12o ll v12c) (.slice v8o ll v8c) S1 S2 X Y (.slice cgo X.cols.length cgc) (.slice cqo X.cols.length cqc) (.slice clo Y.cols.length clc) (.slice cko Y.cols.length ckc)) mixedV (by rfl) (by rfl) ?all ?fin
      case all =>
        refine ⟨?_, ?_, ?_, ?_, ?_, ?_, ?_, ?_, ?_, ?_, ?_, ?_, ?_, ?_, ?_, ?_, ?_, ?_, ?_, ?_, ?_, ?_, ?_, ?_, ?_, ?_, ?_, ?_, ?_, ?_, ?_, ?_, trivial⟩
        · -- 0: slot 103 := Op.move t13
          refine StepOK.plain (kn_stable _) rfl fun ρ w hρ hw hf => ?_
          have h13 : ρ (.tmp 13) = (.bool true) := (hf 13).2 rfl rfl
          exact Exec.kmove rfl rfl h13
        · -- 1: slot 104 := Op.unOp UnOp.not 4 t103
          refine StepOK.plain (kn_stable _) rfl fun ρ w hρ hw hf => ?_
          have h103 : ρ (.tmp 103) = (.bool true) := (hf 103).1 rfl
          exact Exec.same (v := .bool false) rfl (by simp [go_sem, hρ.const, h103]) rfl
        · -- 2: slot 105 := Op.move t104
          refine StepOK.plain (kn_stable _) rfl fun ρ w hρ hw hf => ?_
          have h104 : ρ (.tmp 104) = (.bool false) := (hf 104).1 rfl
          exact Exec.kmove rfl rfl h104
        · -- 3: slot 106 := Op.move t12
          refine StepOK.guarded (kn_stable _) 2 false 105 rfl rfl (fun ρ w _ _ hf => (hf 105).1 rfl) fun ρ w hρ hw hf => ?_
          have h12 : ρ (.tmp 12) = ((.slice v12o ll v12c)) := (hf 12).2 rfl rfl
          exact Exec.kmove rfl rfl h12
        · -- 4: slot 107 := Op.move t8
          refine StepOK.guarded (kn_stable _) 2 false 105 rfl rfl (fun ρ w _ _ hf => (hf 105).1 rfl) fun ρ w hρ hw hf => ?_
          have h8 : ρ (.tmp 8) = ((.slice v8o ll v8c)) := (hf 8).2 rfl rfl
          exact Exec.kmove rfl rfl h8
        · -- 5: slot 108 := Op.call { value (Operand.func 21), args := #[t106, t107], argTypes := 
          refine StepOK.guarded (kn_stable _) 2 false 105 rfl rfl (fun ρ w _ _ hf => (hf 105).1 rfl) fun ρ w hρ hw hf => ?_
          have h106 : ρ (.tmp 106) = ((.slice v12o ll v12c)) := (hf 106).1 rfl
          have h107 : ρ (.tmp 107) = ((.slice v8o ll v8c)) := (hf 107).1 rfl
          refine Exec.kcall #[(.slice v12o ll v12c), (.slice v8o ll v8c)] hρ rfl rfl (by simp [h106, h107]) Try.func21 (by rfl) (by rfl) ((HSM.out w hw).mono ?_)
          rintro e w' ⟨rfl, k1⟩
          exact ⟨_, rfl, rfl, k1⟩
        · -- 6: slot 109 := Op.unOp UnOp.not 4 t108
          refine StepOK.guarded (kn_stable _) 2 false 105 rfl rfl (fun ρ w _ _ hf => (hf 105).1 rfl) fun ρ w hρ hw hf => ?_
          have h108 : ρ (.tmp 108) = (.bool true) := (hf 108).1 rfl
          exact Exec.same (v := .bool false) rfl (by simp [go_sem, hρ.const, h108]) rfl
        · -- 7: slot 110 := Op.pick t105 (const (Value.bool true)) t109
          refine StepOK.plain (kn_stable _) rfl fun ρ w hρ hw hf => ?_
          have h105 : ρ (.tmp 105) = (.bool false) := (hf 105).1 rfl
          have h109 : ρ (.tmp 109) = (.bool false) := (hf 109).1 rfl
          exact Exec.kpickF rfl rfl h105 h109
        · -- 8: slot 111 := Op.move t110
          refine StepOK.plain (kn_stable _) rfl fun ρ w hρ hw hf => ?_
          have h110 : ρ (.tmp 110) = (.bool false) := (hf 110).1 rfl
          exact Exec.kmove rfl rfl h110
        · -- 9: slot 112 := Op.move t15
          refine StepOK.guarded (kn_stable _) 8 false 111 rfl rfl (fun ρ w _ _ hf => (hf 111).1 rfl) fun ρ w hρ hw hf => ?_
          have h15 : ρ (.tmp 15) = (.bool S1) := (hf 15).2 rfl rfl
          exact Exec.kmove rfl rfl h15
        · -- 10: slot 113 := Op.move t17
          refine StepOK.guarded (kn_stable _) 8 false 111 rfl rfl (fun ρ w _ _ hf => (hf 111).1 rfl) fun ρ w hρ hw hf => ?_
          have h17 : ρ (.tmp 17) = (.bool S1) := (hf 17).2 rfl rfl
          exact Exec.kmove rfl rfl h17
        · -- 11: slot 114 := Op.binOp BinOp.neq 4 t112 t113 4
          refine StepOK.guarded (kn_stable _) 8 false 111 rfl rfl (fun ρ w _ _ hf => (hf 111).1 rfl) fun ρ w hρ hw hf => ?_
          have h112 : ρ (.tmp 112) = (.bool S1) := (hf 112).1 rfl
          have h113 : ρ (.tmp 113) = (.bool S1) := (hf 113).1 rfl
          exact Exec.same (v := .bool false) rfl (by cases S1 <;> simp [go_sem, hρ.const, h112, h113]) rfl
        · -- 12: slot 115 := Op.pick t111 (const (Value.bool true)) t114
          refine StepOK.plain (kn_stable _) rfl fun ρ w hρ hw hf => ?_
          have h111 : ρ (.tmp 111) = (.bool false) := (hf 111).1 rfl
          have h114 : ρ (.tmp 114) = (.bool false) := (hf 114).1 rfl
          exact Exec.kpickF rfl rfl h111 h114
        · -- 13: slot 116 := Op.move t115
          refine StepOK.plain (kn_stable _) rfl fun ρ w hρ hw hf => ?_
          have h115 : ρ (.tmp 115) = (.bool false) := (hf 115).1 rfl
          exact Exec.kmove rfl rfl h115
        · -- 14: slot 117 := Op.load 39 t14
          refine StepOK.guarded (kn_stable _) 13 false 116 rfl rfl (fun ρ w _ _ hf => (hf 116).1 rfl) fun ρ w hρ hw hf => ?_
          have h14 : ρ (.tmp 14) = (.pointer (some ⟨g14, 0, none⟩)) := (hf 14).2 rfl rfl
          exact Exec.kloadrow rfl rfl h14 (heap_ext hw HG14.out) Try.underlying39 rfl infoOw rfl
        · -- 15: slot 118 := Op.call { value (Operand.func 23), args := #[t117], argTypes := #[39] 
          refine StepOK.guarded (kn_stable _) 13 false 116 rfl rfl (fun ρ w _ _ hf => (hf 116).1 rfl) fun ρ w hρ hw hf => ?_
          have h117 : ρ (.tmp 117) = (.agg (relv X (.slice cgo X.cols.length cgc))) := (hf 117).1 rfl
          refine Exec.kcall #[.agg (relv X (.slice cgo X.cols.length cgc))] hρ rfl rfl (by simp [h117]) Try.func23 (by rfl) (by rfl) ((relBack_any X (.slice cgo X.cols.length cgc) w (ColS.ext HC14.out hw) (by have := HXC.out; omega)).mono ?_)
          rintro e w' ⟨c1, rfl, k1, k2⟩
          exact ⟨_, rfl, ⟨c1, rfl, Sl.ofOwns k2⟩, k1⟩
        · -- 16: slot 119 := Op.load 33 t16
          refine StepOK.guarded (kn_stable _) 13 false 116 rfl rfl (fun ρ w _ _ hf => (hf 116).1 rfl) fun ρ w hρ hw hf => ?_
          have h16 : ρ (.tmp 16) = (.pointer (some ⟨g16, 0, none⟩)) := (hf 16).2 rfl rfl
          exact Exec.kloadrow rfl rfl h16 (heap_ext hw HG16.out) Try.underlying33 rfl infoQl rfl
        · -- 17: slot 120 := Op.call { value (Operand.func 22), args := #[t118, t119], argTypes := 
          refine StepOK.guarded (kn_stable _) 13 false 116 rfl rfl (fun ρ w _ _ hf => (hf 116).1 rfl) fun ρ w hρ hw hf => ?_
          have h118 : (Kn.relQ X).holds (ρ (.tmp 118)) w := (hf 118).1 rfl
          have h119 : ρ (.tmp 119) = (.agg (relv X (.slice cqo X.cols.length cqc))) := (hf 119).1 rfl
          obtain ⟨c1, h1, h2⟩ : ∃ c1, ρ (.tmp 118) = .agg (relv X c1) ∧ ColS w c1 X.cols := h118
          refine Exec.kcall #[.agg (relv X c1), .agg (relv X (.slice cqo X.cols.length cqc))] hρ rfl rfl (by simp [h1, h119]) Try.func22 (by rfl) (by rfl) ((refSame_any X X c1 (.slice cqo X.cols.length cqc) w h2 (ColS.ext HC16.out hw)).mono ?_)
          rintro e w' ⟨rfl, k1⟩
          exact ⟨_, rfl, by rw [decide_eq_true rfl]; rfl, k1⟩
        · -- 18: slot 121 := Op.unOp UnOp.not 4 t120
          refine StepOK.guarded (kn_stable _) 13 false 116 rfl rfl (fun ρ w _ _ hf => (hf 116).1 rfl) fun ρ w hρ hw hf => ?_
          have h120 : ρ (.tmp 120) = (.bool true) := (hf 120).1 rfl
          exact Exec.same (v := .bool false) rfl (by simp [go_sem, hρ.const, h120]) rfl
        · -- 19: slot 122 := Op.pick t116 (const (Value.bool true)) t121
          refine StepOK.plain (kn_stable _) rfl fun ρ w hρ hw hf => ?_
          have h116 : ρ (.tmp 116) = (.bool false) := (hf 116).1 rfl
          have h121 : ρ (.tmp 121) = (.bool false) := (hf 121).1 rfl
          exact Exec.kpickF rfl rfl h116 h121
        · -- 20: slot 123 := Op.move t122
          refine StepOK.plain (kn_stable _) rfl fun ρ w hρ hw hf => ?_
          have h122 : ρ (.tmp 122) = (.bool false) := (hf 122).1 rfl
          exact Exec.kmove rfl rfl h122
        · -- 21: slot 124 := Op.move t19
          refine StepOK.guarded (kn_stable _) 20 false 123 rfl rfl (fun ρ w _ _ hf => (hf 123).1 rfl) fun ρ w hρ hw hf => ?_
          have h19 : ρ (.tmp 19) = (.bool S2) := (hf 19).2 rfl rfl
          exact Exec.kmove rfl rfl h19
        · -- 22: slot 125 := Op.move t21
          refine StepOK.guarded (kn_stable _) 20 false 123 rfl rfl (fun ρ w _ _ hf => (hf 123).1 rfl) fun ρ w hρ hw hf => ?_
          have h21 : ρ (.tmp 21) = (.bool S2) := (hf 21).2 rfl rfl
          exact Exec.kmove rfl rfl h21
        · -- 23: slot 126 := Op.binOp BinOp.neq 4 t124 t125 4
          refine StepOK.guarded (kn_stable _) 20 false 123 rfl rfl (fun ρ w _ _ hf => (hf 123).1 rfl) fun ρ w hρ hw hf => ?_
          have h124 : ρ (.tmp 124) = (.bool S2) := (hf 124).1 rfl
          have h125 : ρ (.tmp 125) = (.bool S2) := (hf 125).1 rfl
          exact Exec.same (v := .bool false) rfl (by cases S2 <;> simp [go_sem, hρ.const, h124, h125]) rfl
        · -- 24: slot 127 := Op.pick t123 (const (Value.bool true)) t126
          refine StepOK.plain (kn_stable _) rfl fun ρ w hρ hw hf => ?_
          have h123 : ρ (.tmp 123) = (.bool false) := (hf 123).1 rfl
          have h126 : ρ (.tmp 126) = (.bool false) := (hf 126).1 rfl
          exact Exec.kpickF rfl rfl h123 h126
        · -- 25: slot 128 := Op.move t127
          refine StepOK.plain (kn_stable _) rfl fun ρ w hρ hw hf => ?_
          have h127 : ρ (.tmp 127) = (.bool false) := (hf 127).1 rfl
          exact Exec.kmove rfl rfl h127
        · -- 26: slot 129 := Op.load 39 t18
          refine StepOK.guarded (kn_stable _) 25 false 128 rfl rfl (fun ρ w _ _ hf => (hf 128).1 rfl) fun ρ w hρ hw hf => ?_
          have h18 : ρ (.tmp 18) = (.pointer (some ⟨g18, 0, none⟩)) := (hf 18).2 rfl rfl
          exact Exec.kloadrow rfl rfl h18 (heap_ext hw HG18.out) Try.underlying39 rfl infoOw rfl
        · -- 27: slot 130 := Op.call { value (Operand.func 23), args := #[t129], argTypes := #[39] 
          refine StepOK.guarded (kn_stable _) 25 false 128 rfl rfl (fun ρ w _ _ hf => (hf 128).1 rfl) fun ρ w hρ hw hf => ?_
          have h129 : ρ (.tmp 129) = (.agg (relv Y (.slice clo Y.cols.length clc))) := (hf 129).1 rfl
          refine Exec.kcall #[.agg (relv Y (.slice clo Y.cols.length clc))] hρ rfl rfl (by simp [h129]) Try.func23 (by rfl) (by rfl) ((relBack_any Y (.slice clo Y.cols.length clc) w (ColS.ext HC18.out hw) (by have := HYC.out; omega)).mono ?_)
          rintro e w' ⟨c1, rfl, k1, k2⟩
          exact ⟨_, rfl, ⟨c1, rfl, Sl.ofOwns k2⟩, k1⟩
        · -- 28: slot 131 := Op.load 33 t20
          refine StepOK.guarded (kn_stable _) 25 false 128 rfl rfl (fun ρ w _ _ hf => (hf 128).1 rfl) fun ρ w hρ hw hf => ?_
          have h20 : ρ (.tmp 20) = (.pointer (some ⟨g20, 0, none⟩)) := (hf 20).2 rfl rfl
          exact Exec.kloadrow rfl rfl h20 (heap_ext hw HG20.out) Try.underlying33 rfl infoQl rfl
        · -- 29: slot 132 := Op.call { value (Operand.func 22), args := #[t130, t131], argTypes := 
          refine StepOK.guarded (kn_stable _) 25 false 128 rfl rfl (fun ρ w _ _ hf => (hf 128).1 rfl) fun ρ w hρ hw hf => ?_
          have h130 : (Kn.relQ Y).holds (ρ (.tmp 130)) w := (hf 130).1 rfl
          have h131 : ρ (.tmp 131) = (.agg (relv Y (.slice cko Y.cols.length ckc))) := (hf 131).1 rfl
          obtain ⟨c1, h1, h2⟩ : ∃ c1, ρ (.tmp 130) = .agg (relv Y c1) ∧ ColS w c1 Y.cols := h130
          refine Exec.kcall #[.agg (relv Y c1), .agg (relv Y (.slice cko Y.cols.length ckc))] hρ rfl rfl (by simp [h1, h131]) Try.func22 (by rfl) (by rfl) ((refSame_any Y Y c1 (.slice cko Y.cols.length ckc) w h2 (ColS.ext HC20.out hw)).mono ?_)
          rintro e w' ⟨rfl, k1⟩
          exact ⟨_, rfl, by rw [decide_eq_true rfl]; rfl, k1⟩
        · -- 30: slot 133 := Op.unOp UnOp.not 4 t132
          refine StepOK.guarded (kn_stable _) 25 false 128 rfl rfl (fun ρ w _ _ hf => (hf 128).1 rfl) fun ρ w hρ hw hf => ?_
          have h132 : ρ (.tmp 132) = (.bool true) := (hf 132).1 rfl
          exact Exec.same (v := .bool false) rfl (by simp [go_sem, hρ.const, h132]) rfl
        · -- 31: slot 134 := Op.pick t128 (const (Value.bool true)) t133
          refine StepOK.plain (kn_stable _) rfl fun ρ w hρ hw hf => ?_
          have h128 : ρ (.tmp 128) = (.bool false) := (hf 128).1 rfl
          have h133 : ρ (.tmp 133) = (.bool false) := (hf 133).1 rfl
          exact Exec.kpickF rfl rfl h128 h133
      case fin =>
        intro ν wB hfin hxB
        have e0 : ν 134 = .bool false := hfin 31 134 rfl
        simp only [Exit.then, ended, List.foldl_cons, List.foldl_nil, List.setIfInBounds_toArray, List.set_cons_succ, List.set_cons_zero, e0]
        have HX2B := Lib.hid (HX2A.out.trans hxB)
        have HXB := Lib.hid (HX2.out.trans HX2B.out)
        clear hfin hxB e0
        go_wp2
        go_loopw [22, 23] (fun vb ix wr => ∃ k : Nat, k ≤ m ∧ ix = .int .i64 k ∧ Hid (Ext wB wr) ∧ Hid (wr.ownsRow wB.heap.size 36 2 vb k (RfC (refs.take k)))) (fun _ ix _ => m - (intOf ix).toNat)
        case atStart => exact ⟨0, Nat.zero_le _, rfl, Lib.hid (Ch.refl _ _), Lib.hid (World.ownsRow_nil _ _ _ _)⟩
        case round =>
          obtain ⟨q, hq, rfl, HXq, HOq⟩ := hrel
          by_cases hltq : q < m
          · have hql : q < refs.length := by have := HM.out; omega
            obtain ⟨b, o, huo, hra⟩ := rfS_at (HU.out.ext (HXB.out.trans HXq.out)) hql
            subst huo
            have HTQ : Hid (RfC (refs.take (q + 1)) = RfC (refs.take q) ++ (refv refs[q]).toList) := Lib.hid (by rw [List.take_succ_eq_append_getElem hql, RfC_append, RfC_one])
            generalize refs[q] = y at *
            have hidx := run_indexSl wr Try.underlying26 CHR.out CSR.out b o m uc q hltq
            have q0 : wr.cell? ⟨b, o + q * 2, none⟩ = some (.int .u32 (y.1 : Nat)) := by have := hra 0 _ rfl; simpa using this
            have q1 : wr.cell? ⟨b, o + q * 2 + 1, none⟩ = some (.int .u32 (y.2 : Nat)) := hra 1 _ rfl
            have HREF := Lib.hid (lawRef_any y wr)
            obtain ⟨vo, vc, hve⟩ := owns_shape HOq.out
            subst hve
            have HLQ := Lib.hid hltq
            clear hra hql
            unfold refv at HREF
            go_wp2_with fail
            refine HREF.out.mono ?_
            rintro e w3 ⟨rfl, hx3⟩
            have HX3 := Lib.hid (HXq.out.trans hx3)
            obtain ⟨W2, hW2⟩ : ∃ W', W' = w3.alloc (.cells #[.int .u32 (y.1 : Nat), .int .u32 (y.2 : Nat)] 36) := ⟨_, rfl⟩
            have hxa : Ext w3 W2 := by rw [hW2]; exact (Ch.refl _ _).alloc _
            have HRW : Hid (W2.heap[w3.heap.size]? = some (.cells #[.int .u32 (y.1 : Nat), .int .u32 (y.2 : Nat)] 36 (0, 0))) := Lib.hid (by rw [hW2]; exact heap_alloc_new w3 _)
            have HOA := Lib.hid (HOq.out.ext (hx3.trans hxa)); have HXA := Lib.hid (HX3.out.trans hxa); have HWA := Lib.hid hW2
            have hone := fun w => oneRf w (y.1 : Nat) (y.2 : Nat)
            clear hW2 hxa hx3 q0 q1 hidx HREF
            go_wp2_with (at_builtin; rw [← HWA.out]; refine wpList_append_sl _ rfl _ _ 54 rfl wB.heap.size 36 fi (.agg #[.int .u32 0, .int .u32 0]) 2 8 Try.underlying54 CHF.out CFZ.out CSF.out CFB.out rfl (by decide) _ _ _ rfl HOA.out _ 1 _ rfl (sl_row HRW.out) rfl (fun u hu => by simp at hu; rcases hu with rfl | rfl <;> simp [Value.oneCell']) (by omega) (by unfold maxLen; omega) HXA.out.size ?_)
            intro v5 w5 hown5 hgrow
            have HX5 : Hid (Ext wB w5) := Lib.hid (HXA.out.grown hgrow fun j hj => .inr (HOA.out.lt j hj).1)
            have HO5 : Hid (w5.ownsRow wB.heap.size 36 2 v5 (q + 1) (RfC (refs.take (q + 1)))) := Lib.hid (by rw [HTQ.out]; exact hown5)
            clear hown5 hgrow hone
            go_wp2
            go_roundw
            case rel => exact ⟨q + 1, HLQ.out, by simp, HX5, HO5⟩
            case measure => simp [intOf]; have := HLQ.out; omega
          · obtain rfl : q = m := by omega
            have hsf := Sl.ofOwns HOq.out
            rw [← HM.out, List.take_length] at hsf
            have hsf := RfS.of hsf
            have HXr := Lib.hid (HX2B.out.trans HXq.out)
            have HON := Lib.hid (only_any W.heap.size (.pointer (some ⟨g, 0, none⟩)) _ L refs wr (HCT2.out.ext HXr.out) HOK.out hsf)
            have HRO := Lib.hid (fun w' (hx : Ext wr w') => rOnly_any (.slice v8o ll v8c) (.slice uo q uc) L refs w' (HS2.out.ext (Q := ColS w') (HXr.out.trans hx) fun v c h => ColS.ext h (HXr.out.trans hx)) (HU.out.ext (HX2.out.trans (HXr.out.trans hx))) HOK.out.len)
            have HCK := Lib.hid (catOnly_ok HOK.out refs)
            obtain ⟨vo, vc, hve, _⟩ := hsf.shape
            rw [HM.out] at hve
            subst hve
            have HXrr := Lib.hid (HX2.out.trans HXr.out)
            clear hsf
            go_wp2_with fail
            refine HON.out.mono ?_
            rintro e w3 ⟨hx3, hpost⟩
            have HRO3 := Lib.hid (HRO.out w3 hx3)
            have HX3 := Lib.hid (HXW.out.trans (HXrr.out.trans hx3))
            unfold ROnlyPost at HRO3
            clear hx3 HON HRO
            rcases hpost with ⟨hz, po, rfl, hco⟩ | ⟨hz, rfl⟩
            · rw [hz] at HRO3
              obtain ⟨go, vgo, hpo, _⟩ := id hco
              subst hpo
              have HCO := Lib.hid hco
              clear hz hco
              go_wp2_with fail
              refine HRO3.out.mono ?_
              rintro e w4 ⟨hx4, vq, rfl, hvq⟩
              obtain ⟨vqo, vqc, hvqe, _⟩ := hvq.shape
              subst hvqe
              have HX4 := Lib.hid (HX3.out.trans hx4)
              have HVQ := Lib.hid hvq
              have HBK := Lib.hid (back9_any _ (.pointer (some ⟨go, 0, none⟩)) (catOnly L refs).1 w4 (HCO.out.ext hx4) HCK.out fun r hr => by have := (rlErr_zero (HCK.out.right r hr)).2.2.2.2.2.1; omega)
              clear hx4 hvq HRO3
              generalize hol : (catOnly L refs).1.length = ol at *
              have HOL := Lib.hid hol; clear hol
              go_wp2_with fail
              refine HBK.out.mono ?_
              rintro e w5 ⟨hx5, vg, rfl, hvg⟩
              obtain ⟨vgo, vgc, hvge, _⟩ := hvg.shape
              subst hvge
              have HX5 := Lib.hid (HX4.out.trans hx5)
              have HSM := Lib.hid (rSame9_any (.slice vgo (catOnly L refs).1.length vgc) (.slice vqo ol vqc) (catOnly L refs).1 (catOnly L refs).1 w5 hvg (HVQ.out.ext (Q := ColS w5) hx5 fun v c h => ColS.ext h hx5))
              rw [decide_eq_true rfl, HOL.out] at HSM
              rw [HOL.out]
              clear hx5 hvg HBK
              go_wp2_with fail
              refine HSM.out.mono ?_
              rintro e w6 ⟨rfl, hx6⟩
              have HX6 := Lib.hid (HX5.out.trans hx6)
              clear hx6 HSM
              go_wp2_with fail
              refine (awake9_any w6).mono ?_
              rintro e w7 ⟨rfl, hx7⟩
              have HX7 := Lib.hid (HX6.out.trans hx7)
              clear hx7
              go_wp2
              go_ret
              exact ⟨rfl, HX7.out⟩
            · rw [hz] at HRO3
              clear hz
              go_wp2_with fail
              refine HRO3.out.mono ?_
              rintro e w4 ⟨hx4, vq, rfl, hvq⟩
              obtain ⟨vqo, vqc, hvqe, _⟩ := hvq.shape
              subst hvqe
              have HX4 := Lib.hid (HX3.out.trans hx4)
              clear hx4 hvq HRO3
              generalize (catOnly L refs).1.length = ol at *
              go_wp2_with fail
              refine (awake9_any w4).mono ?_
              rintro e w7 ⟨rfl, hx7⟩
              have HX7 := Lib.hid (HX4.out.trans hx7)
              clear hx7
              go_wp2
              go_ret
              exact ⟨rfl, HX7.out⟩
end Go.Proofs.Ytegclfpmgilnpaa
