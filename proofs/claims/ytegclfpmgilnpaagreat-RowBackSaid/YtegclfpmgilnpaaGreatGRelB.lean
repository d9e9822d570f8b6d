import Derived.Test.YtegclfpmgilnpaaGreatGRelA
import Derived.Test.YtegclfpmgilnpaaGreatGVal
import Derived.Test.YtegclfpmgilnpaaGreatGPrim
namespace Go.Proofs.YtegclfpmgilnpaaGreat
open Go.RowKit Go.Lac
def coeT (b1 o1 c1 b2 o2 c2 n k : Nat) (x y : Col) : Tmp → Kn
  | 16 => .is (.slice (some ⟨b1, o1, none⟩) n c1)
  | 17 => .is (.int .i64 (k : Nat))
  | 18 => .is (.pointer (some ⟨b1, o1 + k * 3, none⟩))
  | 19 => .is (pcol x)
  | 20 => .is (.slice (some ⟨b2, o2, none⟩) n c2)
  | 21 => .is (.int .i64 (k : Nat))
  | 22 => .is (.pointer (some ⟨b2, o2 + k * 3, none⟩))
  | 23 => .is (pcol y)
  | 24 => .is (.bool (!decide (x = y)))
  | _ => .any
end Go.Proofs.YtegclfpmgilnpaaGreat
namespace Go.Proofs.YtegclfpmgilnpaaGreat
open Go.RowKit Go.Lac
end Go.Proofs.YtegclfpmgilnpaaGreat
namespace Go.Proofs.YtegclfpmgilnpaaGreat
open Go.RowKit Go.Lac
theorem colC_append (a b : List Col) : colC (a ++ b) = colC a ++ colC b := by simp [colC]
theorem ColS.take {w : World} {ao : Option Addr} {n cap : Nat} {l : List Col} (h : ColS w (.slice ao n cap) l) {k : Nat} (hk : k ≤ l.length) : ColS w (.slice ao k cap) (l.take k) := by
  obtain ⟨ao', cap', e0, g1, g2, g3, g5⟩ := h
  cases e0
  have hl : (l.take k).length = k := by rw [List.length_take]; omega
  refine ⟨ao, cap, by rw [hl], by omega, g2, g3, fun x hx j u hu => g5 x hx j u ?_⟩
  rw [← List.take_append_drop k l, colC_append]
  rw [List.getElem?_append_left (List.getElem?_eq_some_iff.1 hu).1]
  exact hu
theorem run_takeCo {P : Program} (w : World) {t e : TypeId} {inf : TypeInfo} (h : P.underlying t = some (.slice e)) (hinf : P.info? e = some inf) (ao : Option Addr) (n cap k : Nat) (hk : k ≤ n) (hn : n ≤ cap) :
    (Instr.sliceAt t (.slice ao n cap) none (some (.int .i64 (k : Nat))) none).run P w = .ok (.slice ao k cap) w := by
  have he := elem_eq h
  have h' : P.underlying t = some (.slice (P.elem t)) := by rw [he]; exact h
  have hs : sliced ao 0 k cap inf.size = .slice ao k cap := by
    unfold sliced
    cases ao with
    | none => simp
    | some a => obtain ⟨b, off, s⟩ := a; simp [Addr.add]
  rw [run_sliceAt_slice (h := h'), run_slice_h (ht := h') (h0 := by omega) (h2 := by omega), he]
  simp [sizeOf, typeInfo, hinf, hs]
theorem fieldRl_3 (w : World) (b : Nat) : (Instr.fieldAt 43 (.pointer (some ⟨b, 0, none⟩)) 3).run Tryz.prog w = .ok (.pointer (some ⟨b, 4, none⟩)) w := by kernel_rfl
theorem colsErr_at (l : List Col) (k : Nat) (hk : k < l.length) (h : colsErr (l.take k) (l.drop k) = colsErr [] l) :
    (colErr (l.take k) l[k] ≠ 0 → colsErr [] l = colErr (l.take k) l[k]) ∧ (colErr (l.take k) l[k] = 0 → colsErr (l.take (k + 1)) (l.drop (k + 1)) = colsErr [] l) := by
  rw [List.drop_eq_getElem_cons hk, colsErr] at h
  refine ⟨fun h1 => by rw [if_pos h1] at h; exact h.symm, fun h1 => ?_⟩
  rw [if_neg (by simpa using h1)] at h
  rw [List.take_succ_eq_append_getElem hk]
  exact h
def rgtT (g p : Nat) (ao : Option Addr) (m cap k E : Nat) (x : Col) : Tmp → Kn
  | 45 => .is (pcol x)
  | 46 => .is (.pointer (some ⟨g, 4, none⟩))
  | 47 => .is (.slice ao m cap)
  | 48 => .is (.int .i64 (k : Nat))
  | 49 => .is (.slice ao k cap)
  | 50 => .is (.int .i64 (E : Nat))
  | 5 => .is (.int .i64 (E : Nat))
  | _ => .any
def Rl.fits (r : Rl) : Prop := r.name.length ≤ 9223372036854775807 ∧ ∀ c ∈ r.cols, c.name.length ≤ 9223372036854775807
set_option maxRecDepth 20000 in
set_option maxHeartbeats 4000000 in
theorem relRight_any (r : Rl) (cv : Value) (w : World) (hb : ColS w cv r.cols) (hf : r.fits) :
    Calls Tryz.prog 27 #[.agg (relv r cv)] w fun e w' => e = .returned (.int .i64 (rlErr r : Nat)) ∧ Ext w w' := by
  have h1 := heap_alloc_new w (.cells (relv r cv) 43)
  obtain ⟨W, hW⟩ : ∃ W, W = w.alloc (.cells (relv r cv) 43) := ⟨_, rfl⟩
  have hx : Ext w W := by rw [hW]; exact (Ch.refl _ _).alloc _
  rw [← hW] at h1
  have HB := Lib.hid (ColS.ext hb hx)
  obtain ⟨ao, cap, rfl, hlc, hcm, _⟩ := id hb
  have c0 : W.cell? ⟨w.heap.size, 0, none⟩ = some (.int .u32 (r.oid : Nat)) := by rw [cell_of_row _ _ _ _ _ _ h1]; rfl
  have c1 : W.cell? ⟨w.heap.size, 1, none⟩ = some (.int .u32 (r.ver : Nat)) := by rw [cell_of_row _ _ _ _ _ _ h1]; rfl
  have c2 : W.cell? ⟨w.heap.size, 2, none⟩ = some (.string ⟨r.name.toArray⟩) := by rw [cell_of_row _ _ _ _ _ _ h1]; rfl
  have c3 : W.cell? ⟨w.heap.size, 3, none⟩ = some (.int .u8 (r.ident : Nat)) := by rw [cell_of_row _ _ _ _ _ _ h1]; rfl
  have c4 : W.cell? ⟨w.heap.size, 4, none⟩ = some (.slice ao r.cols.length cap) := by rw [cell_of_row _ _ _ _ _ _ h1]; rfl
  have HG := Lib.hid h1; have HX := Lib.hid hx; have HW := Lib.hid hW
  have HIN := Lib.hid (isName_any r.name W hf.1)
  have HF := Lib.hid hf.2
  have HKEY := Lib.hid (fun w' (h : Ext W w') (hl : r.cols.length ≤ 16) => hasKey_any r (.slice ao r.cols.length cap) w' (ColS.ext HB.out h) (by omega))
  obtain ⟨E, hE⟩ : ∃ E, E = rlErr r := ⟨_, rfl⟩
  have HE1 : Hid (r.oid = 0 ∨ r.ver = 0 → E = 4) := Lib.hid fun h => by rw [hE]; unfold rlErr; rw [if_pos h]
  have HE2 : Hid (¬ (r.oid = 0 ∨ r.ver = 0) → ¬ NameOk r.name → E = 3) := Lib.hid fun h h' => by rw [hE]; unfold rlErr; rw [if_neg h, if_pos h']
  have HE3 : Hid (¬ (r.oid = 0 ∨ r.ver = 0) → NameOk r.name → 2 < r.ident → E = 7) := Lib.hid fun h h' h'' => by rw [hE]; unfold rlErr; rw [if_neg h, if_neg (by simpa using h'), if_pos h'']
  have HE4 : Hid (¬ (r.oid = 0 ∨ r.ver = 0) → NameOk r.name → ¬ 2 < r.ident → (r.cols.length = 0 ∨ 16 < r.cols.length) → E = 17) := Lib.hid fun h h' h'' h3 => by rw [hE]; unfold rlErr; rw [if_neg h, if_neg (by simpa using h'), if_neg h'', if_pos h3]
  have HE5 : Hid (¬ (r.oid = 0 ∨ r.ver = 0) → NameOk r.name → ¬ 2 < r.ident → ¬ (r.cols.length = 0 ∨ 16 < r.cols.length) → (colsErr [] r.cols ≠ 0 → E = colsErr [] r.cols) ∧ (colsErr [] r.cols = 0 → (r.ident = 1 ∧ ¬ (∃ c ∈ r.cols, c.key = true) → E = 13) ∧ (¬ (r.ident = 1 ∧ ¬ (∃ c ∈ r.cols, c.key = true)) → E = 0))) := Lib.hid fun h h' h'' h3 => by
    rw [hE]; unfold rlErr; rw [if_neg h, if_neg (by simpa using h'), if_neg h'', if_neg h3]
    refine ⟨fun h4 => by rw [if_pos h4], fun h4 => ?_⟩
    rw [if_neg (by simpa using h4)]
    exact ⟨fun h5 => by rw [if_pos h5], fun h5 => by rw [if_neg h5]⟩
  rw [← hE]
  have hcl : r.cols.length ≤ 9223372036854775807 := by unfold maxLen at hcm; omega
  rw [hW] at c0 c1 c2 c3 c4
  clear h1 hx hW hb hE hf hcm
  generalize hrv : relv r (.slice ao r.cols.length cap) = rv at *
  have HRV := Lib.hid hrv.symm
  unfold relv strV at HRV
  clear hrv
  by_cases h0 : r.oid = 0
  · have HEE := Lib.hid (HE1.out (.inl h0))
    clear HE1 HE2 HE3 HE4 HE5
    rw [h0, Int.natCast_zero] at c0
    generalize r.cols.length = n at *
    generalize r.ver = n2 at *
    go_enter Tryz.func27, Tryz.ntmps27
    go_wp2
    go_ret
    rw [← HW.out]
    exact ⟨by rw [HEE.out]; rfl, HX.out⟩
  by_cases h0' : r.ver = 0
  · have HEE := Lib.hid (HE1.out (.inr h0'))
    have e0 : (((r.oid : Nat) : Int) == 0) = false := by simp; omega
    clear HE1 HE2 HE3 HE4 HE5
    rw [h0', Int.natCast_zero] at c1
    generalize r.cols.length = n at *
    generalize r.oid = n2 at *
    clear h0
    go_enter Tryz.func27, Tryz.ntmps27
    go_wp2
    go_ret
    rw [← HW.out]
    exact ⟨by rw [HEE.out]; rfl, HX.out⟩
  have e0 : (((r.oid : Nat) : Int) == 0) = false := by simp; omega
  have e1 : (((r.ver : Nat) : Int) == 0) = false := by simp; omega
  have hnz : ¬ (r.oid = 0 ∨ r.ver = 0) := fun h => h.elim h0 h0'
  clear HE1 h0 h0'
  by_cases hnm : NameOk r.name
  case neg =>
    have HEE := Lib.hid (HE2.out hnz hnm)
    rw [decide_eq_false hnm] at HIN
    unfold strV at HIN
    clear HE2 HE3 HE4 HE5 hnz hnm HKEY
    generalize r.cols.length = n at *
    generalize (⟨r.name.toArray⟩ : ByteArray) = A1 at *
    generalize r.oid = n1 at *
    generalize r.ver = n2 at *
    go_enter Tryz.func27, Tryz.ntmps27
    go_wp2_with (go_at_call 48; rw [← HW.out]; refine HIN.out.mono ?_; rintro e w' ⟨rfl, rfl⟩)
    go_ret
    exact ⟨by rw [HEE.out]; rfl, HX.out⟩
  rw [decide_eq_true hnm] at HIN
  unfold strV at HIN
  have HE3' := Lib.hid (HE3.out hnz hnm); have HE4' := Lib.hid (HE4.out hnz hnm); have HE5' := Lib.hid (HE5.out hnz hnm)
  clear HE2 HE3 HE4 HE5 hnz hnm
  generalize (⟨r.name.toArray⟩ : ByteArray) = A1 at *
  generalize r.oid = n1 at *
  generalize r.ver = n2 at *
  by_cases hid : 2 < r.ident
  · have HEE := Lib.hid (HE3'.out hid)
    clear HE3' HE4' HE5' HKEY
    generalize r.cols.length = n at *
    generalize r.ident = n3 at *
    go_enter Tryz.func27, Tryz.ntmps27
    go_wp2_with (go_at_call 48; rw [← HW.out]; refine HIN.out.mono ?_; rintro e w' ⟨rfl, rfl⟩; rw [← HW.out] at c0 c1 c2 c3 c4)
    go_ret
    exact ⟨by rw [HEE.out]; rfl, HX.out⟩
  have hid' : r.ident ≤ 2 := by omega
  have HE4 := Lib.hid (HE4'.out hid); have HE5 := Lib.hid (HE5'.out hid)
  clear HE3' HE4' HE5' hid
  by_cases hlen : r.cols.length = 0 ∨ 16 < r.cols.length
  · have HEE := Lib.hid (HE4.out hlen)
    clear HE4 HE5 HKEY
    generalize r.ident = n3 at *
    rcases hlen with hlen | hlen
    · rw [hlen] at c4
      generalize r.cols.length = n at *
      clear hlc hcl hlen
      go_enter Tryz.func27, Tryz.ntmps27
      go_wp2_with (go_at_call 48; rw [← HW.out]; refine HIN.out.mono ?_; rintro e w' ⟨rfl, rfl⟩; rw [← HW.out] at c0 c1 c2 c3 c4)
      go_ret
      exact ⟨by rw [HEE.out]; rfl, HX.out⟩
    · have e3 : (((r.cols.length : Nat) : Int) == 0) = false := beq_eq_false_iff_ne.2 (by omega)
      generalize r.cols.length = n at *
      clear hlc
      go_enter Tryz.func27, Tryz.ntmps27
      go_wp2_with (go_at_call 48; rw [← HW.out]; refine HIN.out.mono ?_; rintro e w' ⟨rfl, rfl⟩; rw [← HW.out] at c0 c1 c2 c3 c4)
      go_ret
      exact ⟨by rw [HEE.out]; rfl, HX.out⟩
  have e3 : (((r.cols.length : Nat) : Int) == 0) = false := beq_eq_false_iff_ne.2 (by omega)
  have HEE := Lib.hid (HE5.out hlen)
  have hl16 : r.cols.length ≤ 16 := by omega
  have HK16 := Lib.hid (fun w' (h : Ext W w') => HKEY.out w' h hl16)
  clear HE4 HE5 hlen hcl HKEY
  obtain ⟨ci, chi, _, chs, _⟩ := info_parts infoCoZ
  have CHI := Lib.hid chi; have CHS := Lib.hid chs
  have HHK : Hid ((∃ c ∈ r.cols, c.key = true) → decide (∃ c ∈ r.cols, c.key = true) = true) := Lib.hid decide_eq_true
  have HHN : Hid (¬ (∃ c ∈ r.cols, c.key = true) → decide (∃ c ∈ r.cols, c.key = true) = false) := Lib.hid decide_eq_false
  generalize decide (∃ c ∈ r.cols, c.key = true) = DK at *
  have HLC := Lib.hid hlc
  generalize hm : r.cols.length = m at *
  have HM := Lib.hid hm
  clear hm hlc chi chs
  generalize hcs : r.cols = cs at *
  clear hcs
  generalize r.ident = n3 at *
  have hrv := HRV.out
  subst hrv
  go_enter Tryz.func27, Tryz.ntmps27
  go_wp2_with (go_at_call 48; rw [← HW.out]; refine HIN.out.mono ?_; rintro e w' ⟨rfl, rfl⟩; rw [← HW.out] at c0 c1 c2 c3 c4)
  clear HIN
  go_loopw [40] (fun ix wr => ∃ k : Nat, k ≤ m ∧ ix = .int .i64 k ∧ Hid (Ext W wr) ∧ Hid (colsErr (cs.take k) (cs.drop k) = colsErr [] cs)) (fun ix _ => m - (intOf ix).toNat)
  case atStart => exact ⟨0, Nat.zero_le _, rfl, Lib.hid (Ch.refl _ _), Lib.hid (by simp)⟩
  case round =>
    obtain ⟨k, hk, rfl, HX1, HP⟩ := hrel
    by_cases hlt : k < m
    · have hkl : k < cs.length := by have := HM.out; omega
      have hcs := ColS.ext HB.out HX1.out
      obtain ⟨b, o, rfl, hra⟩ := colS_at hcs hkl
      have hidx := run_indexSl wr Tryz.underlying41 CHI.out CHS.out b o m cap k hlt
      have q0 : wr.cell? ⟨b, o + k * 3, none⟩ = some (.string ⟨cs[k].name.toArray⟩) := by have := hra 0 _ rfl; simpa [strV] using this
      have q1 : wr.cell? ⟨b, o + k * 3 + 1, none⟩ = some (.int .u8 (cs[k].ty : Nat)) := hra 1 _ rfl
      have q2 : wr.cell? ⟨b, o + k * 3 + 2, none⟩ = some (.bool cs[k].key) := hra 2 _ rfl
      have HQ := Lib.hid (colsErr_at cs k hkl HP.out)
      have hxl := HF.out cs[k] (List.getElem_mem hkl)
      obtain ⟨x, hx⟩ : ∃ x, x = cs[k] := ⟨_, rfl⟩
      rw [← hx] at q0 q1 q2 HQ hxl
      have HXL := Lib.hid hxl
      have HCS := Lib.hid hcs; have HLT := Lib.hid hlt
      clear hra hcs hx hxl
      go_wp2
      have hrow := heap_alloc_new wr (.cells (colv x) 93)
      have hxa : Ext W (wr.alloc (.cells (colv x) 93)) := HX1.out.alloc _
      have HROW := Lib.hid hrow; have HXA := Lib.hid hxa
      have HC3 := Lib.hid (ColS.take (k := k) (ColS.ext HCS.out ((Ch.refl _ _).alloc (.cells (colv x) 93))) (by omega))
      have HCR := Lib.hid (fun w' (h : Ext (wr.alloc (.cells (colv x) 93)) w') => colRight_any x (.slice (some ⟨b, o, none⟩) k cap) (cs.take k) w' (ColS.ext HC3.out h) HXL.out)
      obtain ⟨E2, hE2⟩ : ∃ E2, E2 = colErr (cs.take k) x := ⟨_, rfl⟩
      rw [← hE2] at HCR HQ
      have HGW := Lib.hid (heap_of_ext hxa HG.out)
      clear hrow hxa hE2 q0 q1 q2 hidx
      refine wp_region_ext (w0 := wr.alloc (.cells (colv x) 93)) (rgtT w.heap.size wr.heap.size (some ⟨b, o, none⟩) m cap k E2 x) mixedV (by rfl) (by rfl) ?all ?fin
      case all =>
        refine ⟨?_, ?_, ?_, ?_, ?_, ?_, ?_, trivial⟩
        · refine StepOK.plain (kn_stable _) rfl fun ρ w' hρ hw hf => ?_
          have h : ρ (.tmp 4) = .pointer (some ⟨wr.heap.size, 0, none⟩) := (hf 4).2 rfl rfl
          exact Exec.kloadrow rfl rfl h (heap_of_ext hw HROW.out) Tryz.underlying93 rfl infoCo rfl
        · refine StepOK.plain (kn_stable _) rfl fun ρ w' hρ hw hf => ?_
          have h : ρ (.tmp 1) = .pointer (some ⟨w.heap.size, 0, none⟩) := (hf 1).2 rfl rfl
          exact Exec.kfield rfl rfl h (fieldRl_3 w' _) rfl
        · refine StepOK.plain (kn_stable _) rfl fun ρ w' hρ hw hf => ?_
          have h : ρ (.tmp 46) = .pointer (some ⟨w.heap.size, 4, none⟩) := (hf 46).1 rfl
          have hc : w'.cell? ⟨w.heap.size, 4, none⟩ = some (.slice (some ⟨b, o, none⟩) m cap) := (HXA.out.trans hw).cell (p := ⟨w.heap.size, 4, none⟩) (fun f => f) _ c4
          exact Exec.same (v := .slice (some ⟨b, o, none⟩) m cap) rfl (by simp [go_sem, hρ.const, h, hc]) rfl
        · refine StepOK.plain (kn_stable _) rfl fun ρ w' hρ hw hf => ?_
          have h : ρ (.tmp 3) = .int .i64 (k : Nat) := (hf 3).2 rfl rfl
          exact Exec.kmove rfl rfl h
        · refine StepOK.plain (kn_stable _) rfl fun ρ w' hρ hw hf => ?_
          have h1 : ρ (.tmp 47) = .slice (some ⟨b, o, none⟩) m cap := (hf 47).1 rfl
          have h2 : ρ (.tmp 48) = .int .i64 (k : Nat) := (hf 48).1 rfl
          have hr := run_takeCo w' (t := 41) Tryz.underlying41 CHI.out (some ⟨b, o, none⟩) m cap k (by have := HLT.out; omega) HLC.out
          exact Exec.same (v := .slice (some ⟨b, o, none⟩) k cap) rfl (by unfold execOp; simp only [h1, h2, Option.map_some, Option.map_none, Sem.run_bind, hr, Result.andThen_ok, Sem.run_pure]) rfl
        · refine StepOK.plain (kn_stable _) rfl fun ρ w' hρ hw hf => ?_
          have h1 : ρ (.tmp 45) = pcol x := (hf 45).1 rfl
          have h2 : ρ (.tmp 49) = .slice (some ⟨b, o, none⟩) k cap := (hf 49).1 rfl
          exact Exec.kcall #[pcol x, .slice (some ⟨b, o, none⟩) k cap] hρ rfl rfl (by simp [h1, h2]) Tryz.func49 (by rfl) (by rfl) ((HCR.out w' hw).mono (by rintro e w'' ⟨rfl, hx⟩; exact ⟨_, rfl, rfl, hx⟩))
        · refine StepOK.plain (kn_stable _) rfl fun ρ w' hρ hw hf => ?_
          have h1 : ρ (.tmp 50) = .int .i64 (E2 : Nat) := (hf 50).1 rfl
          exact Exec.kassign rfl rfl h1
      case fin =>
        intro ν w8 hfin hx8
        have h5 : ν 5 = .int .i64 (E2 : Nat) := hfin 6 5 rfl
        simp only [Exit.then, ended, List.foldl_cons, List.foldl_nil, List.setIfInBounds_toArray, List.set_cons_succ, List.set_cons_zero, h5]
        have HX8 := Lib.hid (HXA.out.trans hx8)
        clear hfin hx8 h5
        by_cases hz : E2 = 0
        · have HPK := Lib.hid (HQ.out.2 hz)
          rw [hz, Int.natCast_zero]
          clear hz
          go_wp2
          exact ⟨⟨k + 1, HLT.out, rfl, HX8, HPK⟩, by simp only [intOf]; have := HLT.out; omega⟩
        · have en : (((E2 : Nat) : Int) != 0) = true := by simp; omega
          have HEF : Hid (E = E2) := Lib.hid (by have h := HQ.out.1 hz; rw [← h]; exact HEE.out.1 (by rw [h]; exact hz))
          clear hz
          go_wp2
          go_ret
          exact ⟨by rw [HEF.out]; rfl, HX.out.trans HX8.out⟩
    · obtain rfl : k = m := by omega
      have HP0 : Hid (colsErr [] cs = 0) := Lib.hid (by have := HP.out; rw [← HM.out, List.drop_length, colsErr] at this; exact this.symm)
      have HEE2 := Lib.hid (HEE.out.2 HP0.out)
      have c0 := HX1.out.cell (p := ⟨w.heap.size, 0, none⟩) (fun f => f) _ c0
      have c1 := HX1.out.cell (p := ⟨w.heap.size, 1, none⟩) (fun f => f) _ c1
      have c2 := HX1.out.cell (p := ⟨w.heap.size, 2, none⟩) (fun f => f) _ c2
      have c3 := HX1.out.cell (p := ⟨w.heap.size, 3, none⟩) (fun f => f) _ c3
      have c4 := HX1.out.cell (p := ⟨w.heap.size, 4, none⟩) (fun f => f) _ c4
      have HKW := Lib.hid (HK16.out wr HX1.out)
      by_cases hi1 : n3 = 1
      · have e4 : (((n3 : Nat) : Int) == 1) = true := by rw [hi1]; rfl
        by_cases hk1 : ∃ c ∈ cs, c.key = true
        · have HD := Lib.hid (HHK.out hk1)
          have HF0 := Lib.hid (HEE2.out.2 fun h => h.2 hk1)
          clear hi1 hk1
          go_wp2_with (go_at_call 50; refine HKW.out.mono ?_; rintro e w' ⟨rfl, hx⟩; rw [HD.out]; have HX9 := Lib.hid (HX1.out.trans hx); clear hx)
          go_ret
          exact ⟨by rw [HF0.out]; rfl, HX.out.trans HX9.out⟩
        · have HD := Lib.hid (HHN.out hk1)
          have HF0 := Lib.hid (HEE2.out.1 ⟨hi1, hk1⟩)
          clear hi1 hk1
          go_wp2_with (go_at_call 50; refine HKW.out.mono ?_; rintro e w' ⟨rfl, hx⟩; rw [HD.out]; have HX9 := Lib.hid (HX1.out.trans hx); clear hx)
          go_ret
          exact ⟨by rw [HF0.out]; rfl, HX.out.trans HX9.out⟩
      · have e4 : (((n3 : Nat) : Int) == 1) = false := by simp; omega
        have HF0 := Lib.hid (HEE2.out.2 fun h => hi1 h.1)
        clear hi1
        go_wp2
        go_ret
        exact ⟨by rw [HF0.out]; rfl, HX.out.trans HX1.out⟩
end Go.Proofs.YtegclfpmgilnpaaGreat
namespace Go.Proofs.YtegclfpmgilnpaaGreat
open Go.RowKit Go.Lac
theorem row_cells {w : World} {g : Nat} {r : Rl} {cv : Value} {T : TypeId} (h : w.heap[g]? = some (.cells (relv r cv) T (0, 0))) :
    w.cell? ⟨g, 0, none⟩ = some (.int .u32 (r.oid : Nat)) ∧ w.cell? ⟨g, 1, none⟩ = some (.int .u32 (r.ver : Nat)) ∧ w.cell? ⟨g, 2, none⟩ = some (.string ⟨r.name.toArray⟩) ∧
    w.cell? ⟨g, 3, none⟩ = some (.int .u8 (r.ident : Nat)) ∧ w.cell? ⟨g, 4, none⟩ = some cv :=
  ⟨by rw [cell_of_row _ _ _ _ _ _ h]; rfl, by rw [cell_of_row _ _ _ _ _ _ h]; rfl, by rw [cell_of_row _ _ _ _ _ _ h]; rfl, by rw [cell_of_row _ _ _ _ _ _ h]; rfl, by rw [cell_of_row _ _ _ _ _ _ h]; rfl⟩
theorem ownsRow_down {w : World} {b b' : Nat} {e : TypeId} {size : Nat} {v : Value} {n : Nat} {xs : List Value} (h : w.ownsRow b e size v n xs) (hb : b' ≤ b) : w.ownsRow b' e size v n xs := by
  refine ⟨h.1, ?_⟩
  rcases h.2 with ⟨h1, h2⟩ | ⟨g, cap, cur, h1, h2, h3⟩
  · exact .inl ⟨h1, h2⟩
  · exact .inr ⟨g, cap, cur, h1, by omega, h3⟩
def EncPost (E : Nat) (bs : List UInt8) (w : World) (e : Ending) (w' : World) : Prop :=
  ∃ s, e = .returned (.tuple #[s, .int .i64 (E : Nat)]) ∧ Ext w w' ∧ Rd w' s (if E = 0 then bs else [])
def encT (g base n : Nat) (bs tx : List UInt8) (x : Col) (A : ByteArray) : Tmp → Kn
  | 46 => .rd bs
  | 47 => .is (.pointer (some ⟨g, 0, none⟩))
  | 48 => .is (.string A)
  | 49 => Kn.own base 5 n (cellsB tx)
  | 50 => .is (pcol x)
  | 51 => .is (.int .u8 (colForm x : Nat))
  | 52 => .rd [UInt8.ofNat (colForm x)]
  | _ => .any
def encT' (base n : Nat) (tx : List UInt8) (x : Col) : Tmp → Kn
  | 53 => Kn.own base 5 (n + 1) (cellsB (tx ++ [UInt8.ofNat (colForm x)]))
  | 5 => Kn.own base 5 (n + 1) (cellsB (tx ++ [UInt8.ofNat (colForm x)]))
  | _ => .any
end Go.Proofs.YtegclfpmgilnpaaGreat
namespace Go.Proofs.YtegclfpmgilnpaaGreat
open Go.RowKit Go.Lac
theorem colS_heap {w : World} {g : Nat} {l : List Col} {T : TypeId} (h : w.heap[g]? = some (.cells (colC l).toArray T (0, 0))) (hl : l.length ≤ maxLen) : ColS w (.slice (some ⟨g, 0, none⟩) l.length l.length) l := by
  refine ⟨_, l.length, rfl, Nat.le_refl _, hl, (fun h => by cases h), fun x hx j u hu => ?_⟩
  cases hx
  refine ⟨g, 0, rfl, ?_⟩
  rw [Nat.zero_add, cell_of_row w g j _ _ _ h]
  simpa using hu
def egR : Rl := ⟨5, 1, [116], 1, [⟨[97], 2, true⟩]⟩
end Go.Proofs.YtegclfpmgilnpaaGreat
namespace Go.Proofs.YtegclfpmgilnpaaGreat
open Go.RowKit Go.Lac
def Great (r : Rl) : Prop := (∃ c ∈ r.cols, 60 < c.name.length) ∨ 30 < r.cols.length ∨ 60 < r.name.length
instance (r : Rl) : Decidable (Great r) := by unfold Great; exact inferInstance
theorem infoRCZ : (Tryz.prog.info? 78).map (fun i => (i.zero, i.size, i.bytes)) = some (some (.agg #[.string ⟨#[]⟩, .int .u8 0, .bool false]), 3, 24) := by kernel_rfl
end Go.Proofs.YtegclfpmgilnpaaGreat
namespace Go.Proofs.YtegclfpmgilnpaaGreat
open Go.RowKit Go.Lac
theorem fieldRR_3 (w : World) (b : Nat) : (Instr.fieldAt 28 (.pointer (some ⟨b, 0, none⟩)) 3).run Tryz.prog w = .ok (.pointer (some ⟨b, 4, none⟩)) w := by kernel_rfl
def rsamT (g1 g2 b1 o1 c1 b2 o2 c2 n k : Nat) (x y : Col) : Tmp → Kn
  | 41 => .is (.pointer (some ⟨g1, 4, none⟩))
  | 42 => .is (.slice (some ⟨b1, o1, none⟩) n c1)
  | 43 => .is (.int .i64 (k : Nat))
  | 44 => .is (.pointer (some ⟨b1, o1 + k * 3, none⟩))
  | 45 => .is (pcol x)
  | 46 => .is (.pointer (some ⟨g2, 4, none⟩))
  | 47 => .is (.slice (some ⟨b2, o2, none⟩) n c2)
  | 48 => .is (.int .i64 (k : Nat))
  | 49 => .is (.pointer (some ⟨b2, o2 + k * 3, none⟩))
  | 50 => .is (pcol y)
  | 51 => .is (.bool (!decide (x = y)))
  | _ => .any
end Go.Proofs.YtegclfpmgilnpaaGreat
