/-
  Catalogs: Of.
-/
import Derived.Test.YtegclfpmgilnpaaCatE
namespace Go.Proofs.Ytegclfpmgilnpaa
open Go.RowKit Go.Lac

def OfPost (l : List Rl) (w : World) (e : Ending) (w' : World) : Prop :=
  Ext w w' ∧ (((catOf [] 0 l).2.2 = 0 ∧ ∃ p, e = .returned (.tuple #[p, .int .i64 (l.length : Nat), .int .i64 0]) ∧ CatS w.heap.size w' p (catOf [] 0 l).1) ∨
    ((catOf [] 0 l).2.2 ≠ 0 ∧ e = .returned (.tuple #[.pointer none, .int .i64 ((catOf [] 0 l).2.1 : Nat), .int .i64 ((catOf [] 0 l).2.2 : Nat)])))
theorem results_three {P : Program} {fn : Func} {a b c : Tmp} (h : fn.results = #[.tmp a, .tmp b, .tmp c]) (tmps : Array Value) (w : World) :
    (results fn tmps).run P w = .ok (.tuple #[tmps.getD a undef, tmps.getD b undef, tmps.getD c undef]) w := by
  simp [results, h]
set_option maxRecDepth 20000 in
set_option maxHeartbeats 2000000 in
theorem ofC_any (v : Value) (l : List Rl) (w : World) (h : RlS (ColS w) w v l) (hf : ∀ r ∈ l, r.fits) :
    Calls Try.prog 27 #[v] w (OfPost l w) := by
  obtain ⟨ao, cap, rfl, hlc, hcm⟩ := h.shape
  obtain ⟨ci, chi, _, chs, _⟩ := info_parts infoRlZ
  have CHI := Lib.hid chi; have CHS := Lib.hid chs
  have HR := Lib.hid h; have HF := Lib.hid hf
  have hm63 : l.length ≤ 9223372036854775807 := by unfold maxLen at hcm; omega
  clear chi chs h hf hlc hcm
  generalize hn : l.length = n at *
  have HN := Lib.hid hn; clear hn
  go_enter Try.func27, Try.ntmps27
  go_wp2_with fail
  refine (new_any w).mono ?_
  rintro e w1 ⟨p, rfl, hx1, hc1⟩
  have HX1 := Lib.hid hx1
  have HC1 := Lib.hid hc1
  obtain ⟨g, v0, rfl, hg, _⟩ := id hc1
  have HGB := Lib.hid hg
  clear hx1 hc1 hg
  go_wp2_with fail
  go_loopw [12] (fun ix wr => ∃ (k : Nat) (L : List Rl), k ≤ n ∧ ix = .int .i64 k ∧ Hid (Ext w wr ∧ CatOk L ∧ CatS w.heap.size wr (.pointer (some ⟨g, 0, none⟩)) L ∧ catOf [] 0 l = catOf L k (l.drop k))) (fun ix _ => n - (intOf ix).toNat)
  case atStart => exact ⟨0, [], Nat.zero_le _, rfl, Lib.hid ⟨HX1.out, CatOk.nil, HC1.out, by simp⟩⟩
  case round =>
    obtain ⟨k, L, hk, rfl, HI⟩ := hrel
    by_cases hlt : k < n
    · have hkl : k < l.length := by have := HN.out; omega
      have hrs := HR.out.ext HI.out.1 (Q := ColS wr) fun v c h => ColS.ext h HI.out.1
      obtain ⟨b, o, cv, rfl, hra, hcv⟩ := rlS_at hrs hkl
      have hidx := run_indexSl wr Try.underlying62 CHI.out CHS.out b o n cap k hlt
      have HFK := Lib.hid (HF.out l[k] (List.getElem_mem hkl))
      have HDR : Hid (l.drop k = l[k] :: l.drop (k + 1)) := Lib.hid (List.drop_eq_getElem_cons hkl)
      generalize l[k] = x at *
      have q0 : wr.cell? ⟨b, o + k * 5, none⟩ = some (.int .u32 (x.oid : Nat)) := by have := hra 0 _ rfl; simpa using this
      have q1 : wr.cell? ⟨b, o + k * 5 + 1, none⟩ = some (.int .u32 (x.ver : Nat)) := hra 1 _ rfl
      have q2 : wr.cell? ⟨b, o + k * 5 + 2, none⟩ = some (.string ⟨x.name.toArray⟩) := hra 2 _ rfl
      have q3 : wr.cell? ⟨b, o + k * 5 + 3, none⟩ = some (.int .u8 (x.ident : Nat)) := hra 3 _ rfl
      have q4 : wr.cell? ⟨b, o + k * 5 + 4, none⟩ = some cv := hra 4 _ rfl
      obtain ⟨co, cc, rfl, _⟩ := id hcv
      obtain ⟨w2, hw2⟩ : ∃ w2, w2 = wr.alloc (.cells (relv x (.slice co x.cols.length cc)) 39) := ⟨_, rfl⟩
      have hx2 : Ext wr w2 := by rw [hw2]; exact (Ch.refl _ _).alloc _
      have hrow := heap_alloc_new wr (.cells (relv x (.slice co x.cols.length cc)) 39)
      rw [← hw2] at hrow
      obtain ⟨d0, d1, d2, d3, d4⟩ := row_cells hrow
      have HAD := Lib.hid (add_any w.heap.size (.pointer (some ⟨g, 0, none⟩)) L x (.slice co x.cols.length cc) w2 (HI.out.2.2.1.ext hx2) HI.out.2.1 (by have := HI.out.1.size; have := hx2.size; omega) (ColS.ext hcv hx2) HFK.out)
      have HX2 := Lib.hid (HI.out.1.trans hx2); have HW2 := Lib.hid hw2
      rw [hw2] at d0 d1 d2 d3 d4
      have HLT := Lib.hid hlt
      clear hra hcv hrs hx2 hrow hw2 hkl
      unfold relv strV at *
      go_wp2_with fail
      rw [← HW2.out]
      refine HAD.out.mono ?_
      rintro e w3 ⟨rfl, hch, hct⟩
      have hx3 : Ext w w3 := ((Ext.ch HX2.out).trans hch).mono fun j hj h => by
        unfold AtP at h
        cases h
        have := HGB.out
        omega
      have HX3 := Lib.hid hx3; have HCT := Lib.hid hct
      clear hx3 hch hct q0 q1 q2 q3 q4 d0 d1 d2 d3 d4 hidx
      have HCF : Hid (catOf [] 0 l = if (catAdd L x).2 = 0 then catOf (catAdd L x).1 (k + 1) (l.drop (k + 1)) else ([], k, (catAdd L x).2)) := Lib.hid (by rw [HI.out.2.2.2, HDR.out, catOf])
      have HOK := Lib.hid (HI.out.2.1.add x)
      by_cases he : (catAdd L x).2 = 0
      · rw [he]
        rw [he] at HCF
        have HI2 : Hid (Ext w w3 ∧ CatOk (catAdd L x).1 ∧ CatS w.heap.size w3 (.pointer (some ⟨g, 0, none⟩)) (catAdd L x).1 ∧ catOf [] 0 l = catOf (catAdd L x).1 (k + 1) (l.drop (k + 1))) := Lib.hid ⟨HX3.out, HOK.out, HCT.out, by rw [HCF.out, if_pos rfl]⟩
        clear he HCF HOK HCT HAD
        generalize (catAdd L x).1 = L2 at *
        go_wp2
        go_roundw
        case rel => exact ⟨k + 1, L2, HLT.out, by simp, HI2⟩
        case measure => simp [intOf]; omega
      · have HC3 : Hid (catOf [] 0 l = ([], k, (catAdd L x).2)) := Lib.hid (by rw [HCF.out, if_neg he])
        have en : ((((catAdd L x).2 : Nat) : Int) != 0) = true := by simp; omega
        have HE := Lib.hid he
        clear HCF HOK HCT HAD he
        generalize (catAdd L x).2 = E at *
        go_wp2
        refine bodyPost_ret (results_three rfl _ _) rfl ?_
        exact ⟨HX3.out, .inr ⟨by rw [HC3.out]; exact HE.out, by rw [HC3.out]; rfl⟩⟩
    · obtain rfl : k = n := by omega
      have HCE : Hid (catOf [] 0 l = (L, k, 0)) := Lib.hid (by rw [HI.out.2.2.2, ← HN.out, List.drop_length]; rfl)
      have HLL : Hid (L.length = k) := Lib.hid (by
        have := (catOf_perm l [] 0 (by rw [HCE.out])).1.length_eq
        rw [HCE.out] at this
        simpa [HN.out] using this)
      have HLN := Lib.hid (len_any w.heap.size wr (.pointer (some ⟨g, 0, none⟩)) L HI.out.2.2.1)
      rw [HLL.out] at HLN
      go_wp2_with fail
      refine HLN.out.mono ?_
      rintro e w4 ⟨rfl, hx4⟩
      have HX4 := Lib.hid hx4
      clear hx4
      go_wp2
      refine bodyPost_ret (results_three rfl _ _) rfl ?_
      exact ⟨HI.out.1.trans HX4.out, .inl ⟨by rw [HCE.out], _, by rw [HN.out]; rfl, by rw [HCE.out]; exact HI.out.2.2.1.ext HX4.out⟩⟩
end Go.Proofs.Ytegclfpmgilnpaa
