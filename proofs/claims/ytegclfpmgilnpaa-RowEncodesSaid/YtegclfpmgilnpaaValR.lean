/-
  Put: the document's, a complex number by its parts.
-/
import Derived.Test.YtegclfpmgilnpaaValQ
namespace Go.Proofs.Ytegclfpmgilnpaa
open Go.RowKit Go.Lac

set_option maxRecDepth 20000 in
set_option maxHeartbeats 3200000 in
theorem refPut_t4b00 (k : Nat) (n : Int) (re im : Nat) (t : List UInt8) (ver : Nat) (w : World) (hok : (⟨k, n, re, im, t⟩ : Val).ok) (he : vErr ⟨k, n, re, im, t⟩ = 0) (hv : ver = 1 ∨ ver = 2) (hk : k = 4) (hv1 : ver = 2) (r0 : re = 0) (i0 : im = 0) :
    Calls Try.prog 97 #[rv ⟨k, n, re, im, t⟩, .int .u8 (ver : Nat)] w (PutPost [] ver ⟨k, n, re, im, t⟩ w) := by
  obtain ⟨i, hi1, hz, hs, hb⟩ := info_parts infoU8
  have HI1 := Lib.hid hi1; have HZ := Lib.hid hz; have HSZ := Lib.hid hs; have HB := Lib.hid hb
  obtain ⟨z1, z2, z3, z4, z5, z6, z7, z8, z9⟩ := vErr_zero he
  obtain ⟨o1, o2, o3, o4, o5⟩ := hok
  have HRI := Lib.hid (rright_any ⟨k, n, re, im, t⟩)
  rw [he] at HRI
  have hpe : putE ver ⟨k, n, re, im, t⟩ = 0 := by unfold putE; rw [if_neg (by omega)]; exact he
  obtain ⟨BS, hBS⟩ : ∃ BS, BS = vBytes ver ⟨k, n, re, im, t⟩ := ⟨_, rfl⟩
  obtain ⟨PO, hPO⟩ : ∃ PO, PO = PutPost [] ver ⟨k, n, re, im, t⟩ w := ⟨_, rfl⟩
  have HPO : Hid (∀ s w', Ext w w' → Rd w' s BS → PO (.returned (.tuple #[s, .int .i64 0])) w') := Lib.hid fun s w' h1 h2 => by
    rw [hPO]
    refine ⟨s, by rw [hpe]; rfl, h1, ?_⟩
    rw [if_pos hpe, ← hBS]
    exact h2
  rw [← hPO]
  unfold vBytes at hBS
  unfold rv rvals strV at *
  simp only at *
  have HTX := Lib.hid (fun w => refText_any t w (by omega))
  generalize (⟨t.toArray⟩ : ByteArray) = A at *
  have hw1 := heap_alloc_new w (.cells #[.int .u8 (k : Nat), .int .i64 n, .int .u64 (re : Nat), .int .u64 (im : Nat), .string A] 122)
  have hx1 : Ext w (w.alloc (.cells #[.int .u8 (k : Nat), .int .i64 n, .int .u64 (re : Nat), .int .u64 (im : Nat), .string A] 122)) := (Ch.refl _ _).alloc _
  have HX1 := Lib.hid hx1; have HW1 := Lib.hid hw1
  have H2 := Lib.hid o2; have H3 := Lib.hid o3; have H4 := Lib.hid o4; have H5 := Lib.hid o5; have H7 := Lib.hid z7
  clear z1 z2 z3 z4 z5 z6 z7 z8 z9 o1 o2 o3 o4 o5 he hx1 hw1 hPO hi1 hz hs hb hpe
  have HBS : Hid (BS = [0]) := Lib.hid (by rw [hBS]; simp [hk, hv1, cplx, cplxM, partB, r0, i0])
  have e1 : (((k : Nat) : Int) == 1) = false := by rw [hk]; rfl
  have e2 : (((k : Nat) : Int) == 2) = false := by rw [hk]; rfl
  have e3 : (((k : Nat) : Int) == 3) = false := by rw [hk]; rfl
  have e4 : (((k : Nat) : Int) == 4) = true := by rw [hk]; rfl
  have f1 : (((re : Nat) : Int) != 0) = false := by simp; omega
  have f2 : (((im : Nat) : Int) != 0) = false := by simp; omega
  have HF1 : Hid (∀ w, Calls Try.prog 120 #[.int .u64 (re : Nat), .int .u8 2] w (Made 5 (flt 2 re) w)) := Lib.hid (fun w => refFloat_any re 2 w H4.out)
  have HF2 : Hid (∀ w, Calls Try.prog 120 #[.int .u64 (im : Nat), .int .u8 2] w (Made 5 (flt 2 im) w)) := Lib.hid (fun w => refFloat_any im 2 w H5.out)
  have o1 := add8_02; have o2 := add8_12
  clear hBS hk hv r0 i0
  subst hv1
  go_enter Try.func97, Try.ntmps97
  go_wp2_with (first
    | (refine wpList_load_row rfl _ _ rfl w.heap.size rfl _ _ _ _ HW1.out Try.underlying122 rfl info54 ?_)
    | (go_at_call 104; refine (HRI.out _).mono ?_))
  rintro e w2 ⟨rfl, h2⟩
  have HX2 := Lib.hid (HX1.out.trans h2)
  have hg2 := (h2.block w.heap.size (Array.getElem?_eq_some_iff.1 HW1.out).1 (fun f => f)).trans HW1.out
  have HG2 := Lib.hid hg2
  have HSG : Hid (w.heap.size < w2.heap.size) := Lib.hid (Array.getElem?_eq_some_iff.1 hg2).1
  have c0 : w2.cell? ⟨w.heap.size, 0, none⟩ = some (.int .u8 (k : Nat)) := by rw [cell_of_row _ _ _ _ _ _ hg2]; rfl
  have c1 : w2.cell? ⟨w.heap.size, 1, none⟩ = some (.int .i64 n) := by rw [cell_of_row _ _ _ _ _ _ hg2]; rfl
  have c2 : w2.cell? ⟨w.heap.size, 2, none⟩ = some (.int .u64 (re : Nat)) := by rw [cell_of_row _ _ _ _ _ _ hg2]; rfl
  have c3 : w2.cell? ⟨w.heap.size, 3, none⟩ = some (.int .u64 (im : Nat)) := by rw [cell_of_row _ _ _ _ _ _ hg2]; rfl
  have c4 : w2.cell? ⟨w.heap.size, 4, none⟩ = some (.string A) := by rw [cell_of_row _ _ _ _ _ _ hg2]; rfl
  clear h2 hg2
  obtain ⟨W0, hW0⟩ : ∃ W0, W0 = w2.alloc (.cells #[.int .u8 0] 5) := ⟨_, rfl⟩
  have HW0 := Lib.hid hW0
  have HX0 : Hid (Ext w W0) := Lib.hid (by rw [hW0]; exact HX2.out.alloc _)
  have HO0 : Hid (W0.ownsRow w2.heap.size 5 1 (.slice (some ⟨w2.heap.size, 0, none⟩) 1 1) 1 [.int .u8 0]) := Lib.hid (by
    rw [hW0]
    exact ⟨rfl, .inr ⟨w2.heap.size, 1, _, rfl, Nat.le_refl _, heap_alloc_new w2 _, Nat.le_refl _, by unfold maxLen; omega, rfl, rfl⟩⟩)
  have HG0 : Hid (W0.heap[w.heap.size]? = _) := Lib.hid ((by rw [hW0]; exact heap_alloc_old _ _ HSG.out : W0.heap[w.heap.size]? = w2.heap[w.heap.size]?).trans HG2.out)
  have d2 : W0.cell? ⟨w.heap.size, 2, none⟩ = some (.int .u64 (re : Nat)) := by rw [cell_of_row _ _ _ _ _ _ HG0.out]; rfl
  have d3 : W0.cell? ⟨w.heap.size, 3, none⟩ = some (.int .u64 (im : Nat)) := by rw [cell_of_row _ _ _ _ _ _ HG0.out]; rfl
  have HGE : Hid (w.heap.size ≤ w2.heap.size) := Lib.hid (by have := HSG.out; omega)
  clear hW0 c1 c2 c3 c4
  have hrd := Rd.ofOwns (bs := [0]) HO0.out
  have HRD := Lib.hid hrd
  clear hrd
  go_wp2_with (rw [← HW0.out])
  refine HPO.out _ _ HX0.out ?_
  rw [HBS.out]
  exact HRD.out

set_option maxRecDepth 20000 in
set_option maxHeartbeats 3200000 in
theorem refPut_t4b10 (k : Nat) (n : Int) (re im : Nat) (t : List UInt8) (ver : Nat) (w : World) (hok : (⟨k, n, re, im, t⟩ : Val).ok) (he : vErr ⟨k, n, re, im, t⟩ = 0) (hv : ver = 1 ∨ ver = 2) (hk : k = 4) (hv1 : ver = 2) (r0 : re ≠ 0) (i0 : im = 0) :
    Calls Try.prog 97 #[rv ⟨k, n, re, im, t⟩, .int .u8 (ver : Nat)] w (PutPost [] ver ⟨k, n, re, im, t⟩ w) := by
  obtain ⟨i, hi1, hz, hs, hb⟩ := info_parts infoU8
  have HI1 := Lib.hid hi1; have HZ := Lib.hid hz; have HSZ := Lib.hid hs; have HB := Lib.hid hb
  obtain ⟨z1, z2, z3, z4, z5, z6, z7, z8, z9⟩ := vErr_zero he
  obtain ⟨o1, o2, o3, o4, o5⟩ := hok
  have HRI := Lib.hid (rright_any ⟨k, n, re, im, t⟩)
  rw [he] at HRI
  have hpe : putE ver ⟨k, n, re, im, t⟩ = 0 := by unfold putE; rw [if_neg (by omega)]; exact he
  obtain ⟨BS, hBS⟩ : ∃ BS, BS = vBytes ver ⟨k, n, re, im, t⟩ := ⟨_, rfl⟩
  obtain ⟨PO, hPO⟩ : ∃ PO, PO = PutPost [] ver ⟨k, n, re, im, t⟩ w := ⟨_, rfl⟩
  have HPO : Hid (∀ s w', Ext w w' → Rd w' s BS → PO (.returned (.tuple #[s, .int .i64 0])) w') := Lib.hid fun s w' h1 h2 => by
    rw [hPO]
    refine ⟨s, by rw [hpe]; rfl, h1, ?_⟩
    rw [if_pos hpe, ← hBS]
    exact h2
  rw [← hPO]
  unfold vBytes at hBS
  unfold rv rvals strV at *
  simp only at *
  have HTX := Lib.hid (fun w => refText_any t w (by omega))
  generalize (⟨t.toArray⟩ : ByteArray) = A at *
  have hw1 := heap_alloc_new w (.cells #[.int .u8 (k : Nat), .int .i64 n, .int .u64 (re : Nat), .int .u64 (im : Nat), .string A] 122)
  have hx1 : Ext w (w.alloc (.cells #[.int .u8 (k : Nat), .int .i64 n, .int .u64 (re : Nat), .int .u64 (im : Nat), .string A] 122)) := (Ch.refl _ _).alloc _
  have HX1 := Lib.hid hx1; have HW1 := Lib.hid hw1
  have H2 := Lib.hid o2; have H3 := Lib.hid o3; have H4 := Lib.hid o4; have H5 := Lib.hid o5; have H7 := Lib.hid z7
  clear z1 z2 z3 z4 z5 z6 z7 z8 z9 o1 o2 o3 o4 o5 he hx1 hw1 hPO hi1 hz hs hb hpe
  have HBS : Hid (BS = 1 :: flt 2 re) := Lib.hid (by rw [hBS]; simp [hk, hv1, cplx, cplxM, partB, r0, i0])
  have e1 : (((k : Nat) : Int) == 1) = false := by rw [hk]; rfl
  have e2 : (((k : Nat) : Int) == 2) = false := by rw [hk]; rfl
  have e3 : (((k : Nat) : Int) == 3) = false := by rw [hk]; rfl
  have e4 : (((k : Nat) : Int) == 4) = true := by rw [hk]; rfl
  have f1 : (((re : Nat) : Int) != 0) = true := by simp; omega
  have f2 : (((im : Nat) : Int) != 0) = false := by simp; omega
  have HF1 : Hid (∀ w, Calls Try.prog 120 #[.int .u64 (re : Nat), .int .u8 2] w (Made 5 (flt 2 re) w)) := Lib.hid (fun w => refFloat_any re 2 w H4.out)
  have HF2 : Hid (∀ w, Calls Try.prog 120 #[.int .u64 (im : Nat), .int .u8 2] w (Made 5 (flt 2 im) w)) := Lib.hid (fun w => refFloat_any im 2 w H5.out)
  have o1 := add8_02; have o2 := add8_12
  clear hBS hk hv r0 i0
  subst hv1
  go_enter Try.func97, Try.ntmps97
  go_wp2_with (first
    | (refine wpList_load_row rfl _ _ rfl w.heap.size rfl _ _ _ _ HW1.out Try.underlying122 rfl info54 ?_)
    | (go_at_call 104; refine (HRI.out _).mono ?_))
  rintro e w2 ⟨rfl, h2⟩
  have HX2 := Lib.hid (HX1.out.trans h2)
  have hg2 := (h2.block w.heap.size (Array.getElem?_eq_some_iff.1 HW1.out).1 (fun f => f)).trans HW1.out
  have HG2 := Lib.hid hg2
  have HSG : Hid (w.heap.size < w2.heap.size) := Lib.hid (Array.getElem?_eq_some_iff.1 hg2).1
  have c0 : w2.cell? ⟨w.heap.size, 0, none⟩ = some (.int .u8 (k : Nat)) := by rw [cell_of_row _ _ _ _ _ _ hg2]; rfl
  have c1 : w2.cell? ⟨w.heap.size, 1, none⟩ = some (.int .i64 n) := by rw [cell_of_row _ _ _ _ _ _ hg2]; rfl
  have c2 : w2.cell? ⟨w.heap.size, 2, none⟩ = some (.int .u64 (re : Nat)) := by rw [cell_of_row _ _ _ _ _ _ hg2]; rfl
  have c3 : w2.cell? ⟨w.heap.size, 3, none⟩ = some (.int .u64 (im : Nat)) := by rw [cell_of_row _ _ _ _ _ _ hg2]; rfl
  have c4 : w2.cell? ⟨w.heap.size, 4, none⟩ = some (.string A) := by rw [cell_of_row _ _ _ _ _ _ hg2]; rfl
  clear h2 hg2
  obtain ⟨W0, hW0⟩ : ∃ W0, W0 = w2.alloc (.cells #[.int .u8 0] 5) := ⟨_, rfl⟩
  have HW0 := Lib.hid hW0
  have HX0 : Hid (Ext w W0) := Lib.hid (by rw [hW0]; exact HX2.out.alloc _)
  have HO0 : Hid (W0.ownsRow w2.heap.size 5 1 (.slice (some ⟨w2.heap.size, 0, none⟩) 1 1) 1 [.int .u8 0]) := Lib.hid (by
    rw [hW0]
    exact ⟨rfl, .inr ⟨w2.heap.size, 1, _, rfl, Nat.le_refl _, heap_alloc_new w2 _, Nat.le_refl _, by unfold maxLen; omega, rfl, rfl⟩⟩)
  have HG0 : Hid (W0.heap[w.heap.size]? = _) := Lib.hid ((by rw [hW0]; exact heap_alloc_old _ _ HSG.out : W0.heap[w.heap.size]? = w2.heap[w.heap.size]?).trans HG2.out)
  have d2 : W0.cell? ⟨w.heap.size, 2, none⟩ = some (.int .u64 (re : Nat)) := by rw [cell_of_row _ _ _ _ _ _ HG0.out]; rfl
  have d3 : W0.cell? ⟨w.heap.size, 3, none⟩ = some (.int .u64 (im : Nat)) := by rw [cell_of_row _ _ _ _ _ _ HG0.out]; rfl
  have HGE : Hid (w.heap.size ≤ w2.heap.size) := Lib.hid (by have := HSG.out; omega)
  clear hW0 c1 c2 c3 c4
  obtain ⟨⟨_, hx1, hc1⟩, hf1, hw1⟩ := own_set HO0.out 0 (by decide) (.int .u8 1)
  simp only [List.getElem?_cons_zero, Option.some.injEq] at hx1
  subst hx1
  have HW5 := Lib.hid hw1
  have HG5 : Hid ((W0.setCell ⟨w2.heap.size, 0, none⟩ (.int .u8 1)).heap[w.heap.size]? = _) := Lib.hid ((heap_setCell_other W0 ⟨w2.heap.size, 0, none⟩ w.heap.size (.int .u8 1) (by have := HSG.out; simp; omega)).trans HG0.out)
  have HX5 : Hid (Ext w (W0.setCell ⟨w2.heap.size, 0, none⟩ (.int .u8 1))) := Lib.hid (HX0.out.setCell (.inr HGE.out) _)
  have d5 : (W0.setCell ⟨w2.heap.size, 0, none⟩ (.int .u8 1)).cell? ⟨w.heap.size, 2, none⟩ = some (.int .u64 (re : Nat)) := by rw [cell_of_row _ _ _ _ _ _ HG5.out]; rfl
  clear hw1
  go_wp2_with (first
    | (rw [← HW0.out])
    | (go_at_call 120; refine (HF1.out _).mono ?_))
  intro e w6 hm
  obtain ⟨s2, rfl, h3, h4⟩ := hm.rd
  obtain ⟨a2, c2, rfl⟩ := h4.shape
  have HX6 := Lib.hid (HX5.out.trans h3)
  have HO6 : Hid (w6.ownsRow w2.heap.size 5 1 (.slice (some ⟨w2.heap.size, 0, none⟩) 1 1) 1 (cellsB [1])) := Lib.hid (HW5.out.ext h3)
  have HR6 := Lib.hid h4
  have HG6 := Lib.hid ((h3.block w.heap.size (Array.getElem?_eq_some_iff.1 HG5.out).1 (fun f => f)).trans HG5.out)
  have HS6 : Hid (w2.heap.size ≤ w6.heap.size) := Lib.hid (by have h1 := h3.size; have h2 := (Array.getElem?_eq_some_iff.1 HO0.out.heap_lt).1; simp [World.setCell] at h1; omega)
  clear hm h3 h4 hc1 hf1 d2 d5
  go_wp2_with (at_builtin; refine wpList_append_sl _ rfl _ _ 76 rfl w2.heap.size 5 i (.int .u8 0) 1 1 Try.underlying76 HI1.out HZ.out HSZ.out HB.out rfl (by decide) _ _ _ rfl HO6.out _ _ _ rfl HR6.out (by rw [cellsB_length, Nat.mul_one]) (cellsB_one _) (by have := flt_len re H4.out; omega) (by have := flt_len re H4.out; unfold maxLen; omega) HS6.out ?_)
  intro v3 w7 hown hgrow
  have hx7 : Ext w w7 := HX6.out.grown hgrow (fun kk hk => .inr (by have := (HO6.out.lt kk hk).1; have := HGE.out; omega))
  have hg7 := (hgrow.block w.heap.size (Array.getElem?_eq_some_iff.1 HG6.out).1 (fun h => by have := (HO6.out.lt _ h.symm).1; have := HSG.out; omega)).trans HG6.out
  obtain ⟨g3, c3, rfl, hg3⟩ := own_some hown (by omega)
  have HX3 := Lib.hid hx7
  have HO3 : Hid (w7.ownsRow w2.heap.size 5 1 (.slice (some ⟨g3, 0, none⟩) (1 + (flt 2 re).length) c3) (1 + (flt 2 re).length) (cellsB (1 :: flt 2 re))) := Lib.hid hown
  have HG3 := Lib.hid hg3
  have HG7 := Lib.hid hg7
  have d3' : w7.cell? ⟨w.heap.size, 3, none⟩ = some (.int .u64 (im : Nat)) := by rw [cell_of_row _ _ _ _ _ _ HG7.out]; rfl
  clear hown hgrow hx7 hg3 hg7 d3
  have hrd := Rd.ofOwns HO3.out
  have HR3 := Lib.hid hrd
  clear hrd
  go_wp2
  refine HPO.out _ _ HX3.out ?_
  rw [HBS.out]
  exact HR3.out

set_option maxRecDepth 20000 in
set_option maxHeartbeats 3200000 in
theorem refPut_t4b01 (k : Nat) (n : Int) (re im : Nat) (t : List UInt8) (ver : Nat) (w : World) (hok : (⟨k, n, re, im, t⟩ : Val).ok) (he : vErr ⟨k, n, re, im, t⟩ = 0) (hv : ver = 1 ∨ ver = 2) (hk : k = 4) (hv1 : ver = 2) (r0 : re = 0) (i0 : im ≠ 0) :
    Calls Try.prog 97 #[rv ⟨k, n, re, im, t⟩, .int .u8 (ver : Nat)] w (PutPost [] ver ⟨k, n, re, im, t⟩ w) := by
  obtain ⟨i, hi1, hz, hs, hb⟩ := info_parts infoU8
  have HI1 := Lib.hid hi1; have HZ := Lib.hid hz; have HSZ := Lib.hid hs; have HB := Lib.hid hb
  obtain ⟨z1, z2, z3, z4, z5, z6, z7, z8, z9⟩ := vErr_zero he
  obtain ⟨o1, o2, o3, o4, o5⟩ := hok
  have HRI := Lib.hid (rright_any ⟨k, n, re, im, t⟩)
  rw [he] at HRI
  have hpe : putE ver ⟨k, n, re, im, t⟩ = 0 := by unfold putE; rw [if_neg (by omega)]; exact he
  obtain ⟨BS, hBS⟩ : ∃ BS, BS = vBytes ver ⟨k, n, re, im, t⟩ := ⟨_, rfl⟩
  obtain ⟨PO, hPO⟩ : ∃ PO, PO = PutPost [] ver ⟨k, n, re, im, t⟩ w := ⟨_, rfl⟩
  have HPO : Hid (∀ s w', Ext w w' → Rd w' s BS → PO (.returned (.tuple #[s, .int .i64 0])) w') := Lib.hid fun s w' h1 h2 => by
    rw [hPO]
    refine ⟨s, by rw [hpe]; rfl, h1, ?_⟩
    rw [if_pos hpe, ← hBS]
    exact h2
  rw [← hPO]
  unfold vBytes at hBS
  unfold rv rvals strV at *
  simp only at *
  have HTX := Lib.hid (fun w => refText_any t w (by omega))
  generalize (⟨t.toArray⟩ : ByteArray) = A at *
  have hw1 := heap_alloc_new w (.cells #[.int .u8 (k : Nat), .int .i64 n, .int .u64 (re : Nat), .int .u64 (im : Nat), .string A] 122)
  have hx1 : Ext w (w.alloc (.cells #[.int .u8 (k : Nat), .int .i64 n, .int .u64 (re : Nat), .int .u64 (im : Nat), .string A] 122)) := (Ch.refl _ _).alloc _
  have HX1 := Lib.hid hx1; have HW1 := Lib.hid hw1
  have H2 := Lib.hid o2; have H3 := Lib.hid o3; have H4 := Lib.hid o4; have H5 := Lib.hid o5; have H7 := Lib.hid z7
  clear z1 z2 z3 z4 z5 z6 z7 z8 z9 o1 o2 o3 o4 o5 he hx1 hw1 hPO hi1 hz hs hb hpe
  have HBS : Hid (BS = 2 :: flt 2 im) := Lib.hid (by rw [hBS]; simp [hk, hv1, cplx, cplxM, partB, r0, i0])
  have e1 : (((k : Nat) : Int) == 1) = false := by rw [hk]; rfl
  have e2 : (((k : Nat) : Int) == 2) = false := by rw [hk]; rfl
  have e3 : (((k : Nat) : Int) == 3) = false := by rw [hk]; rfl
  have e4 : (((k : Nat) : Int) == 4) = true := by rw [hk]; rfl
  have f1 : (((re : Nat) : Int) != 0) = false := by simp; omega
  have f2 : (((im : Nat) : Int) != 0) = true := by simp; omega
  have HF1 : Hid (∀ w, Calls Try.prog 120 #[.int .u64 (re : Nat), .int .u8 2] w (Made 5 (flt 2 re) w)) := Lib.hid (fun w => refFloat_any re 2 w H4.out)
  have HF2 : Hid (∀ w, Calls Try.prog 120 #[.int .u64 (im : Nat), .int .u8 2] w (Made 5 (flt 2 im) w)) := Lib.hid (fun w => refFloat_any im 2 w H5.out)
  have o1 := add8_02; have o2 := add8_12
  clear hBS hk hv r0 i0
  subst hv1
  go_enter Try.func97, Try.ntmps97
  go_wp2_with (first
    | (refine wpList_load_row rfl _ _ rfl w.heap.size rfl _ _ _ _ HW1.out Try.underlying122 rfl info54 ?_)
    | (go_at_call 104; refine (HRI.out _).mono ?_))
  rintro e w2 ⟨rfl, h2⟩
  have HX2 := Lib.hid (HX1.out.trans h2)
  have hg2 := (h2.block w.heap.size (Array.getElem?_eq_some_iff.1 HW1.out).1 (fun f => f)).trans HW1.out
  have HG2 := Lib.hid hg2
  have HSG : Hid (w.heap.size < w2.heap.size) := Lib.hid (Array.getElem?_eq_some_iff.1 hg2).1
  have c0 : w2.cell? ⟨w.heap.size, 0, none⟩ = some (.int .u8 (k : Nat)) := by rw [cell_of_row _ _ _ _ _ _ hg2]; rfl
  have c1 : w2.cell? ⟨w.heap.size, 1, none⟩ = some (.int .i64 n) := by rw [cell_of_row _ _ _ _ _ _ hg2]; rfl
  have c2 : w2.cell? ⟨w.heap.size, 2, none⟩ = some (.int .u64 (re : Nat)) := by rw [cell_of_row _ _ _ _ _ _ hg2]; rfl
  have c3 : w2.cell? ⟨w.heap.size, 3, none⟩ = some (.int .u64 (im : Nat)) := by rw [cell_of_row _ _ _ _ _ _ hg2]; rfl
  have c4 : w2.cell? ⟨w.heap.size, 4, none⟩ = some (.string A) := by rw [cell_of_row _ _ _ _ _ _ hg2]; rfl
  clear h2 hg2
  obtain ⟨W0, hW0⟩ : ∃ W0, W0 = w2.alloc (.cells #[.int .u8 0] 5) := ⟨_, rfl⟩
  have HW0 := Lib.hid hW0
  have HX0 : Hid (Ext w W0) := Lib.hid (by rw [hW0]; exact HX2.out.alloc _)
  have HO0 : Hid (W0.ownsRow w2.heap.size 5 1 (.slice (some ⟨w2.heap.size, 0, none⟩) 1 1) 1 [.int .u8 0]) := Lib.hid (by
    rw [hW0]
    exact ⟨rfl, .inr ⟨w2.heap.size, 1, _, rfl, Nat.le_refl _, heap_alloc_new w2 _, Nat.le_refl _, by unfold maxLen; omega, rfl, rfl⟩⟩)
  have HG0 : Hid (W0.heap[w.heap.size]? = _) := Lib.hid ((by rw [hW0]; exact heap_alloc_old _ _ HSG.out : W0.heap[w.heap.size]? = w2.heap[w.heap.size]?).trans HG2.out)
  have d2 : W0.cell? ⟨w.heap.size, 2, none⟩ = some (.int .u64 (re : Nat)) := by rw [cell_of_row _ _ _ _ _ _ HG0.out]; rfl
  have d3 : W0.cell? ⟨w.heap.size, 3, none⟩ = some (.int .u64 (im : Nat)) := by rw [cell_of_row _ _ _ _ _ _ HG0.out]; rfl
  have HGE : Hid (w.heap.size ≤ w2.heap.size) := Lib.hid (by have := HSG.out; omega)
  clear hW0 c1 c2 c3 c4
  obtain ⟨⟨_, hx1, hc1⟩, hf1, hw1⟩ := own_set HO0.out 0 (by decide) (.int .u8 2)
  simp only [List.getElem?_cons_zero, Option.some.injEq] at hx1
  subst hx1
  have HW5 := Lib.hid hw1
  have HG5 : Hid ((W0.setCell ⟨w2.heap.size, 0, none⟩ (.int .u8 2)).heap[w.heap.size]? = _) := Lib.hid ((heap_setCell_other W0 ⟨w2.heap.size, 0, none⟩ w.heap.size (.int .u8 2) (by have := HSG.out; simp; omega)).trans HG0.out)
  have HX5 : Hid (Ext w (W0.setCell ⟨w2.heap.size, 0, none⟩ (.int .u8 2))) := Lib.hid (HX0.out.setCell (.inr HGE.out) _)
  have d5 : (W0.setCell ⟨w2.heap.size, 0, none⟩ (.int .u8 2)).cell? ⟨w.heap.size, 3, none⟩ = some (.int .u64 (im : Nat)) := by rw [cell_of_row _ _ _ _ _ _ HG5.out]; rfl
  clear hw1
  go_wp2_with (first
    | (rw [← HW0.out])
    | (go_at_call 120; refine (HF2.out _).mono ?_))
  intro e w6 hm
  obtain ⟨s2, rfl, h3, h4⟩ := hm.rd
  obtain ⟨a2, c2, rfl⟩ := h4.shape
  have HX6 := Lib.hid (HX5.out.trans h3)
  have HO6 : Hid (w6.ownsRow w2.heap.size 5 1 (.slice (some ⟨w2.heap.size, 0, none⟩) 1 1) 1 (cellsB [2])) := Lib.hid (HW5.out.ext h3)
  have HR6 := Lib.hid h4
  have HG6 := Lib.hid ((h3.block w.heap.size (Array.getElem?_eq_some_iff.1 HG5.out).1 (fun f => f)).trans HG5.out)
  have HS6 : Hid (w2.heap.size ≤ w6.heap.size) := Lib.hid (by have h1 := h3.size; have h2 := (Array.getElem?_eq_some_iff.1 HO0.out.heap_lt).1; simp [World.setCell] at h1; omega)
  clear hm h3 h4 hc1 hf1 d2 d5
  go_wp2_with (at_builtin; refine wpList_append_sl _ rfl _ _ 76 rfl w2.heap.size 5 i (.int .u8 0) 1 1 Try.underlying76 HI1.out HZ.out HSZ.out HB.out rfl (by decide) _ _ _ rfl HO6.out _ _ _ rfl HR6.out (by rw [cellsB_length, Nat.mul_one]) (cellsB_one _) (by have := flt_len im H5.out; omega) (by have := flt_len im H5.out; unfold maxLen; omega) HS6.out ?_)
  intro v3 w7 hown hgrow
  have hx7 : Ext w w7 := HX6.out.grown hgrow (fun kk hk => .inr (by have := (HO6.out.lt kk hk).1; have := HGE.out; omega))
  have hg7 := (hgrow.block w.heap.size (Array.getElem?_eq_some_iff.1 HG6.out).1 (fun h => by have := (HO6.out.lt _ h.symm).1; have := HSG.out; omega)).trans HG6.out
  obtain ⟨g3, c3, rfl, hg3⟩ := own_some hown (by omega)
  have HX3 := Lib.hid hx7
  have HO3 : Hid (w7.ownsRow w2.heap.size 5 1 (.slice (some ⟨g3, 0, none⟩) (1 + (flt 2 im).length) c3) (1 + (flt 2 im).length) (cellsB (2 :: flt 2 im))) := Lib.hid hown
  have HG3 := Lib.hid hg3
  have HG7 := Lib.hid hg7
  have d3' : w7.cell? ⟨w.heap.size, 3, none⟩ = some (.int .u64 (im : Nat)) := by rw [cell_of_row _ _ _ _ _ _ HG7.out]; rfl
  clear hown hgrow hx7 hg3 hg7 d3
  have hrd := Rd.ofOwns HO3.out
  have HR3 := Lib.hid hrd
  clear hrd
  go_wp2
  refine HPO.out _ _ HX3.out ?_
  rw [HBS.out]
  exact HR3.out

set_option maxRecDepth 20000 in
set_option maxHeartbeats 3200000 in
theorem refPut_t4b11 (k : Nat) (n : Int) (re im : Nat) (t : List UInt8) (ver : Nat) (w : World) (hok : (⟨k, n, re, im, t⟩ : Val).ok) (he : vErr ⟨k, n, re, im, t⟩ = 0) (hv : ver = 1 ∨ ver = 2) (hk : k = 4) (hv1 : ver = 2) (r0 : re ≠ 0) (i0 : im ≠ 0) :
    Calls Try.prog 97 #[rv ⟨k, n, re, im, t⟩, .int .u8 (ver : Nat)] w (PutPost [] ver ⟨k, n, re, im, t⟩ w) := by
  obtain ⟨i, hi1, hz, hs, hb⟩ := info_parts infoU8
  have HI1 := Lib.hid hi1; have HZ := Lib.hid hz; have HSZ := Lib.hid hs; have HB := Lib.hid hb
  obtain ⟨z1, z2, z3, z4, z5, z6, z7, z8, z9⟩ := vErr_zero he
  obtain ⟨o1, o2, o3, o4, o5⟩ := hok
  have HRI := Lib.hid (rright_any ⟨k, n, re, im, t⟩)
  rw [he] at HRI
  have hpe : putE ver ⟨k, n, re, im, t⟩ = 0 := by unfold putE; rw [if_neg (by omega)]; exact he
  obtain ⟨BS, hBS⟩ : ∃ BS, BS = vBytes ver ⟨k, n, re, im, t⟩ := ⟨_, rfl⟩
  obtain ⟨PO, hPO⟩ : ∃ PO, PO = PutPost [] ver ⟨k, n, re, im, t⟩ w := ⟨_, rfl⟩
  have HPO : Hid (∀ s w', Ext w w' → Rd w' s BS → PO (.returned (.tuple #[s, .int .i64 0])) w') := Lib.hid fun s w' h1 h2 => by
    rw [hPO]
    refine ⟨s, by rw [hpe]; rfl, h1, ?_⟩
    rw [if_pos hpe, ← hBS]
    exact h2
  rw [← hPO]
  unfold vBytes at hBS
  unfold rv rvals strV at *
  simp only at *
  have HTX := Lib.hid (fun w => refText_any t w (by omega))
  generalize (⟨t.toArray⟩ : ByteArray) = A at *
  have hw1 := heap_alloc_new w (.cells #[.int .u8 (k : Nat), .int .i64 n, .int .u64 (re : Nat), .int .u64 (im : Nat), .string A] 122)
  have hx1 : Ext w (w.alloc (.cells #[.int .u8 (k : Nat), .int .i64 n, .int .u64 (re : Nat), .int .u64 (im : Nat), .string A] 122)) := (Ch.refl _ _).alloc _
  have HX1 := Lib.hid hx1; have HW1 := Lib.hid hw1
  have H2 := Lib.hid o2; have H3 := Lib.hid o3; have H4 := Lib.hid o4; have H5 := Lib.hid o5; have H7 := Lib.hid z7
  clear z1 z2 z3 z4 z5 z6 z7 z8 z9 o1 o2 o3 o4 o5 he hx1 hw1 hPO hi1 hz hs hb hpe
  have HBS : Hid (BS = 3 :: (flt 2 re ++ flt 2 im)) := Lib.hid (by rw [hBS]; simp [hk, hv1, cplx, cplxM, partB, r0, i0])
  have e1 : (((k : Nat) : Int) == 1) = false := by rw [hk]; rfl
  have e2 : (((k : Nat) : Int) == 2) = false := by rw [hk]; rfl
  have e3 : (((k : Nat) : Int) == 3) = false := by rw [hk]; rfl
  have e4 : (((k : Nat) : Int) == 4) = true := by rw [hk]; rfl
  have f1 : (((re : Nat) : Int) != 0) = true := by simp; omega
  have f2 : (((im : Nat) : Int) != 0) = true := by simp; omega
  have HF1 : Hid (∀ w, Calls Try.prog 120 #[.int .u64 (re : Nat), .int .u8 2] w (Made 5 (flt 2 re) w)) := Lib.hid (fun w => refFloat_any re 2 w H4.out)
  have HF2 : Hid (∀ w, Calls Try.prog 120 #[.int .u64 (im : Nat), .int .u8 2] w (Made 5 (flt 2 im) w)) := Lib.hid (fun w => refFloat_any im 2 w H5.out)
  have o1 := add8_02; have o2 := add8_12
  clear hBS hk hv r0 i0
  subst hv1
  go_enter Try.func97, Try.ntmps97
  go_wp2_with (first
    | (refine wpList_load_row rfl _ _ rfl w.heap.size rfl _ _ _ _ HW1.out Try.underlying122 rfl info54 ?_)
    | (go_at_call 104; refine (HRI.out _).mono ?_))
  rintro e w2 ⟨rfl, h2⟩
  have HX2 := Lib.hid (HX1.out.trans h2)
  have hg2 := (h2.block w.heap.size (Array.getElem?_eq_some_iff.1 HW1.out).1 (fun f => f)).trans HW1.out
  have HG2 := Lib.hid hg2
  have HSG : Hid (w.heap.size < w2.heap.size) := Lib.hid (Array.getElem?_eq_some_iff.1 hg2).1
  have c0 : w2.cell? ⟨w.heap.size, 0, none⟩ = some (.int .u8 (k : Nat)) := by rw [cell_of_row _ _ _ _ _ _ hg2]; rfl
  have c1 : w2.cell? ⟨w.heap.size, 1, none⟩ = some (.int .i64 n) := by rw [cell_of_row _ _ _ _ _ _ hg2]; rfl
  have c2 : w2.cell? ⟨w.heap.size, 2, none⟩ = some (.int .u64 (re : Nat)) := by rw [cell_of_row _ _ _ _ _ _ hg2]; rfl
  have c3 : w2.cell? ⟨w.heap.size, 3, none⟩ = some (.int .u64 (im : Nat)) := by rw [cell_of_row _ _ _ _ _ _ hg2]; rfl
  have c4 : w2.cell? ⟨w.heap.size, 4, none⟩ = some (.string A) := by rw [cell_of_row _ _ _ _ _ _ hg2]; rfl
  clear h2 hg2
  obtain ⟨W0, hW0⟩ : ∃ W0, W0 = w2.alloc (.cells #[.int .u8 0] 5) := ⟨_, rfl⟩
  have HW0 := Lib.hid hW0
  have HX0 : Hid (Ext w W0) := Lib.hid (by rw [hW0]; exact HX2.out.alloc _)
  have HO0 : Hid (W0.ownsRow w2.heap.size 5 1 (.slice (some ⟨w2.heap.size, 0, none⟩) 1 1) 1 [.int .u8 0]) := Lib.hid (by
    rw [hW0]
    exact ⟨rfl, .inr ⟨w2.heap.size, 1, _, rfl, Nat.le_refl _, heap_alloc_new w2 _, Nat.le_refl _, by unfold maxLen; omega, rfl, rfl⟩⟩)
  have HG0 : Hid (W0.heap[w.heap.size]? = _) := Lib.hid ((by rw [hW0]; exact heap_alloc_old _ _ HSG.out : W0.heap[w.heap.size]? = w2.heap[w.heap.size]?).trans HG2.out)
  have d2 : W0.cell? ⟨w.heap.size, 2, none⟩ = some (.int .u64 (re : Nat)) := by rw [cell_of_row _ _ _ _ _ _ HG0.out]; rfl
  have d3 : W0.cell? ⟨w.heap.size, 3, none⟩ = some (.int .u64 (im : Nat)) := by rw [cell_of_row _ _ _ _ _ _ HG0.out]; rfl
  have HGE : Hid (w.heap.size ≤ w2.heap.size) := Lib.hid (by have := HSG.out; omega)
  clear hW0 c1 c2 c3 c4
  obtain ⟨⟨_, hx1, hc1⟩, hf1, hw1⟩ := own_set HO0.out 0 (by decide) (.int .u8 1)
  simp only [List.getElem?_cons_zero, Option.some.injEq] at hx1
  subst hx1
  have HW5 := Lib.hid hw1
  have HG5 : Hid ((W0.setCell ⟨w2.heap.size, 0, none⟩ (.int .u8 1)).heap[w.heap.size]? = _) := Lib.hid ((heap_setCell_other W0 ⟨w2.heap.size, 0, none⟩ w.heap.size (.int .u8 1) (by have := HSG.out; simp; omega)).trans HG0.out)
  have HX5 : Hid (Ext w (W0.setCell ⟨w2.heap.size, 0, none⟩ (.int .u8 1))) := Lib.hid (HX0.out.setCell (.inr HGE.out) _)
  have d5 : (W0.setCell ⟨w2.heap.size, 0, none⟩ (.int .u8 1)).cell? ⟨w.heap.size, 2, none⟩ = some (.int .u64 (re : Nat)) := by rw [cell_of_row _ _ _ _ _ _ HG5.out]; rfl
  clear hw1
  go_wp2_with (first
    | (rw [← HW0.out])
    | (go_at_call 120; refine (HF1.out _).mono ?_))
  intro e w6 hm
  obtain ⟨s2, rfl, h3, h4⟩ := hm.rd
  obtain ⟨a2, c2, rfl⟩ := h4.shape
  have HX6 := Lib.hid (HX5.out.trans h3)
  have HO6 : Hid (w6.ownsRow w2.heap.size 5 1 (.slice (some ⟨w2.heap.size, 0, none⟩) 1 1) 1 (cellsB [1])) := Lib.hid (HW5.out.ext h3)
  have HR6 := Lib.hid h4
  have HG6 := Lib.hid ((h3.block w.heap.size (Array.getElem?_eq_some_iff.1 HG5.out).1 (fun f => f)).trans HG5.out)
  have HS6 : Hid (w2.heap.size ≤ w6.heap.size) := Lib.hid (by have h1 := h3.size; have h2 := (Array.getElem?_eq_some_iff.1 HO0.out.heap_lt).1; simp [World.setCell] at h1; omega)
  clear hm h3 h4 hc1 hf1 d2 d5
  go_wp2_with (at_builtin; refine wpList_append_sl _ rfl _ _ 76 rfl w2.heap.size 5 i (.int .u8 0) 1 1 Try.underlying76 HI1.out HZ.out HSZ.out HB.out rfl (by decide) _ _ _ rfl HO6.out _ _ _ rfl HR6.out (by rw [cellsB_length, Nat.mul_one]) (cellsB_one _) (by have := flt_len re H4.out; omega) (by have := flt_len re H4.out; unfold maxLen; omega) HS6.out ?_)
  intro v3 w7 hown hgrow
  have hx7 : Ext w w7 := HX6.out.grown hgrow (fun kk hk => .inr (by have := (HO6.out.lt kk hk).1; have := HGE.out; omega))
  have hg7 := (hgrow.block w.heap.size (Array.getElem?_eq_some_iff.1 HG6.out).1 (fun h => by have := (HO6.out.lt _ h.symm).1; have := HSG.out; omega)).trans HG6.out
  obtain ⟨g3, c3, rfl, hg3⟩ := own_some hown (by omega)
  have HX3 := Lib.hid hx7
  have HO3 : Hid (w7.ownsRow w2.heap.size 5 1 (.slice (some ⟨g3, 0, none⟩) (1 + (flt 2 re).length) c3) (1 + (flt 2 re).length) (cellsB (1 :: flt 2 re))) := Lib.hid hown
  have HG3 := Lib.hid hg3
  have HG7 := Lib.hid hg7
  have d3' : w7.cell? ⟨w.heap.size, 3, none⟩ = some (.int .u64 (im : Nat)) := by rw [cell_of_row _ _ _ _ _ _ HG7.out]; rfl
  clear hown hgrow hx7 hg3 hg7 d3
  obtain ⟨⟨_, hx4, hc4⟩, hf4, hw4⟩ := own_set HO3.out 0 (by omega) (.int .u8 3)
  have hx4' : (cellsB (1 :: flt 2 re))[0]? = some (.int .u8 1) := rfl
  rw [hx4'] at hx4
  simp only [Option.some.injEq] at hx4
  subst hx4
  have HW8 : Hid ((w7.setCell ⟨g3, 0, none⟩ (.int .u8 3)).ownsRow w2.heap.size 5 1 (.slice (some ⟨g3, 0, none⟩) (1 + (flt 2 re).length) c3) (1 + (flt 2 re).length) (cellsB (3 :: flt 2 re))) := Lib.hid hw4
  have HX8 : Hid (Ext w (w7.setCell ⟨g3, 0, none⟩ (.int .u8 3))) := Lib.hid (HX3.out.setCell (.inr (by have := HG3.out; have := HGE.out; simp; omega)) _)
  have HG8 : Hid ((w7.setCell ⟨g3, 0, none⟩ (.int .u8 3)).heap[w.heap.size]? = _) := Lib.hid ((heap_setCell_other w7 ⟨g3, 0, none⟩ w.heap.size (.int .u8 3) (by have := HSG.out; have := HG3.out; simp; omega)).trans HG7.out)
  have d8 : (w7.setCell ⟨g3, 0, none⟩ (.int .u8 3)).cell? ⟨w.heap.size, 3, none⟩ = some (.int .u64 (im : Nat)) := by rw [cell_of_row _ _ _ _ _ _ HG8.out]; rfl
  have HL := Lib.hid (flt_len re H4.out)
  have HS7 : Hid (w2.heap.size ≤ w7.heap.size) := Lib.hid (by have := HG3.out; have h2 := (Array.getElem?_eq_some_iff.1 HO3.out.heap_lt).1; omega)
  clear hw4 hx4'
  obtain ⟨fr, hfr⟩ : ∃ fr, fr = flt 2 re := ⟨_, rfl⟩
  rw [← hfr] at HW8 HL HBS HO3 ⊢
  clear hfr
  generalize hm : fr.length = m at *
  have hm1 : (0 : Int) < 1 + (m : Int) := by omega
  have HM := Lib.hid hm
  clear hm
  go_wp2_with (go_at_call 120; refine (HF2.out _).mono ?_)
  intro e w9 hm
  obtain ⟨s5, rfl, h3, h4⟩ := hm.rd
  obtain ⟨a5, c5, rfl⟩ := h4.shape
  have HX9 := Lib.hid (HX8.out.trans h3)
  have HO9 := Lib.hid (HW8.out.ext h3)
  have HR9 := Lib.hid h4
  have HS9 : Hid (w2.heap.size ≤ w9.heap.size) := Lib.hid (by have h1 := h3.size; have h2 := HS7.out; simp [World.setCell] at h1; omega)
  clear hm h3 h4 hc4 hf4 d8 d3'
  go_wp2_with (at_builtin; refine wpList_append_sl _ rfl _ _ 76 rfl w2.heap.size 5 i (.int .u8 0) 1 1 Try.underlying76 HI1.out HZ.out HSZ.out HB.out rfl (by decide) _ _ _ rfl HO9.out _ _ _ rfl HR9.out (by rw [cellsB_length, Nat.mul_one]) (cellsB_one _) (by have := flt_len im H5.out; have := HL.out; omega) (by have := flt_len im H5.out; have := HL.out; unfold maxLen; omega) HS9.out ?_)
  intro v6 w10 hown hgrow
  have hx10 : Ext w w10 := HX9.out.grown hgrow (fun kk hk => .inr (by have := (HO9.out.lt kk hk).1; have := HGE.out; omega))
  obtain ⟨g6, c6, rfl, hg6⟩ := own_some hown (by omega)
  have hrd : Rd w10 (.slice (some ⟨g6, 0, none⟩) (1 + m + (flt 2 im).length) c6) (3 :: (fr ++ flt 2 im)) := by
    have e : (3 :: (fr ++ flt 2 im)).length = 1 + m + (flt 2 im).length := by simp [HM.out]; omega
    unfold Rd
    rw [e]
    have := Sl.ofOwns hown
    rw [← cellsB_append] at this
    exact this
  clear HX3
  have HX3 := Lib.hid hx10
  have HR3 := Lib.hid hrd
  clear hown hgrow hx10 hg6 hrd
  go_wp2
  refine HPO.out _ _ HX3.out ?_
  rw [HBS.out]
  exact HR3.out

end Go.Proofs.Ytegclfpmgilnpaa
