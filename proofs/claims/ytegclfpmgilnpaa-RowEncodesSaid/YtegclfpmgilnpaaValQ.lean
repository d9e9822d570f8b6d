/-
  Put: the document's.
-/
import Derived.Test.YtegclfpmgilnpaaValP
import Derived.Test.YtegclfpmgilnpaaValN
import Derived.Test.YtegclfpmgilnpaaValF
namespace Go.Proofs.Ytegclfpmgilnpaa
open Go.RowKit Go.Lac

theorem add8_02 : IntKind.u8.wrap (0 + 2) = 2 := by decide
theorem add8_12 : IntKind.u8.wrap (1 + 2) = 3 := by decide

def rputT (B g re im : Nat) : Tmp → Kn
  | 49 => .is (.pointer (some ⟨g, 2, none⟩))
  | 50 => .is (.int .u64 (re : Nat))
  | 51 => .own B 5 8 (cellsB (leN 8 re))
  | 52 => .is (.pointer (some ⟨g, 3, none⟩))
  | 53 => .is (.int .u64 (im : Nat))
  | 54 => .rd (leN 8 im)
  | _ => .any
def rputT' (B re im : Nat) : Tmp → Kn
  | 55 => .own B 5 16 (cellsB (leN 8 re ++ leN 8 im))
  | 4 => .own B 5 16 (cellsB (leN 8 re ++ leN 8 im))
  | 5 => .is (.int .i64 0)
  | _ => .any

theorem ownsRow_base {w : World} {base base' n : Nat} {e : TypeId} {v : Value} {xs : List Value} (h : w.ownsRow base e 1 v n xs) (hb : base' ≤ base) : w.ownsRow base' e 1 v n xs := by
  refine ⟨h.1, ?_⟩
  rcases h.2 with h1 | ⟨g, cap, cur, h1, h2, h3⟩
  · exact .inl h1
  · exact .inr ⟨g, cap, cur, h1, by omega, h3⟩
theorem _root_.Go.World.ownsRow.heap_lt {w : World} {base g n cap : Nat} {e : TypeId} {xs : List Value} (h : w.ownsRow base e 1 (.slice (some ⟨g, 0, none⟩) n cap) n xs) : w.heap[g]? = some (w.heap[g]?.getD (.cells #[] e)) := by
  rcases h.2 with ⟨h1, _⟩ | ⟨g', cap', cur, h1, h2, h3, _⟩
  · cases h1
  · cases h1
    rw [h3]
    rfl
theorem field54_2' (w : World) (b : Nat) : (Instr.fieldAt 122 (.pointer (some ⟨b, 0, none⟩)) 2).run Try.prog w = .ok (.pointer (some ⟨b, 2, none⟩)) w := by kernel_rfl

set_option maxRecDepth 20000 in
set_option maxHeartbeats 3200000 in
theorem refPut_t1 (k : Nat) (n : Int) (re im : Nat) (t : List UInt8) (ver : Nat) (w : World) (hok : (⟨k, n, re, im, t⟩ : Val).ok) (he : vErr ⟨k, n, re, im, t⟩ = 0) (hv : ver = 1 ∨ ver = 2) (hk : k = 1) :
    Calls Try.prog 97 #[rv ⟨k, n, re, im, t⟩, .int .u8 (ver : Nat)] w (PutPost [] ver ⟨k, n, re, im, t⟩ w) := by
  obtain ⟨i, hi1, hz, hs, hb⟩ := info_parts infoU8
  have HI1 := Lib.hid hi1; have HZ := Lib.hid hz; have HSZ := Lib.hid hs; have HB := Lib.hid hb
  obtain ⟨z1, z2, z3, z4, z5, z6, z7, z8, z9⟩ := vErr_zero he
  obtain ⟨o1, o2, o3, o4, o5⟩ := hok
  have HRI := Lib.hid (rright_any ⟨k, n, re, im, t⟩)
  rw [he] at HRI
  have hpe : putE ver ⟨k, n, re, im, t⟩ = 0 := by unfold putE; rw [if_neg (by omega)]; exact he
  obtain ⟨BS, hBS⟩ : ∃ BS, BS = vBytes ver ⟨k, n, re, im, t⟩ := ⟨_, rfl⟩
  obtain ⟨PO, hPO⟩ : ∃ PO, PO = PutPost [] ver ⟨k, n, re, im, t⟩ w := ⟨_, rfl⟩
  have HPO : Hid (∀ s w', Ext w w' → Rd w' s BS → PO (.returned (.tuple #[s, .int .i64 0])) w') := Lib.hid fun s w' h1 h2 => by
    rw [hPO]
    refine ⟨s, by rw [hpe]; rfl, h1, ?_⟩
    rw [if_pos hpe, ← hBS]
    exact h2
  rw [← hPO]
  unfold vBytes at hBS
  unfold rv rvals strV at *
  simp only at *
  have HTX := Lib.hid (fun w => refText_any t w (by omega))
  generalize (⟨t.toArray⟩ : ByteArray) = A at *
  have hw1 := heap_alloc_new w (.cells #[.int .u8 (k : Nat), .int .i64 n, .int .u64 (re : Nat), .int .u64 (im : Nat), .string A] 122)
  have hx1 : Ext w (w.alloc (.cells #[.int .u8 (k : Nat), .int .i64 n, .int .u64 (re : Nat), .int .u64 (im : Nat), .string A] 122)) := (Ch.refl _ _).alloc _
  have HX1 := Lib.hid hx1; have HW1 := Lib.hid hw1
  have H2 := Lib.hid o2; have H3 := Lib.hid o3; have H4 := Lib.hid o4; have H5 := Lib.hid o5; have H7 := Lib.hid z7
  clear z1 z2 z3 z4 z5 z6 z7 z8 z9 o1 o2 o3 o4 o5 he hx1 hw1 hPO hi1 hz hs hb hpe
  have HBS : Hid (BS = [UInt8.ofNat n.toNat]) := Lib.hid (by rw [hBS]; simp [hk])
  have e1 : (((k : Nat) : Int) == 1) = true := by rw [hk]; rfl
  have hn : n = 0 ∨ n = 1 := H7.out hk
  have hw : IntKind.u8.wrap n = ((UInt8.ofNat n.toNat).toNat : Nat) := by rcases hn with rfl | rfl <;> rfl
  generalize UInt8.ofNat n.toNat = bb at *
  have hwm : n % 256 = (bb.toNat : Nat) := by rw [← hw, IntKind.wrap_u8]
  clear hBS hk hn
  rcases hv with rfl | rfl
  · go_enter Try.func97, Try.ntmps97
    go_wp2_with (first
      | (refine wpList_load_row rfl _ _ rfl w.heap.size rfl _ _ _ _ HW1.out Try.underlying122 rfl info54 ?_)
      | (go_at_call 104; refine (HRI.out _).mono ?_))
    rintro e w2 ⟨rfl, h2⟩
    have HX2 := Lib.hid (HX1.out.trans h2)
    have hg2 := (h2.block w.heap.size (Array.getElem?_eq_some_iff.1 HW1.out).1 (fun f => f)).trans HW1.out
    have HG2 := Lib.hid hg2
    have HSG : Hid (w.heap.size < w2.heap.size) := Lib.hid (Array.getElem?_eq_some_iff.1 hg2).1
    have c0 : w2.cell? ⟨w.heap.size, 0, none⟩ = some (.int .u8 (k : Nat)) := by rw [cell_of_row _ _ _ _ _ _ hg2]; rfl
    have c1 : w2.cell? ⟨w.heap.size, 1, none⟩ = some (.int .i64 n) := by rw [cell_of_row _ _ _ _ _ _ hg2]; rfl
    have c2 : w2.cell? ⟨w.heap.size, 2, none⟩ = some (.int .u64 (re : Nat)) := by rw [cell_of_row _ _ _ _ _ _ hg2]; rfl
    have c3 : w2.cell? ⟨w.heap.size, 3, none⟩ = some (.int .u64 (im : Nat)) := by rw [cell_of_row _ _ _ _ _ _ hg2]; rfl
    have c4 : w2.cell? ⟨w.heap.size, 4, none⟩ = some (.string A) := by rw [cell_of_row _ _ _ _ _ _ hg2]; rfl
    clear h2 hg2
    have hrd := rd_new w2 [bb] 5 (by unfold maxLen; simp)
    have HRD : Hid (Rd (w2.alloc (.cells #[.int .u8 (bb.toNat : Nat)] 5)) (.slice (some ⟨w2.heap.size, 0, none⟩) 1 1) [bb]) := Lib.hid hrd
    have HX3 : Hid (Ext w (w2.alloc (.cells #[.int .u8 (bb.toNat : Nat)] 5))) := Lib.hid (HX2.out.alloc _)
    clear hrd
    go_wp2
    refine HPO.out _ _ HX3.out ?_
    rw [HBS.out]
    exact HRD.out
  · go_enter Try.func97, Try.ntmps97
    go_wp2_with (first
      | (refine wpList_load_row rfl _ _ rfl w.heap.size rfl _ _ _ _ HW1.out Try.underlying122 rfl info54 ?_)
      | (go_at_call 104; refine (HRI.out _).mono ?_))
    rintro e w2 ⟨rfl, h2⟩
    have HX2 := Lib.hid (HX1.out.trans h2)
    have hg2 := (h2.block w.heap.size (Array.getElem?_eq_some_iff.1 HW1.out).1 (fun f => f)).trans HW1.out
    have HG2 := Lib.hid hg2
    have HSG : Hid (w.heap.size < w2.heap.size) := Lib.hid (Array.getElem?_eq_some_iff.1 hg2).1
    have c0 : w2.cell? ⟨w.heap.size, 0, none⟩ = some (.int .u8 (k : Nat)) := by rw [cell_of_row _ _ _ _ _ _ hg2]; rfl
    have c1 : w2.cell? ⟨w.heap.size, 1, none⟩ = some (.int .i64 n) := by rw [cell_of_row _ _ _ _ _ _ hg2]; rfl
    have c2 : w2.cell? ⟨w.heap.size, 2, none⟩ = some (.int .u64 (re : Nat)) := by rw [cell_of_row _ _ _ _ _ _ hg2]; rfl
    have c3 : w2.cell? ⟨w.heap.size, 3, none⟩ = some (.int .u64 (im : Nat)) := by rw [cell_of_row _ _ _ _ _ _ hg2]; rfl
    have c4 : w2.cell? ⟨w.heap.size, 4, none⟩ = some (.string A) := by rw [cell_of_row _ _ _ _ _ _ hg2]; rfl
    clear h2 hg2
    have hrd := rd_new w2 [bb] 5 (by unfold maxLen; simp)
    have HRD : Hid (Rd (w2.alloc (.cells #[.int .u8 (bb.toNat : Nat)] 5)) (.slice (some ⟨w2.heap.size, 0, none⟩) 1 1) [bb]) := Lib.hid hrd
    have HX3 : Hid (Ext w (w2.alloc (.cells #[.int .u8 (bb.toNat : Nat)] 5))) := Lib.hid (HX2.out.alloc _)
    clear hrd
    go_wp2
    refine HPO.out _ _ HX3.out ?_
    rw [HBS.out]
    exact HRD.out

set_option maxRecDepth 20000 in
set_option maxHeartbeats 3200000 in
theorem refPut_t2a (k : Nat) (n : Int) (re im : Nat) (t : List UInt8) (ver : Nat) (w : World) (hok : (⟨k, n, re, im, t⟩ : Val).ok) (he : vErr ⟨k, n, re, im, t⟩ = 0) (hv : ver = 1 ∨ ver = 2) (hk : k = 2) (hv1 : ver = 1) :
    Calls Try.prog 97 #[rv ⟨k, n, re, im, t⟩, .int .u8 (ver : Nat)] w (PutPost [] ver ⟨k, n, re, im, t⟩ w) := by
  obtain ⟨i, hi1, hz, hs, hb⟩ := info_parts infoU8
  have HI1 := Lib.hid hi1; have HZ := Lib.hid hz; have HSZ := Lib.hid hs; have HB := Lib.hid hb
  obtain ⟨z1, z2, z3, z4, z5, z6, z7, z8, z9⟩ := vErr_zero he
  obtain ⟨o1, o2, o3, o4, o5⟩ := hok
  have HRI := Lib.hid (rright_any ⟨k, n, re, im, t⟩)
  rw [he] at HRI
  have hpe : putE ver ⟨k, n, re, im, t⟩ = 0 := by unfold putE; rw [if_neg (by omega)]; exact he
  obtain ⟨BS, hBS⟩ : ∃ BS, BS = vBytes ver ⟨k, n, re, im, t⟩ := ⟨_, rfl⟩
  obtain ⟨PO, hPO⟩ : ∃ PO, PO = PutPost [] ver ⟨k, n, re, im, t⟩ w := ⟨_, rfl⟩
  have HPO : Hid (∀ s w', Ext w w' → Rd w' s BS → PO (.returned (.tuple #[s, .int .i64 0])) w') := Lib.hid fun s w' h1 h2 => by
    rw [hPO]
    refine ⟨s, by rw [hpe]; rfl, h1, ?_⟩
    rw [if_pos hpe, ← hBS]
    exact h2
  rw [← hPO]
  unfold vBytes at hBS
  unfold rv rvals strV at *
  simp only at *
  have HTX := Lib.hid (fun w => refText_any t w (by omega))
  generalize (⟨t.toArray⟩ : ByteArray) = A at *
  have hw1 := heap_alloc_new w (.cells #[.int .u8 (k : Nat), .int .i64 n, .int .u64 (re : Nat), .int .u64 (im : Nat), .string A] 122)
  have hx1 : Ext w (w.alloc (.cells #[.int .u8 (k : Nat), .int .i64 n, .int .u64 (re : Nat), .int .u64 (im : Nat), .string A] 122)) := (Ch.refl _ _).alloc _
  have HX1 := Lib.hid hx1; have HW1 := Lib.hid hw1
  have H2 := Lib.hid o2; have H3 := Lib.hid o3; have H4 := Lib.hid o4; have H5 := Lib.hid o5; have H7 := Lib.hid z7
  clear z1 z2 z3 z4 z5 z6 z7 z8 z9 o1 o2 o3 o4 o5 he hx1 hw1 hPO hi1 hz hs hb hpe
  have HBS : Hid (BS = leN 8 (i64u n)) := Lib.hid (by rw [hBS]; simp [hk, hv1])
  have e1 : (((k : Nat) : Int) == 1) = false := by rw [hk]; rfl
  have e2 : (((k : Nat) : Int) == 2) = true := by rw [hk]; rfl
  have hw : IntKind.u64.wrap n = ((i64u n : Nat) : Int) := by rw [IntKind.wrap_u64]; unfold i64u; have := H2.out; have := H3.out; omega
  have HU := Lib.hid (i64u_lt n)
  generalize i64u n = u at *
  clear hBS hk hv
  subst hv1
  go_enter Try.func97, Try.ntmps97
  go_wp2_with (first
    | (refine wpList_load_row rfl _ _ rfl w.heap.size rfl _ _ _ _ HW1.out Try.underlying122 rfl info54 ?_)
    | (go_at_call 104; refine (HRI.out _).mono ?_))
  rintro e w2 ⟨rfl, h2⟩
  have HX2 := Lib.hid (HX1.out.trans h2)
  have hg2 := (h2.block w.heap.size (Array.getElem?_eq_some_iff.1 HW1.out).1 (fun f => f)).trans HW1.out
  have HG2 := Lib.hid hg2
  have HSG : Hid (w.heap.size < w2.heap.size) := Lib.hid (Array.getElem?_eq_some_iff.1 hg2).1
  have c0 : w2.cell? ⟨w.heap.size, 0, none⟩ = some (.int .u8 (k : Nat)) := by rw [cell_of_row _ _ _ _ _ _ hg2]; rfl
  have c1 : w2.cell? ⟨w.heap.size, 1, none⟩ = some (.int .i64 n) := by rw [cell_of_row _ _ _ _ _ _ hg2]; rfl
  have c2 : w2.cell? ⟨w.heap.size, 2, none⟩ = some (.int .u64 (re : Nat)) := by rw [cell_of_row _ _ _ _ _ _ hg2]; rfl
  have c3 : w2.cell? ⟨w.heap.size, 3, none⟩ = some (.int .u64 (im : Nat)) := by rw [cell_of_row _ _ _ _ _ _ hg2]; rfl
  have c4 : w2.cell? ⟨w.heap.size, 4, none⟩ = some (.string A) := by rw [cell_of_row _ _ _ _ _ _ hg2]; rfl
  clear h2 hg2
  go_wp2_with (go_at_call 118; refine (refWord_any u _ HU.out).mono ?_)
  intro e w3 hm
  obtain ⟨s3, rfl, h3, h4⟩ := hm.rd
  have HX3 := Lib.hid (HX2.out.trans h3); have HR3 := Lib.hid h4
  obtain ⟨a3, c3', rfl⟩ := h4.shape
  clear h3 h4 hm c0 c1 c2 c3 c4
  go_wp2
  refine HPO.out _ _ HX3.out ?_
  rw [HBS.out]
  exact HR3.out

set_option maxRecDepth 20000 in
set_option maxHeartbeats 3200000 in
theorem refPut_t2b (k : Nat) (n : Int) (re im : Nat) (t : List UInt8) (ver : Nat) (w : World) (hok : (⟨k, n, re, im, t⟩ : Val).ok) (he : vErr ⟨k, n, re, im, t⟩ = 0) (hv : ver = 1 ∨ ver = 2) (hk : k = 2) (hv1 : ver = 2) :
    Calls Try.prog 97 #[rv ⟨k, n, re, im, t⟩, .int .u8 (ver : Nat)] w (PutPost [] ver ⟨k, n, re, im, t⟩ w) := by
  obtain ⟨i, hi1, hz, hs, hb⟩ := info_parts infoU8
  have HI1 := Lib.hid hi1; have HZ := Lib.hid hz; have HSZ := Lib.hid hs; have HB := Lib.hid hb
  obtain ⟨z1, z2, z3, z4, z5, z6, z7, z8, z9⟩ := vErr_zero he
  obtain ⟨o1, o2, o3, o4, o5⟩ := hok
  have HRI := Lib.hid (rright_any ⟨k, n, re, im, t⟩)
  rw [he] at HRI
  have hpe : putE ver ⟨k, n, re, im, t⟩ = 0 := by unfold putE; rw [if_neg (by omega)]; exact he
  obtain ⟨BS, hBS⟩ : ∃ BS, BS = vBytes ver ⟨k, n, re, im, t⟩ := ⟨_, rfl⟩
  obtain ⟨PO, hPO⟩ : ∃ PO, PO = PutPost [] ver ⟨k, n, re, im, t⟩ w := ⟨_, rfl⟩
  have HPO : Hid (∀ s w', Ext w w' → Rd w' s BS → PO (.returned (.tuple #[s, .int .i64 0])) w') := Lib.hid fun s w' h1 h2 => by
    rw [hPO]
    refine ⟨s, by rw [hpe]; rfl, h1, ?_⟩
    rw [if_pos hpe, ← hBS]
    exact h2
  rw [← hPO]
  unfold vBytes at hBS
  unfold rv rvals strV at *
  simp only at *
  have HTX := Lib.hid (fun w => refText_any t w (by omega))
  generalize (⟨t.toArray⟩ : ByteArray) = A at *
  have hw1 := heap_alloc_new w (.cells #[.int .u8 (k : Nat), .int .i64 n, .int .u64 (re : Nat), .int .u64 (im : Nat), .string A] 122)
  have hx1 : Ext w (w.alloc (.cells #[.int .u8 (k : Nat), .int .i64 n, .int .u64 (re : Nat), .int .u64 (im : Nat), .string A] 122)) := (Ch.refl _ _).alloc _
  have HX1 := Lib.hid hx1; have HW1 := Lib.hid hw1
  have H2 := Lib.hid o2; have H3 := Lib.hid o3; have H4 := Lib.hid o4; have H5 := Lib.hid o5; have H7 := Lib.hid z7
  clear z1 z2 z3 z4 z5 z6 z7 z8 z9 o1 o2 o3 o4 o5 he hx1 hw1 hPO hi1 hz hs hb hpe
  have HBS : Hid (BS = sev (Lib.zigzag n)) := Lib.hid (by rw [hBS]; simp [hk, hv1])
  have e1 : (((k : Nat) : Int) == 1) = false := by rw [hk]; rfl
  have e2 : (((k : Nat) : Int) == 2) = true := by rw [hk]; rfl
  have HZG := Lib.hid (fun w => zig_any n w H2.out H3.out)
  have HU := Lib.hid (zig_lt n H2.out H3.out)
  generalize Lib.zigzag n = u at *
  clear hBS hk hv
  subst hv1
  go_enter Try.func97, Try.ntmps97
  go_wp2_with (first
    | (refine wpList_load_row rfl _ _ rfl w.heap.size rfl _ _ _ _ HW1.out Try.underlying122 rfl info54 ?_)
    | (go_at_call 104; refine (HRI.out _).mono ?_))
  rintro e w2 ⟨rfl, h2⟩
  have HX2 := Lib.hid (HX1.out.trans h2)
  have hg2 := (h2.block w.heap.size (Array.getElem?_eq_some_iff.1 HW1.out).1 (fun f => f)).trans HW1.out
  have HG2 := Lib.hid hg2
  have HSG : Hid (w.heap.size < w2.heap.size) := Lib.hid (Array.getElem?_eq_some_iff.1 hg2).1
  have c0 : w2.cell? ⟨w.heap.size, 0, none⟩ = some (.int .u8 (k : Nat)) := by rw [cell_of_row _ _ _ _ _ _ hg2]; rfl
  have c1 : w2.cell? ⟨w.heap.size, 1, none⟩ = some (.int .i64 n) := by rw [cell_of_row _ _ _ _ _ _ hg2]; rfl
  have c2 : w2.cell? ⟨w.heap.size, 2, none⟩ = some (.int .u64 (re : Nat)) := by rw [cell_of_row _ _ _ _ _ _ hg2]; rfl
  have c3 : w2.cell? ⟨w.heap.size, 3, none⟩ = some (.int .u64 (im : Nat)) := by rw [cell_of_row _ _ _ _ _ _ hg2]; rfl
  have c4 : w2.cell? ⟨w.heap.size, 4, none⟩ = some (.string A) := by rw [cell_of_row _ _ _ _ _ _ hg2]; rfl
  clear h2 hg2
  go_wp2_with (first
    | (go_at_call 119; refine (HZG.out _).mono ?_; rintro e w' ⟨rfl, rfl⟩)
    | (go_at_call 95; refine (refUint_any u _ HU.out).mono ?_))
  intro e w3 hm
  obtain ⟨s3, rfl, h3, h4⟩ := hm.rd
  have HX3 := Lib.hid (HX2.out.trans h3); have HR3 := Lib.hid h4
  obtain ⟨a3, c3', rfl⟩ := h4.shape
  clear h3 h4 hm c0 c1 c2 c3 c4
  go_wp2
  refine HPO.out _ _ HX3.out ?_
  rw [HBS.out]
  exact HR3.out

set_option maxRecDepth 20000 in
set_option maxHeartbeats 3200000 in
theorem refPut_t3 (k : Nat) (n : Int) (re im : Nat) (t : List UInt8) (ver : Nat) (w : World) (hok : (⟨k, n, re, im, t⟩ : Val).ok) (he : vErr ⟨k, n, re, im, t⟩ = 0) (hv : ver = 1 ∨ ver = 2) (hk : k = 3) :
    Calls Try.prog 97 #[rv ⟨k, n, re, im, t⟩, .int .u8 (ver : Nat)] w (PutPost [] ver ⟨k, n, re, im, t⟩ w) := by
  obtain ⟨i, hi1, hz, hs, hb⟩ := info_parts infoU8
  have HI1 := Lib.hid hi1; have HZ := Lib.hid hz; have HSZ := Lib.hid hs; have HB := Lib.hid hb
  obtain ⟨z1, z2, z3, z4, z5, z6, z7, z8, z9⟩ := vErr_zero he
  obtain ⟨o1, o2, o3, o4, o5⟩ := hok
  have HRI := Lib.hid (rright_any ⟨k, n, re, im, t⟩)
  rw [he] at HRI
  have hpe : putE ver ⟨k, n, re, im, t⟩ = 0 := by unfold putE; rw [if_neg (by omega)]; exact he
  obtain ⟨BS, hBS⟩ : ∃ BS, BS = vBytes ver ⟨k, n, re, im, t⟩ := ⟨_, rfl⟩
  obtain ⟨PO, hPO⟩ : ∃ PO, PO = PutPost [] ver ⟨k, n, re, im, t⟩ w := ⟨_, rfl⟩
  have HPO : Hid (∀ s w', Ext w w' → Rd w' s BS → PO (.returned (.tuple #[s, .int .i64 0])) w') := Lib.hid fun s w' h1 h2 => by
    rw [hPO]
    refine ⟨s, by rw [hpe]; rfl, h1, ?_⟩
    rw [if_pos hpe, ← hBS]
    exact h2
  rw [← hPO]
  unfold vBytes at hBS
  unfold rv rvals strV at *
  simp only at *
  have HTX := Lib.hid (fun w => refText_any t w (by omega))
  generalize (⟨t.toArray⟩ : ByteArray) = A at *
  have hw1 := heap_alloc_new w (.cells #[.int .u8 (k : Nat), .int .i64 n, .int .u64 (re : Nat), .int .u64 (im : Nat), .string A] 122)
  have hx1 : Ext w (w.alloc (.cells #[.int .u8 (k : Nat), .int .i64 n, .int .u64 (re : Nat), .int .u64 (im : Nat), .string A] 122)) := (Ch.refl _ _).alloc _
  have HX1 := Lib.hid hx1; have HW1 := Lib.hid hw1
  have H2 := Lib.hid o2; have H3 := Lib.hid o3; have H4 := Lib.hid o4; have H5 := Lib.hid o5; have H7 := Lib.hid z7
  clear z1 z2 z3 z4 z5 z6 z7 z8 z9 o1 o2 o3 o4 o5 he hx1 hw1 hPO hi1 hz hs hb hpe
  have HBS : Hid (BS = flt ver re) := Lib.hid (by rw [hBS]; simp [hk])
  have e1 : (((k : Nat) : Int) == 1) = false := by rw [hk]; rfl
  have e2 : (((k : Nat) : Int) == 2) = false := by rw [hk]; rfl
  have e3 : (((k : Nat) : Int) == 3) = true := by rw [hk]; rfl
  have HFL := Lib.hid (fun w => refFloat_any re ver w H4.out)
  clear hBS hk
  rcases hv with rfl | rfl
  · go_enter Try.func97, Try.ntmps97
    go_wp2_with (first
      | (refine wpList_load_row rfl _ _ rfl w.heap.size rfl _ _ _ _ HW1.out Try.underlying122 rfl info54 ?_)
      | (go_at_call 104; refine (HRI.out _).mono ?_))
    rintro e w2 ⟨rfl, h2⟩
    have HX2 := Lib.hid (HX1.out.trans h2)
    have hg2 := (h2.block w.heap.size (Array.getElem?_eq_some_iff.1 HW1.out).1 (fun f => f)).trans HW1.out
    have HG2 := Lib.hid hg2
    have HSG : Hid (w.heap.size < w2.heap.size) := Lib.hid (Array.getElem?_eq_some_iff.1 hg2).1
    have c0 : w2.cell? ⟨w.heap.size, 0, none⟩ = some (.int .u8 (k : Nat)) := by rw [cell_of_row _ _ _ _ _ _ hg2]; rfl
    have c1 : w2.cell? ⟨w.heap.size, 1, none⟩ = some (.int .i64 n) := by rw [cell_of_row _ _ _ _ _ _ hg2]; rfl
    have c2 : w2.cell? ⟨w.heap.size, 2, none⟩ = some (.int .u64 (re : Nat)) := by rw [cell_of_row _ _ _ _ _ _ hg2]; rfl
    have c3 : w2.cell? ⟨w.heap.size, 3, none⟩ = some (.int .u64 (im : Nat)) := by rw [cell_of_row _ _ _ _ _ _ hg2]; rfl
    have c4 : w2.cell? ⟨w.heap.size, 4, none⟩ = some (.string A) := by rw [cell_of_row _ _ _ _ _ _ hg2]; rfl
    clear h2 hg2
    go_wp2_with (go_at_call 120; refine (HFL.out _).mono ?_)
    intro e w3 hm
    obtain ⟨s3, rfl, h3, h4⟩ := hm.rd
    have HX3 := Lib.hid (HX2.out.trans h3); have HR3 := Lib.hid h4
    obtain ⟨a3, c3', rfl⟩ := h4.shape
    clear h3 h4 hm c0 c1 c2 c3 c4
    go_wp2
    refine HPO.out _ _ HX3.out ?_
    rw [HBS.out]
    exact HR3.out
  · go_enter Try.func97, Try.ntmps97
    go_wp2_with (first
      | (refine wpList_load_row rfl _ _ rfl w.heap.size rfl _ _ _ _ HW1.out Try.underlying122 rfl info54 ?_)
      | (go_at_call 104; refine (HRI.out _).mono ?_))
    rintro e w2 ⟨rfl, h2⟩
    have HX2 := Lib.hid (HX1.out.trans h2)
    have hg2 := (h2.block w.heap.size (Array.getElem?_eq_some_iff.1 HW1.out).1 (fun f => f)).trans HW1.out
    have HG2 := Lib.hid hg2
    have HSG : Hid (w.heap.size < w2.heap.size) := Lib.hid (Array.getElem?_eq_some_iff.1 hg2).1
    have c0 : w2.cell? ⟨w.heap.size, 0, none⟩ = some (.int .u8 (k : Nat)) := by rw [cell_of_row _ _ _ _ _ _ hg2]; rfl
    have c1 : w2.cell? ⟨w.heap.size, 1, none⟩ = some (.int .i64 n) := by rw [cell_of_row _ _ _ _ _ _ hg2]; rfl
    have c2 : w2.cell? ⟨w.heap.size, 2, none⟩ = some (.int .u64 (re : Nat)) := by rw [cell_of_row _ _ _ _ _ _ hg2]; rfl
    have c3 : w2.cell? ⟨w.heap.size, 3, none⟩ = some (.int .u64 (im : Nat)) := by rw [cell_of_row _ _ _ _ _ _ hg2]; rfl
    have c4 : w2.cell? ⟨w.heap.size, 4, none⟩ = some (.string A) := by rw [cell_of_row _ _ _ _ _ _ hg2]; rfl
    clear h2 hg2
    go_wp2_with (go_at_call 120; refine (HFL.out _).mono ?_)
    intro e w3 hm
    obtain ⟨s3, rfl, h3, h4⟩ := hm.rd
    have HX3 := Lib.hid (HX2.out.trans h3); have HR3 := Lib.hid h4
    obtain ⟨a3, c3', rfl⟩ := h4.shape
    clear h3 h4 hm c0 c1 c2 c3 c4
    go_wp2
    refine HPO.out _ _ HX3.out ?_
    rw [HBS.out]
    exact HR3.out

set_option maxRecDepth 20000 in
set_option maxHeartbeats 3200000 in
theorem refPut_t56 (k : Nat) (n : Int) (re im : Nat) (t : List UInt8) (ver : Nat) (w : World) (hok : (⟨k, n, re, im, t⟩ : Val).ok) (he : vErr ⟨k, n, re, im, t⟩ = 0) (hv : ver = 1 ∨ ver = 2) (hk : k = 5 ∨ k = 6) :
    Calls Try.prog 97 #[rv ⟨k, n, re, im, t⟩, .int .u8 (ver : Nat)] w (PutPost [] ver ⟨k, n, re, im, t⟩ w) := by
  obtain ⟨i, hi1, hz, hs, hb⟩ := info_parts infoU8
  have HI1 := Lib.hid hi1; have HZ := Lib.hid hz; have HSZ := Lib.hid hs; have HB := Lib.hid hb
  obtain ⟨z1, z2, z3, z4, z5, z6, z7, z8, z9⟩ := vErr_zero he
  obtain ⟨o1, o2, o3, o4, o5⟩ := hok
  have HRI := Lib.hid (rright_any ⟨k, n, re, im, t⟩)
  rw [he] at HRI
  have hpe : putE ver ⟨k, n, re, im, t⟩ = 0 := by unfold putE; rw [if_neg (by omega)]; exact he
  obtain ⟨BS, hBS⟩ : ∃ BS, BS = vBytes ver ⟨k, n, re, im, t⟩ := ⟨_, rfl⟩
  obtain ⟨PO, hPO⟩ : ∃ PO, PO = PutPost [] ver ⟨k, n, re, im, t⟩ w := ⟨_, rfl⟩
  have HPO : Hid (∀ s w', Ext w w' → Rd w' s BS → PO (.returned (.tuple #[s, .int .i64 0])) w') := Lib.hid fun s w' h1 h2 => by
    rw [hPO]
    refine ⟨s, by rw [hpe]; rfl, h1, ?_⟩
    rw [if_pos hpe, ← hBS]
    exact h2
  rw [← hPO]
  unfold vBytes at hBS
  unfold rv rvals strV at *
  simp only at *
  have HTX := Lib.hid (fun w => refText_any t w (by omega))
  generalize (⟨t.toArray⟩ : ByteArray) = A at *
  have hw1 := heap_alloc_new w (.cells #[.int .u8 (k : Nat), .int .i64 n, .int .u64 (re : Nat), .int .u64 (im : Nat), .string A] 122)
  have hx1 : Ext w (w.alloc (.cells #[.int .u8 (k : Nat), .int .i64 n, .int .u64 (re : Nat), .int .u64 (im : Nat), .string A] 122)) := (Ch.refl _ _).alloc _
  have HX1 := Lib.hid hx1; have HW1 := Lib.hid hw1
  have H2 := Lib.hid o2; have H3 := Lib.hid o3; have H4 := Lib.hid o4; have H5 := Lib.hid o5; have H7 := Lib.hid z7
  clear z1 z2 z3 z4 z5 z6 z7 z8 z9 o1 o2 o3 o4 o5 he hx1 hw1 hPO hi1 hz hs hb hpe
  have HBS : Hid (BS = txt t) := Lib.hid (by rw [hBS]; rcases hk with rfl | rfl <;> simp)
  have e1 : (((k : Nat) : Int) == 1) = false := by rcases hk with rfl | rfl <;> rfl
  have e2 : (((k : Nat) : Int) == 2) = false := by rcases hk with rfl | rfl <;> rfl
  have e3 : (((k : Nat) : Int) == 3) = false := by rcases hk with rfl | rfl <;> rfl
  have e4 : (((k : Nat) : Int) == 4) = false := by rcases hk with rfl | rfl <;> rfl
  clear hBS hk
  rcases hv with rfl | rfl
  · go_enter Try.func97, Try.ntmps97
    go_wp2_with (first
      | (refine wpList_load_row rfl _ _ rfl w.heap.size rfl _ _ _ _ HW1.out Try.underlying122 rfl info54 ?_)
      | (go_at_call 104; refine (HRI.out _).mono ?_))
    rintro e w2 ⟨rfl, h2⟩
    have HX2 := Lib.hid (HX1.out.trans h2)
    have hg2 := (h2.block w.heap.size (Array.getElem?_eq_some_iff.1 HW1.out).1 (fun f => f)).trans HW1.out
    have HG2 := Lib.hid hg2
    have HSG : Hid (w.heap.size < w2.heap.size) := Lib.hid (Array.getElem?_eq_some_iff.1 hg2).1
    have c0 : w2.cell? ⟨w.heap.size, 0, none⟩ = some (.int .u8 (k : Nat)) := by rw [cell_of_row _ _ _ _ _ _ hg2]; rfl
    have c1 : w2.cell? ⟨w.heap.size, 1, none⟩ = some (.int .i64 n) := by rw [cell_of_row _ _ _ _ _ _ hg2]; rfl
    have c2 : w2.cell? ⟨w.heap.size, 2, none⟩ = some (.int .u64 (re : Nat)) := by rw [cell_of_row _ _ _ _ _ _ hg2]; rfl
    have c3 : w2.cell? ⟨w.heap.size, 3, none⟩ = some (.int .u64 (im : Nat)) := by rw [cell_of_row _ _ _ _ _ _ hg2]; rfl
    have c4 : w2.cell? ⟨w.heap.size, 4, none⟩ = some (.string A) := by rw [cell_of_row _ _ _ _ _ _ hg2]; rfl
    clear h2 hg2
    go_wp2_with (go_at_call 121; refine (HTX.out _).mono ?_)
    intro e w3 hm
    obtain ⟨s3, rfl, h3, h4⟩ := hm.rd
    have HX3 := Lib.hid (HX2.out.trans h3); have HR3 := Lib.hid h4
    obtain ⟨a3, c3', rfl⟩ := h4.shape
    clear h3 h4 hm c0 c1 c2 c3 c4
    go_wp2
    refine HPO.out _ _ HX3.out ?_
    rw [HBS.out]
    exact HR3.out
  · go_enter Try.func97, Try.ntmps97
    go_wp2_with (first
      | (refine wpList_load_row rfl _ _ rfl w.heap.size rfl _ _ _ _ HW1.out Try.underlying122 rfl info54 ?_)
      | (go_at_call 104; refine (HRI.out _).mono ?_))
    rintro e w2 ⟨rfl, h2⟩
    have HX2 := Lib.hid (HX1.out.trans h2)
    have hg2 := (h2.block w.heap.size (Array.getElem?_eq_some_iff.1 HW1.out).1 (fun f => f)).trans HW1.out
    have HG2 := Lib.hid hg2
    have HSG : Hid (w.heap.size < w2.heap.size) := Lib.hid (Array.getElem?_eq_some_iff.1 hg2).1
    have c0 : w2.cell? ⟨w.heap.size, 0, none⟩ = some (.int .u8 (k : Nat)) := by rw [cell_of_row _ _ _ _ _ _ hg2]; rfl
    have c1 : w2.cell? ⟨w.heap.size, 1, none⟩ = some (.int .i64 n) := by rw [cell_of_row _ _ _ _ _ _ hg2]; rfl
    have c2 : w2.cell? ⟨w.heap.size, 2, none⟩ = some (.int .u64 (re : Nat)) := by rw [cell_of_row _ _ _ _ _ _ hg2]; rfl
    have c3 : w2.cell? ⟨w.heap.size, 3, none⟩ = some (.int .u64 (im : Nat)) := by rw [cell_of_row _ _ _ _ _ _ hg2]; rfl
    have c4 : w2.cell? ⟨w.heap.size, 4, none⟩ = some (.string A) := by rw [cell_of_row _ _ _ _ _ _ hg2]; rfl
    clear h2 hg2
    go_wp2_with (go_at_call 121; refine (HTX.out _).mono ?_)
    intro e w3 hm
    obtain ⟨s3, rfl, h3, h4⟩ := hm.rd
    have HX3 := Lib.hid (HX2.out.trans h3); have HR3 := Lib.hid h4
    obtain ⟨a3, c3', rfl⟩ := h4.shape
    clear h3 h4 hm c0 c1 c2 c3 c4
    go_wp2
    refine HPO.out _ _ HX3.out ?_
    rw [HBS.out]
    exact HR3.out

set_option maxRecDepth 20000 in
set_option maxHeartbeats 3200000 in
theorem refPut_t4a (k : Nat) (n : Int) (re im : Nat) (t : List UInt8) (ver : Nat) (w : World) (hok : (⟨k, n, re, im, t⟩ : Val).ok) (he : vErr ⟨k, n, re, im, t⟩ = 0) (hv : ver = 1 ∨ ver = 2) (hk : k = 4) (hv1 : ver = 1) :
    Calls Try.prog 97 #[rv ⟨k, n, re, im, t⟩, .int .u8 (ver : Nat)] w (PutPost [] ver ⟨k, n, re, im, t⟩ w) := by
  obtain ⟨i, hi1, hz, hs, hb⟩ := info_parts infoU8
  have HI1 := Lib.hid hi1; have HZ := Lib.hid hz; have HSZ := Lib.hid hs; have HB := Lib.hid hb
  obtain ⟨z1, z2, z3, z4, z5, z6, z7, z8, z9⟩ := vErr_zero he
  obtain ⟨o1, o2, o3, o4, o5⟩ := hok
  have HRI := Lib.hid (rright_any ⟨k, n, re, im, t⟩)
  rw [he] at HRI
  have hpe : putE ver ⟨k, n, re, im, t⟩ = 0 := by unfold putE; rw [if_neg (by omega)]; exact he
  obtain ⟨BS, hBS⟩ : ∃ BS, BS = vBytes ver ⟨k, n, re, im, t⟩ := ⟨_, rfl⟩
  obtain ⟨PO, hPO⟩ : ∃ PO, PO = PutPost [] ver ⟨k, n, re, im, t⟩ w := ⟨_, rfl⟩
  have HPO : Hid (∀ s w', Ext w w' → Rd w' s BS → PO (.returned (.tuple #[s, .int .i64 0])) w') := Lib.hid fun s w' h1 h2 => by
    rw [hPO]
    refine ⟨s, by rw [hpe]; rfl, h1, ?_⟩
    rw [if_pos hpe, ← hBS]
    exact h2
  rw [← hPO]
  unfold vBytes at hBS
  unfold rv rvals strV at *
  simp only at *
  have HTX := Lib.hid (fun w => refText_any t w (by omega))
  generalize (⟨t.toArray⟩ : ByteArray) = A at *
  have hw1 := heap_alloc_new w (.cells #[.int .u8 (k : Nat), .int .i64 n, .int .u64 (re : Nat), .int .u64 (im : Nat), .string A] 122)
  have hx1 : Ext w (w.alloc (.cells #[.int .u8 (k : Nat), .int .i64 n, .int .u64 (re : Nat), .int .u64 (im : Nat), .string A] 122)) := (Ch.refl _ _).alloc _
  have HX1 := Lib.hid hx1; have HW1 := Lib.hid hw1
  have H2 := Lib.hid o2; have H3 := Lib.hid o3; have H4 := Lib.hid o4; have H5 := Lib.hid o5; have H7 := Lib.hid z7
  clear z1 z2 z3 z4 z5 z6 z7 z8 z9 o1 o2 o3 o4 o5 he hx1 hw1 hPO hi1 hz hs hb hpe
  have HBS : Hid (BS = leN 8 re ++ leN 8 im) := Lib.hid (by rw [hBS]; simp [hk, hv1])
  have e1 : (((k : Nat) : Int) == 1) = false := by rw [hk]; rfl
  have e2 : (((k : Nat) : Int) == 2) = false := by rw [hk]; rfl
  have e3 : (((k : Nat) : Int) == 3) = false := by rw [hk]; rfl
  have e4 : (((k : Nat) : Int) == 4) = true := by rw [hk]; rfl
  have HF1 : Hid (∀ w, Calls Try.prog 120 #[.int .u64 (re : Nat), .int .u8 1] w (Made 5 (leN 8 re) w)) := Lib.hid (fun w => refFloat_any re 1 w H4.out)
  have HF2 : Hid (∀ w, Calls Try.prog 120 #[.int .u64 (im : Nat), .int .u8 1] w (Made 5 (leN 8 im) w)) := Lib.hid (fun w => refFloat_any im 1 w H5.out)
  clear hBS hk hv
  subst hv1
  go_enter Try.func97, Try.ntmps97
  go_wp2_with (first
    | (refine wpList_load_row rfl _ _ rfl w.heap.size rfl _ _ _ _ HW1.out Try.underlying122 rfl info54 ?_)
    | (go_at_call 104; refine (HRI.out _).mono ?_))
  rintro e w2 ⟨rfl, h2⟩
  have HX2 := Lib.hid (HX1.out.trans h2)
  have hg2 := (h2.block w.heap.size (Array.getElem?_eq_some_iff.1 HW1.out).1 (fun f => f)).trans HW1.out
  have HG2 := Lib.hid hg2
  have HSG : Hid (w.heap.size < w2.heap.size) := Lib.hid (Array.getElem?_eq_some_iff.1 hg2).1
  have c0 : w2.cell? ⟨w.heap.size, 0, none⟩ = some (.int .u8 (k : Nat)) := by rw [cell_of_row _ _ _ _ _ _ hg2]; rfl
  have c1 : w2.cell? ⟨w.heap.size, 1, none⟩ = some (.int .i64 n) := by rw [cell_of_row _ _ _ _ _ _ hg2]; rfl
  have c2 : w2.cell? ⟨w.heap.size, 2, none⟩ = some (.int .u64 (re : Nat)) := by rw [cell_of_row _ _ _ _ _ _ hg2]; rfl
  have c3 : w2.cell? ⟨w.heap.size, 3, none⟩ = some (.int .u64 (im : Nat)) := by rw [cell_of_row _ _ _ _ _ _ hg2]; rfl
  have c4 : w2.cell? ⟨w.heap.size, 4, none⟩ = some (.string A) := by rw [cell_of_row _ _ _ _ _ _ hg2]; rfl
  clear h2 hg2
  have HC2 := Lib.hid c2; have HC3 := Lib.hid c3
  go_wp2
  refine wp_region_late (rputT w2.heap.size w.heap.size re im) (rputT' w2.heap.size re im) 6 (fun w' => Ext w w') mixedV (by rfl) (by rfl) (by decide) ?all ?fin
  case all =>
    refine ⟨?_, ?_, ?_, ?_, ?_, ?_, ?_, ?_, ?_, trivial⟩
    · refine StepG.early (by rfl) (by decide) rfl fun ρ w5 hρ hw hf => ?_
      have h2 : ρ (.tmp 2) = (.pointer (some ⟨w.heap.size, 0, none⟩)) := (hf 2).2 rfl rfl
      exact Exec.kfield rfl rfl h2 (field54_2 w5 w.heap.size) rfl
    · refine StepG.early (by rfl) (by decide) rfl fun ρ w5 hρ hw hf => ?_
      have h49 : ρ (.tmp 49) = (.pointer (some ⟨w.heap.size, 2, none⟩)) := (hf 49).1 rfl
      have hc := hw.cell (p := ⟨w.heap.size, 2, none⟩) (fun f => f) _ HC2.out
      exact Exec.same (v := .int .u64 (re : Nat)) rfl (by simp [go_sem, hρ.const, h49, hc]) rfl
    · refine StepG.early (by rfl) (by decide) rfl fun ρ w5 hρ hw hf => ?_
      have h50 : ρ (.tmp 50) = (.int .u64 (re : Nat)) := (hf 50).1 rfl
      exact Exec.kcall #[.int .u64 (re : Nat), .int .u8 1] hρ rfl rfl (by simp [h50, hρ.const]) Try.func120 (by kernel_rfl) (by kernel_rfl) ((HF1.out w5).mono (by
        rintro e w6 ⟨s, rfl, h1, h2⟩
        refine ⟨_, rfl, ?_, h1⟩
        have := hw.size
        exact ownsRow_base (by simpa [leN_length] using h2) this))
    · refine StepG.early (by rfl) (by decide) rfl fun ρ w5 hρ hw hf => ?_
      have h2 : ρ (.tmp 2) = (.pointer (some ⟨w.heap.size, 0, none⟩)) := (hf 2).2 rfl rfl
      exact Exec.kfield rfl rfl h2 (field54_3 w5 w.heap.size) rfl
    · refine StepG.early (by rfl) (by decide) rfl fun ρ w5 hρ hw hf => ?_
      have h52 : ρ (.tmp 52) = (.pointer (some ⟨w.heap.size, 3, none⟩)) := (hf 52).1 rfl
      have hc := hw.cell (p := ⟨w.heap.size, 3, none⟩) (fun f => f) _ HC3.out
      exact Exec.same (v := .int .u64 (im : Nat)) rfl (by simp [go_sem, hρ.const, h52, hc]) rfl
    · refine StepG.early (by rfl) (by decide) rfl fun ρ w5 hρ hw hf => ?_
      have h53 : ρ (.tmp 53) = (.int .u64 (im : Nat)) := (hf 53).1 rfl
      exact Exec.kcall #[.int .u64 (im : Nat), .int .u8 1] hρ rfl rfl (by simp [h53, hρ.const]) Try.func120 (by kernel_rfl) (by kernel_rfl) ((HF2.out w5).mono (by
        rintro e w6 hm
        obtain ⟨s, rfl, h1, h2⟩ := hm.rd
        exact ⟨_, rfl, h2, h1⟩))
    · refine StepG.write (late := [55, 4, 5]) (by rfl) rfl (fun d v w w' hd _ => by
        simp only [List.mem_cons, List.not_mem_nil, or_false, not_or] at hd
        unfold rputT'
        split <;> first | trivial | (exfalso; omega)) fun ρ w5 hρ hw hf => ?_
      have h51 : w5.ownsRow w2.heap.size 5 1 (ρ (.tmp 51)) 8 (cellsB (leN 8 re)) := (hf 51).1 rfl
      have h54 : Rd w5 (ρ (.tmp 54)) (leN 8 im) := (hf 54).1 rfl
      refine (Exec.kappend (m := 8) rfl w2.heap.size Try.underlying76 HI1.out HZ.out HSZ.out HB.out rfl (by decide) rfl h51 (by have := h54; unfold Rd at this; rwa [leN_length] at this) (by rw [cellsB_length, leN_length]) (cellsB_one _) (by omega) (by unfold maxLen; omega) hw.size).mono ?_
      rintro v w6 ⟨q1, q2⟩
      refine ⟨fun d hd => by cases hd; rw [← cellsB_append] at q1; exact q1, (HX2.out.trans hw).grown q2 fun kk hk => ?_⟩
      have := (h51.lt kk hk).1
      exact .inr (by have := HX2.out.size; omega)
    · refine StepG.later (late := [55, 4, 5]) (by rfl) (by decide) (by rfl) rfl fun ρ w5 hρ hw hf => ?_
      have h55 : w5.ownsRow w2.heap.size 5 1 (ρ (.tmp 55)) 16 (cellsB (leN 8 re ++ leN 8 im)) := (hf 55).1 rfl
      exact Exec.value (v := ρ (.tmp 55)) (by unfold execOp; rfl) ⟨fun d hd => by cases hd; exact h55, rfl⟩
    · refine StepG.later (late := [55, 4, 5]) (by rfl) (by decide) (by rfl) rfl fun ρ w5 hρ hw hf => ?_
      exact Exec.value (v := .int .i64 0) (by unfold execOp; simp [hρ.const]) ⟨fun d hd => by cases hd; rfl, rfl⟩
  case fin =>
    intro ν w5 hfin hx
    have e4 : w5.ownsRow w2.heap.size 5 1 (ν 4) 16 (cellsB (leN 8 re ++ leN 8 im)) := hfin 7 4 rfl
    have e5 : ν 5 = .int .i64 0 := hfin 8 5 rfl
    simp only [Exit.then, ended, List.foldl_cons, List.foldl_nil, List.setIfInBounds_toArray, List.set_cons_succ, List.set_cons_zero, e5]
    have hrd : Rd w5 (ν 4) (leN 8 re ++ leN 8 im) := by
      unfold Rd
      rw [show (leN 8 re ++ leN 8 im).length = 16 by rw [List.length_append, leN_length, leN_length]]
      exact Sl.ofOwns e4
    have HX3 := Lib.hid hx; have HR3 := Lib.hid hrd
    clear hfin hx e4 e5 hrd c0 c1 c2 c3 c4
    generalize ν 4 = s4 at *
    obtain ⟨a4, c4', rfl⟩ := HR3.out.shape
    go_wp2
    refine HPO.out _ _ HX3.out ?_
    rw [HBS.out]
    exact HR3.out

end Go.Proofs.Ytegclfpmgilnpaa
