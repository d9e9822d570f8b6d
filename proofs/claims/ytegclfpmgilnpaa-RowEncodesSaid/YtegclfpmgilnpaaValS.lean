/-
  Put: the document's, whole.
-/
import Derived.Test.YtegclfpmgilnpaaValR
namespace Go.Proofs.Ytegclfpmgilnpaa
open Go.RowKit Go.Lac

set_option maxRecDepth 20000 in
set_option maxHeartbeats 1600000 in
theorem refPut_ver (v : Val) (ver : Nat) (w : World) (hv : ver ≠ 1 ∧ ver ≠ 2) :
    Calls Try.prog 97 #[rv v, .int .u8 (ver : Nat)] w (PutPost [] ver v w) := by
  have hpe : putE ver v = 18 := by unfold putE; rw [if_pos hv]
  obtain ⟨PO, hPO⟩ : ∃ PO, PO = PutPost [] ver v w := ⟨_, rfl⟩
  have HPO : Hid (∀ w', Ext w w' → PO (.returned (.tuple #[.slice none 0 0, .int .i64 18])) w') := Lib.hid fun w' h1 => by
    rw [hPO]
    refine ⟨_, by rw [hpe]; rfl, h1, ?_⟩
    rw [if_neg (by rw [hpe]; decide)]
    exact rd_nil _
  rw [← hPO]
  obtain ⟨k, n, re, im, t⟩ := v
  unfold rv rvals strV
  simp only
  generalize (⟨t.toArray⟩ : ByteArray) = A at *
  have HX1 : Hid (Ext w (w.alloc (.cells #[.int .u8 (k : Nat), .int .i64 n, .int .u64 (re : Nat), .int .u64 (im : Nat), .string A] 122))) := Lib.hid ((Ch.refl _ _).alloc _)
  have e1 : (((ver : Nat) : Int) != 1) = true := by simp; omega
  have e2 : (((ver : Nat) : Int) != 2) = true := by simp; omega
  clear hPO hpe hv
  go_enter Try.func97, Try.ntmps97
  go_wp2
  exact HPO.out _ HX1.out

set_option maxRecDepth 20000 in
set_option maxHeartbeats 1600000 in
theorem refPut_err (v : Val) (ver : Nat) (w : World) (hv : ver = 1 ∨ ver = 2) (he : vErr v ≠ 0) :
    Calls Try.prog 97 #[rv v, .int .u8 (ver : Nat)] w (PutPost [] ver v w) := by
  have hpe : putE ver v = vErr v := by unfold putE; rw [if_neg (by omega)]
  obtain ⟨PO, hPO⟩ : ∃ PO, PO = PutPost [] ver v w := ⟨_, rfl⟩
  have HPO : Hid (∀ w', Ext w w' → PO (.returned (.tuple #[.slice none 0 0, .int .i64 (vErr v : Nat)])) w') := Lib.hid fun w' h1 => by
    rw [hPO]
    refine ⟨_, by rw [hpe], h1, ?_⟩
    rw [if_neg (by rw [hpe]; exact he)]
    exact rd_nil _
  rw [← hPO]
  have HRI := Lib.hid (rright_any v)
  have hb2 : (((vErr v : Nat) : Int) != 0) = true := by simp; omega
  generalize vErr v = E at *
  obtain ⟨k, n, re, im, t⟩ := v
  unfold rv rvals strV at *
  simp only at *
  generalize (⟨t.toArray⟩ : ByteArray) = A at *
  have hw1 := heap_alloc_new w (.cells #[.int .u8 (k : Nat), .int .i64 n, .int .u64 (re : Nat), .int .u64 (im : Nat), .string A] 122)
  have HX1 : Hid (Ext w (w.alloc (.cells #[.int .u8 (k : Nat), .int .i64 n, .int .u64 (re : Nat), .int .u64 (im : Nat), .string A] 122))) := Lib.hid ((Ch.refl _ _).alloc _)
  have HW1 := Lib.hid hw1
  clear hPO hpe he hw1
  rcases hv with rfl | rfl
  · go_enter Try.func97, Try.ntmps97
    go_wp2_with (first
      | (refine wpList_load_row rfl _ _ rfl w.heap.size rfl _ _ _ _ HW1.out Try.underlying122 rfl info54 ?_)
      | (go_at_call 104; refine (HRI.out _).mono ?_; rintro e w2 ⟨rfl, h2⟩; have HX2 := Lib.hid (HX1.out.trans h2); clear h2))
    exact HPO.out _ HX2.out
  · go_enter Try.func97, Try.ntmps97
    go_wp2_with (first
      | (refine wpList_load_row rfl _ _ rfl w.heap.size rfl _ _ _ _ HW1.out Try.underlying122 rfl info54 ?_)
      | (go_at_call 104; refine (HRI.out _).mono ?_; rintro e w2 ⟨rfl, h2⟩; have HX2 := Lib.hid (HX1.out.trans h2); clear h2))
    exact HPO.out _ HX2.out

theorem refPut_any (v : Val) (ver : Nat) (w : World) (hok : v.ok) :
    Calls Try.prog 97 #[rv v, .int .u8 (ver : Nat)] w (PutPost [] ver v w) := by
  by_cases hv : ver ≠ 1 ∧ ver ≠ 2
  · exact refPut_ver v ver w hv
  have hv' : ver = 1 ∨ ver = 2 := by omega
  by_cases he : vErr v = 0
  · obtain ⟨z1, z2, _⟩ := vErr_zero he
    obtain ⟨k, n, re, im, t⟩ := v
    simp only at z1 z2
    have hk : k = 1 ∨ k = 2 ∨ k = 3 ∨ k = 4 ∨ k = 5 ∨ k = 6 := by omega
    rcases hk with h | h | h | h | h | h
    · exact refPut_t1 k n re im t ver w hok he hv' h
    · rcases hv' with h' | h'
      · exact refPut_t2a k n re im t ver w hok he (.inl h') h h'
      · exact refPut_t2b k n re im t ver w hok he (.inr h') h h'
    · exact refPut_t3 k n re im t ver w hok he hv' h
    · rcases hv' with h' | h'
      · exact refPut_t4a k n re im t ver w hok he (.inl h') h h'
      · by_cases r : re = 0 <;> by_cases i : im = 0
        · exact refPut_t4b00 k n re im t ver w hok he (.inr h') h h' r i
        · exact refPut_t4b01 k n re im t ver w hok he (.inr h') h h' r i
        · exact refPut_t4b10 k n re im t ver w hok he (.inr h') h h' r i
        · exact refPut_t4b11 k n re im t ver w hok he (.inr h') h h' r i
    · exact refPut_t56 k n re im t ver w hok he hv' (.inl h)
    · exact refPut_t56 k n re im t ver w hok he hv' (.inr h)
  · exact refPut_err v ver w hv' he
end Go.Proofs.Ytegclfpmgilnpaa
