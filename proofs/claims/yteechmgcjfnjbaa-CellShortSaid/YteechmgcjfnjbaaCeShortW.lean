/-
  CellShort: the walk.
-/
import Derived.Test.YteechmgcjfnjbaaCelH
namespace Go.Proofs.Yteechmgcjfnjbaa
open Go.RowKit Go.Lac

theorem infoA7 : (Try.prog.info? 63).map (·.size) = some 7 := by kernel_rfl
theorem buildA7 (w : World) : (Instr.build 63 #[(0, .int .i64 0), (1, .int .i64 0), (2, .int .i64 2), (3, .int .i64 2), (4, .int .i64 5), (5, .int .i64 0), (6, .int .i64 0)]).run Try.prog w = .ok (.agg #[.int .i64 0, .int .i64 0, .int .i64 2, .int .i64 2, .int .i64 5, .int .i64 0, .int .i64 0]) w := by kernel_rfl
theorem idx7_1 (w : World) (b : Nat) : (Instr.indexAt 63 (.pointer (some ⟨b, 0, none⟩)) (.int .u8 1)).run Try.prog w = .ok (.pointer (some ⟨b, 1, none⟩)) w := by kernel_rfl
theorem idx7_2 (w : World) (b : Nat) : (Instr.indexAt 63 (.pointer (some ⟨b, 0, none⟩)) (.int .u8 2)).run Try.prog w = .ok (.pointer (some ⟨b, 2, none⟩)) w := by kernel_rfl
theorem idx7_3 (w : World) (b : Nat) : (Instr.indexAt 63 (.pointer (some ⟨b, 0, none⟩)) (.int .u8 3)).run Try.prog w = .ok (.pointer (some ⟨b, 3, none⟩)) w := by kernel_rfl
theorem idx7_4 (w : World) (b : Nat) : (Instr.indexAt 63 (.pointer (some ⟨b, 0, none⟩)) (.int .u8 4)).run Try.prog w = .ok (.pointer (some ⟨b, 4, none⟩)) w := by kernel_rfl
theorem idx7_5 (w : World) (b : Nat) : (Instr.indexAt 63 (.pointer (some ⟨b, 0, none⟩)) (.int .u8 5)).run Try.prog w = .ok (.pointer (some ⟨b, 5, none⟩)) w := by kernel_rfl
theorem idx7_6 (w : World) (b : Nat) : (Instr.indexAt 63 (.pointer (some ⟨b, 0, none⟩)) (.int .u8 6)).run Try.prog w = .ok (.pointer (some ⟨b, 6, none⟩)) w := by kernel_rfl

set_option maxRecDepth 20000 in
set_option maxHeartbeats 4000000 in
theorem cellShort_walk (c : Cel) (kind : Nat) (w0 : World) (hc : c.ok) (hkd : kind < 256) :
    Calls Try.prog 7 #[rc c, .int .u8 (kind : Nat)] w0 fun e w' => e = .returned (.bool true) ∧ Ext w0 w' := by
  have HRI := Lib.hid (rright7_any c kind)
  have HOW := Lib.hid (own7_any c)
  obtain ⟨W, hW⟩ : ∃ W, W = w0.alloc (.cells (rcv c) 26) := ⟨_, rfl⟩
  have hx0 : Ext w0 W := by rw [hW]; exact (Ch.refl _ _).alloc _
  have HP := Lib.hid (show RRow W w0.heap.size c by rw [hW]; exact box_r c w0)
  have HX0 := Lib.hid hx0; have HW := Lib.hid hW
  have hpc : rc c = .agg (rcv c) := rfl
  rw [hpc]
  obtain ⟨c0, l1, l2, l3, l4, l5⟩ := HP.out.cells
  rw [hW] at c0 l1 l2 l3 l4 l5
  clear hx0 hW hpc
  go_enter Try.func7, Try.ntmps7
  go_wp2_with fail
  rw [← HW.out]
  refine (HRI.out _).mono ?_
  rintro e w1 ⟨rfl, hx⟩
  have HP1 := Lib.hid (HP.out.ext hx); have HX1 := Lib.hid (HX0.out.trans hx)
  clear hx c0 l1 l2 l3 l4 l5
  obtain ⟨c0, l1, l2, l3, l4, l5⟩ := HP1.out.cells
  by_cases he : cErr c kind = 0
  case neg =>
    have e1 : (((cErr c kind : Nat) : Int) != 0) = true := by simp; omega
    clear he
    generalize cErr c kind = E at *
    go_wp2
    go_ret
    exact ⟨rfl, HX1.out⟩
  have HE := Lib.hid he
  rw [he]
  by_cases hk : c.k = 0
  · have e1 : (((c.k : Nat) : Int) == 0) = true := by rw [hk]; rfl
    clear he hk
    go_wp2
    go_ret
    exact ⟨rfl, HX1.out⟩
  have e1 : (((c.k : Nat) : Int) == 0) = false := by simp; omega
  have P1 := Lib.hid (cput_ok c kind 1 (.inl rfl) hc he hk)
  have P2 := Lib.hid (cput_ok c kind 2 (.inr rfl) hc he hk)
  have HSH := Lib.hid (cBytes_short hc he hk)
  have HLL := Lib.hid (cBytes_len (ver := 1) hc he hk)
  have HKK := Lib.hid (cErr_zero he)
  have hbb := HSH.out
  have hcc := HLL.out
  obtain ⟨B1, hB1⟩ : ∃ B1, B1 = cBytes 1 c := ⟨_, rfl⟩
  obtain ⟨B2, hB2⟩ : ∃ B2, B2 = cBytes 2 c := ⟨_, rfl⟩
  rw [← hB1] at P1 hbb hcc
  rw [← hB2] at P2 hbb
  have HBB := Lib.hid hbb; have HCC := Lib.hid hcc
  clear he hk hB1 hB2 HSH HLL hbb hcc
  go_wp2_with (go_at_call 12; refine (HOW.out _).mono ?_)
  intro e w2 hm
  obtain ⟨rfl, hx⟩ := hm
  have HP2 := Lib.hid (HP1.out.ext hx); have HX2 := Lib.hid (HX1.out.trans hx)
  clear hx c0 l1 l2 l3 l4 l5
  go_wp2_with fail
  refine (P1.out _).mono ?_
  intro e w3 hm
  obtain ⟨s, rfl, hx, hr⟩ := hm
  obtain ⟨a3, c3, rfl⟩ := hr.shape
  have HP3 := Lib.hid (HP2.out.ext hx); have HX3 := Lib.hid (HX2.out.trans hx)
  clear hx hr
  obtain ⟨c0, l1, l2, l3, l4, l5⟩ := HP3.out.cells
  go_wp2_with (go_at_call 12; refine (HOW.out _).mono ?_)
  intro e w4 hm
  obtain ⟨rfl, hx⟩ := hm
  have HX4 := Lib.hid (HX3.out.trans hx)
  clear hx c0 l1 l2 l3 l4 l5
  go_wp2_with fail
  refine (P2.out _).mono ?_
  intro e w5 hm
  obtain ⟨s, rfl, hx, hr⟩ := hm
  obtain ⟨a5, c5, rfl⟩ := hr.shape
  have HX5 := Lib.hid (HX4.out.trans hx)
  clear hx hr
  obtain ⟨L1, hL1⟩ : ∃ L1, L1 = B1.length := ⟨_, rfl⟩
  obtain ⟨L2, hL2⟩ : ∃ L2, L2 = B2.length := ⟨_, rfl⟩
  have HB := HBB.out; have HC2 := HCC.out
  rw [← hL1] at HB HC2 ⊢
  rw [← hL2] at HB ⊢
  clear hL1 hL2
  have hb5 := buildA7 w5
  have hg := heap_alloc_new w5 (.cells #[.int .i64 0, .int .i64 0, .int .i64 0, .int .i64 0, .int .i64 0, .int .i64 0, .int .i64 0] 63)
  have HG := Lib.hid hg
  have hk : kind = 1 ∨ kind = 2 ∨ kind = 3 ∨ kind = 4 ∨ kind = 5 ∨ kind = 6 := by have h1 := HKK.out.1; have h2 := HKK.out.2.1; omega
  clear hg hkd
  obtain ⟨W6, hW6⟩ : ∃ W6, W6 = (w5.alloc (.cells #[.int .i64 0, .int .i64 0, .int .i64 0, .int .i64 0, .int .i64 0, .int .i64 0, .int .i64 0] 63)).setRow w5.heap.size #[.int .i64 0, .int .i64 0, .int .i64 2, .int .i64 2, .int .i64 5, .int .i64 0, .int .i64 0] := ⟨_, rfl⟩
  have hrow : W6.heap[w5.heap.size]? = some (.cells #[.int .i64 0, .int .i64 0, .int .i64 2, .int .i64 2, .int .i64 5, .int .i64 0, .int .i64 0] 63 (0, 0)) := by rw [hW6]; exact setRow_heap _ _ _ _ _ _ HG.out
  have HX6 : Hid (Ext w0 W6) := Lib.hid (by rw [hW6]; exact (HX5.out.alloc _).setRow (.inr HX5.out.size) _)
  have HW6 := Lib.hid hW6
  have HROW := Lib.hid hrow
  clear hrow hW6
  rcases hk with rfl | rfl | rfl | rfl | rfl | rfl
  · have hL : (L2 : Int) ≤ (L1 : Int) := by have := HB.1; simp at this; omega
    have h1 : (1 : Int) ≤ (L1 : Int) := by have := HB.2; omega
    have hi := idx7_1 W6 w5.heap.size
    have hcell : W6.cell? ⟨w5.heap.size, 1, none⟩ = some (.int .i64 0) := by rw [cell_of_row _ _ _ _ _ _ HROW.out]; rfl
    have hw : IntKind.i64.wrap (L1 : Int) = (L1 : Int) := by rw [IntKind.wrap_i64]; omega
    clear HB HC2
    go_wp2_with (first
      | (refine wpList_store_rowTo rfl _ _ _ rfl rfl w5.heap.size #[.int .i64 0, .int .i64 0, .int .i64 2, .int .i64 2, .int .i64 5, .int .i64 0, .int .i64 0] rfl rfl _ _ HG.out infoA7 rfl (by simp [Value.oneCell']) ?_; rw [← HW6.out])
      | (go_at_call 20; refine (awake7_any _).mono ?_))
    rintro e w7 ⟨rfl, hx⟩
    have HX7 := Lib.hid (HX6.out.trans hx)
    clear hx
    go_wp2
    go_ret
    exact ⟨rfl, HX7.out⟩
  · have hL : (L2 : Int) ≤ (L1 : Int) + 2 := by have := HB.1; simp at this; omega
    have h1 : (1 : Int) ≤ (L1 : Int) := by have := HB.2; omega
    have hi := idx7_2 W6 w5.heap.size
    have hcell : W6.cell? ⟨w5.heap.size, 2, none⟩ = some (.int .i64 2) := by rw [cell_of_row _ _ _ _ _ _ HROW.out]; rfl
    have hw : IntKind.i64.wrap ((L1 : Int) + 2) = (L1 : Int) + 2 := by rw [IntKind.wrap_i64]; omega
    clear HB HC2
    go_wp2_with (first
      | (refine wpList_store_rowTo rfl _ _ _ rfl rfl w5.heap.size #[.int .i64 0, .int .i64 0, .int .i64 2, .int .i64 2, .int .i64 5, .int .i64 0, .int .i64 0] rfl rfl _ _ HG.out infoA7 rfl (by simp [Value.oneCell']) ?_; rw [← HW6.out])
      | (go_at_call 20; refine (awake7_any _).mono ?_))
    rintro e w7 ⟨rfl, hx⟩
    have HX7 := Lib.hid (HX6.out.trans hx)
    clear hx
    go_wp2
    go_ret
    exact ⟨rfl, HX7.out⟩
  · have hL : (L2 : Int) ≤ (L1 : Int) + 2 := by have := HB.1; simp at this; omega
    have h1 : (1 : Int) ≤ (L1 : Int) := by have := HB.2; omega
    have hi := idx7_3 W6 w5.heap.size
    have hcell : W6.cell? ⟨w5.heap.size, 3, none⟩ = some (.int .i64 2) := by rw [cell_of_row _ _ _ _ _ _ HROW.out]; rfl
    have hw : IntKind.i64.wrap ((L1 : Int) + 2) = (L1 : Int) + 2 := by rw [IntKind.wrap_i64]; omega
    clear HB HC2
    go_wp2_with (first
      | (refine wpList_store_rowTo rfl _ _ _ rfl rfl w5.heap.size #[.int .i64 0, .int .i64 0, .int .i64 2, .int .i64 2, .int .i64 5, .int .i64 0, .int .i64 0] rfl rfl _ _ HG.out infoA7 rfl (by simp [Value.oneCell']) ?_; rw [← HW6.out])
      | (go_at_call 20; refine (awake7_any _).mono ?_))
    rintro e w7 ⟨rfl, hx⟩
    have HX7 := Lib.hid (HX6.out.trans hx)
    clear hx
    go_wp2
    go_ret
    exact ⟨rfl, HX7.out⟩
  · have hL : (L2 : Int) ≤ (L1 : Int) + 5 := by have := HB.1; simp at this; omega
    have h1 : (1 : Int) ≤ (L1 : Int) := by have := HB.2; omega
    have hi := idx7_4 W6 w5.heap.size
    have hcell : W6.cell? ⟨w5.heap.size, 4, none⟩ = some (.int .i64 5) := by rw [cell_of_row _ _ _ _ _ _ HROW.out]; rfl
    have hw : IntKind.i64.wrap ((L1 : Int) + 5) = (L1 : Int) + 5 := by rw [IntKind.wrap_i64]; omega
    clear HB HC2
    go_wp2_with (first
      | (refine wpList_store_rowTo rfl _ _ _ rfl rfl w5.heap.size #[.int .i64 0, .int .i64 0, .int .i64 2, .int .i64 2, .int .i64 5, .int .i64 0, .int .i64 0] rfl rfl _ _ HG.out infoA7 rfl (by simp [Value.oneCell']) ?_; rw [← HW6.out])
      | (go_at_call 20; refine (awake7_any _).mono ?_))
    rintro e w7 ⟨rfl, hx⟩
    have HX7 := Lib.hid (HX6.out.trans hx)
    clear hx
    go_wp2
    go_ret
    exact ⟨rfl, HX7.out⟩
  · have hL : (L2 : Int) ≤ (L1 : Int) := by have := HB.1; simp at this; omega
    have h1 : (1 : Int) ≤ (L1 : Int) := by have := HB.2; omega
    have hi := idx7_5 W6 w5.heap.size
    have hcell : W6.cell? ⟨w5.heap.size, 5, none⟩ = some (.int .i64 0) := by rw [cell_of_row _ _ _ _ _ _ HROW.out]; rfl
    have hw : IntKind.i64.wrap (L1 : Int) = (L1 : Int) := by rw [IntKind.wrap_i64]; omega
    clear HB HC2
    go_wp2_with (first
      | (refine wpList_store_rowTo rfl _ _ _ rfl rfl w5.heap.size #[.int .i64 0, .int .i64 0, .int .i64 2, .int .i64 2, .int .i64 5, .int .i64 0, .int .i64 0] rfl rfl _ _ HG.out infoA7 rfl (by simp [Value.oneCell']) ?_; rw [← HW6.out])
      | (go_at_call 20; refine (awake7_any _).mono ?_))
    rintro e w7 ⟨rfl, hx⟩
    have HX7 := Lib.hid (HX6.out.trans hx)
    clear hx
    go_wp2
    go_ret
    exact ⟨rfl, HX7.out⟩
  · have hL : (L2 : Int) ≤ (L1 : Int) := by have := HB.1; simp at this; omega
    have h1 : (1 : Int) ≤ (L1 : Int) := by have := HB.2; omega
    have hi := idx7_6 W6 w5.heap.size
    have hcell : W6.cell? ⟨w5.heap.size, 6, none⟩ = some (.int .i64 0) := by rw [cell_of_row _ _ _ _ _ _ HROW.out]; rfl
    have hw : IntKind.i64.wrap (L1 : Int) = (L1 : Int) := by rw [IntKind.wrap_i64]; omega
    clear HB HC2
    go_wp2_with (first
      | (refine wpList_store_rowTo rfl _ _ _ rfl rfl w5.heap.size #[.int .i64 0, .int .i64 0, .int .i64 2, .int .i64 2, .int .i64 5, .int .i64 0, .int .i64 0] rfl rfl _ _ HG.out infoA7 rfl (by simp [Value.oneCell']) ?_; rw [← HW6.out])
      | (go_at_call 20; refine (awake7_any _).mono ?_))
    rintro e w7 ⟨rfl, hx⟩
    have HX7 := Lib.hid (HX6.out.trans hx)
    clear hx
    go_wp2
    go_ret
    exact ⟨rfl, HX7.out⟩
end Go.Proofs.Yteechmgcjfnjbaa
