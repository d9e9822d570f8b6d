/-
  Images: the chapter's examples hold (lacunalaw12.awake).
-/
import Derived.Test.YtdpebdbfphlmeaaImgJ
import Derived.Test.YtdpebdbfphlmeaaGRelB
namespace Go.Proofs.Ytdpebdbfphlmeaa
open Go.RowKit Go.Lac

theorem pcS_heap {w : World} {g : Nat} {l : List Cel} {T : TypeId} (h : w.heap[g]? = some (.cells (PcC l).toArray T (0, 0))) (hl : l.length ≤ maxLen) : PcS w (.slice (some ⟨g, 0, none⟩) l.length l.length) l := by
  refine ⟨_, l.length, rfl, Nat.le_refl _, hl, (fun h => by cases h), fun x hx j u hu => ?_⟩
  cases hx
  refine ⟨g, 0, rfl, ?_⟩
  rw [Nat.zero_add, cell_of_row w g j _ _ _ h]
  simpa using hu
set_option maxRecDepth 20000 in
set_option maxHeartbeats 4000000 in
theorem rightAwake (cv : Value) (ao : Option Addr) (n cap : Nat) (hcv : cv = .slice ao n cap) (w : World) (A1 : ByteArray) (o1 o2 : Int) :
    Calls Try.prog 20 #[.agg #[.int .u32 o1, .int .u32 o2, .string A1, .int .u8 0, cv], .int .u8 6, .int .u8 0, .slice none 0 0, .slice none 0 0] w fun e w' => e = .returned (.int .i64 14) ∧ Ext w w' := by
  have HM : Hid (∀ w, Calls Try.prog 32 #[.int .u8 0, .int .u8 6, .int .u8 0] w fun e w' => e = .returned (.bool false) ∧ w = w') := Lib.hid fun w => mayBe_any 0 6 0 w
  subst hcv
  go_enter Try.func20, Try.ntmps20
  go_wp2_with fail
  refine (HM.out _).mono ?_
  rintro e w1 ⟨rfl, rfl⟩
  go_wp2
  go_ret
  exact ⟨rfl, (Ch.refl _ _).alloc _⟩
def egI : Rl := ⟨1, 1, [116], 0, [⟨[97], 2, true⟩, ⟨[98], 2, false⟩]⟩
def egC (n : Int) : Cel := ⟨2, ⟨2, n, 0, 0, []⟩⟩
theorem egK : keyOf egI.cols [egC 1, egC 2] = [egC 1, Cel.zero] := by decide
theorem bRf (w : World) : (Instr.build 30 #[(0, .int .u32 1), (1, .int .u32 1)]).run Try.prog w = .ok (.agg #[.int .u32 1, .int .u32 1]) w := by kernel_rfl
theorem bC1 (w : World) : (Instr.build 68 #[(0, .string ⟨#[97]⟩), (1, .int .u8 2), (2, .bool true)]).run Try.prog w = .ok (.agg #[.string ⟨#[97]⟩, .int .u8 2, .bool true]) w := by kernel_rfl
theorem bC2 (w : World) : (Instr.build 68 #[(0, .string ⟨#[98]⟩), (1, .int .u8 2)]).run Try.prog w = .ok (.agg #[.string ⟨#[98]⟩, .int .u8 2, .bool false]) w := by kernel_rfl
theorem bCs (w : World) : (Instr.buildSlice 31 2 #[(0, .agg #[.string ⟨#[97]⟩, .int .u8 2, .bool true]), (1, .agg #[.string ⟨#[98]⟩, .int .u8 2, .bool false])]).run Try.prog w = .ok (.slice (some ⟨w.heap.size, 0, none⟩) 2 2) (w.alloc (.cells #[.string ⟨#[97]⟩, .int .u8 2, .bool true, .string ⟨#[98]⟩, .int .u8 2, .bool false] 68)) := by kernel_rfl
theorem bRl (w : World) (b : Nat) : (Instr.build 33 #[(0, .agg #[.int .u32 1, .int .u32 1]), (1, .string ⟨#[116]⟩), (3, .slice (some ⟨b, 0, none⟩) 2 2)]).run Try.prog w = .ok (.agg #[.int .u32 1, .int .u32 1, .string ⟨#[116]⟩, .int .u8 0, .slice (some ⟨b, 0, none⟩) 2 2]) w := by kernel_rfl
theorem bV (w : World) (n : Int) : (Instr.build 57 #[(0, .int .u8 2), (1, .int .i64 n)]).run Try.prog w = .ok (.agg #[.int .u8 2, .int .i64 n, .complex .f64 0 0, .string ⟨#[]⟩]) w := by kernel_rfl
theorem bRow (w : World) (a b : Int) : (Instr.buildSlice 36 2 #[(0, .agg #[.int .u8 2, .int .u8 2, .int .i64 a, .complex .f64 0 0, .string ⟨#[]⟩]), (1, .agg #[.int .u8 2, .int .u8 2, .int .i64 b, .complex .f64 0 0, .string ⟨#[]⟩])]).run Try.prog w = .ok (.slice (some ⟨w.heap.size, 0, none⟩) 2 2) (w.alloc (.cells #[.int .u8 2, .int .u8 2, .int .i64 a, .complex .f64 0 0, .string ⟨#[]⟩, .int .u8 2, .int .u8 2, .int .i64 b, .complex .f64 0 0, .string ⟨#[]⟩] 59)) := by kernel_rfl
set_option maxRecDepth 20000 in
set_option maxHeartbeats 4000000 in
theorem awake12_any (w : World) : Calls Try.prog 19 #[] w fun e w' => e = .returned (.bool true) ∧ Ext w w' := by
  have HOF : Hid (∀ (n : Int) w, Calls Try.prog 31 #[.agg #[.int .u8 2, .int .i64 n, .complex .f64 0 0, .string ⟨#[]⟩]] w fun e w' => e = .returned (.agg #[.int .u8 2, .int .u8 2, .int .i64 n, .complex .f64 0 0, .string ⟨#[]⟩]) ∧ Ext w w') := Lib.hid fun n w => cof_any ⟨2, n, 0, 0, []⟩ w
  obtain ⟨W, hW⟩ : ∃ W, W = (w.alloc (.cells #[.string ⟨#[97]⟩, .int .u8 2, .bool true, .string ⟨#[98]⟩, .int .u8 2, .bool false] 68)).alloc (.cells #[.int .u32 1, .int .u32 1, .string ⟨#[116]⟩, .int .u8 0, .slice (some ⟨w.heap.size, 0, none⟩) 2 2] 33) := ⟨_, rfl⟩
  have hx : Ext w W := by rw [hW]; exact ((Ch.refl _ _).alloc _).alloc _
  have hcol : W.heap[w.heap.size]? = some (.cells (colC egI.cols).toArray 68 (0, 0)) := by rw [hW]; exact heap_alloc2_old _ _ _
  have hbox : W.heap[w.heap.size + 1]? = some (.cells (relv egI (.slice (some ⟨w.heap.size, 0, none⟩) 2 2)) 33 (0, 0)) := by rw [hW]; exact heap_alloc2_new _ _ _
  have HCOL : Hid (ColS W (.slice (some ⟨w.heap.size, 0, none⟩) 2 2) egI.cols) := Lib.hid (by
    refine ⟨_, 2, rfl, Nat.le_refl _, by decide, (fun h => by cases h), fun x hx j u hu => ?_⟩
    cases hx
    refine ⟨w.heap.size, 0, rfl, ?_⟩
    rw [Nat.zero_add, cell_of_row W _ j _ _ _ hcol]
    simpa using hu)
  have HBOX := Lib.hid hbox; have HX := Lib.hid hx; have HW := Lib.hid hW
  have b1 := bRf; have b2 := bC1; have b3 := bC2; have b4 := bCs; have b5 := bRl; have b6 := bV; have b7 := fun w => bRow w 1 2
  clear hW hx hcol hbox
  go_enter Try.func19, Try.ntmps19
  go_wp2_with fail
  refine (HOF.out 1 _).mono ?_
  rw [← HW.out]
  rintro e w2 ⟨rfl, hx2⟩
  have HX2 := Lib.hid hx2; clear hx2
  go_wp2_with fail
  refine (HOF.out 2 _).mono ?_
  rintro e w3 ⟨rfl, hx3⟩
  have HX3 := Lib.hid (HX2.out.trans hx3); clear hx3
  obtain ⟨W4, hW4⟩ : ∃ W4, W4 = w3.alloc (.cells #[.int .u8 2, .int .u8 2, .int .i64 1, .complex .f64 0 0, .string ⟨#[]⟩, .int .u8 2, .int .u8 2, .int .i64 2, .complex .f64 0 0, .string ⟨#[]⟩] 59) := ⟨_, rfl⟩
  have hx4 : Ext w3 W4 := by rw [hW4]; exact (Ch.refl _ _).alloc _
  have HX4 := Lib.hid (HX3.out.trans hx4)
  have hrow : W4.heap[w3.heap.size]? = some (.cells (PcC [egC 1, egC 2]).toArray 59 (0, 0)) := by rw [hW4]; exact heap_alloc_new _ _
  have HKO := Lib.hid (keyOf_any egI (.slice (some ⟨w.heap.size, 0, none⟩) 2 2) (.slice (some ⟨w3.heap.size, 0, none⟩) 2 2) [egC 1, egC 2] W4 (ColS.ext HCOL.out HX4.out) (by decide) (pcS_heap (l := [egC 1, egC 2]) hrow (by decide)) (by decide))
  rw [egK] at HKO
  have hb4 := heap_ext HX4.out HBOX.out
  have d0 : W4.cell? ⟨w.heap.size + 1, 0, none⟩ = some (.int .u32 1) := by rw [cell_of_row _ _ _ _ _ _ hb4]; rfl
  have d1 : W4.cell? ⟨w.heap.size + 1, 1, none⟩ = some (.int .u32 1) := by rw [cell_of_row _ _ _ _ _ _ hb4]; rfl
  have d2 : W4.cell? ⟨w.heap.size + 1, 2, none⟩ = some (.string ⟨#[116]⟩) := by rw [cell_of_row _ _ _ _ _ _ hb4]; rfl
  have d3 : W4.cell? ⟨w.heap.size + 1, 3, none⟩ = some (.int .u8 0) := by rw [cell_of_row _ _ _ _ _ _ hb4]; rfl
  have d4 : W4.cell? ⟨w.heap.size + 1, 4, none⟩ = some (.slice (some ⟨w.heap.size, 0, none⟩) 2 2) := by rw [cell_of_row _ _ _ _ _ _ hb4]; rfl
  rw [hW4] at d0 d1 d2 d3 d4
  have HW4 := Lib.hid hW4; have HB4 := Lib.hid hb4
  clear hx4 hrow hb4 hW4
  have HKO2 : Hid (Calls Try.prog 13 #[.agg #[.int .u32 1, .int .u32 1, .string ⟨#[116]⟩, .int .u8 0, .slice (some ⟨w.heap.size, 0, none⟩) 2 2], .slice (some ⟨w3.heap.size, 0, none⟩) 2 2] W4 (PrPost [egC 1, Cel.zero] W4)) := Lib.hid HKO.out
  clear HKO
  go_wp2_with fail
  rw [← HW4.out]
  refine HKO2.out.mono ?_
  rintro e w5 ⟨v, rfl, hx5, ho5⟩
  have HX5 := Lib.hid (HX4.out.trans hx5)
  have hb5 := heap_ext hx5 HB4.out
  clear d0 d1 d2 d3 d4 HKO2
  have d0 : w5.cell? ⟨w.heap.size + 1, 0, none⟩ = some (.int .u32 1) := by rw [cell_of_row _ _ _ _ _ _ hb5]; rfl
  have d1 : w5.cell? ⟨w.heap.size + 1, 1, none⟩ = some (.int .u32 1) := by rw [cell_of_row _ _ _ _ _ _ hb5]; rfl
  have d2 : w5.cell? ⟨w.heap.size + 1, 2, none⟩ = some (.string ⟨#[116]⟩) := by rw [cell_of_row _ _ _ _ _ _ hb5]; rfl
  have d3 : w5.cell? ⟨w.heap.size + 1, 3, none⟩ = some (.int .u8 0) := by rw [cell_of_row _ _ _ _ _ _ hb5]; rfl
  have d4 : w5.cell? ⟨w.heap.size + 1, 4, none⟩ = some (.slice (some ⟨w.heap.size, 0, none⟩) 2 2) := by rw [cell_of_row _ _ _ _ _ _ hb5]; rfl
  obtain ⟨vo, vc, rfl⟩ := owns_shape ho5
  have hs := ho5.s
  obtain ⟨b, o, rfl, hr0⟩ := hs.at (j := 0) (by decide)
  obtain ⟨b', o', e, hr1⟩ := hs.at (j := 1) (by decide)
  simp only [Option.some.injEq, Addr.mk.injEq] at e
  obtain ⟨rfl, rfl, -⟩ := e
  obtain ⟨ci, chi, _, chs, _⟩ := info_parts infoPrZ
  have hi0 : (Instr.indexAt 36 (.slice (some ⟨b, o, none⟩) 2 vc) (.int .i64 0)).run Try.prog w5 = .ok (.pointer (some ⟨b, o, none⟩)) w5 := by
    have := run_indexSl w5 Try.underlying36 chi chs b o 2 vc 0 (by decide)
    rw [Nat.zero_mul, Nat.add_zero] at this; exact this
  have hi1 : (Instr.indexAt 36 (.slice (some ⟨b, o, none⟩) 2 vc) (.int .i64 1)).run Try.prog w5 = .ok (.pointer (some ⟨b, o + 5, none⟩)) w5 := run_indexSl w5 Try.underlying36 chi chs b o 2 vc 1 (by decide)
  have q0 : w5.cell? ⟨b, o, none⟩ = some (.int .u8 2) := by have := hr0 0 _ rfl; rw [Nat.zero_mul, Nat.add_zero] at this; exact this
  have q1 : w5.cell? ⟨b, o + 5, none⟩ = some (.int .u8 0) := hr1 0 _ rfl
  have HRA := Lib.hid (rightAwake (.slice (some ⟨w.heap.size, 0, none⟩) 2 2) (some ⟨w.heap.size, 0, none⟩) 2 2 rfl w5 ⟨#[116]⟩ 1 1)
  have hlen : (.slice (some ⟨b, o, none⟩) [egC 1, Cel.zero].length vc : Value) = .slice (some ⟨b, o, none⟩) 2 vc := rfl
  rw [hlen]
  clear hx5 ho5 hb5 hr0 hr1 hs chi chs hlen b1 b2 b3 b4 b5 b6 b7
  go_wp2_with fail
  refine HRA.out.mono ?_
  rintro e w6 ⟨rfl, hx6⟩
  have HX6 := Lib.hid (HX5.out.trans hx6); clear hx6 HRA
  go_wp2
  go_ret
  exact ⟨by simp, HX.out.trans HX6.out⟩
end Go.Proofs.Ytdpebdbfphlmeaa
