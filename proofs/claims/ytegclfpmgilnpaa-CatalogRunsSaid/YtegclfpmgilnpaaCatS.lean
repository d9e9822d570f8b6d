/-
  Catalogs: awake: what the chapter's example says.
-/
import Derived.Test.YtegclfpmgilnpaaCatO
import Derived.Test.YtegclfpmgilnpaaCatH
import Derived.Test.YtegclfpmgilnpaaCatF
namespace Go.Proofs.Ytegclfpmgilnpaa
open Go.RowKit Go.Lac

def awOne : Rl := ⟨3, 1, [116], 0, [⟨[97], 1, false⟩]⟩
def awTwo : Rl := ⟨3, 2, [116], 0, [⟨[97], 1, false⟩]⟩
theorem aw_of : catOf [] 0 [awTwo, awOne] = ([awOne, awTwo], 2, 0) := by decide
theorem aw_young : young 3 none [awOne, awTwo] = some awTwo := by decide
theorem aw_b1 (w : World) : (Instr.build 36 #[(0, .int .u32 3), (1, .int .u32 1)]).run Try.prog w = .ok (.agg #[.int .u32 3, .int .u32 1]) w := by kernel_rfl
theorem aw_b2 (w : World) : (Instr.build 69 #[(0, .string ⟨#[97]⟩), (1, .int .u8 1)]).run Try.prog w = .ok (.agg #[.string ⟨#[97]⟩, .int .u8 1, .bool false]) w := by kernel_rfl
theorem aw_b3 (w : World) : (Instr.buildSlice 37 1 #[(0, .agg #[.string ⟨#[97]⟩, .int .u8 1, .bool false])]).run Try.prog w = .ok (.slice (some ⟨w.heap.size, 0, none⟩) 1 1) (w.alloc (.cells #[.string ⟨#[97]⟩, .int .u8 1, .bool false] 69)) := by kernel_rfl
theorem aw_b4 (w : World) (g : Nat) : (Instr.build 39 #[(0, .agg #[.int .u32 3, .int .u32 1]), (1, .string ⟨#[116]⟩), (3, .slice (some ⟨g, 0, none⟩) 1 1)]).run Try.prog w = .ok (.agg #[.int .u32 3, .int .u32 1, .string ⟨#[116]⟩, .int .u8 0, .slice (some ⟨g, 0, none⟩) 1 1]) w := by kernel_rfl
theorem aw_b5 (w : World) (g h : Nat) : (Instr.buildSlice 62 2 #[(0, .agg #[.int .u32 3, .int .u32 2, .string ⟨#[116]⟩, .int .u8 0, .slice (some ⟨g, 0, none⟩) 1 1]), (1, .agg #[.int .u32 3, .int .u32 1, .string ⟨#[116]⟩, .int .u8 0, .slice (some ⟨h, 0, none⟩) 1 1])]).run Try.prog w =
    .ok (.slice (some ⟨w.heap.size, 0, none⟩) 2 2) (w.alloc (.cells #[.int .u32 3, .int .u32 2, .string ⟨#[116]⟩, .int .u8 0, .slice (some ⟨g, 0, none⟩) 1 1, .int .u32 3, .int .u32 1, .string ⟨#[116]⟩, .int .u8 0, .slice (some ⟨h, 0, none⟩) 1 1] 39)) := by kernel_rfl
theorem aw_f0 (w : World) (g : Nat) : (Instr.fieldAt 39 (.pointer (some ⟨g, 0, none⟩)) 0).run Try.prog w = .ok (.pointer (some ⟨g, 0, none⟩)) w := by kernel_rfl
theorem aw_f1 (w : World) (g : Nat) : (Instr.fieldAt 36 (.pointer (some ⟨g, 0, none⟩)) 1).run Try.prog w = .ok (.pointer (some ⟨g, 1, none⟩)) w := by kernel_rfl
set_option maxRecDepth 20000 in
set_option maxHeartbeats 4000000 in
theorem awake9_any (w : World) : Calls Try.prog 26 #[] w fun e w' => e = .returned (.bool true) ∧ Ext w w' := by
  have b1 := fun w => aw_b1 w
  have b2 := fun w => aw_b2 w
  have b3 := fun w => aw_b3 w
  have b4 := fun w g => aw_b4 w g
  have b5 := fun w g h => aw_b5 w g h
  have f0 := fun w g => aw_f0 w g
  have f1 := fun w g => aw_f1 w g
  obtain ⟨W4, hW4⟩ : ∃ W4, W4 = (((w.alloc (.cells #[.string ⟨#[97]⟩, .int .u8 1, .bool false] 69)).alloc (.cells #[.int .u32 3, .int .u32 1, .string ⟨#[116]⟩, .int .u8 0, .slice (some ⟨w.heap.size, 0, none⟩) 1 1] 39)).alloc (.cells #[.int .u32 3, .int .u32 2, .string ⟨#[116]⟩, .int .u8 0, .slice (some ⟨w.heap.size, 0, none⟩) 1 1] 39)).alloc
    (.cells #[.int .u32 3, .int .u32 2, .string ⟨#[116]⟩, .int .u8 0, .slice (some ⟨w.heap.size, 0, none⟩) 1 1, .int .u32 3, .int .u32 1, .string ⟨#[116]⟩, .int .u8 0, .slice (some ⟨w.heap.size, 0, none⟩) 1 1] 39) := ⟨_, rfl⟩
  have hx4 : Ext w W4 := by rw [hW4]; exact ((((Ch.refl _ _).alloc _).alloc _).alloc _).alloc _
  have HX4 := Lib.hid hx4
  have hg : W4.heap[w.heap.size]? = some (.cells #[.string ⟨#[97]⟩, .int .u8 1, .bool false] 69 (0, 0)) := by
    rw [hW4]; exact heap_ext ((((Ch.refl _ _).alloc _).alloc _).alloc _) (heap_alloc_new w _)
  have hs : W4.heap[w.heap.size + 1 + 1 + 1]? = some (.cells #[.int .u32 3, .int .u32 2, .string ⟨#[116]⟩, .int .u8 0, .slice (some ⟨w.heap.size, 0, none⟩) 1 1, .int .u32 3, .int .u32 1, .string ⟨#[116]⟩, .int .u8 0, .slice (some ⟨w.heap.size, 0, none⟩) 1 1] 39 (0, 0)) := by
    rw [hW4]
    have := heap_alloc_new (((w.alloc (.cells #[.string ⟨#[97]⟩, .int .u8 1, .bool false] 69)).alloc (.cells #[.int .u32 3, .int .u32 1, .string ⟨#[116]⟩, .int .u8 0, .slice (some ⟨w.heap.size, 0, none⟩) 1 1] 39)).alloc (.cells #[.int .u32 3, .int .u32 2, .string ⟨#[116]⟩, .int .u8 0, .slice (some ⟨w.heap.size, 0, none⟩) 1 1] 39)) (.cells #[.int .u32 3, .int .u32 2, .string ⟨#[116]⟩, .int .u8 0, .slice (some ⟨w.heap.size, 0, none⟩) 1 1, .int .u32 3, .int .u32 1, .string ⟨#[116]⟩, .int .u8 0, .slice (some ⟨w.heap.size, 0, none⟩) 1 1] 39)
    simpa using this
  have hcol : ColS W4 (.slice (some ⟨w.heap.size, 0, none⟩) 1 1) [⟨[97], 1, false⟩] := colS_heap (l := [⟨[97], 1, false⟩]) hg (by unfold maxLen; simp)
  have hrl : RlS (ColS W4) W4 (.slice (some ⟨w.heap.size + 1 + 1 + 1, 0, none⟩) 2 2) [awTwo, awOne] := by
    refine ⟨_, ⟨_, _, rfl, hcol, _, _, rfl, hcol, rfl⟩, some ⟨w.heap.size + 1 + 1 + 1, 0, none⟩, 2, rfl, Nat.le_refl _, by unfold maxLen; omega, (fun h => by cases h), fun x hx j u hu => ?_⟩
    cases hx
    refine ⟨_, 0, rfl, ?_⟩
    rw [cell_of_row _ _ _ _ _ _ hs]
    rw [← hu]
    simp [relv, strV, awOne, awTwo]
  have HOF := Lib.hid (ofC_any (.slice (some ⟨w.heap.size + 1 + 1 + 1, 0, none⟩) [awTwo, awOne].length 2) [awTwo, awOne] W4 hrl (by intro r hr; simp at hr; rcases hr with rfl | rfl <;> simp [Rl.fits, awOne, awTwo]))
  have HW4 := Lib.hid hW4
  clear hW4 hg hs hcol hrl hx4
  go_enter Try.func26, Try.ntmps26
  go_wp2_with fail
  rw [← HW4.out]
  refine HOF.out.mono ?_
  rintro e w5 ⟨hx5, (⟨-, p, rfl, hct⟩ | ⟨hne, -⟩)⟩
  · rw [aw_of] at hct
    have HCT := Lib.hid hct
    have HX5 := Lib.hid (HX4.out.trans hx5)
    have HBK := Lib.hid (back9_any W4.heap.size p [awOne, awTwo] w5 hct (by have := catOf_ok [awTwo, awOne] [] 0 CatOk.nil; rw [aw_of] at this; exact this) (by intro r hr; simp at hr; rcases hr with rfl | rfl <;> simp [awOne, awTwo]))
    obtain ⟨g, v0, rfl, _⟩ := id hct
    clear hct hx5 b1 b2 b3 b4 b5 f0 f1 HOF
    go_wp2_with fail
    refine HBK.out.mono ?_
    rintro e w6 ⟨hx6, v, rfl, hv⟩
    have HX6 := Lib.hid (HX5.out.trans hx6)
    have HV := Lib.hid hv
    have HLA := Lib.hid (last_any W4.heap.size (.pointer (some ⟨g, 0, none⟩)) [awOne, awTwo] 3 w6 (HCT.out.ext hx6) (by have := catOf_ok [awTwo, awOne] [] 0 CatOk.nil; rw [aw_of] at this; exact this))
    obtain ⟨vo, vc, rfl, _⟩ := hv.shape
    clear hx6 hv HBK
    go_wp2_with fail
    refine HLA.out.mono ?_
    rw [aw_young]
    rintro e w7 ⟨hx7, c, rfl, hc⟩
    have HX7 := Lib.hid (HX6.out.trans hx7)
    obtain ⟨b, o, cv, hvo, hra, _⟩ := rlS_at (HV.out.ext hx7 (Q := ColS w7) fun v c h => ColS.ext h hx7) (show 0 < [awOne, awTwo].length by decide)
    subst hvo
    obtain ⟨co, cc, rfl⟩ := owns_shape hc
    have eR : (Value.agg (relv ((some awTwo).getD .zero) (.slice co ((some awTwo).getD .zero).cols.length cc))) = .agg #[.int .u32 3, .int .u32 2, .string ⟨#[116]⟩, .int .u8 0, .slice co 1 cc] := rfl
    rw [eR, Option.isSome_some]
    clear eR
    obtain ⟨w8, hw8⟩ : ∃ w8, w8 = w7.alloc (.cells #[.int .u32 3, .int .u32 2, .string ⟨#[116]⟩, .int .u8 0, .slice co 1 cc] 39) := ⟨_, rfl⟩
    have hx8 : Ext w7 w8 := by rw [hw8]; exact (Ch.refl _ _).alloc _
    have q1 : w8.cell? ⟨b, o + 1, none⟩ = some (.int .u32 1) := hx8.cell (p := ⟨b, o + 1, none⟩) (fun f => f) _ (hra 1 _ rfl)
    obtain ⟨ci, chi, _, chs, _⟩ := info_parts infoQlZ
    have hidx := run_indexSl w8 Try.underlying22 chi chs b o 2 vc 0 (by decide)
    have HX8 := Lib.hid (HX7.out.trans hx8)
    rw [hw8] at q1 hidx HX8
    clear hx7 hc hra hx8 hw8 chi chs HLA
    go_wp2_with fail
    go_ret
    exact ⟨rfl, HX8.out⟩
  · exact absurd (by rw [aw_of]) hne
end Go.Proofs.Ytegclfpmgilnpaa
