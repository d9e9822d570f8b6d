/-
  Relations: the chapter's example holds (lacunalaw08.awake).
-/
import Derived.Test.YtcejjckhhdgdnaaRelK
namespace Go.Proofs.Ytcejjckhhdgdnaa
open Go.RowKit Go.Lac

theorem colS_heap {w : World} {g : Nat} {l : List Col} {T : TypeId} (h : w.heap[g]? = some (.cells (colC l).toArray T (0, 0))) (hl : l.length ≤ maxLen) : ColS w (.slice (some ⟨g, 0, none⟩) l.length l.length) l := by
  refine ⟨_, l.length, rfl, Nat.le_refl _, hl, (fun h => by cases h), fun x hx j u hu => ?_⟩
  cases hx
  refine ⟨g, 0, rfl, ?_⟩
  rw [Nat.zero_add, cell_of_row w g j _ _ _ h]
  simpa using hu
theorem sev_5 : sev 5 = [5] := by rw [sev_small (by decide)]; rfl
theorem sev_1' : sev 1 = [1] := by rw [sev_small (by decide)]; rfl
def egR : Rl := ⟨5, 1, [116], 1, [⟨[97], 2, true⟩]⟩
theorem egR_err : rlErr egR = 0 := by decide
theorem egR_bytes : rlBytes egR = [5, 1, 1, 116, 1, 1, 1, 97, 130] := by
  unfold rlBytes egR colB txt
  simp only [List.flatMap_cons, List.flatMap_nil, List.length_cons, List.length_nil, Nat.zero_add]
  rw [sev_5, sev_1']
  rfl
theorem egR_ok : egR.ok := ⟨by decide, by decide, by decide, by unfold Col.ok; decide⟩
theorem egR_fits : egR.fits := ⟨by decide, by decide⟩
theorem build_rf (w : World) (x y : Int) : (Instr.build 29 #[(0, .int .u32 x), (1, .int .u32 y)]).run Try.prog w = .ok (.agg #[.int .u32 x, .int .u32 y]) w := by kernel_rfl
theorem one_co (w : World) (A : ByteArray) (n : Int) (k : Bool) : (Instr.buildSlice 30 1 #[(0, .agg #[.string A, .int .u8 n, .bool k])]).run Try.prog w = .ok (.slice (some ⟨w.heap.size, 0, none⟩) 1 1) (w.alloc (.cells #[.string A, .int .u8 n, .bool k] 49)) := by kernel_rfl
theorem build_rl (w : World) (x y i : Int) (A : ByteArray) (b n c : Nat) : (Instr.build 32 #[(0, .agg #[.int .u32 x, .int .u32 y]), (1, .string A), (2, .int .u8 i), (3, .slice (some ⟨b, 0, none⟩) n c)]).run Try.prog w = .ok (.agg #[.int .u32 x, .int .u32 y, .string A, .int .u8 i, .slice (some ⟨b, 0, none⟩) n c]) w := by kernel_rfl

set_option maxRecDepth 20000 in
set_option maxHeartbeats 1600000 in
theorem awake8_any (w : World) : Calls Try.prog 22 #[] w fun e w' => e = .returned (.bool true) ∧ Ext w w' := by
  have hg := heap_alloc_new w (.cells #[.string ⟨#[97]⟩, .int .u8 2, .bool true] 49)
  obtain ⟨W, hW⟩ : ∃ W, W = w.alloc (.cells #[.string ⟨#[97]⟩, .int .u8 2, .bool true] 49) := ⟨_, rfl⟩
  have hx : Ext w W := by rw [hW]; exact (Ch.refl _ _).alloc _
  rw [← hW] at hg
  have hc : ColS W (.slice (some ⟨w.heap.size, 0, none⟩) 1 1) egR.cols := colS_heap (l := egR.cols) hg (by decide)
  have he := relEnc_any egR (.slice (some ⟨w.heap.size, 0, none⟩) 1 1) W hc egR_fits egR_ok
  rw [egR_err, egR_bytes] at he
  have hrl : relv egR (.slice (some ⟨w.heap.size, 0, none⟩) 1 1) = #[.int .u32 5, .int .u32 1, .string ⟨#[116]⟩, .int .u8 1, .slice (some ⟨w.heap.size, 0, none⟩) 1 1] := rfl
  rw [hrl] at he
  have HE := Lib.hid he; have HX := Lib.hid hx; have HW := Lib.hid hW
  have b1 := fun w => build_rf w 5 1
  have b2 := fun w => buildCo w ⟨#[97]⟩ 2 true
  have b3 := fun w => one_co w ⟨#[97]⟩ 2 true
  have b4 := fun w b => build_rl w 5 1 1 ⟨#[116]⟩ b 1 1
  clear hg hW hx hc he hrl
  go_enter Try.func22, Try.ntmps22
  go_wp2_with fail
  rw [← HW.out]
  refine HE.out.mono ?_
  rintro e w1 ⟨s, rfl, hx, hr⟩
  rw [if_pos rfl] at hr
  have HX1 := Lib.hid (HX.out.trans hx)
  have hs1 := run_toString (P := Try.prog) hr (src := 34) (dst := 9) Try.underlying34 Try.underlying5 Try.underlying9
  have hr2 := rd_new w1 [5, 1, 1, 116, 1, 1, 1, 97, 130] 5 (by decide)
  have hs2 := run_toString (P := Try.prog) hr2 (src := 34) (dst := 9) Try.underlying34 Try.underlying5 Try.underlying9
  obtain ⟨a1, c1, rfl⟩ := hr.shape
  have hs1' : (convert 34 9 (.slice a1 9 c1)).run Try.prog w1 = .ok (.string ⟨#[5, 1, 1, 116, 1, 1, 1, 97, 130]⟩) w1 := hs1
  have hs2' : (convert 34 9 (.slice (some ⟨w1.heap.size, 0, none⟩) 9 9)).run Try.prog (w1.alloc (.cells #[.int .u8 5, .int .u8 1, .int .u8 1, .int .u8 116, .int .u8 1, .int .u8 1, .int .u8 1, .int .u8 97, .int .u8 130] 5)) = .ok (.string ⟨#[5, 1, 1, 116, 1, 1, 1, 97, 130]⟩) (w1.alloc (.cells #[.int .u8 5, .int .u8 1, .int .u8 1, .int .u8 116, .int .u8 1, .int .u8 1, .int .u8 1, .int .u8 97, .int .u8 130] 5)) := hs2
  clear hx hr hr2 b1 b2 b3 b4 hs1 hs2
  generalize (⟨#[5, 1, 1, 116, 1, 1, 1, 97, 130]⟩ : ByteArray) = A at *
  go_wp2
  go_ret
  exact ⟨by simp, HX1.out.alloc _⟩
end Go.Proofs.Ytcejjckhhdgdnaa
