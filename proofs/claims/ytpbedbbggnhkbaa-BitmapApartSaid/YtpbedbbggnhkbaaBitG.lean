/-
  The chapter's examples (awake).
-/
import Derived.Test.YtpbedbbggnhkbaaProg
import Derived.Test.YtpbedbbggnhkbaaLib
import Derived.Test.YtpbedbbggnhkbaaBitD
import Derived.Test.YtpbedbbggnhkbaaBitE
import Derived.WalkKit
import Derived.Lib.Hide
namespace Go.Proofs.Ytpbedbbggnhkbaa
open Go.RowKit Go.Lac

theorem unp8 : unpC [8] 3 = 3 := by decide
theorem packFTT : mapB [false, true, true] = [6] := by decide

set_option maxRecDepth 20000 in
set_option maxHeartbeats 1000000 in
theorem awake2_any (w : World) : Calls Try.prog 41 #[] w fun e w' => e = .returned (.bool true) ∧ Ext w w' := by
  have hb : RdBools (w.alloc (.cells #[.bool false, .bool true, .bool true] 4)) (.slice (some ⟨w.heap.size, 0, none⟩) 3 3) [false, true, true] :=
    bools_of_heap (heap_alloc_new w _) rfl (by decide)
  have hp := pack_any _ _ _ hb
  have HP := Lib.hid hp; clear hp hb
  go_enter Try.func41, Try.ntmps41
  go_wp2_with (go_at_call 38; refine HP.out.mono ?_)
  rintro e w1 hpost
  unfold PackPost at hpost
  rw [if_pos (by decide), packFTT] at hpost
  obtain ⟨s, rfl, h1, h2, _⟩ := hpost
  have H1 := Lib.hid (((Ch.refl _ w).alloc _).trans h1); have H2 := Lib.hid h2; clear h1 h2
  have hu := unpack_any _ _ 3 _ (rd_new w1 [8] 5 (by decide)) (by decide)
  have HU := Lib.hid hu; clear hu
  go_wp2_with (go_at_call 42; refine HU.out.mono ?_)
  rintro e w2 ⟨s2, rfl, k1, k2⟩
  rw [unp8]
  have HX := Lib.hid (H1.out.trans (((Ch.refl _ w1).alloc _).trans k1))
  have hcv := run_toString (P := Try.prog) (Rd.ext H2.out (((Ch.refl _ w1).alloc _).trans k1)) (src := 22) (dst := 9) Try.underlying22 Try.underlying5 Try.underlying9
  rw [show strV [6] = .string ⟨#[6]⟩ from rfl] at hcv
  have hq : ∀ w, (binOp .eql 9 (.string ⟨#[6]⟩) (.string ⟨#[6]⟩)).run Try.prog w = .ok (.bool true) w := fun w => run_streq w Try.underlying9 [6] [6]
  clear k1 k2
  go_wp2
  go_ret
  exact ⟨rfl, HX.out⟩
end Go.Proofs.Ytpbedbbggnhkbaa
