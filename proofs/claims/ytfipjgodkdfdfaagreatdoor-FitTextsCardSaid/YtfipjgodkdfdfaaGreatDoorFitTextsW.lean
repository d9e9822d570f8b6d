/-
  FitTexts: the walk.
-/
import Derived.Test.YtfipjgodkdfdfaaGreatDoorFitC
namespace Go.Proofs.YtfipjgodkdfdfaaGreatDoor
open Go.RowKit Go.Lac

theorem buildFa14 (w : World) (x y z : Int) : (Instr.build 24 #[(0, .int .i64 x), (1, .int .i64 y), (2, .int .i64 z)]).run Tryz.prog w = .ok (.agg #[.int .i64 x, .int .i64 y, .int .i64 z]) w := by kernel_rfl
theorem fitTexts_walk (tx at' e : Int) (w : World) (h0 : -9223372036854775808 ≤ tx) (h1 : tx ≤ 9223372036854775807) (h2 : -9223372036854775808 ≤ at') (h3 : at' ≤ 9223372036854775807) (h4 : -9223372036854775808 ≤ e) (h5 : e ≤ 9223372036854775807) (ht : TabOk w) :
    Calls Tryz.prog 3 #[.int .i64 tx, .int .i64 at', .int .i64 e] w fun r w' => r = .returned (.bool true) ∧ Ext w w' := by
  obtain ⟨W, hW⟩ : ∃ W, W = w.alloc (.cells #[.int .i64 tx, .int .i64 at', .int .i64 e] 24) := ⟨_, rfl⟩
  have hx : Ext w W := by rw [hW]; exact (Ch.refl _ _).alloc _
  have hg : W.heap[w.heap.size]? = some (.cells #[.int .i64 tx, .int .i64 at', .int .i64 e] 24 (0, 0)) := by rw [hW]; exact heap_alloc_new _ _
  obtain ⟨c0, c1, c2⟩ := row3 hg
  rw [hW] at c0 c1 c2
  have HW := Lib.hid hW; have HX := Lib.hid hx
  have HF := Lib.hid (errFit_any tx at' e W h0 h1 h2 h3 h4 h5 (TabOk.ext ht hx))
  have HD := Lib.hid (fun w => errDoc_any tx at' e w h0 h1 h2 h3 h4 h5)
  have HTB := Lib.hid ht
  have hb := fun w => buildFa14 w tx at' e
  generalize errText tx at' e = S at *
  clear h0 h1 h2 h3 h4 h5 ht hx hg hW
  go_enter Tryz.func3, Tryz.ntmps3
  go_wp2_with fail
  rw [← HW.out]
  refine HF.out.mono ?_
  rintro r w1 ⟨rfl, hx1⟩
  have HX1 := Lib.hid (HX.out.trans hx1); clear hx1
  go_wp2_with fail
  refine (HD.out _).mono ?_
  rintro r w2 ⟨rfl, rfl⟩
  go_wp2_with fail
  refine (awake14_any _ (HTB.out.ext HX1.out)).mono ?_
  rintro r w3 ⟨rfl, hx3⟩
  have HX3 := Lib.hid (HX1.out.trans hx3); clear hx3
  go_wp2
  go_ret
  exact ⟨rfl, HX3.out⟩
end Go.Proofs.YtfipjgodkdfdfaaGreatDoor
