/-
  The chapter's examples (awake) of the sums.
-/
import Derived.Test.YtcdhalgpnhdbnaaProg
import Derived.Test.YtcdhalgpnhdbnaaLib
import Derived.Test.YtcdhalgpnhdbnaaCrcC
import Derived.WalkKit
import Derived.Lib.Hide
import Derived.Lib.SlBytesConst
namespace Go.Proofs.Ytcdhalgpnhdbnaa
open Go.RowKit Go.Lac

theorem sum_nine : crcSum [49, 50, 51, 52, 53, 54, 55, 56, 57] = 3808858755 := by decide +kernel

theorem rd_new_fr (w : World) (bs : List UInt8) (E : TypeId) (fr : Nat × Nat) (h : bs.length ≤ maxLen) : Rd (w.alloc (.cells (cellsB bs).toArray E fr)) (.slice (some ⟨w.heap.size, 0, none⟩) bs.length bs.length) bs := by
  refine ⟨_, bs.length, rfl, Nat.le_refl _, h, (fun h => by cases h), fun x hx j u hu => ?_⟩
  cases hx
  refine ⟨w.heap.size, 0, rfl, ?_⟩
  rw [Nat.zero_add, cell_of_row _ _ _ _ _ _ (heap_alloc_new w _)]
  simpa using hu
def nine : List UInt8 := [49, 50, 51, 52, 53, 54, 55, 56, 57]
theorem nine_cells : (cellsB nine).toArray = #[.int .u8 49, .int .u8 50, .int .u8 51, .int .u8 52, .int .u8 53, .int .u8 54, .int .u8 55, .int .u8 56, .int .u8 57] := rfl

set_option maxRecDepth 20000 in
set_option maxHeartbeats 1000000 in
theorem awake3_any (w : World) : Calls Try.prog 15 #[] w fun e w' => e = .returned (.bool true) ∧ Ext w w' := by
  have kc := fun (w : World) (C : Array Value) (n c : Nat) => Lib.run_convert_bytes_const (P := Try.prog) w 23 5 C n c Try.underlying23 Try.underlying5
  have hr := rd_new_fr w nine 5 (9, 10) (by decide)
  rw [nine_cells, show nine.length = 9 from rfl] at hr
  have h1 := of_any _ _ _ (parts_one hr 23)
  rw [show [nine].flatten = nine by simp, show crcSum nine = 3808858755 from sum_nine] at h1
  simp only [World.size_alloc] at h1
  have h2 := fun w => of_any _ _ w (parts_nil w)
  rw [show ([] : List (List UInt8)).flatten = [] from rfl, crcSum_nil] at h2
  have H1 := Lib.hid h1; have H2 := Lib.hid h2; clear hr h1 h2
  go_enter Try.func15, Try.ntmps15
  go_wp2_with (go_at_call 12; refine H1.out.mono ?_)
  rintro e w1 ⟨rfl, hx⟩
  have HX := Lib.hid ((((Ch.refl _ w).alloc _).alloc _).trans hx); clear hx
  go_wp2_with (go_at_call 12; refine (H2.out _).mono ?_)
  rintro e w2 ⟨rfl, hx⟩
  have HX2 := Lib.hid (HX.out.trans hx); clear hx
  go_wp2
  go_ret
  exact ⟨rfl, HX2.out⟩
end Go.Proofs.Ytcdhalgpnhdbnaa
