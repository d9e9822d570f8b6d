/-
  The reference: what bytes begin with: the walk.
-/
import Derived.Test.YtoggnmfjkbnopaaProg
import Derived.Test.YtoggnmfjkbnopaaLib
import Derived.Test.YtoggnmfjkbnopaaLibC
import Derived.Test.YtoggnmfjkbnopaaInfo
import Derived.Test.YtoggnmfjkbnopaaLibD
import Derived.Test.YtoggnmfjkbnopaaEqual
import Derived.Test.YtoggnmfjkbnopaaCrcG
import Derived.Test.YtoggnmfjkbnopaaFrD
import Derived.Test.YtoggnmfjkbnopaaFrE
import Derived.Test.YtoggnmfjkbnopaaFrF
import Derived.WalkKit
import Derived.Lib.Hide
import Derived.Outline
import Derived.Laws.BitsAllLaws
namespace Go.Proofs.Ytoggnmfjkbnopaa
open Go.RowKit Go.Lac

theorem frErr_right (b : List UInt8) (h0 : hdAt b 0 = 76) (h1 : hdAt b 1 = 103) (c : Nat) (hc : frRight (hdAt b 2) (hdAt b 3) (frN b) = c) (hne : c ≠ 0) : frErr b = c := by
  unfold frErr
  rw [if_neg (by omega), if_pos (by omega)]
  exact hc
theorem frErr_short (b : List UInt8) (h : b.length < 6) (h0 : hdAt b 0 = 76) (h1 : hdAt b 1 = 103) (h2 : hdAt b 2 = 1 ∨ hdAt b 2 = 2) (h3 : 1 ≤ hdAt b 3 ∧ hdAt b 3 ≤ 8) : frErr b = 1 := by
  have h5 : hdAt b 5 = 0 := by rw [hdAt_out (by omega)]; decide
  have h4 := hdAt_lt b 4
  have hn : frN b < 256 := by unfold frN; omega
  have hr : frRight (hdAt b 2) (hdAt b 3) (frN b) = 0 := by unfold frRight; rw [if_neg (by omega), if_neg (by omega), if_neg (by omega)]
  unfold frErr
  rw [if_neg (by omega), if_neg (by omega), if_pos (by omega)]

set_option maxRecDepth 20000 in
set_option maxHeartbeats 1000000 in
theorem refParse_b0 (b : List UInt8) (ao : Option Addr) (cap : Nat) (w : World) (h : Rd w (.slice ao b.length cap) b) (hlo : 1 ≤ b.length) (q0 : hdAt b 0 ≠ 76) :
    Calls Try.prog 42 #[.slice ao b.length cap] w (ParsePost b w) := by
  have hfe : frErr b = 3 := by unfold frErr; rw [if_pos (by omega)]
  have HF := Lib.hid (ParsePost.err hfe (by decide) ((Ch.refl _ w).alloc (.cells #[.int .u8 0, .int .u8 0, .slice none 0 0] 44)))
  clear hfe
  obtain ⟨gb, ob, rfl, _, _, g3⟩ := bytes_cell h rfl (by omega)
  have c0 : w.cell? ⟨gb, ob, none⟩ = some (.int .u8 (hdAt b 0 : Nat)) := by rw [hdAt_in (show 0 < b.length by omega)]; exact g3 0 (by omega)
  have hgb : gb < w.heap.size := World.block_lt_of_cell? w _ c0
  generalize hdAt b 0 = h0 at *
  have b0 : ((h0 : Int) != 76) = true := by simp; omega
  clear q0
  clear g3
  clear h
  generalize b.length = n at *
  go_enter Try.func42, Try.ntmps42
  go_wp2
  refine bodyPost_ret (results_cell3 rfl _ _ w.heap.size _ #[.int .u8 0, .int .u8 0, .slice none 0 0] _ _ rfl (heap_alloc_new w _) Try.underlying44 rfl (by kernel_rfl)) rfl ?_
  exact HF.out

set_option maxRecDepth 20000 in
set_option maxHeartbeats 1000000 in
theorem refParse_b1 (b : List UInt8) (ao : Option Addr) (cap : Nat) (w : World) (h : Rd w (.slice ao b.length cap) b) (hlo : 2 ≤ b.length) (q0 : hdAt b 0 = 76) (q1 : hdAt b 1 ≠ 103) :
    Calls Try.prog 42 #[.slice ao b.length cap] w (ParsePost b w) := by
  have hfe : frErr b = 3 := by unfold frErr; rw [if_pos (by omega)]
  have HF := Lib.hid (ParsePost.err hfe (by decide) ((Ch.refl _ w).alloc (.cells #[.int .u8 0, .int .u8 0, .slice none 0 0] 44)))
  clear hfe
  obtain ⟨gb, ob, rfl, _, _, g3⟩ := bytes_cell h rfl (by omega)
  have c0 : w.cell? ⟨gb, ob, none⟩ = some (.int .u8 (hdAt b 0 : Nat)) := by rw [hdAt_in (show 0 < b.length by omega)]; exact g3 0 (by omega)
  have c1 : w.cell? ⟨gb, ob + 1, none⟩ = some (.int .u8 (hdAt b 1 : Nat)) := by rw [hdAt_in (show 1 < b.length by omega)]; exact g3 1 (by omega)
  have hgb : gb < w.heap.size := World.block_lt_of_cell? w _ c0
  rw [q0] at c0
  clear q0
  generalize hdAt b 1 = h1 at *
  have b1 : ((h1 : Int) != 103) = true := by simp; omega
  clear q1
  clear g3
  clear h
  generalize b.length = n at *
  go_enter Try.func42, Try.ntmps42
  go_wp2
  refine bodyPost_ret (results_cell3 rfl _ _ w.heap.size _ #[.int .u8 0, .int .u8 0, .slice none 0 0] _ _ rfl (heap_alloc_new w _) Try.underlying44 rfl (by kernel_rfl)) rfl ?_
  exact HF.out

set_option maxRecDepth 20000 in
set_option maxHeartbeats 1000000 in
theorem refParse_v (b : List UInt8) (ao : Option Addr) (cap : Nat) (w : World) (h : Rd w (.slice ao b.length cap) b) (hlo : 3 ≤ b.length) (q0 : hdAt b 0 = 76) (q1 : hdAt b 1 = 103) (q2 : hdAt b 2 ≠ 1 ∧ hdAt b 2 ≠ 2) :
    Calls Try.prog 42 #[.slice ao b.length cap] w (ParsePost b w) := by
  have hfe : frErr b = 18 := frErr_right b q0 q1 18 (by unfold frRight; rw [if_pos q2]) (by decide)
  have HF := Lib.hid (ParsePost.err hfe (by decide) ((Ch.refl _ w).alloc (.cells #[.int .u8 0, .int .u8 0, .slice none 0 0] 44)))
  clear hfe
  obtain ⟨gb, ob, rfl, _, _, g3⟩ := bytes_cell h rfl (by omega)
  have c0 : w.cell? ⟨gb, ob, none⟩ = some (.int .u8 (hdAt b 0 : Nat)) := by rw [hdAt_in (show 0 < b.length by omega)]; exact g3 0 (by omega)
  have c1 : w.cell? ⟨gb, ob + 1, none⟩ = some (.int .u8 (hdAt b 1 : Nat)) := by rw [hdAt_in (show 1 < b.length by omega)]; exact g3 1 (by omega)
  have c2 : w.cell? ⟨gb, ob + 2, none⟩ = some (.int .u8 (hdAt b 2 : Nat)) := by rw [hdAt_in (show 2 < b.length by omega)]; exact g3 2 (by omega)
  have hgb : gb < w.heap.size := World.block_lt_of_cell? w _ c0
  rw [q0] at c0
  clear q0
  rw [q1] at c1
  clear q1
  generalize hdAt b 2 = h2 at *
  have b2a : ((h2 : Int) != 1) = true := by simp; omega
  have b2b : ((h2 : Int) != 2) = true := by simp; omega
  clear q2
  clear g3
  clear h
  generalize b.length = n at *
  go_enter Try.func42, Try.ntmps42
  go_wp2
  refine bodyPost_ret (results_cell3 rfl _ _ w.heap.size _ #[.int .u8 0, .int .u8 0, .slice none 0 0] _ _ rfl (heap_alloc_new w _) Try.underlying44 rfl (by kernel_rfl)) rfl ?_
  exact HF.out

set_option maxRecDepth 20000 in
set_option maxHeartbeats 1000000 in
theorem refParse_klo1 (b : List UInt8) (ao : Option Addr) (cap : Nat) (w : World) (h : Rd w (.slice ao b.length cap) b) (hlo : 4 ≤ b.length) (q0 : hdAt b 0 = 76) (q1 : hdAt b 1 = 103) (q2 : hdAt b 2 = 1) (q3 : hdAt b 3 = 0) :
    Calls Try.prog 42 #[.slice ao b.length cap] w (ParsePost b w) := by
  have hfe : frErr b = 7 := frErr_right b q0 q1 7 (by unfold frRight; rw [if_neg (by omega), if_pos (by omega)]) (by decide)
  have HF := Lib.hid (ParsePost.err hfe (by decide) ((Ch.refl _ w).alloc (.cells #[.int .u8 0, .int .u8 0, .slice none 0 0] 44)))
  clear hfe
  obtain ⟨gb, ob, rfl, _, _, g3⟩ := bytes_cell h rfl (by omega)
  have c0 : w.cell? ⟨gb, ob, none⟩ = some (.int .u8 (hdAt b 0 : Nat)) := by rw [hdAt_in (show 0 < b.length by omega)]; exact g3 0 (by omega)
  have c1 : w.cell? ⟨gb, ob + 1, none⟩ = some (.int .u8 (hdAt b 1 : Nat)) := by rw [hdAt_in (show 1 < b.length by omega)]; exact g3 1 (by omega)
  have c2 : w.cell? ⟨gb, ob + 2, none⟩ = some (.int .u8 (hdAt b 2 : Nat)) := by rw [hdAt_in (show 2 < b.length by omega)]; exact g3 2 (by omega)
  have c3 : w.cell? ⟨gb, ob + 3, none⟩ = some (.int .u8 (hdAt b 3 : Nat)) := by rw [hdAt_in (show 3 < b.length by omega)]; exact g3 3 (by omega)
  have hgb : gb < w.heap.size := World.block_lt_of_cell? w _ c0
  rw [q0] at c0
  clear q0
  rw [q1] at c1
  clear q1
  rw [q2] at c2
  clear q2
  rw [q3] at c3
  clear q3
  clear g3
  clear h
  generalize b.length = n at *
  go_enter Try.func42, Try.ntmps42
  go_wp2
  refine bodyPost_ret (results_cell3 rfl _ _ w.heap.size _ #[.int .u8 0, .int .u8 0, .slice none 0 0] _ _ rfl (heap_alloc_new w _) Try.underlying44 rfl (by kernel_rfl)) rfl ?_
  exact HF.out

set_option maxRecDepth 20000 in
set_option maxHeartbeats 1000000 in
theorem refParse_khi1 (b : List UInt8) (ao : Option Addr) (cap : Nat) (w : World) (h : Rd w (.slice ao b.length cap) b) (hlo : 4 ≤ b.length) (q0 : hdAt b 0 = 76) (q1 : hdAt b 1 = 103) (q2 : hdAt b 2 = 1) (q3 : 8 < hdAt b 3) :
    Calls Try.prog 42 #[.slice ao b.length cap] w (ParsePost b w) := by
  have hfe : frErr b = 7 := frErr_right b q0 q1 7 (by unfold frRight; rw [if_neg (by omega), if_pos (by omega)]) (by decide)
  have HF := Lib.hid (ParsePost.err hfe (by decide) ((Ch.refl _ w).alloc (.cells #[.int .u8 0, .int .u8 0, .slice none 0 0] 44)))
  clear hfe
  obtain ⟨gb, ob, rfl, _, _, g3⟩ := bytes_cell h rfl (by omega)
  have c0 : w.cell? ⟨gb, ob, none⟩ = some (.int .u8 (hdAt b 0 : Nat)) := by rw [hdAt_in (show 0 < b.length by omega)]; exact g3 0 (by omega)
  have c1 : w.cell? ⟨gb, ob + 1, none⟩ = some (.int .u8 (hdAt b 1 : Nat)) := by rw [hdAt_in (show 1 < b.length by omega)]; exact g3 1 (by omega)
  have c2 : w.cell? ⟨gb, ob + 2, none⟩ = some (.int .u8 (hdAt b 2 : Nat)) := by rw [hdAt_in (show 2 < b.length by omega)]; exact g3 2 (by omega)
  have c3 : w.cell? ⟨gb, ob + 3, none⟩ = some (.int .u8 (hdAt b 3 : Nat)) := by rw [hdAt_in (show 3 < b.length by omega)]; exact g3 3 (by omega)
  have hgb : gb < w.heap.size := World.block_lt_of_cell? w _ c0
  rw [q0] at c0
  clear q0
  rw [q1] at c1
  clear q1
  rw [q2] at c2
  clear q2
  generalize hdAt b 3 = h3 at *
  clear g3
  clear h
  generalize b.length = n at *
  go_enter Try.func42, Try.ntmps42
  go_wp2
  refine bodyPost_ret (results_cell3 rfl _ _ w.heap.size _ #[.int .u8 0, .int .u8 0, .slice none 0 0] _ _ rfl (heap_alloc_new w _) Try.underlying44 rfl (by kernel_rfl)) rfl ?_
  exact HF.out

set_option maxRecDepth 20000 in
set_option maxHeartbeats 1000000 in
theorem refParse_klo2 (b : List UInt8) (ao : Option Addr) (cap : Nat) (w : World) (h : Rd w (.slice ao b.length cap) b) (hlo : 4 ≤ b.length) (q0 : hdAt b 0 = 76) (q1 : hdAt b 1 = 103) (q2 : hdAt b 2 = 2) (q3 : hdAt b 3 = 0) :
    Calls Try.prog 42 #[.slice ao b.length cap] w (ParsePost b w) := by
  have hfe : frErr b = 7 := frErr_right b q0 q1 7 (by unfold frRight; rw [if_neg (by omega), if_pos (by omega)]) (by decide)
  have HF := Lib.hid (ParsePost.err hfe (by decide) ((Ch.refl _ w).alloc (.cells #[.int .u8 0, .int .u8 0, .slice none 0 0] 44)))
  clear hfe
  obtain ⟨gb, ob, rfl, _, _, g3⟩ := bytes_cell h rfl (by omega)
  have c0 : w.cell? ⟨gb, ob, none⟩ = some (.int .u8 (hdAt b 0 : Nat)) := by rw [hdAt_in (show 0 < b.length by omega)]; exact g3 0 (by omega)
  have c1 : w.cell? ⟨gb, ob + 1, none⟩ = some (.int .u8 (hdAt b 1 : Nat)) := by rw [hdAt_in (show 1 < b.length by omega)]; exact g3 1 (by omega)
  have c2 : w.cell? ⟨gb, ob + 2, none⟩ = some (.int .u8 (hdAt b 2 : Nat)) := by rw [hdAt_in (show 2 < b.length by omega)]; exact g3 2 (by omega)
  have c3 : w.cell? ⟨gb, ob + 3, none⟩ = some (.int .u8 (hdAt b 3 : Nat)) := by rw [hdAt_in (show 3 < b.length by omega)]; exact g3 3 (by omega)
  have hgb : gb < w.heap.size := World.block_lt_of_cell? w _ c0
  rw [q0] at c0
  clear q0
  rw [q1] at c1
  clear q1
  rw [q2] at c2
  clear q2
  rw [q3] at c3
  clear q3
  clear g3
  clear h
  generalize b.length = n at *
  go_enter Try.func42, Try.ntmps42
  go_wp2
  refine bodyPost_ret (results_cell3 rfl _ _ w.heap.size _ #[.int .u8 0, .int .u8 0, .slice none 0 0] _ _ rfl (heap_alloc_new w _) Try.underlying44 rfl (by kernel_rfl)) rfl ?_
  exact HF.out

set_option maxRecDepth 20000 in
set_option maxHeartbeats 1000000 in
theorem refParse_khi2 (b : List UInt8) (ao : Option Addr) (cap : Nat) (w : World) (h : Rd w (.slice ao b.length cap) b) (hlo : 4 ≤ b.length) (q0 : hdAt b 0 = 76) (q1 : hdAt b 1 = 103) (q2 : hdAt b 2 = 2) (q3 : 8 < hdAt b 3) :
    Calls Try.prog 42 #[.slice ao b.length cap] w (ParsePost b w) := by
  have hfe : frErr b = 7 := frErr_right b q0 q1 7 (by unfold frRight; rw [if_neg (by omega), if_pos (by omega)]) (by decide)
  have HF := Lib.hid (ParsePost.err hfe (by decide) ((Ch.refl _ w).alloc (.cells #[.int .u8 0, .int .u8 0, .slice none 0 0] 44)))
  clear hfe
  obtain ⟨gb, ob, rfl, _, _, g3⟩ := bytes_cell h rfl (by omega)
  have c0 : w.cell? ⟨gb, ob, none⟩ = some (.int .u8 (hdAt b 0 : Nat)) := by rw [hdAt_in (show 0 < b.length by omega)]; exact g3 0 (by omega)
  have c1 : w.cell? ⟨gb, ob + 1, none⟩ = some (.int .u8 (hdAt b 1 : Nat)) := by rw [hdAt_in (show 1 < b.length by omega)]; exact g3 1 (by omega)
  have c2 : w.cell? ⟨gb, ob + 2, none⟩ = some (.int .u8 (hdAt b 2 : Nat)) := by rw [hdAt_in (show 2 < b.length by omega)]; exact g3 2 (by omega)
  have c3 : w.cell? ⟨gb, ob + 3, none⟩ = some (.int .u8 (hdAt b 3 : Nat)) := by rw [hdAt_in (show 3 < b.length by omega)]; exact g3 3 (by omega)
  have hgb : gb < w.heap.size := World.block_lt_of_cell? w _ c0
  rw [q0] at c0
  clear q0
  rw [q1] at c1
  clear q1
  rw [q2] at c2
  clear q2
  generalize hdAt b 3 = h3 at *
  clear g3
  clear h
  generalize b.length = n at *
  go_enter Try.func42, Try.ntmps42
  go_wp2
  refine bodyPost_ret (results_cell3 rfl _ _ w.heap.size _ #[.int .u8 0, .int .u8 0, .slice none 0 0] _ _ rfl (heap_alloc_new w _) Try.underlying44 rfl (by kernel_rfl)) rfl ?_
  exact HF.out

set_option maxRecDepth 20000 in
set_option maxHeartbeats 1000000 in
theorem refParse_s0 (b : List UInt8) (ao : Option Addr) (cap : Nat) (w : World) (h : Rd w (.slice ao b.length cap) b) (hhi : b.length ≤ 0) :
    Calls Try.prog 42 #[.slice ao b.length cap] w (ParsePost b w) := by
  have hfe : frErr b = 1 := frErr_short b (by omega) (by rw [hdAt_out (by omega)]; decide) (by rw [hdAt_out (by omega)]; decide) (.inl (by rw [hdAt_out (by omega)]; decide)) (by rw [hdAt_out (by omega)]; decide)
  have HF := Lib.hid (ParsePost.err hfe (by decide) ((Ch.refl _ w).alloc (.cells #[.int .u8 0, .int .u8 0, .slice none 0 0] 44)))
  clear hfe
  clear h
  generalize b.length = n at *
  obtain rfl : n = 0 := by omega
  go_enter Try.func42, Try.ntmps42
  go_wp2
  refine bodyPost_ret (results_cell3 rfl _ _ w.heap.size _ #[.int .u8 0, .int .u8 0, .slice none 0 0] _ _ rfl (heap_alloc_new w _) Try.underlying44 rfl (by kernel_rfl)) rfl ?_
  exact HF.out

set_option maxRecDepth 20000 in
set_option maxHeartbeats 1000000 in
theorem refParse_s1 (b : List UInt8) (ao : Option Addr) (cap : Nat) (w : World) (h : Rd w (.slice ao b.length cap) b) (hlo : 1 ≤ b.length) (hhi : b.length ≤ 1) (q0 : hdAt b 0 = 76) :
    Calls Try.prog 42 #[.slice ao b.length cap] w (ParsePost b w) := by
  have hfe : frErr b = 1 := frErr_short b (by omega) q0 (by rw [hdAt_out (by omega)]; decide) (.inl (by rw [hdAt_out (by omega)]; decide)) (by rw [hdAt_out (by omega)]; decide)
  have HF := Lib.hid (ParsePost.err hfe (by decide) ((Ch.refl _ w).alloc (.cells #[.int .u8 0, .int .u8 0, .slice none 0 0] 44)))
  clear hfe
  obtain ⟨gb, ob, rfl, _, _, g3⟩ := bytes_cell h rfl (by omega)
  have c0 : w.cell? ⟨gb, ob, none⟩ = some (.int .u8 (hdAt b 0 : Nat)) := by rw [hdAt_in (show 0 < b.length by omega)]; exact g3 0 (by omega)
  have hgb : gb < w.heap.size := World.block_lt_of_cell? w _ c0
  rw [q0] at c0
  clear q0
  clear g3
  clear h
  generalize b.length = n at *
  obtain rfl : n = 1 := by omega
  go_enter Try.func42, Try.ntmps42
  go_wp2
  refine bodyPost_ret (results_cell3 rfl _ _ w.heap.size _ #[.int .u8 0, .int .u8 0, .slice none 0 0] _ _ rfl (heap_alloc_new w _) Try.underlying44 rfl (by kernel_rfl)) rfl ?_
  exact HF.out

set_option maxRecDepth 20000 in
set_option maxHeartbeats 1000000 in
theorem refParse_s2 (b : List UInt8) (ao : Option Addr) (cap : Nat) (w : World) (h : Rd w (.slice ao b.length cap) b) (hlo : 2 ≤ b.length) (hhi : b.length ≤ 2) (q0 : hdAt b 0 = 76) (q1 : hdAt b 1 = 103) :
    Calls Try.prog 42 #[.slice ao b.length cap] w (ParsePost b w) := by
  have hfe : frErr b = 1 := frErr_short b (by omega) q0 q1 (.inl (by rw [hdAt_out (by omega)]; decide)) (by rw [hdAt_out (by omega)]; decide)
  have HF := Lib.hid (ParsePost.err hfe (by decide) ((Ch.refl _ w).alloc (.cells #[.int .u8 0, .int .u8 0, .slice none 0 0] 44)))
  clear hfe
  obtain ⟨gb, ob, rfl, _, _, g3⟩ := bytes_cell h rfl (by omega)
  have c0 : w.cell? ⟨gb, ob, none⟩ = some (.int .u8 (hdAt b 0 : Nat)) := by rw [hdAt_in (show 0 < b.length by omega)]; exact g3 0 (by omega)
  have c1 : w.cell? ⟨gb, ob + 1, none⟩ = some (.int .u8 (hdAt b 1 : Nat)) := by rw [hdAt_in (show 1 < b.length by omega)]; exact g3 1 (by omega)
  have hgb : gb < w.heap.size := World.block_lt_of_cell? w _ c0
  rw [q0] at c0
  clear q0
  rw [q1] at c1
  clear q1
  clear g3
  clear h
  generalize b.length = n at *
  obtain rfl : n = 2 := by omega
  go_enter Try.func42, Try.ntmps42
  go_wp2
  refine bodyPost_ret (results_cell3 rfl _ _ w.heap.size _ #[.int .u8 0, .int .u8 0, .slice none 0 0] _ _ rfl (heap_alloc_new w _) Try.underlying44 rfl (by kernel_rfl)) rfl ?_
  exact HF.out

set_option maxRecDepth 20000 in
set_option maxHeartbeats 1000000 in
theorem refParse_s31 (b : List UInt8) (ao : Option Addr) (cap : Nat) (w : World) (h : Rd w (.slice ao b.length cap) b) (hlo : 3 ≤ b.length) (hhi : b.length ≤ 3) (q0 : hdAt b 0 = 76) (q1 : hdAt b 1 = 103) (q2 : hdAt b 2 = 1) :
    Calls Try.prog 42 #[.slice ao b.length cap] w (ParsePost b w) := by
  have hfe : frErr b = 1 := frErr_short b (by omega) q0 q1 (by omega) (by rw [hdAt_out (by omega)]; decide)
  have HF := Lib.hid (ParsePost.err hfe (by decide) ((Ch.refl _ w).alloc (.cells #[.int .u8 0, .int .u8 0, .slice none 0 0] 44)))
  clear hfe
  obtain ⟨gb, ob, rfl, _, _, g3⟩ := bytes_cell h rfl (by omega)
  have c0 : w.cell? ⟨gb, ob, none⟩ = some (.int .u8 (hdAt b 0 : Nat)) := by rw [hdAt_in (show 0 < b.length by omega)]; exact g3 0 (by omega)
  have c1 : w.cell? ⟨gb, ob + 1, none⟩ = some (.int .u8 (hdAt b 1 : Nat)) := by rw [hdAt_in (show 1 < b.length by omega)]; exact g3 1 (by omega)
  have c2 : w.cell? ⟨gb, ob + 2, none⟩ = some (.int .u8 (hdAt b 2 : Nat)) := by rw [hdAt_in (show 2 < b.length by omega)]; exact g3 2 (by omega)
  have hgb : gb < w.heap.size := World.block_lt_of_cell? w _ c0
  rw [q0] at c0
  clear q0
  rw [q1] at c1
  clear q1
  rw [q2] at c2
  clear q2
  clear g3
  clear h
  generalize b.length = n at *
  obtain rfl : n = 3 := by omega
  go_enter Try.func42, Try.ntmps42
  go_wp2
  refine bodyPost_ret (results_cell3 rfl _ _ w.heap.size _ #[.int .u8 0, .int .u8 0, .slice none 0 0] _ _ rfl (heap_alloc_new w _) Try.underlying44 rfl (by kernel_rfl)) rfl ?_
  exact HF.out

set_option maxRecDepth 20000 in
set_option maxHeartbeats 1000000 in
theorem refParse_s41 (b : List UInt8) (ao : Option Addr) (cap : Nat) (w : World) (h : Rd w (.slice ao b.length cap) b) (hlo : 4 ≤ b.length) (hhi : b.length ≤ 5) (q0 : hdAt b 0 = 76) (q1 : hdAt b 1 = 103) (q2 : hdAt b 2 = 1) (q3 : 1 ≤ hdAt b 3 ∧ hdAt b 3 ≤ 8) :
    Calls Try.prog 42 #[.slice ao b.length cap] w (ParsePost b w) := by
  have hfe : frErr b = 1 := frErr_short b (by omega) q0 q1 (by omega) q3
  have HF := Lib.hid (ParsePost.err hfe (by decide) ((Ch.refl _ w).alloc (.cells #[.int .u8 0, .int .u8 0, .slice none 0 0] 44)))
  clear hfe
  obtain ⟨gb, ob, rfl, _, _, g3⟩ := bytes_cell h rfl (by omega)
  have c0 : w.cell? ⟨gb, ob, none⟩ = some (.int .u8 (hdAt b 0 : Nat)) := by rw [hdAt_in (show 0 < b.length by omega)]; exact g3 0 (by omega)
  have c1 : w.cell? ⟨gb, ob + 1, none⟩ = some (.int .u8 (hdAt b 1 : Nat)) := by rw [hdAt_in (show 1 < b.length by omega)]; exact g3 1 (by omega)
  have c2 : w.cell? ⟨gb, ob + 2, none⟩ = some (.int .u8 (hdAt b 2 : Nat)) := by rw [hdAt_in (show 2 < b.length by omega)]; exact g3 2 (by omega)
  have c3 : w.cell? ⟨gb, ob + 3, none⟩ = some (.int .u8 (hdAt b 3 : Nat)) := by rw [hdAt_in (show 3 < b.length by omega)]; exact g3 3 (by omega)
  have hgb : gb < w.heap.size := World.block_lt_of_cell? w _ c0
  rw [q0] at c0
  clear q0
  rw [q1] at c1
  clear q1
  rw [q2] at c2
  clear q2
  generalize hdAt b 3 = h3 at *
  obtain ⟨q3a, q3b⟩ := q3
  clear g3
  clear h
  generalize b.length = n at *
  go_enter Try.func42, Try.ntmps42
  go_wp2
  refine bodyPost_ret (results_cell3 rfl _ _ w.heap.size _ #[.int .u8 0, .int .u8 0, .slice none 0 0] _ _ rfl (heap_alloc_new w _) Try.underlying44 rfl (by kernel_rfl)) rfl ?_
  exact HF.out

set_option maxRecDepth 20000 in
set_option maxHeartbeats 1000000 in
theorem refParse_s32 (b : List UInt8) (ao : Option Addr) (cap : Nat) (w : World) (h : Rd w (.slice ao b.length cap) b) (hlo : 3 ≤ b.length) (hhi : b.length ≤ 3) (q0 : hdAt b 0 = 76) (q1 : hdAt b 1 = 103) (q2 : hdAt b 2 = 2) :
    Calls Try.prog 42 #[.slice ao b.length cap] w (ParsePost b w) := by
  have hfe : frErr b = 1 := frErr_short b (by omega) q0 q1 (by omega) (by rw [hdAt_out (by omega)]; decide)
  have HF := Lib.hid (ParsePost.err hfe (by decide) ((Ch.refl _ w).alloc (.cells #[.int .u8 0, .int .u8 0, .slice none 0 0] 44)))
  clear hfe
  obtain ⟨gb, ob, rfl, _, _, g3⟩ := bytes_cell h rfl (by omega)
  have c0 : w.cell? ⟨gb, ob, none⟩ = some (.int .u8 (hdAt b 0 : Nat)) := by rw [hdAt_in (show 0 < b.length by omega)]; exact g3 0 (by omega)
  have c1 : w.cell? ⟨gb, ob + 1, none⟩ = some (.int .u8 (hdAt b 1 : Nat)) := by rw [hdAt_in (show 1 < b.length by omega)]; exact g3 1 (by omega)
  have c2 : w.cell? ⟨gb, ob + 2, none⟩ = some (.int .u8 (hdAt b 2 : Nat)) := by rw [hdAt_in (show 2 < b.length by omega)]; exact g3 2 (by omega)
  have hgb : gb < w.heap.size := World.block_lt_of_cell? w _ c0
  rw [q0] at c0
  clear q0
  rw [q1] at c1
  clear q1
  rw [q2] at c2
  clear q2
  clear g3
  clear h
  generalize b.length = n at *
  obtain rfl : n = 3 := by omega
  go_enter Try.func42, Try.ntmps42
  go_wp2
  refine bodyPost_ret (results_cell3 rfl _ _ w.heap.size _ #[.int .u8 0, .int .u8 0, .slice none 0 0] _ _ rfl (heap_alloc_new w _) Try.underlying44 rfl (by kernel_rfl)) rfl ?_
  exact HF.out

set_option maxRecDepth 20000 in
set_option maxHeartbeats 1000000 in
theorem refParse_s42 (b : List UInt8) (ao : Option Addr) (cap : Nat) (w : World) (h : Rd w (.slice ao b.length cap) b) (hlo : 4 ≤ b.length) (hhi : b.length ≤ 5) (q0 : hdAt b 0 = 76) (q1 : hdAt b 1 = 103) (q2 : hdAt b 2 = 2) (q3 : 1 ≤ hdAt b 3 ∧ hdAt b 3 ≤ 8) :
    Calls Try.prog 42 #[.slice ao b.length cap] w (ParsePost b w) := by
  have hfe : frErr b = 1 := frErr_short b (by omega) q0 q1 (by omega) q3
  have HF := Lib.hid (ParsePost.err hfe (by decide) ((Ch.refl _ w).alloc (.cells #[.int .u8 0, .int .u8 0, .slice none 0 0] 44)))
  clear hfe
  obtain ⟨gb, ob, rfl, _, _, g3⟩ := bytes_cell h rfl (by omega)
  have c0 : w.cell? ⟨gb, ob, none⟩ = some (.int .u8 (hdAt b 0 : Nat)) := by rw [hdAt_in (show 0 < b.length by omega)]; exact g3 0 (by omega)
  have c1 : w.cell? ⟨gb, ob + 1, none⟩ = some (.int .u8 (hdAt b 1 : Nat)) := by rw [hdAt_in (show 1 < b.length by omega)]; exact g3 1 (by omega)
  have c2 : w.cell? ⟨gb, ob + 2, none⟩ = some (.int .u8 (hdAt b 2 : Nat)) := by rw [hdAt_in (show 2 < b.length by omega)]; exact g3 2 (by omega)
  have c3 : w.cell? ⟨gb, ob + 3, none⟩ = some (.int .u8 (hdAt b 3 : Nat)) := by rw [hdAt_in (show 3 < b.length by omega)]; exact g3 3 (by omega)
  have hgb : gb < w.heap.size := World.block_lt_of_cell? w _ c0
  rw [q0] at c0
  clear q0
  rw [q1] at c1
  clear q1
  rw [q2] at c2
  clear q2
  generalize hdAt b 3 = h3 at *
  obtain ⟨q3a, q3b⟩ := q3
  clear g3
  clear h
  generalize b.length = n at *
  go_enter Try.func42, Try.ntmps42
  go_wp2
  refine bodyPost_ret (results_cell3 rfl _ _ w.heap.size _ #[.int .u8 0, .int .u8 0, .slice none 0 0] _ _ rfl (heap_alloc_new w _) Try.underlying44 rfl (by kernel_rfl)) rfl ?_
  exact HF.out


end Go.Proofs.Ytoggnmfjkbnopaa
