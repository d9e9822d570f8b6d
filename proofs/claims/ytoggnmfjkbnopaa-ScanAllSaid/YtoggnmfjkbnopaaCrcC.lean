/-
  crc.Of, crc.Put, crc.Sign.
-/
import Derived.Test.YtoggnmfjkbnopaaProg
import Derived.Test.YtoggnmfjkbnopaaLib
import Derived.Test.YtoggnmfjkbnopaaInfo
import Derived.Test.YtoggnmfjkbnopaaConcat
import Derived.Test.YtoggnmfjkbnopaaCrcB
import Derived.WalkKit
import Derived.Lib.Hide
import Derived.Outline
namespace Go.Proofs.Ytoggnmfjkbnopaa
open Go.RowKit Go.Lac

set_option maxRecDepth 20000 in
set_option maxHeartbeats 800000 in
theorem of_any (v : Value) (bss : List (List UInt8)) (w : World) (h : Parts w v bss) :
    Calls Try.prog 97 #[v] w fun e w' => e = .returned (.int .u32 (crcSum bss.flatten : Nat)) ∧ Ext w w' := by
  have ha := and_any 0 v bss w (by decide) h
  rw [crcAnd_zero] at ha
  have HA := Lib.hid ha; clear ha h
  generalize crcSum bss.flatten = s at *
  go_enter Try.func97, Try.ntmps97
  go_wp2_with (go_at_call 105; refine HA.out.mono ?_; rintro e w' ⟨rfl, hx⟩)
  go_ret
  exact ⟨rfl, hx⟩

theorem rdAll_two {w : World} {v v' : Value} {bs bs' : List UInt8} (h : Rd w v bs) (h' : Rd w v' bs') (E : TypeId) : RdAll (w.alloc (.cells #[v, v'] E)) w.heap.size 0 [bs, bs'] := by
  intro k hk
  match k, hk with
  | 0, _ => exact ⟨v, by rw [cell_of_row _ _ _ _ _ _ (heap_alloc_new w _)]; rfl, h.ext ((Ch.refl _ _).alloc _)⟩
  | 1, _ => exact ⟨v', by rw [cell_of_row _ _ _ _ _ _ (heap_alloc_new w _)]; rfl, h'.ext ((Ch.refl _ _).alloc _)⟩

theorem le4_cells (s : Nat) : cellsB (le4 s) = [.int .u8 ((s : Int) % 256), .int .u8 ((s : Int) / 256 % 256), .int .u8 ((s : Int) / 65536 % 256), .int .u8 ((s : Int) / 16777216 % 256)] := by
  unfold le4 cellsB
  simp only [List.map_cons, List.map_nil]
  rw [cellB_ofNat (by omega), cellB_ofNat (by omega), cellB_ofNat (by omega), cellB_ofNat (by omega)]
  simp

set_option maxRecDepth 20000 in
set_option maxHeartbeats 800000 in
theorem put_any (s : Nat) (v : Value) (bs : List UInt8) (w : World) (hs : s < 2 ^ 32) (h : Rd w v bs) (hl : bs.length ≤ 1000000) :
    Calls Try.prog 98 #[.int .u32 (s : Nat), v] w (Made 5 (bs ++ le4 s) w) := by
  obtain ⟨ao, cap, rfl⟩ := h.shape
  have hc := fun (w1 : World) (a : Value) (ha : Rd w1 a (le4 s)) (hb : Rd w1 (.slice ao bs.length cap) bs) => concat_any [bs, le4 s] w1.heap.size 0 2 _ (rdAll_two hb ha 22) (by simp [total, le4_length]; omega) (by simp)
  have hr := rd_new w (le4 s) 5 (by rw [le4_length]; decide)
  rw [le4_cells, le4_length] at hr
  have hc2 := hc _ _ hr (h.ext ((Ch.refl _ _).alloc _))
  simp only [List.flatten_cons, List.flatten_nil, List.append_nil, List.length_cons, List.length_nil, World.size_alloc] at hc2
  have HC := Lib.hid hc2; clear hc2 hc hr h
  clear hl hs
  go_enter Try.func98, Try.ntmps98
  go_wp2_with (go_at_call 53; refine HC.out.mono ?_)
  intro e w' hm
  obtain ⟨t, rfl, hm2, hm3⟩ := Made.after hm (((Ch.refl _ w).alloc _).alloc _)
  clear hm
  have HM2 := Lib.hid hm2; have HM3 := Lib.hid hm3; clear hm2 hm3
  go_wp2
  go_ret
  exact ⟨_, rfl, HM2.out, HM3.out⟩

end Go.Proofs.Ytoggnmfjkbnopaa
