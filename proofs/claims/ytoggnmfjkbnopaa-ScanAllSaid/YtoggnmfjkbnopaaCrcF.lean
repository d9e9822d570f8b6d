/-
  The reference: signed bytes.
-/
import Derived.Test.YtoggnmfjkbnopaaProg
import Derived.Test.YtoggnmfjkbnopaaLib
import Derived.Test.YtoggnmfjkbnopaaLibB
import Derived.Test.YtoggnmfjkbnopaaInfo
import Derived.Test.YtoggnmfjkbnopaaCrcC
import Derived.Test.YtoggnmfjkbnopaaCrcE
import Derived.WalkKit
import Derived.Lib.Hide
import Derived.Outline
namespace Go.Proofs.Ytoggnmfjkbnopaa
open Go.RowKit Go.Lac

set_option maxRecDepth 20000 in
set_option maxHeartbeats 800000 in
theorem refSign_any (v : Value) (bs : List UInt8) (w : World) (h : Rd w v bs) (hl : bs.length ≤ 1000000) :
    Calls Try.prog 45 #[v] w (Made 5 (crcSign bs) w) := by
  obtain ⟨i, hi, hz, hs, hb⟩ := info_parts infoU8
  obtain ⟨ao, cap, rfl⟩ := h.shape
  have hof := fun w h => refOf_any (.slice ao bs.length cap) bs w h
  have HOF := Lib.hid hof; clear hof
  have H := Lib.hid h; clear h
  have hsg : crcSign bs = bs ++ le4 (crcSum bs) := rfl
  rw [hsg]
  have hlt := crcSum_lt bs
  have hle := le4_cells (crcSum bs)
  generalize crcSum bs = s at *
  have HLT := Lib.hid hlt; have HLE := Lib.hid hle
  clear hsg hlt hle
  have hown := World.ownsRow_made (e := 5) (size := 1) w #[] 0 (Nat.le_refl _) (by decide) (by simp)
  have hrd := Rd.ext H.out ((Ch.refl _ w).alloc (.cells #[] 5))
  unfold Rd at hrd
  have HOWN := Lib.hid hown; have HRD := Lib.hid hrd; clear hown hrd
  generalize hbl : bs.length = bl at *
  have HBL := Lib.hid hbl; clear hbl
  go_enter Try.func45, Try.ntmps45
  go_wp2_with (first
    | (go_at_call 79; refine (HOF.out _ H.out).mono ?_; rintro e w' ⟨rfl, rfl⟩)
    | (at_builtin; refine wpList_append_sl _ rfl _ _ 22 rfl w.heap.size 5 i (.int .u8 0) 1 1 Try.underlying22 hi hz hs hb rfl (by decide) _ _ _ rfl HOWN.out _ _ _ rfl HRD.out (by rw [cellsB_length, HBL.out, Nat.mul_one]) (cellsB_one _) (by omega) (by unfold maxLen; omega) (by simp) ?_))
  intro v1 w1 hown1 hgrow1
  have hx1 : Ext w w1 := ((Ch.refl _ w).alloc _).grown hgrow1 fun k hk => by have := (HOWN.out.lt k hk).1; exact .inr this
  obtain ⟨a1, c1, rfl⟩ := owns_shape hown1
  have HX1 := Lib.hid hx1; have HOWN1 := Lib.hid hown1; clear hx1 hown1 hgrow1
  have hr := rd_new w1 (le4 s) 5 (by rw [le4_length]; decide)
  rw [HLE.out, le4_length] at hr
  unfold Rd at hr
  rw [le4_length, HLE.out] at hr
  have HR := Lib.hid hr; clear hr
  have hown2 := HOWN1.out.ext ((Ch.refl _ w1).alloc (.cells [Value.int .u8 ((s : Int) % 256), .int .u8 ((s : Int) / 256 % 256), .int .u8 ((s : Int) / 65536 % 256), .int .u8 ((s : Int) / 16777216 % 256)].toArray 5))
  have HOWN2 := Lib.hid hown2; clear hown2
  go_wp2_with (at_builtin; refine wpList_append_sl _ rfl _ _ 22 rfl w.heap.size 5 i (.int .u8 0) 1 1 Try.underlying22 hi hz hs hb rfl (by decide) _ _ _ rfl HOWN2.out _ _ _ rfl HR.out (by simp) (by simp [Value.oneCell']) (by omega) (by unfold maxLen; omega) ?c1 ?_)
  case c1 => have := HX1.out.size; simp; omega
  intro v2 w2 hown2 hgrow2
  have hx2 : Ext w w2 := (HX1.out.alloc _).grown hgrow2 fun k hk => by have := (HOWN2.out.lt k hk).1; exact .inr this
  have hfin : w2.ownsRow w.heap.size 5 1 v2 (bs ++ le4 s).length (cellsB (bs ++ le4 s)) := by
    rw [cellsB_append, HLE.out, List.length_append, le4_length, HBL.out]; exact hown2
  have HX2 := Lib.hid hx2; have HF := Lib.hid hfin; clear hx2 hfin hown2 hgrow2
  go_wp2
  go_ret
  exact ⟨_, rfl, HX2.out, HF.out⟩
end Go.Proofs.Ytoggnmfjkbnopaa
