/-
  Images: Right (the document's), case X. MADE BY mkImgP.py
-/
import Derived.Test.YtdpebdbfphlmeaaImgP
namespace Go.Proofs.Ytdpebdbfphlmeaa
open Go.RowKit Go.Lac

set_option maxRecDepth 20000 in
set_option maxHeartbeats 4000000 in
theorem rrX_any (r : Rl) (cv vb va : Value) (k o : Nat) (b a : List Cel) (w : World) (hb : ColS w cv r.cols) (hf : r.fits) (hl : r.cols.length ≤ 1000000) (hvb : RcS w vb b) (hva : RcS w va a) (hla : a.length ≤ 100000) (hk : k ≠ 4 ∧ k ≠ 5 ∧ k ≠ 6) :
    Calls Try.prog 21 #[.agg (relv r cv), .int .u8 (k : Nat), .int .u8 (o : Nat), vb, va] w fun e w' => e = .returned (.int .i64 (rightE r k o b a : Nat)) ∧ Ext w w' := by
  obtain ⟨W, hW⟩ : ∃ W, W = w.alloc (.cells (relv r cv) 27) := ⟨_, rfl⟩
  have hx : Ext w W := by rw [hW]; exact (Ch.refl _ _).alloc _
  have hbox : W.heap[w.heap.size]? = some (.cells (relv r cv) 27 (0, 0)) := by rw [hW]; exact heap_alloc_new _ _
  have HX := Lib.hid hx; have HW := Lib.hid hW; have HBOX := Lib.hid hbox
  have HIKB := Lib.hid (fun W' (h : Ext w W') => risKey_any r cv vb b W' (ColS.ext hb h) hf hl (RcS.ext hvb h))
  have HIFB := Lib.hid (fun W' (h : Ext w W') => risFull_any r cv vb b W' (ColS.ext hb h) hf hl (RcS.ext hvb h))
  have HIFA := Lib.hid (fun W' (h : Ext w W') => risFull_any r cv va a W' (ColS.ext hb h) hf hl (RcS.ext hva h))
  have HKDA := Lib.hid (fun W' (h : Ext w W') => rkeyed_any r cv va a W' (ColS.ext hb h) hf hl (RcS.ext hva h))
  have HKO := Lib.hid (fun W' (h : Ext w W') => rkeyOf_any r cv va a W' (ColS.ext hb h) (RcS.ext hva h) hla)
  have HSM := Lib.hid (fun W' (h : Ext w W') v2 l2 (h2 : RcS W' v2 l2) => sameR_any vb v2 b l2 W' (RcS.ext hvb h) h2)
  obtain ⟨ao, cap, rfl, _⟩ := id hb
  obtain ⟨bo, bcap, rfl, _, hmb⟩ := hvb.shape
  obtain ⟨vo, vcap, rfl, _, hma⟩ := hva.shape
  have hm1 : b.length ≤ 9223372036854775807 := by unfold maxLen at hmb; omega
  have hm2 : a.length ≤ 9223372036854775807 := by omega
  have R1 := Lib.hid (@rightE_kind r k o b a); have R2 := Lib.hid (@rightE_len r k o b a); have R3 := Lib.hid (@rightE_may r k o b a); have R4 := Lib.hid (@rightE_old r k o b a); have R5 := Lib.hid (@rightE_new r k o b a); have R6 := Lib.hid (@rightE_end r k o b a); have R7 := Lib.hid (@rightE_big r k o b a)
  generalize rightE r k o b a = E at *
  clear hb hf hl hvb hva hla hx hW hbox hmb hma
  generalize b.length = nb at *
  generalize a.length = na at *
  generalize r.cols.length = nq at *
  have HLINK : Hid (∃ j : Nat, r.ident = j ∧ ((j : Nat) : Int) = ((r.ident : Nat) : Int)) := Lib.hid ⟨_, rfl, rfl⟩
  unfold relv strV at *
  generalize (⟨r.name.toArray⟩ : ByteArray) = A1 at *
  generalize r.oid = o1 at *
  generalize r.ver = o2 at *
  generalize ((r.ident : Nat) : Int) = oi at *
  have HEE : Hid (E = 7) := Lib.hid (R1.out hk)
  clear R1 R2 R3 R4 R5 R6 R7
  rcases (show k < 4 ∨ 6 < k by omega) with h | h
  · have g1 : ((k : Nat) : Int) < 4 := by omega
    clear h hk
    go_enter Try.func21, Try.ntmps21
    go_wp2
    go_ret
    exact ⟨by rw [HEE.out]; rfl, by have := HX.out; rwa [HW.out] at this⟩
  · have g1 : ¬ ((k : Nat) : Int) < 4 := by omega
    have g2 : ((k : Nat) : Int) > 6 := by omega
    clear h hk
    go_enter Try.func21, Try.ntmps21
    go_wp2
    go_ret
    exact ⟨by rw [HEE.out]; rfl, by have := HX.out; rwa [HW.out] at this⟩
end Go.Proofs.Ytdpebdbfphlmeaa
