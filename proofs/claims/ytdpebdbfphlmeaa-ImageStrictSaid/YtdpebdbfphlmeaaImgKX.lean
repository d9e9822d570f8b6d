/-
  Images: Right (the program's), kind X. MADE BY mkImgK.py
-/
import Derived.Test.YtdpebdbfphlmeaaImgK
namespace Go.Proofs.Ytdpebdbfphlmeaa
open Go.RowKit Go.Lac

set_option maxRecDepth 20000 in
set_option maxHeartbeats 4000000 in
theorem rightX_any (r : Rl) (cv vb va : Value) (k o : Nat) (b a : List Cel) (w : World) (hb : ColS w cv r.cols) (hf : r.fits) (hl : r.cols.length ≤ 1000000) (hvb : PcS w vb b) (hva : PcS w va a) (hla : a.length ≤ 100000) (hk : k ≠ 4 ∧ k ≠ 5 ∧ k ≠ 6) :
    Calls Try.prog 20 #[.agg (relv r cv), .int .u8 (k : Nat), .int .u8 (o : Nat), vb, va] w fun e w' => e = .returned (.int .i64 (rightE r k o b a : Nat)) ∧ Ext w w' := by
  obtain ⟨W, hW⟩ : ∃ W, W = w.alloc (.cells (relv r cv) 33) := ⟨_, rfl⟩
  have hx : Ext w W := by rw [hW]; exact (Ch.refl _ _).alloc _
  have hbox : W.heap[w.heap.size]? = some (.cells (relv r cv) 33 (0, 0)) := by rw [hW]; exact heap_alloc_new _ _
  have HX := Lib.hid hx; have HW := Lib.hid hW; have HBOX := Lib.hid hbox
  have HMB : Hid (∀ w, Calls Try.prog 32 #[.int .u8 (r.ident : Nat), .int .u8 (k : Nat), .int .u8 (o : Nat)] w fun e w' => e = .returned (.bool (mayB r.ident k o)) ∧ w = w') := Lib.hid (fun w => mayBe_any r.ident k o w)
  have HOLD : Hid (∀ W', Ext w W' → Calls Try.prog 33 #[.agg (relv r cv), .int .u8 (o : Nat), vb] W' fun e w' => e = .returned (.int .i64 (oldE r o b : Nat)) ∧ Ext W' w') := Lib.hid (fun W' (h : Ext w W') => rightOld_any r cv vb o b W' (ColS.ext hb h) hf hl (PcS.ext hvb h))
  have HNEW : Hid (∀ W', Ext w W' → Calls Try.prog 34 #[.agg (relv r cv), .int .u8 (k : Nat), va] W' fun e w' => e = .returned (.int .i64 (newE r k a : Nat)) ∧ Ext W' w') := Lib.hid (fun W' (h : Ext w W') => rightNew_any r cv va k a W' (ColS.ext hb h) hf hl (PcS.ext hva h))
  have HKO := Lib.hid (fun W' (h : Ext w W') => keyOf_any r cv va a W' (ColS.ext hb h) hl (PcS.ext hva h) hla)
  have HAL := Lib.hid (fun W' (h : Ext w W') v2 l2 (h2 : PcS W' v2 l2) => alikeRow_any vb v2 b l2 W' (PcS.ext hvb h) h2)
  obtain ⟨ao, cap, rfl, _⟩ := id hb
  obtain ⟨bo, bcap, rfl, _, hmb⟩ := hvb.shape
  obtain ⟨vo, vcap, rfl, _, hma⟩ := hva.shape
  have hm1 : b.length ≤ 9223372036854775807 := by unfold maxLen at hmb; omega
  have hm2 : a.length ≤ 9223372036854775807 := by omega
  have R1 := Lib.hid (@rightE_kind r k o b a); have R2 := Lib.hid (@rightE_len r k o b a); have R3 := Lib.hid (@rightE_may r k o b a); have R4 := Lib.hid (@rightE_old r k o b a); have R5 := Lib.hid (@rightE_new r k o b a); have R6 := Lib.hid (@rightE_end r k o b a)
  generalize rightE r k o b a = E at *
  clear hb hf hl hvb hva hla hx hW hbox hmb hma
  generalize mayB r.ident k o = M at *
  generalize oldE r o b = E1 at *
  generalize newE r k a = E2 at *
  generalize keyOf r.cols a = KO at *
  generalize hbl : b.length = nb at *
  generalize hal : a.length = na at *
  generalize r.cols.length = nq at *
  unfold relv strV at *
  generalize (⟨r.name.toArray⟩ : ByteArray) = A1 at *
  generalize r.oid = o1 at *
  generalize r.ver = o2 at *
  generalize r.ident = o3 at *
  clear hbl hal
  have k4 := u8_f (a := k) (z := 4) (by omega)
  have l4 := u8_nf (a := k) (z := 4) (by omega)
  have k5 := u8_f (a := k) (z := 5) (by omega)
  have l5 := u8_nf (a := k) (z := 5) (by omega)
  have k6 := u8_f (a := k) (z := 6) (by omega)
  have l6 := u8_nf (a := k) (z := 6) (by omega)
  have HEE : Hid (E = 7) := Lib.hid (R1.out hk)
  clear R1 R2 R3 R4 R5 R6 hk
  go_enter Try.func20, Try.ntmps20
  go_wp2
  go_ret
  exact ⟨by rw [HEE.out]; rfl, by have := HX.out; rwa [HW.out] at this⟩
end Go.Proofs.Ytdpebdbfphlmeaa
