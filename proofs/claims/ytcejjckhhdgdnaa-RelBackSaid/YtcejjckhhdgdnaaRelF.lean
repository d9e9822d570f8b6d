/-
  Relations: Keys.
-/
import Derived.Test.YtcejjckhhdgdnaaRelE
namespace Go.Proofs.Ytcejjckhhdgdnaa
open Go.RowKit Go.Lac

/-- A relation's cells. -/
def relv (r : Rl) (cv : Value) : Array Value := #[.int .u32 (r.oid : Nat), .int .u32 (r.ver : Nat), strV r.name, .int .u8 (r.ident : Nat), cv]
def KeysPost (l : List Col) (w : World) (e : Ending) (w' : World) : Prop :=
  ∃ g v, e = .returned (.func (.func 57) #[] #[.pointer (some ⟨g, 0, none⟩)]) ∧ Ext w w' ∧ w.heap.size ≤ g ∧ w'.heap[g]? = some (.cells #[v] 30 (0, 0)) ∧ ColS w' v l
theorem ColS.ext {w w' : World} {v : Value} {l : List Col} (h : ColS w v l) (k : Ext w w') : ColS w' v l := Sl.ext h k
set_option maxRecDepth 20000 in
set_option maxHeartbeats 1600000 in
theorem keys_any (r : Rl) (cv : Value) (w : World) (hb : ColS w cv r.cols) (hl : r.cols.length ≤ 1000000) :
    Calls Try.prog 21 #[.agg (relv r cv)] w (KeysPost r.cols w) := by
  have h1 := heap_alloc_new w (.cells (relv r cv) 32)
  obtain ⟨W, hW⟩ : ∃ W, W = w.alloc (.cells (relv r cv) 32) := ⟨_, rfl⟩
  have hx : Ext w W := by rw [hW]; exact (Ch.refl _ _).alloc _
  rw [← hW] at h1
  have HX := Lib.hid hx; have HW := Lib.hid hW; have HC := Lib.hid (hb.ext hx)
  have d4 : W.cell? ⟨w.heap.size, 4, none⟩ = some cv := by rw [cell_of_row _ _ _ _ _ _ h1]; rfl
  have HK := Lib.hid (cloneCo_any cv r.cols W HC.out hl)
  rw [hW] at d4
  obtain ⟨ao, cap, rfl, _⟩ := id hb
  clear h1 hx hW hb
  generalize relv r (.slice ao r.cols.length cap) = rv at *
  generalize r.cols = l at *
  go_enter Try.func21, Try.ntmps21
  go_wp2_with fail
  rw [← HW.out]
  refine HK.out.mono ?_
  rintro e w2 ⟨v, rfl, hx, ho⟩
  obtain ⟨vo, vc, rfl⟩ := owns_shape ho
  have HX2 := Lib.hid (HX.out.trans hx); have HO := Lib.hid (Sl.ofOwns ho)
  clear hx ho d4
  go_wp2
  go_ret
  exact ⟨w2.heap.size, _, rfl, HX2.out.alloc _, HX2.out.size, heap_alloc_new w2 _, ColS.ext HO.out ((Ch.refl _ _).alloc _)⟩
end Go.Proofs.Ytcejjckhhdgdnaa
