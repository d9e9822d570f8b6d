/-
  Frames of the document and of the program: the same record; a frame's bytes.
-/
import Derived.Test.YtcdhalgpnhdbnaaProg
import Derived.Test.YtcdhalgpnhdbnaaLib
import Derived.Test.YtcdhalgpnhdbnaaLibC
import Derived.Test.YtcdhalgpnhdbnaaLibD
import Derived.Test.YtcdhalgpnhdbnaaInfo
import Derived.Test.YtcdhalgpnhdbnaaFrA
import Derived.Test.YtcdhalgpnhdbnaaCrcC
import Derived.WalkKit
import Derived.Lib.Hide
import Derived.Outline
namespace Go.Proofs.Ytcdhalgpnhdbnaa
open Go.RowKit Go.Lac

set_option maxRecDepth 20000 in
set_option maxHeartbeats 800000 in
theorem back_any (v k : Nat) (ao : Option Addr) (n cap : Nat) (w : World) :
    Calls Try.prog 25 #[.agg #[.int .u8 (v : Nat), .int .u8 (k : Nat), .slice ao n cap]] w fun e w' => e = .returned (.agg #[.int .u8 (v : Nat), .int .u8 (k : Nat), .slice ao n cap]) ∧ Ext w w' := by
  go_enter Try.func25, Try.ntmps25
  go_wp2
  refine bodyPost_ret (results_cell_row rfl _ _ (w.heap.size + 1) _ #[.int .u8 (v : Nat), .int .u8 (k : Nat), .slice ao n cap] _ _ rfl (heap_alloc2_new _ _ _) Try.underlying44 rfl (by kernel_rfl)) rfl ?_
  exact ⟨rfl, ((Ch.refl _ _).alloc _).alloc _⟩

/-- A frame's first six bytes. -/
def frHead (v k n : Nat) : List UInt8 := [76, 103, UInt8.ofNat v, UInt8.ofNat k, UInt8.ofNat (n % 256), UInt8.ofNat (n / 256 % 256)]
theorem frHead_cells {v k : Nat} (n : Nat) (hv : v < 256) (hk : k < 256) (hn : n ≤ 5000) : cellsB (frHead v k n) = [.int .u8 76, .int .u8 103, .int .u8 (v : Nat), .int .u8 (k : Nat), .int .u8 ((n : Int) % 256), .int .u8 ((n : Int) / 256)] := by
  unfold frHead cellsB
  simp only [List.map_cons, List.map_nil]
  have e : n / 256 % 256 = n / 256 := by omega
  rw [cellB_ofNat hv, cellB_ofNat hk, cellB_ofNat (by omega), cellB_ofNat (by omega), e]
  simp [cellB]
/-- A frame's bytes. -/
def frBytes (v k : Nat) (p : List UInt8) : List UInt8 := if frRight v k p.length = 0 then crcSign (frHead v k p.length ++ p) else []
def MakePost (v k : Nat) (p : List UInt8) (w : World) (e : Ending) (w' : World) : Prop :=
  ∃ t, e = .returned (.tuple #[t, .int .i64 (frRight v k p.length : Nat)]) ∧ Ext w w' ∧ Rd w' t (frBytes v k p)

set_option maxRecDepth 20000 in
set_option maxHeartbeats 800000 in
theorem make_any (v k : Nat) (s : Value) (p : List UInt8) (w : World) (hv : v < 256) (hk : k < 256) (h : Rd w s p) (hl : p.length ≤ 5000) :
    Calls Try.prog 28 #[.agg #[.int .u8 (v : Nat), .int .u8 (k : Nat), s]] w (MakePost v k p w) := by
  obtain ⟨ao, cap, rfl⟩ := h.shape
  have hr := fun w h => fRight_any v k (.slice ao p.length cap) p w hv hk h
  have hcs := frHead_cells p.length hv hk hl
  have H := Lib.hid h; have HR := Lib.hid hr; have HCS := Lib.hid hcs; clear hr h hcs
  have hpost0 : ∀ t w', frRight v k p.length = 0 → Ext w w' → Rd w' t (crcSign (frHead v k p.length ++ p)) → MakePost v k p w (.returned (.tuple #[t, .int .i64 0])) w' := fun t w' h0 h1 h2 => ⟨t, by rw [h0]; rfl, h1, by unfold frBytes; rw [if_pos h0]; exact h2⟩
  have hpost1 : ∀ w', frRight v k p.length ≠ 0 → Ext w w' → MakePost v k p w (.returned (.tuple #[.slice none 0 0, .int .i64 (frRight v k p.length : Nat)])) w' := fun w' h0 h1 => ⟨_, rfl, h1, by unfold frBytes; rw [if_neg h0]; exact rd_nil _⟩
  have HP0 := Lib.hid hpost0; have HP1 := Lib.hid hpost1; clear hpost0 hpost1
  have hll : (frHead v k p.length).length = 6 := rfl
  by_cases h0 : frRight v k p.length = 0
  · have HR0 : Hid (∀ w, Rd w (.slice ao p.length cap) p → Calls Try.prog 35 #[.agg #[.int .u8 (v : Nat), .int .u8 (k : Nat), .slice ao p.length cap]] w fun e w' => e = .returned (.int .i64 0) ∧ Ext w w') := Lib.hid fun w h => by
      have := HR.out w h
      rw [h0] at this
      exact this
    have H0 := Lib.hid h0; clear h0 HR
    generalize frHead v k p.length = hd at *
    have HLL := Lib.hid hll; clear hll
    generalize hpl : p.length = n at *
    have HPL := Lib.hid hpl; clear hpl
    have hn : (n : Int) ≤ 5000 := by omega
    go_enter Try.func28, Try.ntmps28
    go_wp2_with (go_at_call 35; refine (HR0.out _ (H.out.ext ((Ch.refl _ _).alloc _))).mono ?_)
    rintro e w1 ⟨rfl, hx⟩
    have HX := Lib.hid (((Ch.refl _ w).alloc _).trans hx)
    have hce := fun (i : Nat) (x : Value) (hi : #[Value.int .u8 (v : Nat), .int .u8 (k : Nat), .slice ao n cap][i]? = some x) => hx.cell (p := ⟨w.heap.size, i, none⟩) (fun f => f) x (by rw [cell_of_row _ _ _ _ _ _ (heap_alloc_new w _)]; exact hi)
    have c0 := hce 0 _ rfl
    have c1 := hce 1 _ rfl
    have c2 := hce 2 _ rfl
    have hsz : w.heap.size < w1.heap.size := by have := hx.size; simp at this; omega
    clear hce hx
    have hc := fun (w1 : World) (a : Value) (ha : Rd w1 a hd) (hb : Rd w1 (.slice ao n cap) p) => concat_any [hd, p] w1.heap.size 0 2 _ (rdAll_two ha hb 23) (by simp [total, HLL.out, HPL.out]; omega) (by simp)
    have hr2 := rd_new w1 hd 5 (by rw [HLL.out]; decide)
    rw [HCS.out, HLL.out] at hr2
    have hc2 := hc _ _ hr2 (H.out.ext (HX.out.trans ((Ch.refl _ _).alloc _)))
    simp only [List.flatten_cons, List.flatten_nil, List.append_nil, List.length_cons, List.length_nil, World.size_alloc] at hc2
    have HC := Lib.hid hc2; clear hc2 hc hr2
    go_wp2_with (go_at_call 31; refine HC.out.mono ?_)
    intro e w2 hm
    obtain ⟨t, rfl, hx, hr⟩ := (Made.after hm (((Ch.refl _ w1).alloc _).alloc _)).rd
    clear hm HC
    obtain ⟨a2, c2', rfl⟩ := hr.shape
    have hsg := sign_any _ _ w2 hr (by simp [HLL.out, HPL.out]; omega)
    have HSG := Lib.hid hsg; have HX2 := Lib.hid (HX.out.trans hx); clear hsg hx hr
    generalize (hd ++ p).length = m at *
    go_wp2_with (go_at_call 17; refine HSG.out.mono ?_)
    intro e w3 hm
    obtain ⟨t, rfl, hx, hr⟩ := hm.rd
    clear hm
    have HF := Lib.hid (HP0.out t w3 H0.out (HX2.out.trans hx) hr)
    clear hx hr
    go_wp2
    refine bodyPost_ret (results_tmp2 rfl _ _ _) rfl ?_
    exact HF.out
  · have HR1 := HR
    have H1 := Lib.hid h0
    have hb : ((frRight v k p.length : Nat) : Int) ≠ 0 := by omega
    have hb2 : (((frRight v k p.length : Nat) : Int) != 0) = true := by simp; omega
    generalize frRight v k p.length = e0 at *
    clear h0 hb hll HCS
    go_enter Try.func28, Try.ntmps28
    go_wp2_with (go_at_call 35; refine (HR1.out _ (H.out.ext ((Ch.refl _ _).alloc _))).mono ?_)
    rintro e w1 ⟨rfl, hx⟩
    have HF := Lib.hid (HP1.out w1 H1.out (((Ch.refl _ w).alloc _).trans hx))
    clear hx
    go_wp2
    refine bodyPost_ret (results_tmp2 rfl _ _ _) rfl ?_
    exact HF.out
end Go.Proofs.Ytcdhalgpnhdbnaa
