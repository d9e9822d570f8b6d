/-
  prim.Read, and the reader's Int, Byte, Word.
-/
import Derived.Test.YtcejjckhhdgdnaaProg
import Derived.Test.YtcejjckhhdgdnaaLib
import Derived.Test.YtcejjckhhdgdnaaPrimA
import Derived.Test.YtcejjckhhdgdnaaPrimC
import Derived.Test.YtcejjckhhdgdnaaPrimD
import Derived.WalkKit
import Derived.WalkSpells
import Derived.Lib.SliceRun
import Derived.Lib.Hide
import Derived.Lib.Zigzag
namespace Go.Proofs.Ytcejjckhhdgdnaa
open Go.RowKit Go.Lac

set_option maxRecDepth 20000 in
set_option maxHeartbeats 1000000 in
theorem clone_any (vb : Value) (bs : List UInt8) (w : World) (hb : Rd w vb bs) (hl : bs.length ≤ 2 ^ 47) :
    Calls Try.prog 82 #[vb] w (Made 5 bs w) := by
  obtain ⟨i, hi, hz, hs, hby⟩ := info_parts infoU8
  have HB := Lib.hid hb
  obtain ⟨ao, cap, hv, h1, h2, h3, h4⟩ := hb
  subst hv
  cases ao with
  | none =>
    obtain rfl : cap = 0 := h3 rfl
    have hbs : bs = [] := List.eq_nil_of_length_eq_zero (by omega)
    subst hbs
    clear h1 h2 h3 h4
    have hnil := Lib.run_eql_slice_nil (P := Try.prog) w 34 5 none 0 0 0 0 Try.underlying34
    go_enter Try.func82, Try.ntmps82
    go_wp2
    go_ret
    exact ⟨_, rfl, Ch.refl _ _, World.ownsRow_nil _ _ _ _⟩
  | some x =>
    clear h3 h4 h1 h2
    have hx : Ext w (w.alloc (.cells #[] 5)) := (Ch.refl _ _).alloc _
    have HO := Lib.hid (World.ownsRow_lit (base := w.heap.size) (e := 5) (size := 1) w #[] 0 (Nat.le_refl _) (Nat.zero_le _) rfl)
    have HX := Lib.hid hx
    have HL := Lib.hid hl
    clear hx hl
    have hnil := Lib.run_eql_slice_nil (P := Try.prog) w 34 5 (some x) bs.length cap 0 0 Try.underlying34
    go_enter Try.func82, Try.ntmps82
    go_wp2_with (at_builtin; refine wpList_append_sl _ rfl _ _ 34 rfl w.heap.size 5 i (.int .u8 0) 1 1 Try.underlying34 hi hz hs hby rfl (by decide) _ _ _ rfl HO.out _ _ _ rfl (HB.out.ext HX.out) (by rw [cellsB_length, Nat.mul_one]) (cellsB_one _) (by have := HL.out; omega) (by have := HL.out; unfold maxLen; omega) (by simp) ?_)
    intro v' w' hown hgrow
    have hfin : Made 5 bs w (.returned v') w' := ⟨v', rfl, HX.out.grown hgrow (fun k hk => by simp [Value.ownBlock] at hk; omega), by simpa using hown⟩
    have HF := Lib.hid hfin; clear hfin hown hgrow
    go_wp2
    go_ret
    exact HF.out

theorem strict_owns {w : World} {base : Nat} {e : TypeId} {size : Nat} {v : Value} {n : Nat} {xs : List Value} (h : w.ownsRow base e size v n xs) : Strict v := by
  rcases h.2 with ⟨rfl, rfl⟩ | ⟨g, cap, cur, rfl, _⟩
  · exact strict_nil
  · exact strict_lit _ _ _ _

theorem rd_low {w : World} {v : Value} {bs : List UInt8} (h : Rd w v bs) (hne : bs ≠ []) : ∀ x l c, v = .slice (some x) l c → x.block < w.heap.size := by
  intro x l c e
  obtain ⟨ao, cap, h1, h2, h3, h4, h5⟩ := h
  rw [h1] at e
  cases e
  have hn : 0 < bs.length := List.length_pos_iff.2 hne
  obtain ⟨b, off, rfl, h6⟩ := h5 x rfl 0 _ (by rw [cellsB, List.getElem?_map, List.getElem?_eq_getElem hn]; rfl)
  unfold World.cell? at h6
  rcases hb : w.heap[b]? with _ | o
  · simp [hb] at h6
  · exact (Array.getElem?_eq_some_iff.1 hb).1
/-- A new reader. -/
def ReadPost (bs : List UInt8) (w : World) (e : Ending) (w' : World) : Prop := ∃ r, e = .returned (RPtr r) ∧ Ext w w' ∧ IsR w' r (bs, 0) ∧ w.heap.size ≤ r

set_option maxRecDepth 20000 in
set_option maxHeartbeats 1000000 in
theorem read_any (vb : Value) (bs : List UInt8) (w : World) (hb : Rd w vb bs) (hl : bs.length ≤ 2 ^ 47) :
    Calls Try.prog 58 #[vb] w (ReadPost bs w) := by
  have HC := Lib.hid (clone_any vb bs w hb hl)
  obtain ⟨ao, cap, rfl⟩ := hb.shape
  clear hb hl
  go_enter Try.func58, Try.ntmps58
  go_wp2_with (go_at_call 82; refine HC.out.mono ?_)
  rintro e w1 ⟨s, rfl, hx, ho⟩
  have HX := Lib.hid hx; have HR := Lib.hid (Rd.ofOwns ho)
  have HST := Lib.hid (strict_owns ho)
  obtain ⟨ao', cap', rfl⟩ := owns_shape ho
  clear hx ho
  go_wp2
  go_ret
  refine ⟨w1.heap.size, rfl, HX.out.alloc _, ⟨_, heap_alloc_new w1 _, ⟨HR.out.ext ((Ch.refl _ _).alloc _), HST.out, rd_low HR.out⟩, fun h => absurd rfl h⟩, HX.out.size⟩

/-- The number with a sign that was folded. -/
def zag (u : Nat) : Int := if u % 2 = 1 then -((u / 2 : Nat) : Int) - 1 else ((u / 2 : Nat) : Int)

theorem zag_zig (x : Int) : zag (Lib.zigzag x) = x := by
  unfold zag Lib.zigzag
  by_cases h : 0 ≤ x
  · rw [if_pos h, if_neg (by omega)]; omega
  · rw [if_neg h, if_pos (by omega)]; omega

theorem zig_zag (u : Nat) : Lib.zigzag (zag u) = u := by
  unfold zag Lib.zigzag
  by_cases h : u % 2 = 1
  · rw [if_pos h, if_neg (by omega)]; omega
  · rw [if_neg h, if_pos (by omega)]; omega

def intR (s : RS) : Int × RS := (zag (uintR 18446744073709551615 s).1, (uintR 18446744073709551615 s).2)

def byteR (s : RS) : Nat × RS := (match (takeR 1 s).1 with | [] => 0 | b :: _ => b.toNat, (takeR 1 s).2)

set_option maxRecDepth 20000 in
set_option maxHeartbeats 1000000 in
theorem byte_any (r : Nat) (s : RS) (w : World) (h : IsR w r s) :
    Calls Try.prog 85 #[RPtr r] w (RPost r (.int .u8 (byteR s).1) (byteR s).2 w) := by
  have HT := take_any r s 1 w h (by omega)
  unfold byteR
  generalize (takeR 1 s).1 = bs at *
  generalize (takeR 1 s).2 = s' at *
  have HT := Lib.hid HT
  clear h
  unfold RPtr at *
  go_enter Try.func85, Try.ntmps85
  go_wp2_with (go_at_call 104; refine HT.out.mono ?_)
  rintro e w1 ⟨v, rfl, k1, k2, k3⟩
  have K1 := Lib.hid k1; have K2 := Lib.hid k2; clear k1 k2
  obtain ⟨ao, cap, rfl⟩ := k3.shape
  cases bs with
  | nil =>
    clear k3
    go_wp2
    go_ret
    exact ⟨rfl, K1.out, K2.out⟩
  | cons b l =>
    obtain ⟨blk, off, rfl, g1, g2, g3⟩ := cell_of_rd k3 rfl (by simp)
    have hc := g3 0 (by simp)
    have e1 : (((b :: l).length : Int) == 0) = false := by simp; omega
    have e2 : (0 : Int) < ((b :: l).length : Int) := by simp
    have e3 : 0 < (b :: l).length := by simp
    clear k3 g3 g1 g2
    simp only [List.getElem_cons_zero, Nat.add_zero] at hc
    generalize (b :: l).length = n at *
    go_wp2
    go_ret
    exact ⟨rfl, K1.out, K2.out⟩
end Go.Proofs.Ytcejjckhhdgdnaa
