/-
  The sevens of a number: what prim.sevens and the reference's Uint make.
-/
import Derived.Test.YtcejjckhhdgdnaaProg
import Derived.Test.YtcejjckhhdgdnaaLib
import Derived.Test.YtcejjckhhdgdnaaInfo
import Derived.WalkKit
import Derived.Lib.Hide
namespace Go.Proofs.Ytcejjckhhdgdnaa
open Go.RowKit Go.Lac

/-- A number's sevens. -/
def sev (v : Nat) : List UInt8 := if h : v < 128 then [UInt8.ofNat v] else UInt8.ofNat (v % 128 + 128) :: sev (v / 128)
termination_by v
decreasing_by omega

theorem sev_small {v : Nat} (h : v < 128) : sev v = [UInt8.ofNat v] := by rw [sev, dif_pos h]
theorem sev_big {v : Nat} (h : ¬ v < 128) : sev v = UInt8.ofNat (v % 128 + 128) :: sev (v / 128) := by rw [sev, dif_neg h]

/-- What is made of v: bs so far, u left. -/
def SevRel (v : Nat) (w : World) (x l : Value) (wr : World) : Prop :=
  ∃ (u : Nat) (pre : List UInt8), x = .int .u64 u ∧ u * 128 ^ pre.length < 2 ^ 64 ∧ pre.length ≤ 9 ∧ sev v = pre ++ sev u ∧
    Ext w wr ∧ wr.ownsRow w.heap.size 5 1 l pre.length (cellsB pre)

theorem SevRel.next {v : Nat} {w wr w' : World} {u : Nat} {pre : List UInt8} {l v' : Value} (h128 : ¬ u < 128) (h1 : u * 128 ^ pre.length < 2 ^ 64)
    (h3 : sev v = pre ++ sev u) (h4 : Ext w wr) (h5 : wr.ownsRow w.heap.size 5 1 l pre.length (cellsB pre)) (o : Obj)
    (h6 : (wr.alloc o).grownBy w' l.ownBlock) (h7 : w'.ownsRow w.heap.size 5 1 v' (pre.length + 1) (cellsB pre ++ [.int .u8 ((u : Int) % 128 + 128)])) :
    SevRel v w (.int .u64 ((u : Int) / 128)) v' w' := by
  have hb : u % 128 + 128 < 256 := by omega
  have hlen : pre.length + 1 ≤ 9 := by
    rcases Nat.lt_or_ge pre.length 9 with h | h
    · exact h
    · exfalso
      have : 128 ^ 9 ≤ 128 ^ pre.length := Nat.pow_le_pow_right (by omega) h
      have h2 : 128 * 128 ^ 9 ≤ u * 128 ^ pre.length := Nat.mul_le_mul (by omega) this
      omega
  refine ⟨u / 128, pre ++ [UInt8.ofNat (u % 128 + 128)], by simp, ?_, by simpa using hlen, ?_, ?_, ?_⟩
  · rw [List.length_append, List.length_singleton, Nat.pow_succ, Nat.mul_comm (128 ^ pre.length), ← Nat.mul_assoc]
    exact Nat.lt_of_le_of_lt (Nat.mul_le_mul_right _ (Nat.div_mul_le_self u 128)) h1
  · rw [h3, sev_big h128, List.append_assoc]; rfl
  · refine (h4.alloc o).grown h6 fun k hk => ?_
    have := (h5.lt k hk).1
    omega
  · have e : cellsB (pre ++ [UInt8.ofNat (u % 128 + 128)]) = cellsB pre ++ [.int .u8 ((u : Int) % 128 + 128)] := by
      rw [cellsB_append]; simp only [cellsB, List.map_cons, List.map_nil, cellB_ofNat hb]; rfl
    rw [e, List.length_append]; exact h7

theorem SevRel.last {v : Nat} {w wr w' : World} {u : Nat} {pre : List UInt8} {l v' : Value} (h128 : u < 128)
    (h3 : sev v = pre ++ sev u) (h4 : Ext w wr) (h5 : wr.ownsRow w.heap.size 5 1 l pre.length (cellsB pre)) (o : Obj)
    (h6 : (wr.alloc o).grownBy w' l.ownBlock) (h7 : w'.ownsRow w.heap.size 5 1 v' (pre.length + 1) (cellsB pre ++ [.int .u8 (u : Int)])) :
    Ext w w' ∧ w'.ownsRow w.heap.size 5 1 v' (sev v).length (cellsB (sev v)) := by
  have hb : u < 256 := by omega
  refine ⟨(h4.alloc o).grown h6 fun k hk => ?_, ?_⟩
  · have := (h5.lt k hk).1
    omega
  · rw [h3, sev_small h128]
    simpa [cellsB, cellB_ofNat hb] using h7

set_option maxRecDepth 20000 in
set_option maxHeartbeats 400000 in
theorem sevens_any (v : Nat) (w : World) (hv : v < 2 ^ 64) : Calls Try.prog 74 #[.int .u64 v] w (Made 5 (sev v) w) := by
  obtain ⟨i, hi, hz, hs, hb⟩ := info_parts infoU8
  have hmk := fun w => run_make (P := Try.prog) w 34 5 i _ Try.underlying34 hi hz .i64 .i64 0 10 (by omega) (by omega) (by rw [hb]; omega) (by omega)
  have hmd := World.ownsRow_made (e := 5) (size := 1) w (madeCells (Value.int .u8 0).cells (10 * 1)) 10 (Nat.le_refl _) (by decide) (by rw [size_madeCells])
  rw [hs] at hmk
  have Hmd := Lib.hid hmd; clear hmd
  have HV := Lib.hid hv; clear hv
  go_enter Try.func74, Try.ntmps74
  go_wp2
  clear hmk
  go_loopw [0, 3] (fun x l wr => SevRel v w x l wr) (fun x _ _ => (intOf x).toNat)
  case atStart => exact ⟨v, [], rfl, by simpa using HV.out, by simp, rfl, (Ch.refl _ _).alloc _, Hmd.out⟩
  case round =>
    obtain ⟨u, pre, rfl, h1, h2, h3, h4, h5⟩ := hrel
    have H1 := Lib.hid h1; have H3 := Lib.hid h3; have H4 := Lib.hid h4; clear h1 h3 h4
    by_cases h128 : u < 128
    · go_wp2_with (at_builtin; refine wpList_append_own _ rfl _ _ 34 rfl (w.heap.size) 5 i (.int .u8 0) 1 1 Try.underlying34 hi hz hs hb rfl (by decide) _ _ _ rfl (h5.alloc _) ⟨wr.heap.size, 0, none⟩ 1 1 [.int .u8 (u:Int)] rfl rfl ?c1 ?c2 ?c3 ?c4 ?c5 ?_)
      case c1 => exact new_cells wr _ _
      case c2 => exact one_oneCell rfl
      case c3 => unfold maxLen; omega
      case c4 => omega
      case c5 => have := H4.out.size; simp; omega
      intro v' w' hown' hgrow _
      have hfin := SevRel.last h128 H3.out H4.out h5 _ hgrow hown'
      have Hf := Lib.hid hfin; clear hfin hown' hgrow
      go_wp2
      go_ret
      exact ⟨_, rfl, Hf.out.1, Hf.out.2⟩
    · have hor := or128 u
      go_wp2_with (at_builtin; refine wpList_append_own _ rfl _ _ 34 rfl (w.heap.size) 5 i (.int .u8 0) 1 1 Try.underlying34 hi hz hs hb rfl (by decide) _ _ _ rfl (h5.alloc _) ⟨wr.heap.size, 0, none⟩ 1 1 [.int .u8 ((u:Int) % 128 + 128)] rfl rfl ?c1 ?c2 ?c3 ?c4 ?c5 ?_)
      case c1 => exact new_cells wr _ _
      case c2 => exact one_oneCell rfl
      case c3 => unfold maxLen; omega
      case c4 => omega
      case c5 => have := H4.out.size; simp; omega
      intro v' w' hown' hgrow _
      have hfin := SevRel.next h128 H1.out H3.out H4.out h5 _ hgrow hown'
      have Hf := Lib.hid hfin; clear hfin hown' hgrow
      go_wp2
      go_roundw
      case rel => exact Hf.out
      case measure => simp [intOf]; omega
set_option maxRecDepth 20000 in
set_option maxHeartbeats 400000 in
theorem refUint_any (v : Nat) (w : World) (hv : v < 2 ^ 64) : Calls Try.prog 48 #[.int .u64 v] w (Made 5 (sev v) w) := by
  obtain ⟨i, hi, hz, hs, hb⟩ := info_parts infoU8
  have HV := Lib.hid hv; clear hv
  go_enter Try.func48, Try.ntmps48
  go_wp2
  go_loopw [0, 3] (fun x l wr => SevRel v w x l wr) (fun x _ _ => (intOf x).toNat)
  case atStart => exact ⟨v, [], rfl, by simpa using HV.out, by simp, rfl, Ch.refl _ _, World.ownsRow_nil _ _ _ _⟩
  case round =>
    obtain ⟨u, pre, rfl, h1, h2, h3, h4, h5⟩ := hrel
    have H1 := Lib.hid h1; have H3 := Lib.hid h3; have H4 := Lib.hid h4; clear h1 h3 h4
    by_cases h128 : u < 128
    · go_wp2_with (at_builtin; refine wpList_append_own _ rfl _ _ 34 rfl (w.heap.size) 5 i (.int .u8 0) 1 1 Try.underlying34 hi hz hs hb rfl (by decide) _ _ _ rfl (h5.alloc _) ⟨wr.heap.size, 0, none⟩ 1 1 [.int .u8 (u:Int)] rfl rfl ?c1 ?c2 ?c3 ?c4 ?c5 ?_)
      case c1 => exact new_cells wr _ _
      case c2 => exact one_oneCell rfl
      case c3 => unfold maxLen; omega
      case c4 => omega
      case c5 => have := H4.out.size; simp; omega
      intro v' w' hown' hgrow _
      have hfin := SevRel.last h128 H3.out H4.out h5 _ hgrow hown'
      have Hf := Lib.hid hfin; clear hfin hown' hgrow
      go_wp2
      go_ret
      exact ⟨_, rfl, Hf.out.1, Hf.out.2⟩
    · have hq : IntKind.u64.wrap ((u : Int) / 128) = (u : Int) / 128 := wrap_u64_of (by omega) (by
        have := H1.out
        have h2 : u * 1 ≤ u * 128 ^ pre.length := Nat.mul_le_mul_left _ (Nat.pow_pos (by omega))
        omega)
      go_wp2_with (at_builtin; refine wpList_append_own _ rfl _ _ 34 rfl (w.heap.size) 5 i (.int .u8 0) 1 1 Try.underlying34 hi hz hs hb rfl (by decide) _ _ _ rfl (h5.alloc _) ⟨wr.heap.size, 0, none⟩ 1 1 [.int .u8 ((u:Int) % 128 + 128)] rfl rfl ?c1 ?c2 ?c3 ?c4 ?c5 ?_)
      case c1 => exact new_cells wr _ _
      case c2 => exact one_oneCell rfl
      case c3 => unfold maxLen; omega
      case c4 => omega
      case c5 => have := H4.out.size; simp; omega
      intro v' w' hown' hgrow _
      have hfin := SevRel.next h128 H1.out H3.out H4.out h5 _ hgrow hown'
      have Hf := Lib.hid hfin; clear hfin hown' hgrow
      go_wp2
      go_roundw
      case rel => exact Hf.out
      case measure => simp [intOf]; omega
end Go.Proofs.Ytcejjckhhdgdnaa
