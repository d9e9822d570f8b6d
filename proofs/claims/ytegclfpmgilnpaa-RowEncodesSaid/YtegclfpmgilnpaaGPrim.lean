/-
  XInfo, XPrimA, XPrimC, XPrimD, XPrimE, XPrimF, XConcat, XPrimB, XPrimH in one text. MADE BY mergeSeat.py
-/
import Derived.Test.YtegclfpmgilnpaaProg
import Derived.Test.YtegclfpmgilnpaaGLib
import Derived.WalkKit
import Derived.Lib.Hide
import Derived.WalkSpells
import Derived.Lib.SliceRun
import Derived.Lib.Zigzag
import Derived.Lib.AppendZeros
import Derived.Lib.ConvBytes
namespace Go.Proofs.Ytegclfpmgilnpaa
open Go.RowKit Go.Lac
theorem infoU8 : (Try.prog.info? 5).map (fun i => (i.zero, i.size, i.bytes)) = some (some (.int .u8 0), 1, 1) := by kernel_rfl
end Go.Proofs.Ytegclfpmgilnpaa
namespace Go.Proofs.Ytegclfpmgilnpaa
open Go.RowKit Go.Lac

/-- A number's sevens. -/
def sev (v : Nat) : List UInt8 := if h : v < 128 then [UInt8.ofNat v] else UInt8.ofNat (v % 128 + 128) :: sev (v / 128)
termination_by v
decreasing_by omega

theorem sev_small {v : Nat} (h : v < 128) : sev v = [UInt8.ofNat v] := by rw [sev, dif_pos h]
theorem sev_big {v : Nat} (h : ¬ v < 128) : sev v = UInt8.ofNat (v % 128 + 128) :: sev (v / 128) := by rw [sev, dif_neg h]

/-- What is made of v: bs so far, u left. -/
def SevRel (v : Nat) (w : World) (x l : Value) (wr : World) : Prop :=
  ∃ (u : Nat) (pre : List UInt8), x = .int .u64 u ∧ u * 128 ^ pre.length < 2 ^ 64 ∧ pre.length ≤ 9 ∧ sev v = pre ++ sev u ∧
    Ext w wr ∧ wr.ownsRow w.heap.size 5 1 l pre.length (cellsB pre)

theorem SevRel.next {v : Nat} {w wr w' : World} {u : Nat} {pre : List UInt8} {l v' : Value} (h128 : ¬ u < 128) (h1 : u * 128 ^ pre.length < 2 ^ 64)
    (h3 : sev v = pre ++ sev u) (h4 : Ext w wr) (h5 : wr.ownsRow w.heap.size 5 1 l pre.length (cellsB pre)) (o : Obj)
    (h6 : (wr.alloc o).grownBy w' l.ownBlock) (h7 : w'.ownsRow w.heap.size 5 1 v' (pre.length + 1) (cellsB pre ++ [.int .u8 ((u : Int) % 128 + 128)])) :
    SevRel v w (.int .u64 ((u : Int) / 128)) v' w' := by
  have hb : u % 128 + 128 < 256 := by omega
  have hlen : pre.length + 1 ≤ 9 := by
    rcases Nat.lt_or_ge pre.length 9 with h | h
    · exact h
    · exfalso
      have : 128 ^ 9 ≤ 128 ^ pre.length := Nat.pow_le_pow_right (by omega) h
      have h2 : 128 * 128 ^ 9 ≤ u * 128 ^ pre.length := Nat.mul_le_mul (by omega) this
      omega
  refine ⟨u / 128, pre ++ [UInt8.ofNat (u % 128 + 128)], by simp, ?_, by simpa using hlen, ?_, ?_, ?_⟩
  · rw [List.length_append, List.length_singleton, Nat.pow_succ, Nat.mul_comm (128 ^ pre.length), ← Nat.mul_assoc]
    exact Nat.lt_of_le_of_lt (Nat.mul_le_mul_right _ (Nat.div_mul_le_self u 128)) h1
  · rw [h3, sev_big h128, List.append_assoc]; rfl
  · refine (h4.alloc o).grown h6 fun k hk => ?_
    have := (h5.lt k hk).1
    omega
  · have e : cellsB (pre ++ [UInt8.ofNat (u % 128 + 128)]) = cellsB pre ++ [.int .u8 ((u : Int) % 128 + 128)] := by
      rw [cellsB_append]; simp only [cellsB, List.map_cons, List.map_nil, cellB_ofNat hb]; rfl
    rw [e, List.length_append]; exact h7

theorem SevRel.last {v : Nat} {w wr w' : World} {u : Nat} {pre : List UInt8} {l v' : Value} (h128 : u < 128)
    (h3 : sev v = pre ++ sev u) (h4 : Ext w wr) (h5 : wr.ownsRow w.heap.size 5 1 l pre.length (cellsB pre)) (o : Obj)
    (h6 : (wr.alloc o).grownBy w' l.ownBlock) (h7 : w'.ownsRow w.heap.size 5 1 v' (pre.length + 1) (cellsB pre ++ [.int .u8 (u : Int)])) :
    Ext w w' ∧ w'.ownsRow w.heap.size 5 1 v' (sev v).length (cellsB (sev v)) := by
  have hb : u < 256 := by omega
  refine ⟨(h4.alloc o).grown h6 fun k hk => ?_, ?_⟩
  · have := (h5.lt k hk).1
    omega
  · rw [h3, sev_small h128]
    simpa [cellsB, cellB_ofNat hb] using h7

set_option maxRecDepth 20000 in
set_option maxHeartbeats 400000 in
theorem sevens_any (v : Nat) (w : World) (hv : v < 2 ^ 64) : Calls Try.prog 131 #[.int .u64 v] w (Made 5 (sev v) w) := by
  obtain ⟨i, hi, hz, hs, hb⟩ := info_parts infoU8
  have hmk := fun w => run_make (P := Try.prog) w 76 5 i _ Try.underlying76 hi hz .i64 .i64 0 10 (by omega) (by omega) (by rw [hb]; omega) (by omega)
  have hmd := World.ownsRow_made (e := 5) (size := 1) w (madeCells (Value.int .u8 0).cells (10 * 1)) 10 (Nat.le_refl _) (by decide) (by rw [size_madeCells])
  rw [hs] at hmk
  have Hmd := Lib.hid hmd; clear hmd
  have HV := Lib.hid hv; clear hv
  go_enter Try.func131, Try.ntmps131
  go_wp2
  clear hmk
  go_loopw [0, 3] (fun x l wr => SevRel v w x l wr) (fun x _ _ => (intOf x).toNat)
  case atStart => exact ⟨v, [], rfl, by simpa using HV.out, by simp, rfl, (Ch.refl _ _).alloc _, Hmd.out⟩
  case round =>
    obtain ⟨u, pre, rfl, h1, h2, h3, h4, h5⟩ := hrel
    have H1 := Lib.hid h1; have H3 := Lib.hid h3; have H4 := Lib.hid h4; clear h1 h3 h4
    by_cases h128 : u < 128
    · go_wp2_with (at_builtin; refine wpList_append_own _ rfl _ _ 76 rfl (w.heap.size) 5 i (.int .u8 0) 1 1 Try.underlying76 hi hz hs hb rfl (by decide) _ _ _ rfl (h5.alloc _) ⟨wr.heap.size, 0, none⟩ 1 1 [.int .u8 (u:Int)] rfl rfl ?c1 ?c2 ?c3 ?c4 ?c5 ?_)
      case c1 => exact new_cells wr _ _
      case c2 => exact one_oneCell rfl
      case c3 => unfold maxLen; omega
      case c4 => omega
      case c5 => have := H4.out.size; simp; omega
      intro v' w' hown' hgrow _
      have hfin := SevRel.last h128 H3.out H4.out h5 _ hgrow hown'
      have Hf := Lib.hid hfin; clear hfin hown' hgrow
      go_wp2
      go_ret
      exact ⟨_, rfl, Hf.out.1, Hf.out.2⟩
    · have hor := or128 u
      go_wp2_with (at_builtin; refine wpList_append_own _ rfl _ _ 76 rfl (w.heap.size) 5 i (.int .u8 0) 1 1 Try.underlying76 hi hz hs hb rfl (by decide) _ _ _ rfl (h5.alloc _) ⟨wr.heap.size, 0, none⟩ 1 1 [.int .u8 ((u:Int) % 128 + 128)] rfl rfl ?c1 ?c2 ?c3 ?c4 ?c5 ?_)
      case c1 => exact new_cells wr _ _
      case c2 => exact one_oneCell rfl
      case c3 => unfold maxLen; omega
      case c4 => omega
      case c5 => have := H4.out.size; simp; omega
      intro v' w' hown' hgrow _
      have hfin := SevRel.next h128 H1.out H3.out H4.out h5 _ hgrow hown'
      have Hf := Lib.hid hfin; clear hfin hown' hgrow
      go_wp2
      go_roundw
      case rel => exact Hf.out
      case measure => simp [intOf]; omega
set_option maxRecDepth 20000 in
set_option maxHeartbeats 400000 in
theorem refUint_any (v : Nat) (w : World) (hv : v < 2 ^ 64) : Calls Try.prog 95 #[.int .u64 v] w (Made 5 (sev v) w) := by
  obtain ⟨i, hi, hz, hs, hb⟩ := info_parts infoU8
  have HV := Lib.hid hv; clear hv
  go_enter Try.func95, Try.ntmps95
  go_wp2
  go_loopw [0, 3] (fun x l wr => SevRel v w x l wr) (fun x _ _ => (intOf x).toNat)
  case atStart => exact ⟨v, [], rfl, by simpa using HV.out, by simp, rfl, Ch.refl _ _, World.ownsRow_nil _ _ _ _⟩
  case round =>
    obtain ⟨u, pre, rfl, h1, h2, h3, h4, h5⟩ := hrel
    have H1 := Lib.hid h1; have H3 := Lib.hid h3; have H4 := Lib.hid h4; clear h1 h3 h4
    by_cases h128 : u < 128
    · go_wp2_with (at_builtin; refine wpList_append_own _ rfl _ _ 76 rfl (w.heap.size) 5 i (.int .u8 0) 1 1 Try.underlying76 hi hz hs hb rfl (by decide) _ _ _ rfl (h5.alloc _) ⟨wr.heap.size, 0, none⟩ 1 1 [.int .u8 (u:Int)] rfl rfl ?c1 ?c2 ?c3 ?c4 ?c5 ?_)
      case c1 => exact new_cells wr _ _
      case c2 => exact one_oneCell rfl
      case c3 => unfold maxLen; omega
      case c4 => omega
      case c5 => have := H4.out.size; simp; omega
      intro v' w' hown' hgrow _
      have hfin := SevRel.last h128 H3.out H4.out h5 _ hgrow hown'
      have Hf := Lib.hid hfin; clear hfin hown' hgrow
      go_wp2
      go_ret
      exact ⟨_, rfl, Hf.out.1, Hf.out.2⟩
    · have hq : IntKind.u64.wrap ((u : Int) / 128) = (u : Int) / 128 := wrap_u64_of (by omega) (by
        have := H1.out
        have h2 : u * 1 ≤ u * 128 ^ pre.length := Nat.mul_le_mul_left _ (Nat.pow_pos (by omega))
        omega)
      go_wp2_with (at_builtin; refine wpList_append_own _ rfl _ _ 76 rfl (w.heap.size) 5 i (.int .u8 0) 1 1 Try.underlying76 hi hz hs hb rfl (by decide) _ _ _ rfl (h5.alloc _) ⟨wr.heap.size, 0, none⟩ 1 1 [.int .u8 ((u:Int) % 128 + 128)] rfl rfl ?c1 ?c2 ?c3 ?c4 ?c5 ?_)
      case c1 => exact new_cells wr _ _
      case c2 => exact one_oneCell rfl
      case c3 => unfold maxLen; omega
      case c4 => omega
      case c5 => have := H4.out.size; simp; omega
      intro v' w' hown' hgrow _
      have hfin := SevRel.next h128 H1.out H3.out H4.out h5 _ hgrow hown'
      have Hf := Lib.hid hfin; clear hfin hown' hgrow
      go_wp2
      go_roundw
      case rel => exact Hf.out
      case measure => simp [intOf]; omega
end Go.Proofs.Ytegclfpmgilnpaa
namespace Go.Proofs.Ytegclfpmgilnpaa
open Go.RowKit Go.Lac

/-- The number that 'l' goes on with, n digits and v being there. -/
def numAt : Nat → Nat → List UInt8 → Nat × Nat × Int
  | _, _, [] => (0, 0, 1)
  | n, v, d :: l =>
    if n = 9 ∧ 1 < d.toNat then (0, 0, 5)
    else if 128 ≤ d.toNat then numAt (n + 1) (v + d.toNat % 128 * 128 ^ n) l
    else if d.toNat = 0 ∧ 0 < n then (0, 0, 5)
    else (v + d.toNat % 128 * 128 ^ n, n + 1, 0)

/-- The number that bytes begin with, how many sevens it has; an error's number. -/
def num (l : List UInt8) : Nat × Nat × Int := numAt 0 0 l

def NumPost (l : List UInt8) (w : World) (e : Ending) (w' : World) : Prop :=
  e = .returned (.tuple #[.int .u64 (num l).1, .int .i64 (num l).2.1, .int .i64 (num l).2.2]) ∧ w = w'

theorem cell_of_rd {w : World} {v : Value} {bs : List UInt8} (h : Rd w v bs) {ao : Option Addr} {cap : Nat} (hv : v = .slice ao bs.length cap) (h0 : 0 < bs.length) :
    ∃ b off, ao = some ⟨b, off, none⟩ ∧ bs.length ≤ cap ∧ cap ≤ maxLen ∧ ∀ j (hj : j < bs.length), w.cell? ⟨b, off + j, none⟩ = some (.int .u8 (bs[j].toNat : Int)) := by
  obtain ⟨ao', cap', e, h1, h2, h3, h4⟩ := h
  rw [hv] at e
  simp only [Value.slice.injEq, true_and] at e
  obtain ⟨rfl, rfl⟩ := e
  cases ao with
  | none => have := h3 rfl; omega
  | some x =>
    obtain ⟨b, off, rfl, _⟩ := h4 x rfl 0 (cellB bs[0]) (by simp [cellsB, h0])
    refine ⟨b, off, rfl, h1, h2, fun j hj => ?_⟩
    obtain ⟨b', off', e', h5⟩ := h4 _ rfl j (cellB bs[j]) (by simp [cellsB, hj])
    cases e'
    exact h5

theorem and127 (d : Nat) (h : d < 256) : bits .and .u8 (d : Int) 127 = ((d % 128 : Nat) : Int) := by
  have := u8_and_nat d 127 h (by omega)
  rw [show (127 : Int) = ((127 : Nat) : Int) from rfl, this]
  congr 1
  exact Nat.and_two_pow_sub_one_eq_mod d 7

theorem digit_eq {v d n : Nat} (hd : d < 256) (h1 : v < 128 ^ n) (h : v + d % 128 * 128 ^ n < 2 ^ 64) :
    bits .or .u64 (v : Int) (IntKind.u64.wrap (IntKind.u64.wrap (bits .and .u8 (d : Int) 127) * 2 ^ (7 * n))) = ((v + d % 128 * 128 ^ n : Nat) : Int) := by
  have hp : (128 : Nat) ^ n = 2 ^ (7 * n) := by rw [Nat.pow_mul]
  have e1 : ((d % 128 : Nat) : Int) * 2 ^ (7 * n) = ((d % 128 * 128 ^ n : Nat) : Int) := by
    rw [hp, Int.natCast_mul, Int.natCast_pow]; rfl
  rw [and127 d hd, wrap_u64_of (n := ((d % 128 : Nat) : Int)) (by omega) (by omega), e1, wrap_u64_of (n := ((d % 128 * 128 ^ n : Nat) : Int)) (by omega) (by omega), u64_or_nat _ _ (by omega) (by omega), Nat.or_comm, nat_join (7 * n) _ _ (by rw [hp]; exact Nat.mul_mod_left _ _) (by rw [← hp]; exact h1), Nat.add_comm]

end Go.Proofs.Ytegclfpmgilnpaa
namespace Go.Proofs.Ytegclfpmgilnpaa
open Go.RowKit Go.Lac

/-- A reader's state: the bytes that are left, the error's number. -/
abbrev RS := List UInt8 × Int

/-- A slice's address is that of a cell. -/
def Strict (v : Value) : Prop := ∀ x l c, v = .slice (some x) l c → x.spot = none
theorem strict_nil : Strict (.slice none 0 0) := fun _ _ _ h => by cases h
theorem strict_lit (b off l c : Nat) : Strict (.slice (some ⟨b, off, none⟩) l c) := fun _ _ _ h => by cases h; rfl

/-- Only block r has changed. -/
abbrev Only (r : Nat) (w w' : World) : Prop := Ch (fun b => b = r) w w'

def RPtr (r : Nat) : Value := .pointer (some ⟨r, 0, none⟩)

/-- It gives up. -/
def failR (s : RS) (e : Int) : RS := if s.2 ≠ 0 ∨ e = 0 then s else ([], e)

theorem numAt_ok : ∀ (l : List UInt8) (n v v' n' : Nat), numAt n v l = (v', n', 0) → v < 128 ^ n → n ≤ 9 → n < n' ∧ n' - n ≤ l.length ∧ v' < 2 ^ 64
  | [], n, v, v', n', h, _, _ => by simp [numAt] at h
  | d :: l, n, v, v', n', h, hv, h9 => by
    have hd := UInt8.toNat_lt d
    rw [numAt] at h
    split at h
    · simp at h
    · rename_i h1
      split at h
      · rename_i h2
        have h9' : n < 9 := by omega
        have hb : v + d.toNat % 128 * 128 ^ n < 128 ^ (n + 1) := by
          have h3 : d.toNat % 128 * 128 ^ n ≤ 127 * 128 ^ n := Nat.mul_le_mul_right _ (by omega)
          rw [Nat.pow_succ]; omega
        have := numAt_ok l (n + 1) _ v' n' h hb (by omega)
        simp only [List.length_cons]
        omega
      · split at h
        · simp at h
        · simp only [Prod.mk.injEq, and_true] at h
          obtain ⟨rfl, rfl⟩ := h
          simp only [List.length_cons]
          refine ⟨by omega, by omega, ?_⟩
          by_cases h8 : n = 9
          · subst h8
            have h3 : d.toNat % 128 * 128 ^ 9 ≤ 1 * 128 ^ 9 := Nat.mul_le_mul_right _ (by omega)
            omega
          · have h3 : d.toNat % 128 * 128 ^ n ≤ 127 * 128 ^ n := Nat.mul_le_mul_right _ (by omega)
            have h4 : 128 ^ (n + 1) ≤ 128 ^ 9 := Nat.pow_le_pow_right (by omega) (by omega)
            rw [Nat.pow_succ] at h4
            omega

theorem num_ok {l : List UInt8} {v n : Nat} (h : num l = (v, n, 0)) : 0 < n ∧ n ≤ l.length ∧ v < 2 ^ 64 := by
  have := numAt_ok l 0 0 v n h (by decide) (by decide)
  omega

theorem numAt_err : ∀ (l : List UInt8) (n v : Nat), (numAt n v l).2.2 = 0 ∨ (numAt n v l).2.2 = 1 ∨ (numAt n v l).2.2 = 5
  | [], n, v => by simp [numAt]
  | d :: l, n, v => by
    rw [numAt]
    split
    · simp
    · split
      · exact numAt_err l _ _
      · split <;> simp

/-- The next number: what is answered, and the state then. -/
def uintR (most : Nat) (s : RS) : Nat × RS :=
  if (num s.1).2.2 ≠ 0 then (0, failR s (num s.1).2.2)
  else if most < (num s.1).1 then (0, failR s 4)
  else ((num s.1).1, (s.1.drop (num s.1).2.1, s.2))

theorem uintR_lt (most : Nat) (s : RS) : (uintR most s).1 < 2 ^ 64 := by
  unfold uintR
  split
  · exact Nat.two_pow_pos 64
  · rename_i h
    split
    · exact Nat.two_pow_pos 64
    · have h0 : (num s.1).2.2 = 0 := by simpa using h
      exact (num_ok (l := s.1) (v := (num s.1).1) (n := (num s.1).2.1) (by rw [← h0])).2.2

theorem uintR_le (most : Nat) (s : RS) : (uintR most s).1 ≤ most := by
  unfold uintR
  split
  · exact Nat.zero_le _
  · split
    · exact Nat.zero_le _
    · show (num s.1).1 ≤ most
      omega

/-- The next n bytes (n not negative): what is answered, and the state then. -/
def takeR (n : Nat) (s : RS) : List UInt8 × RS :=
  if s.1.length < n then ([], failR s 1) else (s.1.take n, (s.1.drop n, s.2))

theorem rd_nil (w : World) : Rd w (.slice none 0 0) [] := ⟨none, 0, rfl, Nat.le_refl _, Nat.zero_le _, fun _ => rfl, fun x hx => by cases hx⟩

/-- The next text, of at most m bytes. -/
def textR (m : Nat) (s : RS) : List UInt8 × RS := takeR (uintR m s).1 (uintR m s).2

/-- What is wrong at the end. -/
def endR (s : RS) : Int := if s.2 = 0 ∧ 0 < s.1.length then 2 else s.2

end Go.Proofs.Ytegclfpmgilnpaa
namespace Go.Proofs.Ytegclfpmgilnpaa
open Go.RowKit Go.Lac

theorem strict_owns {w : World} {base : Nat} {e : TypeId} {size : Nat} {v : Value} {n : Nat} {xs : List Value} (h : w.ownsRow base e size v n xs) : Strict v := by
  rcases h.2 with ⟨rfl, rfl⟩ | ⟨g, cap, cur, rfl, _⟩
  · exact strict_nil
  · exact strict_lit _ _ _ _

theorem rd_low {w : World} {v : Value} {bs : List UInt8} (h : Rd w v bs) (hne : bs ≠ []) : ∀ x l c, v = .slice (some x) l c → x.block < w.heap.size := by
  intro x l c e
  obtain ⟨ao, cap, h1, h2, h3, h4, h5⟩ := h
  rw [h1] at e
  cases e
  have hn : 0 < bs.length := List.length_pos_iff.2 hne
  obtain ⟨b, off, rfl, h6⟩ := h5 x rfl 0 _ (by rw [cellsB, List.getElem?_map, List.getElem?_eq_getElem hn]; rfl)
  unfold World.cell? at h6
  rcases hb : w.heap[b]? with _ | o
  · simp [hb] at h6
  · exact (Array.getElem?_eq_some_iff.1 hb).1
/-- The number with a sign that was folded. -/
def zag (u : Nat) : Int := if u % 2 = 1 then -((u / 2 : Nat) : Int) - 1 else ((u / 2 : Nat) : Int)

theorem zag_zig (x : Int) : zag (Lib.zigzag x) = x := by
  unfold zag Lib.zigzag
  by_cases h : 0 ≤ x
  · rw [if_pos h, if_neg (by omega)]; omega
  · rw [if_neg h, if_pos (by omega)]; omega

theorem zig_zag (u : Nat) : Lib.zigzag (zag u) = u := by
  unfold zag Lib.zigzag
  by_cases h : u % 2 = 1
  · rw [if_pos h, if_neg (by omega)]; omega
  · rw [if_neg h, if_pos (by omega)]; omega

def intR (s : RS) : Int × RS := (zag (uintR 18446744073709551615 s).1, (uintR 18446744073709551615 s).2)

def byteR (s : RS) : Nat × RS := (match (takeR 1 s).1 with | [] => 0 | b :: _ => b.toNat, (takeR 1 s).2)

end Go.Proofs.Ytegclfpmgilnpaa
namespace Go.Proofs.Ytegclfpmgilnpaa
open Go.RowKit Go.Lac

/-- A number's bytes, the lowest first, put together. -/
def wordV : List UInt8 → Nat
  | [] => 0
  | b :: l => b.toNat + 256 * wordV l

theorem wordV_lt : ∀ l : List UInt8, wordV l < 256 ^ l.length
  | [] => by simp [wordV]
  | b :: l => by
    have h1 := wordV_lt l
    have h2 := UInt8.toNat_lt b
    simp only [wordV, List.length_cons, Nat.pow_succ]
    omega

theorem wordV_snoc : ∀ (l : List UInt8) (b : UInt8), wordV (l ++ [b]) = wordV l + b.toNat * 256 ^ l.length
  | [], b => by simp [wordV]
  | a :: l, b => by
    simp only [List.cons_append, wordV, wordV_snoc l b, List.length_cons, Nat.pow_succ]
    rw [Nat.mul_add]
    have : 256 * (b.toNat * 256 ^ l.length) = b.toNat * (256 ^ l.length * 256) := by
      rw [Nat.mul_comm (256 ^ l.length), ← Nat.mul_assoc, ← Nat.mul_assoc, Nat.mul_comm 256]
    omega

theorem wordV_take (l : List UInt8) (k : Nat) (h : k < l.length) : wordV (l.take (k + 1)) = wordV (l.take k) + l[k].toNat * 256 ^ k := by
  rw [List.take_succ_eq_append_getElem h, wordV_snoc]
  simp [List.length_take, Nat.min_eq_left (Nat.le_of_lt h)]

theorem byte_eq {v d n : Nat} (hd : d < 256) (h1 : v < 256 ^ n) (h : v + d * 256 ^ n < 2 ^ 64) :
    bits .or .u64 (v : Int) (IntKind.u64.wrap ((d : Int) * 2 ^ (8 * n))) = ((v + d * 256 ^ n : Nat) : Int) := by
  have hp : (256 : Nat) ^ n = 2 ^ (8 * n) := by rw [Nat.pow_mul]
  have e1 : ((d : Nat) : Int) * 2 ^ (8 * n) = ((d * 256 ^ n : Nat) : Int) := by
    rw [hp, Int.natCast_mul, Int.natCast_pow]; rfl
  rw [e1, wrap_u64_of (n := ((d * 256 ^ n : Nat) : Int)) (by omega) (by omega), u64_or_nat _ _ (by omega) (by omega), Nat.or_comm, nat_join (8 * n) _ _ (by rw [hp]; exact Nat.mul_mod_left _ _) (by rw [← hp]; exact h1), Nat.add_comm]

def wordR (s : RS) : Nat × RS := (wordV (takeR 8 s).1, (takeR 8 s).2)

theorem takeR_length (n : Nat) (s : RS) : (takeR n s).1.length ≤ n := by
  unfold takeR
  split
  · exact Nat.zero_le _
  · exact List.length_take_le _ _

end Go.Proofs.Ytegclfpmgilnpaa
namespace Go.Proofs.Ytegclfpmgilnpaa
open Go.RowKit Go.Lac

/-- Room for n bytes, nothing in it. -/
def GrowPost (n : Nat) (w : World) (e : Ending) (w' : World) : Prop :=
  ∃ s, e = .returned s ∧ Ext w w' ∧ w'.ownsRow w.heap.size 5 1 s 0 [] ∧ ∃ ao cap, s = .slice ao 0 cap

theorem growPost_made (n : Nat) (w : World) (hm : grownCap w n 0 5 ≤ maxLen) (hn : n ≤ grownCap w n 0 5) (z : Value) (hz : z.cells.size = 1) :
    GrowPost n w (.returned (.slice (some ⟨w.heap.size, 0, none⟩) 0 (grownCap w n 0 5)))
      (w.drew.alloc (.cells (Builtin.zeroCells z.cells n ++ Builtin.zeroCells z.cells (grownCap w n 0 5 - n)) 5)) := by
  refine ⟨_, rfl, (Ch.refl _ w).drew.alloc _, ?_, _, _, rfl⟩
  exact World.ownsRow_made w.drew _ _ (Nat.le_refl _) hm (by simp [size_zeroCells, hz]; omega)

set_option maxRecDepth 20000 in
set_option maxHeartbeats 400000 in
theorem grow_nil (n : Nat) (w : World) (hn : n ≤ 2 ^ 47) : Calls Try.prog 117 #[.slice none 0 0, .int .i64 n] w (GrowPost n w) := by
  obtain ⟨i, hi, hz, hs, hb⟩ := info_parts infoU8
  by_cases h0 : n = 0
  · subst h0
    go_enter Try.func117, Try.ntmps117
    go_wp2
    go_ret
    exact ⟨_, rfl, Ch.refl _ _, World.ownsRow_nil _ _ _ _, _, _, rfl⟩
  · have hpos : 0 < n := by omega
    have happ := Lib.run_append_nil_zeros (P := Try.prog) w 76 3 76 5 i (.int .u8 0) .i64 .i64 Try.underlying76 Try.underlying3 hi hz n hpos (by omega) (by omega) (by rw [hb]; omega)
    have hfin := growPost_made n w (grownCap_le_maxLen _ _ _ _ (by unfold maxLen; omega)) (grownCap_ge _ _ _ _) (.int .u8 0) rfl
    have Hf := Lib.hid hfin; clear hfin
    have hn' : n ≤ 140737488355328 := by omega
    clear hn h0
    have hp : (0 : Int) < (n : Int) := by omega
    have hcap := grownCap_ge w n 0 5
    have hcm := grownCap_le_maxLen w n 0 5 (by unfold maxLen; omega)
    unfold maxLen at hcm
    go_enter Try.func117, Try.ntmps117
    go_wp2_with (at_builtin; refine Lib.wpList_append_run _ rfl _ _ _ _ rfl _ _ rfl rfl _ _ happ ?_)
    go_ret
    exact Hf.out

def total (bss : List (List UInt8)) : Nat := (bss.map List.length).sum
theorem total_flatten (bss : List (List UInt8)) : bss.flatten.length = total bss := by simp [total, List.length_flatten]
theorem total_take_succ (bss : List (List UInt8)) (k : Nat) (h : k < bss.length) : total (bss.take (k + 1)) = total (bss.take k) + bss[k].length := by
  unfold total
  rw [List.take_succ_eq_append_getElem h, List.map_append, List.sum_append]
  simp only [List.map_cons, List.map_nil, List.sum_cons, List.sum_nil, Nat.add_zero]
theorem flatten_take_succ (bss : List (List UInt8)) (k : Nat) (h : k < bss.length) : (bss.take (k + 1)).flatten = (bss.take k).flatten ++ bss[k] := by
  rw [List.take_succ_eq_append_getElem h, List.flatten_append]
  simp only [List.flatten_cons, List.flatten_nil, List.append_nil]
theorem total_take_le (bss : List (List UInt8)) (k : Nat) : total (bss.take k) ≤ total bss := by
  have h : total bss = total (bss.take k) + total (bss.drop k) := by
    conv => lhs; rw [← List.take_append_drop k bss]
    unfold total
    rw [List.map_append, List.sum_append]
  omega

/-- The k-th of the slices that lie from ⟨b, off⟩ on reads as the k-th of bss. -/
def RdAll (w : World) (b off : Nat) (bss : List (List UInt8)) : Prop :=
  ∀ k (h : k < bss.length), ∃ v, w.cell? ⟨b, off + k, none⟩ = some v ∧ Rd w v bss[k]

theorem RdAll.ext {w w' : World} {b off : Nat} {bss : List (List UInt8)} (h : RdAll w b off bss) (k : Ext w w') : RdAll w' b off bss := fun i hi => by
  obtain ⟨v, h1, h2⟩ := h i hi
  exact ⟨v, k.cell (fun f => f) v h1, h2.ext k⟩

def CatRel (bss : List (List UInt8)) (w : World) (k : Nat) (s : Value) (wr : World) : Prop :=
  Ext w wr ∧ wr.ownsRow w.heap.size 5 1 s (total (bss.take k)) (cellsB (bss.take k).flatten)

theorem CatRel.next {bss : List (List UInt8)} {w wr w' : World} {k : Nat} {s s' : Value} (h : CatRel bss w k s wr) (hk : k < bss.length)
    (h6 : wr.grownBy w' s.ownBlock) (h7 : w'.ownsRow w.heap.size 5 1 s' (total (bss.take k) + bss[k].length) (cellsB (bss.take k).flatten ++ cellsB bss[k])) :
    CatRel bss w (k + 1) s' w' := by
  refine ⟨h.1.grown h6 fun j hj => ?_, ?_⟩
  · have := (h.2.lt j hj).1
    omega
  · rw [total_take_succ bss k hk, flatten_take_succ bss k hk, cellsB_append]
    exact h7

set_option maxRecDepth 20000 in
set_option maxHeartbeats 1000000 in
theorem concat_any (bss : List (List UInt8)) (b off cap : Nat) (w : World) (hv : RdAll w b off bss) (ht : total bss ≤ 2 ^ 47) (hl : bss.length ≤ 2 ^ 47) :
    Calls Try.prog 93 #[.slice (some ⟨b, off, none⟩) bss.length cap] w (Made 5 bss.flatten w) := by
  obtain ⟨i, hi, hz, hs, hb⟩ := info_parts infoU8
  have HV := Lib.hid hv; clear hv
  have ht' : total bss ≤ 140737488355328 := by omega
  have hl' : bss.length ≤ 140737488355328 := by omega
  clear ht hl
  generalize hn : bss.length = n at hl'
  have Hn := Lib.hid hn; clear hn
  go_enter Try.func93, Try.ntmps93
  go_wp2
  go_loop [3, 11] (fun sz ix => ∃ k : Nat, k ≤ n ∧ ix = .int .i64 k ∧ sz = .int .i64 (total (bss.take k) : Nat)) (fun _ ix => n - (intOf ix).toNat)
  case atStart => exact ⟨0, Nat.zero_le _, rfl, by simp [total]⟩
  case round =>
    obtain ⟨k, hk, rfl, rfl⟩ := hrel
    have htk := total_take_le bss k
    by_cases hlt : k < n
    · have hkl : k < bss.length := by rw [Hn.out]; exact hlt
      obtain ⟨v, hc, ao, cp, rfl, h1, h2, h3, h4⟩ := HV.out k hkl
      have htk1 := total_take_le bss (k + 1)
      have hsucc := total_take_succ bss k hkl
      have Hs := Lib.hid hsucc
      rw [hsucc] at htk1
      clear hsucc h1 h2 h3 h4
      generalize (bss[k]'hkl).length = lk at *
      clear hkl
      go_wp2
      go_round
      case rel => exact ⟨k + 1, by omega, by go_num, by rw [Hs.out]; go_num⟩
      case measure => simp [intOf]; omega
    · have hkn : k = n := by omega
      subst hkn
      have hfull : bss.take k = bss := List.take_of_length_le (by rw [Hn.out]; exact Nat.le_refl _)
      rw [hfull]
      clear hfull
      go_wp2_with (go_at_call 117; refine (grow_nil (total bss) _ (by omega)).mono ?_)
      rintro e w1 ⟨s, rfl, hx1, ho1, ao, cp, rfl⟩
      have HX := Lib.hid hx1; have HO := Lib.hid ho1; clear hx1 ho1
      have HV1 := Lib.hid (HV.out.ext HX.out)
      go_wp2
      go_loopw [6, 27] (fun s ix wr => ∃ j : Nat, j ≤ k ∧ ix = .int .i64 j ∧ CatRel bss w j s wr) (fun _ ix _ => k - (intOf ix).toNat)
      case atStart => exact ⟨0, Nat.zero_le _, rfl, HX.out, HO.out⟩
      case round =>
        obtain ⟨j, hj, rfl, hr⟩ := hrel
        have HR := Lib.hid hr; clear hr
        have htj := total_take_le bss j
        by_cases hlt : j < k
        · have hkl : j < bss.length := by rw [Hn.out]; exact hlt
          obtain ⟨v, hc, hrd⟩ := (HV.out.ext HR.out.1) j hkl
          have htk1 := total_take_le bss (j + 1)
          have hsucc := total_take_succ bss j hkl
          rw [hsucc] at htk1
          clear hsucc
          have Hrd := Lib.hid hrd
          obtain ⟨ao', cp', hv', h1, h2, h3, h4⟩ := hrd
          clear h1 h2
          have H4 := Lib.hid h4; have H3 := Lib.hid h3; clear h3 h4
          generalize hlk : (bss[j]'hkl).length = lk at hv' htk1
          have Hlk := Lib.hid hlk; clear hlk
          subst hv'
          go_wp2_with (at_builtin; refine wpList_append_sl _ rfl _ _ 76 rfl w.heap.size 5 i (.int .u8 0) 1 1 Try.underlying76 hi hz hs hb rfl (by decide) _ _ _ rfl HR.out.2 _ _ _ rfl (by have := Hrd.out; unfold Rd at this; rw [Hlk.out] at this; exact this) (by rw [cellsB_length, Hlk.out]; omega) (cellsB_one _) (by omega) (by unfold maxLen; omega) HR.out.1.size ?_)
          intro v' w' hown hgrow
          have hfin := CatRel.next HR.out hkl hgrow (by rw [Hlk.out]; exact hown)
          have Hf := Lib.hid hfin; clear hfin hown hgrow
          go_wp2
          go_roundw
          case rel => exact ⟨j + 1, by omega, by go_num, Hf.out⟩
          case measure => simp [intOf]; omega
        · have hjk : j = k := by omega
          subst hjk
          have hfull : bss.take j = bss := List.take_of_length_le (by rw [Hn.out]; exact Nat.le_refl _)
          have HR' := HR.out
          unfold CatRel at HR'
          rw [hfull] at HR'
          have HR2 := Lib.hid HR'
          clear HR' hfull
          go_wp2
          go_ret
          exact ⟨_, rfl, HR2.out.1, by rw [total_flatten]; exact HR2.out.2⟩
end Go.Proofs.Ytegclfpmgilnpaa
namespace Go.Proofs.Ytegclfpmgilnpaa
open Go.RowKit Go.Lac

theorem sev_length (v : Nat) : (sev v).length ≤ v + 1 := by
  induction v using Nat.strongRecOn with
  | _ v ih =>
    rw [sev]
    split
    · simp
    · have := ih (v / 128) (by omega)
      simp only [List.length_cons]
      omega

theorem sev_length_le (n : Nat) : ∀ v, v < 128 ^ (n + 1) → (sev v).length ≤ n + 1 := by
  induction n with
  | zero => intro v hv; rw [sev_small (by simpa using hv)]; simp
  | succ n ih =>
    intro v hv
    by_cases h : v < 128
    · rw [sev_small h]; simp
    · rw [sev_big h]
      have := ih (v / 128) (by rw [Nat.div_lt_iff_lt_mul (by omega)]; rw [Nat.pow_succ] at hv; exact hv)
      simp only [List.length_cons]; omega

theorem sev_length_10 (v : Nat) (h : v < 2 ^ 64) : (sev v).length ≤ 10 := sev_length_le 9 v (Nat.lt_of_lt_of_le h (by decide))

/-- Two slices, side by side in a new block. -/
theorem rdAll_two {w : World} {a b : Value} {x y : List UInt8} (ha : Rd w a x) (hb : Rd w b y) (E : TypeId) : RdAll (w.alloc (.cells #[a, b] E)) w.heap.size 0 [x, y] := by
  have hx : Ext w (w.alloc (.cells #[a, b] E)) := (Ch.refl _ _).alloc _
  intro k hk
  match k, hk with
  | 0, _ => exact ⟨a, by rw [World.cell?_alloc_new w]; rfl, ha.ext hx⟩
  | 1, _ => exact ⟨b, by rw [World.cell?_alloc_new w]; rfl, hb.ext hx⟩

theorem rdAll_three {w : World} {a b c : Value} {x y z : List UInt8} (ha : Rd w a x) (hb : Rd w b y) (hc : Rd w c z) (E : TypeId) : RdAll (w.alloc (.cells #[a, b, c] E)) w.heap.size 0 [x, y, z] := by
  have hx : Ext w (w.alloc (.cells #[a, b, c] E)) := (Ch.refl _ _).alloc _
  intro k hk
  match k, hk with
  | 0, _ => exact ⟨a, by rw [World.cell?_alloc_new w]; rfl, ha.ext hx⟩
  | 1, _ => exact ⟨b, by rw [World.cell?_alloc_new w]; rfl, hb.ext hx⟩
  | 2, _ => exact ⟨c, by rw [World.cell?_alloc_new w]; rfl, hc.ext hx⟩

set_option maxRecDepth 20000 in
set_option maxHeartbeats 400000 in
theorem putUint_any (vb : Value) (b : List UInt8) (v : Nat) (w : World) (hb : Rd w vb b) (hl : b.length ≤ 2 ^ 46) (hv : v < 2 ^ 64) :
    Calls Try.prog 115 #[vb, .int .u64 v] w (Made 5 (b ++ sev v) w) := by
  have HB := Lib.hid hb; have HV := Lib.hid hv; have HL := Lib.hid hl
  obtain ⟨ao, cap, rfl⟩ := hb.shape
  clear hb hv hl
  go_enter Try.func115, Try.ntmps115
  go_wp2_with (go_at_call 131; refine (sevens_any v _ HV.out).mono ?_)
  rintro e w1 ⟨s, rfl, hx1, ho1⟩
  have HX := Lib.hid hx1; have HO := Lib.hid ho1
  obtain ⟨ao', cap', rfl⟩ := owns_shape ho1
  clear hx1 ho1
  have hcat := concat_any [b, sev v] w1.heap.size 0 2 _ (rdAll_two (HB.out.ext HX.out) (Rd.ofOwns HO.out) 76) (by have := sev_length_10 v HV.out; have := HL.out; simp [total]; omega) (by simp)
  have HC := Lib.hid hcat; clear hcat
  go_wp2_with (go_at_call 93; refine HC.out.mono ?_)
  rintro e w2 ⟨s2, rfl, hx2, ho2⟩
  have hfin : Made 5 (b ++ sev v) w (.returned s2) w2 := Made.after ⟨s2, rfl, hx2, by simpa using ho2⟩ (HX.out.alloc _)
  have HF := Lib.hid hfin; clear hfin hx2 ho2
  go_wp2
  go_ret
  exact HF.out

theorem wrap64_id {x : Int} (h0 : -9223372036854775808 ≤ x) (h1 : x ≤ 9223372036854775807) : IntKind.i64.wrap x = x := by
  rw [IntKind.wrap_i64]; omega

set_option maxRecDepth 20000 in
set_option maxHeartbeats 400000 in
theorem fold_any (x : Int) (w : World) (h0 : -9223372036854775808 ≤ x) (h1 : x ≤ 9223372036854775807) :
    Calls Try.prog 143 #[.int .i64 x] w fun e w' => e = .returned (.int .u64 (Lib.zigzag x : Nat)) ∧ w = w' := by
  by_cases hx : x < 0
  · have hz := Lib.zigzag_neg h0 hx
    clear h0 h1
    go_enter Try.func143, Try.ntmps143
    go_wp2
    go_ret
    exact ⟨rfl, rfl⟩
  · have hz := Lib.zigzag_nonneg (x := x) (by omega)
    have HZ := Lib.hid hz; clear hz
    have hw1 : IntKind.u64.wrap x = x := wrap_u64_of (by omega) (by omega)
    have hw2 : IntKind.u64.wrap (x * 2) = x * 2 := wrap_u64_of (by omega) (by omega)
    clear h0 h1
    go_enter Try.func143, Try.ntmps143
    go_wp2
    go_ret
    exact ⟨ret_int HZ.out.symm, rfl⟩

set_option maxRecDepth 20000 in
set_option maxHeartbeats 400000 in
theorem zig_any (x : Int) (w : World) (h0 : -9223372036854775808 ≤ x) (h1 : x ≤ 9223372036854775807) :
    Calls Try.prog 119 #[.int .i64 x] w fun e w' => e = .returned (.int .u64 (Lib.zigzag x : Nat)) ∧ w = w' := by
  by_cases hx : x < 0
  · go_enter Try.func119, Try.ntmps119
    go_wp2
    go_ret
    exact ⟨ret_int (by unfold Lib.zigzag; rw [if_neg (by omega)]; omega), rfl⟩
  · go_enter Try.func119, Try.ntmps119
    go_wp2
    go_ret
    exact ⟨ret_int (by unfold Lib.zigzag; rw [if_pos (by omega)]; omega), rfl⟩

theorem zig_lt (x : Int) (h0 : -9223372036854775808 ≤ x) (h1 : x ≤ 9223372036854775807) : Lib.zigzag x < 2 ^ 64 := Lib.zigzag_lt h0 h1

set_option maxRecDepth 20000 in
set_option maxHeartbeats 400000 in
theorem putInt_any (vb : Value) (b : List UInt8) (x : Int) (w : World) (hb : Rd w vb b) (hl : b.length ≤ 2 ^ 46) (h0 : -9223372036854775808 ≤ x) (h1 : x ≤ 9223372036854775807) :
    Calls Try.prog 141 #[vb, .int .i64 x] w (Made 5 (b ++ sev (Lib.zigzag x)) w) := by
  have H1 := Lib.hid (fold_any x w h0 h1)
  have H2 := Lib.hid (putUint_any vb b (Lib.zigzag x) w hb hl (zig_lt x h0 h1))
  clear hb hl h0 h1
  go_enter Try.func141, Try.ntmps141
  go_wp2_with (go_at_call 143; refine H1.out.mono ?_; rintro e w' ⟨rfl, rfl⟩)
  refine H2.out.mono ?_
  rintro e w1 ⟨s, rfl, hx, ho⟩
  have HF := Lib.hid (show Made 5 (b ++ sev (Lib.zigzag x)) w (.returned s) w1 from ⟨s, rfl, hx, ho⟩)
  clear hx ho
  go_wp2
  go_ret
  exact HF.out

/-- A text with its length ahead. -/
def txt (s : List UInt8) : List UInt8 := sev s.length ++ s

set_option maxRecDepth 20000 in
set_option maxHeartbeats 400000 in
theorem putText_any (vb : Value) (b s : List UInt8) (w : World) (hb : Rd w vb b) (hl : b.length ≤ 2 ^ 45) (hs : s.length ≤ 2 ^ 45) :
    Calls Try.prog 139 #[vb, .string ⟨s.toArray⟩] w (Made 5 (b ++ txt s) w) := by
  have HB := Lib.hid hb; have HL := Lib.hid hl; have HS := Lib.hid hs
  obtain ⟨ao, cap, rfl⟩ := hb.shape
  have hs' : (s.length : Int) ≤ 35184372088832 := by omega
  clear hb hl hs
  go_enter Try.func139, Try.ntmps139
  go_wp2_with (go_at_call 131; refine (sevens_any s.length _ (by have := HS.out; omega)).mono ?_)
  rintro e w1 ⟨sv, rfl, hx1, ho1⟩
  have HX := Lib.hid hx1; have HO := Lib.hid ho1
  obtain ⟨ao', cap', rfl⟩ := owns_shape ho1
  clear hx1 ho1
  obtain ⟨cap2, w2, hr2, hx2, hrd2⟩ := run_toBytes (P := Try.prog) w1 s 9 76 5 Try.underlying9 Try.underlying76 Try.underlying5 (by have := HS.out; unfold maxLen; omega)
  have HX2 := Lib.hid hx2; have HR2 := Lib.hid hrd2; clear hx2 hrd2
  have hcat := concat_any [b, sev s.length, s] w2.heap.size 0 3 _ (rdAll_three (HB.out.ext (HX.out.trans HX2.out)) ((Rd.ofOwns HO.out).ext HX2.out) HR2.out 76) (by have := sev_length_10 s.length (by have := HS.out; omega); have := HL.out; have := HS.out; simp [total]; omega) (by simp)
  have HC := Lib.hid hcat; clear hcat
  go_wp2_with (go_at_call 93; refine HC.out.mono ?_)
  rintro e w3 ⟨s3, rfl, hx3, ho3⟩
  have hfin : Made 5 (b ++ txt s) w (.returned s3) w3 := Made.after ⟨s3, rfl, hx3, by simpa [txt] using ho3⟩ ((HX.out.trans HX2.out).alloc _)
  have HF := Lib.hid hfin; clear hfin hx3 ho3
  go_wp2
  go_ret
  exact HF.out

set_option maxRecDepth 20000 in
set_option maxHeartbeats 400000 in
theorem refText_any (s : List UInt8) (w : World) (hs : s.length ≤ 2 ^ 45) :
    Calls Try.prog 121 #[.string ⟨s.toArray⟩] w (Made 5 (txt s) w) := by
  obtain ⟨i, hi, hz, hs1, hb⟩ := info_parts infoU8
  have HS := Lib.hid hs
  have hs' : (s.length : Int) ≤ 35184372088832 := by omega
  clear hs
  go_enter Try.func121, Try.ntmps121
  go_wp2_with (go_at_call 95; refine (refUint_any s.length _ (by have := HS.out; omega)).mono ?_)
  rintro e w1 ⟨sv, rfl, hx1, ho1⟩
  have HX := Lib.hid hx1; have HO := Lib.hid ho1
  obtain ⟨ao', cap', rfl⟩ := owns_shape ho1
  clear hx1 ho1
  obtain ⟨cap2, w2, hr2, hx2, hrd2⟩ := run_toBytes (P := Try.prog) w1 s 9 76 5 Try.underlying9 Try.underlying76 Try.underlying5 (by have := HS.out; unfold maxLen; omega)
  have HX2 := Lib.hid hx2; have HR2 := Lib.hid hrd2; clear hx2 hrd2
  have HO2 := Lib.hid (HO.out.ext HX2.out)
  go_wp2_with (at_builtin; refine wpList_append_sl _ rfl _ _ 76 rfl w.heap.size 5 i (.int .u8 0) 1 1 Try.underlying76 hi hz hs1 hb rfl (by decide) _ _ _ rfl HO2.out _ _ _ rfl HR2.out (by rw [cellsB_length, Nat.mul_one]) (cellsB_one _) (by have := sev_length_10 s.length (by have := HS.out; omega); have := HS.out; omega) (by have := sev_length_10 s.length (by have := HS.out; omega); have := HS.out; unfold maxLen; omega) (HX.out.trans HX2.out).size ?_)
  intro v' w' hown hgrow
  have hlt := HO2.out.lt
  have hfin : Made 5 (txt s) w (.returned v') w' := ⟨v', rfl, (HX.out.trans HX2.out).grown hgrow (fun k hk => .inr (hlt k hk).1), by rw [txt, List.length_append, cellsB_append]; exact hown⟩
  have HF := Lib.hid hfin; clear hfin hown hgrow hlt
  go_wp2
  go_ret
  exact HF.out
end Go.Proofs.Ytegclfpmgilnpaa
namespace Go.Proofs.Ytegclfpmgilnpaa
open Go.RowKit Go.Lac

theorem toNat_ofNat_lt {n : Nat} (h : n < 256) : (UInt8.ofNat n).toNat = n := by
  simp [Nat.mod_eq_of_lt h]

theorem numAt_sev (rest : List UInt8) : ∀ (v n acc : Nat), acc + v * 128 ^ n < 2 ^ 64 → n ≤ 9 → (0 < v ∨ n = 0) →
    numAt n acc (sev v ++ rest) = (acc + v * 128 ^ n, n + (sev v).length, 0) := by
  intro v
  induction v using Nat.strongRecOn with
  | _ v ih =>
    intro n acc hb hn h0
    by_cases hv : v < 128
    · rw [sev_small hv, List.singleton_append, numAt, toNat_ofNat_lt (by omega)]
      have h9 : ¬ (n = 9 ∧ 1 < v) := by
        rintro ⟨rfl, h1⟩
        have : 2 * 128 ^ 9 ≤ v * 128 ^ 9 := Nat.mul_le_mul_right _ h1
        omega
      rw [if_neg h9, if_neg (by omega), if_neg (by omega), Nat.mod_eq_of_lt hv]
      rfl
    · have hd : v % 128 + 128 < 256 := by omega
      rw [sev_big hv, List.cons_append, numAt, toNat_ofNat_lt hd]
      have h9 : ¬ (n = 9 ∧ 1 < v % 128 + 128) := by
        rintro ⟨rfl, h1⟩
        have : 128 * 128 ^ 9 ≤ v * 128 ^ 9 := Nat.mul_le_mul_right _ (by omega)
        omega
      have hn8 : n ≤ 8 := by
        rcases Nat.lt_or_ge n 9 with h | h
        · omega
        · exact absurd ⟨by omega, by omega⟩ h9
      rw [if_neg h9, if_pos (by omega), show (v % 128 + 128) % 128 = v % 128 by omega]
      have e : acc + v % 128 * 128 ^ n + v / 128 * 128 ^ (n + 1) = acc + v * 128 ^ n := by
        rw [Nat.pow_succ, Nat.mul_comm (128 ^ n) 128, ← Nat.mul_assoc, Nat.add_assoc, ← Nat.add_mul]
        congr 2
        omega
      rw [ih (v / 128) (by omega) (n + 1) _ (by rw [e]; exact hb) (by omega) (.inl (by omega)), e]
      simp only [List.length_cons, Prod.mk.injEq, and_true, true_and]
      omega

theorem num_sev (v : Nat) (rest : List UInt8) (h : v < 2 ^ 64) : num (sev v ++ rest) = (v, (sev v).length, 0) := by
  have := numAt_sev rest v 0 0 (by simpa using h) (by omega) (.inr rfl)
  simpa [num] using this

theorem uintR_sev (most v : Nat) (rest : List UInt8) (h : v < 2 ^ 64) : uintR most (sev v ++ rest, 0) = if v ≤ most then (v, (rest, 0)) else (0, ([], 4)) := by
  unfold uintR
  rw [num_sev v rest h]
  by_cases hm : v ≤ most
  · simp [hm, show ¬ most < v by omega]
  · simp [hm, show most < v by omega, failR]

theorem takeR_app (s rest : List UInt8) (e : Int) : takeR s.length (s ++ rest, e) = (s, (rest, e)) := by
  unfold takeR
  rw [if_neg (by simp)]
  simp

theorem textR_txt (m : Nat) (s rest : List UInt8) (h : s.length < 2 ^ 64) : textR m (txt s ++ rest, 0) = if s.length ≤ m then (s, (rest, 0)) else ([], ([], 4)) := by
  unfold textR txt
  rw [List.append_assoc, uintR_sev m s.length (s ++ rest) h]
  by_cases hm : s.length ≤ m
  · rw [if_pos hm, if_pos hm]
    exact takeR_app s rest 0
  · rw [if_neg hm, if_neg hm]
    rfl

theorem intR_sev (x : Int) (rest : List UInt8) (h0 : -9223372036854775808 ≤ x) (h1 : x ≤ 9223372036854775807) : intR (sev (Lib.zigzag x) ++ rest, 0) = (x, (rest, 0)) := by
  have hz := zig_lt x h0 h1
  unfold intR
  rw [uintR_sev _ _ _ hz, if_pos (by omega), zag_zig]

/-- From no other bytes. -/
theorem numAt_inv : ∀ (l : List UInt8) (n acc v' n' : Nat), numAt n acc l = (v', n', 0) → n ≤ 9 →
    ∃ u, v' = acc + u * 128 ^ n ∧ (0 < u ∨ n = 0) ∧ n' = n + (sev u).length ∧ l = sev u ++ l.drop (sev u).length
  | [], n, acc, v', n', h, _ => by simp [numAt] at h
  | d :: l, n, acc, v', n', h, hn => by
    have hd := UInt8.toNat_lt d
    rw [numAt] at h
    split at h
    · simp at h
    · rename_i h9
      split at h
      · rename_i h128
        obtain ⟨u, h1, h2, h3, h4⟩ := numAt_inv l (n + 1) _ v' n' h (by omega)
        have hu : 0 < u := by omega
        have hbig : ¬ d.toNat % 128 + 128 * u < 128 := by omega
        have e1 : (d.toNat % 128 + 128 * u) % 128 + 128 = d.toNat := by omega
        have e2 : (d.toNat % 128 + 128 * u) / 128 = u := by omega
        have hs : sev (d.toNat % 128 + 128 * u) = d :: sev u := by
          rw [sev_big hbig, e1, e2, UInt8.ofNat_toNat]
        refine ⟨d.toNat % 128 + 128 * u, ?_, .inl (by omega), ?_, ?_⟩
        · rw [h1, Nat.pow_succ, Nat.add_mul, Nat.mul_comm (128 ^ n) 128, ← Nat.mul_assoc, Nat.mul_comm u 128]
          omega
        · rw [hs, h3, List.length_cons]; omega
        · rw [hs, List.length_cons, List.cons_append, List.drop_succ_cons, ← h4]
      · split at h
        · simp at h
        · rename_i h128 h0
          simp only [Prod.mk.injEq, and_true] at h
          obtain ⟨rfl, rfl⟩ := h
          have hlt : d.toNat < 128 := by omega
          refine ⟨d.toNat, by rw [Nat.mod_eq_of_lt hlt], by omega, ?_, ?_⟩
          · rw [sev_small hlt]; rfl
          · rw [sev_small hlt, UInt8.ofNat_toNat]; rfl

theorem num_inv {l : List UInt8} {v n : Nat} (h : num l = (v, n, 0)) : l = sev v ++ l.drop n ∧ n = (sev v).length := by
  obtain ⟨u, h1, h2, h3, h4⟩ := numAt_inv l 0 0 v n h (by omega)
  have hu : u = v := by simpa using h1.symm
  subst hu
  have : n = (sev u).length := by omega
  rw [this]
  exact ⟨h4, rfl⟩

/-- Cut ahead of its end a number is too short. -/
theorem numAt_cut : ∀ (v n acc k : Nat), acc + v * 128 ^ n < 2 ^ 64 → n ≤ 9 → k < (sev v).length → numAt n acc ((sev v).take k) = (0, 0, 1) := by
  intro v
  induction v using Nat.strongRecOn with
  | _ v ih =>
    intro n acc k hb hn hk
    by_cases hv : v < 128
    · rw [sev_small hv] at hk ⊢
      obtain rfl : k = 0 := by simpa using hk
      rfl
    · have hd : v % 128 + 128 < 256 := by omega
      rw [sev_big hv] at hk ⊢
      cases k with
      | zero => rfl
      | succ k =>
        rw [List.take_succ_cons, numAt, toNat_ofNat_lt hd]
        have h9 : ¬ (n = 9 ∧ 1 < v % 128 + 128) := by
          rintro ⟨rfl, h1⟩
          have : 128 * 128 ^ 9 ≤ v * 128 ^ 9 := Nat.mul_le_mul_right _ (by omega)
          omega
        rw [if_neg h9, if_pos (by omega), show (v % 128 + 128) % 128 = v % 128 by omega]
        have e : acc + v % 128 * 128 ^ n + v / 128 * 128 ^ (n + 1) = acc + v * 128 ^ n := by
          rw [Nat.pow_succ, Nat.mul_comm (128 ^ n) 128, ← Nat.mul_assoc, Nat.add_assoc, ← Nat.add_mul]
          congr 2
          omega
        exact ih (v / 128) (by omega) (n + 1) _ k (by rw [e]; exact hb) (by
          rcases Nat.lt_or_ge n 9 with h | h
          · omega
          · exact absurd ⟨by omega, by omega⟩ h9) (by simpa using hk)

theorem uintR_cut (most v k : Nat) (h : v < 2 ^ 64) (hk : k < (sev v).length) : uintR most ((sev v).take k, 0) = (0, ([], 1)) := by
  have h1 : num ((sev v).take k) = (0, 0, 1) := numAt_cut v 0 0 k (by simpa using h) (by omega) hk
  unfold uintR
  rw [h1]
  simp [failR]

theorem textR_gone (m : Nat) : textR m ([], 1) = ([], ([], 1)) := by
  unfold textR uintR num numAt
  simp [failR, takeR]

theorem textR_cut (m k : Nat) (s : List UInt8) (h : s.length < 2 ^ 64) (hm : s.length ≤ m) (hk : k < (txt s).length) : textR m ((txt s).take k, 0) = ([], ([], 1)) := by
  unfold textR
  by_cases h1 : k < (sev s.length).length
  · have e : (txt s).take k = (sev s.length).take k := by unfold txt; rw [List.take_append_of_le_length (by omega)]
    rw [e, uintR_cut m s.length k h h1]
    rfl
  · have e : (txt s).take k = sev s.length ++ s.take (k - (sev s.length).length) := by
      unfold txt
      rw [List.take_append, List.take_of_length_le (by omega)]
    rw [e, uintR_sev m s.length _ h, if_pos hm]
    unfold takeR
    have hl : (s.take (k - (sev s.length).length)).length < s.length := by
      unfold txt at hk
      rw [List.length_append] at hk
      rw [List.length_take]
      omega
    rw [if_pos hl]
    rfl

/-- A number and a text, cut ahead of their end: too short. -/
theorem both_cut (v k : Nat) (s : List UInt8) (hv : v < 2 ^ 64) (hs : s.length ≤ 100) (hk : k < (sev v ++ txt s).length) :
    textR 100 (uintR 18446744073709551615 ((sev v ++ txt s).take k, 0)).2 = ([], ([], 1)) := by
  by_cases h1 : k < (sev v).length
  · rw [List.take_append_of_le_length (by omega), uintR_cut _ v k hv h1]
    exact textR_gone 100
  · rw [List.take_append, List.take_of_length_le (by omega), uintR_sev _ v _ hv, if_pos (by omega)]
    exact textR_cut 100 _ s (by omega) hs (by rw [List.length_append] at hk; omega)

theorem failR_err (s : RS) (e : Int) (h : s.2 ≠ 0) : failR s e = s := by unfold failR; rw [if_pos (.inl h)]
theorem failR_ne (s : RS) (e : Int) (he : e ≠ 0) : (failR s e).2 ≠ 0 := by
  unfold failR
  split
  · rename_i h
    rcases h with h | h
    · exact h
    · exact absurd h he
  · exact he

theorem uintR_err (m : Nat) (s : RS) (h : s.2 ≠ 0) : (uintR m s).2.2 ≠ 0 := by
  unfold uintR
  split
  · rw [failR_err s _ h]; exact h
  · split
    · rw [failR_err s _ h]; exact h
    · exact h
theorem takeR_err (n : Nat) (s : RS) (h : s.2 ≠ 0) : (takeR n s).2.2 ≠ 0 := by
  unfold takeR
  split
  · rw [failR_err s _ h]; exact h
  · exact h

theorem uintR_inv (m : Nat) (s : RS) (h : (uintR m s).2.2 = 0) : s.1 = sev (uintR m s).1 ++ (uintR m s).2.1 ∧ s.2 = 0 := by
  have h0 : s.2 = 0 := by
    rcases Decidable.em (s.2 = 0) with g | g
    · exact g
    · exact absurd h (uintR_err m s g)
  unfold uintR at *
  split at h
  · rename_i hn
    exact absurd h (failR_ne s _ hn)
  · rename_i hn
    split at h
    · exact absurd h (failR_ne s 4 (by decide))
    · rename_i hm
      rw [if_neg hn, if_neg hm]
      have hn' : (num s.1).2.2 = 0 := by simpa using hn
      have := num_inv (l := s.1) (v := (num s.1).1) (n := (num s.1).2.1) (by rw [← hn'])
      exact ⟨this.1, h0⟩

theorem takeR_inv (n : Nat) (s : RS) (h : (takeR n s).2.2 = 0) : s.1 = (takeR n s).1 ++ (takeR n s).2.1 ∧ (takeR n s).1.length = n ∧ s.2 = 0 := by
  unfold takeR at *
  split at h
  · exact absurd h (failR_ne s 1 (by decide))
  · rename_i hn
    rw [if_neg hn]
    exact ⟨(List.take_append_drop n s.1).symm, by rw [List.length_take]; omega, h⟩

theorem textR_inv (m : Nat) (s : RS) (h : (textR m s).2.2 = 0) : s.1 = txt (textR m s).1 ++ (textR m s).2.1 ∧ s.2 = 0 := by
  unfold textR at *
  obtain ⟨h1, h2, h3⟩ := takeR_inv _ _ h
  obtain ⟨h4, h5⟩ := uintR_inv m s h3
  refine ⟨?_, h5⟩
  unfold txt
  rw [h2, List.append_assoc, ← h1]
  exact h4

theorem endR_zero {s : RS} (h : endR s = 0) : s.1 = [] ∧ s.2 = 0 := by
  unfold endR at h
  split at h
  · cases h
  · rename_i hn
    refine ⟨List.eq_nil_of_length_eq_zero ?_, h⟩
    rcases Nat.eq_zero_or_pos s.1.length with g | g
    · exact g
    · exact absurd ⟨h, g⟩ hn

/-- From no other bytes. -/
theorem read_inv (m k : Nat) (b : List UInt8) (h : endR (textR k (uintR m (b, 0)).2).2 = 0) : b = sev (uintR m (b, 0)).1 ++ txt (textR k (uintR m (b, 0)).2).1 := by
  obtain ⟨h1, h2⟩ := endR_zero h
  obtain ⟨h3, h4⟩ := textR_inv k _ h2
  obtain ⟨h5, _⟩ := uintR_inv m (b, 0) h4
  rw [h1, List.append_nil] at h3
  rw [h3] at h5
  exact h5

theorem textR_length (m : Nat) (s : RS) : (textR m s).1.length ≤ m := by
  unfold textR
  exact Nat.le_trans (takeR_length _ _) (uintR_le _ _)
end Go.Proofs.Ytegclfpmgilnpaa
