/-
  XInfo, XPrimA, XPrimC, XPrimD, XPrimE, XPrimF, XConcat, XPrimB, XPrimH in one text. MADE BY mergeSeat.py
-/
import Derived.Test.YtdpebdbfphlmeaaProg
import Derived.Test.YtdpebdbfphlmeaaGLib
import Derived.WalkKit
import Derived.Lib.Hide
import Derived.WalkSpells
import Derived.Lib.SliceRun
import Derived.Lib.Zigzag
import Derived.Lib.AppendZeros
import Derived.Lib.ConvBytes
namespace Go.Proofs.Ytdpebdbfphlmeaa
open Go.RowKit Go.Lac
theorem infoU8 : (Try.prog.info? 5).map (fun i => (i.zero, i.size, i.bytes)) = some (some (.int .u8 0), 1, 1) := by kernel_rfl
end Go.Proofs.Ytdpebdbfphlmeaa
namespace Go.Proofs.Ytdpebdbfphlmeaa
open Go.RowKit Go.Lac

/-- A number's sevens. -/
def sev (v : Nat) : List UInt8 := if h : v < 128 then [UInt8.ofNat v] else UInt8.ofNat (v % 128 + 128) :: sev (v / 128)
termination_by v
decreasing_by omega

theorem sev_small {v : Nat} (h : v < 128) : sev v = [UInt8.ofNat v] := by rw [sev, dif_pos h]
theorem sev_big {v : Nat} (h : ¬ v < 128) : sev v = UInt8.ofNat (v % 128 + 128) :: sev (v / 128) := by rw [sev, dif_neg h]

/-- What is made of v: bs so far, u left. -/
def SevRel (v : Nat) (w : World) (x l : Value) (wr : World) : Prop :=
  ∃ (u : Nat) (pre : List UInt8), x = .int .u64 u ∧ u * 128 ^ pre.length < 2 ^ 64 ∧ pre.length ≤ 9 ∧ sev v = pre ++ sev u ∧
    Ext w wr ∧ wr.ownsRow w.heap.size 5 1 l pre.length (cellsB pre)

theorem SevRel.next {v : Nat} {w wr w' : World} {u : Nat} {pre : List UInt8} {l v' : Value} (h128 : ¬ u < 128) (h1 : u * 128 ^ pre.length < 2 ^ 64)
    (h3 : sev v = pre ++ sev u) (h4 : Ext w wr) (h5 : wr.ownsRow w.heap.size 5 1 l pre.length (cellsB pre)) (o : Obj)
    (h6 : (wr.alloc o).grownBy w' l.ownBlock) (h7 : w'.ownsRow w.heap.size 5 1 v' (pre.length + 1) (cellsB pre ++ [.int .u8 ((u : Int) % 128 + 128)])) :
    SevRel v w (.int .u64 ((u : Int) / 128)) v' w' := by
  have hb : u % 128 + 128 < 256 := by omega
  have hlen : pre.length + 1 ≤ 9 := by
    rcases Nat.lt_or_ge pre.length 9 with h | h
    · exact h
    · exfalso
      have : 128 ^ 9 ≤ 128 ^ pre.length := Nat.pow_le_pow_right (by omega) h
      have h2 : 128 * 128 ^ 9 ≤ u * 128 ^ pre.length := Nat.mul_le_mul (by omega) this
      omega
  refine ⟨u / 128, pre ++ [UInt8.ofNat (u % 128 + 128)], by simp, ?_, by simpa using hlen, ?_, ?_, ?_⟩
  · rw [List.length_append, List.length_singleton, Nat.pow_succ, Nat.mul_comm (128 ^ pre.length), ← Nat.mul_assoc]
    exact Nat.lt_of_le_of_lt (Nat.mul_le_mul_right _ (Nat.div_mul_le_self u 128)) h1
  · rw [h3, sev_big h128, List.append_assoc]; rfl
  · refine (h4.alloc o).grown h6 fun k hk => ?_
    have := (h5.lt k hk).1
    omega
  · have e : cellsB (pre ++ [UInt8.ofNat (u % 128 + 128)]) = cellsB pre ++ [.int .u8 ((u : Int) % 128 + 128)] := by
      rw [cellsB_append]; simp only [cellsB, List.map_cons, List.map_nil, cellB_ofNat hb]; rfl
    rw [e, List.length_append]; exact h7

theorem SevRel.last {v : Nat} {w wr w' : World} {u : Nat} {pre : List UInt8} {l v' : Value} (h128 : u < 128)
    (h3 : sev v = pre ++ sev u) (h4 : Ext w wr) (h5 : wr.ownsRow w.heap.size 5 1 l pre.length (cellsB pre)) (o : Obj)
    (h6 : (wr.alloc o).grownBy w' l.ownBlock) (h7 : w'.ownsRow w.heap.size 5 1 v' (pre.length + 1) (cellsB pre ++ [.int .u8 (u : Int)])) :
    Ext w w' ∧ w'.ownsRow w.heap.size 5 1 v' (sev v).length (cellsB (sev v)) := by
  have hb : u < 256 := by omega
  refine ⟨(h4.alloc o).grown h6 fun k hk => ?_, ?_⟩
  · have := (h5.lt k hk).1
    omega
  · rw [h3, sev_small h128]
    simpa [cellsB, cellB_ofNat hb] using h7

end Go.Proofs.Ytdpebdbfphlmeaa
namespace Go.Proofs.Ytdpebdbfphlmeaa
open Go.RowKit Go.Lac

/-- The number that 'l' goes on with, n digits and v being there. -/
def numAt : Nat → Nat → List UInt8 → Nat × Nat × Int
  | _, _, [] => (0, 0, 1)
  | n, v, d :: l =>
    if n = 9 ∧ 1 < d.toNat then (0, 0, 5)
    else if 128 ≤ d.toNat then numAt (n + 1) (v + d.toNat % 128 * 128 ^ n) l
    else if d.toNat = 0 ∧ 0 < n then (0, 0, 5)
    else (v + d.toNat % 128 * 128 ^ n, n + 1, 0)

/-- The number that bytes begin with, how many sevens it has; an error's number. -/
def num (l : List UInt8) : Nat × Nat × Int := numAt 0 0 l

def NumPost (l : List UInt8) (w : World) (e : Ending) (w' : World) : Prop :=
  e = .returned (.tuple #[.int .u64 (num l).1, .int .i64 (num l).2.1, .int .i64 (num l).2.2]) ∧ w = w'

theorem cell_of_rd {w : World} {v : Value} {bs : List UInt8} (h : Rd w v bs) {ao : Option Addr} {cap : Nat} (hv : v = .slice ao bs.length cap) (h0 : 0 < bs.length) :
    ∃ b off, ao = some ⟨b, off, none⟩ ∧ bs.length ≤ cap ∧ cap ≤ maxLen ∧ ∀ j (hj : j < bs.length), w.cell? ⟨b, off + j, none⟩ = some (.int .u8 (bs[j].toNat : Int)) := by
  obtain ⟨ao', cap', e, h1, h2, h3, h4⟩ := h
  rw [hv] at e
  simp only [Value.slice.injEq, true_and] at e
  obtain ⟨rfl, rfl⟩ := e
  cases ao with
  | none => have := h3 rfl; omega
  | some x =>
    obtain ⟨b, off, rfl, _⟩ := h4 x rfl 0 (cellB bs[0]) (by simp [cellsB, h0])
    refine ⟨b, off, rfl, h1, h2, fun j hj => ?_⟩
    obtain ⟨b', off', e', h5⟩ := h4 _ rfl j (cellB bs[j]) (by simp [cellsB, hj])
    cases e'
    exact h5

theorem and127 (d : Nat) (h : d < 256) : bits .and .u8 (d : Int) 127 = ((d % 128 : Nat) : Int) := by
  have := u8_and_nat d 127 h (by omega)
  rw [show (127 : Int) = ((127 : Nat) : Int) from rfl, this]
  congr 1
  exact Nat.and_two_pow_sub_one_eq_mod d 7

theorem digit_eq {v d n : Nat} (hd : d < 256) (h1 : v < 128 ^ n) (h : v + d % 128 * 128 ^ n < 2 ^ 64) :
    bits .or .u64 (v : Int) (IntKind.u64.wrap (IntKind.u64.wrap (bits .and .u8 (d : Int) 127) * 2 ^ (7 * n))) = ((v + d % 128 * 128 ^ n : Nat) : Int) := by
  have hp : (128 : Nat) ^ n = 2 ^ (7 * n) := by rw [Nat.pow_mul]
  have e1 : ((d % 128 : Nat) : Int) * 2 ^ (7 * n) = ((d % 128 * 128 ^ n : Nat) : Int) := by
    rw [hp, Int.natCast_mul, Int.natCast_pow]; rfl
  rw [and127 d hd, wrap_u64_of (n := ((d % 128 : Nat) : Int)) (by omega) (by omega), e1, wrap_u64_of (n := ((d % 128 * 128 ^ n : Nat) : Int)) (by omega) (by omega), u64_or_nat _ _ (by omega) (by omega), Nat.or_comm, nat_join (7 * n) _ _ (by rw [hp]; exact Nat.mul_mod_left _ _) (by rw [← hp]; exact h1), Nat.add_comm]

end Go.Proofs.Ytdpebdbfphlmeaa
namespace Go.Proofs.Ytdpebdbfphlmeaa
open Go.RowKit Go.Lac

/-- A reader's state: the bytes that are left, the error's number. -/
abbrev RS := List UInt8 × Int

/-- A slice's address is that of a cell. -/
def Strict (v : Value) : Prop := ∀ x l c, v = .slice (some x) l c → x.spot = none
theorem strict_nil : Strict (.slice none 0 0) := fun _ _ _ h => by cases h
theorem strict_lit (b off l c : Nat) : Strict (.slice (some ⟨b, off, none⟩) l c) := fun _ _ _ h => by cases h; rfl

/-- Only block r has changed. -/
abbrev Only (r : Nat) (w w' : World) : Prop := Ch (fun b => b = r) w w'

def RPtr (r : Nat) : Value := .pointer (some ⟨r, 0, none⟩)

/-- It gives up. -/
def failR (s : RS) (e : Int) : RS := if s.2 ≠ 0 ∨ e = 0 then s else ([], e)

theorem numAt_ok : ∀ (l : List UInt8) (n v v' n' : Nat), numAt n v l = (v', n', 0) → v < 128 ^ n → n ≤ 9 → n < n' ∧ n' - n ≤ l.length ∧ v' < 2 ^ 64
  | [], n, v, v', n', h, _, _ => by simp [numAt] at h
  | d :: l, n, v, v', n', h, hv, h9 => by
    have hd := UInt8.toNat_lt d
    rw [numAt] at h
    split at h
    · simp at h
    · rename_i h1
      split at h
      · rename_i h2
        have h9' : n < 9 := by omega
        have hb : v + d.toNat % 128 * 128 ^ n < 128 ^ (n + 1) := by
          have h3 : d.toNat % 128 * 128 ^ n ≤ 127 * 128 ^ n := Nat.mul_le_mul_right _ (by omega)
          rw [Nat.pow_succ]; omega
        have := numAt_ok l (n + 1) _ v' n' h hb (by omega)
        simp only [List.length_cons]
        omega
      · split at h
        · simp at h
        · simp only [Prod.mk.injEq, and_true] at h
          obtain ⟨rfl, rfl⟩ := h
          simp only [List.length_cons]
          refine ⟨by omega, by omega, ?_⟩
          by_cases h8 : n = 9
          · subst h8
            have h3 : d.toNat % 128 * 128 ^ 9 ≤ 1 * 128 ^ 9 := Nat.mul_le_mul_right _ (by omega)
            omega
          · have h3 : d.toNat % 128 * 128 ^ n ≤ 127 * 128 ^ n := Nat.mul_le_mul_right _ (by omega)
            have h4 : 128 ^ (n + 1) ≤ 128 ^ 9 := Nat.pow_le_pow_right (by omega) (by omega)
            rw [Nat.pow_succ] at h4
            omega

theorem num_ok {l : List UInt8} {v n : Nat} (h : num l = (v, n, 0)) : 0 < n ∧ n ≤ l.length ∧ v < 2 ^ 64 := by
  have := numAt_ok l 0 0 v n h (by decide) (by decide)
  omega

theorem numAt_err : ∀ (l : List UInt8) (n v : Nat), (numAt n v l).2.2 = 0 ∨ (numAt n v l).2.2 = 1 ∨ (numAt n v l).2.2 = 5
  | [], n, v => by simp [numAt]
  | d :: l, n, v => by
    rw [numAt]
    split
    · simp
    · split
      · exact numAt_err l _ _
      · split <;> simp

/-- The next number: what is answered, and the state then. -/
def uintR (most : Nat) (s : RS) : Nat × RS :=
  if (num s.1).2.2 ≠ 0 then (0, failR s (num s.1).2.2)
  else if most < (num s.1).1 then (0, failR s 4)
  else ((num s.1).1, (s.1.drop (num s.1).2.1, s.2))

theorem uintR_lt (most : Nat) (s : RS) : (uintR most s).1 < 2 ^ 64 := by
  unfold uintR
  split
  · exact Nat.two_pow_pos 64
  · rename_i h
    split
    · exact Nat.two_pow_pos 64
    · have h0 : (num s.1).2.2 = 0 := by simpa using h
      exact (num_ok (l := s.1) (v := (num s.1).1) (n := (num s.1).2.1) (by rw [← h0])).2.2

theorem uintR_le (most : Nat) (s : RS) : (uintR most s).1 ≤ most := by
  unfold uintR
  split
  · exact Nat.zero_le _
  · split
    · exact Nat.zero_le _
    · show (num s.1).1 ≤ most
      omega

/-- The next n bytes (n not negative): what is answered, and the state then. -/
def takeR (n : Nat) (s : RS) : List UInt8 × RS :=
  if s.1.length < n then ([], failR s 1) else (s.1.take n, (s.1.drop n, s.2))

theorem rd_nil (w : World) : Rd w (.slice none 0 0) [] := ⟨none, 0, rfl, Nat.le_refl _, Nat.zero_le _, fun _ => rfl, fun x hx => by cases hx⟩

/-- The next text, of at most m bytes. -/
def textR (m : Nat) (s : RS) : List UInt8 × RS := takeR (uintR m s).1 (uintR m s).2

/-- What is wrong at the end. -/
def endR (s : RS) : Int := if s.2 = 0 ∧ 0 < s.1.length then 2 else s.2

end Go.Proofs.Ytdpebdbfphlmeaa
namespace Go.Proofs.Ytdpebdbfphlmeaa
open Go.RowKit Go.Lac

theorem strict_owns {w : World} {base : Nat} {e : TypeId} {size : Nat} {v : Value} {n : Nat} {xs : List Value} (h : w.ownsRow base e size v n xs) : Strict v := by
  rcases h.2 with ⟨rfl, rfl⟩ | ⟨g, cap, cur, rfl, _⟩
  · exact strict_nil
  · exact strict_lit _ _ _ _

theorem rd_low {w : World} {v : Value} {bs : List UInt8} (h : Rd w v bs) (hne : bs ≠ []) : ∀ x l c, v = .slice (some x) l c → x.block < w.heap.size := by
  intro x l c e
  obtain ⟨ao, cap, h1, h2, h3, h4, h5⟩ := h
  rw [h1] at e
  cases e
  have hn : 0 < bs.length := List.length_pos_iff.2 hne
  obtain ⟨b, off, rfl, h6⟩ := h5 x rfl 0 _ (by rw [cellsB, List.getElem?_map, List.getElem?_eq_getElem hn]; rfl)
  unfold World.cell? at h6
  rcases hb : w.heap[b]? with _ | o
  · simp [hb] at h6
  · exact (Array.getElem?_eq_some_iff.1 hb).1
/-- The number with a sign that was folded. -/
def zag (u : Nat) : Int := if u % 2 = 1 then -((u / 2 : Nat) : Int) - 1 else ((u / 2 : Nat) : Int)

theorem zag_zig (x : Int) : zag (Lib.zigzag x) = x := by
  unfold zag Lib.zigzag
  by_cases h : 0 ≤ x
  · rw [if_pos h, if_neg (by omega)]; omega
  · rw [if_neg h, if_pos (by omega)]; omega

theorem zig_zag (u : Nat) : Lib.zigzag (zag u) = u := by
  unfold zag Lib.zigzag
  by_cases h : u % 2 = 1
  · rw [if_pos h, if_neg (by omega)]; omega
  · rw [if_neg h, if_pos (by omega)]; omega

def intR (s : RS) : Int × RS := (zag (uintR 18446744073709551615 s).1, (uintR 18446744073709551615 s).2)

def byteR (s : RS) : Nat × RS := (match (takeR 1 s).1 with | [] => 0 | b :: _ => b.toNat, (takeR 1 s).2)

end Go.Proofs.Ytdpebdbfphlmeaa
namespace Go.Proofs.Ytdpebdbfphlmeaa
open Go.RowKit Go.Lac

/-- A number's bytes, the lowest first, put together. -/
def wordV : List UInt8 → Nat
  | [] => 0
  | b :: l => b.toNat + 256 * wordV l

theorem wordV_lt : ∀ l : List UInt8, wordV l < 256 ^ l.length
  | [] => by simp [wordV]
  | b :: l => by
    have h1 := wordV_lt l
    have h2 := UInt8.toNat_lt b
    simp only [wordV, List.length_cons, Nat.pow_succ]
    omega

theorem wordV_snoc : ∀ (l : List UInt8) (b : UInt8), wordV (l ++ [b]) = wordV l + b.toNat * 256 ^ l.length
  | [], b => by simp [wordV]
  | a :: l, b => by
    simp only [List.cons_append, wordV, wordV_snoc l b, List.length_cons, Nat.pow_succ]
    rw [Nat.mul_add]
    have : 256 * (b.toNat * 256 ^ l.length) = b.toNat * (256 ^ l.length * 256) := by
      rw [Nat.mul_comm (256 ^ l.length), ← Nat.mul_assoc, ← Nat.mul_assoc, Nat.mul_comm 256]
    omega

theorem wordV_take (l : List UInt8) (k : Nat) (h : k < l.length) : wordV (l.take (k + 1)) = wordV (l.take k) + l[k].toNat * 256 ^ k := by
  rw [List.take_succ_eq_append_getElem h, wordV_snoc]
  simp [List.length_take, Nat.min_eq_left (Nat.le_of_lt h)]

theorem byte_eq {v d n : Nat} (hd : d < 256) (h1 : v < 256 ^ n) (h : v + d * 256 ^ n < 2 ^ 64) :
    bits .or .u64 (v : Int) (IntKind.u64.wrap ((d : Int) * 2 ^ (8 * n))) = ((v + d * 256 ^ n : Nat) : Int) := by
  have hp : (256 : Nat) ^ n = 2 ^ (8 * n) := by rw [Nat.pow_mul]
  have e1 : ((d : Nat) : Int) * 2 ^ (8 * n) = ((d * 256 ^ n : Nat) : Int) := by
    rw [hp, Int.natCast_mul, Int.natCast_pow]; rfl
  rw [e1, wrap_u64_of (n := ((d * 256 ^ n : Nat) : Int)) (by omega) (by omega), u64_or_nat _ _ (by omega) (by omega), Nat.or_comm, nat_join (8 * n) _ _ (by rw [hp]; exact Nat.mul_mod_left _ _) (by rw [← hp]; exact h1), Nat.add_comm]

def wordR (s : RS) : Nat × RS := (wordV (takeR 8 s).1, (takeR 8 s).2)

theorem takeR_length (n : Nat) (s : RS) : (takeR n s).1.length ≤ n := by
  unfold takeR
  split
  · exact Nat.zero_le _
  · exact List.length_take_le _ _

end Go.Proofs.Ytdpebdbfphlmeaa
namespace Go.Proofs.Ytdpebdbfphlmeaa
open Go.RowKit Go.Lac

/-- Room for n bytes, nothing in it. -/
def GrowPost (n : Nat) (w : World) (e : Ending) (w' : World) : Prop :=
  ∃ s, e = .returned s ∧ Ext w w' ∧ w'.ownsRow w.heap.size 5 1 s 0 [] ∧ ∃ ao cap, s = .slice ao 0 cap

theorem growPost_made (n : Nat) (w : World) (hm : grownCap w n 0 5 ≤ maxLen) (hn : n ≤ grownCap w n 0 5) (z : Value) (hz : z.cells.size = 1) :
    GrowPost n w (.returned (.slice (some ⟨w.heap.size, 0, none⟩) 0 (grownCap w n 0 5)))
      (w.drew.alloc (.cells (Builtin.zeroCells z.cells n ++ Builtin.zeroCells z.cells (grownCap w n 0 5 - n)) 5)) := by
  refine ⟨_, rfl, (Ch.refl _ w).drew.alloc _, ?_, _, _, rfl⟩
  exact World.ownsRow_made w.drew _ _ (Nat.le_refl _) hm (by simp [size_zeroCells, hz]; omega)

def total (bss : List (List UInt8)) : Nat := (bss.map List.length).sum
theorem total_flatten (bss : List (List UInt8)) : bss.flatten.length = total bss := by simp [total, List.length_flatten]
theorem total_take_succ (bss : List (List UInt8)) (k : Nat) (h : k < bss.length) : total (bss.take (k + 1)) = total (bss.take k) + bss[k].length := by
  unfold total
  rw [List.take_succ_eq_append_getElem h, List.map_append, List.sum_append]
  simp only [List.map_cons, List.map_nil, List.sum_cons, List.sum_nil, Nat.add_zero]
theorem flatten_take_succ (bss : List (List UInt8)) (k : Nat) (h : k < bss.length) : (bss.take (k + 1)).flatten = (bss.take k).flatten ++ bss[k] := by
  rw [List.take_succ_eq_append_getElem h, List.flatten_append]
  simp only [List.flatten_cons, List.flatten_nil, List.append_nil]
theorem total_take_le (bss : List (List UInt8)) (k : Nat) : total (bss.take k) ≤ total bss := by
  have h : total bss = total (bss.take k) + total (bss.drop k) := by
    conv => lhs; rw [← List.take_append_drop k bss]
    unfold total
    rw [List.map_append, List.sum_append]
  omega

/-- The k-th of the slices that lie from ⟨b, off⟩ on reads as the k-th of bss. -/
def RdAll (w : World) (b off : Nat) (bss : List (List UInt8)) : Prop :=
  ∀ k (h : k < bss.length), ∃ v, w.cell? ⟨b, off + k, none⟩ = some v ∧ Rd w v bss[k]

theorem RdAll.ext {w w' : World} {b off : Nat} {bss : List (List UInt8)} (h : RdAll w b off bss) (k : Ext w w') : RdAll w' b off bss := fun i hi => by
  obtain ⟨v, h1, h2⟩ := h i hi
  exact ⟨v, k.cell (fun f => f) v h1, h2.ext k⟩

def CatRel (bss : List (List UInt8)) (w : World) (k : Nat) (s : Value) (wr : World) : Prop :=
  Ext w wr ∧ wr.ownsRow w.heap.size 5 1 s (total (bss.take k)) (cellsB (bss.take k).flatten)

theorem CatRel.next {bss : List (List UInt8)} {w wr w' : World} {k : Nat} {s s' : Value} (h : CatRel bss w k s wr) (hk : k < bss.length)
    (h6 : wr.grownBy w' s.ownBlock) (h7 : w'.ownsRow w.heap.size 5 1 s' (total (bss.take k) + bss[k].length) (cellsB (bss.take k).flatten ++ cellsB bss[k])) :
    CatRel bss w (k + 1) s' w' := by
  refine ⟨h.1.grown h6 fun j hj => ?_, ?_⟩
  · have := (h.2.lt j hj).1
    omega
  · rw [total_take_succ bss k hk, flatten_take_succ bss k hk, cellsB_append]
    exact h7

end Go.Proofs.Ytdpebdbfphlmeaa
namespace Go.Proofs.Ytdpebdbfphlmeaa
open Go.RowKit Go.Lac

theorem sev_length (v : Nat) : (sev v).length ≤ v + 1 := by
  induction v using Nat.strongRecOn with
  | _ v ih =>
    rw [sev]
    split
    · simp
    · have := ih (v / 128) (by omega)
      simp only [List.length_cons]
      omega

theorem sev_length_le (n : Nat) : ∀ v, v < 128 ^ (n + 1) → (sev v).length ≤ n + 1 := by
  induction n with
  | zero => intro v hv; rw [sev_small (by simpa using hv)]; simp
  | succ n ih =>
    intro v hv
    by_cases h : v < 128
    · rw [sev_small h]; simp
    · rw [sev_big h]
      have := ih (v / 128) (by rw [Nat.div_lt_iff_lt_mul (by omega)]; rw [Nat.pow_succ] at hv; exact hv)
      simp only [List.length_cons]; omega

theorem sev_length_10 (v : Nat) (h : v < 2 ^ 64) : (sev v).length ≤ 10 := sev_length_le 9 v (Nat.lt_of_lt_of_le h (by decide))

/-- Two slices, side by side in a new block. -/
theorem rdAll_two {w : World} {a b : Value} {x y : List UInt8} (ha : Rd w a x) (hb : Rd w b y) (E : TypeId) : RdAll (w.alloc (.cells #[a, b] E)) w.heap.size 0 [x, y] := by
  have hx : Ext w (w.alloc (.cells #[a, b] E)) := (Ch.refl _ _).alloc _
  intro k hk
  match k, hk with
  | 0, _ => exact ⟨a, by rw [World.cell?_alloc_new w]; rfl, ha.ext hx⟩
  | 1, _ => exact ⟨b, by rw [World.cell?_alloc_new w]; rfl, hb.ext hx⟩

theorem rdAll_three {w : World} {a b c : Value} {x y z : List UInt8} (ha : Rd w a x) (hb : Rd w b y) (hc : Rd w c z) (E : TypeId) : RdAll (w.alloc (.cells #[a, b, c] E)) w.heap.size 0 [x, y, z] := by
  have hx : Ext w (w.alloc (.cells #[a, b, c] E)) := (Ch.refl _ _).alloc _
  intro k hk
  match k, hk with
  | 0, _ => exact ⟨a, by rw [World.cell?_alloc_new w]; rfl, ha.ext hx⟩
  | 1, _ => exact ⟨b, by rw [World.cell?_alloc_new w]; rfl, hb.ext hx⟩
  | 2, _ => exact ⟨c, by rw [World.cell?_alloc_new w]; rfl, hc.ext hx⟩

theorem wrap64_id {x : Int} (h0 : -9223372036854775808 ≤ x) (h1 : x ≤ 9223372036854775807) : IntKind.i64.wrap x = x := by
  rw [IntKind.wrap_i64]; omega

theorem zig_lt (x : Int) (h0 : -9223372036854775808 ≤ x) (h1 : x ≤ 9223372036854775807) : Lib.zigzag x < 2 ^ 64 := Lib.zigzag_lt h0 h1

/-- A text with its length ahead. -/
def txt (s : List UInt8) : List UInt8 := sev s.length ++ s

end Go.Proofs.Ytdpebdbfphlmeaa
namespace Go.Proofs.Ytdpebdbfphlmeaa
open Go.RowKit Go.Lac

theorem toNat_ofNat_lt {n : Nat} (h : n < 256) : (UInt8.ofNat n).toNat = n := by
  simp [Nat.mod_eq_of_lt h]

theorem numAt_sev (rest : List UInt8) : ∀ (v n acc : Nat), acc + v * 128 ^ n < 2 ^ 64 → n ≤ 9 → (0 < v ∨ n = 0) →
    numAt n acc (sev v ++ rest) = (acc + v * 128 ^ n, n + (sev v).length, 0) := by
  intro v
  induction v using Nat.strongRecOn with
  | _ v ih =>
    intro n acc hb hn h0
    by_cases hv : v < 128
    · rw [sev_small hv, List.singleton_append, numAt, toNat_ofNat_lt (by omega)]
      have h9 : ¬ (n = 9 ∧ 1 < v) := by
        rintro ⟨rfl, h1⟩
        have : 2 * 128 ^ 9 ≤ v * 128 ^ 9 := Nat.mul_le_mul_right _ h1
        omega
      rw [if_neg h9, if_neg (by omega), if_neg (by omega), Nat.mod_eq_of_lt hv]
      rfl
    · have hd : v % 128 + 128 < 256 := by omega
      rw [sev_big hv, List.cons_append, numAt, toNat_ofNat_lt hd]
      have h9 : ¬ (n = 9 ∧ 1 < v % 128 + 128) := by
        rintro ⟨rfl, h1⟩
        have : 128 * 128 ^ 9 ≤ v * 128 ^ 9 := Nat.mul_le_mul_right _ (by omega)
        omega
      have hn8 : n ≤ 8 := by
        rcases Nat.lt_or_ge n 9 with h | h
        · omega
        · exact absurd ⟨by omega, by omega⟩ h9
      rw [if_neg h9, if_pos (by omega), show (v % 128 + 128) % 128 = v % 128 by omega]
      have e : acc + v % 128 * 128 ^ n + v / 128 * 128 ^ (n + 1) = acc + v * 128 ^ n := by
        rw [Nat.pow_succ, Nat.mul_comm (128 ^ n) 128, ← Nat.mul_assoc, Nat.add_assoc, ← Nat.add_mul]
        congr 2
        omega
      rw [ih (v / 128) (by omega) (n + 1) _ (by rw [e]; exact hb) (by omega) (.inl (by omega)), e]
      simp only [List.length_cons, Prod.mk.injEq, and_true, true_and]
      omega

theorem num_sev (v : Nat) (rest : List UInt8) (h : v < 2 ^ 64) : num (sev v ++ rest) = (v, (sev v).length, 0) := by
  have := numAt_sev rest v 0 0 (by simpa using h) (by omega) (.inr rfl)
  simpa [num] using this

theorem uintR_sev (most v : Nat) (rest : List UInt8) (h : v < 2 ^ 64) : uintR most (sev v ++ rest, 0) = if v ≤ most then (v, (rest, 0)) else (0, ([], 4)) := by
  unfold uintR
  rw [num_sev v rest h]
  by_cases hm : v ≤ most
  · simp [hm, show ¬ most < v by omega]
  · simp [hm, show most < v by omega, failR]

theorem takeR_app (s rest : List UInt8) (e : Int) : takeR s.length (s ++ rest, e) = (s, (rest, e)) := by
  unfold takeR
  rw [if_neg (by simp)]
  simp

theorem textR_txt (m : Nat) (s rest : List UInt8) (h : s.length < 2 ^ 64) : textR m (txt s ++ rest, 0) = if s.length ≤ m then (s, (rest, 0)) else ([], ([], 4)) := by
  unfold textR txt
  rw [List.append_assoc, uintR_sev m s.length (s ++ rest) h]
  by_cases hm : s.length ≤ m
  · rw [if_pos hm, if_pos hm]
    exact takeR_app s rest 0
  · rw [if_neg hm, if_neg hm]
    rfl

theorem intR_sev (x : Int) (rest : List UInt8) (h0 : -9223372036854775808 ≤ x) (h1 : x ≤ 9223372036854775807) : intR (sev (Lib.zigzag x) ++ rest, 0) = (x, (rest, 0)) := by
  have hz := zig_lt x h0 h1
  unfold intR
  rw [uintR_sev _ _ _ hz, if_pos (by omega), zag_zig]

/-- From no other bytes. -/
theorem numAt_inv : ∀ (l : List UInt8) (n acc v' n' : Nat), numAt n acc l = (v', n', 0) → n ≤ 9 →
    ∃ u, v' = acc + u * 128 ^ n ∧ (0 < u ∨ n = 0) ∧ n' = n + (sev u).length ∧ l = sev u ++ l.drop (sev u).length
  | [], n, acc, v', n', h, _ => by simp [numAt] at h
  | d :: l, n, acc, v', n', h, hn => by
    have hd := UInt8.toNat_lt d
    rw [numAt] at h
    split at h
    · simp at h
    · rename_i h9
      split at h
      · rename_i h128
        obtain ⟨u, h1, h2, h3, h4⟩ := numAt_inv l (n + 1) _ v' n' h (by omega)
        have hu : 0 < u := by omega
        have hbig : ¬ d.toNat % 128 + 128 * u < 128 := by omega
        have e1 : (d.toNat % 128 + 128 * u) % 128 + 128 = d.toNat := by omega
        have e2 : (d.toNat % 128 + 128 * u) / 128 = u := by omega
        have hs : sev (d.toNat % 128 + 128 * u) = d :: sev u := by
          rw [sev_big hbig, e1, e2, UInt8.ofNat_toNat]
        refine ⟨d.toNat % 128 + 128 * u, ?_, .inl (by omega), ?_, ?_⟩
        · rw [h1, Nat.pow_succ, Nat.add_mul, Nat.mul_comm (128 ^ n) 128, ← Nat.mul_assoc, Nat.mul_comm u 128]
          omega
        · rw [hs, h3, List.length_cons]; omega
        · rw [hs, List.length_cons, List.cons_append, List.drop_succ_cons, ← h4]
      · split at h
        · simp at h
        · rename_i h128 h0
          simp only [Prod.mk.injEq, and_true] at h
          obtain ⟨rfl, rfl⟩ := h
          have hlt : d.toNat < 128 := by omega
          refine ⟨d.toNat, by rw [Nat.mod_eq_of_lt hlt], by omega, ?_, ?_⟩
          · rw [sev_small hlt]; rfl
          · rw [sev_small hlt, UInt8.ofNat_toNat]; rfl

theorem num_inv {l : List UInt8} {v n : Nat} (h : num l = (v, n, 0)) : l = sev v ++ l.drop n ∧ n = (sev v).length := by
  obtain ⟨u, h1, h2, h3, h4⟩ := numAt_inv l 0 0 v n h (by omega)
  have hu : u = v := by simpa using h1.symm
  subst hu
  have : n = (sev u).length := by omega
  rw [this]
  exact ⟨h4, rfl⟩

/-- Cut ahead of its end a number is too short. -/
theorem numAt_cut : ∀ (v n acc k : Nat), acc + v * 128 ^ n < 2 ^ 64 → n ≤ 9 → k < (sev v).length → numAt n acc ((sev v).take k) = (0, 0, 1) := by
  intro v
  induction v using Nat.strongRecOn with
  | _ v ih =>
    intro n acc k hb hn hk
    by_cases hv : v < 128
    · rw [sev_small hv] at hk ⊢
      obtain rfl : k = 0 := by simpa using hk
      rfl
    · have hd : v % 128 + 128 < 256 := by omega
      rw [sev_big hv] at hk ⊢
      cases k with
      | zero => rfl
      | succ k =>
        rw [List.take_succ_cons, numAt, toNat_ofNat_lt hd]
        have h9 : ¬ (n = 9 ∧ 1 < v % 128 + 128) := by
          rintro ⟨rfl, h1⟩
          have : 128 * 128 ^ 9 ≤ v * 128 ^ 9 := Nat.mul_le_mul_right _ (by omega)
          omega
        rw [if_neg h9, if_pos (by omega), show (v % 128 + 128) % 128 = v % 128 by omega]
        have e : acc + v % 128 * 128 ^ n + v / 128 * 128 ^ (n + 1) = acc + v * 128 ^ n := by
          rw [Nat.pow_succ, Nat.mul_comm (128 ^ n) 128, ← Nat.mul_assoc, Nat.add_assoc, ← Nat.add_mul]
          congr 2
          omega
        exact ih (v / 128) (by omega) (n + 1) _ k (by rw [e]; exact hb) (by
          rcases Nat.lt_or_ge n 9 with h | h
          · omega
          · exact absurd ⟨by omega, by omega⟩ h9) (by simpa using hk)

theorem uintR_cut (most v k : Nat) (h : v < 2 ^ 64) (hk : k < (sev v).length) : uintR most ((sev v).take k, 0) = (0, ([], 1)) := by
  have h1 : num ((sev v).take k) = (0, 0, 1) := numAt_cut v 0 0 k (by simpa using h) (by omega) hk
  unfold uintR
  rw [h1]
  simp [failR]

theorem textR_gone (m : Nat) : textR m ([], 1) = ([], ([], 1)) := by
  unfold textR uintR num numAt
  simp [failR, takeR]

theorem textR_cut (m k : Nat) (s : List UInt8) (h : s.length < 2 ^ 64) (hm : s.length ≤ m) (hk : k < (txt s).length) : textR m ((txt s).take k, 0) = ([], ([], 1)) := by
  unfold textR
  by_cases h1 : k < (sev s.length).length
  · have e : (txt s).take k = (sev s.length).take k := by unfold txt; rw [List.take_append_of_le_length (by omega)]
    rw [e, uintR_cut m s.length k h h1]
    rfl
  · have e : (txt s).take k = sev s.length ++ s.take (k - (sev s.length).length) := by
      unfold txt
      rw [List.take_append, List.take_of_length_le (by omega)]
    rw [e, uintR_sev m s.length _ h, if_pos hm]
    unfold takeR
    have hl : (s.take (k - (sev s.length).length)).length < s.length := by
      unfold txt at hk
      rw [List.length_append] at hk
      rw [List.length_take]
      omega
    rw [if_pos hl]
    rfl

/-- A number and a text, cut ahead of their end: too short. -/
theorem both_cut (v k : Nat) (s : List UInt8) (hv : v < 2 ^ 64) (hs : s.length ≤ 100) (hk : k < (sev v ++ txt s).length) :
    textR 100 (uintR 18446744073709551615 ((sev v ++ txt s).take k, 0)).2 = ([], ([], 1)) := by
  by_cases h1 : k < (sev v).length
  · rw [List.take_append_of_le_length (by omega), uintR_cut _ v k hv h1]
    exact textR_gone 100
  · rw [List.take_append, List.take_of_length_le (by omega), uintR_sev _ v _ hv, if_pos (by omega)]
    exact textR_cut 100 _ s (by omega) hs (by rw [List.length_append] at hk; omega)

theorem failR_err (s : RS) (e : Int) (h : s.2 ≠ 0) : failR s e = s := by unfold failR; rw [if_pos (.inl h)]
theorem failR_ne (s : RS) (e : Int) (he : e ≠ 0) : (failR s e).2 ≠ 0 := by
  unfold failR
  split
  · rename_i h
    rcases h with h | h
    · exact h
    · exact absurd h he
  · exact he

theorem uintR_err (m : Nat) (s : RS) (h : s.2 ≠ 0) : (uintR m s).2.2 ≠ 0 := by
  unfold uintR
  split
  · rw [failR_err s _ h]; exact h
  · split
    · rw [failR_err s _ h]; exact h
    · exact h
theorem takeR_err (n : Nat) (s : RS) (h : s.2 ≠ 0) : (takeR n s).2.2 ≠ 0 := by
  unfold takeR
  split
  · rw [failR_err s _ h]; exact h
  · exact h

theorem uintR_inv (m : Nat) (s : RS) (h : (uintR m s).2.2 = 0) : s.1 = sev (uintR m s).1 ++ (uintR m s).2.1 ∧ s.2 = 0 := by
  have h0 : s.2 = 0 := by
    rcases Decidable.em (s.2 = 0) with g | g
    · exact g
    · exact absurd h (uintR_err m s g)
  unfold uintR at *
  split at h
  · rename_i hn
    exact absurd h (failR_ne s _ hn)
  · rename_i hn
    split at h
    · exact absurd h (failR_ne s 4 (by decide))
    · rename_i hm
      rw [if_neg hn, if_neg hm]
      have hn' : (num s.1).2.2 = 0 := by simpa using hn
      have := num_inv (l := s.1) (v := (num s.1).1) (n := (num s.1).2.1) (by rw [← hn'])
      exact ⟨this.1, h0⟩

theorem takeR_inv (n : Nat) (s : RS) (h : (takeR n s).2.2 = 0) : s.1 = (takeR n s).1 ++ (takeR n s).2.1 ∧ (takeR n s).1.length = n ∧ s.2 = 0 := by
  unfold takeR at *
  split at h
  · exact absurd h (failR_ne s 1 (by decide))
  · rename_i hn
    rw [if_neg hn]
    exact ⟨(List.take_append_drop n s.1).symm, by rw [List.length_take]; omega, h⟩

theorem textR_inv (m : Nat) (s : RS) (h : (textR m s).2.2 = 0) : s.1 = txt (textR m s).1 ++ (textR m s).2.1 ∧ s.2 = 0 := by
  unfold textR at *
  obtain ⟨h1, h2, h3⟩ := takeR_inv _ _ h
  obtain ⟨h4, h5⟩ := uintR_inv m s h3
  refine ⟨?_, h5⟩
  unfold txt
  rw [h2, List.append_assoc, ← h1]
  exact h4

theorem endR_zero {s : RS} (h : endR s = 0) : s.1 = [] ∧ s.2 = 0 := by
  unfold endR at h
  split at h
  · cases h
  · rename_i hn
    refine ⟨List.eq_nil_of_length_eq_zero ?_, h⟩
    rcases Nat.eq_zero_or_pos s.1.length with g | g
    · exact g
    · exact absurd ⟨h, g⟩ hn

/-- From no other bytes. -/
theorem read_inv (m k : Nat) (b : List UInt8) (h : endR (textR k (uintR m (b, 0)).2).2 = 0) : b = sev (uintR m (b, 0)).1 ++ txt (textR k (uintR m (b, 0)).2).1 := by
  obtain ⟨h1, h2⟩ := endR_zero h
  obtain ⟨h3, h4⟩ := textR_inv k _ h2
  obtain ⟨h5, _⟩ := uintR_inv m (b, 0) h4
  rw [h1, List.append_nil] at h3
  rw [h3] at h5
  exact h5

theorem textR_length (m : Nat) (s : RS) : (textR m s).1.length ≤ m := by
  unfold textR
  exact Nat.le_trans (takeR_length _ _) (uintR_le _ _)
end Go.Proofs.Ytdpebdbfphlmeaa
