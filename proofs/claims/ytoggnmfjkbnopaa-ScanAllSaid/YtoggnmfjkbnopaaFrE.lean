/-
  What bytes begin with: the plain facts.
-/
import Derived.Test.YtoggnmfjkbnopaaProg
import Derived.Test.YtoggnmfjkbnopaaLib
import Derived.Test.YtoggnmfjkbnopaaLibC
import Derived.Test.YtoggnmfjkbnopaaFrA
import Derived.Test.YtoggnmfjkbnopaaFrB
import Derived.Laws.BitsAllLaws
import Derived.Laws.CopyOwn
namespace Go.Proofs.Ytoggnmfjkbnopaa
open Go.RowKit Go.Lac

theorem i64_or_nat (a b : Nat) (ha : a < 65536) (hb : b < 65536) : bits .or .i64 (a : Int) (b : Int) = ((a ||| b : Nat) : Int) := by
  have h := Nat.or_lt_two_pow (n := 16) ha hb
  have e : bits .or .i64 (a : Int) (b : Int) = IntKind.i64.wrap ((BitVec.ofInt 64 (a : Int) ||| BitVec.ofInt 64 (b : Int)).toNat : Int) := rfl
  rw [e, BitVec.toNat_or, ofInt_u64 a (by omega), ofInt_u64 b (by omega), IntKind.wrap_i64]
  omega
theorem or_hi (a b : Nat) (ha : a < 256) (hb : b < 256) : bits .or .i64 (a : Int) ((b : Int) * 256) = ((a + 256 * b : Nat) : Int) := by
  have := i64_or_nat a (b * 256) (by omega) (by omega)
  rw [Nat.or_comm, nat_join 8 (b * 256) a (by omega) (by omega)] at this
  rw [show ((b : Int) * 256) = ((b * 256 : Nat) : Int) by omega, this]
  omega

/-- What stands in for a byte that is not there. -/
def headD : List UInt8 := [76, 103, 1, 1, 0, 0]
def hdAt (b : List UInt8) (i : Nat) : Nat := (b.getD i (headD.getD i 0)).toNat
theorem hdAt_lt (b : List UInt8) (i : Nat) : hdAt b i < 256 := UInt8.toNat_lt _
def frN (b : List UInt8) : Nat := hdAt b 4 + 256 * hdAt b 5
/-- What is wrong: an error's number. -/
def frErr (b : List UInt8) : Nat :=
  if hdAt b 0 ≠ 76 ∨ hdAt b 1 ≠ 103 then 3
  else if frRight (hdAt b 2) (hdAt b 3) (frN b) ≠ 0 then frRight (hdAt b 2) (hdAt b 3) (frN b)
  else if b.length < frN b + 10 then 1
  else if crcSigned (b.take (frN b + 10)) = false then 6
  else 0
def frV (b : List UInt8) : Nat := if frErr b = 0 then hdAt b 2 else 0
def frK (b : List UInt8) : Nat := if frErr b = 0 then hdAt b 3 else 0
def frP (b : List UInt8) : List UInt8 := if frErr b = 0 then (b.take (frN b + 6)).drop 6 else []
def frSize (b : List UInt8) : Nat := if frErr b = 0 then frN b + 10 else 0
/-- A slice that lies in no block below. -/
def Fresh (n : Nat) (t : Value) : Prop := ∀ x l c, t = .slice (some x) l c → n ≤ x.block
theorem Fresh.nil (n : Nat) : Fresh n (.slice none 0 0) := fun _ _ _ h => by cases h
theorem Fresh.ofOwns {w : World} {base size n m : Nat} {e : TypeId} {v : Value} {xs : List Value} (h : w.ownsRow base e size v n xs) (hm : m ≤ base) : Fresh m v := by
  intro x l c hv
  rcases h.2 with ⟨h1, _⟩ | ⟨g, cap, cur, h1, h2, _⟩
  · rw [h1] at hv; cases hv
  · rw [h1] at hv; cases hv; exact Nat.le_trans hm h2
theorem Fresh.mono {n m : Nat} {v : Value} (h : Fresh n v) (k : m ≤ n) : Fresh m v := fun x l c e => Nat.le_trans k (h x l c e)
/-- What Parse answers. -/
def ParsePost (b : List UInt8) (w : World) (e : Ending) (w' : World) : Prop :=
  ∃ t, e = .returned (.tuple #[.agg #[.int .u8 (frV b : Nat), .int .u8 (frK b : Nat), t], .int .i64 (frSize b : Nat), .int .i64 (frErr b : Nat)]) ∧ Ext w w' ∧ Rd w' t (frP b) ∧ Fresh w.heap.size t
theorem ParsePost.err {b : List UInt8} {w w' : World} {c : Nat} (h : frErr b = c) (hc : c ≠ 0) (hw : Ext w w') : ParsePost b w (.returned (.tuple #[.agg #[.int .u8 0, .int .u8 0, .slice none 0 0], .int .i64 0, .int .i64 (c : Nat)])) w' := by
  have h0 : frErr b ≠ 0 := by rw [h]; exact hc
  refine ⟨.slice none 0 0, ?_, hw, ?_, Fresh.nil _⟩
  · unfold frV frK frSize; rw [if_neg h0, if_neg h0, if_neg h0, h]; rfl
  · unfold frP; rw [if_neg h0]; exact rd_nil _
theorem ParsePost.ok {b : List UInt8} {w w' : World} {t : Value} (h : frErr b = 0) (hw : Ext w w') (ht : Rd w' t ((b.take (frN b + 6)).drop 6)) (hf : Fresh w.heap.size t) :
    ParsePost b w (.returned (.tuple #[.agg #[.int .u8 (hdAt b 2 : Nat), .int .u8 (hdAt b 3 : Nat), t], .int .i64 ((frN b + 10 : Nat) : Int), .int .i64 0])) w' := by
  refine ⟨t, ?_, hw, ?_, hf⟩
  · unfold frV frK frSize; rw [if_pos h, if_pos h, if_pos h, h]; rfl
  · unfold frP; rw [if_pos h]; exact ht

theorem hdAt_in {b : List UInt8} {i : Nat} (h : i < b.length) : hdAt b i = (b[i]).toNat := by
  unfold hdAt; simp [List.getD_eq_getElem?_getD, List.getElem?_eq_getElem h]
theorem hdAt_out {b : List UInt8} {i : Nat} (h : b.length ≤ i) : hdAt b i = (headD.getD i 0).toNat := by
  unfold hdAt; rw [List.getD_eq_getElem?_getD, List.getElem?_eq_none h]; rfl

/-- The head, once the bytes are copied over it. -/
theorem head_splice (b : List UInt8) (i : Nat) (h : i < 6) : (splice (cellsB headD) 0 ((cellsB b).take 6))[i]? = some (.int .u8 (hdAt b i : Nat)) := by
  unfold splice
  simp only [List.take_zero, List.nil_append, Nat.zero_add]
  by_cases hi : i < b.length
  · rw [List.getElem?_append_left (by simp [cellsB]; omega), List.getElem?_take, if_pos h, hdAt_in hi]
    simp [cellsB, hi, cellB]
  · have hl : ((cellsB b).take 6).length = b.length := by simp [cellsB]; omega
    rw [List.getElem?_append_right (by rw [hl]; omega), hl, List.getElem?_drop, hdAt_out (by omega), show b.length + (i - b.length) = i by omega]
    match i, h with
    | 0, _ => rfl | 1, _ => rfl | 2, _ => rfl | 3, _ => rfl | 4, _ => rfl | 5, _ => rfl

theorem results_cell3 {P : Program} {fn : Func} {p a b : Tmp} {ty : TypeId} (h : fn.results = #[.cell p ty, .tmp a, .tmp b]) (tmps : Array Value) (w : World) (g : Nat) (t : TypeId) (cs : Array Value) (fr : Nat × Nat) (d : TypeDesc)
    (hp : tmps.getD p undef = .pointer (some ⟨g, 0, none⟩)) (hg : w.heap[g]? = some (.cells cs t fr))
    (hu : P.underlying ty = some d) (hd : (match d with | .struct _ | .array _ _ => true | _ => false) = true) (hi : (P.info? ty).map (·.size) = some cs.size) :
    (results fn tmps).run P w = .ok (.tuple #[.agg cs, tmps.getD a undef, tmps.getD b undef]) w := by
  have hp' : tmps[p]?.getD undef = .pointer (some ⟨g, 0, none⟩) := by simpa using hp
  simp [results, h, hp', asAddr, run_loadVar_row w g t ty cs fr d hg hu hd hi]
end Go.Proofs.Ytoggnmfjkbnopaa
