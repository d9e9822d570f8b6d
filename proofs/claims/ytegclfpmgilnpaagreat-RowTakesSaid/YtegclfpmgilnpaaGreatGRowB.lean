import Derived.Test.YtegclfpmgilnpaaGreatGRowA
import Derived.Test.YtegclfpmgilnpaaGreatRelX
import Derived.Test.YtegclfpmgilnpaaGreatLibK
import Derived.Test.YtegclfpmgilnpaaGreatCelB
import Derived.RangeFuncLeaves
import Derived.Shelf.Abstract
import Derived.Shelf.RegionOpen
import Derived.WalkKit
import Derived.OwnWalkIn
import Derived.TacticsInMore
import Derived.LoopNIn
import Derived.LoopIn
import Derived.RangeFuncBox
import Derived.Laws.OwnMore
import Derived.Maps.AppendAt
import Derived.Maps.OwnIn
import Derived.Test.YtegclfpmgilnpaaGreatBitH
namespace Go.Proofs.YtegclfpmgilnpaaGreat
open Go.RowKit Go.Lac Go.Shelf
attribute [local go_sem] Oper.semAt_some
theorem run_store_complexI {P : Program} {w : World} {a : Addr} {m : Mode} (k : FloatKind) (re im : Nat) : (store a (.complex k re im) m).run P w = stored P w a (.complex k re im) m := run_store P w a _ m rfl
attribute [local go_sem] run_store_complexI
def lgL (l : List Cel) : List (Nat × List UInt8) := (l.zipIdx.filter fun p => cLarge p.1).map fun p => (p.2, p.1.v.t)
def hoOf (x : Nat × List UInt8) : Ho := ⟨(x.1 : Int), (x.2.length : Int)⟩
def encL (x : Nat × List UInt8) : Array Value := #[.int .i64 (x.1 : Nat), strV x.2]
end Go.Proofs.YtegclfpmgilnpaaGreat
namespace Go.Proofs.YtegclfpmgilnpaaGreat
open Go.RowKit Go.Lac Go.Shelf
attribute [local go_sem] Oper.semAt_some
abbrev LgT (cs : List Cel) := {x : Nat × List UInt8 // x ∈ lgL cs}
def encLd {cs : List Cel} (x : LgT cs) : Array Value := encL x.1
def OwnTx (base : Nat) (w : World) (v : Value) (l : List (List UInt8)) : Prop := w.ownsRow base 9 1 v l.length (l.map strV)
def TextsPost (l : List Cel) (w : World) (e : Ending) (w' : World) : Prop := ∃ v, e = .returned v ∧ Ext w w' ∧ OwnTx w.heap.size w' v (textsL l)
end Go.Proofs.YtegclfpmgilnpaaGreat
namespace Go.Proofs.YtegclfpmgilnpaaGreat
open Go.RowKit Go.Lac
abbrev RowS := (List Cel × List Ho) × RS
def rowStep (ver : Nat) (null : Bool) (kind k : Nat) (p : RowS) : RowS :=
  if null = true then ((p.1.1 ++ [.zero], p.1.2), p.2)
  else ((p.1.1 ++ [(cTake ver kind p.2).1.1], p.1.2 ++ (if 0 < (cTake ver kind p.2).1.2 then [⟨(k : Int), ((cTake ver kind p.2).1.2 : Int)⟩] else [])), (cTake ver kind p.2).2)
def colTy (cols : List Col) (k : Nat) : Nat := (cols[k]?.map (·.ty)).getD 0
def rowAt (ver : Nat) (nulls : List Bool) (cols : List Col) (s : RS) : Nat → RowS
  | 0 => (([], []), s)
  | k + 1 => rowStep ver (nulls.getD k false) (colTy cols k) k (rowAt ver nulls cols s k)
def rowPre (ver : Nat) (r : Rl) (s : RS) : RS := if ver = 1 ∨ ver = 2 then failR s (rlErr r : Nat) else failR (failR s (rlErr r : Nat)) 18
def rowTake (ver : Nat) (r : Rl) (s : RS) : RowS :=
  if (rowPre ver r s).2 ≠ 0 then (([], []), rowPre ver r s)
  else if (takeR (sizeN r.cols.length) (rowPre ver r s)).2.2 ≠ 0 then (([], []), (takeR (sizeN r.cols.length) (rowPre ver r s)).2)
  else if unpC (takeR (sizeN r.cols.length) (rowPre ver r s)).1 r.cols.length ≠ 0 then (([], []), failR (takeR (sizeN r.cols.length) (rowPre ver r s)).2 (unpC (takeR (sizeN r.cols.length) (rowPre ver r s)).1 r.cols.length))
  else if (rowAt ver (unpL (takeR (sizeN r.cols.length) (rowPre ver r s)).1 r.cols.length) r.cols (takeR (sizeN r.cols.length) (rowPre ver r s)).2 r.cols.length).2.2 ≠ 0
    then (([], []), (rowAt ver (unpL (takeR (sizeN r.cols.length) (rowPre ver r s)).1 r.cols.length) r.cols (takeR (sizeN r.cols.length) (rowPre ver r s)).2 r.cols.length).2)
  else rowAt ver (unpL (takeR (sizeN r.cols.length) (rowPre ver r s)).1 r.cols.length) r.cols (takeR (sizeN r.cols.length) (rowPre ver r s)).2 r.cols.length
theorem rowStep_null (ver kind k : Nat) (p : RowS) : rowStep ver true kind k p = ((p.1.1 ++ [.zero], p.1.2), p.2) := if_pos rfl
theorem rowStep_full (ver kind k : Nat) (p : RowS) : rowStep ver false kind k p = ((p.1.1 ++ [(cTake ver kind p.2).1.1], p.1.2 ++ (if 0 < (cTake ver kind p.2).1.2 then [⟨(k : Int), ((cTake ver kind p.2).1.2 : Int)⟩] else [])), (cTake ver kind p.2).2) := if_neg (by decide)
theorem rowAt_length (ver : Nat) (nulls : List Bool) (cols : List Col) (s : RS) : ∀ k, (rowAt ver nulls cols s k).1.1.length = k
  | 0 => rfl
  | k + 1 => by
    have ih := rowAt_length ver nulls cols s k
    rw [rowAt]
    cases nulls.getD k false with
    | true => rw [rowStep_null]; simp [ih]
    | false => rw [rowStep_full]; simp [ih]
theorem rowAt_holes (ver : Nat) (nulls : List Bool) (cols : List Col) (s : RS) : ∀ k, (rowAt ver nulls cols s k).1.2.length ≤ k
  | 0 => Nat.le_refl _
  | k + 1 => by
    have ih := rowAt_holes ver nulls cols s k
    rw [rowAt]
    cases nulls.getD k false with
    | true => rw [rowStep_null]; simp only; omega
    | false =>
      rw [rowStep_full]
      simp only [List.length_append]
      split <;> simp <;> omega
theorem colTy_at {cols : List Col} {k : Nat} (h : k < cols.length) : colTy cols k = cols[k].ty := by unfold colTy; rw [List.getElem?_eq_getElem h]; rfl
theorem rowPre_ok {ver : Nat} {r : Rl} (s : RS) (hver : ver = 1 ∨ ver = 2) (h : rlErr r = 0) : rowPre ver r s = s := by
  unfold rowPre
  rw [if_pos hver, h]
  exact failR_zero s
end Go.Proofs.YtegclfpmgilnpaaGreat
namespace Go.Proofs.YtegclfpmgilnpaaGreat
open Go.RowKit Go.Lac
def asOf (hs : List Ho) : List (List UInt8) := hs.map fun h => List.replicate h.s.toNat 97
def RowInv (ver : Nat) (nulls : List Bool) (cols : List Col) (s : RS) (k : Nat) (p : RowS) : Prop :=
  ∃ F : List Cel, F.length = k ∧ s.2 = 0 ∧ (∀ c ∈ F, c.ok) ∧ (∀ (j : Nat) (hj : j < F.length), cErr F[j] (colTy cols j) = 0) ∧ (∀ (j : Nat) (hj : j < F.length), decide (F[j].k = 0) = nulls.getD j false) ∧
    s.1 = encC ver F ++ p.2.1 ∧ fillZ p.1.1 (p.1.2.zip (asOf p.1.2)) = F ∧ (∀ h ∈ p.1.2, 0 ≤ h.c ∧ h.c.toNat < k ∧ 0 ≤ h.s) ∧ (∀ h ∈ p.1.2, h.s ≤ 2048)
theorem rowPre_inv {ver : Nat} {r : Rl} {s : RS} (h : (rowPre ver r s).2 = 0) : (ver = 1 ∨ ver = 2) ∧ rlErr r = 0 ∧ rowPre ver r s = s := by
  unfold rowPre at h ⊢
  split at h
  · rename_i hv
    obtain ⟨_, h2, h3⟩ := failR_inv h
    rw [if_pos hv]
    exact ⟨hv, by omega, h3⟩
  · obtain ⟨_, h2, _⟩ := failR_inv h
    cases h2
end Go.Proofs.YtegclfpmgilnpaaGreat
