import Derived.Test.YtegclfpmgilnpaaGreatProg
import Derived.Test.YtegclfpmgilnpaaGreatGLib
import Derived.Test.YtegclfpmgilnpaaGreatGPrim
import Derived.WalkKit
import Derived.Lib.Hide
import Derived.Deep.QuietTactic
import Derived.BigQuiet
namespace Go.Proofs.YtegclfpmgilnpaaGreat
open Go.RowKit Go.Lac
def awakeT (r : Nat) : Tmp → Kn
  | 9 => .is (.int .u64 0)
  | 10 => .is (.bool true)
  | 11 => .is (.bool true)
  | 12 => .is (.pointer (some ⟨r, 0, none⟩))
  | 13 => .is (.int .i64 4)
  | 14 => .is (.bool true)
  | 15 => .is (.bool true)
  | 16 => .is (.bool true)
  | 17 => .rd (sev 300)
  | 18 => .is (strV [172, 2])
  | 19 => .rd [172, 2]
  | 20 => .is (strV [172, 2])
  | 21 => .is (.bool true)
  | 22 => .is (.bool true)
  | 23 => .is (.bool true)
  | 24 => .rd (sev 1)
  | 25 => .is (strV [1])
  | 26 => .is (.bool true)
  | 27 => .is (.bool true)
  | 0 => .is (.bool true)
  | _ => .any
end Go.Proofs.YtegclfpmgilnpaaGreat
namespace Go.Proofs.YtegclfpmgilnpaaGreat
open Go.RowKit Go.Lac
def IsQ (w : World) (q : Nat) (s : RS) : Prop :=
  ∃ lv bs a, w.heap[q]? = some (.cells #[lv, .int .i64 (a : Nat), .int .i64 s.2] 34 (0, 0)) ∧ (Rd w lv bs ∧ (Strict lv ∧ (bs ≠ [] → ∀ x l c, lv = .slice (some x) l c → x.block < q))) ∧ a ≤ bs.length ∧ s.1 = if s.2 = 0 then bs.drop a else []
theorem IsQ.cells {w : World} {q : Nat} {s : RS} (h : IsQ w q s) : ∃ (bs : List UInt8) (a : Nat) (ao : Option Addr) (cap : Nat),
    w.cell? ⟨q, 0, none⟩ = some (.slice ao bs.length cap) ∧ w.cell? ⟨q, 1, none⟩ = some (.int .i64 (a : Nat)) ∧ w.cell? ⟨q, 2, none⟩ = some (.int .i64 s.2) ∧
    w.frozen? ⟨q, 1, none⟩ = false ∧ w.frozen? ⟨q, 2, none⟩ = false ∧ Rd w (.slice ao bs.length cap) bs ∧ a ≤ bs.length ∧ bs.length ≤ 9223372036854775807 ∧ (s.1 = if s.2 = 0 then bs.drop a else []) ∧
    w.heap[q]? = some (.cells #[.slice ao bs.length cap, .int .i64 (a : Nat), .int .i64 s.2] 34 (0, 0)) ∧ ∀ x, ao = some x → x.spot = none := by
  obtain ⟨lv, bs, a, h1, ⟨h2, h5⟩, h3, h4⟩ := h
  obtain ⟨ao, cap, rfl⟩ := h2.shape
  have hm : bs.length ≤ maxLen := by obtain ⟨_, _, _, g1, g2, _⟩ := h2; omega
  exact ⟨bs, a, ao, cap, cell_of_row w q 0 _ _ _ h1, cell_of_row w q 1 _ _ _ h1, cell_of_row w q 2 _ _ _ h1, frozen_of_row w q 1 _ _ h1, frozen_of_row w q 2 _ _ h1, h2, h3, by unfold maxLen at hm; omega, h4, h1, fun x hx => h5.1 x _ _ (by rw [hx])⟩
theorem IsQ.low {w : World} {q : Nat} {s : RS} (h : IsQ w q s) {ao : Option Addr} {n cap : Nat} (hc : w.cell? ⟨q, 0, none⟩ = some (.slice ao n cap)) (hn : 0 < n) : ∀ x, ao = some x → x.block < q := by
  obtain ⟨lv, bs, a, h1, ⟨h2, h5⟩, _⟩ := h
  rw [cell_of_row w q 0 _ _ _ h1] at hc
  have e : lv = .slice ao n cap := Option.some.inj hc
  have hne : bs ≠ [] := by
    rintro rfl
    obtain ⟨ao', cap', e', _⟩ := h2
    rw [e] at e'
    cases e'
    exact absurd hn (Nat.lt_irrefl 0)
  exact fun x hx => h5.2 hne x n cap (by rw [e, hx])
theorem IsQ.lt {w : World} {q : Nat} {s : RS} (h : IsQ w q s) : q < w.heap.size := by
  obtain ⟨_, _, _, h1, _⟩ := h
  exact (Array.getElem?_eq_some_iff.1 h1).1
theorem IsQ.ext {w w' : World} {q : Nat} {s : RS} (h : IsQ w q s) (k : Ext w w') : IsQ w' q s := by
  have hlt := h.lt
  obtain ⟨lv, bs, a, h1, h2, h3⟩ := h
  exact ⟨lv, bs, a, by rw [k.block q hlt (fun f => f)]; exact h1, ⟨h2.1.ext k, h2.2⟩, h3⟩
def QPtr (q : Nat) : Value := .pointer (some ⟨q, 0, none⟩)
def QPost (q : Nat) (v : Value) (s : RS) (w : World) (e : Ending) (w' : World) : Prop := e = .returned v ∧ Only q w w' ∧ IsQ w' q s
end Go.Proofs.YtegclfpmgilnpaaGreat
namespace Go.Proofs.YtegclfpmgilnpaaGreat
open Go.RowKit Go.Lac
end Go.Proofs.YtegclfpmgilnpaaGreat
namespace Go.Proofs.YtegclfpmgilnpaaGreat
open Go.RowKit Go.Lac
end Go.Proofs.YtegclfpmgilnpaaGreat
namespace Go.Proofs.YtegclfpmgilnpaaGreat
open Go.RowKit Go.Lac
def dig : List UInt8 → Nat
  | [] => 0
  | b :: l => b.toNat % 128 + 128 * dig l
end Go.Proofs.YtegclfpmgilnpaaGreat
namespace Go.Proofs.YtegclfpmgilnpaaGreat
open Go.RowKit Go.Lac
end Go.Proofs.YtegclfpmgilnpaaGreat
namespace Go.Lac
open Go.RowKit
section
variable {P : Program} {ops : Array Oper} {T : Tmp → Kn} {A : Bool → Bool → World → Prop} {a0 : Act} {i m1 m2 : Nat} {o : Oper}
def twoS (A : Bool → Bool → World → Prop) (m1 m2 : Nat) (L : Nat → Bool) (w : World) : Prop := A (L m1) (L m2) w
variable {Q : Exit → Act → World → Prop}
end
end Go.Lac
namespace Go.Proofs.YtegclfpmgilnpaaGreat
open Go.RowKit Go.Lac
end Go.Proofs.YtegclfpmgilnpaaGreat
