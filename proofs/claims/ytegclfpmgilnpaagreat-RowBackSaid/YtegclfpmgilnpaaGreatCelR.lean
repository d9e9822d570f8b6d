import Derived.Test.YtegclfpmgilnpaaGreatCelQ
import Derived.Test.YtegclfpmgilnpaaGreatTakF
import Derived.Test.YtegclfpmgilnpaaGreatGRef
import Derived.Test.YtegclfpmgilnpaaGreatGLib
import Derived.Deep.MidRow
namespace Go.Proofs.YtegclfpmgilnpaaGreat
open Go.RowKit Go.Lac
section
variable {e : Int} (he : e ≠ 0)
include he
end
theorem IsQ.proper {w : World} {q : Nat} {s : RS} (h : IsQ w q s) : s.2 ≠ 0 → s.1 = [] := fun hn => by
  obtain ⟨_, _, _, _, _, _, h4⟩ := h
  rw [h4, if_neg hn]
def CqPost (q : Nat) (x : Cel × Nat) (s' : RS) (w : World) (e : Ending) (w' : World) : Prop :=
  ∃ (c : Cel) (n : Nat), e = .returned (.tuple #[rc c, .int .i64 (n : Nat)]) ∧ Only q w w' ∧ IsQ w' q s' ∧ (s'.2 = 0 → (c, n) = x)
def larT (q n kind : Nat) (_ : Nat → Bool) (d : Tmp) (v : Value) (_ : World) : Prop :=
  match d with
  | 62 => v = rc (bigC kind)
  | 63 => v = .pointer (some ⟨q, 0, none⟩)
  | 64 => v = .int .i64 (n : Nat)
  | 107 => v = rc (bigC kind)
  | 108 => v = .pointer (some ⟨q, 0, none⟩)
  | 109 => v = .int .i64 (n : Nat)
  | 7 => v = .int .i64 (n : Nat)
  | _ => True
structure larS (q g6 g8 kind : Nat) (s1 s2 : RS) (W : World) (L : Nat → Bool) (_ : Act) (w : World) : Prop where
  ch : Ch (fun i => i = q ∨ i = g6) W w
  r8 : w.heap[g8]? = some (.cells (rcv (bigC kind)) 76 (0, 0))
  bef : L 2 = false → IsQ w q s1
  aft : L 2 = true → IsQ w q s2
  r6 : w.heap[g6]? = some (.cells (if L 3 = true then rcv (bigC kind) else #[.int .u8 0, .int .u8 0, .int .i64 0, .int .u64 0, .int .u64 0, .string ⟨#[]⟩]) 76 (0, 0))
theorem larS.ext {q g6 g8 kind : Nat} {s1 s2 : RS} {W w w' : World} {L L' : Nat → Bool} {x x' : Act} (h : larS q g6 g8 kind s1 s2 W L x w) (k : Ext w w') (e2 : L' 2 = L 2) (e3 : L' 3 = L 3) : larS q g6 g8 kind s1 s2 W L' x' w' where
  ch := h.ch.trans k.ch
  r8 := heap_of_ext k h.r8
  bef hl := (h.bef (by rw [← e2]; exact hl)).ext k
  aft hl := (h.aft (by rw [← e2]; exact hl)).ext k
  r6 := by rw [e3]; exact heap_of_ext k h.r6
def CrPost (q : Nat) (x : Cel × Nat) (s' : RS) (w : World) (e : Ending) (w' : World) : Prop :=
  e = .returned (.tuple #[rc x.1, .int .i64 (x.2 : Nat)]) ∧ Only q w w' ∧ IsQ w' q s'
end Go.Proofs.YtegclfpmgilnpaaGreat
