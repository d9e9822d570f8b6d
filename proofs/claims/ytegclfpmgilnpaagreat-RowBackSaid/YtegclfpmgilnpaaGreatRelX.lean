import Derived.Test.YtegclfpmgilnpaaGreatGRelA
import Derived.Test.YtegclfpmgilnpaaGreatGLib
import Derived.RangeFuncNested
import Derived.RangeFuncLeaves
import Derived.Shelf.Abstract
import Derived.Shelf.RegionOpen
import Derived.WalkKit
import Derived.OwnWalkIn
import Derived.TacticsInMore
import Derived.LoopNIn
import Derived.LoopIn
import Derived.RangeFuncBox
namespace Go.Proofs.YtegclfpmgilnpaaGreat
open Go.RowKit Go.Lac Go.Shelf
attribute [local go_sem] Oper.semAt_some
def lastOf (p : List (Nat × Col)) : Int := match p.getLast? with | some x => (x.1 : Int) | none => -1
abbrev KdT (cs : List Col) := {x : Nat × Col // x ∈ kd 0 cs}
def encKd {cs : List Col} (x : KdT cs) : Array Value := encK x.1
theorem own_tyb {Ts : TypeId → Prop} {w w' : World} {base : Nat} {e : TypeId} {size : Nat} {v : Value} {n : Nat} {xs : List Value} (h : w.ownsRow base e size v n xs) (he : ¬ Ts e) (hx : Ch (TyB Ts w) w w') : w'.ownsRow base e size v n xs := by
  refine ⟨h.1, ?_⟩
  rcases h.2 with h1 | ⟨g, cap, cur, h1, h2, h3, h4⟩
  · exact .inl h1
  · refine .inr ⟨g, cap, cur, h1, h2, ?_, h4⟩
    rw [hx.block g (Array.getElem?_eq_some_iff.1 h3).1 (fun ⟨c, T, o, hT, hh⟩ => by rw [h3] at hh; cases hh; exact he hT)]
    exact h3
def KnT.relO {Ts : TypeId → Prop} (hT : ¬ Ts 93) (r : Rl) : KnT Ts :=
  ⟨fun v w => ∃ c, v = .agg (relv r c) ∧ w.ownsRow 0 93 3 c r.cols.length (colC r.cols), fun _ _ _ hx ⟨c, h1, h2⟩ => ⟨c, h1, own_tyb h2 hT hx⟩⟩
end Go.Proofs.YtegclfpmgilnpaaGreat
