import Derived.Test.YtegclfpmgilnpaaGreatLibJ
import Derived.Test.YtegclfpmgilnpaaGreatLibI
import Derived.Test.YtegclfpmgilnpaaGreatGLib
import Derived.RangeFuncNested
import Derived.RangeFuncBox
namespace Go.Lac
open Go Go.RowKit
def SeqKnows {α : Type} (F : Fence) (n : Nat) (P : Program) (g : Nat) (lb : Array Value) (encs : α → Array Value) (Kx : α → World → Prop) (Kp : World → World → Prop) (S Sp : List α → Prop) (N : Nat) (w : World) : Prop :=
  ∀ (l : Nat) (J Jx : List α → World → Prop) (W : World), Below w.heap.size w W → AbidesFrom W.heap.size J → AbidesFrom W.heap.size Jx →
    (∀ pre x W1, J pre W1 → Kx x W1 → pre.length < N → YieldAt F (n - 1) P l (encs x) W1 fun e W' =>
      (e = .returned (.bool true) ∧ J (pre ++ [x]) W' ∧ Kp W1 W') ∨ (e = .returned (.bool false) ∧ Jx (pre ++ [x]) W')) →
    J [] W → CallsIn F n P g (#[.func (.yield l) #[] #[]] ++ lb) W fun e W' => (∃ v, e = .returned v) ∧ ((∃ xs, S xs ∧ J xs W') ∨ (∃ pre, Sp pre ∧ Jx pre W'))
def Recs (D : Nat) (r : Loop) (W : World) : Prop := W.heap[D]? = some (.deferred (some [])) ∧ W.heap[D + 1]? = some (.loop r)
theorem Recs.lt {D : Nat} {r : Loop} {W : World} (h : Recs D r W) : D + 1 < W.heap.size := (Array.getElem?_eq_some_iff.1 h.2).1
theorem Recs.keeps {D : Nat} {r : Loop} {W W' : World} (h : Recs D r W) (hk : KeepsFrom D W W') : Recs D r W' := ⟨hk.same _ _ (Nat.le_refl _) h.1 rfl, hk.same _ _ (by omega) h.2 rfl⟩
section
variable {F : Fence} {n : Nat} {P : Program} {w : World}
end
theorem with_frameK {F : Fence} {n : Nat} {P : Program} {c : Code} {Q : Exit → Act → World → Prop} {L : List Value} {ds : List Deferred} {w : World} (h : ∀ L' : List Value, L' = L → Code.wpIn F n P c Q ⟨L'.toArray, ds⟩ w) : Code.wpIn F n P c Q ⟨L.toArray, ds⟩ w := h L rfl
theorem own_noobK {w : World} {base : Nat} {e : TypeId} {size : Nat} {v : Value} {n : Nat} {xs : List Value} (h : w.ownsRow base e size v n xs) {g : Nat} {o : Obj} (hg : w.heap[g]? = some o) (hT : ∀ cur, o ≠ .cells cur e (0, 0)) : v.ownBlock ≠ some g := by
  rcases h.2 with ⟨rfl, _⟩ | ⟨g', cap, cur, rfl, hb, hh, _⟩
  · simp [Value.ownBlock]
  · intro e
    simp only [Value.ownBlock, Option.some.injEq] at e
    subst e
    rw [hg] at hh
    cases hh
    exact hT _ rfl
theorem own_keptK {A B : World} {row : Option Nat} {base : Nat} {e : TypeId} {size : Nat} {v : Value} {n : Nat} {xs : List Value} (h : A.ownsRow base e size v n xs) (hg : A.grownBy B row) (hrow : ∀ r, row = some r → ∃ o : Obj, A.heap[r]? = some o ∧ o.isCells = false) : B.ownsRow base e size v n xs := by
  refine h.kept hg ?_
  cases hv : v.ownBlock with
  | none => exact .inl rfl
  | some k =>
    refine .inr fun e' => ?_
    obtain ⟨o, ho, hc⟩ := hrow k e'.symm
    exact own_noobK h ho (fun cur e => by subst e; cases hc) hv
theorem heap_keptK {A B : World} {row : Option Nat} {g : Nat} {cs : Array Value} {T : TypeId} {z : Nat × Nat} (h : A.heap[g]? = some (.cells cs T z)) (hg : A.grownBy B row) (hrow : ∀ r, row = some r → ∃ o : Obj, A.heap[r]? = some o ∧ o.isCells = false) : B.heap[g]? = some (.cells cs T z) := by
  rw [hg.block g (Array.getElem?_eq_some_iff.1 h).1 fun e => by
    obtain ⟨o, ho, hc⟩ := hrow g e.symm
    rw [h] at ho; cases ho; cases hc]
  exact h
theorem own_chK {N : Nat → Prop} {w w' : World} {base : Nat} {e : TypeId} {size : Nat} {v : Value} {n : Nat} {xs : List Value} (h : w.ownsRow base e size v n xs) (hx : Ch N w w') (hN : ∀ k, v.ownBlock = some k → ¬ N k) : w'.ownsRow base e size v n xs := by
  refine ⟨h.1, ?_⟩
  rcases h.2 with h1 | ⟨g, cap, cur, h1, h2, h3, h4⟩
  · exact .inl h1
  · refine .inr ⟨g, cap, cur, h1, h2, ?_, h4⟩
    rw [hx.block g (Array.getElem?_eq_some_iff.1 h3).1 (hN g (by rw [h1]; rfl))]
    exact h3
section
variable {F : Fence} {n : Nat} {P : Program} {ops : Array Oper} {V : (Nat → Bool) → Tmp → Value → World → Prop} {S : (Nat → Bool) → World → Prop} {a0 : Act}
theorem StepG.openly {i : Nat} {o : Oper} (hF : Open F) (hn : noDefer o = true) (h : StepG P ops V S a0 i o) : StepI F n P ops V S a0 i o := by
  intro x w L hw hi hd hf hc
  obtain ⟨h1, h2⟩ := h x.eval w L (env_eval x) hw hi hd hf hc
  exact ⟨fun hx => Exec.openly hF hn (h1 hx), h2⟩
theorem AllG.openly (hF : Open F) : ∀ (l : List Oper) (i : Nat), l.all noDefer = true → AllG P ops V S a0 i l → AllI F n P ops V S a0 i l
  | [], _, _, _ => trivial
  | o :: l, i, hn, h => by
    rw [List.all_cons, Bool.and_eq_true] at hn
    exact ⟨StepG.openly hF hn.1 h.1, AllG.openly hF l (i + 1) hn.2 h.2⟩
end
end Go.Lac
