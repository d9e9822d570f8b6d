import Derived.Test.YtegclfpmgilnpaaGreatLibH
import Derived.RangeFuncSeq
import Derived.RangeFuncGives
namespace Go.Lac
open Go Go.RowKit
structure Open (F : Fence) : Prop where
  fn : ∀ f, F.fn f
  depth : F.depth.isSome = false
  calls : ∀ {n : Nat} {P : Program} {f : FuncId} {args : Array Value} {w : World} {R : Ending → World → Prop}, Calls P f args w R → CallsIn F n P f args w R
  rows : ∀ {n : Nat} {P : Program} {row : String} {args : Array Value} {w : World} {R : Value → World → Prop}, Rows P row args w R → RowsIn F n P row args w R
theorem Open.wide : Open Fence.wide := ⟨fun _ => trivial, rfl, fun h => callsIn_wide.2 h, fun h => by
  intro c cs _
  obtain ⟨v, w', h1, h2⟩ := h c cs
  exact ⟨v, w', h1, stepsIn_wide.2 h2⟩⟩
theorem Open.round (r : Nat) : Open (Fence.wide.inRound r) := ⟨fun _ => trivial, rfl, fun h => CallsIn.inRound r (callsIn_wide.2 h), rowsIn_wide'⟩
def ExecI (F : Fence) (n : Nat) (P : Program) (o : Oper) (x : Act) (w : World) (Φ : Value → World → Prop) : Prop :=
  ∀ (K : Act → World → Prop) (Q : Exit → Act → World → Prop), (∀ v w', Φ v w' → K (x.put o.dst v) w') → o.wpIn F n P x w K Q
section
variable {F : Fence} {n : Nat} {P : Program} {o : Oper} {x : Act} {w : World} {Φ : Value → World → Prop}
theorem Exec.openly (hF : Open F) (hn : noDefer o = true) (h : Exec P x.eval o w Φ) : ExecI F n P o x w Φ := by
  intro K Q hK
  have h2 : o.wp P x w (fun a w' => K a w') (fun e _ _ => False) := h.wp hK
  refine ⟨fun _ _ => hF.fn _, ?_⟩
  rw [Oper.semAt_eq _ _ _ (fun c e => by unfold noDefer at hn; rw [e] at hn; cases hn)]
  unfold Oper.wp at h2
  generalize (execOp x.eval o).run P w = q at *
  cases q with
  | ok y w' =>
    cases y with
    | value v => exact h2
    | skip => exact h2
    | defer d => exact h2
    | enter f args =>
      refine ⟨fun h => (by rw [hF.depth] at h; cases h), hF.calls (Calls.mono h2 ?_)⟩
      intro e w'' he
      cases e with
      | returned v => exact he
      | panicked c => cases he
      | outgrown => obtain ⟨_, _, h, _⟩ := he
    | row row args =>
      exact ⟨fun h => (by rw [hF.depth] at h; cases h), hF.rows h2⟩
    | _ => exact h2.elim
  | halt y w' =>
    cases y with
    | panic v => exact h2.elim
    | _ => exact h2.elim
end
def StepI (F : Fence) (n : Nat) (P : Program) (ops : Array Oper) (V : (Nat → Bool) → Tmp → Value → World → Prop) (S : (Nat → Bool) → World → Prop) (a0 : Act) (i : Nat) (o : Oper) : Prop :=
  ∀ (x : Act) (w : World) (L : Nat → Bool), S L w → L i = false → (∀ j ∈ deps o, L j = true) → (∀ t, Fact ops (V L) a0 i o x.eval w t) →
    (∀ j p, ops[j]? = some p → L j = true → ∀ k ∈ deps p, L k = true) →
    let Φ : Value → World → Prop := fun v w' => (∀ d, o.dst = some d → V (fun j => j == i || L j) d v w') ∧
      (∀ d v, (∃ j p, ops[j]? = some p ∧ L j = true ∧ p.dst = some d) → V L d v w → V (fun j => j == i || L j) d v w') ∧ S (fun j => j == i || L j) w'
    (wantedBy ops o x.eval = true → ExecI F n P o x w Φ) ∧ (wantedBy ops o x.eval = false → Φ undef w)
def AllI (F : Fence) (n : Nat) (P : Program) (ops : Array Oper) (V : (Nat → Bool) → Tmp → Value → World → Prop) (S : (Nat → Bool) → World → Prop) (a0 : Act) : Nat → List Oper → Prop
  | _, [] => True
  | i, o :: l => StepI F n P ops V S a0 i o ∧ AllI F n P ops V S a0 (i + 1) l
theorem AllI.get {F : Fence} {n : Nat} {P : Program} {ops : Array Oper} {V : (Nat → Bool) → Tmp → Value → World → Prop} {S : (Nat → Bool) → World → Prop} {a0 : Act} :
    ∀ (l : List Oper) (i : Nat), AllI F n P ops V S a0 i l → ∀ k o, l[k]? = some o → StepI F n P ops V S a0 (i + k) o
  | [], _, _, k, o, h => by simp at h
  | x :: l, i, h, 0, o, e => by simp at e; subst e; exact h.1
  | x :: l, i, h, k + 1, o, e => by
    have := AllI.get l (i + 1) h.2 k o (by simpa using e)
    rwa [show i + (k + 1) = i + 1 + k by omega]
section
variable {F : Fence} {n : Nat} {P : Program} {ops : Array Oper} {Q : Exit → Act → World → Prop} {V : (Nat → Bool) → Tmp → Value → World → Prop} {S : (Nat → Bool) → World → Prop} {a0 : Act}
end
theorem _root_.Go.AbidesFrom.ext {β : Type} {B : Nat} {J : β → World → Prop} (h : AbidesFrom B J) {s : β} {w w' : World} (hs : J s w) (hx : Ext w w') : J s w' :=
  h s w w' none hs ⟨hx.os, hx.tape, hx.output, hx.size, fun k hk _ => hx.block k hk (fun f => f)⟩ (fun r e => by cases e)
def yV (T : Tmp → Kn) (T' : Tmp → Value → World → Prop) (m : Nat) (L : Nat → Bool) (d : Tmp) (v : Value) (w : World) : Prop := if L m = true then T' d v w else (T d).holds v w
def yS (w0 : World) (m : Nat) (L : Nat → Bool) (w : World) : Prop := if L m = true then True else Ext w0 w
section
variable {F : Fence} {n : Nat} {P : Program} {ops : Array Oper} {Q : Exit → Act → World → Prop} {a0 : Act} {T : Tmp → Kn} {T' : Tmp → Value → World → Prop} {m i : Nat} {o : Oper} {w0 : World}
theorem StepI.early (hF : Open F) (hn : noDefer o = true) (hm : (reachD ops 12 [m]).contains i = true) (him : i ≠ m) (hg : o.guard = none)
    (h : ∀ (ρ : Operand → Value) (w : World), Env ρ → Ext w0 w → (∀ t, Fact ops (knV T) a0 i o ρ w t) → Exec P ρ o w fun v w' => (∀ d, o.dst = some d → knV T d v w') ∧ Ext w w') :
    StepI F n P ops (yV T T' m) (yS w0 m) a0 i o := by
  intro x w L hw hi hd hf hc
  have hLm := early_not hm hi hc
  have hLm' : (fun j => j == i || L j) m = false := by simp [hLm, Ne.symm him]
  have hx : Ext w0 w := by unfold yS at hw; rw [hLm] at hw; simpa using hw
  refine ⟨fun _ => Exec.openly hF hn ((h x.eval w (env_eval x) hx ?_).mono ?_), fun hw => ?_⟩
  · intro t
    have := hf t
    unfold Fact at this ⊢
    unfold yV at this
    rw [hLm] at this
    simpa using this
  · rintro v w' ⟨h1, h2⟩
    refine ⟨fun d hd => ?_, fun d v _ hv => ?_, ?_⟩
    · unfold yV; rw [hLm']; simpa using h1 d hd
    · unfold yV at hv ⊢; rw [hLm']; rw [hLm] at hv; simp only [Bool.false_eq_true, if_false] at hv ⊢; exact (T d).keeps _ _ _ h2 hv
    · unfold yS; rw [hLm']; simpa using hx.trans h2
  · unfold wantedBy at hw; rw [hg] at hw; cases hw
theorem StepI.yield (late : List Tmp) (him : m = i) (hg : o.guard = none) (hT' : ∀ d v w, d ∉ late → T' d v w)
    (hlate : ((List.range i).all fun j => match (ops[j]?).bind (·.dst) with | some d => !late.contains d | none => true) = true)
    (hbeh : ((List.range ops.size).all fun j => decide (j ≤ i) || (reachD ops 12 [j]).contains i) = true)
    (h : ∀ (x : Act) (w : World), Ext w0 w → (∀ t, Fact ops (knV T) a0 i o x.eval w t) → ExecI F n P o x w fun v w' => ∀ d, o.dst = some d → T' d v w') :
    StepI F n P ops (yV T T' m) (yS w0 m) a0 i o := by
  subst him
  have hpass : ∀ j p d, ops[j]? = some p → p.dst = some d → j < m → ∀ v w, T' d v w := by
    intro j p d h1 h2 h3 v w
    have := List.all_eq_true.1 hlate j (List.mem_range.2 h3)
    simp only [h1, Option.bind_some, h2, Bool.not_eq_true'] at this
    exact hT' d v w (by simpa using this)
  have hbehind : ∀ j p, ops[j]? = some p → m < j → (reachD ops 12 [j]).contains m = true := by
    intro j p h1 h2
    have := List.all_eq_true.1 hbeh j (List.mem_range.2 (Array.getElem?_eq_some_iff.1 h1).1)
    rw [Bool.or_eq_true] at this
    rcases this with h | h
    · have := of_decide_eq_true h; omega
    · exact h
  intro x w L hw hi hd hf hc
  have hx : Ext w0 w := by unfold yS at hw; rw [hi] at hw; simpa using hw
  have hL' : (fun j => j == m || L j) m = true := by simp
  refine ⟨fun _ => ?_, fun hw => ?_⟩
  · intro K Q hK
    refine (h x w hx ?_) K Q fun v w' hv => hK v w' ⟨fun d hd => ?_, fun d v hjp _ => ?_, ?_⟩
    · intro t
      have := hf t
      unfold Fact at this ⊢
      unfold yV at this
      rw [hi] at this
      simpa using this
    · unfold yV; rw [if_pos hL']; exact hv d hd
    · obtain ⟨j, p, h1, h2, h3⟩ := hjp
      unfold yV
      rw [if_pos hL']
      have hji : j ≠ m := fun e => by rw [e, hi] at h2; cases h2
      refine hpass j p d h1 h3 ?_ _ _
      rcases Nat.lt_or_gt_of_ne hji with hlt | hgt
      · exact hlt
      · have := hbehind j p h1 hgt
        have := reachD_listed hc 12 [j] (fun k hk => by simp at hk; subst hk; exact h2) m (by simpa using this)
        rw [hi] at this; cases this
    · unfold yS; rw [if_pos hL']; trivial
  · unfold wantedBy at hw; rw [hg] at hw; cases hw
end
end Go.Lac
