/-
  A library of the verifier's own, over no program, ninth part: a region whose order is drawn, in an iterator: one of its operations is the call of yield.
-/
import Derived.Test.YtegclfpmgilnpaaLibH
import Derived.RangeFuncSeq
import Derived.RangeFuncGives
namespace Go.Lac
open Go Go.RowKit

/-- A fence that shuts nothing out. -/
structure Open (F : Fence) : Prop where
  fn : ∀ f, F.fn f
  depth : F.depth.isSome = false
  calls : ∀ {n : Nat} {P : Program} {f : FuncId} {args : Array Value} {w : World} {R : Ending → World → Prop}, Calls P f args w R → CallsIn F n P f args w R
  rows : ∀ {n : Nat} {P : Program} {row : String} {args : Array Value} {w : World} {R : Value → World → Prop}, Rows P row args w R → RowsIn F n P row args w R
theorem Open.wide : Open Fence.wide := ⟨fun _ => trivial, rfl, fun h => callsIn_wide.2 h, fun h => by
  intro c cs _
  obtain ⟨v, w', h1, h2⟩ := h c cs
  exact ⟨v, w', h1, stepsIn_wide.2 h2⟩⟩
theorem Open.round (r : Nat) : Open (Fence.wide.inRound r) := ⟨fun _ => trivial, rfl, fun h => CallsIn.inRound r (callsIn_wide.2 h), rowsIn_wide'⟩

/-- What an operation leads to, if it goes well. -/
def ExecI (F : Fence) (n : Nat) (P : Program) (o : Oper) (x : Act) (w : World) (Φ : Value → World → Prop) : Prop :=
  ∀ (K : Act → World → Prop) (Q : Exit → Act → World → Prop), (∀ v w', Φ v w' → K (x.put o.dst v) w') → o.wpIn F n P x w K Q

section
variable {F : Fence} {n : Nat} {P : Program} {o : Oper} {x : Act} {w : World} {Φ : Value → World → Prop}
theorem Exec.openly (hF : Open F) (hn : noDefer o = true) (h : Exec P x.eval o w Φ) : ExecI F n P o x w Φ := by
  intro K Q hK
  have h2 : o.wp P x w (fun a w' => K a w') (fun e _ _ => False) := h.wp hK
  refine ⟨fun _ _ => hF.fn _, ?_⟩
  rw [Oper.semAt_eq _ _ _ (fun c e => by unfold noDefer at hn; rw [e] at hn; cases hn)]
  unfold Oper.wp at h2
  generalize (execOp x.eval o).run P w = q at *
  cases q with
  | ok y w' =>
    cases y with
    | value v => exact h2
    | skip => exact h2
    | defer d => exact h2
    | enter f args =>
      refine ⟨fun h => (by rw [hF.depth] at h; cases h), hF.calls (Calls.mono h2 ?_)⟩
      intro e w'' he
      cases e with
      | returned v => exact he
      | panicked c => cases he
      | outgrown => obtain ⟨_, _, h, _⟩ := he
    | row row args =>
      exact ⟨fun h => (by rw [hF.depth] at h; cases h), hF.rows h2⟩
    | _ => exact h2.elim
  | halt y w' =>
    cases y with
    | panic v => exact h2.elim
    | _ => exact h2.elim
/-- The call of yield. -/
theorem ExecI.kyield {y : Operand} {xs : Array Operand} {ats : Array TypeId} {l : Nat} (args : Array Value) (hF : Open F) (hro : F.round = none) {R : Ending → World → Prop} (ho : o.op = .call { callee := .value y, args := xs, argTypes := ats })
    (hy : x.eval y = .func (.yield l) #[] #[]) (hx : xs.map x.eval = args) (hY : YieldAt F (n - 1) P l args w R) (hR : ∀ e w', R e w' → ∃ v, e = .returned v ∧ Φ v w') : ExecI F n P o x w Φ := by
  intro K Q hK
  obtain ⟨fn, tmps, assign, body, h1, h2⟩ := hY
  refine ⟨fun _ _ => hF.fn _, ?_⟩
  rw [Oper.semAt_eq _ _ _ (fun c e => by rw [ho] at e; cases e)]
  have hr : (execOp x.eval o).run P w = .ok (.round l fn tmps assign body) w := by
    unfold execOp
    rw [ho]
    simp only [resolve, hx, hy, Deferred.ofValue, Sem.run_bind, Sem.run_pure, Result.andThen_ok, invoke, Array.empty_append, Array.append_empty]
    exact h1
  rw [hr]
  refine ⟨fun h => (by rw [hF.depth] at h; cases h), h2.mono ?_⟩
  intro e w' he
  obtain ⟨v, rfl, hv⟩ := hR e w' he
  exact hK _ _ hv
end

/-- What must be shown of operation o (number i). -/
def StepI (F : Fence) (n : Nat) (P : Program) (ops : Array Oper) (V : (Nat → Bool) → Tmp → Value → World → Prop) (S : (Nat → Bool) → World → Prop) (a0 : Act) (i : Nat) (o : Oper) : Prop :=
  ∀ (x : Act) (w : World) (L : Nat → Bool), S L w → L i = false → (∀ j ∈ deps o, L j = true) → (∀ t, Fact ops (V L) a0 i o x.eval w t) →
    (∀ j p, ops[j]? = some p → L j = true → ∀ k ∈ deps p, L k = true) →
    let Φ : Value → World → Prop := fun v w' => (∀ d, o.dst = some d → V (fun j => j == i || L j) d v w') ∧
      (∀ d v, (∃ j p, ops[j]? = some p ∧ L j = true ∧ p.dst = some d) → V L d v w → V (fun j => j == i || L j) d v w') ∧ S (fun j => j == i || L j) w'
    (wantedBy ops o x.eval = true → ExecI F n P o x w Φ) ∧ (wantedBy ops o x.eval = false → Φ undef w)
def AllI (F : Fence) (n : Nat) (P : Program) (ops : Array Oper) (V : (Nat → Bool) → Tmp → Value → World → Prop) (S : (Nat → Bool) → World → Prop) (a0 : Act) : Nat → List Oper → Prop
  | _, [] => True
  | i, o :: l => StepI F n P ops V S a0 i o ∧ AllI F n P ops V S a0 (i + 1) l
theorem AllI.get {F : Fence} {n : Nat} {P : Program} {ops : Array Oper} {V : (Nat → Bool) → Tmp → Value → World → Prop} {S : (Nat → Bool) → World → Prop} {a0 : Act} :
    ∀ (l : List Oper) (i : Nat), AllI F n P ops V S a0 i l → ∀ k o, l[k]? = some o → StepI F n P ops V S a0 (i + k) o
  | [], _, _, k, o, h => by simp at h
  | x :: l, i, h, 0, o, e => by simp at e; subst e; exact h.1
  | x :: l, i, h, k + 1, o, e => by
    have := AllI.get l (i + 1) h.2 k o (by simpa using e)
    rwa [show i + (k + 1) = i + 1 + k by omega]

section
variable {F : Fence} {n : Nat} {P : Program} {ops : Array Oper} {Q : Exit → Act → World → Prop} {V : (Nat → Bool) → Tmp → Value → World → Prop} {S : (Nat → Bool) → World → Prop} {a0 : Act}
theorem wpAnyIn_gen (hF : Open F) (hg : goodOps ops = true) (hall : AllI F n P ops V S a0 0 ops.toList) (hdst : ∀ (i : Nat) (o : Oper), ops[i]? = some o → ∀ d, o.dst = some d → d < a0.tmps.size)
    (fin : ∀ a w, RG ops V S a0 (fun i => decide (i < ops.size)) a w → Q .normal a w) :
    ∀ (fuel : Nat) (listed : Array Bool) (a : Act) (w : World), listed.size = ops.size → leftOver listed = fuel → RG ops V S a0 (allow listed) a w →
      wpAnyIn F n P .any ops Q fuel listed a w := by
  have done : ∀ (listed : Array Bool) (a : Act) (w : World), listed.size = ops.size → (∀ i, i < ops.size → listed.getD i true = true) → RG ops V S a0 (allow listed) a w → Q .normal a w := by
    intro listed a w hs hl h
    refine fin a w ?_
    have : allow listed = fun i => decide (i < ops.size) := by
      funext i
      unfold allow
      by_cases hi : i < ops.size
      · have := hl i hi
        simpa [Array.getD, hs, hi] using this
      · simp [Array.getD, hs, hi]
    rw [← this]; exact h
  have stuck : ∀ (listed : Array Bool), listed.size = ops.size → Region.ready .any ops listed = [] → ∀ i, i < ops.size → listed.getD i true = true := by
    intro listed hs hr i
    induction i using Nat.strongRecOn with
    | _ i ih =>
      intro hi
      by_cases hb : listed.getD i true = true
      · exact hb
      · have hmem : i ∈ Region.ready .any ops listed := ready_iff.2 ⟨hi, by simpa using hb, ops[i], Array.getElem?_eq_getElem hi, fun j hj => by
          have hlt := goodOps_lt hg (Array.getElem?_eq_getElem hi) j hj
          have := ih j hlt (by omega)
          simpa [Array.getD, hs, show j < ops.size by omega] using this⟩
        rw [hr] at hmem; cases hmem
  intro fuel
  induction fuel with
  | zero =>
    intro listed a w hs hl h
    have hfull : ∀ i, i < ops.size → listed.getD i true = true := fun i hi => leftOver_zero hl (by omega)
    refine ⟨?_, done listed a w hs hfull h⟩
    rw [List.eq_nil_iff_forall_not_mem]
    intro i hi
    obtain ⟨h1, h2, _⟩ := ready_iff.1 hi
    rw [hfull i h1] at h2; cases h2
  | succ fuel ih =>
    intro listed a w hs hl h
    refine ⟨fun hr => done listed a w hs (stuck listed hs hr) h, fun i hi => ?_⟩
    obtain ⟨h1, h2, o, ho, h3⟩ := ready_iff.1 hi
    have hLi : allow listed i = false := by
      have : listed.getD i true = listed[i]'(by omega) := by simp [Array.getD, hs, h1]
      rw [this] at h2
      simp [allow, Array.getD, hs, h1, h2]
    have hLd : ∀ j ∈ deps o, allow listed j = true := h3
    have hstep := AllI.get ops.toList 0 hall i o (by simpa using ho)
    rw [Nat.zero_add] at hstep
    have hs' := hstep a w (allow listed) h.st hLi hLd (h.fact ho hLi hLd) h.closed
    have hset := allow_set (listed := listed) (i := i) (by omega)
    have hleft := leftOver_set (listed := listed) (i := i) (by omega) h2
    unfold wpOpIn
    simp only [ho]
    rw [wantedBy_eq] at hs'
    split
    · rename_i hw
      refine (hs'.1 hw) _ _ fun v w' hv => ?_
      refine ih _ _ _ (by simpa using hs) (by omega) ?_
      rw [hset]
      exact h.put hg ho hLi hLd (hdst i o ho) hv
    · rename_i hw
      refine ⟨fun _ _ => hF.fn _, ih _ _ _ (by simpa using hs) (by omega) ?_⟩
      rw [hset]
      exact h.put hg ho hLi hLd (hdst i o ho) (hs'.2 (by simpa using hw))
/-- THE LAW. -/
theorem wpIn_region_gen {id : Nat} {l : List Oper} {w0 : World} (V : (Nat → Bool) → Tmp → Value → World → Prop) (S : (Nat → Bool) → World → Prop) (hF : Open F)
    (hm : P.follows .mixedOrders = true) (hg : goodOps l.toArray = true) (hdst : (l.all fun o => match o.dst with | some d => decide (d < a0.tmps.size) | none => true) = true)
    (h0 : S (fun _ => false) w0.drew)
    (hall : AllI F n P l.toArray V S a0 0 l)
    (fin : ∀ (ν : Tmp → Value) (w : World), (∀ o ∈ l, ∀ d, o.dst = some d → V (fun i => decide (i < l.length)) d (ν d) w) → S (fun i => decide (i < l.length)) w → Q .normal ⟨ended l ν a0.tmps, a0.defers⟩ w) :
    (Code.region id l.toArray true).wpIn F n P Q a0 w0 := by
  refine wpIn_region_any hm ?_
  have hdst' : ∀ (i : Nat) (o : Oper), l.toArray[i]? = some o → ∀ d, o.dst = some d → d < a0.tmps.size := by
    intro i o ho d hd
    have hmem : o ∈ l := by
      have : l[i]? = some o := by simpa using ho
      exact List.mem_of_getElem? this
    have := List.all_eq_true.1 hdst o hmem
    simpa [hd] using this
  refine wpAnyIn_gen (V := V) (S := S) (a0 := a0) hF hg hall hdst' ?_ _ _ _ _ (by simp) (by simp [leftOver]) ?_
  · intro a w h
    have hv : ∀ o ∈ l, ∀ d, o.dst = some d → V (fun i => decide (i < l.length)) d (a.tmps.getD d undef) w := by
      intro o ho d hd
      obtain ⟨i, hi⟩ := List.mem_iff_getElem?.1 ho
      exact h.val i o (by simpa using hi) (by have := (List.getElem?_eq_some_iff.1 hi).1; simpa using this) d hd
    have hq := fin (fun d => a.tmps.getD d undef) w hv (by simpa using h.st)
    have : (⟨ended l (fun d => a.tmps.getD d undef) a0.tmps, a0.defers⟩ : Act) = a := by
      cases a with
      | mk tmps defers =>
        have hdf : defers = a0.defers := h.defers
        have hsz : tmps.size = a0.tmps.size := h.size
        simp only [Act.mk.injEq]
        refine ⟨?_, hdf.symm⟩
        apply Array.ext
        · rw [ended_size]; exact hsz.symm
        · intro t h1 h2
          have h3 : t < a0.tmps.size := by omega
          have e1 := ended_get (fun d => tmps.getD d undef) t l a0.tmps h3
          have e2 : (ended l (fun d => tmps.getD d undef) a0.tmps)[t]? = some tmps[t] := by
            rw [e1]
            split
            · simp [Array.getD, h2]
            · rename_i hno
              have hk := h.keep t fun i o ho _ hd => hno ⟨o, by
                have : l[i]? = some o := by simpa using ho
                exact List.mem_of_getElem? this, hd⟩
              have hk' : tmps[t]? = a0.tmps[t]? := hk
              rw [← hk', Array.getElem?_eq_getElem h2]
          rw [Array.getElem?_eq_getElem h1] at e2
          exact Option.some.inj e2
    rw [this] at hq
    exact hq
  · have hno : allow (Array.replicate l.toArray.size false) = fun _ => false := by
      funext i
      unfold allow
      by_cases hi : i < l.length
      · simp [Array.getD, hi]
      · simp [Array.getD, hi]
    rw [hno]
    exact ⟨rfl, rfl, by simp, by simp, by simp, h0⟩
end

/-- What abides an iterator's steps stands where nothing old has changed. -/
theorem _root_.Go.AbidesFrom.ext {β : Type} {B : Nat} {J : β → World → Prop} (h : AbidesFrom B J) {s : β} {w w' : World} (hs : J s w) (hx : Ext w w') : J s w' :=
  h s w w' none hs ⟨hx.os, hx.tape, hx.output, hx.size, fun k hk _ => hx.block k hk (fun f => f)⟩ (fun r e => by cases e)
/-! ### One operation calls yield -/
/-- What is known: ahead of operation m by the table T, behind it by T'. -/
def yV (T : Tmp → Kn) (T' : Tmp → Value → World → Prop) (m : Nat) (L : Nat → Bool) (d : Tmp) (v : Value) (w : World) : Prop := if L m = true then T' d v w else (T d).holds v w
def yS (w0 : World) (m : Nat) (L : Nat → Bool) (w : World) : Prop := if L m = true then True else Ext w0 w
section
variable {F : Fence} {n : Nat} {P : Program} {ops : Array Oper} {Q : Exit → Act → World → Prop} {a0 : Act} {T : Tmp → Kn} {T' : Tmp → Value → World → Prop} {m i : Nat} {o : Oper} {w0 : World}
theorem StepI.early (hF : Open F) (hn : noDefer o = true) (hm : (reachD ops 12 [m]).contains i = true) (him : i ≠ m) (hg : o.guard = none)
    (h : ∀ (ρ : Operand → Value) (w : World), Env ρ → Ext w0 w → (∀ t, Fact ops (knV T) a0 i o ρ w t) → Exec P ρ o w fun v w' => (∀ d, o.dst = some d → knV T d v w') ∧ Ext w w') :
    StepI F n P ops (yV T T' m) (yS w0 m) a0 i o := by
  intro x w L hw hi hd hf hc
  have hLm := early_not hm hi hc
  have hLm' : (fun j => j == i || L j) m = false := by simp [hLm, Ne.symm him]
  have hx : Ext w0 w := by unfold yS at hw; rw [hLm] at hw; simpa using hw
  refine ⟨fun _ => Exec.openly hF hn ((h x.eval w (env_eval x) hx ?_).mono ?_), fun hw => ?_⟩
  · intro t
    have := hf t
    unfold Fact at this ⊢
    unfold yV at this
    rw [hLm] at this
    simpa using this
  · rintro v w' ⟨h1, h2⟩
    refine ⟨fun d hd => ?_, fun d v _ hv => ?_, ?_⟩
    · unfold yV; rw [hLm']; simpa using h1 d hd
    · unfold yV at hv ⊢; rw [hLm']; rw [hLm] at hv; simp only [Bool.false_eq_true, if_false] at hv ⊢; exact (T d).keeps _ _ _ h2 hv
    · unfold yS; rw [hLm']; simpa using hx.trans h2
  · unfold wantedBy at hw; rw [hg] at hw; cases hw
/-- The call of yield, all others ahead of it. -/
theorem StepI.yield (late : List Tmp) (him : m = i) (hg : o.guard = none) (hT' : ∀ d v w, d ∉ late → T' d v w)
    (hlate : ((List.range i).all fun j => match (ops[j]?).bind (·.dst) with | some d => !late.contains d | none => true) = true)
    (hbeh : ((List.range ops.size).all fun j => decide (j ≤ i) || (reachD ops 12 [j]).contains i) = true)
    (h : ∀ (x : Act) (w : World), Ext w0 w → (∀ t, Fact ops (knV T) a0 i o x.eval w t) → ExecI F n P o x w fun v w' => ∀ d, o.dst = some d → T' d v w') :
    StepI F n P ops (yV T T' m) (yS w0 m) a0 i o := by
  subst him
  have hpass : ∀ j p d, ops[j]? = some p → p.dst = some d → j < m → ∀ v w, T' d v w := by
    intro j p d h1 h2 h3 v w
    have := List.all_eq_true.1 hlate j (List.mem_range.2 h3)
    simp only [h1, Option.bind_some, h2, Bool.not_eq_true'] at this
    exact hT' d v w (by simpa using this)
  have hbehind : ∀ j p, ops[j]? = some p → m < j → (reachD ops 12 [j]).contains m = true := by
    intro j p h1 h2
    have := List.all_eq_true.1 hbeh j (List.mem_range.2 (Array.getElem?_eq_some_iff.1 h1).1)
    rw [Bool.or_eq_true] at this
    rcases this with h | h
    · have := of_decide_eq_true h; omega
    · exact h
  intro x w L hw hi hd hf hc
  have hx : Ext w0 w := by unfold yS at hw; rw [hi] at hw; simpa using hw
  have hL' : (fun j => j == m || L j) m = true := by simp
  refine ⟨fun _ => ?_, fun hw => ?_⟩
  · intro K Q hK
    refine (h x w hx ?_) K Q fun v w' hv => hK v w' ⟨fun d hd => ?_, fun d v hjp _ => ?_, ?_⟩
    · intro t
      have := hf t
      unfold Fact at this ⊢
      unfold yV at this
      rw [hi] at this
      simpa using this
    · unfold yV; rw [if_pos hL']; exact hv d hd
    · obtain ⟨j, p, h1, h2, h3⟩ := hjp
      unfold yV
      rw [if_pos hL']
      have hji : j ≠ m := fun e => by rw [e, hi] at h2; cases h2
      refine hpass j p d h1 h3 ?_ _ _
      rcases Nat.lt_or_gt_of_ne hji with hlt | hgt
      · exact hlt
      · have := hbehind j p h1 hgt
        have := reachD_listed hc 12 [j] (fun k hk => by simp at hk; subst hk; exact h2) m (by simpa using this)
        rw [hi] at this; cases this
    · unfold yS; rw [if_pos hL']; trivial
  · unfold wantedBy at hw; rw [hg] at hw; cases hw
/-- One behind it, that leaves the world alone. -/
theorem StepI.tail (hF : Open F) (hn : noDefer o = true) (hm : (reachD ops 12 [i]).contains m = true) (him : i ≠ m) (ho : ops[i]? = some o) (hg : o.guard = none)
    (h : ∀ (ρ : Operand → Value) (w : World), Env ρ → (∀ t, fedBy ops o t = true → T' t (ρ (.tmp t)) w) → ∃ v, (execOp ρ o).run P w = .ok (.value v) w ∧ ∀ d, o.dst = some d → T' d v w) :
    StepI F n P ops (yV T T' m) (yS w0 m) a0 i o := by
  intro x w L hw hi hd hf hc
  have hLm : L m = true := by
    have hc' : ∀ (j : Nat) (p : Oper), ops[j]? = some p → (fun j => j == i || L j) j = true → ∀ k ∈ deps p, (fun j => j == i || L j) k = true := by
      intro j p hj hL k hk
      simp only [Bool.or_eq_true, beq_iff_eq] at hL ⊢
      rcases hL with rfl | hL
      · rw [ho] at hj; cases hj; exact .inr (hd k hk)
      · exact .inr (hc j p hj hL k hk)
    have := reachD_listed hc' 12 [i] (fun k hk => by simp at hk; subst hk; simp) m (by simpa using hm)
    simpa [Ne.symm him] using this
  have hL' : (fun j => j == i || L j) m = true := by simp [hLm]
  refine ⟨fun _ => Exec.openly hF hn ?_, fun hw => ?_⟩
  · obtain ⟨v, h1, h2⟩ := h x.eval w (env_eval x) fun t ht => by have := (hf t).1 ht; unfold yV at this; rwa [if_pos hLm] at this
    refine .value h1 ⟨fun d hd => ?_, fun d v _ hv => ?_, ?_⟩
    · unfold yV; rw [if_pos hL']; exact h2 d hd
    · unfold yV at hv ⊢; rw [if_pos hL']; rwa [if_pos hLm] at hv
    · unfold yS; rw [if_pos hL']; trivial
  · unfold wantedBy at hw; rw [hg] at hw; cases hw
/-- THE LAW. -/
theorem wpIn_region_yield {id : Nat} {l : List Oper} (T : Tmp → Kn) (T' : Tmp → Value → World → Prop) (m : Nat) (hF : Open F)
    (hm : P.follows .mixedOrders = true) (hg : goodOps l.toArray = true) (hdst : (l.all fun o => match o.dst with | some d => decide (d < a0.tmps.size) | none => true) = true)
    (hml : m < l.length)
    (hall : AllI F n P l.toArray (yV T T' m) (yS w0 m) a0 0 l)
    (fin : ∀ (ν : Tmp → Value) (w : World), (∀ (i : Nat) (d : Tmp), (l[i]?).bind (·.dst) = some d → T' d (ν d) w) → Q .normal ⟨ended l ν a0.tmps, a0.defers⟩ w) :
    (Code.region id l.toArray true).wpIn F n P Q a0 w0 := by
  refine wpIn_region_gen (yV T T' m) (yS w0 m) hF hm hg hdst ?_ hall fun ν w h _ => fin ν w fun i d hd => ?_
  · unfold yS; simp only [Bool.false_eq_true, if_false]; exact Ch.drew (Ch.refl _ _)
  · cases ho : l[i]? with
    | none => simp [ho] at hd
    | some o =>
      have := h o (List.mem_of_getElem? ho) d (by simpa [ho] using hd)
      unfold yV at this
      rwa [if_pos (by simpa using hml)] at this
end
end Go.Lac
