/-
  A library of the verifier's own, over no program, fourth part: a region whose order is drawn, in which one operation writes: what is known before it, and behind it.
-/
import Derived.Test.YtolelgbkohccbaaLib
import Derived.Test.YtolelgbkohccbaaLibC
namespace Go.Lac
open Go Go.RowKit

/-- What must be shown of operation o (number i): what is known may hang on which operations have been carried out. -/
def StepG (P : Program) (ops : Array Oper) (V : (Nat → Bool) → Tmp → Value → World → Prop) (S : (Nat → Bool) → World → Prop) (a0 : Act) (i : Nat) (o : Oper) : Prop :=
  ∀ (ρ : Operand → Value) (w : World) (L : Nat → Bool), Env ρ → S L w → L i = false → (∀ j ∈ deps o, L j = true) → (∀ t, Fact ops (V L) a0 i o ρ w t) →
    (∀ j p, ops[j]? = some p → L j = true → ∀ k ∈ deps p, L k = true) →
    let Φ : Value → World → Prop := fun v w' => (∀ d, o.dst = some d → V (fun j => j == i || L j) d v w') ∧
      (∀ d v, (∃ j p, ops[j]? = some p ∧ L j = true ∧ p.dst = some d) → V L d v w → V (fun j => j == i || L j) d v w') ∧ S (fun j => j == i || L j) w'
    (wantedBy ops o ρ = true → Exec P ρ o w Φ) ∧ (wantedBy ops o ρ = false → Φ undef w)

def AllG (P : Program) (ops : Array Oper) (V : (Nat → Bool) → Tmp → Value → World → Prop) (S : (Nat → Bool) → World → Prop) (a0 : Act) : Nat → List Oper → Prop
  | _, [] => True
  | i, o :: l => StepG P ops V S a0 i o ∧ AllG P ops V S a0 (i + 1) l

theorem AllG.get {P : Program} {ops : Array Oper} {V : (Nat → Bool) → Tmp → Value → World → Prop} {S : (Nat → Bool) → World → Prop} {a0 : Act} :
    ∀ (l : List Oper) (i : Nat), AllG P ops V S a0 i l → ∀ k o, l[k]? = some o → StepG P ops V S a0 (i + k) o
  | [], _, _, k, o, h => by simp at h
  | x :: l, i, h, 0, o, e => by simp at e; subst e; exact h.1
  | x :: l, i, h, k + 1, o, e => by
    have := AllG.get l (i + 1) h.2 k o (by simpa using e)
    rwa [show i + (k + 1) = i + 1 + k by omega]

/-- The state of things in the middle of a region. -/
structure RG (ops : Array Oper) (V : (Nat → Bool) → Tmp → Value → World → Prop) (S : (Nat → Bool) → World → Prop) (a0 : Act) (L : Nat → Bool) (a : Act) (w : World) : Prop where
  size : a.tmps.size = a0.tmps.size
  defers : a.defers = a0.defers
  closed : ∀ i o, ops[i]? = some o → L i = true → ∀ j ∈ deps o, L j = true
  keep : ∀ t, (∀ i o, ops[i]? = some o → L i = true → o.dst ≠ some t) → a.tmps[t]? = a0.tmps[t]?
  val : ∀ i o, ops[i]? = some o → L i = true → ∀ d, o.dst = some d → V L d (a.tmps.getD d undef) w
  st : S L w

section
variable {P : Program} {ops : Array Oper} {Q : Exit → Act → World → Prop} {V : (Nat → Bool) → Tmp → Value → World → Prop} {S : (Nat → Bool) → World → Prop} {a0 : Act}

theorem RG.fact {L : Nat → Bool} {a : Act} {w : World} (h : RG ops V S a0 L a w) {i : Nat} {o : Oper} (ho : ops[i]? = some o) (hi : L i = false)
    (hd : ∀ j ∈ deps o, L j = true) (t : Tmp) : Fact ops (V L) a0 i o a.eval w t := by
  constructor
  · intro hf
    obtain ⟨j, hj, hjt⟩ := List.any_eq_true.1 hf
    cases hoj : ops[j]? with
    | none => simp [hoj] at hjt
    | some p =>
      simp only [hoj, Option.bind_some, beq_iff_eq] at hjt
      exact h.val j p hoj (hd j hj) t hjt
  · intro hf hu
    have hk : a.tmps[t]? = a0.tmps[t]? := h.keep t fun j p hp hL hdst => by
      have hjs : j < ops.size := (Array.getElem?_eq_some_iff.1 hp).1
      have h1 := List.all_eq_true.1 hu j (List.mem_range.2 hjs)
      simp only [hp, Option.bind_some, Option.map_some, Option.getD_some, Bool.or_eq_true, beq_iff_eq, bne_iff_ne, ne_eq, hdst, not_true_eq_false, or_false] at h1
      rcases h1 with h1 | h1
      · subst h1; rw [hi] at hL; cases hL
      · have := h.closed j p hp hL i (by simpa using h1)
        rw [hi] at this; cases this
    simp only [Act.eval, Array.getD_eq_getD_getElem?, hk]

theorem RG.put {L : Nat → Bool} {a : Act} {w w' : World} (h : RG ops V S a0 L a w) (hg : goodOps ops = true) {i : Nat} {o : Oper} (ho : ops[i]? = some o) (hi : L i = false)
    (hd : ∀ j ∈ deps o, L j = true) (hdst : ∀ d, o.dst = some d → d < a0.tmps.size) {v : Value}
    (hΦ : (∀ d, o.dst = some d → V (fun j => j == i || L j) d v w') ∧ (∀ d v, (∃ j p, ops[j]? = some p ∧ L j = true ∧ p.dst = some d) → V L d v w → V (fun j => j == i || L j) d v w') ∧ S (fun j => j == i || L j) w') :
    RG ops V S a0 (fun j => j == i || L j) (a.put o.dst v) w' := by
  obtain ⟨h1, h2, h3⟩ := hΦ
  refine ⟨?_, ?_, ?_, ?_, ?_, h3⟩
  · cases hod : o.dst <;> simp [Act.put, h.size]
  · cases hod : o.dst <;> simp [Act.put, h.defers]
  · intro j p hp hL k hk
    simp only [Bool.or_eq_true, beq_iff_eq] at hL ⊢
    rcases hL with rfl | hL
    · rw [ho] at hp; cases hp
      exact .inr (hd k hk)
    · exact .inr (h.closed j p hp hL k hk)
  · intro t ht
    have hne : o.dst ≠ some t := ht i o ho (by simp)
    have := h.keep t fun j p hp hL => ht j p hp (by simp [hL])
    rw [← this]
    cases hod : o.dst with
    | none => rfl
    | some d =>
      have : d ≠ t := fun e => hne (by rw [hod, e])
      simp [Act.put, Array.getElem?_setIfInBounds_ne this]
  · intro j p hp hL d hpd
    simp only [Bool.or_eq_true, beq_iff_eq] at hL
    by_cases hji : j = i
    · subst hji
      rw [ho] at hp; cases hp
      have hlt := hdst d hpd
      rw [hpd]
      have : (a.tmps.setIfInBounds d v).getD d undef = v := by
        have hs : d < (a.tmps.setIfInBounds d v).size := by simp; rw [h.size]; exact hlt
        simp [Array.getD, h.size, hlt]
      simp only [Act.put, this]
      exact h1 d hpd
    · have hL' : L j = true := hL.resolve_left hji
      have hval := h.val j p hp hL' d hpd
      cases hod : o.dst with
      | none => exact h2 _ _ ⟨j, p, hp, hL', hpd⟩ hval
      | some d' =>
        have hdd : d' ≠ d := fun e => goodOps_dst hg hp ho (Ne.symm hji) hpd (by rw [hod, e])
        have : ((a.put (some d') v).tmps).getD d undef = a.tmps.getD d undef := by
          simp [Act.put, Array.getD_eq_getD_getElem?, Array.getElem?_setIfInBounds_ne hdd]
        rw [this]
        exact h2 _ _ ⟨j, p, hp, hL', hpd⟩ hval

theorem wpAny_gen (hg : goodOps ops = true) (hall : AllG P ops V S a0 0 ops.toList) (hdst : ∀ (i : Nat) (o : Oper), ops[i]? = some o → ∀ d, o.dst = some d → d < a0.tmps.size)
    (fin : ∀ a w, RG ops V S a0 (fun i => decide (i < ops.size)) a w → Q .normal a w) :
    ∀ (fuel : Nat) (listed : Array Bool) (a : Act) (w : World), listed.size = ops.size → leftOver listed = fuel → RG ops V S a0 (allow listed) a w →
      wpAny P .any ops Q fuel listed a w := by
  have done : ∀ (listed : Array Bool) (a : Act) (w : World), listed.size = ops.size → (∀ i, i < ops.size → listed.getD i true = true) → RG ops V S a0 (allow listed) a w → Q .normal a w := by
    intro listed a w hs hl h
    refine fin a w ?_
    have : allow listed = fun i => decide (i < ops.size) := by
      funext i
      unfold allow
      by_cases hi : i < ops.size
      · have := hl i hi
        simpa [Array.getD, hs, hi] using this
      · simp [Array.getD, hs, hi]
    rw [← this]; exact h
  have stuck : ∀ (listed : Array Bool), listed.size = ops.size → Region.ready .any ops listed = [] → ∀ i, i < ops.size → listed.getD i true = true := by
    intro listed hs hr i
    induction i using Nat.strongRecOn with
    | _ i ih =>
      intro hi
      by_cases hb : listed.getD i true = true
      · exact hb
      · have hmem : i ∈ Region.ready .any ops listed := ready_iff.2 ⟨hi, by simpa using hb, ops[i], Array.getElem?_eq_getElem hi, fun j hj => by
          have hlt := goodOps_lt hg (Array.getElem?_eq_getElem hi) j hj
          have := ih j hlt (by omega)
          simpa [Array.getD, hs, show j < ops.size by omega] using this⟩
        rw [hr] at hmem; cases hmem
  intro fuel
  induction fuel with
  | zero =>
    intro listed a w hs hl h
    have hfull : ∀ i, i < ops.size → listed.getD i true = true := fun i hi => leftOver_zero hl (by omega)
    refine ⟨?_, done listed a w hs hfull h⟩
    rw [List.eq_nil_iff_forall_not_mem]
    intro i hi
    obtain ⟨h1, h2, _⟩ := ready_iff.1 hi
    rw [hfull i h1] at h2; cases h2
  | succ fuel ih =>
    intro listed a w hs hl h
    refine ⟨fun hr => done listed a w hs (stuck listed hs hr) h, fun i hi => ?_⟩
    obtain ⟨h1, h2, o, ho, h3⟩ := ready_iff.1 hi
    have hLi : allow listed i = false := by
      have : listed.getD i true = listed[i]'(by omega) := by simp [Array.getD, hs, h1]
      rw [this] at h2
      simp [allow, Array.getD, hs, h1, h2]
    have hLd : ∀ j ∈ deps o, allow listed j = true := h3
    have hstep := AllG.get ops.toList 0 hall i o (by simpa using ho)
    rw [Nat.zero_add] at hstep
    have hs' := hstep a.eval w (allow listed) (env_eval a) h.st hLi hLd (h.fact ho hLi hLd) h.closed
    have hset := allow_set (listed := listed) (i := i) (by omega)
    have hleft := leftOver_set (listed := listed) (i := i) (by omega) h2
    unfold wpOp
    simp only [ho]
    rw [wantedBy_eq] at hs'
    split
    · rename_i hw
      refine .inl ((hs'.1 hw).wp fun v w' hv => ?_)
      refine ih _ _ _ (by simpa using hs) (by omega) ?_
      rw [hset]
      exact h.put hg ho hLi hLd (hdst i o ho) hv
    · rename_i hw
      refine ih _ _ _ (by simpa using hs) (by omega) ?_
      rw [hset]
      exact h.put hg ho hLi hLd (hdst i o ho) (hs'.2 (by simpa using hw))

/-- THE LAW. 'V d v w': what slot d, once written, holds. 'S L w': what holds of the world when the operations in L have been carried out. -/
theorem wp_region_gen {id : Nat} {l : List Oper} {w0 : World} (V : (Nat → Bool) → Tmp → Value → World → Prop) (S : (Nat → Bool) → World → Prop)
    (hm : P.follows .mixedOrders = true) (hg : goodOps l.toArray = true) (hdst : (l.all fun o => match o.dst with | some d => decide (d < a0.tmps.size) | none => true) = true)
    (h0 : S (fun _ => false) w0.drew)
    (hall : AllG P l.toArray V S a0 0 l)
    (fin : ∀ (ν : Tmp → Value) (w : World), (∀ o ∈ l, ∀ d, o.dst = some d → V (fun i => decide (i < l.length)) d (ν d) w) → S (fun i => decide (i < l.length)) w → Q .normal ⟨ended l ν a0.tmps, a0.defers⟩ w) :
    (Code.region id l.toArray true).wp P Q a0 w0 := by
  refine wp_region_any hm ?_
  have hdst' : ∀ (i : Nat) (o : Oper), l.toArray[i]? = some o → ∀ d, o.dst = some d → d < a0.tmps.size := by
    intro i o ho d hd
    have hmem : o ∈ l := by
      have : l[i]? = some o := by simpa using ho
      exact List.mem_of_getElem? this
    have := List.all_eq_true.1 hdst o hmem
    simpa [hd] using this
  refine wpAny_gen (V := V) (S := S) (a0 := a0) hg hall hdst' ?_ _ _ _ _ (by simp) (by simp [leftOver]) ?_
  · intro a w h
    have hv : ∀ o ∈ l, ∀ d, o.dst = some d → V (fun i => decide (i < l.length)) d (a.tmps.getD d undef) w := by
      intro o ho d hd
      obtain ⟨i, hi⟩ := List.mem_iff_getElem?.1 ho
      have hh := h.val i o (by simpa using hi) (by have := (List.getElem?_eq_some_iff.1 hi).1; simpa using this) d hd
      exact hh
    have hq := fin (fun d => a.tmps.getD d undef) w hv (by simpa using h.st)
    have : (⟨ended l (fun d => a.tmps.getD d undef) a0.tmps, a0.defers⟩ : Act) = a := by
      cases a with
      | mk tmps defers =>
        have hdf : defers = a0.defers := h.defers
        have hsz : tmps.size = a0.tmps.size := h.size
        simp only [Act.mk.injEq]
        refine ⟨?_, hdf.symm⟩
        apply Array.ext
        · rw [ended_size]; exact hsz.symm
        · intro t h1 h2
          have h3 : t < a0.tmps.size := by omega
          have e1 := ended_get (fun d => tmps.getD d undef) t l a0.tmps h3
          have e2 : (ended l (fun d => tmps.getD d undef) a0.tmps)[t]? = some tmps[t] := by
            rw [e1]
            split
            · simp [Array.getD, h2]
            · rename_i hno
              have hk := h.keep t fun i o ho _ hd => hno ⟨o, by
                have : l[i]? = some o := by simpa using ho
                exact List.mem_of_getElem? this, hd⟩
              have hk' : tmps[t]? = a0.tmps[t]? := hk
              rw [← hk', Array.getElem?_eq_getElem h2]
          rw [Array.getElem?_eq_getElem h1] at e2
          exact Option.some.inj e2
    rw [this] at hq
    exact hq
  · have hno : allow (Array.replicate l.toArray.size false) = fun _ => false := by
      funext i
      unfold allow
      by_cases hi : i < l.length
      · simp [Array.getD, hi]
      · simp [Array.getD, hi]
    rw [hno]
    exact ⟨rfl, rfl, by simp, by simp, by simp, h0⟩

end

/-! ### One operation writes -/

def dedup : List Nat → List Nat
  | [] => []
  | x :: l => if (dedup l).contains x then dedup l else x :: dedup l
theorem mem_dedup : ∀ {l : List Nat} {y : Nat}, y ∈ dedup l → y ∈ l
  | [], _, h => h
  | x :: l, y, h => by
    unfold dedup at h
    split at h
    · exact List.mem_cons_of_mem _ (mem_dedup h)
    · rcases List.mem_cons.1 h with rfl | h
      · exact List.mem_cons_self
      · exact List.mem_cons_of_mem _ (mem_dedup h)
/-- What comes before, step by step, each once. -/
def reachD (ops : Array Oper) : Nat → List Nat → List Nat
  | 0, l => l
  | n + 1, l => reachD ops n (dedup (l ++ l.flatMap fun j => ((ops[j]?).map deps).getD []))
theorem reachD_listed {ops : Array Oper} {L : Nat → Bool} (hc : ∀ (j : Nat) (p : Oper), ops[j]? = some p → L j = true → ∀ k ∈ deps p, L k = true) :
    ∀ (n : Nat) (l : List Nat), (∀ j ∈ l, L j = true) → ∀ j ∈ reachD ops n l, L j = true
  | 0, l, h, j, hj => h j hj
  | n + 1, l, h, j, hj => reachD_listed hc n _ (fun k hk => by
      rcases List.mem_append.1 (mem_dedup hk) with hk | hk
      · exact h k hk
      · obtain ⟨i, hi, hk⟩ := List.mem_flatMap.1 hk
        cases ho : ops[i]? with
        | none => simp [ho] at hk
        | some p => simp only [ho, Option.map_some, Option.getD_some] at hk; exact hc i p ho (h i hi) k hk) j hj
/-- The operations behind the writing one wait for it; slots of the writing one and of those behind it are listed. -/
def lateOk (ops : Array Oper) (m : Nat) (late : List Tmp) : Bool :=
  (List.range ops.size).all fun j => (decide (j ≤ m) || (reachD ops 12 [j]).contains m) &&
    (match (ops[j]?).bind (·.dst) with | some d => (decide (j < m)) == !(late.contains d) | none => true)

def lateV (T T' : Tmp → Kn) (m : Nat) (L : Nat → Bool) (d : Tmp) (v : Value) (w : World) : Prop := if L m = true then (T' d).holds v w else (T d).holds v w

section
variable {P : Program} {ops : Array Oper} {T T' : Tmp → Kn} {w0 : World} {a0 : Act} {i m : Nat} {o : Oper} {Fin : World → Prop} {late : List Tmp}

theorem lateOk_at (h : lateOk ops m late = true) {j : Nat} (hj : j < ops.size) : (decide (j ≤ m) || (reachD ops 12 [j]).contains m) = true ∧
    (match (ops[j]?).bind (·.dst) with | some d => (decide (j < m)) == !(late.contains d) | none => true) = true := by
  unfold lateOk at h
  have := List.all_eq_true.1 h j (List.mem_range.2 hj)
  rwa [Bool.and_eq_true] at this

theorem early_not {L : Nat → Bool} (hm : (reachD ops 12 [m]).contains i = true) (hi : L i = false) (hc : ∀ (j : Nat) (p : Oper), ops[j]? = some p → L j = true → ∀ k ∈ deps p, L k = true) : L m = false := by
  rcases Bool.eq_false_or_eq_true (L m) with h1 | h1
  · have := reachD_listed (L := L) (fun j p => hc j p) 12 [m] (by simpa using h1) i (by simpa using hm)
    rw [hi] at this; cases this
  · exact h1

theorem lateV_t {L : Nat → Bool} {d : Tmp} {v : Value} {w : World} (h : L m = true) : lateV T T' m L d v w = (T' d).holds v w := by unfold lateV; rw [if_pos h]
theorem lateV_f {L : Nat → Bool} {d : Tmp} {v : Value} {w : World} (h : L m = false) : lateV T T' m L d v w = (T d).holds v w := by unfold lateV; rw [h]; simp
theorem lastS_t {L : Nat → Bool} {w : World} (h : L m = true) : lastS w0 m Fin L w = Fin w := by unfold lastS; rw [if_pos h]
theorem lastS_f {L : Nat → Bool} {w : World} (h : L m = false) : lastS w0 m Fin L w = Ext w0 w := by unfold lastS; rw [h]; simp

theorem lateS_ext {L : Nat → Bool} {w : World} (hw : lastS w0 m Fin L w) (h : L m = false) : Ext w0 w := by unfold lastS at hw; rw [h] at hw; simpa using hw

/-- Before the writing one. -/
theorem StepG.early (hm : (reachD ops 12 [m]).contains i = true) (him : i ≠ m) (hg : o.guard = none)
    (h : ∀ ρ w, Env ρ → Ext w0 w → (∀ t, Fact ops (knV T) a0 i o ρ w t) → Exec P ρ o w fun v w' => (∀ d, o.dst = some d → knV T d v w') ∧ Ext w w') :
    StepG P ops (lateV T T' m) (lastS w0 m Fin) a0 i o := by
  intro ρ w L hρ hw hi _ hf hc
  have hLm := early_not hm hi hc
  have hw' := lateS_ext hw hLm
  have hLm' : (fun j => j == i || L j) m = false := by
    have : (m == i) = false := by rw [beq_eq_false_iff_ne]; exact fun h => him h.symm
    simp only [this, hLm, Bool.or_false]
  have hf' : ∀ t, Fact ops (knV T) a0 i o ρ w t := fun t => ⟨fun e => by have := (hf t).1 e; rwa [lateV_f hLm] at this, (hf t).2⟩
  refine ⟨fun _ => (h ρ w hρ hw' hf').mono fun v w' ⟨h1, h2⟩ => ⟨fun d hd => ?_, fun d v _ hv => ?_, ?_⟩, fun hn => ?_⟩
  · rw [lateV_f hLm']; exact h1 d hd
  · rw [lateV_f hLm] at hv; rw [lateV_f hLm']
    exact (T d).keeps v w w' h2 hv
  · rw [lastS_f hLm']; exact hw'.trans h2
  · simp [wantedBy, hg] at hn

/-- One that may come before or behind the writing one; it leaves the world alone. -/
theorem StepG.free (him : i ≠ m) (hg : o.guard = none)
    (h : ∀ ρ w, Env ρ → (∀ t, Fact ops (knV T) a0 i o ρ w t) → Exec P ρ o w fun v w' => (∀ d, o.dst = some d → knV T d v w') ∧ w' = w)
    (h' : ∀ ρ w, Env ρ → (∀ t, Fact ops (knV T') a0 i o ρ w t) → Exec P ρ o w fun v w' => (∀ d, o.dst = some d → knV T' d v w') ∧ w' = w) :
    StepG P ops (lateV T T' m) (lastS w0 m Fin) a0 i o := by
  intro ρ w L hρ hw hi _ hf hc
  have hne : (m == i) = false := by rw [beq_eq_false_iff_ne]; exact fun h => him h.symm
  rcases Bool.eq_false_or_eq_true (L m) with hLm | hLm
  · have hLm' : (fun j => j == i || L j) m = true := by simp only [hLm, Bool.or_true]
    have hf' : ∀ t, Fact ops (knV T') a0 i o ρ w t := fun t => ⟨fun e => by have := (hf t).1 e; rwa [lateV_t hLm] at this, (hf t).2⟩
    refine ⟨fun _ => (h' ρ w hρ hf').mono fun v w' ⟨h1, h2⟩ => ⟨fun d hd => ?_, fun d v _ hv => ?_, ?_⟩, fun hn => ?_⟩
    · rw [lateV_t hLm']; exact h1 d hd
    · subst h2; rw [lateV_t hLm] at hv; rw [lateV_t hLm']; exact hv
    · subst h2; rw [lastS_t hLm']; rwa [lastS_t hLm] at hw
    · simp [wantedBy, hg] at hn
  · have hLm' : (fun j => j == i || L j) m = false := by simp only [hne, hLm, Bool.or_false]
    have hf' : ∀ t, Fact ops (knV T) a0 i o ρ w t := fun t => ⟨fun e => by have := (hf t).1 e; rwa [lateV_f hLm] at this, (hf t).2⟩
    refine ⟨fun _ => (h ρ w hρ hf').mono fun v w' ⟨h1, h2⟩ => ⟨fun d hd => ?_, fun d v _ hv => ?_, ?_⟩, fun hn => ?_⟩
    · rw [lateV_f hLm']; exact h1 d hd
    · subst h2; rw [lateV_f hLm] at hv; rw [lateV_f hLm']; exact hv
    · subst h2; rw [lastS_f hLm']; rwa [lastS_f hLm] at hw
    · simp [wantedBy, hg] at hn

/-- The writing one. -/
theorem StepG.write (hlt : lateOk ops m late = true) (hg : o.guard = none) (hpass : ∀ d v w w', d ∉ late → (T d).holds v w → (T' d).holds v w')
    (h : ∀ ρ w, Env ρ → Ext w0 w → (∀ t, Fact ops (knV T) a0 m o ρ w t) → Exec P ρ o w fun v w' => (∀ d, o.dst = some d → knV T' d v w') ∧ Fin w') :
    StepG P ops (lateV T T' m) (lastS w0 m Fin) a0 m o := by
  intro ρ w L hρ hw hi _ hf hc
  have hw' := lateS_ext hw hi
  have hf' : ∀ t, Fact ops (knV T) a0 m o ρ w t := fun t => ⟨fun e => by have := (hf t).1 e; rwa [lateV_f hi] at this, (hf t).2⟩
  have hmm : (fun j => j == m || L j) m = true := by simp
  refine ⟨fun _ => (h ρ w hρ hw' hf').mono fun v w' ⟨h1, h2⟩ => ⟨fun d hd => ?_, fun d v hex hv => ?_, ?_⟩, fun hn => ?_⟩
  · rw [lateV_t hmm]; exact h1 d hd
  · obtain ⟨j, p, hp, hL, hd⟩ := hex
    rw [lateV_f hi] at hv
    rw [lateV_t hmm]
    have hjs : j < ops.size := (Array.getElem?_eq_some_iff.1 hp).1
    obtain ⟨q1, q2⟩ := lateOk_at hlt hjs
    have hjm : j < m := by
      rcases Nat.lt_trichotomy j m with h1 | h1 | h1
      · exact h1
      · subst h1; rw [hi] at hL; cases hL
      · simp only [show ¬ j ≤ m by omega, decide_false, Bool.false_or] at q1
        have := reachD_listed (L := L) (fun j p => hc j p) 12 [j] (by simpa using hL) m (by simpa using q1)
        rw [hi] at this; cases this
    simp only [hp, Option.bind_some, hd, decide_eq_true hjm] at q2
    refine hpass d v w w' ?_ hv
    simpa using q2
  · rw [lastS_t hmm]; exact h2
  · simp [wantedBy, hg] at hn

/-- Behind it. -/
theorem StepG.later (hlt : lateOk ops m late = true) (him : m < i) (his : ops[i]? = some o) (hg : o.guard = none)
    (h : ∀ ρ w, Env ρ → Fin w → (∀ t, Fact ops (knV T') a0 i o ρ w t) → Exec P ρ o w fun v w' => (∀ d, o.dst = some d → knV T' d v w') ∧ w' = w) :
    StepG P ops (lateV T T' m) (lastS w0 m Fin) a0 i o := by
  intro ρ w L hρ hw hi hdeps hf hc
  have hLm : L m = true := by
    have hjs : i < ops.size := (Array.getElem?_eq_some_iff.1 his).1
    obtain ⟨q1, _⟩ := lateOk_at hlt hjs
    simp only [show ¬ i ≤ m by omega, decide_false, Bool.false_or] at q1
    -- i itself is not carried out yet: count it in
    have hc' : ∀ (j : Nat) (p : Oper), ops[j]? = some p → (j == i || L j) = true → ∀ k ∈ deps p, (k == i || L k) = true := by
      intro j p hp hj k hk
      simp only [Bool.or_eq_true, beq_iff_eq] at hj ⊢
      rcases hj with rfl | hj
      · rw [his] at hp; cases hp
        exact .inr (hdeps k hk)
      · exact .inr (hc j p hp hj k hk)
    have := reachD_listed (L := fun j => j == i || L j) hc' 12 [i] (by simp) m (by simpa using q1)
    simp only [Bool.or_eq_true, beq_iff_eq] at this
    rcases this with h1 | h1
    · omega
    · exact h1
  have hfin : Fin w := by unfold lastS at hw; rwa [if_pos hLm] at hw
  have hLm' : (fun j => j == i || L j) m = true := by simp only [hLm, Bool.or_true]
  have hf' : ∀ t, Fact ops (knV T') a0 i o ρ w t := fun t => ⟨fun e => by have := (hf t).1 e; rwa [lateV_t hLm] at this, (hf t).2⟩
  refine ⟨fun _ => (h ρ w hρ hfin hf').mono fun v w' ⟨h1, h2⟩ => ⟨fun d hd => ?_, fun d v _ hv => ?_, ?_⟩, fun hn => ?_⟩
  · rw [lateV_t hLm']; exact h1 d hd
  · subst h2
    rw [lateV_t hLm] at hv; rw [lateV_t hLm']; exact hv
  · subst h2; rw [lastS_t hLm']; exact hfin
  · simp [wantedBy, hg] at hn
end

section
variable {P : Program} {Q : Exit → Act → World → Prop} {a0 : Act}
/-- THE LAW for a region in which one operation writes. -/
theorem wp_region_late {id : Nat} {l : List Oper} {w0 : World} (T T' : Tmp → Kn) (m : Nat) (Fin : World → Prop)
    (hm : P.follows .mixedOrders = true) (hg : goodOps l.toArray = true) (hdst : (l.all fun o => match o.dst with | some d => decide (d < a0.tmps.size) | none => true) = true) (hlen : m < l.length)
    (hall : AllG P l.toArray (lateV T T' m) (lastS w0 m Fin) a0 0 l)
    (fin : ∀ (ν : Tmp → Value) (w : World), (∀ (i : Nat) (d : Tmp), (l[i]?).bind (·.dst) = some d → (T' d).holds (ν d) w) → Fin w → Q .normal ⟨ended l ν a0.tmps, a0.defers⟩ w) :
    (Code.region id l.toArray true).wp P Q a0 w0 :=
  wp_region_gen (lateV T T' m) (lastS w0 m Fin) hm hg hdst (by unfold lastS; simpa using Ch.drew (Ch.refl _ _)) hall fun ν w h hs => fin ν w (fun i d hd => by
    cases ho : l[i]? with
    | none => simp [ho] at hd
    | some o =>
      have := h o (List.mem_of_getElem? ho) d (by simpa [ho] using hd)
      unfold lateV at this
      rwa [if_pos (by simpa using hlen)] at this) (by unfold lastS at hs; simpa [hlen] using hs)
end

/-! ### bytes put behind -/
/-- A row of one's own. -/
def Kn.own (base : Nat) (E : TypeId) (n : Nat) (cs : List Value) : Kn := ⟨fun v w => w.ownsRow base E 1 v n cs, fun _ _ _ k h => h.ext k⟩
section
variable {P : Program} {ρ : Operand → Value} {o : Oper} {w : World} {T : Tmp → Kn} {d : Tmp} {t e : TypeId} {inf : TypeInfo}
theorem run_byte_one (hu : P.underlying t = some (.slice e)) (hie : P.info? e = some inf) (hz : inf.zero = some (.int .u8 0)) (hsz : inf.size = 1) (x : Int) :
    (Instr.buildSlice t 1 #[(0, .int .u8 x)]).run P w = .ok (.slice (some ⟨w.heap.size, 0, none⟩) 1 1) (w.alloc (.cells #[.int .u8 x] e)) := by
  refine run_buildSlice w t e 1 _ _ inf _ hu hie hz (by rw [hsz]; decide) (by rw [hsz]; decide) ?_
  rw [hsz]
  simp [Instr.fill, Value.cells]
  rw [show Array.range 1 = #[0] from rfl]
  simp
theorem Exec.kbyte {x : Operand} {b : UInt8} (ho : o.op = .buildSlice t 1 #[(0, x)]) (hd : o.dst = some d) (hu : P.underlying t = some (.slice e)) (hie : P.info? e = some inf) (hz : inf.zero = some (.int .u8 0)) (hsz : inf.size = 1)
    (hx : ρ x = .int .u8 (b.toNat : Nat)) (hv : ∀ v w', Rd w' v [b] → (T d).holds v w') :
    Exec P ρ o w fun v w' => (∀ d, o.dst = some d → knV T d v w') ∧ Ext w w' := by
  refine Exec.kalloc (v := .slice (some ⟨w.heap.size, 0, none⟩) 1 1) (ob := .cells #[.int .u8 (b.toNat : Nat)] e) hd ?_ (hv _ _ (rd_new w [b] e (by unfold maxLen; simp)))
  unfold execOp; rw [ho]
  simp only [List.map_toArray, List.map_cons, List.map_nil, hx, Sem.run_bind, run_byte_one hu hie hz hsz, Result.andThen_ok, Sem.run_pure]
/-- 'append(s, x...)', s a row of one's own. -/
theorem Exec.kappend {s xo : Operand} (ho : o.op = .call { callee := .builtin .append, args := #[s, xo], argTypes := #[t, t] }) (base : Nat) {z : Value} {size bytes : Nat} (ht : P.underlying t = some (.slice e)) (hi : P.info? e = some inf) (hz : inf.zero = some z)
    (hsize : inf.size = size) (hby : inf.bytes = bytes) (hzs : z.cells.size = size) (hsz : 0 < size) {v : Value} {n : Nat} {xs : List Value} (hs : ρ s = v) (hown : w.ownsRow base e size v n xs)
    {m : Nat} {news : List Value} (hx : Sl w (ρ xo) m news) (hl : news.length = m * size) (h1 : ∀ u ∈ news, u.oneCell' = true) (hbytes : (n + m) * bytes ≤ 140737488355328) (h63 : n + m ≤ maxLen) (hbase : base ≤ w.heap.size) :
    Exec P ρ o w fun v' w' => w'.ownsRow base e size v' (n + m) (xs ++ news) ∧ w.grownBy w' v.ownBlock := by
  obtain ⟨v', w', r1, r2, r3⟩ := run_append_sl (P := P) w base t o.type e inf z size bytes ht hi hz hsize hby hzs hsz v n xs hown (ρ xo) m news hx hl h1 hbytes h63 hbase
  refine Exec.value (v := v') (w' := w') ?_ ⟨r2, r3⟩
  unfold execOp
  rw [ho]
  simp only [resolve, invoke, builtin, Sem.run_bind, Sem.run_pure, Result.andThen_ok, List.map_toArray, List.map_cons, List.map_nil, hs, r1]
end

section
variable {P : Program} {w : World}
/-- 'append([]T{}, x...)': nothing that was there has changed. -/
theorem run_append_fresh (base : Nat) (t ty e : TypeId) (i : TypeInfo) (z : Value) (bytes : Nat) (ht : P.underlying t = some (.slice e)) (hi : P.info? e = some i) (hz : i.zero = some z)
    (hsize : i.size = 1) (hby : i.bytes = bytes) (hzs : z.cells.size = 1) (g : Nat) (hown : w.ownsRow base e 1 (.slice (some ⟨g, 0, none⟩) 0 0) 0 [])
    (x : Value) (n : Nat) (news : List Value) (hx : Sl w x n news) (hl : news.length = n) (h1 : ∀ u ∈ news, u.oneCell' = true)
    (hbytes : n * bytes ≤ 140737488355328) (h63 : n ≤ maxLen) (hbase : base ≤ w.heap.size) :
    ∃ v' w', (Builtin.append_ #[t, t] ty #[.slice (some ⟨g, 0, none⟩) 0 0, x]).run P w = .ok v' w' ∧ w'.ownsRow base e 1 v' n news ∧ Ext w w' := by
  obtain ⟨v', w', r1, r2, _⟩ := run_append_sl (P := P) w base t ty e i z 1 bytes ht hi hz hsize hby hzs (by decide) _ 0 [] hown x n news hx (by omega) h1 (by rw [Nat.zero_add]; exact hbytes) (by omega) hbase
  rw [Nat.zero_add, List.nil_append] at r2
  obtain ⟨ao, cap, rfl, g1, g2, g3, g4⟩ := hx
  refine ⟨v', w', r1, r2, ?_⟩
  cases ao with
  | none =>
    have hc := g3 rfl
    obtain rfl : n = 0 := by omega
    subst hc
    have := run_append_owned_none (P := P) w base t ty e i 1 ht hi (.slice (some ⟨g, 0, none⟩) 0 0) 0 [] hown
    rw [this] at r1
    cases r1
    exact Ch.refl _ _
  | some a =>
    have hcell : ∀ j v, news[j]? = some v → w.cell? (a.add j) = some v := fun j v hv => by
      obtain ⟨b, off, rfl, h5⟩ := g4 a rfl j v hv
      rw [Addr.add_lit]; exact h5
    by_cases h0 : n = 0
    · subst h0
      have hnil : news = [] := List.eq_nil_of_length_eq_zero hl
      subst hnil
      have hf := run_firstCells_some (P := P) w i.size 0 a 0 cap [] (by simp) (by simp)
      have : (Builtin.append_ #[t, t] ty #[.slice (some ⟨g, 0, none⟩) 0 0, .slice (some a) 0 cap]).run P w = .ok (.slice (some ⟨g, 0, none⟩) 0 0) w := by
        simp [Builtin.append_, run_underlying ht, sizeOf, typeInfo, zeroValue, hi, hz, Builtin.lenOf, hf, storeCells]
      rw [this] at r1
      cases r1
      exact Ch.refl _ _
    · have := run_append_grow (P := P) (w := w) t ty e i z ht hi hz ⟨g, 0, none⟩ 0 0 [] (by simp) (by simp) a n cap news (by rw [hsize]; omega) hcell (by omega) (by unfold maxLen at h63; omega)
        (by rw [Nat.zero_add, hby, nextslicecap_zero (by omega)]; omega)
      rw [this] at r1
      cases r1
      exact (Ch.refl _ _).drew.alloc _
end
section
variable {P : Program} {ρ : Operand → Value} {o : Oper} {w : World} {T : Tmp → Kn} {d : Tmp} {t e : TypeId} {inf : TypeInfo}
/-- '[]T{}', in a region. -/
theorem Exec.kempty (ho : o.op = .buildSlice t 0 #[]) (hd : o.dst = some d) {base : Nat} (hrun : ∀ w : World, (Instr.buildSlice t 0 #[]).run P w = .ok (.slice (some ⟨w.heap.size, 0, none⟩) 0 0) (w.alloc (.cells #[] e))) (hbase : base ≤ w.heap.size)
    (hv : ∀ g w', w'.ownsRow base e 1 (.slice (some ⟨g, 0, none⟩) 0 0) 0 [] → (T d).holds (.slice (some ⟨g, 0, none⟩) 0 0) w') :
    Exec P ρ o w fun v w' => (∀ d, o.dst = some d → knV T d v w') ∧ Ext w w' := by
  refine Exec.kalloc (v := .slice (some ⟨w.heap.size, 0, none⟩) 0 0) (ob := .cells #[] e) hd ?_ (hv _ _ (World.ownsRow_made (e := e) (size := 1) w #[] 0 hbase (by unfold maxLen; omega) (by simp)))
  unfold execOp; rw [ho]
  simp only [List.map_toArray, List.map_nil, Sem.run_bind, hrun, Result.andThen_ok, Sem.run_pure]
/-- A new empty list. -/
def Kn.empty (base : Nat) (E : TypeId) : Kn := ⟨fun v w => ∃ g, v = .slice (some ⟨g, 0, none⟩) 0 0 ∧ w.ownsRow base E 1 v 0 [], fun _ _ _ k h => by obtain ⟨g, h1, h2⟩ := h; exact ⟨g, h1, h2.ext k⟩⟩
theorem Exec.kfresh {s xo : Operand} {base : Nat} {z : Value} {bytes : Nat} (ho : o.op = .call { callee := .builtin .append, args := #[s, xo], argTypes := #[t, t] }) (hd : o.dst = some d) (ht : P.underlying t = some (.slice e)) (hi : P.info? e = some inf) (hz : inf.zero = some z)
    (hsize : inf.size = 1) (hby : inf.bytes = bytes) (hzs : z.cells.size = 1) (hs : (Kn.empty base e).holds (ρ s) w)
    {n : Nat} {news : List Value} (hx : Sl w (ρ xo) n news) (hl : news.length = n) (h1 : ∀ u ∈ news, u.oneCell' = true) (hbytes : n * bytes ≤ 140737488355328) (h63 : n ≤ maxLen) (hbase : base ≤ w.heap.size)
    (hv : ∀ v w', w'.ownsRow base e 1 v n news → (T d).holds v w') :
    Exec P ρ o w fun v w' => (∀ d, o.dst = some d → knV T d v w') ∧ Ext w w' := by
  obtain ⟨g, hsv, hown⟩ := hs
  rw [hsv] at hown
  obtain ⟨v', w', r1, r2, r3⟩ := run_append_fresh (P := P) base t o.type e inf z bytes ht hi hz hsize hby hzs g hown (ρ xo) n news hx hl h1 hbytes h63 hbase
  refine Exec.value (v := v') (w' := w') ?_ ⟨fun d' hd' => by rw [hd] at hd'; cases hd'; exact hv _ _ r2, r3⟩
  unfold execOp
  rw [ho]
  simp only [resolve, invoke, builtin, Sem.run_bind, Sem.run_pure, Result.andThen_ok, List.map_toArray, List.map_cons, List.map_nil, hsv, r1]
end

/-! ### records -/
section
variable {P : Program} {ρ : Operand → Value} {o : Oper} {w : World} {T : Tmp → Kn} {d : Tmp} {t : TypeId}
theorem Exec.kfield {x : Operand} {i : Nat} {v u : Value} (ho : o.op = .fieldAddr t x i) (hd : o.dst = some d) (hx : ρ x = v) (hr : (Instr.fieldAt t v i).run P w = .ok u w) (hv : (T d).holds u w) :
    Exec P ρ o w fun v w' => (∀ d, o.dst = some d → knV T d v w') ∧ Ext w w' :=
  Exec.same hd (by unfold execOp; rw [ho]; simp only [hx, Sem.run_bind, hr, Result.andThen_ok, Sem.run_pure]) hv
theorem Exec.kidx {x y : Operand} {v k u : Value} (ho : o.op = .indexAddr t x y) (hd : o.dst = some d) (hx : ρ x = v) (hy : ρ y = k) (hr : (Instr.indexAt t v k).run P w = .ok u w) (hv : (T d).holds u w) :
    Exec P ρ o w fun v w' => (∀ d, o.dst = some d → knV T d v w') ∧ Ext w w' :=
  Exec.same hd (by unfold execOp; rw [ho]; simp only [hx, hy, Sem.run_bind, hr, Result.andThen_ok, Sem.run_pure]) hv
theorem Exec.kbuild3 {x y z : Operand} {vx vy vz u : Value} (ho : o.op = .build t #[(0, x), (1, y), (2, z)]) (hd : o.dst = some d) (hx : ρ x = vx) (hy : ρ y = vy) (hz : ρ z = vz) (hr : (Instr.build t #[(0, vx), (1, vy), (2, vz)]).run P w = .ok u w) (hv : (T d).holds u w) :
    Exec P ρ o w fun v w' => (∀ d, o.dst = some d → knV T d v w') ∧ Ext w w' :=
  Exec.same hd (by unfold execOp; rw [ho]; simp only [List.map_toArray, List.map_cons, List.map_nil, hx, hy, hz, Sem.run_bind, hr, Result.andThen_ok, Sem.run_pure]) hv
theorem Exec.kstorerow {x y : Operand} {g : Nat} {cells old : Array Value} {tt : TypeId} (ho : o.op = .store t x y) (hx : ρ x = .pointer (some ⟨g, 0, none⟩)) (hy : ρ y = .agg cells)
    (hg : w.heap[g]? = some (.cells old tt (0, 0))) (hi : (P.info? t).map (·.size) = some cells.size) (hold : old.size = cells.size) (h1 : cells.all (·.oneCell') = true) :
    Exec P ρ o w fun _ w' => w' = w.setRow g cells :=
  Exec.skip (by unfold execOp; rw [ho]; simp only [hx, hy, Instr.storeAt, Instr.sureAddr, Sem.run_bind, Sem.run_pure, Result.andThen_ok, run_storeVar_row w g tt t old cells hg hi hold h1]) rfl
theorem Exec.kloadrow {x : Operand} {g : Nat} {cs : Array Value} {tt : TypeId} {dd : TypeDesc} (ho : o.op = .load t x) (hd : o.dst = some d) (hx : ρ x = .pointer (some ⟨g, 0, none⟩)) (hg : w.heap[g]? = some (.cells cs tt (0, 0)))
    (hu : P.underlying t = some dd) (hdd : (match dd with | .struct _ | .array _ _ => true | _ => false) = true) (hi : (P.info? t).map (·.size) = some cs.size) (hv : (T d).holds (.agg cs) w) :
    Exec P ρ o w fun v w' => (∀ d, o.dst = some d → knV T d v w') ∧ Ext w w' :=
  Exec.same hd (by unfold execOp; rw [ho]; simp only [hx, Instr.loadAt, Instr.sureAddr, Sem.run_bind, Sem.run_pure, Result.andThen_ok, run_loadVar_row w g tt t cs (0, 0) dd hg hu hdd hi]) hv
end
/-- A record of two numbers and a slice that is one's own. -/
def Kn.fr (base : Nat) (E : TypeId) (x y n : Nat) (cs : List Value) : Kn :=
  ⟨fun v w => ∃ s, v = .agg #[.int .u8 (x : Nat), .int .u8 (y : Nat), s] ∧ w.ownsRow base E 1 s n cs, fun _ _ _ k h => by obtain ⟨s, h1, h2⟩ := h; exact ⟨s, h1, h2.ext k⟩⟩
/-- A row of one's own is not touched by a change of another block. -/
theorem ownsRow_setRow {w : World} {base : Nat} {e : TypeId} {size : Nat} {v : Value} {n : Nat} {xs : List Value} (h : w.ownsRow base e size v n xs) (g : Nat) (cs : Array Value) (hg : g < base) : (w.setRow g cs).ownsRow base e size v n xs := by
  refine ⟨h.1, ?_⟩
  rcases h.2 with h1 | ⟨g', cap, cur, h1, h2, h3, h4⟩
  · exact .inl h1
  · exact .inr ⟨g', cap, cur, h1, h2, by rw [setRow_other _ _ _ _ (by omega)]; exact h3, h4⟩
theorem Ch.setRow {M : Nat → Prop} {a w : World} (h : Ch M a w) {g : Nat} (hg : M g ∨ a.heap.size ≤ g) (cs : Array Value) : Ch M a (w.setRow g cs) :=
  ⟨h.os, h.tape, h.output, by have := h.size; simpa using this, fun k hk hm => by
    rw [setRow_other _ _ _ _ (by rintro rfl; rcases hg with hg | hg; exact hm hg; omega)]; exact h.block k hk hm⟩
end Go.Lac
