/-
  A library of the verifier's own, over no program, fifth part: a region whose order is drawn, with several operations that write: what is known may hang on which have been carried out, and on the frame.
-/
import Derived.Test.YtolelgbkohccbaaLib
import Derived.Test.YtolelgbkohccbaaLibC
import Derived.Test.YtolelgbkohccbaaLibD
namespace Go.Lac
open Go Go.RowKit

/-- All values so far. -/
def Vals (ops : Array Oper) (V : (Nat → Bool) → Tmp → Value → World → Prop) (L : Nat → Bool) (a : Act) (w : World) : Prop :=
  ∀ j p, ops[j]? = some p → L j = true → ∀ d, p.dst = some d → V L d (a.tmps.getD d undef) w

/-- What must be shown of operation o (number i). -/
def StepA (P : Program) (ops : Array Oper) (V : (Nat → Bool) → Tmp → Value → World → Prop) (S : (Nat → Bool) → Act → World → Prop) (a0 : Act) (i : Nat) (o : Oper) : Prop :=
  ∀ (a : Act) (w : World) (L : Nat → Bool), a.tmps.size = a0.tmps.size → S L a w → L i = false → (∀ j ∈ deps o, L j = true) → (∀ t, Fact ops (V L) a0 i o a.eval w t) → Vals ops V L a w →
    (∀ j p, ops[j]? = some p → L j = true → ∀ k ∈ deps p, L k = true) →
    let Φ : Value → World → Prop := fun v w' => (∀ d, o.dst = some d → V (fun j => j == i || L j) d v w') ∧
      (∀ j p d, ops[j]? = some p → L j = true → p.dst = some d → V (fun j => j == i || L j) d (a.tmps.getD d undef) w') ∧ S (fun j => j == i || L j) (a.put o.dst v) w'
    (wantedBy ops o a.eval = true → Exec P a.eval o w Φ) ∧ (wantedBy ops o a.eval = false → Φ undef w)

def AllA (P : Program) (ops : Array Oper) (V : (Nat → Bool) → Tmp → Value → World → Prop) (S : (Nat → Bool) → Act → World → Prop) (a0 : Act) : Nat → List Oper → Prop
  | _, [] => True
  | i, o :: l => StepA P ops V S a0 i o ∧ AllA P ops V S a0 (i + 1) l

theorem AllA.get {P : Program} {ops : Array Oper} {V : (Nat → Bool) → Tmp → Value → World → Prop} {S : (Nat → Bool) → Act → World → Prop} {a0 : Act} :
    ∀ (l : List Oper) (i : Nat), AllA P ops V S a0 i l → ∀ k o, l[k]? = some o → StepA P ops V S a0 (i + k) o
  | [], _, _, k, o, h => by simp at h
  | x :: l, i, h, 0, o, e => by simp at e; subst e; exact h.1
  | x :: l, i, h, k + 1, o, e => by
    have := AllA.get l (i + 1) h.2 k o (by simpa using e)
    rwa [show i + (k + 1) = i + 1 + k by omega]

/-- The state of things in the middle of a region. -/
structure RA (ops : Array Oper) (V : (Nat → Bool) → Tmp → Value → World → Prop) (S : (Nat → Bool) → Act → World → Prop) (a0 : Act) (L : Nat → Bool) (a : Act) (w : World) : Prop where
  rg : RG ops V (fun _ _ => True) a0 L a w
  sa : S L a w

section
variable {P : Program} {ops : Array Oper} {Q : Exit → Act → World → Prop} {V : (Nat → Bool) → Tmp → Value → World → Prop} {S : (Nat → Bool) → Act → World → Prop} {a0 : Act}

theorem RA.put {L : Nat → Bool} {a : Act} {w w' : World} (h : RA ops V S a0 L a w) (hg : goodOps ops = true) {i : Nat} {o : Oper} (ho : ops[i]? = some o) (hi : L i = false)
    (hd : ∀ j ∈ deps o, L j = true) (hdst : ∀ d, o.dst = some d → d < a0.tmps.size) {v : Value}
    (hΦ : (∀ d, o.dst = some d → V (fun j => j == i || L j) d v w') ∧ (∀ j p d, ops[j]? = some p → L j = true → p.dst = some d → V (fun j => j == i || L j) d (a.tmps.getD d undef) w') ∧ S (fun j => j == i || L j) (a.put o.dst v) w') :
    RA ops V S a0 (fun j => j == i || L j) (a.put o.dst v) w' := by
  obtain ⟨h1, h2, h3⟩ := hΦ
  refine ⟨?_, h3⟩
  have h := h.rg
  refine ⟨?_, ?_, ?_, ?_, ?_, trivial⟩
  · cases hod : o.dst <;> simp [Act.put, h.size]
  · cases hod : o.dst <;> simp [Act.put, h.defers]
  · intro j p hp hL k hk
    simp only [Bool.or_eq_true, beq_iff_eq] at hL ⊢
    rcases hL with rfl | hL
    · rw [ho] at hp; cases hp
      exact .inr (hd k hk)
    · exact .inr (h.closed j p hp hL k hk)
  · intro t ht
    have hne : o.dst ≠ some t := ht i o ho (by simp)
    have := h.keep t fun j p hp hL => ht j p hp (by simp [hL])
    rw [← this]
    cases hod : o.dst with
    | none => rfl
    | some d =>
      have : d ≠ t := fun e => hne (by rw [hod, e])
      simp [Act.put, Array.getElem?_setIfInBounds_ne this]
  · intro j p hp hL d hpd
    simp only [Bool.or_eq_true, beq_iff_eq] at hL
    by_cases hji : j = i
    · subst hji
      rw [ho] at hp; cases hp
      have hlt := hdst d hpd
      rw [hpd]
      have : (a.tmps.setIfInBounds d v).getD d undef = v := by
        have hs : d < (a.tmps.setIfInBounds d v).size := by simp; rw [h.size]; exact hlt
        simp [Array.getD, h.size, hlt]
      simp only [Act.put, this]
      exact h1 d hpd
    · have hL' : L j = true := hL.resolve_left hji
      have hval := h2 j p d hp hL' hpd
      cases hod : o.dst with
      | none => exact hval
      | some d' =>
        have hdd : d' ≠ d := fun e => goodOps_dst hg hp ho (Ne.symm hji) hpd (by rw [hod, e])
        have : ((a.put (some d') v).tmps).getD d undef = a.tmps.getD d undef := by
          simp [Act.put, Array.getD_eq_getD_getElem?, Array.getElem?_setIfInBounds_ne hdd]
        rw [this]
        exact hval

theorem wpAny_act (hg : goodOps ops = true) (hall : AllA P ops V S a0 0 ops.toList) (hdst : ∀ (i : Nat) (o : Oper), ops[i]? = some o → ∀ d, o.dst = some d → d < a0.tmps.size)
    (fin : ∀ a w, RA ops V S a0 (fun i => decide (i < ops.size)) a w → Q .normal a w) :
    ∀ (fuel : Nat) (listed : Array Bool) (a : Act) (w : World), listed.size = ops.size → leftOver listed = fuel → RA ops V S a0 (allow listed) a w →
      wpAny P .any ops Q fuel listed a w := by
  have done : ∀ (listed : Array Bool) (a : Act) (w : World), listed.size = ops.size → (∀ i, i < ops.size → listed.getD i true = true) → RA ops V S a0 (allow listed) a w → Q .normal a w := by
    intro listed a w hs hl h
    refine fin a w ?_
    have : allow listed = fun i => decide (i < ops.size) := by
      funext i
      unfold allow
      by_cases hi : i < ops.size
      · have := hl i hi
        simpa [Array.getD, hs, hi] using this
      · simp [Array.getD, hs, hi]
    rw [← this]; exact h
  have stuck : ∀ (listed : Array Bool), listed.size = ops.size → Region.ready .any ops listed = [] → ∀ i, i < ops.size → listed.getD i true = true := by
    intro listed hs hr i
    induction i using Nat.strongRecOn with
    | _ i ih =>
      intro hi
      by_cases hb : listed.getD i true = true
      · exact hb
      · have hmem : i ∈ Region.ready .any ops listed := ready_iff.2 ⟨hi, by simpa using hb, ops[i], Array.getElem?_eq_getElem hi, fun j hj => by
          have hlt := goodOps_lt hg (Array.getElem?_eq_getElem hi) j hj
          have := ih j hlt (by omega)
          simpa [Array.getD, hs, show j < ops.size by omega] using this⟩
        rw [hr] at hmem; cases hmem
  intro fuel
  induction fuel with
  | zero =>
    intro listed a w hs hl h
    have hfull : ∀ i, i < ops.size → listed.getD i true = true := fun i hi => leftOver_zero hl (by omega)
    refine ⟨?_, done listed a w hs hfull h⟩
    rw [List.eq_nil_iff_forall_not_mem]
    intro i hi
    obtain ⟨h1, h2, _⟩ := ready_iff.1 hi
    rw [hfull i h1] at h2; cases h2
  | succ fuel ih =>
    intro listed a w hs hl h
    refine ⟨fun hr => done listed a w hs (stuck listed hs hr) h, fun i hi => ?_⟩
    obtain ⟨h1, h2, o, ho, h3⟩ := ready_iff.1 hi
    have hLi : allow listed i = false := by
      have : listed.getD i true = listed[i]'(by omega) := by simp [Array.getD, hs, h1]
      rw [this] at h2
      simp [allow, Array.getD, hs, h1, h2]
    have hLd : ∀ j ∈ deps o, allow listed j = true := h3
    have hstep := AllA.get ops.toList 0 hall i o (by simpa using ho)
    rw [Nat.zero_add] at hstep
    have hs' := hstep a w (allow listed) h.rg.size h.sa hLi hLd (h.rg.fact ho hLi hLd) h.rg.val h.rg.closed
    have hset := allow_set (listed := listed) (i := i) (by omega)
    have hleft := leftOver_set (listed := listed) (i := i) (by omega) h2
    unfold wpOp
    simp only [ho]
    rw [wantedBy_eq] at hs'
    split
    · rename_i hw
      refine .inl ((hs'.1 hw).wp fun v w' hv => ?_)
      refine ih _ _ _ (by simpa using hs) (by omega) ?_
      rw [hset]
      exact h.put hg ho hLi hLd (hdst i o ho) hv
    · rename_i hw
      refine ih _ _ _ (by simpa using hs) (by omega) ?_
      rw [hset]
      exact h.put hg ho hLi hLd (hdst i o ho) (hs'.2 (by simpa using hw))

/-- THE LAW. -/
theorem wp_region_act {id : Nat} {l : List Oper} {w0 : World} (V : (Nat → Bool) → Tmp → Value → World → Prop) (S : (Nat → Bool) → Act → World → Prop)
    (hm : P.follows .mixedOrders = true) (hg : goodOps l.toArray = true) (hdst : (l.all fun o => match o.dst with | some d => decide (d < a0.tmps.size) | none => true) = true)
    (h0 : S (fun _ => false) a0 w0.drew)
    (hall : AllA P l.toArray V S a0 0 l)
    (fin : ∀ (ν : Tmp → Value) (w : World), (∀ o ∈ l, ∀ d, o.dst = some d → V (fun i => decide (i < l.length)) d (ν d) w) → S (fun i => decide (i < l.length)) ⟨ended l ν a0.tmps, a0.defers⟩ w → Q .normal ⟨ended l ν a0.tmps, a0.defers⟩ w) :
    (Code.region id l.toArray true).wp P Q a0 w0 := by
  refine wp_region_any hm ?_
  have hdst' : ∀ (i : Nat) (o : Oper), l.toArray[i]? = some o → ∀ d, o.dst = some d → d < a0.tmps.size := by
    intro i o ho d hd
    have hmem : o ∈ l := by
      have : l[i]? = some o := by simpa using ho
      exact List.mem_of_getElem? this
    have := List.all_eq_true.1 hdst o hmem
    simpa [hd] using this
  refine wpAny_act (V := V) (S := S) (a0 := a0) hg hall hdst' ?_ _ _ _ _ (by simp) (by simp [leftOver]) ?_
  · intro a w hh
    have h := hh.rg
    have hv : ∀ o ∈ l, ∀ d, o.dst = some d → V (fun i => decide (i < l.length)) d (a.tmps.getD d undef) w := by
      intro o ho d hd
      obtain ⟨i, hi⟩ := List.mem_iff_getElem?.1 ho
      exact h.val i o (by simpa using hi) (by have := (List.getElem?_eq_some_iff.1 hi).1; simpa using this) d hd
    have : (⟨ended l (fun d => a.tmps.getD d undef) a0.tmps, a0.defers⟩ : Act) = a := by
      cases a with
      | mk tmps defers =>
        have hdf : defers = a0.defers := h.defers
        have hsz : tmps.size = a0.tmps.size := h.size
        simp only [Act.mk.injEq]
        refine ⟨?_, hdf.symm⟩
        apply Array.ext
        · rw [ended_size]; exact hsz.symm
        · intro t h1 h2
          have h3 : t < a0.tmps.size := by omega
          have e1 := ended_get (fun d => tmps.getD d undef) t l a0.tmps h3
          have e2 : (ended l (fun d => tmps.getD d undef) a0.tmps)[t]? = some tmps[t] := by
            rw [e1]
            split
            · simp [Array.getD, h2]
            · rename_i hno
              have hk := h.keep t fun i o ho _ hd => hno ⟨o, by
                have : l[i]? = some o := by simpa using ho
                exact List.mem_of_getElem? this, hd⟩
              have hk' : tmps[t]? = a0.tmps[t]? := hk
              rw [← hk', Array.getElem?_eq_getElem h2]
          rw [Array.getElem?_eq_getElem h1] at e2
          exact Option.some.inj e2
    have hsa := hh.sa
    simp only [List.size_toArray] at hsa
    have hq := fin (fun d => a.tmps.getD d undef) w hv (by rw [this]; exact hsa)
    rw [this] at hq
    exact hq
  · have hno : allow (Array.replicate l.toArray.size false) = fun _ => false := by
      funext i
      unfold allow
      by_cases hi : i < l.length
      · simp [Array.getD, hi]
      · simp [Array.getD, hi]
    rw [hno]
    exact ⟨⟨rfl, rfl, by simp, by simp, by simp, trivial⟩, h0⟩
end
end Go.Lac
