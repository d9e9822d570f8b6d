/-
  A library of the verifier's own, over no program, seventh part: a region whose order is drawn, in which some operations write, one behind the other: what is known hangs on how many have been carried out.
-/
import Derived.Test.YtolelgbkohccbaaLibE
namespace Go.Lac
open Go Go.RowKit

/-- How many of the writing operations have been carried out. -/
def ph (ms : List Nat) (L : Nat → Bool) : Nat := (ms.filter L).length
def phV (ms : List Nat) (T : Nat → Tmp → Kn) (L : Nat → Bool) (d : Tmp) (v : Value) (w : World) : Prop := (T (ph ms L) d).holds v w
def phS (ms : List Nat) (F : Nat → World → Prop) (L : Nat → Bool) (w : World) : Prop := F (ph ms L) w
/-- At the least, at the most so many have been carried out when operation i comes up. -/
def phLo (ops : Array Oper) (ms : List Nat) (i : Nat) : Nat := (ms.filter fun m => m != i && (reachD ops 12 [i]).contains m).length
def phHi (ops : Array Oper) (ms : List Nat) (i : Nat) : Nat := ms.length - (ms.filter fun m => (reachD ops 12 [m]).contains i).length

/-- The slots that may have been written when operation i comes up. -/
def prevD (ops : Array Oper) (i : Nat) : List Tmp := (List.range ops.size).filterMap fun j => if j != i && !(reachD ops 12 [j]).contains i then (ops[j]?).bind (·.dst) else none
theorem filter_le {ms : List Nat} {p q : Nat → Bool} (h : ∀ m ∈ ms, p m = true → q m = true) : (ms.filter p).length ≤ (ms.filter q).length := by
  induction ms with
  | nil => exact Nat.le_refl _
  | cons m ms ih =>
    have ih := ih fun x hx => h x (List.mem_cons_of_mem _ hx)
    have hm := h m List.mem_cons_self
    rw [List.filter_cons, List.filter_cons]
    split
    · rename_i hp; rw [if_pos (hm hp)]; simp; exact ih
    · split <;> simp <;> omega
theorem filter_not (ms : List Nat) (p : Nat → Bool) : (ms.filter p).length + (ms.filter fun m => !p m).length = ms.length := by
  induction ms with
  | nil => rfl
  | cons m ms ih =>
    rw [List.filter_cons, List.filter_cons]
    cases hp : p m <;> simp <;> omega

section
variable {P : Program} {ops : Array Oper} {ms : List Nat} {T : Nat → Tmp → Kn} {F : Nat → World → Prop} {a0 : Act} {i : Nat} {o : Oper}
theorem ph_bounds {L : Nat → Bool} (ho : ops[i]? = some o) (hi : L i = false) (hd : ∀ j ∈ deps o, L j = true) (hc : ∀ (j : Nat) (p : Oper), ops[j]? = some p → L j = true → ∀ k ∈ deps p, L k = true) :
    phLo ops ms i ≤ ph ms L ∧ ph ms L ≤ phHi ops ms i := by
  have hc' : ∀ (j : Nat) (p : Oper), ops[j]? = some p → (j == i || L j) = true → ∀ k ∈ deps p, (k == i || L k) = true := by
    intro j p hp hj k hk
    simp only [Bool.or_eq_true, beq_iff_eq] at hj ⊢
    rcases hj with rfl | hj
    · rw [ho] at hp; cases hp
      exact .inr (hd k hk)
    · exact .inr (hc j p hp hj k hk)
  constructor
  · refine filter_le fun m _ h => ?_
    simp only [Bool.and_eq_true, bne_iff_ne, ne_eq] at h
    have := reachD_listed (L := fun j => j == i || L j) hc' 12 [i] (by simp) m (by simpa using h.2)
    simp only [Bool.or_eq_true, beq_iff_eq] at this
    exact this.resolve_left h.1
  · unfold phHi
    have h1 : (ms.filter fun m => (reachD ops 12 [m]).contains i).length ≤ (ms.filter fun m => !L m).length := filter_le fun m _ h => by
      cases hm : L m with
      | false => rfl
      | true =>
        have := reachD_listed (L := L) hc 12 [m] (by simpa using hm) i (by simpa using h)
        rw [hi] at this; cases this
    have h2 := filter_not ms L
    unfold ph
    omega

/-- An operation that changes nothing old. -/
theorem StepG.phPlain (lo hi : Nat) (hlo : lo ≤ phLo ops ms i) (hhi : phHi ops ms i ≤ hi) (hni : (ms.all fun m => m != i) = true) (ho : ops[i]? = some o) (hg : o.guard = none) (hF : ∀ p w w', F p w → Ext w w' → F p w')
    (h : ∀ p, lo ≤ p → p ≤ hi → ∀ ρ w, Env ρ → F p w → (∀ t, Fact ops (knV (T p)) a0 i o ρ w t) → Exec P ρ o w fun v w' => (∀ d, o.dst = some d → knV (T p) d v w') ∧ Ext w w') :
    StepG P ops (phV ms T) (phS ms F) a0 i o := by
  intro ρ w L hρ hw hLi hd hf hc
  obtain ⟨b1, b2⟩ := ph_bounds (ms := ms) ho hLi hd hc
  have hph : ph ms (fun j => j == i || L j) = ph ms L := by
    unfold ph
    congr 1
    refine List.filter_congr fun m hm => ?_
    have := List.all_eq_true.1 hni m hm
    simp only [bne_iff_ne, ne_eq] at this
    simp [this]
  refine ⟨fun _ => (h (ph ms L) (by omega) (by omega) ρ w hρ hw hf).mono ?_, fun hn => by simp [wantedBy, hg] at hn⟩
  rintro v w' ⟨h1, h2⟩
  refine ⟨fun d hd' => ?_, fun d v _ hv => ?_, ?_⟩
  · unfold phV; rw [hph]; exact h1 d hd'
  · unfold phV at *; rw [hph]; exact (T _ d).keeps _ _ _ h2 hv
  · unfold phS; rw [hph]; exact hF _ _ _ hw h2
/-- Operation number q of those that write. -/
theorem StepG.phWrite (pr : List Tmp) (hpr : prevD ops i = pr) (q : Nat) (hlo : q ≤ phLo ops ms i) (hhi : phHi ops ms i ≤ q) (hin : (ms.filter fun m => m == i).length = 1) (ho : ops[i]? = some o) (hg : o.guard = none)
    (h : ∀ ρ w, Env ρ → F q w → (∀ t, Fact ops (knV (T q)) a0 i o ρ w t) → Exec P ρ o w fun v w' => (∀ d, o.dst = some d → knV (T (q + 1)) d v w') ∧ (∀ d v, d ∈ pr → (T q d).holds v w → (T (q + 1) d).holds v w') ∧ F (q + 1) w') :
    StepG P ops (phV ms T) (phS ms F) a0 i o := by
  intro ρ w L hρ hw hLi hd hf hc
  obtain ⟨b1, b2⟩ := ph_bounds (ms := ms) ho hLi hd hc
  have hq : ph ms L = q := by omega
  have hph : ph ms (fun j => j == i || L j) = q + 1 := by
    rw [← hq]
    unfold ph
    have key : ∀ l : List Nat, (l.filter fun j => j == i || L j).length = (l.filter L).length + (l.filter fun m => m == i).length := by
      intro l
      induction l with
      | nil => rfl
      | cons m l ih =>
        rw [List.filter_cons, List.filter_cons, List.filter_cons]
        by_cases hm : m = i
        · subst hm; simp [hLi]; omega
        · have : (m == i) = false := beq_eq_false_iff_ne.2 hm
          rw [this]
          cases L m <;> simp <;> omega
    rw [key, hin]
  have hw' : F q w := by unfold phS at hw; rwa [hq] at hw
  have hf' : ∀ t, Fact ops (knV (T q)) a0 i o ρ w t := fun t => by have := hf t; unfold Fact phV at this; rw [hq] at this; exact this
  refine ⟨fun _ => (h ρ w hρ hw' hf').mono ?_, fun hn => by simp [wantedBy, hg] at hn⟩
  rintro v w' ⟨h1, h2, h3⟩
  refine ⟨fun d hd' => ?_, fun d v hex hv => ?_, ?_⟩
  · unfold phV; rw [hph]; exact h1 d hd'
  · obtain ⟨j, p, hp, hLj, hpd⟩ := hex
    have hji : j ≠ i := fun e => by rw [e, hLi] at hLj; cases hLj
    have hin' : d ∈ pr := by
      rw [← hpr]
      unfold prevD
      rw [List.mem_filterMap]
      refine ⟨j, List.mem_range.2 (Array.getElem?_eq_some_iff.1 hp).1, ?_⟩
      have hnr : (reachD ops 12 [j]).contains i = false := by
        cases hr : (reachD ops 12 [j]).contains i with
        | false => rfl
        | true =>
          have := reachD_listed (L := L) hc 12 [j] (by simpa using hLj) i (by simpa using hr)
          rw [hLi] at this; cases this
      rw [if_pos (by rw [hnr]; simp [hji])]
      simp [hp, hpd]
    unfold phV at *; rw [hph]; rw [hq] at hv; exact h2 d v hin' hv
  · unfold phS; rw [hph]; exact h3
end

section
variable {P : Program} {Q : Exit → Act → World → Prop} {a0 : Act}
/-- THE LAW. -/
theorem wp_region_ph {id : Nat} {l : List Oper} {w0 : World} (ms : List Nat) (T : Nat → Tmp → Kn) (F : Nat → World → Prop)
    (hm : P.follows .mixedOrders = true) (hg : goodOps l.toArray = true) (hdst : (l.all fun o => match o.dst with | some d => decide (d < a0.tmps.size) | none => true) = true) (hms : (ms.all fun m => decide (m < l.length)) = true)
    (h0 : F 0 w0.drew)
    (hall : AllG P l.toArray (phV ms T) (phS ms F) a0 0 l)
    (fin : ∀ (ν : Tmp → Value) (w : World), (∀ (i : Nat) (d : Tmp), (l[i]?).bind (·.dst) = some d → (T ms.length d).holds (ν d) w) → F ms.length w → Q .normal ⟨ended l ν a0.tmps, a0.defers⟩ w) :
    (Code.region id l.toArray true).wp P Q a0 w0 := by
  have hph : ph ms (fun i => decide (i < l.length)) = ms.length := by
    unfold ph
    rw [List.filter_eq_self.2 fun m hm => List.all_eq_true.1 hms m hm]
  refine wp_region_gen (phV ms T) (phS ms F) hm hg hdst ?_ hall fun ν w h hs => fin ν w (fun i d hd => ?_) ?_
  · have : ph ms (fun _ => false) = 0 := by unfold ph; rw [List.filter_eq_nil_iff.2 fun _ _ => by simp]; rfl
    unfold phS
    rw [this]; exact h0
  · cases ho : l[i]? with
    | none => simp [ho] at hd
    | some o =>
      have := h o (List.mem_of_getElem? ho) d (by simpa [ho] using hd)
      unfold phV at this
      rwa [hph] at this
  · unfold phS at hs; rwa [hph] at hs
end
end Go.Lac
