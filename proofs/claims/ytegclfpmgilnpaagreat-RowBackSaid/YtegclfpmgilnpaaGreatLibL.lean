import Derived.Test.YtegclfpmgilnpaaGreatGLib
namespace Go.Lac
open Go Go.RowKit
structure Fr where
  k : Nat
  s : Tmp
  i : Nat
  d : Tmp
section
variable {P : Program} {fs : List Fr} {T : Tmp → Kn} {ops : Array Oper} {w0 : World} {a0 : Act} {i : Nat} {o : Oper}
def frV (T : Tmp → Kn) (_ : Nat → Bool) (d : Tmp) (v : Value) (w : World) : Prop := (T d).holds v w
def frS (fs : List Fr) (w0 : World) (L : Nat → Bool) (x : Act) (w : World) : Prop :=
  Ext w0 w ∧ (∀ b ∈ fs, ∀ b' ∈ fs, b.s ≠ b'.s → L b.k = true → L b'.k = true → x.tmps.getD b.s undef ≠ x.tmps.getD b'.s undef) ∧ ∀ b ∈ fs, L b.i = true → x.tmps.getD b.d undef = x.tmps.getD b.s undef
theorem StepA.fplain (hi : (fs.all fun b => b.k != i && b.i != i && !(o.dst == some b.s) && !(o.dst == some b.d)) = true) (hg : o.guard = none)
    (h : ∀ (ρ : Operand → Value) (w : World), Env ρ → Ext w0 w → (∀ t, Fact ops (frV T (fun _ => true)) a0 i o ρ w t) → Exec P ρ o w fun v w' => (∀ d, o.dst = some d → knV T d v w') ∧ Ext w w') :
    StepA P ops (frV T) (frS fs w0) a0 i o := by
  intro x w L hsz hS hLi hdp hf hval hcl
  refine ⟨fun _ => (h x.eval w (env_eval x) hS.1 hf).mono ?_, fun hn => by simp [wantedBy, hg] at hn⟩
  rintro v w' ⟨h1, h2⟩
  have q := fun b hb => List.all_eq_true.1 hi b hb
  simp only [Bool.and_eq_true, bne_iff_ne, ne_eq, Bool.not_eq_true', beq_eq_false_iff_ne] at q
  refine ⟨fun d hd' => h1 d hd', fun j p d hj hLj hd' => (T d).keeps _ _ _ h2 (hval j p hj hLj d hd'), hS.1.trans h2, fun b hb b' hb' hne l1 l2 => ?_, fun b hb l1 => ?_⟩
  · have q1 := q b hb
    have q2 := q b' hb'
    rw [put_slot q1.1.2, put_slot q2.1.2]
    exact hS.2.1 b hb b' hb' hne (by simpa [q1.1.1.1] using l1) (by simpa [q2.1.1.1] using l2)
  · have q1 := q b hb
    rw [put_slot q1.1.2, put_slot q1.2]
    exact hS.2.2 b hb (by simpa [q1.1.1.2] using l1)
theorem StepA.fcopy (hi : (fs.all fun b => b.k != i && !(o.dst == some b.s) && ((b.i != i) || (o.dst == some b.d)) && ((b.i == i) || !(o.dst == some b.d))) = true) (hg : o.guard = none)
    (hdst : ∀ d, o.dst = some d → d < a0.tmps.size) (ho : ∀ b ∈ fs, b.i = i → o.op = .assign (.tmp b.s))
    (h : ∀ (ρ : Operand → Value) (w : World), Env ρ → Ext w0 w → (∀ t, Fact ops (frV T (fun _ => true)) a0 i o ρ w t) → ∀ b ∈ fs, b.i = i → (T b.d).holds (ρ (.tmp b.s)) w) (hex : ∃ b ∈ fs, b.i = i) :
    StepA P ops (frV T) (frS fs w0) a0 i o := by
  intro x w L hsz hS hLi hdp hf hval hcl
  have q := fun b hb => List.all_eq_true.1 hi b hb
  simp only [Bool.and_eq_true, Bool.or_eq_true, bne_iff_ne, ne_eq, Bool.not_eq_true', beq_eq_false_iff_ne, beq_iff_eq] at q
  obtain ⟨b0, hb0, hi0⟩ := hex
  have d0 : o.dst = some b0.d := ((q b0 hb0).1.2).resolve_left fun h => h hi0
  have hh := h x.eval w (env_eval x) hS.1 hf b0 hb0 hi0
  have hev : x.eval (.tmp b0.s) = x.tmps.getD b0.s undef := rfl
  refine ⟨fun _ => Exec.assign (ho b0 hb0 hi0) ?_, fun hn => by simp [wantedBy, hg] at hn⟩
  refine ⟨fun d hd' => by rw [d0] at hd'; cases hd'; exact hh, fun j p d hj hLj hd' => hval j p hj hLj d hd', hS.1, fun b hb b' hb' hne l1 l2 => ?_, fun b hb l1 => ?_⟩
  · have q1 := q b hb
    have q2 := q b' hb'
    rw [put_slot q1.1.1.2, put_slot q2.1.1.2]
    exact hS.2.1 b hb b' hb' hne (by simpa [q1.1.1.1] using l1) (by simpa [q2.1.1.1] using l2)
  · have q1 := q b hb
    rw [put_slot (t := b.s) q1.1.1.2]
    by_cases e1 : b.i = i
    · have d1 : o.dst = some b.d := q1.1.2.resolve_left fun h => h e1
      rw [d1, put_here (by rw [hsz]; exact hdst _ d1), hev]
      have e2 := ho b hb e1
      rw [ho b0 hb0 hi0] at e2
      have e3 : b.s = b0.s := by injection e2 with e2; injection e2 with e2; exact e2.symm
      rw [e3]
    · have d1 : ¬ o.dst = some b.d := q1.2.resolve_left e1
      rw [put_slot d1]
      exact hS.2.2 b hb (by simpa [e1] using l1)
theorem StepA.ffresh (hok : (fs.all fun b => ((ops[b.k]?).bind (·.dst) == some b.s) && ((ops[b.i]?).map (fun p => (deps p).contains b.k) == some true) && (b.i != i) && !(o.dst == some b.d) && ((b.k != i) || (o.dst == some b.s)) && ((b.k == i) || !(o.dst == some b.s))) = true) (hg : o.guard = none)
    (hdst : ∀ d, o.dst = some d → d < a0.tmps.size)
    (hT : ∀ b ∈ fs, ∀ v w, (T b.s).holds v w → ∃ u, v = .pointer (some ⟨u, 0, none⟩) ∧ u < w.heap.size)
    (h : ∀ (ρ : Operand → Value) (w : World), Env ρ → Ext w0 w → (∀ t, Fact ops (frV T (fun _ => true)) a0 i o ρ w t) → Exec P ρ o w fun v w' => (∀ d, o.dst = some d → knV T d v w') ∧ Ext w w' ∧ ∃ u, v = .pointer (some ⟨u, 0, none⟩) ∧ w.heap.size ≤ u) :
    StepA P ops (frV T) (frS fs w0) a0 i o := by
  intro x w L hsz hS hLi hdp hf hval hcl
  refine ⟨fun _ => (h x.eval w (env_eval x) hS.1 hf).mono ?_, fun hn => by simp [wantedBy, hg] at hn⟩
  rintro v w' ⟨h1, h2, u, rfl, hu⟩
  have q := fun b hb => List.all_eq_true.1 hok b hb
  simp only [Bool.and_eq_true, Bool.or_eq_true, bne_iff_ne, ne_eq, Bool.not_eq_true', beq_eq_false_iff_ne, beq_iff_eq] at q
  have hold : ∀ b ∈ fs, L b.k = true → ∃ u', x.tmps.getD b.s undef = .pointer (some ⟨u', 0, none⟩) ∧ u' < w.heap.size := fun b hb hL => by
    have q := (q b hb).1.1.1.1.1
    cases hp : ops[b.k]? with
    | none => simp [hp] at q
    | some p => exact hT b hb _ _ (hval b.k p hp hL b.s (by simpa [hp] using q))
  refine ⟨fun d hd' => h1 d hd', fun j p d hj hLj hd' => (T d).keeps _ _ _ h2 (hval j p hj hLj d hd'), hS.1.trans h2, fun b hb b' hb' hne l1 l2 => ?_, fun b hb l1 => ?_⟩
  · have q1 := q b hb
    have q2 := q b' hb'
    by_cases e1 : b.k = i
    · have d1 : o.dst = some b.s := q1.1.2.resolve_left fun h => h e1
      have d2 : ¬ o.dst = some b'.s := fun h => hne (Option.some.inj (d1.symm.trans h))
      have e2 : b'.k ≠ i := fun e => d2 (q2.1.2.resolve_left fun h => h e)
      rw [put_slot d2, d1, put_here (by rw [hsz]; exact hdst _ d1)]
      obtain ⟨u', h3, h4⟩ := hold b' hb' (by simpa [e2] using l2)
      rw [h3]
      intro h; cases h; omega
    · have d1 : ¬ o.dst = some b.s := q1.2.resolve_left e1
      rw [put_slot d1]
      have hL1 : L b.k = true := by simpa [e1] using l1
      by_cases e2 : b'.k = i
      · have d2 : o.dst = some b'.s := q2.1.2.resolve_left fun h => h e2
        rw [d2, put_here (by rw [hsz]; exact hdst _ d2)]
        obtain ⟨u', h3, h4⟩ := hold b hb hL1
        rw [h3]
        intro h; cases h; omega
      · have d2 : ¬ o.dst = some b'.s := q2.2.resolve_left e2
        rw [put_slot d2]
        exact hS.2.1 b hb b' hb' hne hL1 (by simpa [e2] using l2)
  · have q1 := q b hb
    have hL1 : L b.i = true := by simpa [q1.1.1.1.2] using l1
    rw [put_slot q1.1.1.2]
    have hk : b.k ≠ i := fun e => by
      have q3 := q1.1.1.1.1.2
      cases hp : ops[b.i]? with
      | none => simp [hp] at q3
      | some p =>
        have := hcl b.i p hp hL1 b.k (by simpa [hp] using q3)
        rw [e, hLi] at this; cases this
    rw [put_slot (q1.2.resolve_left hk)]
    exact hS.2.2 b hb hL1
theorem wp_region_fresh {Q : Exit → Act → World → Prop} {id : Nat} {l : List Oper} (fs : List Fr) (T : Tmp → Kn)
    (hm : P.follows .mixedOrders = true) (hg : goodOps l.toArray = true) (hdst : (l.all fun o => match o.dst with | some d => decide (d < a0.tmps.size) | none => true) = true)
    (hfs : (fs.all fun b => decide (b.k < l.length) && decide (b.i < l.length) && ((l[b.i]?).bind (·.dst) == some b.d)) = true)
    (hall : AllA P l.toArray (frV T) (frS fs w0) a0 0 l)
    (fin : ∀ (ν : Tmp → Value) (w : World), (∀ (i : Nat) (d : Tmp), (l[i]?).bind (·.dst) = some d → (T d).holds (ν d) w) → (∀ b ∈ fs, ∀ b' ∈ fs, b.s ≠ b'.s → ν b.d ≠ ν b'.d) → Ext w0 w → Q .normal ⟨ended l ν a0.tmps, a0.defers⟩ w) :
    (Code.region id l.toArray true).wp P Q a0 w0 :=
  wp_region_act (frV T) (frS fs w0) hm hg hdst (by refine ⟨Ch.drew (Ch.refl _ _), fun _ _ _ _ _ h => ?_, fun _ _ h => ?_⟩ <;> cases h) hall fun ν w h hs => fin ν w (fun i d hd => by
    cases ho : l[i]? with
    | none => simp [ho] at hd
    | some o => exact h o (List.mem_of_getElem? ho) d (by simpa [ho] using hd)) (fun b hb b' hb' hne => by
      have get : ∀ b ∈ fs, b.k < l.length ∧ b.i < l.length ∧ (ended l ν a0.tmps).getD b.d undef = ν b.d := fun b hb => by
        have q := List.all_eq_true.1 hfs b hb
        simp only [Bool.and_eq_true, decide_eq_true_eq, beq_iff_eq] at q
        refine ⟨q.1.1, q.1.2, ?_⟩
        cases ho : l[b.i]? with
        | none => simp [ho] at q
        | some o =>
          have hod : o.dst = some b.d := by simpa [ho] using q.2
          have hmem := List.mem_of_getElem? ho
          have hsz := List.all_eq_true.1 hdst o hmem
          rw [hod] at hsz
          have := ended_get ν b.d l a0.tmps (of_decide_eq_true hsz)
          rw [if_pos ⟨o, hmem, hod⟩] at this
          rw [Array.getD_eq_getD_getElem?, this]
          rfl
      obtain ⟨k1, k2, k3⟩ := get b hb
      obtain ⟨k1', k2', k3'⟩ := get b' hb'
      have e1 := hs.2.2 b hb (by simpa using k2)
      have e2 := hs.2.2 b' hb' (by simpa using k2')
      simp only at e1 e2
      rw [← k3, ← k3', e1, e2]
      exact hs.2.1 b hb b' hb' hne (by simpa using k1) (by simpa using k1')) hs.1
theorem Exec.kcallF {ρ : Operand → Value} {w : World} {d : Tmp} {f : FuncId} {fn : Func} {xs : Array Operand} {ats : Array TypeId} (vs : Array Value) (hρ : Env ρ)
    (ho : o.op = .call { callee := .value (.func f), args := xs, argTypes := ats }) (hd : o.dst = some d) (hx : xs.map ρ = vs)
    (hf : P.funcs[f]? = some fn) (hn : (fn.name == "runtime.NumGoroutine") = false) (hb : fn.body.isNone = false)
    (h : Calls P f vs w fun e w' => ∃ u, e = .returned (.pointer (some ⟨u, 0, none⟩)) ∧ (T d).holds (.pointer (some ⟨u, 0, none⟩)) w' ∧ Ext w w' ∧ w.heap.size ≤ u) :
    Exec P ρ o w fun v w' => (∀ d, o.dst = some d → knV T d v w') ∧ Ext w w' ∧ ∃ u, v = .pointer (some ⟨u, 0, none⟩) ∧ w.heap.size ≤ u :=
  Exec.call vs hρ ho hx hf hn hb (h.mono fun e w' ⟨u, h1, h2, h3, h4⟩ => ⟨_, h1, fun d' h => by rw [hd] at h; cases h; exact h2, h3, u, rfl, h4⟩)
end
end Go.Lac
