/-
  A library of the verifier's own, over no program: 'Ch' (what a call may change), 'Exec' (one operation), and a law for a region whose order is drawn: each operation is looked at once, whatever the order.
-/
import Derived.WalkKit
import Derived.Orders
import Derived.ScopeJumps
import Derived.Lib.ConvBytes
namespace Go.Lac
open Go Go.RowKit

/-! ### What may change -/

/-- All blocks that were there, but those in M, are as they were; streams too; no block has gone. -/
structure Ch (M : Nat → Prop) (w w' : World) : Prop where
  os : w'.os = w.os
  tape : w'.tape = w.tape
  output : w'.output = w.output
  size : w.heap.size ≤ w'.heap.size
  block : ∀ k, k < w.heap.size → ¬ M k → w'.heap[k]? = w.heap[k]?

/-- Nothing that was there has changed. -/
abbrev Ext (w w' : World) : Prop := Ch (fun _ => False) w w'

section
variable {M N : Nat → Prop} {w w' a b c : World}
theorem Ch.refl (M : Nat → Prop) (w : World) : Ch M w w := ⟨rfl, rfl, rfl, Nat.le_refl _, fun _ _ _ => rfl⟩
theorem Ch.trans (h : Ch M a b) (k : Ch M b c) : Ch M a c :=
  ⟨k.os.trans h.os, k.tape.trans h.tape, k.output.trans h.output, Nat.le_trans h.size k.size,
   fun i hi hm => (k.block i (Nat.lt_of_lt_of_le hi h.size) hm).trans (h.block i hi hm)⟩
theorem Ch.mono (h : Ch M w w') (hM : ∀ k, k < w.heap.size → M k → N k) : Ch N w w' :=
  ⟨h.os, h.tape, h.output, h.size, fun k hk hn => h.block k hk fun m => hn (hM k hk m)⟩
theorem Ext.ch (h : Ext w w') : Ch M w w' := Ch.mono h fun _ _ f => f.elim
/-- A step that changes blocks from the beginning's size on only. -/
theorem Ch.transNew (h : Ch M a b) (k : Ch (fun i => M i ∨ a.heap.size ≤ i) b c) : Ch M a c :=
  ⟨k.os.trans h.os, k.tape.trans h.tape, k.output.trans h.output, Nat.le_trans h.size k.size,
   fun i hi hm => (k.block i (Nat.lt_of_lt_of_le hi h.size) (fun o => o.elim hm (fun g => by omega))).trans (h.block i hi hm)⟩
theorem Ch.ofBelow {B : Nat} (h : Below B w w') : Ch (fun k => B ≤ k) w w' :=
  ⟨h.os, h.tape, h.output, h.size, fun k _ hn => h.block k (by omega)⟩
theorem Ext.ofBelow (h : Below w.heap.size w w') : Ext w w' :=
  ⟨h.os, h.tape, h.output, h.size, fun k hk _ => h.block k hk⟩
theorem Ext.below (h : Ext w w') : Below w.heap.size w w' :=
  ⟨h.os, h.tape, h.output, h.size, fun k hk => h.block k hk (fun f => f)⟩
theorem Ch.below {B : Nat} (h : Ch (fun k => B ≤ k) w w') (hB : B ≤ w.heap.size) : Below B w w' :=
  ⟨h.os, h.tape, h.output, h.size, fun k hk => h.block k (by omega) (by omega)⟩
theorem Ch.drew (h : Ch M a w) : Ch M a w.drew := ⟨h.os, h.tape, h.output, h.size, h.block⟩
theorem Ch.alloc (h : Ch M a w) (o : Obj) : Ch M a (w.alloc o) :=
  h.trans ⟨rfl, rfl, rfl, by simp, fun k hk _ => Below.heap_alloc _ _ _ hk⟩
theorem Ch.setCell (h : Ch M a w) {p : Addr} (hp : M p.block ∨ a.heap.size ≤ p.block) (u : Value) : Ch M a (w.setCell p u) :=
  ⟨h.os, h.tape, h.output, by have := h.size; simpa [World.setCell] using this, fun k hk hm =>
    (Below.heap_setCell w p u k (by rintro rfl; rcases hp with hp | hp; exact hm hp; omega)).trans (h.block k hk hm)⟩
theorem Ch.grown {row : Option Nat} (h : Ch M a w) (hg : w.grownBy w' row) (hr : ∀ k, row = some k → M k ∨ a.heap.size ≤ k) : Ch M a w' :=
  ⟨hg.os.trans h.os, hg.tape.trans h.tape, hg.output.trans h.output, Nat.le_trans h.size hg.size, fun k hk hm =>
    (hg.block k (Nat.lt_of_lt_of_le hk h.size) (fun e => by rcases hr k e.symm with r | r; exact hm r; omega)).trans (h.block k hk hm)⟩
theorem Ch.cell (h : Ch M w w') {p : Addr} (hm : ¬ M p.block) (v : Value) (hv : w.cell? p = some v) : w'.cell? p = some v := by
  have hb : p.block < w.heap.size := World.block_lt_of_cell? w p hv
  rw [World.cell?_of_block (h.block p.block hb hm)]
  exact hv
end

/-! ### One operation -/

/-- What an operation's run leads to, if it goes well. -/
def Outs (P : Program) (Φ : Value → World → Prop) : Result Next → Prop
  | .ok (.value v) w => Φ v w
  | .ok .skip w => Φ undef w
  | .ok (.enter f args) w => Calls P f args w fun e w' => ∃ v, e = .returned v ∧ Φ v w'
  | _ => False

def Exec (P : Program) (ρ : Operand → Value) (o : Oper) (w : World) (Φ : Value → World → Prop) : Prop :=
  Outs P Φ ((execOp ρ o).run P w)

section
variable {P : Program} {ρ : Operand → Value} {o : Oper} {w : World} {Φ Ψ : Value → World → Prop}

theorem Outs.mono (h : ∀ v w, Φ v w → Ψ v w) {r : Result Next} (hr : Outs P Φ r) : Outs P Ψ r := by
  unfold Outs at *
  split at hr
  · exact h _ _ hr
  · exact h _ _ hr
  · exact Calls.mono hr fun e w' ⟨v, he, hv⟩ => ⟨v, he, h _ _ hv⟩
  · exact hr.elim

theorem Exec.mono (hr : Exec P ρ o w Φ) (h : ∀ v w, Φ v w → Ψ v w) : Exec P ρ o w Ψ := Outs.mono h hr

theorem Exec.wp {a : Act} {K : Act → World → Prop} {Q : Exit → Act → World → Prop} (h : Exec P a.eval o w Φ)
    (hK : ∀ v w', Φ v w' → K (a.put o.dst v) w') : o.wp P a w K Q := by
  unfold Exec Outs at h
  unfold Oper.wp
  split at h
  · rename_i v w' hr; rw [hr]; exact hK _ _ h
  · rename_i w' hr; rw [hr]; exact hK _ _ h
  · rename_i f args w' hr
    rw [hr, Oper.upon_enter]
    exact Calls.mono h fun e w'' ⟨v, he, hv⟩ => by subst he; exact hK _ _ hv
  · exact h.elim

theorem Exec.value {v : Value} {w' : World} (hr : (execOp ρ o).run P w = .ok (.value v) w') (h : Φ v w') : Exec P ρ o w Φ := by
  unfold Exec; rw [hr]; exact h
theorem Exec.skip {w' : World} (hr : (execOp ρ o).run P w = .ok .skip w') (h : Φ undef w') : Exec P ρ o w Φ := by
  unfold Exec; rw [hr]; exact h
theorem Exec.enter {f : FuncId} {args : Array Value} {w' : World} (hr : (execOp ρ o).run P w = .ok (.enter f args) w')
    (h : Calls P f args w' fun e w'' => ∃ v, e = .returned v ∧ Φ v w'') : Exec P ρ o w Φ := by
  unfold Exec; rw [hr]; exact h
theorem Exec.move {x : Operand} (ho : o.op = .move x) (h : Φ (ρ x) w) : Exec P ρ o w Φ :=
  .value (by unfold execOp; rw [ho]; rfl) h
theorem Exec.assign {x : Operand} (ho : o.op = .assign x) (h : Φ (ρ x) w) : Exec P ρ o w Φ :=
  .value (by unfold execOp; rw [ho]; rfl) h
end

/-! ### A region whose order is drawn -/

/-- The operations that bind o, and are among 'ops'. -/
def deps (o : Oper) : List Nat := o.after.toList.filterMap fun e => if Region.binds .any e then some e.on else none

/-- Does an operation that o waits for write slot t? -/
def fedBy (ops : Array Oper) (o : Oper) (t : Tmp) : Bool := (deps o).any fun j => (ops[j]?).bind (·.dst) == some t

/-- No operation writes slot t but such as wait for operation i, and i itself. -/
def untouched (ops : Array Oper) (i : Nat) (t : Tmp) : Bool :=
  (List.range ops.size).all fun j => j == i || (ops[j]?).bind (·.dst) != some t || ((ops[j]?).map fun o => (deps o).contains i).getD false

/-- All that is asked of the operations' text: each waits for earlier ones only, each writes a slot of its own. -/
def goodOps (ops : Array Oper) : Bool :=
  (List.range ops.size).all fun i => ((ops[i]?).map fun o => (deps o).all (· < i) &&
    (List.range ops.size).all fun j => j == i || o.dst.isNone || (ops[j]?).bind (·.dst) != o.dst).getD false

/-- What is known of slot t when operation o (number i) comes up. -/
def Fact (ops : Array Oper) (V : Tmp → Value → World → Prop) (a0 : Act) (i : Nat) (o : Oper) (ρ : Operand → Value) (w : World) (t : Tmp) : Prop :=
  (fedBy ops o t = true → V t (ρ (.tmp t)) w) ∧ (fedBy ops o t = false → untouched ops i t = true → ρ (.tmp t) = a0.eval (.tmp t))

def wantedBy (ops : Array Oper) (o : Oper) (ρ : Operand → Value) : Bool :=
  match o.guard with
  | none => true
  | some (j, want) => match (ops[j]?).bind (·.dst) with
    | some d => match ρ (.tmp d) with | .bool b => b == want | _ => false
    | none => false

structure Env (ρ : Operand → Value) : Prop where
  const : ∀ v, ρ (.const v) = v
  func : ∀ f, ρ (.func f) = .func (.func f) #[] #[]
  global : ∀ g, ρ (.global g) = .pointer (some ⟨g, 0, none⟩)

/-- What must be shown of operation o (number i). -/
def StepOK (P : Program) (ops : Array Oper) (V : Tmp → Value → World → Prop) (S : (Nat → Bool) → World → Prop) (a0 : Act) (i : Nat) (o : Oper) : Prop :=
  ∀ (ρ : Operand → Value) (w : World) (L : Nat → Bool), Env ρ → S L w → L i = false → (∀ j ∈ deps o, L j = true) → (∀ t, Fact ops V a0 i o ρ w t) →
    (∀ j p, ops[j]? = some p → L j = true → ∀ k ∈ deps p, L k = true) →
    let Φ : Value → World → Prop := fun v w' => (∀ d, o.dst = some d → V d v w') ∧ (∀ d v, V d v w → V d v w') ∧ S (fun j => j == i || L j) w'
    (wantedBy ops o ρ = true → Exec P ρ o w Φ) ∧ (wantedBy ops o ρ = false → Φ undef w)

def AllOK (P : Program) (ops : Array Oper) (V : Tmp → Value → World → Prop) (S : (Nat → Bool) → World → Prop) (a0 : Act) : Nat → List Oper → Prop
  | _, [] => True
  | i, o :: l => StepOK P ops V S a0 i o ∧ AllOK P ops V S a0 (i + 1) l

theorem AllOK.get {P : Program} {ops : Array Oper} {V : Tmp → Value → World → Prop} {S : (Nat → Bool) → World → Prop} {a0 : Act} :
    ∀ (l : List Oper) (i : Nat), AllOK P ops V S a0 i l → ∀ k o, l[k]? = some o → StepOK P ops V S a0 (i + k) o
  | [], _, _, k, o, h => by simp at h
  | x :: l, i, h, 0, o, e => by simp at e; subst e; exact h.1
  | x :: l, i, h, k + 1, o, e => by
    have := AllOK.get l (i + 1) h.2 k o (by simpa using e)
    rwa [show i + (k + 1) = i + 1 + k by omega]

/-- The state of things in the middle of a region. -/
structure RI (ops : Array Oper) (V : Tmp → Value → World → Prop) (S : (Nat → Bool) → World → Prop) (a0 : Act) (L : Nat → Bool) (a : Act) (w : World) : Prop where
  size : a.tmps.size = a0.tmps.size
  defers : a.defers = a0.defers
  closed : ∀ i o, ops[i]? = some o → L i = true → ∀ j ∈ deps o, L j = true
  keep : ∀ t, (∀ i o, ops[i]? = some o → L i = true → o.dst ≠ some t) → a.tmps[t]? = a0.tmps[t]?
  val : ∀ i o, ops[i]? = some o → L i = true → ∀ d, o.dst = some d → V d (a.tmps.getD d undef) w
  st : S L w

theorem goodOps_lt {ops : Array Oper} (h : goodOps ops = true) {i : Nat} {o : Oper} (ho : ops[i]? = some o) : ∀ j ∈ deps o, j < i := by
  intro j hj
  have hi : i < ops.size := (Array.getElem?_eq_some_iff.1 ho).1
  have h1 := List.all_eq_true.1 h i (List.mem_range.2 hi)
  simp only [ho, Option.map_some, Option.getD_some, Bool.and_eq_true] at h1
  have := List.all_eq_true.1 h1.1 j hj
  simpa using this

theorem goodOps_dst {ops : Array Oper} (h : goodOps ops = true) {i j : Nat} {o p : Oper} (ho : ops[i]? = some o) (hp : ops[j]? = some p) (hne : j ≠ i) {d : Tmp} (hd : o.dst = some d) : p.dst ≠ some d := by
  have hi : i < ops.size := (Array.getElem?_eq_some_iff.1 ho).1
  have hj : j < ops.size := (Array.getElem?_eq_some_iff.1 hp).1
  have h1 := List.all_eq_true.1 h i (List.mem_range.2 hi)
  simp only [ho, Option.map_some, Option.getD_some, Bool.and_eq_true] at h1
  have h2 := List.all_eq_true.1 h1.2 j (List.mem_range.2 hj)
  simp [hp, hd, hne] at h2
  exact h2

theorem wantedBy_eq (ops : Array Oper) (o : Oper) (a : Act) : wantedBy ops o a.eval = Region.wanted o (yielded ops a.tmps) := by
  unfold wantedBy Region.wanted
  cases hg : o.guard with
  | none => rfl
  | some jw =>
    obtain ⟨j, want⟩ := jw
    dsimp only
    unfold yielded
    cases hd : (ops[j]?).bind (·.dst) with
    | none => simp
    | some d =>
      simp only [Option.bind_some, Act.eval]
      by_cases hs : d < a.tmps.size
      · have e1 : a.tmps.getD d undef = a.tmps[d] := by simp [Array.getD, hs]
        rw [e1, Array.getElem?_eq_getElem hs]
        cases a.tmps[d] <;> simp
      · have e1 : a.tmps.getD d undef = undef := by simp [Array.getD, hs]
        rw [e1, Array.getElem?_eq_none (Nat.le_of_not_lt hs)]
        simp [undef]

theorem ready_iff {ops : Array Oper} {listed : Array Bool} {i : Nat} : i ∈ Region.ready .any ops listed ↔
    i < ops.size ∧ listed.getD i true = false ∧ ∃ o, ops[i]? = some o ∧ ∀ j ∈ deps o, listed.getD j false = true := by
  unfold Region.ready
  simp only [List.mem_filter, List.mem_range, Bool.and_eq_true, Bool.not_eq_true']
  refine and_congr_right fun hi => and_congr_right fun _ => ?_
  rw [Array.getElem?_eq_getElem hi]
  simp only [Option.map_some, Option.getD_some, Option.some.injEq, exists_eq_left', Array.all_eq_true', Bool.or_eq_true, Bool.not_eq_true', deps,
    List.mem_filterMap, Array.mem_toList_iff]
  constructor
  · rintro h j ⟨e, he, hj⟩
    split at hj
    · rename_i hb
      rcases h e he with h' | h'
      · rw [h'] at hb; cases hb
      · cases hj; exact h'
    · cases hj
  · intro h e he
    by_cases hb : Region.binds .any e = true
    · exact .inr (h e.on ⟨e, he, by simp [hb]⟩)
    · exact .inl (by simpa using hb)

def allow (listed : Array Bool) : Nat → Bool := fun i => listed.getD i false

theorem allow_set {listed : Array Bool} {i : Nat} (hi : i < listed.size) : allow (listed.setIfInBounds i true) = fun j => j == i || allow listed j := by
  funext j
  unfold allow
  by_cases hj : j = i
  · subst hj; simp [Array.getD, hi]
  · have hj' : i ≠ j := fun e => hj e.symm
    simp [Array.getD_eq_getD_getElem?, Array.getElem?_setIfInBounds_ne hj', hj]

def leftOver (listed : Array Bool) : Nat := listed.toList.count false

theorem leftOver_set {listed : Array Bool} {i : Nat} (hi : i < listed.size) (hf : listed.getD i true = false) :
    leftOver (listed.setIfInBounds i true) + 1 = leftOver listed := by
  unfold leftOver
  have hg : listed.toList[i]'(by simpa using hi) = false := by
    simpa [Array.getD, hi] using hf
  rw [Array.toList_setIfInBounds]
  have := List.count_set (a := true) (b := false) (l := listed.toList) (i := i) (by simpa using hi)
  have hpos : 0 < listed.toList.count false := List.count_pos_iff.2 (by rw [← hg]; exact List.getElem_mem _)
  have e1 : (listed.toList[i]'(by simpa using hi) == false) = true := by rw [hg]; rfl
  rw [this, if_pos e1, if_neg (by decide)]
  omega

theorem leftOver_zero {listed : Array Bool} (h : leftOver listed = 0) {i : Nat} (hi : i < listed.size) : listed.getD i true = true := by
  unfold leftOver at h
  by_cases hb : listed.getD i true = true
  · exact hb
  · have hf : listed[i] = false := by simpa [Array.getD, hi] using hb
    have : 0 < listed.toList.count false := List.count_pos_iff.2 (by rw [← hf]; exact Array.getElem_mem_toList hi)
    omega

section
variable {P : Program} {ops : Array Oper} {Q : Exit → Act → World → Prop} {V : Tmp → Value → World → Prop} {S : (Nat → Bool) → World → Prop} {a0 : Act}

theorem RI.fact {L : Nat → Bool} {a : Act} {w : World} (h : RI ops V S a0 L a w) {i : Nat} {o : Oper} (ho : ops[i]? = some o) (hi : L i = false)
    (hd : ∀ j ∈ deps o, L j = true) (t : Tmp) : Fact ops V a0 i o a.eval w t := by
  constructor
  · intro hf
    obtain ⟨j, hj, hjt⟩ := List.any_eq_true.1 hf
    cases hoj : ops[j]? with
    | none => simp [hoj] at hjt
    | some p =>
      simp only [hoj, Option.bind_some, beq_iff_eq] at hjt
      exact h.val j p hoj (hd j hj) t hjt
  · intro hf hu
    have hk : a.tmps[t]? = a0.tmps[t]? := h.keep t fun j p hp hL hdst => by
      have hjs : j < ops.size := (Array.getElem?_eq_some_iff.1 hp).1
      have h1 := List.all_eq_true.1 hu j (List.mem_range.2 hjs)
      simp only [hp, Option.bind_some, Option.map_some, Option.getD_some, Bool.or_eq_true, beq_iff_eq, bne_iff_ne, ne_eq, hdst, not_true_eq_false, or_false] at h1
      rcases h1 with h1 | h1
      · subst h1; rw [hi] at hL; cases hL
      · have := h.closed j p hp hL i (by simpa using h1)
        rw [hi] at this; cases this
    simp only [Act.eval, Array.getD_eq_getD_getElem?, hk]

theorem RI.put {L : Nat → Bool} {a : Act} {w w' : World} (h : RI ops V S a0 L a w) (hg : goodOps ops = true) {i : Nat} {o : Oper} (ho : ops[i]? = some o) (hi : L i = false)
    (hd : ∀ j ∈ deps o, L j = true) (hdst : ∀ d, o.dst = some d → d < a0.tmps.size) {v : Value}
    (hΦ : (∀ d, o.dst = some d → V d v w') ∧ (∀ d v, V d v w → V d v w') ∧ S (fun j => j == i || L j) w') :
    RI ops V S a0 (fun j => j == i || L j) (a.put o.dst v) w' := by
  obtain ⟨h1, h2, h3⟩ := hΦ
  refine ⟨?_, ?_, ?_, ?_, ?_, h3⟩
  · cases hod : o.dst <;> simp [Act.put, h.size]
  · cases hod : o.dst <;> simp [Act.put, h.defers]
  · intro j p hp hL k hk
    simp only [Bool.or_eq_true, beq_iff_eq] at hL ⊢
    rcases hL with rfl | hL
    · rw [ho] at hp; cases hp
      exact .inr (hd k hk)
    · exact .inr (h.closed j p hp hL k hk)
  · intro t ht
    have hne : o.dst ≠ some t := ht i o ho (by simp)
    have := h.keep t fun j p hp hL => ht j p hp (by simp [hL])
    rw [← this]
    cases hod : o.dst with
    | none => rfl
    | some d =>
      have : d ≠ t := fun e => hne (by rw [hod, e])
      simp [Act.put, Array.getElem?_setIfInBounds_ne this]
  · intro j p hp hL d hpd
    simp only [Bool.or_eq_true, beq_iff_eq] at hL
    by_cases hji : j = i
    · subst hji
      rw [ho] at hp; cases hp
      have hlt := hdst d hpd
      rw [hpd]
      have : (a.tmps.setIfInBounds d v).getD d undef = v := by
        have hs : d < (a.tmps.setIfInBounds d v).size := by simp; rw [h.size]; exact hlt
        simp [Array.getD, h.size, hlt]
      simp only [Act.put, this]
      exact h1 d hpd
    · have hL' : L j = true := hL.resolve_left hji
      have hval := h.val j p hp hL' d hpd
      cases hod : o.dst with
      | none => exact h2 _ _ hval
      | some d' =>
        have hdd : d' ≠ d := fun e => goodOps_dst hg hp ho (Ne.symm hji) hpd (by rw [hod, e])
        have : ((a.put (some d') v).tmps).getD d undef = a.tmps.getD d undef := by
          simp [Act.put, Array.getD_eq_getD_getElem?, Array.getElem?_setIfInBounds_ne hdd]
        rw [this]
        exact h2 _ _ hval

theorem env_eval (a : Act) : Env a.eval := ⟨fun _ => rfl, fun _ => rfl, fun _ => rfl⟩

theorem wpAny_inv (hg : goodOps ops = true) (hall : AllOK P ops V S a0 0 ops.toList) (hdst : ∀ (i : Nat) (o : Oper), ops[i]? = some o → ∀ d, o.dst = some d → d < a0.tmps.size)
    (fin : ∀ a w, RI ops V S a0 (fun i => decide (i < ops.size)) a w → Q .normal a w) :
    ∀ (fuel : Nat) (listed : Array Bool) (a : Act) (w : World), listed.size = ops.size → leftOver listed = fuel → RI ops V S a0 (allow listed) a w →
      wpAny P .any ops Q fuel listed a w := by
  have done : ∀ (listed : Array Bool) (a : Act) (w : World), listed.size = ops.size → (∀ i, i < ops.size → listed.getD i true = true) → RI ops V S a0 (allow listed) a w → Q .normal a w := by
    intro listed a w hs hl h
    refine fin a w ?_
    have : allow listed = fun i => decide (i < ops.size) := by
      funext i
      unfold allow
      by_cases hi : i < ops.size
      · have := hl i hi
        simpa [Array.getD, hs, hi] using this
      · simp [Array.getD, hs, hi]
    rw [← this]; exact h
  have stuck : ∀ (listed : Array Bool), listed.size = ops.size → Region.ready .any ops listed = [] → ∀ i, i < ops.size → listed.getD i true = true := by
    intro listed hs hr i
    induction i using Nat.strongRecOn with
    | _ i ih =>
      intro hi
      by_cases hb : listed.getD i true = true
      · exact hb
      · have hmem : i ∈ Region.ready .any ops listed := ready_iff.2 ⟨hi, by simpa using hb, ops[i], Array.getElem?_eq_getElem hi, fun j hj => by
          have hlt := goodOps_lt hg (Array.getElem?_eq_getElem hi) j hj
          have := ih j hlt (by omega)
          simpa [Array.getD, hs, show j < ops.size by omega] using this⟩
        rw [hr] at hmem; cases hmem
  intro fuel
  induction fuel with
  | zero =>
    intro listed a w hs hl h
    have hfull : ∀ i, i < ops.size → listed.getD i true = true := fun i hi => leftOver_zero hl (by omega)
    refine ⟨?_, done listed a w hs hfull h⟩
    rw [List.eq_nil_iff_forall_not_mem]
    intro i hi
    obtain ⟨h1, h2, _⟩ := ready_iff.1 hi
    rw [hfull i h1] at h2; cases h2
  | succ fuel ih =>
    intro listed a w hs hl h
    refine ⟨fun hr => done listed a w hs (stuck listed hs hr) h, fun i hi => ?_⟩
    obtain ⟨h1, h2, o, ho, h3⟩ := ready_iff.1 hi
    have hLi : allow listed i = false := by
      have : listed.getD i true = listed[i]'(by omega) := by simp [Array.getD, hs, h1]
      rw [this] at h2
      simp [allow, Array.getD, hs, h1, h2]
    have hLd : ∀ j ∈ deps o, allow listed j = true := h3
    have hstep := AllOK.get ops.toList 0 hall i o (by simpa using ho)
    rw [Nat.zero_add] at hstep
    have hs' := hstep a.eval w (allow listed) (env_eval a) h.st hLi hLd (h.fact ho hLi hLd) h.closed
    have hset := allow_set (listed := listed) (i := i) (by omega)
    have hleft := leftOver_set (listed := listed) (i := i) (by omega) h2
    unfold wpOp
    simp only [ho]
    rw [wantedBy_eq] at hs'
    split
    · rename_i hw
      refine .inl ((hs'.1 hw).wp fun v w' hv => ?_)
      refine ih _ _ _ (by simpa using hs) (by omega) ?_
      rw [hset]
      exact h.put hg ho hLi hLd (hdst i o ho) hv
    · rename_i hw
      refine ih _ _ _ (by simpa using hs) (by omega) ?_
      rw [hset]
      exact h.put hg ho hLi hLd (hdst i o ho) (hs'.2 (by simpa using hw))

/-- The frame at the end: the slots that were written hold what 'ν' says, all others what they held. -/
def ended (ops : List Oper) (ν : Tmp → Value) (tmps : Array Value) : Array Value :=
  ops.foldl (fun t o => match o.dst with | some d => t.setIfInBounds d (ν d) | none => t) tmps

theorem ended_get (ν : Tmp → Value) (t : Tmp) : ∀ (l : List Oper) (tmps : Array Value), t < tmps.size →
    (ended l ν tmps)[t]? = if (∃ o ∈ l, o.dst = some t) then some (ν t) else tmps[t]?
  | [], tmps, ht => by simp [ended]
  | o :: l, tmps, ht => by
    have ih := ended_get ν t l (match o.dst with | some d => tmps.setIfInBounds d (ν d) | none => tmps) (by cases o.dst <;> simpa using ht)
    unfold ended at ih ⊢
    rw [List.foldl_cons, ih]
    by_cases h1 : ∃ p ∈ l, p.dst = some t
    · rw [if_pos h1, if_pos (by obtain ⟨p, hp, e⟩ := h1; exact ⟨p, List.mem_cons_of_mem _ hp, e⟩)]
    · rw [if_neg h1]
      by_cases h2 : o.dst = some t
      · rw [if_pos ⟨o, List.mem_cons_self, h2⟩, h2]
        simp [ht]
      · rw [if_neg (by rintro ⟨p, hp, e⟩; rcases List.mem_cons.1 hp with rfl | hp; exact h2 e; exact h1 ⟨p, hp, e⟩)]
        cases hd : o.dst with
        | none => rfl
        | some d =>
          have : d ≠ t := fun e => h2 (by rw [hd, e])
          simp [Array.getElem?_setIfInBounds_ne this]

theorem ended_size (ν : Tmp → Value) : ∀ (l : List Oper) (tmps : Array Value), (ended l ν tmps).size = tmps.size
  | [], _ => rfl
  | o :: l, tmps => by
    have := ended_size ν l (match o.dst with | some d => tmps.setIfInBounds d (ν d) | none => tmps)
    unfold ended at this ⊢
    rw [List.foldl_cons, this]
    cases o.dst <;> simp

/-- THE LAW. 'V d v w': what slot d, once written, holds. 'S L w': what holds of the world when the operations in L have been carried out. -/
theorem wp_region_inv {id : Nat} {l : List Oper} {w0 : World} (V : Tmp → Value → World → Prop) (S : (Nat → Bool) → World → Prop)
    (hm : P.follows .mixedOrders = true) (hg : goodOps l.toArray = true) (hdst : (l.all fun o => match o.dst with | some d => decide (d < a0.tmps.size) | none => true) = true)
    (h0 : S (fun _ => false) w0.drew)
    (hall : AllOK P l.toArray V S a0 0 l)
    (fin : ∀ (ν : Tmp → Value) (w : World), (∀ o ∈ l, ∀ d, o.dst = some d → V d (ν d) w) → S (fun i => decide (i < l.length)) w → Q .normal ⟨ended l ν a0.tmps, a0.defers⟩ w) :
    (Code.region id l.toArray true).wp P Q a0 w0 := by
  refine wp_region_any hm ?_
  have hdst' : ∀ (i : Nat) (o : Oper), l.toArray[i]? = some o → ∀ d, o.dst = some d → d < a0.tmps.size := by
    intro i o ho d hd
    have hmem : o ∈ l := by
      have : l[i]? = some o := by simpa using ho
      exact List.mem_of_getElem? this
    have := List.all_eq_true.1 hdst o hmem
    simpa [hd] using this
  refine wpAny_inv (V := V) (S := S) (a0 := a0) hg hall hdst' ?_ _ _ _ _ (by simp) (by simp [leftOver]) ?_
  · intro a w h
    have hv : ∀ o ∈ l, ∀ d, o.dst = some d → V d (a.tmps.getD d undef) w := by
      intro o ho d hd
      obtain ⟨i, hi⟩ := List.mem_iff_getElem?.1 ho
      exact h.val i o (by simpa using hi) (by have := (List.getElem?_eq_some_iff.1 hi).1; simpa using this) d hd
    have hq := fin (fun d => a.tmps.getD d undef) w hv (by simpa using h.st)
    have : (⟨ended l (fun d => a.tmps.getD d undef) a0.tmps, a0.defers⟩ : Act) = a := by
      cases a with
      | mk tmps defers =>
        have hdf : defers = a0.defers := h.defers
        have hsz : tmps.size = a0.tmps.size := h.size
        simp only [Act.mk.injEq]
        refine ⟨?_, hdf.symm⟩
        apply Array.ext
        · rw [ended_size]; exact hsz.symm
        · intro t h1 h2
          have h3 : t < a0.tmps.size := by omega
          have e1 := ended_get (fun d => tmps.getD d undef) t l a0.tmps h3
          have e2 : (ended l (fun d => tmps.getD d undef) a0.tmps)[t]? = some tmps[t] := by
            rw [e1]
            split
            · simp [Array.getD, h2]
            · rename_i hno
              have hk := h.keep t fun i o ho _ hd => hno ⟨o, by
                have : l[i]? = some o := by simpa using ho
                exact List.mem_of_getElem? this, hd⟩
              have hk' : tmps[t]? = a0.tmps[t]? := hk
              rw [← hk', Array.getElem?_eq_getElem h2]
          rw [Array.getElem?_eq_getElem h1] at e2
          exact Option.some.inj e2
    rw [this] at hq
    exact hq
  · have hno : allow (Array.replicate l.toArray.size false) = fun _ => false := by
      funext i
      unfold allow
      by_cases hi : i < l.length
      · simp [Array.getD, hi]
      · simp [Array.getD, hi]
    rw [hno]
    exact ⟨rfl, rfl, by simp, by simp, by simp, h0⟩

end

end Go.Lac

namespace Go.Lac
open Go Go.RowKit

/-! ### Slices that are read -/

/-- The cell of a byte. -/
def cellB (b : UInt8) : Value := .int .u8 (b.toNat : Int)
def cellsB (l : List UInt8) : List Value := l.map cellB

theorem cellB_ofNat {n : Nat} (h : n < 256) : cellB (UInt8.ofNat n) = .int .u8 (n : Int) := by
  simp [cellB, Nat.mod_eq_of_lt h]
@[simp] theorem cellsB_length (l : List UInt8) : (cellsB l).length = l.length := by simp [cellsB]
theorem cellsB_append (a b : List UInt8) : cellsB (a ++ b) = cellsB a ++ cellsB b := by simp [cellsB]
theorem cellsB_one (l : List UInt8) : ∀ u ∈ cellsB l, u.oneCell' = true := by
  intro u hu
  obtain ⟨_, _, rfl⟩ := List.mem_map.1 hu
  rfl

/-- v is a slice of n elements, whose cells are cs. -/
def Sl (w : World) (v : Value) (n : Nat) (cs : List Value) : Prop :=
  ∃ ao cap, v = .slice ao n cap ∧ n ≤ cap ∧ cap ≤ maxLen ∧ (ao = none → cap = 0) ∧
    ∀ x, ao = some x → ∀ j u, cs[j]? = some u → ∃ b off, x = ⟨b, off, none⟩ ∧ w.cell? ⟨b, off + j, none⟩ = some u

/-- The bytes of a slice. -/
def Rd (w : World) (v : Value) (bs : List UInt8) : Prop := Sl w v bs.length (cellsB bs)

theorem Sl.ext {w w' : World} {v : Value} {n : Nat} {cs : List Value} (h : Sl w v n cs) (k : Ext w w') : Sl w' v n cs := by
  obtain ⟨ao, cap, h1, h2, h3, h4, h5⟩ := h
  refine ⟨ao, cap, h1, h2, h3, h4, fun x hx j u hu => ?_⟩
  obtain ⟨b, off, rfl, h6⟩ := h5 x hx j u hu
  exact ⟨b, off, rfl, k.cell (fun f => f) u h6⟩

theorem Rd.ext {w w' : World} {v : Value} {bs : List UInt8} (h : Rd w v bs) (k : Ext w w') : Rd w' v bs := Sl.ext h k

theorem Sl.ofOwns {w : World} {base : Nat} {e : TypeId} {size : Nat} {v : Value} {n : Nat} {cs : List Value} (h : w.ownsRow base e size v n cs) : Sl w v n cs := by
  have h' := h
  rcases h.2 with ⟨rfl, rfl⟩ | ⟨g, cap, cur, rfl, hb, hg, h1, h2, h3, h4⟩
  · exact ⟨none, 0, rfl, Nat.le_refl _, Nat.zero_le _, fun _ => rfl, fun x hx => by cases hx⟩
  · refine ⟨_, cap, rfl, h1, h2, (fun h => by cases h), fun x hx j u hu => ?_⟩
    cases hx
    refine ⟨g, 0, rfl, ?_⟩
    have := h'.cells (g := g) rfl j u hu
    rwa [Addr.add_lit] at this

theorem Rd.ofOwns {w : World} {base : Nat} {v : Value} {n : Nat} {e : TypeId} {bs : List UInt8} (h : w.ownsRow base e 1 v n (cellsB bs)) : Rd w v bs := by
  have hl := h.1
  simp only [cellsB_length, Nat.mul_one] at hl
  subst hl
  exact Sl.ofOwns h

/-- The cells of a block that was just made. -/
theorem new_cells (w : World) (vs : List Value) (e : TypeId) : ∀ j u, vs[j]? = some u → (w.alloc (.cells vs.toArray e)).cell? ((⟨w.heap.size, 0, none⟩ : Addr).add j) = some u := by
  intro j u hu
  rw [Addr.add_lit, World.cell?_alloc_new w _ _ (0 + j), Nat.zero_add]
  simpa using hu
theorem one_oneCell {v : Value} (h : v.oneCell' = true) : ∀ u ∈ [v], u.oneCell' = true := by
  intro u hu
  simp only [List.mem_singleton] at hu
  subst hu
  exact h

theorem or128_nat : ∀ x : Nat, x < 256 → x ||| 128 = x % 128 + 128 := by decide +kernel
theorem or128 (u : Nat) : bits .or .u8 ((u : Int) % 256) 128 = (u : Int) % 128 + 128 := by
  have h := u8_or_nat (u % 256) 128 (by omega) (by omega)
  rw [or128_nat _ (by omega)] at h
  have e : ((u % 256 : Nat) : Int) = (u : Int) % 256 := by omega
  rw [e] at h
  rw [show (128 : Int) = ((128 : Nat) : Int) from rfl, h]
  omega

theorem wrap_u64_of {n : Int} (h0 : 0 ≤ n) (h1 : n < 18446744073709551616) : IntKind.u64.wrap n = n := by
  rw [IntKind.wrap_u64]; omega

/-- The value of a text. -/
def strV (bs : List UInt8) : Value := .string ⟨bs.toArray⟩

theorem strV_inj {a b : List UInt8} : strV a = strV b ↔ a = b := by
  constructor
  · intro h
    simp only [strV, Value.string.injEq, ByteArray.mk.injEq] at h
    simpa using congrArg Array.toList h
  · rintro rfl; rfl

/-- 'string(v)', v a slice of bytes. -/
theorem run_toString {P : Program} {w : World} {v : Value} {bs : List UInt8} (h : Rd w v bs) {src dst e : TypeId} (hs : P.underlying src = some (.slice e)) (he : P.underlying e = some (.int .u8)) (hd : P.underlying dst = some .string) :
    (convert src dst v).run P w = .ok (strV bs) w := by
  obtain ⟨ao, cap, rfl, h1, h2, h3, h4⟩ := h
  cases ao with
  | none =>
    have hc := h3 rfl
    have hb : bs = [] := List.eq_nil_of_length_eq_zero (by omega)
    subst hb
    exact run_convert_bytes_nil w src e hs he _ _ dst hd
  | some x =>
    by_cases h0 : bs = []
    · subst h0
      rw [run_convert_bytes_string w src dst e _ _ cap hs he hd]
      exact run_bytesToString w x 0 cap [] (by
        have := run_loadCells_list (P := P) w x [] (fun j v hj => by simp at hj)
        simpa using this)
    have hl0 : 0 < bs.length := by
      rcases Nat.eq_zero_or_pos bs.length with h | h
      · exact absurd (List.eq_nil_of_length_eq_zero h) h0
      · exact h
    obtain ⟨b, off, rfl, _⟩ := h4 x rfl 0 (cellB bs[0]) (by simp [cellsB, hl0])
    have h5 : ∀ j u, (cellsB bs)[j]? = some u → w.cell? ⟨b, off + j, none⟩ = some u := fun j u hu => by
      obtain ⟨b', off', e, h⟩ := h4 _ rfl j u hu
      cases e
      exact h
    have := run_convert_bytes_arg (P := P) w src e hs he b off bs.length cap (bs.map fun c => (c.toNat : Int)) (by simp) (fun i hi => by
      rw [h5 i (cellB bs[i]) (by simp [cellsB, hi])]
      simp [cellB, hi]) dst hd
    rw [this]
    have e : bs.map ((fun n : Int => UInt8.ofNat n.toNat) ∘ fun c : UInt8 => (c.toNat : Int)) = bs := by
      conv => rhs; rw [← List.map_id bs]
      exact List.map_congr_left fun c _ => by simp
    congr 1
    simp only [strOfNums, strV, List.map_map, e]

/-! ### append -/
section
variable {P : Program} (w : World)
/-- 'append(s, x...)': s a row of one's own (or nil), x any slice. -/
theorem run_append_sl (base : Nat) (t ty e : TypeId) (i : TypeInfo) (z : Value) (size bytes : Nat) (ht : P.underlying t = some (.slice e)) (hi : P.info? e = some i) (hz : i.zero = some z)
    (hsize : i.size = size) (hby : i.bytes = bytes) (hzs : z.cells.size = size) (hsz : 0 < size)
    (v : Value) (n : Nat) (xs : List Value) (hown : w.ownsRow base e size v n xs)
    (x : Value) (m : Nat) (news : List Value) (hx : Sl w x m news) (hl : news.length = m * size) (h1 : ∀ u ∈ news, u.oneCell' = true)
    (hbytes : (n + m) * bytes ≤ 140737488355328) (h63 : n + m ≤ maxLen) (hbase : base ≤ w.heap.size) :
    ∃ v' w', (Builtin.append_ #[t, t] ty #[v, x]).run P w = .ok v' w' ∧ w'.ownsRow base e size v' (n + m) (xs ++ news) ∧ w.grownBy w' v.ownBlock := by
  obtain ⟨ao, cap, rfl, g1, g2, g3, g4⟩ := hx
  cases ao with
  | none =>
    have hc := g3 rfl
    obtain rfl : m = 0 := by omega
    have hn : news = [] := List.eq_nil_of_length_eq_zero (by simpa using hl)
    subst hn
    subst hc
    exact ⟨v, w, run_append_owned_none w base t ty e i size ht hi v n xs hown, by simpa using hown, World.grownBy.refl _ _⟩
  | some a =>
    obtain ⟨v', w', r1, r2, r3, _⟩ := run_append_own w base t ty e i z size bytes ht hi hz hsize hby hzs hsz v n xs hown a m cap news hl
      (fun j u hu => by obtain ⟨b, off, rfl, g5⟩ := g4 a rfl j u hu; rw [Addr.add_lit]; exact g5) h1 h63 hbytes hbase
    exact ⟨v', w', r1, r2, r3⟩

theorem wpList_append_sl {ops : Array Oper} {rest : List Oper} {o : Oper} {a : Act} {Q : Exit → Act → World → Prop} (hgd : o.guard = none) (s xo : Operand) (t : TypeId)
    (ho : o.op = .call { callee := .builtin .append, args := #[s, xo], argTypes := #[t, t] })
    (base : Nat) (e : TypeId) (i : TypeInfo) (z : Value) (size bytes : Nat) (ht : P.underlying t = some (.slice e)) (hi : P.info? e = some i) (hz : i.zero = some z)
    (hsize : i.size = size) (hby : i.bytes = bytes) (hzs : z.cells.size = size) (hsz : 0 < size)
    (v : Value) (n : Nat) (xs : List Value) (hs : a.eval s = v) (hown : w.ownsRow base e size v n xs)
    (x : Value) (m : Nat) (news : List Value) (hxo : a.eval xo = x) (hx : Sl w x m news) (hl : news.length = m * size) (h1 : ∀ u ∈ news, u.oneCell' = true)
    (hbytes : (n + m) * bytes ≤ 140737488355328) (h63 : n + m ≤ maxLen) (hbase : base ≤ w.heap.size)
    (h : ∀ v' w', w'.ownsRow base e size v' (n + m) (xs ++ news) → w.grownBy w' v.ownBlock → wpList P ops Q rest (a.put o.dst v') w') : wpList P ops Q (o :: rest) a w := by
  obtain ⟨v', w', r1, r2, r3⟩ := run_append_sl (P := P) w base t o.type e i z size bytes ht hi hz hsize hby hzs hsz v n xs hown x m news hx hl h1 hbytes h63 hbase
  refine wpList_plain hgd fun K hK => ?_
  unfold Oper.wp execOp
  simp only [ho, resolve, invoke, builtin, Sem.run_bind, Sem.run_pure, Result.andThen_ok, List.map_toArray, List.map_cons, List.map_nil, hs, hxo, r1]
  exact hK _ _ (h v' w' r2 r3)
end

/-- A new slice of just these bytes is handed back; nothing that was there has changed. (E: the type of a byte.) -/
def Made (E : TypeId) (bs : List UInt8) (w : World) (e : Ending) (w' : World) : Prop :=
  ∃ s, e = .returned s ∧ Ext w w' ∧ w'.ownsRow w.heap.size E 1 s bs.length (cellsB bs)

theorem owns_shape {w : World} {base : Nat} {e : TypeId} {size : Nat} {v : Value} {n : Nat} {xs : List Value} (h : w.ownsRow base e size v n xs) : ∃ ao cap, v = .slice ao n cap := by
  rcases h.2 with ⟨rfl, rfl⟩ | ⟨g, cap, cur, rfl, _⟩
  · exact ⟨_, _, rfl⟩
  · exact ⟨_, _, rfl⟩

theorem Rd.shape {w : World} {v : Value} {bs : List UInt8} (h : Rd w v bs) : ∃ ao cap, v = .slice ao bs.length cap := by
  obtain ⟨ao, cap, rfl, _⟩ := h
  exact ⟨_, _, rfl⟩

theorem Made.after {E : TypeId} {bs : List UInt8} {w0 w : World} {e : Ending} {w' : World} (h : Made E bs w e w') (k : Ext w0 w) : Made E bs w0 e w' := by
  obtain ⟨s, h1, h2, h3⟩ := h
  refine ⟨s, h1, k.trans h2, h3.1, ?_⟩
  rcases h3.2 with g | ⟨g, cap, cur, g1, g2, g3⟩
  · exact .inl g
  · exact .inr ⟨g, cap, cur, g1, Nat.le_trans k.size g2, g3⟩


/-- '[]byte(s)': a new slice of the text's bytes. -/
theorem run_toBytes {P : Program} (w : World) (bs : List UInt8) (src dst e : TypeId) (hs : P.underlying src = some .string) (hd : P.underlying dst = some (.slice e)) (he : P.underlying e = some (.int .u8)) (hl : bs.length ≤ maxLen) :
    ∃ cap w', (convert src dst (.string ⟨bs.toArray⟩)).run P w = .ok (.slice (some ⟨w.heap.size, 0, none⟩) bs.length cap) w' ∧ Ext w w' ∧ Rd w' (.slice (some ⟨w.heap.size, 0, none⟩) bs.length cap) bs := by
  have hr := Lib.run_convert_string_bytes (P := P) w src dst e ⟨bs.toArray⟩ hs hd he
  have hsz : (⟨bs.toArray⟩ : ByteArray).size = bs.length := by simp [ByteArray.size]
  rw [hsz] at hr
  refine ⟨_, _, hr, ⟨?_, ?_, ?_, ?_, fun k hk _ => Lib.bytesWorld_at_old w e _ k hk⟩, _, _, rfl, grownCap_ge _ _ _ _, grownCap_le_maxLen _ _ _ _ hl, (fun h => by cases h), fun x hx => ?_⟩
  · unfold Lib.bytesWorld World.freeze; split <;> rfl
  · unfold Lib.bytesWorld World.freeze; split <;> rfl
  · unfold Lib.bytesWorld World.freeze; split <;> rfl
  · rw [Lib.bytesWorld_size]; omega
  · cases hx
    intro j u hu
    refine ⟨w.heap.size, 0, rfl, ?_⟩
    have hj : j < bs.length := by have := (List.getElem?_eq_some_iff.1 hu).1; simpa using this
    rw [Nat.zero_add, Lib.bytesWorld_cell w e _ j (by rw [hsz]; exact hj)]
    have : (cellsB bs)[j]? = some (cellB bs[j]) := by simp [cellsB, hj]
    rw [this] at hu
    cases hu
    simp [cellB, hj]

theorem _root_.Go.World.ownsRow.ext {w w' : World} {base : Nat} {e : TypeId} {size : Nat} {v : Value} {n : Nat} {xs : List Value} (h : w.ownsRow base e size v n xs) (k : Ext w w') : w'.ownsRow base e size v n xs := by
  refine ⟨h.1, ?_⟩
  rcases h.2 with g | ⟨g, cap, cur, g1, g2, g3, g4⟩
  · exact .inl g
  · exact .inr ⟨g, cap, cur, g1, g2, by rw [k.block g (Array.getElem?_eq_some_iff.1 g3).1 (fun f => f)]; exact g3, g4⟩

theorem ret_int {k : IntKind} {a b : Int} (h : a = b) : Ending.returned (.int k a) = .returned (.int k b) := by rw [h]

/-! ### A label that is jumped back to -/
section
variable {P : Program} {a : Act} {w : World} {Q : Exit → Act → World → Prop}
theorem wp_scope_label {c rest : Code} (l : Nat) (J : Act → World → Prop) (μ : Act → World → Nat) (hf : findLabel c l = some (.seq .skip rest))
    (pass : ∀ a w, J a w → rest.wp P (Exit.jump l (fun a' w' => J a' w' ∧ μ a' w' < μ a w) Q) a w)
    (first : (∀ a w, J a w → rest.wp P (Exit.jump l J Q) a w) → c.wp P (Exit.jump l J Q) a w) : (Code.scope c).wp P Q a w :=
  wp_scope_jumps l J μ hf (first fun a w h => wp_mono (pass a w h) fun e a w q => by
    cases e with
    | goto k => exact ⟨q.1, q.2.1⟩
    | _ => exact q) fun a w h => wp_seq (wp_skip (pass a w h))
end

/-- What no cell of bytes is. -/
def NoByte (u : Value) : Prop := ∀ b, u ≠ cellB b

theorem noByte_i64 (n : Int) : NoByte (.int .i64 n) := fun b h => by simp [cellB] at h
theorem noByte_slice (a : Option Addr) (l c : Nat) : NoByte (.slice a l c) := fun b h => by simp [cellB] at h
theorem noByte_string (s : ByteArray) : NoByte (.string s) := fun b h => by simp [cellB] at h
theorem noByte_u64 (n : Int) : NoByte (.int .u64 n) := fun b h => by simp [cellB] at h

/-- A store where no byte stands leaves bytes alone. -/
theorem Rd.setCell {w : World} {v : Value} {bs : List UInt8} (h : Rd w v bs) {p : Addr} {u0 : Value} (hp : w.cell? p = some u0) (hn : NoByte u0) (u : Value) : Rd (w.setCell p u) v bs := by
  obtain ⟨ao, cap, h1, h2, h3, h4, h5⟩ := h
  refine ⟨ao, cap, h1, h2, h3, h4, fun x hx j c hc => ?_⟩
  obtain ⟨b, off, rfl, h7⟩ := h5 x hx j c hc
  refine ⟨b, off, rfl, ?_⟩
  rw [World.cell?_setCell_other]
  · exact h7
  · rintro rfl
    rw [hp] at h7
    cases h7
    obtain ⟨b', _, hb'⟩ := List.mem_map.1 (List.mem_of_getElem? hc)
    exact hn b' hb'.symm

/-- Part of a slice, cut off in front. -/
theorem Rd.drop {w : World} {b off cap : Nat} {bs : List UInt8} (h : Rd w (.slice (some ⟨b, off, none⟩) bs.length cap) bs) (n : Nat) (hn : n ≤ bs.length) (ao : Option Addr)
    (ha : ao = some ⟨b, off + n, none⟩ ∨ (n = bs.length ∧ ∃ x, ao = some ⟨b, x, none⟩)) : Rd w (.slice ao (bs.length - n) (cap - n)) (bs.drop n) := by
  obtain ⟨ao', cap', e, h2, h3, h4, h5⟩ := h
  simp only [Value.slice.injEq, true_and] at e
  obtain ⟨rfl, rfl⟩ := e
  refine ⟨ao, cap - n, by simp, by simp; omega, by omega, ?_, ?_⟩
  · rintro rfl
    rcases ha with ha | ⟨_, x, ha⟩ <;> cases ha
  · intro x hx j u hu
    have hu' : (cellsB bs)[n + j]? = some u := by simpa [cellsB, List.getElem?_drop] using hu
    obtain ⟨b', off', e', h6⟩ := h5 _ rfl (n + j) u hu'
    cases e'
    rcases ha with ha | ⟨rfl, x', ha⟩
    · rw [hx] at ha
      cases ha
      exact ⟨b, off + n, rfl, by rw [Nat.add_assoc]; exact h6⟩
    · simp [cellsB] at hu

/-- .. cut off behind. -/
theorem Rd.take {w : World} {ao : Option Addr} {cap : Nat} {bs : List UInt8} (h : Rd w (.slice ao bs.length cap) bs) (n : Nat) (hn : n ≤ bs.length) : Rd w (.slice ao n cap) (bs.take n) := by
  obtain ⟨ao', cap', e, h2, h3, h4, h5⟩ := h
  simp only [Value.slice.injEq, true_and] at e
  obtain ⟨rfl, rfl⟩ := e
  refine ⟨ao, cap, by simp [hn], by simp; omega, h3, h4, fun x hx j u hu => h5 x hx j u ?_⟩
  have hj : j < n := by
    have := (List.getElem?_eq_some_iff.1 hu).1
    simp at this; omega
  simpa [cellsB, List.getElem?_take, hj] using hu

/-! ### A region whose order is drawn: nothing that was there is changed, or only what R lets -/
section
variable {P : Program} {ops : Array Oper} {V : Tmp → Value → World → Prop} {R : World → World → Prop} {w0 : World} {a0 : Act} {i : Nat} {o : Oper}

/-- What is asked of R and V. -/
structure Stable (V : Tmp → Value → World → Prop) (R : World → World → Prop) : Prop where
  trans : ∀ a b c, R a b → R b c → R a c
  keeps : ∀ d v w w', R w w' → V d v w → V d v w'

theorem StepOK.plain (hS : Stable V R) (hg : o.guard = none)
    (h : ∀ ρ w, Env ρ → R w0 w → (∀ t, Fact ops V a0 i o ρ w t) → Exec P ρ o w fun v w' => (∀ d, o.dst = some d → V d v w') ∧ R w w') :
    StepOK P ops V (fun _ w => R w0 w) a0 i o := by
  intro ρ w L hρ hw _ _ hf _
  refine ⟨fun _ => (h ρ w hρ hw hf).mono fun v w' ⟨h1, h2⟩ => ⟨h1, fun d v => hS.keeps d v w w' h2, hS.trans _ _ _ hw h2⟩, fun hn => ?_⟩
  simp [wantedBy, hg] at hn

theorem StepOK.guarded (hS : Stable V R) (j : Nat) (want : Bool) (d : Tmp) (hg : o.guard = some (j, want)) (hd : (ops[j]?).bind (·.dst) = some d)
    (hv : ∀ ρ w, Env ρ → R w0 w → (∀ t, Fact ops V a0 i o ρ w t) → ρ (.tmp d) = .bool want)
    (h : ∀ ρ w, Env ρ → R w0 w → (∀ t, Fact ops V a0 i o ρ w t) → Exec P ρ o w fun v w' => (∀ d, o.dst = some d → V d v w') ∧ R w w') :
    StepOK P ops V (fun _ w => R w0 w) a0 i o := by
  intro ρ w L hρ hw _ _ hf _
  refine ⟨fun _ => (h ρ w hρ hw hf).mono fun v w' ⟨h1, h2⟩ => ⟨h1, fun d v => hS.keeps d v w w' h2, hS.trans _ _ _ hw h2⟩, fun hn => ?_⟩
  simp [wantedBy, hg, hd, hv ρ w hρ hw hf] at hn

/-- An operation that is passed over. -/
theorem StepOK.skipped (hS : Stable V R) (hR : ∀ w, R w w) (j : Nat) (want : Bool) (d : Tmp) (hg : o.guard = some (j, want)) (hd : (ops[j]?).bind (·.dst) = some d)
    (hv : ∀ ρ w, Env ρ → R w0 w → (∀ t, Fact ops V a0 i o ρ w t) → ρ (.tmp d) = .bool (!want) ∨ ρ (.tmp d) = undef)
    (hu : ∀ w d, o.dst = some d → V d undef w) :
    StepOK P ops V (fun _ w => R w0 w) a0 i o := by
  intro ρ w L hρ hw _ _ hf _
  refine ⟨fun hn => ?_, fun _ => ⟨fun d hd => hu w d hd, fun d v h => h, hw⟩⟩
  rcases hv ρ w hρ hw hf with h | h
  · simp [wantedBy, hg, hd, h] at hn
  · simp [wantedBy, hg, hd, h, undef] at hn

theorem Ext.stable (h : ∀ d v w w', Ext w w' → V d v w → V d v w') : Stable V Ext := ⟨fun _ _ _ => Ch.trans, h⟩
end


/-- What is known of a slot. -/
structure Kn where
  holds : Value → World → Prop
  keeps : ∀ v w w', Ext w w' → holds v w → holds v w'

def Kn.is (x : Value) : Kn := ⟨fun v _ => v = x, fun _ _ _ _ h => h⟩
def Kn.rd (bs : List UInt8) : Kn := ⟨fun v w => Rd w v bs, fun _ _ _ k h => h.ext k⟩
def Kn.sl (n : Nat) (cs : List Value) : Kn := ⟨fun v w => Sl w v n cs, fun _ _ _ k h => h.ext k⟩
def Kn.any : Kn := ⟨fun _ _ => True, fun _ _ _ _ _ => trivial⟩

abbrev knV (T : Tmp → Kn) : Tmp → Value → World → Prop := fun d v w => (T d).holds v w
theorem kn_stable (T : Tmp → Kn) : Stable (knV T) Ext := ⟨fun _ _ _ => Ch.trans, fun d v w w' k h => (T d).keeps v w w' k h⟩

section
variable {P : Program} {ρ : Operand → Value} {o : Oper} {w : World} {T : Tmp → Kn} {d : Tmp}

theorem Exec.call {Φ : Value → World → Prop} {f : FuncId} {fn : Func} {xs : Array Operand} {ats : Array TypeId} (vs : Array Value) (hρ : Env ρ)
    (ho : o.op = .call { callee := .value (.func f), args := xs, argTypes := ats }) (hx : xs.map ρ = vs)
    (hf : P.funcs[f]? = some fn) (hn : (fn.name == "runtime.NumGoroutine") = false) (hb : fn.body.isNone = false)
    (h : Calls P f vs w fun e w' => ∃ v, e = .returned v ∧ Φ v w') : Exec P ρ o w Φ := by
  refine Exec.enter (f := f) (args := vs) (w' := w) ?_ h
  unfold execOp
  rw [ho]
  simp only [resolve, hx, hρ.func, Deferred.ofValue, Sem.run_bind, Sem.run_pure, Result.andThen_ok, invoke, Array.empty_append, Array.append_empty]
  have hn' : ¬ fn.name = "runtime.NumGoroutine" := by simpa using hn
  have hb' : ¬ fn.body = none := by intro e; rw [e] at hb; cases hb
  simp [callFunc, hf, hn', hb']

/-- The usual end of an operation that leaves the world alone. -/
theorem Exec.same {v : Value} (hd : o.dst = some d) (hr : (execOp ρ o).run P w = .ok (.value v) w) (hv : (T d).holds v w) :
    Exec P ρ o w fun v w' => (∀ d, o.dst = some d → knV T d v w') ∧ Ext w w' :=
  Exec.value hr ⟨fun d' h => by rw [hd] at h; cases h; exact hv, Ch.refl _ _⟩

theorem Exec.kmove {x : Operand} (ho : o.op = .move x) (hd : o.dst = some d) (hv : (T d).holds (ρ x) w) :
    Exec P ρ o w fun v w' => (∀ d, o.dst = some d → knV T d v w') ∧ Ext w w' :=
  Exec.same hd (by unfold execOp; rw [ho]; rfl) hv
theorem Exec.kassign {x : Operand} (ho : o.op = .assign x) (hd : o.dst = some d) (hv : (T d).holds (ρ x) w) :
    Exec P ρ o w fun v w' => (∀ d, o.dst = some d → knV T d v w') ∧ Ext w w' :=
  Exec.same hd (by unfold execOp; rw [ho]; rfl) hv
/-- 'a && b' where a is true. -/
theorem Exec.kpickT {c x y : Operand} (ho : o.op = .pick c x y) (hd : o.dst = some d) (hc : ρ c = .bool true) (hv : (T d).holds (ρ x) w) :
    Exec P ρ o w fun v w' => (∀ d, o.dst = some d → knV T d v w') ∧ Ext w w' :=
  Exec.same hd (by unfold execOp; rw [ho]; simp [asBool, hc]) hv
theorem Exec.kpickF {c x y : Operand} (ho : o.op = .pick c x y) (hd : o.dst = some d) (hc : ρ c = .bool false) (hv : (T d).holds (ρ y) w) :
    Exec P ρ o w fun v w' => (∀ d, o.dst = some d → knV T d v w') ∧ Ext w w' :=
  Exec.same hd (by unfold execOp; rw [ho]; simp [asBool, hc]) hv
/-- 'string(x)'. -/
theorem Exec.kstr {src dst e : TypeId} {x : Operand} {bs : List UInt8} (ho : o.op = .convert src dst x) (hd : o.dst = some d) (hs : P.underlying src = some (.slice e)) (he : P.underlying e = some (.int .u8)) (hdst : P.underlying dst = some .string)
    (hx : Rd w (ρ x) bs) (hv : (T d).holds (strV bs) w) :
    Exec P ρ o w fun v w' => (∀ d, o.dst = some d → knV T d v w') ∧ Ext w w' :=
  Exec.same (v := strV bs) hd (by unfold execOp; rw [ho]; simp only [Sem.run_bind, run_toString hx hs he hdst, Result.andThen_ok, Sem.run_pure]) hv
/-- A call that changes nothing that was there. -/
theorem Exec.kcall {f : FuncId} {fn : Func} {xs : Array Operand} {ats : Array TypeId} (vs : Array Value) (hρ : Env ρ)
    (ho : o.op = .call { callee := .value (.func f), args := xs, argTypes := ats }) (hd : o.dst = some d) (hx : xs.map ρ = vs)
    (hf : P.funcs[f]? = some fn) (hn : (fn.name == "runtime.NumGoroutine") = false) (hb : fn.body.isNone = false)
    (h : Calls P f vs w fun e w' => ∃ v, e = .returned v ∧ (T d).holds v w' ∧ Ext w w') :
    Exec P ρ o w fun v w' => (∀ d, o.dst = some d → knV T d v w') ∧ Ext w w' :=
  Exec.call vs hρ ho hx hf hn hb (h.mono fun e w' ⟨v, h1, h2, h3⟩ => ⟨v, h1, fun d' h => by rw [hd] at h; cases h; exact h2, h3⟩)
end

section
variable {P : Program} {Q : Exit → Act → World → Prop} {a0 : Act}
/-- THE LAW for a region that changes nothing that was there. -/
theorem wp_region_ext {id : Nat} {l : List Oper} {w0 : World} (T : Tmp → Kn)
    (hm : P.follows .mixedOrders = true) (hg : goodOps l.toArray = true) (hdst : (l.all fun o => match o.dst with | some d => decide (d < a0.tmps.size) | none => true) = true)
    (hall : AllOK P l.toArray (knV T) (fun _ w => Ext w0 w) a0 0 l)
    (fin : ∀ (ν : Tmp → Value) (w : World), (∀ (i : Nat) (d : Tmp), (l[i]?).bind (·.dst) = some d → (T d).holds (ν d) w) → Ext w0 w → Q .normal ⟨ended l ν a0.tmps, a0.defers⟩ w) :
    (Code.region id l.toArray true).wp P Q a0 w0 :=
  wp_region_inv (knV T) (fun _ w => Ext w0 w) hm hg hdst (Ch.drew (Ch.refl _ _)) hall fun ν w h => fin ν w fun i d hd => by
    cases ho : l[i]? with
    | none => simp [ho] at hd
    | some o => exact h o (List.mem_of_getElem? ho) d (by simpa [ho] using hd)
end

theorem rd_new (w : World) (bs : List UInt8) (E : TypeId) (h : bs.length ≤ maxLen) : Rd (w.alloc (.cells (cellsB bs).toArray E)) (.slice (some ⟨w.heap.size, 0, none⟩) bs.length bs.length) bs :=
  ⟨_, bs.length, rfl, Nat.le_refl _, h, (fun h => by cases h), fun x hx => by
    cases hx
    intro j u hu
    refine ⟨w.heap.size, 0, rfl, ?_⟩
    have := new_cells w (cellsB bs) E j u hu
    rwa [Addr.add_lit] at this⟩

theorem Ch.transOnly {a b c : World} {r : Nat} (h : Ext a b) (k : Ch (fun i => i = r) b c) (hr : a.heap.size ≤ r) : Ext a c :=
  h.transNew (k.mono fun i _ hi => .inr (by omega))

theorem run_streq {P : Program} (w : World) {t : TypeId} (h : P.underlying t = some .string) (a b : List UInt8) :
    (binOp .eql t (strV a) (strV b)).run P w = .ok (.bool (decide (a = b))) w := by
  have e : (a == b) = decide (a = b) := by rw [Bool.eq_iff_iff]; simp
  simp only [strV, binOp, Op.stringOp, ByteArray.toList_mk, e]
  rfl
theorem Exec.kstreq {P : Program} {ρ : Operand → Value} {o : Oper} {w : World} {T : Tmp → Kn} {d : Tmp} {t ty : TypeId} {x y : Operand} {a b : List UInt8} (ho : o.op = .binOp .eql t x y ty) (hd : o.dst = some d)
    (h : P.underlying t = some .string) (hx : ρ x = strV a) (hy : ρ y = strV b) (hv : (T d).holds (.bool (decide (a = b))) w) :
    Exec P ρ o w fun v w' => (∀ d, o.dst = some d → knV T d v w') ∧ Ext w w' :=
  Exec.same (v := .bool (decide (a = b))) hd (by
    unfold execOp; rw [ho]
    have hg : (eqGuard .eql t x y (strV a) (strV b)).run P w = .ok () w := by simp [eqGuard, strV]
    simp only [hx, hy, Sem.run_bind, hg, Result.andThen_ok, run_streq w h, Sem.run_pure]) hv

theorem run_stradd {P : Program} (w : World) (t : TypeId) (a b : List UInt8) (h : a.length + b.length ≤ 9223372036854775807) :
    (binOp .add t (strV a) (strV b)).run P w = .ok (strV (a ++ b)) w := by
  have e := run_string_add_sum (P := P) w ⟨a.toArray⟩ ⟨b.toArray⟩ (by simpa [ByteArray.size] using h)
  simp only [strV, binOp]
  rw [e, ByteArray.mk_append_mk]
theorem Exec.kstradd {P : Program} {ρ : Operand → Value} {o : Oper} {w : World} {T : Tmp → Kn} {d : Tmp} {t ty : TypeId} {x y : Operand} {a b : List UInt8} (ho : o.op = .binOp .add t x y ty) (hd : o.dst = some d)
    (hx : ρ x = strV a) (hy : ρ y = strV b) (h : a.length + b.length ≤ 9223372036854775807) (hv : (T d).holds (strV (a ++ b)) w) :
    Exec P ρ o w fun v w' => (∀ d, o.dst = some d → knV T d v w') ∧ Ext w w' :=
  Exec.same (v := strV (a ++ b)) hd (by
    unfold execOp; rw [ho]
    have hg : (eqGuard .add t x y (strV a) (strV b)).run P w = .ok () w := by simp [eqGuard]
    simp only [hx, hy, Sem.run_bind, hg, Result.andThen_ok, run_stradd w t a b h, Sem.run_pure]) hv

theorem wf_u8_bd {n : Int} (h : (Lit.int .u8 n).wf = true) : 0 ≤ n ∧ n ≤ 255 := by
  have h' : (decide (IntKind.u8.min ≤ n) && decide (n ≤ IntKind.u8.max)) = true := h
  rw [Bool.and_eq_true, decide_eq_true_eq, decide_eq_true_eq] at h'
  exact h'
theorem wf_u64_bd {n : Int} (h : (Lit.int .u64 n).wf = true) : 0 ≤ n ∧ n ≤ 18446744073709551615 := by
  have h' : (decide (IntKind.u64.min ≤ n) && decide (n ≤ IntKind.u64.max)) = true := h
  rw [Bool.and_eq_true, decide_eq_true_eq, decide_eq_true_eq] at h'
  exact h'
theorem wf_i64_bd {n : Int} (h : (Lit.int .i64 n).wf = true) : -9223372036854775808 ≤ n ∧ n ≤ 9223372036854775807 := by
  have h' : (decide (IntKind.i64.min ≤ n) && decide (n ≤ IntKind.i64.max)) = true := h
  rw [Bool.and_eq_true, decide_eq_true_eq, decide_eq_true_eq] at h'
  exact h'

/-- The bytes of a slice that came in. -/
theorem rd_of_row {w : World} {a : Option Addr} {len cap : Nat} {zs : List Int}
    (h : (a = none ∧ len = 0 ∧ cap = 0 ∧ zs = []) ∨ ∃ x, a = some x ∧ len ≤ cap ∧ cap ≤ maxLen ∧ zs.length = cap ∧ (∀ i, i < zs.length → w.cell? (x.add i) = some (.int .u8 (zs.getD i 0))) ∧ ∀ n ∈ zs, (Lit.int .u8 n).wf = true) :
    ∃ bs : List UInt8, bs.length = len ∧ Rd w (.slice a len cap) bs := by
  rcases h with ⟨rfl, rfl, rfl, rfl⟩ | ⟨x, rfl, h1, h2, h3, h4, h5⟩
  · exact ⟨[], rfl, none, 0, rfl, Nat.le_refl _, Nat.zero_le _, fun _ => rfl, fun x hx => by cases hx⟩
  · have hlen : ((zs.take len).map fun n => UInt8.ofNat n.toNat).length = len := by simp; omega
    refine ⟨(zs.take len).map fun n => UInt8.ofNat n.toNat, hlen, some x, cap, by rw [hlen], by omega, h2, (fun h => by cases h), fun y hy j u hu => ?_⟩
    cases hy
    have hj : j < len := by have := (List.getElem?_eq_some_iff.1 hu).1; simp at this; omega
    have hc := h4 j (by omega)
    have hz : zs[j]'(by omega) ∈ zs := List.getElem_mem _
    have hw := wf_u8_bd (h5 _ hz)
    have hg : zs.getD j 0 = zs[j]'(by omega) := by rw [List.getD_eq_getElem?_getD, List.getElem?_eq_getElem (by omega)]; rfl
    rw [hg] at hc
    have hsp := World.cell?_spot hc
    obtain ⟨b, off, sp⟩ := x
    have hsp' : sp = none := by
      unfold Addr.add at hsp
      split at hsp
      · exact hsp
      · rename_i hj0
        by_cases hcap : 0 < cap
        · have := World.cell?_spot (h4 0 (by omega))
          simpa [Addr.add] using this
        · omega
    subst hsp'
    refine ⟨b, off, rfl, ?_⟩
    rw [Addr.add_lit] at hc
    rw [hc]
    have e : (cellsB ((zs.take len).map fun n => UInt8.ofNat n.toNat))[j]? = some (cellB (UInt8.ofNat (zs[j]'(by omega)).toNat)) := by
      simp [cellsB, List.getElem?_take, hj, show j < zs.length by omega]
    rw [e] at hu
    cases hu
    rw [cellB_ofNat (by omega)]
    congr 2
    omega

theorem toList_beq (a b : List UInt8) : ((⟨a.toArray⟩ : ByteArray).toList == (⟨b.toArray⟩ : ByteArray).toList) = decide (a = b) := by
  rw [ByteArray.toList_mk, ByteArray.toList_mk, Bool.eq_iff_iff]; simp

/-! ### A region that ends in one operation that writes -/

/-- What comes before, step by step. -/
def reach (ops : Array Oper) : Nat → List Nat → List Nat
  | 0, l => l
  | n + 1, l => reach ops n (l ++ l.flatMap fun j => ((ops[j]?).map deps).getD [])

theorem reach_listed {ops : Array Oper} {L : Nat → Bool} (hc : ∀ (j : Nat) (p : Oper), ops[j]? = some p → L j = true → ∀ k ∈ deps p, L k = true) :
    ∀ (n : Nat) (l : List Nat), (∀ j ∈ l, L j = true) → ∀ j ∈ reach ops n l, L j = true
  | 0, l, h, j, hj => h j hj
  | n + 1, l, h, j, hj => reach_listed hc n _ (fun k hk => by
      rcases List.mem_append.1 hk with hk | hk
      · exact h k hk
      · obtain ⟨i, hi, hk⟩ := List.mem_flatMap.1 hk
        cases ho : ops[i]? with
        | none => simp [ho] at hk
        | some p => simp only [ho, Option.map_some, Option.getD_some] at hk; exact hc i p ho (h i hi) k hk) j hj

/-- Knowledge that no change of the world touches. -/
def Kn.pure (k : Kn) : Prop := ∀ v w w', k.holds v w → k.holds v w'
theorem Kn.is_pure (x : Value) : (Kn.is x).pure := fun _ _ _ h => h
theorem Kn.any_pure : Kn.any.pure := fun _ _ _ _ => trivial

/-- Till operation m: nothing old has changed; then: Fin. -/
def lastS (w0 : World) (m : Nat) (Fin : World → Prop) (L : Nat → Bool) (w : World) : Prop := if L m = true then Fin w else Ext w0 w

section
variable {P : Program} {ops : Array Oper} {T : Tmp → Kn} {w0 : World} {a0 : Act} {i m : Nat} {o : Oper} {Fin : World → Prop}

/-- All of the first m operations come before operation m. -/
def lastOk (ops : Array Oper) (m : Nat) : Bool := (List.range m).all fun i => (reach ops 4 [m]).contains i

theorem StepOK.early (hT : ∀ d, (T d).pure) (hm : lastOk ops m = true) (him : i < m) (hg : o.guard = none)
    (h : ∀ ρ w, Env ρ → Ext w0 w → (∀ t, Fact ops (knV T) a0 i o ρ w t) → Exec P ρ o w fun v w' => (∀ d, o.dst = some d → knV T d v w') ∧ Ext w w') :
    StepOK P ops (knV T) (lastS w0 m Fin) a0 i o := by
  intro ρ w L hρ hw hi _ hf hc
  have hLm : L m = false := by
    rcases Bool.eq_false_or_eq_true (L m) with h1 | h1
    · have h2 := List.all_eq_true.1 hm i (List.mem_range.2 him)
      have := reach_listed (L := L) (fun j p => hc j p) 4 [m] (by simpa using h1) i (by simpa using h2)
      rw [hi] at this; cases this
    · exact h1
  have hw' : Ext w0 w := by unfold lastS at hw; rw [hLm] at hw; simpa using hw
  refine ⟨fun _ => (h ρ w hρ hw' hf).mono fun v w' ⟨h1, h2⟩ => ⟨h1, fun d v => hT d v w w', ?_⟩, fun hn => ?_⟩
  · have : (fun j => j == i || L j) m = false := by simp [hLm]; omega
    unfold lastS
    rw [this]
    simpa using hw'.trans h2
  · simp [wantedBy, hg] at hn

theorem StepOK.last (hT : ∀ d, (T d).pure) (hg : o.guard = none)
    (h : ∀ ρ w, Env ρ → Ext w0 w → (∀ t, Fact ops (knV T) a0 m o ρ w t) → Exec P ρ o w fun v w' => (∀ d, o.dst = some d → knV T d v w') ∧ Fin w') :
    StepOK P ops (knV T) (lastS w0 m Fin) a0 m o := by
  intro ρ w L hρ hw hi _ hf _
  have hw' : Ext w0 w := by unfold lastS at hw; rw [hi] at hw; simpa using hw
  refine ⟨fun _ => (h ρ w hρ hw' hf).mono fun v w' ⟨h1, h2⟩ => ⟨h1, fun d v => hT d v w w', by unfold lastS; simpa using h2⟩, fun hn => ?_⟩
  simp [wantedBy, hg] at hn
end

section
variable {P : Program} {Q : Exit → Act → World → Prop} {a0 : Act}
/-- THE LAW for a region whose last operation writes. -/
theorem wp_region_last {id : Nat} {l : List Oper} {w0 : World} (T : Tmp → Kn) (m : Nat) (Fin : World → Prop)
    (hm : P.follows .mixedOrders = true) (hg : goodOps l.toArray = true) (hdst : (l.all fun o => match o.dst with | some d => decide (d < a0.tmps.size) | none => true) = true) (hlen : m < l.length)
    (hall : AllOK P l.toArray (knV T) (lastS w0 m Fin) a0 0 l)
    (fin : ∀ (ν : Tmp → Value) (w : World), (∀ (i : Nat) (d : Tmp), (l[i]?).bind (·.dst) = some d → (T d).holds (ν d) w) → Fin w → Q .normal ⟨ended l ν a0.tmps, a0.defers⟩ w) :
    (Code.region id l.toArray true).wp P Q a0 w0 :=
  wp_region_inv (knV T) (lastS w0 m Fin) hm hg hdst (by unfold lastS; simpa using Ch.drew (Ch.refl _ _)) hall fun ν w h hs => fin ν w (fun i d hd => by
    cases ho : l[i]? with
    | none => simp [ho] at hd
    | some o => exact h o (List.mem_of_getElem? ho) d (by simpa [ho] using hd)) (by unfold lastS at hs; simpa [hlen] using hs)
end

theorem run_indexSl {P : Program} (w : World) {t e : TypeId} {inf : TypeInfo} {sz : Nat} (h : P.underlying t = some (.slice e)) (hinf : P.info? e = some inf) (hsz : inf.size = sz) (b off len cap i : Nat) (hi : i < len) :
    (Instr.indexAt t (.slice (some ⟨b, off, none⟩) len cap) (.int .i64 (i : Int))).run P w = .ok (.pointer (some ⟨b, off + i * sz, none⟩)) w := by
  have h1 : ((i : Nat) : Int) < (len : Int) := by omega
  simp [go_sem, h, hi, h1, sizeOf, typeInfo, hinf, hsz]

section
variable {P : Program} {ρ : Operand → Value} {o : Oper} {w : World} {T : Tmp → Kn} {d : Tmp}
/-- '&x[i]'. -/
theorem Exec.kindex {t e : TypeId} {inf : TypeInfo} {sz : Nat} {x y : Operand} {b off len cap i : Nat} (ho : o.op = .indexAddr t x y) (hd : o.dst = some d) (h : P.underlying t = some (.slice e)) (hinf : P.info? e = some inf) (hsz : inf.size = sz)
    (hx : ρ x = .slice (some ⟨b, off, none⟩) len cap) (hy : ρ y = .int .i64 (i : Int)) (hi : i < len) (hv : (T d).holds (.pointer (some ⟨b, off + i * sz, none⟩)) w) :
    Exec P ρ o w fun v w' => (∀ d, o.dst = some d → knV T d v w') ∧ Ext w w' :=
  Exec.same hd (by unfold execOp; rw [ho]; simp only [hx, hy, Sem.run_bind, run_indexSl w h hinf hsz b off len cap i hi, Result.andThen_ok, Sem.run_pure]) hv
end
theorem rd_of_heap {w : World} {g sz : Nat} {bs : List UInt8} {E : TypeId} (h : w.heap[g]? = some (.cells (cellsB bs).toArray E (0, 0))) (hl : bs.length = sz) (hm : sz ≤ maxLen) : Rd w (.slice (some ⟨g, 0, none⟩) sz sz) bs := by
  subst hl
  refine ⟨_, bs.length, rfl, Nat.le_refl _, hm, (fun h => by cases h), fun x hx j u hu => ?_⟩
  cases hx
  refine ⟨g, 0, rfl, ?_⟩
  rw [Nat.zero_add, cell_of_row w g j _ _ _ h]
  simpa using hu

end Go.Lac
