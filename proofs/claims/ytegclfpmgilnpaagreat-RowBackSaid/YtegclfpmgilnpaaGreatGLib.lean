import Derived.WalkKit
import Derived.Orders
import Derived.ScopeJumps
import Derived.Lib.ConvBytes
import Derived.Great.BuildSlice
import Derived.Deep.Quiet
namespace Go.Lac
open Go Go.RowKit
structure Ch (M : Nat → Prop) (w w' : World) : Prop where
  os : w'.os = w.os
  tape : w'.tape = w.tape
  output : w'.output = w.output
  size : w.heap.size ≤ w'.heap.size
  block : ∀ k, k < w.heap.size → ¬ M k → w'.heap[k]? = w.heap[k]?
abbrev Ext (w w' : World) : Prop := Ch (fun _ => False) w w'
section
variable {M N : Nat → Prop} {w w' a b c : World}
theorem Ch.refl (M : Nat → Prop) (w : World) : Ch M w w := ⟨rfl, rfl, rfl, Nat.le_refl _, fun _ _ _ => rfl⟩
theorem Ch.trans (h : Ch M a b) (k : Ch M b c) : Ch M a c :=
  ⟨k.os.trans h.os, k.tape.trans h.tape, k.output.trans h.output, Nat.le_trans h.size k.size,
   fun i hi hm => (k.block i (Nat.lt_of_lt_of_le hi h.size) hm).trans (h.block i hi hm)⟩
theorem Ch.mono (h : Ch M w w') (hM : ∀ k, k < w.heap.size → M k → N k) : Ch N w w' :=
  ⟨h.os, h.tape, h.output, h.size, fun k hk hn => h.block k hk fun m => hn (hM k hk m)⟩
theorem Ext.ch (h : Ext w w') : Ch M w w' := Ch.mono h fun _ _ f => f.elim
theorem Ch.transNew (h : Ch M a b) (k : Ch (fun i => M i ∨ a.heap.size ≤ i) b c) : Ch M a c :=
  ⟨k.os.trans h.os, k.tape.trans h.tape, k.output.trans h.output, Nat.le_trans h.size k.size,
   fun i hi hm => (k.block i (Nat.lt_of_lt_of_le hi h.size) (fun o => o.elim hm (fun g => by omega))).trans (h.block i hi hm)⟩
theorem Ch.ofBelow {B : Nat} (h : Below B w w') : Ch (fun k => B ≤ k) w w' :=
  ⟨h.os, h.tape, h.output, h.size, fun k _ hn => h.block k (by omega)⟩
theorem Ext.ofBelow (h : Below w.heap.size w w') : Ext w w' :=
  ⟨h.os, h.tape, h.output, h.size, fun k hk _ => h.block k hk⟩
theorem Ext.below (h : Ext w w') : Below w.heap.size w w' :=
  ⟨h.os, h.tape, h.output, h.size, fun k hk => h.block k hk (fun f => f)⟩
theorem Ch.below {B : Nat} (h : Ch (fun k => B ≤ k) w w') (hB : B ≤ w.heap.size) : Below B w w' :=
  ⟨h.os, h.tape, h.output, h.size, fun k hk => h.block k (by omega) (by omega)⟩
theorem Ch.drew (h : Ch M a w) : Ch M a w.drew := ⟨h.os, h.tape, h.output, h.size, h.block⟩
theorem Ch.alloc (h : Ch M a w) (o : Obj) : Ch M a (w.alloc o) :=
  h.trans ⟨rfl, rfl, rfl, by simp, fun k hk _ => Below.heap_alloc _ _ _ hk⟩
theorem Ch.setCell (h : Ch M a w) {p : Addr} (hp : M p.block ∨ a.heap.size ≤ p.block) (u : Value) : Ch M a (w.setCell p u) :=
  ⟨h.os, h.tape, h.output, by have := h.size; simpa [World.setCell] using this, fun k hk hm =>
    (Below.heap_setCell w p u k (by rintro rfl; rcases hp with hp | hp; exact hm hp; omega)).trans (h.block k hk hm)⟩
theorem Ch.grown {row : Option Nat} (h : Ch M a w) (hg : w.grownBy w' row) (hr : ∀ k, row = some k → M k ∨ a.heap.size ≤ k) : Ch M a w' :=
  ⟨hg.os.trans h.os, hg.tape.trans h.tape, hg.output.trans h.output, Nat.le_trans h.size hg.size, fun k hk hm =>
    (hg.block k (Nat.lt_of_lt_of_le hk h.size) (fun e => by rcases hr k e.symm with r | r; exact hm r; omega)).trans (h.block k hk hm)⟩
theorem Ch.cell (h : Ch M w w') {p : Addr} (hm : ¬ M p.block) (v : Value) (hv : w.cell? p = some v) : w'.cell? p = some v := by
  have hb : p.block < w.heap.size := World.block_lt_of_cell? w p hv
  rw [World.cell?_of_block (h.block p.block hb hm)]
  exact hv
end
def Outs (P : Program) (Φ : Value → World → Prop) : Result Next → Prop
  | .ok (.value v) w => Φ v w
  | .ok .skip w => Φ undef w
  | .ok (.enter f args) w => Calls P f args w fun e w' => ∃ v, e = .returned v ∧ Φ v w'
  | _ => False
def Exec (P : Program) (ρ : Operand → Value) (o : Oper) (w : World) (Φ : Value → World → Prop) : Prop :=
  Outs P Φ ((execOp ρ o).run P w)
section
variable {P : Program} {ρ : Operand → Value} {o : Oper} {w : World} {Φ Ψ : Value → World → Prop}
theorem Outs.mono (h : ∀ v w, Φ v w → Ψ v w) {r : Result Next} (hr : Outs P Φ r) : Outs P Ψ r := by
  unfold Outs at *
  split at hr
  · exact h _ _ hr
  · exact h _ _ hr
  · exact Calls.mono hr fun e w' ⟨v, he, hv⟩ => ⟨v, he, h _ _ hv⟩
  · exact hr.elim
theorem Exec.mono (hr : Exec P ρ o w Φ) (h : ∀ v w, Φ v w → Ψ v w) : Exec P ρ o w Ψ := Outs.mono h hr
theorem Exec.wp {a : Act} {K : Act → World → Prop} {Q : Exit → Act → World → Prop} (h : Exec P a.eval o w Φ)
    (hK : ∀ v w', Φ v w' → K (a.put o.dst v) w') : o.wp P a w K Q := by
  unfold Exec Outs at h
  unfold Oper.wp
  split at h
  · rename_i v w' hr; rw [hr]; exact hK _ _ h
  · rename_i w' hr; rw [hr]; exact hK _ _ h
  · rename_i f args w' hr
    rw [hr, Oper.upon_enter]
    exact Calls.mono h fun e w'' ⟨v, he, hv⟩ => by subst he; exact hK _ _ hv
  · exact h.elim
theorem Exec.value {v : Value} {w' : World} (hr : (execOp ρ o).run P w = .ok (.value v) w') (h : Φ v w') : Exec P ρ o w Φ := by
  unfold Exec; rw [hr]; exact h
theorem Exec.skip {w' : World} (hr : (execOp ρ o).run P w = .ok .skip w') (h : Φ undef w') : Exec P ρ o w Φ := by
  unfold Exec; rw [hr]; exact h
theorem Exec.enter {f : FuncId} {args : Array Value} {w' : World} (hr : (execOp ρ o).run P w = .ok (.enter f args) w')
    (h : Calls P f args w' fun e w'' => ∃ v, e = .returned v ∧ Φ v w'') : Exec P ρ o w Φ := by
  unfold Exec; rw [hr]; exact h
theorem Exec.move {x : Operand} (ho : o.op = .move x) (h : Φ (ρ x) w) : Exec P ρ o w Φ :=
  .value (by unfold execOp; rw [ho]; rfl) h
theorem Exec.assign {x : Operand} (ho : o.op = .assign x) (h : Φ (ρ x) w) : Exec P ρ o w Φ :=
  .value (by unfold execOp; rw [ho]; rfl) h
end
def deps (o : Oper) : List Nat := o.after.toList.filterMap fun e => if Region.binds .any e then some e.on else none
def fedBy (ops : Array Oper) (o : Oper) (t : Tmp) : Bool := (deps o).any fun j => (ops[j]?).bind (·.dst) == some t
def untouched (ops : Array Oper) (i : Nat) (t : Tmp) : Bool :=
  (List.range ops.size).all fun j => j == i || (ops[j]?).bind (·.dst) != some t || ((ops[j]?).map fun o => (deps o).contains i).getD false
def goodOps (ops : Array Oper) : Bool :=
  (List.range ops.size).all fun i => ((ops[i]?).map fun o => (deps o).all (· < i) &&
    (List.range ops.size).all fun j => j == i || o.dst.isNone || (ops[j]?).bind (·.dst) != o.dst).getD false
def Fact (ops : Array Oper) (V : Tmp → Value → World → Prop) (a0 : Act) (i : Nat) (o : Oper) (ρ : Operand → Value) (w : World) (t : Tmp) : Prop :=
  (fedBy ops o t = true → V t (ρ (.tmp t)) w) ∧ (fedBy ops o t = false → untouched ops i t = true → ρ (.tmp t) = a0.eval (.tmp t))
def wantedBy (ops : Array Oper) (o : Oper) (ρ : Operand → Value) : Bool :=
  match o.guard with
  | none => true
  | some (j, want) => match (ops[j]?).bind (·.dst) with
    | some d => match ρ (.tmp d) with | .bool b => b == want | _ => false
    | none => false
structure Env (ρ : Operand → Value) : Prop where
  const : ∀ v, ρ (.const v) = v
  func : ∀ f, ρ (.func f) = .func (.func f) #[] #[]
  global : ∀ g, ρ (.global g) = .pointer (some ⟨g, 0, none⟩)
def StepOK (P : Program) (ops : Array Oper) (V : Tmp → Value → World → Prop) (S : (Nat → Bool) → World → Prop) (a0 : Act) (i : Nat) (o : Oper) : Prop :=
  ∀ (ρ : Operand → Value) (w : World) (L : Nat → Bool), Env ρ → S L w → L i = false → (∀ j ∈ deps o, L j = true) → (∀ t, Fact ops V a0 i o ρ w t) →
    (∀ j p, ops[j]? = some p → L j = true → ∀ k ∈ deps p, L k = true) →
    let Φ : Value → World → Prop := fun v w' => (∀ d, o.dst = some d → V d v w') ∧ (∀ d v, V d v w → V d v w') ∧ S (fun j => j == i || L j) w'
    (wantedBy ops o ρ = true → Exec P ρ o w Φ) ∧ (wantedBy ops o ρ = false → Φ undef w)
def AllOK (P : Program) (ops : Array Oper) (V : Tmp → Value → World → Prop) (S : (Nat → Bool) → World → Prop) (a0 : Act) : Nat → List Oper → Prop
  | _, [] => True
  | i, o :: l => StepOK P ops V S a0 i o ∧ AllOK P ops V S a0 (i + 1) l
theorem AllOK.get {P : Program} {ops : Array Oper} {V : Tmp → Value → World → Prop} {S : (Nat → Bool) → World → Prop} {a0 : Act} :
    ∀ (l : List Oper) (i : Nat), AllOK P ops V S a0 i l → ∀ k o, l[k]? = some o → StepOK P ops V S a0 (i + k) o
  | [], _, _, k, o, h => by simp at h
  | x :: l, i, h, 0, o, e => by simp at e; subst e; exact h.1
  | x :: l, i, h, k + 1, o, e => by
    have := AllOK.get l (i + 1) h.2 k o (by simpa using e)
    rwa [show i + (k + 1) = i + 1 + k by omega]
structure RI (ops : Array Oper) (V : Tmp → Value → World → Prop) (S : (Nat → Bool) → World → Prop) (a0 : Act) (L : Nat → Bool) (a : Act) (w : World) : Prop where
  size : a.tmps.size = a0.tmps.size
  defers : a.defers = a0.defers
  closed : ∀ i o, ops[i]? = some o → L i = true → ∀ j ∈ deps o, L j = true
  keep : ∀ t, (∀ i o, ops[i]? = some o → L i = true → o.dst ≠ some t) → a.tmps[t]? = a0.tmps[t]?
  val : ∀ i o, ops[i]? = some o → L i = true → ∀ d, o.dst = some d → V d (a.tmps.getD d undef) w
  st : S L w
theorem goodOps_lt {ops : Array Oper} (h : goodOps ops = true) {i : Nat} {o : Oper} (ho : ops[i]? = some o) : ∀ j ∈ deps o, j < i := by
  intro j hj
  have hi : i < ops.size := (Array.getElem?_eq_some_iff.1 ho).1
  have h1 := List.all_eq_true.1 h i (List.mem_range.2 hi)
  simp only [ho, Option.map_some, Option.getD_some, Bool.and_eq_true] at h1
  have := List.all_eq_true.1 h1.1 j hj
  simpa using this
theorem goodOps_dst {ops : Array Oper} (h : goodOps ops = true) {i j : Nat} {o p : Oper} (ho : ops[i]? = some o) (hp : ops[j]? = some p) (hne : j ≠ i) {d : Tmp} (hd : o.dst = some d) : p.dst ≠ some d := by
  have hi : i < ops.size := (Array.getElem?_eq_some_iff.1 ho).1
  have hj : j < ops.size := (Array.getElem?_eq_some_iff.1 hp).1
  have h1 := List.all_eq_true.1 h i (List.mem_range.2 hi)
  simp only [ho, Option.map_some, Option.getD_some, Bool.and_eq_true] at h1
  have h2 := List.all_eq_true.1 h1.2 j (List.mem_range.2 hj)
  simp [hp, hd, hne] at h2
  exact h2
theorem wantedBy_eq (ops : Array Oper) (o : Oper) (a : Act) : wantedBy ops o a.eval = Region.wanted o (yielded ops a.tmps) := by
  unfold wantedBy Region.wanted
  cases hg : o.guard with
  | none => rfl
  | some jw =>
    obtain ⟨j, want⟩ := jw
    dsimp only
    unfold yielded
    cases hd : (ops[j]?).bind (·.dst) with
    | none => simp
    | some d =>
      simp only [Option.bind_some, Act.eval]
      by_cases hs : d < a.tmps.size
      · have e1 : a.tmps.getD d undef = a.tmps[d] := by simp [Array.getD, hs]
        rw [e1, Array.getElem?_eq_getElem hs]
        cases a.tmps[d] <;> simp
      · have e1 : a.tmps.getD d undef = undef := by simp [Array.getD, hs]
        rw [e1, Array.getElem?_eq_none (Nat.le_of_not_lt hs)]
        simp [undef]
theorem ready_iff {ops : Array Oper} {listed : Array Bool} {i : Nat} : i ∈ Region.ready .any ops listed ↔
    i < ops.size ∧ listed.getD i true = false ∧ ∃ o, ops[i]? = some o ∧ ∀ j ∈ deps o, listed.getD j false = true := by
  unfold Region.ready
  simp only [List.mem_filter, List.mem_range, Bool.and_eq_true, Bool.not_eq_true']
  refine and_congr_right fun hi => and_congr_right fun _ => ?_
  rw [Array.getElem?_eq_getElem hi]
  simp only [Option.map_some, Option.getD_some, Option.some.injEq, exists_eq_left', Array.all_eq_true', Bool.or_eq_true, Bool.not_eq_true', deps,
    List.mem_filterMap, Array.mem_toList_iff]
  constructor
  · rintro h j ⟨e, he, hj⟩
    split at hj
    · rename_i hb
      rcases h e he with h' | h'
      · rw [h'] at hb; cases hb
      · cases hj; exact h'
    · cases hj
  · intro h e he
    by_cases hb : Region.binds .any e = true
    · exact .inr (h e.on ⟨e, he, by simp [hb]⟩)
    · exact .inl (by simpa using hb)
def allow (listed : Array Bool) : Nat → Bool := fun i => listed.getD i false
theorem allow_set {listed : Array Bool} {i : Nat} (hi : i < listed.size) : allow (listed.setIfInBounds i true) = fun j => j == i || allow listed j := by
  funext j
  unfold allow
  by_cases hj : j = i
  · subst hj; simp [Array.getD, hi]
  · have hj' : i ≠ j := fun e => hj e.symm
    simp [Array.getD_eq_getD_getElem?, Array.getElem?_setIfInBounds_ne hj', hj]
def leftOver (listed : Array Bool) : Nat := listed.toList.count false
theorem leftOver_set {listed : Array Bool} {i : Nat} (hi : i < listed.size) (hf : listed.getD i true = false) :
    leftOver (listed.setIfInBounds i true) + 1 = leftOver listed := by
  unfold leftOver
  have hg : listed.toList[i]'(by simpa using hi) = false := by
    simpa [Array.getD, hi] using hf
  rw [Array.toList_setIfInBounds]
  have := List.count_set (a := true) (b := false) (l := listed.toList) (i := i) (by simpa using hi)
  have hpos : 0 < listed.toList.count false := List.count_pos_iff.2 (by rw [← hg]; exact List.getElem_mem _)
  have e1 : (listed.toList[i]'(by simpa using hi) == false) = true := by rw [hg]; rfl
  rw [this, if_pos e1, if_neg (by decide)]
  omega
theorem leftOver_zero {listed : Array Bool} (h : leftOver listed = 0) {i : Nat} (hi : i < listed.size) : listed.getD i true = true := by
  unfold leftOver at h
  by_cases hb : listed.getD i true = true
  · exact hb
  · have hf : listed[i] = false := by simpa [Array.getD, hi] using hb
    have : 0 < listed.toList.count false := List.count_pos_iff.2 (by rw [← hf]; exact Array.getElem_mem_toList hi)
    omega
section
variable {P : Program} {ops : Array Oper} {Q : Exit → Act → World → Prop} {V : Tmp → Value → World → Prop} {S : (Nat → Bool) → World → Prop} {a0 : Act}
theorem RI.fact {L : Nat → Bool} {a : Act} {w : World} (h : RI ops V S a0 L a w) {i : Nat} {o : Oper} (ho : ops[i]? = some o) (hi : L i = false)
    (hd : ∀ j ∈ deps o, L j = true) (t : Tmp) : Fact ops V a0 i o a.eval w t := by
  constructor
  · intro hf
    obtain ⟨j, hj, hjt⟩ := List.any_eq_true.1 hf
    cases hoj : ops[j]? with
    | none => simp [hoj] at hjt
    | some p =>
      simp only [hoj, Option.bind_some, beq_iff_eq] at hjt
      exact h.val j p hoj (hd j hj) t hjt
  · intro hf hu
    have hk : a.tmps[t]? = a0.tmps[t]? := h.keep t fun j p hp hL hdst => by
      have hjs : j < ops.size := (Array.getElem?_eq_some_iff.1 hp).1
      have h1 := List.all_eq_true.1 hu j (List.mem_range.2 hjs)
      simp only [hp, Option.bind_some, Option.map_some, Option.getD_some, Bool.or_eq_true, beq_iff_eq, bne_iff_ne, ne_eq, hdst, not_true_eq_false, or_false] at h1
      rcases h1 with h1 | h1
      · subst h1; rw [hi] at hL; cases hL
      · have := h.closed j p hp hL i (by simpa using h1)
        rw [hi] at this; cases this
    simp only [Act.eval, Array.getD_eq_getD_getElem?, hk]
theorem RI.put {L : Nat → Bool} {a : Act} {w w' : World} (h : RI ops V S a0 L a w) (hg : goodOps ops = true) {i : Nat} {o : Oper} (ho : ops[i]? = some o) (hi : L i = false)
    (hd : ∀ j ∈ deps o, L j = true) (hdst : ∀ d, o.dst = some d → d < a0.tmps.size) {v : Value}
    (hΦ : (∀ d, o.dst = some d → V d v w') ∧ (∀ d v, V d v w → V d v w') ∧ S (fun j => j == i || L j) w') :
    RI ops V S a0 (fun j => j == i || L j) (a.put o.dst v) w' := by
  obtain ⟨h1, h2, h3⟩ := hΦ
  refine ⟨?_, ?_, ?_, ?_, ?_, h3⟩
  · cases hod : o.dst <;> simp [Act.put, h.size]
  · cases hod : o.dst <;> simp [Act.put, h.defers]
  · intro j p hp hL k hk
    simp only [Bool.or_eq_true, beq_iff_eq] at hL ⊢
    rcases hL with rfl | hL
    · rw [ho] at hp; cases hp
      exact .inr (hd k hk)
    · exact .inr (h.closed j p hp hL k hk)
  · intro t ht
    have hne : o.dst ≠ some t := ht i o ho (by simp)
    have := h.keep t fun j p hp hL => ht j p hp (by simp [hL])
    rw [← this]
    cases hod : o.dst with
    | none => rfl
    | some d =>
      have : d ≠ t := fun e => hne (by rw [hod, e])
      simp [Act.put, Array.getElem?_setIfInBounds_ne this]
  · intro j p hp hL d hpd
    simp only [Bool.or_eq_true, beq_iff_eq] at hL
    by_cases hji : j = i
    · subst hji
      rw [ho] at hp; cases hp
      have hlt := hdst d hpd
      rw [hpd]
      have : (a.tmps.setIfInBounds d v).getD d undef = v := by
        have hs : d < (a.tmps.setIfInBounds d v).size := by simp; rw [h.size]; exact hlt
        simp [Array.getD, h.size, hlt]
      simp only [Act.put, this]
      exact h1 d hpd
    · have hL' : L j = true := hL.resolve_left hji
      have hval := h.val j p hp hL' d hpd
      cases hod : o.dst with
      | none => exact h2 _ _ hval
      | some d' =>
        have hdd : d' ≠ d := fun e => goodOps_dst hg hp ho (Ne.symm hji) hpd (by rw [hod, e])
        have : ((a.put (some d') v).tmps).getD d undef = a.tmps.getD d undef := by
          simp [Act.put, Array.getD_eq_getD_getElem?, Array.getElem?_setIfInBounds_ne hdd]
        rw [this]
        exact h2 _ _ hval
theorem env_eval (a : Act) : Env a.eval := ⟨fun _ => rfl, fun _ => rfl, fun _ => rfl⟩
theorem wpAny_inv (hg : goodOps ops = true) (hall : AllOK P ops V S a0 0 ops.toList) (hdst : ∀ (i : Nat) (o : Oper), ops[i]? = some o → ∀ d, o.dst = some d → d < a0.tmps.size)
    (fin : ∀ a w, RI ops V S a0 (fun i => decide (i < ops.size)) a w → Q .normal a w) :
    ∀ (fuel : Nat) (listed : Array Bool) (a : Act) (w : World), listed.size = ops.size → leftOver listed = fuel → RI ops V S a0 (allow listed) a w →
      wpAny P .any ops Q fuel listed a w := by
  have done : ∀ (listed : Array Bool) (a : Act) (w : World), listed.size = ops.size → (∀ i, i < ops.size → listed.getD i true = true) → RI ops V S a0 (allow listed) a w → Q .normal a w := by
    intro listed a w hs hl h
    refine fin a w ?_
    have : allow listed = fun i => decide (i < ops.size) := by
      funext i
      unfold allow
      by_cases hi : i < ops.size
      · have := hl i hi
        simpa [Array.getD, hs, hi] using this
      · simp [Array.getD, hs, hi]
    rw [← this]; exact h
  have stuck : ∀ (listed : Array Bool), listed.size = ops.size → Region.ready .any ops listed = [] → ∀ i, i < ops.size → listed.getD i true = true := by
    intro listed hs hr i
    induction i using Nat.strongRecOn with
    | _ i ih =>
      intro hi
      by_cases hb : listed.getD i true = true
      · exact hb
      · have hmem : i ∈ Region.ready .any ops listed := ready_iff.2 ⟨hi, by simpa using hb, ops[i], Array.getElem?_eq_getElem hi, fun j hj => by
          have hlt := goodOps_lt hg (Array.getElem?_eq_getElem hi) j hj
          have := ih j hlt (by omega)
          simpa [Array.getD, hs, show j < ops.size by omega] using this⟩
        rw [hr] at hmem; cases hmem
  intro fuel
  induction fuel with
  | zero =>
    intro listed a w hs hl h
    have hfull : ∀ i, i < ops.size → listed.getD i true = true := fun i hi => leftOver_zero hl (by omega)
    refine ⟨?_, done listed a w hs hfull h⟩
    rw [List.eq_nil_iff_forall_not_mem]
    intro i hi
    obtain ⟨h1, h2, _⟩ := ready_iff.1 hi
    rw [hfull i h1] at h2; cases h2
  | succ fuel ih =>
    intro listed a w hs hl h
    refine ⟨fun hr => done listed a w hs (stuck listed hs hr) h, fun i hi => ?_⟩
    obtain ⟨h1, h2, o, ho, h3⟩ := ready_iff.1 hi
    have hLi : allow listed i = false := by
      have : listed.getD i true = listed[i]'(by omega) := by simp [Array.getD, hs, h1]
      rw [this] at h2
      simp [allow, Array.getD, hs, h1, h2]
    have hLd : ∀ j ∈ deps o, allow listed j = true := h3
    have hstep := AllOK.get ops.toList 0 hall i o (by simpa using ho)
    rw [Nat.zero_add] at hstep
    have hs' := hstep a.eval w (allow listed) (env_eval a) h.st hLi hLd (h.fact ho hLi hLd) h.closed
    have hset := allow_set (listed := listed) (i := i) (by omega)
    have hleft := leftOver_set (listed := listed) (i := i) (by omega) h2
    unfold wpOp
    simp only [ho]
    rw [wantedBy_eq] at hs'
    split
    · rename_i hw
      refine .inl ((hs'.1 hw).wp fun v w' hv => ?_)
      refine ih _ _ _ (by simpa using hs) (by omega) ?_
      rw [hset]
      exact h.put hg ho hLi hLd (hdst i o ho) hv
    · rename_i hw
      refine ih _ _ _ (by simpa using hs) (by omega) ?_
      rw [hset]
      exact h.put hg ho hLi hLd (hdst i o ho) (hs'.2 (by simpa using hw))
def ended (ops : List Oper) (ν : Tmp → Value) (tmps : Array Value) : Array Value :=
  ops.foldl (fun t o => match o.dst with | some d => t.setIfInBounds d (ν d) | none => t) tmps
theorem ended_get (ν : Tmp → Value) (t : Tmp) : ∀ (l : List Oper) (tmps : Array Value), t < tmps.size →
    (ended l ν tmps)[t]? = if (∃ o ∈ l, o.dst = some t) then some (ν t) else tmps[t]?
  | [], tmps, ht => by simp [ended]
  | o :: l, tmps, ht => by
    have ih := ended_get ν t l (match o.dst with | some d => tmps.setIfInBounds d (ν d) | none => tmps) (by cases o.dst <;> simpa using ht)
    unfold ended at ih ⊢
    rw [List.foldl_cons, ih]
    by_cases h1 : ∃ p ∈ l, p.dst = some t
    · rw [if_pos h1, if_pos (by obtain ⟨p, hp, e⟩ := h1; exact ⟨p, List.mem_cons_of_mem _ hp, e⟩)]
    · rw [if_neg h1]
      by_cases h2 : o.dst = some t
      · rw [if_pos ⟨o, List.mem_cons_self, h2⟩, h2]
        simp [ht]
      · rw [if_neg (by rintro ⟨p, hp, e⟩; rcases List.mem_cons.1 hp with rfl | hp; exact h2 e; exact h1 ⟨p, hp, e⟩)]
        cases hd : o.dst with
        | none => rfl
        | some d =>
          have : d ≠ t := fun e => h2 (by rw [hd, e])
          simp [Array.getElem?_setIfInBounds_ne this]
theorem ended_size (ν : Tmp → Value) : ∀ (l : List Oper) (tmps : Array Value), (ended l ν tmps).size = tmps.size
  | [], _ => rfl
  | o :: l, tmps => by
    have := ended_size ν l (match o.dst with | some d => tmps.setIfInBounds d (ν d) | none => tmps)
    unfold ended at this ⊢
    rw [List.foldl_cons, this]
    cases o.dst <;> simp
theorem wp_region_inv {id : Nat} {l : List Oper} {w0 : World} (V : Tmp → Value → World → Prop) (S : (Nat → Bool) → World → Prop)
    (hm : P.follows .mixedOrders = true) (hg : goodOps l.toArray = true) (hdst : (l.all fun o => match o.dst with | some d => decide (d < a0.tmps.size) | none => true) = true)
    (h0 : S (fun _ => false) w0.drew)
    (hall : AllOK P l.toArray V S a0 0 l)
    (fin : ∀ (ν : Tmp → Value) (w : World), (∀ o ∈ l, ∀ d, o.dst = some d → V d (ν d) w) → S (fun i => decide (i < l.length)) w → Q .normal ⟨ended l ν a0.tmps, a0.defers⟩ w) :
    (Code.region id l.toArray true).wp P Q a0 w0 := by
  refine wp_region_any hm ?_
  have hdst' : ∀ (i : Nat) (o : Oper), l.toArray[i]? = some o → ∀ d, o.dst = some d → d < a0.tmps.size := by
    intro i o ho d hd
    have hmem : o ∈ l := by
      have : l[i]? = some o := by simpa using ho
      exact List.mem_of_getElem? this
    have := List.all_eq_true.1 hdst o hmem
    simpa [hd] using this
  refine wpAny_inv (V := V) (S := S) (a0 := a0) hg hall hdst' ?_ _ _ _ _ (by simp) (by simp [leftOver]) ?_
  · intro a w h
    have hv : ∀ o ∈ l, ∀ d, o.dst = some d → V d (a.tmps.getD d undef) w := by
      intro o ho d hd
      obtain ⟨i, hi⟩ := List.mem_iff_getElem?.1 ho
      exact h.val i o (by simpa using hi) (by have := (List.getElem?_eq_some_iff.1 hi).1; simpa using this) d hd
    have hq := fin (fun d => a.tmps.getD d undef) w hv (by simpa using h.st)
    have : (⟨ended l (fun d => a.tmps.getD d undef) a0.tmps, a0.defers⟩ : Act) = a := by
      cases a with
      | mk tmps defers =>
        have hdf : defers = a0.defers := h.defers
        have hsz : tmps.size = a0.tmps.size := h.size
        simp only [Act.mk.injEq]
        refine ⟨?_, hdf.symm⟩
        apply Array.ext
        · rw [ended_size]; exact hsz.symm
        · intro t h1 h2
          have h3 : t < a0.tmps.size := by omega
          have e1 := ended_get (fun d => tmps.getD d undef) t l a0.tmps h3
          have e2 : (ended l (fun d => tmps.getD d undef) a0.tmps)[t]? = some tmps[t] := by
            rw [e1]
            split
            · simp [Array.getD, h2]
            · rename_i hno
              have hk := h.keep t fun i o ho _ hd => hno ⟨o, by
                have : l[i]? = some o := by simpa using ho
                exact List.mem_of_getElem? this, hd⟩
              have hk' : tmps[t]? = a0.tmps[t]? := hk
              rw [← hk', Array.getElem?_eq_getElem h2]
          rw [Array.getElem?_eq_getElem h1] at e2
          exact Option.some.inj e2
    rw [this] at hq
    exact hq
  · have hno : allow (Array.replicate l.toArray.size false) = fun _ => false := by
      funext i
      unfold allow
      by_cases hi : i < l.length
      · simp [Array.getD, hi]
      · simp [Array.getD, hi]
    rw [hno]
    exact ⟨rfl, rfl, by simp, by simp, by simp, h0⟩
end
end Go.Lac
namespace Go.Lac
open Go Go.RowKit
def cellB (b : UInt8) : Value := .int .u8 (b.toNat : Int)
def cellsB (l : List UInt8) : List Value := l.map cellB
theorem cellB_ofNat {n : Nat} (h : n < 256) : cellB (UInt8.ofNat n) = .int .u8 (n : Int) := by
  simp [cellB, Nat.mod_eq_of_lt h]
@[simp] theorem cellsB_length (l : List UInt8) : (cellsB l).length = l.length := by simp [cellsB]
theorem cellsB_append (a b : List UInt8) : cellsB (a ++ b) = cellsB a ++ cellsB b := by simp [cellsB]
theorem cellsB_one (l : List UInt8) : ∀ u ∈ cellsB l, u.oneCell' = true := by
  intro u hu
  obtain ⟨_, _, rfl⟩ := List.mem_map.1 hu
  rfl
def Sl (w : World) (v : Value) (n : Nat) (cs : List Value) : Prop :=
  ∃ ao cap, v = .slice ao n cap ∧ n ≤ cap ∧ cap ≤ maxLen ∧ (ao = none → cap = 0) ∧
    ∀ x, ao = some x → ∀ j u, cs[j]? = some u → ∃ b off, x = ⟨b, off, none⟩ ∧ w.cell? ⟨b, off + j, none⟩ = some u
def Rd (w : World) (v : Value) (bs : List UInt8) : Prop := Sl w v bs.length (cellsB bs)
theorem Sl.ext {w w' : World} {v : Value} {n : Nat} {cs : List Value} (h : Sl w v n cs) (k : Ext w w') : Sl w' v n cs := by
  obtain ⟨ao, cap, h1, h2, h3, h4, h5⟩ := h
  refine ⟨ao, cap, h1, h2, h3, h4, fun x hx j u hu => ?_⟩
  obtain ⟨b, off, rfl, h6⟩ := h5 x hx j u hu
  exact ⟨b, off, rfl, k.cell (fun f => f) u h6⟩
theorem Rd.ext {w w' : World} {v : Value} {bs : List UInt8} (h : Rd w v bs) (k : Ext w w') : Rd w' v bs := Sl.ext h k
theorem Sl.ofOwns {w : World} {base : Nat} {e : TypeId} {size : Nat} {v : Value} {n : Nat} {cs : List Value} (h : w.ownsRow base e size v n cs) : Sl w v n cs := by
  have h' := h
  rcases h.2 with ⟨rfl, rfl⟩ | ⟨g, cap, cur, rfl, hb, hg, h1, h2, h3, h4⟩
  · exact ⟨none, 0, rfl, Nat.le_refl _, Nat.zero_le _, fun _ => rfl, fun x hx => by cases hx⟩
  · refine ⟨_, cap, rfl, h1, h2, (fun h => by cases h), fun x hx j u hu => ?_⟩
    cases hx
    refine ⟨g, 0, rfl, ?_⟩
    have := h'.cells (g := g) rfl j u hu
    rwa [Addr.add_lit] at this
theorem Rd.ofOwns {w : World} {base : Nat} {v : Value} {n : Nat} {e : TypeId} {bs : List UInt8} (h : w.ownsRow base e 1 v n (cellsB bs)) : Rd w v bs := by
  have hl := h.1
  simp only [cellsB_length, Nat.mul_one] at hl
  subst hl
  exact Sl.ofOwns h
theorem new_cells (w : World) (vs : List Value) (e : TypeId) : ∀ j u, vs[j]? = some u → (w.alloc (.cells vs.toArray e)).cell? ((⟨w.heap.size, 0, none⟩ : Addr).add j) = some u := by
  intro j u hu
  rw [Addr.add_lit, World.cell?_alloc_new w _ _ (0 + j), Nat.zero_add]
  simpa using hu
theorem one_oneCell {v : Value} (h : v.oneCell' = true) : ∀ u ∈ [v], u.oneCell' = true := by
  intro u hu
  simp only [List.mem_singleton] at hu
  subst hu
  exact h
theorem or128_nat : ∀ x : Nat, x < 256 → x ||| 128 = x % 128 + 128 := by decide +kernel
theorem or128 (u : Nat) : bits .or .u8 ((u : Int) % 256) 128 = (u : Int) % 128 + 128 := by
  have h := u8_or_nat (u % 256) 128 (by omega) (by omega)
  rw [or128_nat _ (by omega)] at h
  have e : ((u % 256 : Nat) : Int) = (u : Int) % 256 := by omega
  rw [e] at h
  rw [show (128 : Int) = ((128 : Nat) : Int) from rfl, h]
  omega
theorem wrap_u64_of {n : Int} (h0 : 0 ≤ n) (h1 : n < 18446744073709551616) : IntKind.u64.wrap n = n := by
  rw [IntKind.wrap_u64]; omega
def strV (bs : List UInt8) : Value := .string ⟨bs.toArray⟩
theorem run_toString {P : Program} {w : World} {v : Value} {bs : List UInt8} (h : Rd w v bs) {src dst e : TypeId} (hs : P.underlying src = some (.slice e)) (he : P.underlying e = some (.int .u8)) (hd : P.underlying dst = some .string) :
    (convert src dst v).run P w = .ok (strV bs) w := by
  obtain ⟨ao, cap, rfl, h1, h2, h3, h4⟩ := h
  cases ao with
  | none =>
    have hc := h3 rfl
    have hb : bs = [] := List.eq_nil_of_length_eq_zero (by omega)
    subst hb
    exact run_convert_bytes_nil w src e hs he _ _ dst hd
  | some x =>
    by_cases h0 : bs = []
    · subst h0
      rw [run_convert_bytes_string w src dst e _ _ cap hs he hd]
      exact run_bytesToString w x 0 cap [] (by
        have := run_loadCells_list (P := P) w x [] (fun j v hj => by simp at hj)
        simpa using this)
    have hl0 : 0 < bs.length := by
      rcases Nat.eq_zero_or_pos bs.length with h | h
      · exact absurd (List.eq_nil_of_length_eq_zero h) h0
      · exact h
    obtain ⟨b, off, rfl, _⟩ := h4 x rfl 0 (cellB bs[0]) (by simp [cellsB, hl0])
    have h5 : ∀ j u, (cellsB bs)[j]? = some u → w.cell? ⟨b, off + j, none⟩ = some u := fun j u hu => by
      obtain ⟨b', off', e, h⟩ := h4 _ rfl j u hu
      cases e
      exact h
    have := run_convert_bytes_arg (P := P) w src e hs he b off bs.length cap (bs.map fun c => (c.toNat : Int)) (by simp) (fun i hi => by
      rw [h5 i (cellB bs[i]) (by simp [cellsB, hi])]
      simp [cellB, hi]) dst hd
    rw [this]
    have e : bs.map ((fun n : Int => UInt8.ofNat n.toNat) ∘ fun c : UInt8 => (c.toNat : Int)) = bs := by
      conv => rhs; rw [← List.map_id bs]
      exact List.map_congr_left fun c _ => by simp
    congr 1
    simp only [strOfNums, strV, List.map_map, e]
section
variable {P : Program} (w : World)
theorem run_append_sl (base : Nat) (t ty e : TypeId) (i : TypeInfo) (z : Value) (size bytes : Nat) (ht : P.underlying t = some (.slice e)) (hi : P.info? e = some i) (hz : i.zero = some z)
    (hsize : i.size = size) (hby : i.bytes = bytes) (hzs : z.cells.size = size) (hsz : 0 < size)
    (v : Value) (n : Nat) (xs : List Value) (hown : w.ownsRow base e size v n xs)
    (x : Value) (m : Nat) (news : List Value) (hx : Sl w x m news) (hl : news.length = m * size) (h1 : ∀ u ∈ news, u.oneCell' = true)
    (hbytes : (n + m) * bytes ≤ 140737488355328) (h63 : n + m ≤ maxLen) (hbase : base ≤ w.heap.size) :
    ∃ v' w', (Builtin.append_ #[t, t] ty #[v, x]).run P w = .ok v' w' ∧ w'.ownsRow base e size v' (n + m) (xs ++ news) ∧ w.grownBy w' v.ownBlock := by
  obtain ⟨ao, cap, rfl, g1, g2, g3, g4⟩ := hx
  cases ao with
  | none =>
    have hc := g3 rfl
    obtain rfl : m = 0 := by omega
    have hn : news = [] := List.eq_nil_of_length_eq_zero (by simpa using hl)
    subst hn
    subst hc
    exact ⟨v, w, run_append_owned_none w base t ty e i size ht hi v n xs hown, by simpa using hown, World.grownBy.refl _ _⟩
  | some a =>
    obtain ⟨v', w', r1, r2, r3, _⟩ := run_append_own w base t ty e i z size bytes ht hi hz hsize hby hzs hsz v n xs hown a m cap news hl
      (fun j u hu => by obtain ⟨b, off, rfl, g5⟩ := g4 a rfl j u hu; rw [Addr.add_lit]; exact g5) h1 h63 hbytes hbase
    exact ⟨v', w', r1, r2, r3⟩
theorem wpList_append_sl {ops : Array Oper} {rest : List Oper} {o : Oper} {a : Act} {Q : Exit → Act → World → Prop} (hgd : o.guard = none) (s xo : Operand) (t : TypeId)
    (ho : o.op = .call { callee := .builtin .append, args := #[s, xo], argTypes := #[t, t] })
    (base : Nat) (e : TypeId) (i : TypeInfo) (z : Value) (size bytes : Nat) (ht : P.underlying t = some (.slice e)) (hi : P.info? e = some i) (hz : i.zero = some z)
    (hsize : i.size = size) (hby : i.bytes = bytes) (hzs : z.cells.size = size) (hsz : 0 < size)
    (v : Value) (n : Nat) (xs : List Value) (hs : a.eval s = v) (hown : w.ownsRow base e size v n xs)
    (x : Value) (m : Nat) (news : List Value) (hxo : a.eval xo = x) (hx : Sl w x m news) (hl : news.length = m * size) (h1 : ∀ u ∈ news, u.oneCell' = true)
    (hbytes : (n + m) * bytes ≤ 140737488355328) (h63 : n + m ≤ maxLen) (hbase : base ≤ w.heap.size)
    (h : ∀ v' w', w'.ownsRow base e size v' (n + m) (xs ++ news) → w.grownBy w' v.ownBlock → wpList P ops Q rest (a.put o.dst v') w') : wpList P ops Q (o :: rest) a w := by
  obtain ⟨v', w', r1, r2, r3⟩ := run_append_sl (P := P) w base t o.type e i z size bytes ht hi hz hsize hby hzs hsz v n xs hown x m news hx hl h1 hbytes h63 hbase
  refine wpList_plain hgd fun K hK => ?_
  unfold Oper.wp execOp
  simp only [ho, resolve, invoke, builtin, Sem.run_bind, Sem.run_pure, Result.andThen_ok, List.map_toArray, List.map_cons, List.map_nil, hs, hxo, r1]
  exact hK _ _ (h v' w' r2 r3)
end
def Made (E : TypeId) (bs : List UInt8) (w : World) (e : Ending) (w' : World) : Prop :=
  ∃ s, e = .returned s ∧ Ext w w' ∧ w'.ownsRow w.heap.size E 1 s bs.length (cellsB bs)
theorem owns_shape {w : World} {base : Nat} {e : TypeId} {size : Nat} {v : Value} {n : Nat} {xs : List Value} (h : w.ownsRow base e size v n xs) : ∃ ao cap, v = .slice ao n cap := by
  rcases h.2 with ⟨rfl, rfl⟩ | ⟨g, cap, cur, rfl, _⟩
  · exact ⟨_, _, rfl⟩
  · exact ⟨_, _, rfl⟩
theorem Rd.shape {w : World} {v : Value} {bs : List UInt8} (h : Rd w v bs) : ∃ ao cap, v = .slice ao bs.length cap := by
  obtain ⟨ao, cap, rfl, _⟩ := h
  exact ⟨_, _, rfl⟩
theorem Made.after {E : TypeId} {bs : List UInt8} {w0 w : World} {e : Ending} {w' : World} (h : Made E bs w e w') (k : Ext w0 w) : Made E bs w0 e w' := by
  obtain ⟨s, h1, h2, h3⟩ := h
  refine ⟨s, h1, k.trans h2, h3.1, ?_⟩
  rcases h3.2 with g | ⟨g, cap, cur, g1, g2, g3⟩
  · exact .inl g
  · exact .inr ⟨g, cap, cur, g1, Nat.le_trans k.size g2, g3⟩
theorem run_toBytes {P : Program} (w : World) (bs : List UInt8) (src dst e : TypeId) (hs : P.underlying src = some .string) (hd : P.underlying dst = some (.slice e)) (he : P.underlying e = some (.int .u8)) (hl : bs.length ≤ maxLen) :
    ∃ cap w', (convert src dst (.string ⟨bs.toArray⟩)).run P w = .ok (.slice (some ⟨w.heap.size, 0, none⟩) bs.length cap) w' ∧ Ext w w' ∧ Rd w' (.slice (some ⟨w.heap.size, 0, none⟩) bs.length cap) bs := by
  have hr := Lib.run_convert_string_bytes (P := P) w src dst e ⟨bs.toArray⟩ hs hd he
  have hsz : (⟨bs.toArray⟩ : ByteArray).size = bs.length := by simp [ByteArray.size]
  rw [hsz] at hr
  refine ⟨_, _, hr, ⟨?_, ?_, ?_, ?_, fun k hk _ => Lib.bytesWorld_at_old w e _ k hk⟩, _, _, rfl, grownCap_ge _ _ _ _, grownCap_le_maxLen _ _ _ _ hl, (fun h => by cases h), fun x hx => ?_⟩
  · unfold Lib.bytesWorld World.freeze; split <;> rfl
  · unfold Lib.bytesWorld World.freeze; split <;> rfl
  · unfold Lib.bytesWorld World.freeze; split <;> rfl
  · rw [Lib.bytesWorld_size]; omega
  · cases hx
    intro j u hu
    refine ⟨w.heap.size, 0, rfl, ?_⟩
    have hj : j < bs.length := by have := (List.getElem?_eq_some_iff.1 hu).1; simpa using this
    rw [Nat.zero_add, Lib.bytesWorld_cell w e _ j (by rw [hsz]; exact hj)]
    have : (cellsB bs)[j]? = some (cellB bs[j]) := by simp [cellsB, hj]
    rw [this] at hu
    cases hu
    simp [cellB, hj]
theorem _root_.Go.World.ownsRow.ext {w w' : World} {base : Nat} {e : TypeId} {size : Nat} {v : Value} {n : Nat} {xs : List Value} (h : w.ownsRow base e size v n xs) (k : Ext w w') : w'.ownsRow base e size v n xs := by
  refine ⟨h.1, ?_⟩
  rcases h.2 with g | ⟨g, cap, cur, g1, g2, g3, g4⟩
  · exact .inl g
  · exact .inr ⟨g, cap, cur, g1, g2, by rw [k.block g (Array.getElem?_eq_some_iff.1 g3).1 (fun f => f)]; exact g3, g4⟩
theorem ret_int {k : IntKind} {a b : Int} (h : a = b) : Ending.returned (.int k a) = .returned (.int k b) := by rw [h]
section
variable {P : Program} {a : Act} {w : World} {Q : Exit → Act → World → Prop}
theorem wp_scope_label {c rest : Code} (l : Nat) (J : Act → World → Prop) (μ : Act → World → Nat) (hf : findLabel c l = some (.seq .skip rest))
    (pass : ∀ a w, J a w → rest.wp P (Exit.jump l (fun a' w' => J a' w' ∧ μ a' w' < μ a w) Q) a w)
    (first : (∀ a w, J a w → rest.wp P (Exit.jump l J Q) a w) → c.wp P (Exit.jump l J Q) a w) : (Code.scope c).wp P Q a w :=
  wp_scope_jumps l J μ hf (first fun a w h => wp_mono (pass a w h) fun e a w q => by
    cases e with
    | goto k => exact ⟨q.1, q.2.1⟩
    | _ => exact q) fun a w h => wp_seq (wp_skip (pass a w h))
end
def NoByte (u : Value) : Prop := ∀ b, u ≠ cellB b
theorem noByte_i64 (n : Int) : NoByte (.int .i64 n) := fun b h => by simp [cellB] at h
theorem noByte_slice (a : Option Addr) (l c : Nat) : NoByte (.slice a l c) := fun b h => by simp [cellB] at h
theorem Rd.setCell {w : World} {v : Value} {bs : List UInt8} (h : Rd w v bs) {p : Addr} {u0 : Value} (hp : w.cell? p = some u0) (hn : NoByte u0) (u : Value) : Rd (w.setCell p u) v bs := by
  obtain ⟨ao, cap, h1, h2, h3, h4, h5⟩ := h
  refine ⟨ao, cap, h1, h2, h3, h4, fun x hx j c hc => ?_⟩
  obtain ⟨b, off, rfl, h7⟩ := h5 x hx j c hc
  refine ⟨b, off, rfl, ?_⟩
  rw [World.cell?_setCell_other]
  · exact h7
  · rintro rfl
    rw [hp] at h7
    cases h7
    obtain ⟨b', _, hb'⟩ := List.mem_map.1 (List.mem_of_getElem? hc)
    exact hn b' hb'.symm
theorem Rd.drop {w : World} {b off cap : Nat} {bs : List UInt8} (h : Rd w (.slice (some ⟨b, off, none⟩) bs.length cap) bs) (n : Nat) (hn : n ≤ bs.length) (ao : Option Addr)
    (ha : ao = some ⟨b, off + n, none⟩ ∨ (n = bs.length ∧ ∃ x, ao = some ⟨b, x, none⟩)) : Rd w (.slice ao (bs.length - n) (cap - n)) (bs.drop n) := by
  obtain ⟨ao', cap', e, h2, h3, h4, h5⟩ := h
  simp only [Value.slice.injEq, true_and] at e
  obtain ⟨rfl, rfl⟩ := e
  refine ⟨ao, cap - n, by simp, by simp; omega, by omega, ?_, ?_⟩
  · rintro rfl
    rcases ha with ha | ⟨_, x, ha⟩ <;> cases ha
  · intro x hx j u hu
    have hu' : (cellsB bs)[n + j]? = some u := by simpa [cellsB, List.getElem?_drop] using hu
    obtain ⟨b', off', e', h6⟩ := h5 _ rfl (n + j) u hu'
    cases e'
    rcases ha with ha | ⟨rfl, x', ha⟩
    · rw [hx] at ha
      cases ha
      exact ⟨b, off + n, rfl, by rw [Nat.add_assoc]; exact h6⟩
    · simp [cellsB] at hu
theorem Rd.take {w : World} {ao : Option Addr} {cap : Nat} {bs : List UInt8} (h : Rd w (.slice ao bs.length cap) bs) (n : Nat) (hn : n ≤ bs.length) : Rd w (.slice ao n cap) (bs.take n) := by
  obtain ⟨ao', cap', e, h2, h3, h4, h5⟩ := h
  simp only [Value.slice.injEq, true_and] at e
  obtain ⟨rfl, rfl⟩ := e
  refine ⟨ao, cap, by simp [hn], by simp; omega, h3, h4, fun x hx j u hu => h5 x hx j u ?_⟩
  have hj : j < n := by
    have := (List.getElem?_eq_some_iff.1 hu).1
    simp at this; omega
  simpa [cellsB, List.getElem?_take, hj] using hu
section
variable {P : Program} {ops : Array Oper} {V : Tmp → Value → World → Prop} {R : World → World → Prop} {w0 : World} {a0 : Act} {i : Nat} {o : Oper}
structure Stable (V : Tmp → Value → World → Prop) (R : World → World → Prop) : Prop where
  trans : ∀ a b c, R a b → R b c → R a c
  keeps : ∀ d v w w', R w w' → V d v w → V d v w'
theorem StepOK.plain (hS : Stable V R) (hg : o.guard = none)
    (h : ∀ ρ w, Env ρ → R w0 w → (∀ t, Fact ops V a0 i o ρ w t) → Exec P ρ o w fun v w' => (∀ d, o.dst = some d → V d v w') ∧ R w w') :
    StepOK P ops V (fun _ w => R w0 w) a0 i o := by
  intro ρ w L hρ hw _ _ hf _
  refine ⟨fun _ => (h ρ w hρ hw hf).mono fun v w' ⟨h1, h2⟩ => ⟨h1, fun d v => hS.keeps d v w w' h2, hS.trans _ _ _ hw h2⟩, fun hn => ?_⟩
  simp [wantedBy, hg] at hn
end
structure Kn where
  holds : Value → World → Prop
  keeps : ∀ v w w', Ext w w' → holds v w → holds v w'
def Kn.is (x : Value) : Kn := ⟨fun v _ => v = x, fun _ _ _ _ h => h⟩
def Kn.rd (bs : List UInt8) : Kn := ⟨fun v w => Rd w v bs, fun _ _ _ k h => h.ext k⟩
def Kn.sl (n : Nat) (cs : List Value) : Kn := ⟨fun v w => Sl w v n cs, fun _ _ _ k h => h.ext k⟩
def Kn.any : Kn := ⟨fun _ _ => True, fun _ _ _ _ _ => trivial⟩
abbrev knV (T : Tmp → Kn) : Tmp → Value → World → Prop := fun d v w => (T d).holds v w
theorem kn_stable (T : Tmp → Kn) : Stable (knV T) Ext := ⟨fun _ _ _ => Ch.trans, fun d v w w' k h => (T d).keeps v w w' k h⟩
section
variable {P : Program} {ρ : Operand → Value} {o : Oper} {w : World} {T : Tmp → Kn} {d : Tmp}
theorem Exec.call {Φ : Value → World → Prop} {f : FuncId} {fn : Func} {xs : Array Operand} {ats : Array TypeId} (vs : Array Value) (hρ : Env ρ)
    (ho : o.op = .call { callee := .value (.func f), args := xs, argTypes := ats }) (hx : xs.map ρ = vs)
    (hf : P.funcs[f]? = some fn) (hn : (fn.name == "runtime.NumGoroutine") = false) (hb : fn.body.isNone = false)
    (h : Calls P f vs w fun e w' => ∃ v, e = .returned v ∧ Φ v w') : Exec P ρ o w Φ := by
  refine Exec.enter (f := f) (args := vs) (w' := w) ?_ h
  unfold execOp
  rw [ho]
  simp only [resolve, hx, hρ.func, Deferred.ofValue, Sem.run_bind, Sem.run_pure, Result.andThen_ok, invoke, Array.empty_append, Array.append_empty]
  have hn' : ¬ fn.name = "runtime.NumGoroutine" := by simpa using hn
  have hb' : ¬ fn.body = none := by intro e; rw [e] at hb; cases hb
  simp [callFunc, hf, hn', hb']
theorem Exec.same {v : Value} (hd : o.dst = some d) (hr : (execOp ρ o).run P w = .ok (.value v) w) (hv : (T d).holds v w) :
    Exec P ρ o w fun v w' => (∀ d, o.dst = some d → knV T d v w') ∧ Ext w w' :=
  Exec.value hr ⟨fun d' h => by rw [hd] at h; cases h; exact hv, Ch.refl _ _⟩
theorem Exec.kmove {x : Operand} (ho : o.op = .move x) (hd : o.dst = some d) (hv : (T d).holds (ρ x) w) :
    Exec P ρ o w fun v w' => (∀ d, o.dst = some d → knV T d v w') ∧ Ext w w' :=
  Exec.same hd (by unfold execOp; rw [ho]; rfl) hv
theorem Exec.kassign {x : Operand} (ho : o.op = .assign x) (hd : o.dst = some d) (hv : (T d).holds (ρ x) w) :
    Exec P ρ o w fun v w' => (∀ d, o.dst = some d → knV T d v w') ∧ Ext w w' :=
  Exec.same hd (by unfold execOp; rw [ho]; rfl) hv
theorem Exec.kcall {f : FuncId} {fn : Func} {xs : Array Operand} {ats : Array TypeId} (vs : Array Value) (hρ : Env ρ)
    (ho : o.op = .call { callee := .value (.func f), args := xs, argTypes := ats }) (hd : o.dst = some d) (hx : xs.map ρ = vs)
    (hf : P.funcs[f]? = some fn) (hn : (fn.name == "runtime.NumGoroutine") = false) (hb : fn.body.isNone = false)
    (h : Calls P f vs w fun e w' => ∃ v, e = .returned v ∧ (T d).holds v w' ∧ Ext w w') :
    Exec P ρ o w fun v w' => (∀ d, o.dst = some d → knV T d v w') ∧ Ext w w' :=
  Exec.call vs hρ ho hx hf hn hb (h.mono fun e w' ⟨v, h1, h2, h3⟩ => ⟨v, h1, fun d' h => by rw [hd] at h; cases h; exact h2, h3⟩)
end
section
variable {P : Program} {Q : Exit → Act → World → Prop} {a0 : Act}
theorem wp_region_ext {id : Nat} {l : List Oper} {w0 : World} (T : Tmp → Kn)
    (hm : P.follows .mixedOrders = true) (hg : goodOps l.toArray = true) (hdst : (l.all fun o => match o.dst with | some d => decide (d < a0.tmps.size) | none => true) = true)
    (hall : AllOK P l.toArray (knV T) (fun _ w => Ext w0 w) a0 0 l)
    (fin : ∀ (ν : Tmp → Value) (w : World), (∀ (i : Nat) (d : Tmp), (l[i]?).bind (·.dst) = some d → (T d).holds (ν d) w) → Ext w0 w → Q .normal ⟨ended l ν a0.tmps, a0.defers⟩ w) :
    (Code.region id l.toArray true).wp P Q a0 w0 :=
  wp_region_inv (knV T) (fun _ w => Ext w0 w) hm hg hdst (Ch.drew (Ch.refl _ _)) hall fun ν w h => fin ν w fun i d hd => by
    cases ho : l[i]? with
    | none => simp [ho] at hd
    | some o => exact h o (List.mem_of_getElem? ho) d (by simpa [ho] using hd)
end
theorem rd_new (w : World) (bs : List UInt8) (E : TypeId) (h : bs.length ≤ maxLen) : Rd (w.alloc (.cells (cellsB bs).toArray E)) (.slice (some ⟨w.heap.size, 0, none⟩) bs.length bs.length) bs :=
  ⟨_, bs.length, rfl, Nat.le_refl _, h, (fun h => by cases h), fun x hx => by
    cases hx
    intro j u hu
    refine ⟨w.heap.size, 0, rfl, ?_⟩
    have := new_cells w (cellsB bs) E j u hu
    rwa [Addr.add_lit] at this⟩
theorem Ch.transOnly {a b c : World} {r : Nat} (h : Ext a b) (k : Ch (fun i => i = r) b c) (hr : a.heap.size ≤ r) : Ext a c :=
  h.transNew (k.mono fun i _ hi => .inr (by omega))
theorem run_streq {P : Program} (w : World) {t : TypeId} (h : P.underlying t = some .string) (a b : List UInt8) :
    (binOp .eql t (strV a) (strV b)).run P w = .ok (.bool (decide (a = b))) w := by
  have e : (a == b) = decide (a = b) := by rw [Bool.eq_iff_iff]; simp
  simp only [strV, binOp, Op.stringOp, ByteArray.toList_mk, e]
  rfl
theorem Exec.kstreq {P : Program} {ρ : Operand → Value} {o : Oper} {w : World} {T : Tmp → Kn} {d : Tmp} {t ty : TypeId} {x y : Operand} {a b : List UInt8} (ho : o.op = .binOp .eql t x y ty) (hd : o.dst = some d)
    (h : P.underlying t = some .string) (hx : ρ x = strV a) (hy : ρ y = strV b) (hv : (T d).holds (.bool (decide (a = b))) w) :
    Exec P ρ o w fun v w' => (∀ d, o.dst = some d → knV T d v w') ∧ Ext w w' :=
  Exec.same (v := .bool (decide (a = b))) hd (by
    unfold execOp; rw [ho]
    have hg : (eqGuard .eql t x y (strV a) (strV b)).run P w = .ok () w := by simp [eqGuard, strV]
    simp only [hx, hy, Sem.run_bind, hg, Result.andThen_ok, run_streq w h, Sem.run_pure]) hv
theorem wf_u8_bd {n : Int} (h : (Lit.int .u8 n).wf = true) : 0 ≤ n ∧ n ≤ 255 := by
  have h' : (decide (IntKind.u8.min ≤ n) && decide (n ≤ IntKind.u8.max)) = true := h
  rw [Bool.and_eq_true, decide_eq_true_eq, decide_eq_true_eq] at h'
  exact h'
theorem wf_u64_bd {n : Int} (h : (Lit.int .u64 n).wf = true) : 0 ≤ n ∧ n ≤ 18446744073709551615 := by
  have h' : (decide (IntKind.u64.min ≤ n) && decide (n ≤ IntKind.u64.max)) = true := h
  rw [Bool.and_eq_true, decide_eq_true_eq, decide_eq_true_eq] at h'
  exact h'
theorem wf_i64_bd {n : Int} (h : (Lit.int .i64 n).wf = true) : -9223372036854775808 ≤ n ∧ n ≤ 9223372036854775807 := by
  have h' : (decide (IntKind.i64.min ≤ n) && decide (n ≤ IntKind.i64.max)) = true := h
  rw [Bool.and_eq_true, decide_eq_true_eq, decide_eq_true_eq] at h'
  exact h'
theorem rd_of_row {w : World} {a : Option Addr} {len cap : Nat} {zs : List Int}
    (h : (a = none ∧ len = 0 ∧ cap = 0 ∧ zs = []) ∨ ∃ x, a = some x ∧ len ≤ cap ∧ cap ≤ maxLen ∧ zs.length = cap ∧ (∀ i, i < zs.length → w.cell? (x.add i) = some (.int .u8 (zs.getD i 0))) ∧ ∀ n ∈ zs, (Lit.int .u8 n).wf = true) :
    ∃ bs : List UInt8, bs.length = len ∧ Rd w (.slice a len cap) bs := by
  rcases h with ⟨rfl, rfl, rfl, rfl⟩ | ⟨x, rfl, h1, h2, h3, h4, h5⟩
  · exact ⟨[], rfl, none, 0, rfl, Nat.le_refl _, Nat.zero_le _, fun _ => rfl, fun x hx => by cases hx⟩
  · have hlen : ((zs.take len).map fun n => UInt8.ofNat n.toNat).length = len := by simp; omega
    refine ⟨(zs.take len).map fun n => UInt8.ofNat n.toNat, hlen, some x, cap, by rw [hlen], by omega, h2, (fun h => by cases h), fun y hy j u hu => ?_⟩
    cases hy
    have hj : j < len := by have := (List.getElem?_eq_some_iff.1 hu).1; simp at this; omega
    have hc := h4 j (by omega)
    have hz : zs[j]'(by omega) ∈ zs := List.getElem_mem _
    have hw := wf_u8_bd (h5 _ hz)
    have hg : zs.getD j 0 = zs[j]'(by omega) := by rw [List.getD_eq_getElem?_getD, List.getElem?_eq_getElem (by omega)]; rfl
    rw [hg] at hc
    have hsp := World.cell?_spot hc
    obtain ⟨b, off, sp⟩ := x
    have hsp' : sp = none := by
      unfold Addr.add at hsp
      split at hsp
      · exact hsp
      · rename_i hj0
        by_cases hcap : 0 < cap
        · have := World.cell?_spot (h4 0 (by omega))
          simpa [Addr.add] using this
        · omega
    subst hsp'
    refine ⟨b, off, rfl, ?_⟩
    rw [Addr.add_lit] at hc
    rw [hc]
    have e : (cellsB ((zs.take len).map fun n => UInt8.ofNat n.toNat))[j]? = some (cellB (UInt8.ofNat (zs[j]'(by omega)).toNat)) := by
      simp [cellsB, List.getElem?_take, hj, show j < zs.length by omega]
    rw [e] at hu
    cases hu
    rw [cellB_ofNat (by omega)]
    congr 2
    omega
theorem toList_beq (a b : List UInt8) : ((⟨a.toArray⟩ : ByteArray).toList == (⟨b.toArray⟩ : ByteArray).toList) = decide (a = b) := by
  rw [ByteArray.toList_mk, ByteArray.toList_mk, Bool.eq_iff_iff]; simp
def reach (ops : Array Oper) : Nat → List Nat → List Nat
  | 0, l => l
  | n + 1, l => reach ops n (l ++ l.flatMap fun j => ((ops[j]?).map deps).getD [])
theorem reach_listed {ops : Array Oper} {L : Nat → Bool} (hc : ∀ (j : Nat) (p : Oper), ops[j]? = some p → L j = true → ∀ k ∈ deps p, L k = true) :
    ∀ (n : Nat) (l : List Nat), (∀ j ∈ l, L j = true) → ∀ j ∈ reach ops n l, L j = true
  | 0, l, h, j, hj => h j hj
  | n + 1, l, h, j, hj => reach_listed hc n _ (fun k hk => by
      rcases List.mem_append.1 hk with hk | hk
      · exact h k hk
      · obtain ⟨i, hi, hk⟩ := List.mem_flatMap.1 hk
        cases ho : ops[i]? with
        | none => simp [ho] at hk
        | some p => simp only [ho, Option.map_some, Option.getD_some] at hk; exact hc i p ho (h i hi) k hk) j hj
def Kn.pure (k : Kn) : Prop := ∀ v w w', k.holds v w → k.holds v w'
theorem Kn.is_pure (x : Value) : (Kn.is x).pure := fun _ _ _ h => h
theorem Kn.any_pure : Kn.any.pure := fun _ _ _ _ => trivial
def lastS (w0 : World) (m : Nat) (Fin : World → Prop) (L : Nat → Bool) (w : World) : Prop := if L m = true then Fin w else Ext w0 w
section
variable {P : Program} {ops : Array Oper} {T : Tmp → Kn} {w0 : World} {a0 : Act} {i m : Nat} {o : Oper} {Fin : World → Prop}
def lastOk (ops : Array Oper) (m : Nat) : Bool := (List.range m).all fun i => (reach ops 4 [m]).contains i
theorem StepOK.early (hT : ∀ d, (T d).pure) (hm : lastOk ops m = true) (him : i < m) (hg : o.guard = none)
    (h : ∀ ρ w, Env ρ → Ext w0 w → (∀ t, Fact ops (knV T) a0 i o ρ w t) → Exec P ρ o w fun v w' => (∀ d, o.dst = some d → knV T d v w') ∧ Ext w w') :
    StepOK P ops (knV T) (lastS w0 m Fin) a0 i o := by
  intro ρ w L hρ hw hi _ hf hc
  have hLm : L m = false := by
    rcases Bool.eq_false_or_eq_true (L m) with h1 | h1
    · have h2 := List.all_eq_true.1 hm i (List.mem_range.2 him)
      have := reach_listed (L := L) (fun j p => hc j p) 4 [m] (by simpa using h1) i (by simpa using h2)
      rw [hi] at this; cases this
    · exact h1
  have hw' : Ext w0 w := by unfold lastS at hw; rw [hLm] at hw; simpa using hw
  refine ⟨fun _ => (h ρ w hρ hw' hf).mono fun v w' ⟨h1, h2⟩ => ⟨h1, fun d v => hT d v w w', ?_⟩, fun hn => ?_⟩
  · have : (fun j => j == i || L j) m = false := by simp [hLm]; omega
    unfold lastS
    rw [this]
    simpa using hw'.trans h2
  · simp [wantedBy, hg] at hn
theorem StepOK.last (hT : ∀ d, (T d).pure) (hg : o.guard = none)
    (h : ∀ ρ w, Env ρ → Ext w0 w → (∀ t, Fact ops (knV T) a0 m o ρ w t) → Exec P ρ o w fun v w' => (∀ d, o.dst = some d → knV T d v w') ∧ Fin w') :
    StepOK P ops (knV T) (lastS w0 m Fin) a0 m o := by
  intro ρ w L hρ hw hi _ hf _
  have hw' : Ext w0 w := by unfold lastS at hw; rw [hi] at hw; simpa using hw
  refine ⟨fun _ => (h ρ w hρ hw' hf).mono fun v w' ⟨h1, h2⟩ => ⟨h1, fun d v => hT d v w w', by unfold lastS; simpa using h2⟩, fun hn => ?_⟩
  simp [wantedBy, hg] at hn
end
section
variable {P : Program} {Q : Exit → Act → World → Prop} {a0 : Act}
theorem wp_region_last {id : Nat} {l : List Oper} {w0 : World} (T : Tmp → Kn) (m : Nat) (Fin : World → Prop)
    (hm : P.follows .mixedOrders = true) (hg : goodOps l.toArray = true) (hdst : (l.all fun o => match o.dst with | some d => decide (d < a0.tmps.size) | none => true) = true) (hlen : m < l.length)
    (hall : AllOK P l.toArray (knV T) (lastS w0 m Fin) a0 0 l)
    (fin : ∀ (ν : Tmp → Value) (w : World), (∀ (i : Nat) (d : Tmp), (l[i]?).bind (·.dst) = some d → (T d).holds (ν d) w) → Fin w → Q .normal ⟨ended l ν a0.tmps, a0.defers⟩ w) :
    (Code.region id l.toArray true).wp P Q a0 w0 :=
  wp_region_inv (knV T) (lastS w0 m Fin) hm hg hdst (by unfold lastS; simpa using Ch.drew (Ch.refl _ _)) hall fun ν w h hs => fin ν w (fun i d hd => by
    cases ho : l[i]? with
    | none => simp [ho] at hd
    | some o => exact h o (List.mem_of_getElem? ho) d (by simpa [ho] using hd)) (by unfold lastS at hs; simpa [hlen] using hs)
end
theorem run_indexSl {P : Program} (w : World) {t e : TypeId} {inf : TypeInfo} {sz : Nat} (h : P.underlying t = some (.slice e)) (hinf : P.info? e = some inf) (hsz : inf.size = sz) (b off len cap i : Nat) (hi : i < len) :
    (Instr.indexAt t (.slice (some ⟨b, off, none⟩) len cap) (.int .i64 (i : Int))).run P w = .ok (.pointer (some ⟨b, off + i * sz, none⟩)) w := by
  have h1 : ((i : Nat) : Int) < (len : Int) := by omega
  simp [go_sem, h, hi, h1, sizeOf, typeInfo, hinf, hsz]
section
variable {P : Program} {ρ : Operand → Value} {o : Oper} {w : World} {T : Tmp → Kn} {d : Tmp}
theorem Exec.kindex {t e : TypeId} {inf : TypeInfo} {sz : Nat} {x y : Operand} {b off len cap i : Nat} (ho : o.op = .indexAddr t x y) (hd : o.dst = some d) (h : P.underlying t = some (.slice e)) (hinf : P.info? e = some inf) (hsz : inf.size = sz)
    (hx : ρ x = .slice (some ⟨b, off, none⟩) len cap) (hy : ρ y = .int .i64 (i : Int)) (hi : i < len) (hv : (T d).holds (.pointer (some ⟨b, off + i * sz, none⟩)) w) :
    Exec P ρ o w fun v w' => (∀ d, o.dst = some d → knV T d v w') ∧ Ext w w' :=
  Exec.same hd (by unfold execOp; rw [ho]; simp only [hx, hy, Sem.run_bind, run_indexSl w h hinf hsz b off len cap i hi, Result.andThen_ok, Sem.run_pure]) hv
end
theorem rd_of_heap {w : World} {g sz : Nat} {bs : List UInt8} {E : TypeId} (h : w.heap[g]? = some (.cells (cellsB bs).toArray E (0, 0))) (hl : bs.length = sz) (hm : sz ≤ maxLen) : Rd w (.slice (some ⟨g, 0, none⟩) sz sz) bs := by
  subst hl
  refine ⟨_, bs.length, rfl, Nat.le_refl _, hm, (fun h => by cases h), fun x hx j u hu => ?_⟩
  cases hx
  refine ⟨g, 0, rfl, ?_⟩
  rw [Nat.zero_add, cell_of_row w g j _ _ _ h]
  simpa using hu
end Go.Lac
namespace Go.Lac
open Go Go.RowKit
theorem elem_eq {P : Program} {t e : TypeId} (h : P.underlying t = some (.slice e)) : P.elem t = e := by simp [Program.elem, h]
section
variable {P : Program} {w : World} {t e : TypeId} {inf : TypeInfo}
end
section
variable {P : Program} {ρ : Operand → Value} {o : Oper} {w : World} {T : Tmp → Kn} {d : Tmp} {t e : TypeId} {inf : TypeInfo}
theorem Exec.kalloc {v : Value} {ob : Obj} (hd : o.dst = some d) (hr : (execOp ρ o).run P w = .ok (.value v) (w.alloc ob)) (hv : (T d).holds v (w.alloc ob)) :
    Exec P ρ o w fun v w' => (∀ d, o.dst = some d → knV T d v w') ∧ Ext w w' :=
  .value hr ⟨fun d' h => by rw [hd] at h; cases h; exact hv, (Ch.refl _ _).alloc _⟩
end
end Go.Lac
namespace Go.Lac
open Go Go.RowKit
def Parts (w : World) (v : Value) (bss : List (List UInt8)) : Prop :=
  ∃ ao cap, v = .slice ao bss.length cap ∧ bss.length ≤ maxLen ∧ ∀ k (h : k < bss.length), ∃ b off u, ao = some ⟨b, off, none⟩ ∧ w.cell? ⟨b, off + k, none⟩ = some u ∧ Rd w u bss[k]
theorem Parts.ext {w w' : World} {v : Value} {bss : List (List UInt8)} (h : Parts w v bss) (k : Ext w w') : Parts w' v bss := by
  obtain ⟨ao, cap, h1, h2, h3⟩ := h
  refine ⟨ao, cap, h1, h2, fun j hj => ?_⟩
  obtain ⟨b, off, u, g1, g2, g3⟩ := h3 j hj
  exact ⟨b, off, u, g1, k.cell (fun f => f) u g2, g3.ext k⟩
def Kn.parts (bss : List (List UInt8)) : Kn := ⟨fun v w => Parts w v bss, fun _ _ _ k h => h.ext k⟩
theorem parts_two {w : World} {v v' : Value} {bs bs' : List UInt8} (h : Rd w v bs) (h' : Rd w v' bs') (E : TypeId) : Parts (w.alloc (.cells #[v, v'] E)) (.slice (some ⟨w.heap.size, 0, none⟩) 2 2) [bs, bs'] := by
  refine ⟨_, _, rfl, by unfold maxLen; simp, fun k hk => ?_⟩
  match k, hk with
  | 0, _ => exact ⟨w.heap.size, 0, v, rfl, by rw [cell_of_row _ _ _ _ _ _ (heap_alloc_new w _)]; rfl, h.ext ((Ch.refl _ _).alloc _)⟩
  | 1, _ => exact ⟨w.heap.size, 0, v', rfl, by rw [cell_of_row _ _ _ _ _ _ (heap_alloc_new w _)]; rfl, h'.ext ((Ch.refl _ _).alloc _)⟩
theorem rd_nil (w : World) : Rd w (.slice none 0 0) [] :=
  ⟨none, 0, rfl, Nat.le_refl _, by unfold maxLen; simp, fun _ => rfl, fun x hx => by cases hx⟩
theorem bytes_cell {w : World} {v : Value} {l : List UInt8} (h : Rd w v l) {ao : Option Addr} {cap : Nat} (hv : v = .slice ao l.length cap) (h0 : 0 < l.length) :
    ∃ b off, ao = some ⟨b, off, none⟩ ∧ l.length ≤ cap ∧ cap ≤ maxLen ∧ ∀ j (hj : j < l.length), w.cell? ⟨b, off + j, none⟩ = some (.int .u8 (l[j].toNat : Nat)) := by
  obtain ⟨ao', cap', e, h1, h2, h3, h4⟩ := h
  rw [hv] at e
  simp only [Value.slice.injEq, true_and] at e
  obtain ⟨rfl, rfl⟩ := e
  cases ao with
  | none => have := h3 rfl; omega
  | some x =>
    obtain ⟨b, off, rfl, _⟩ := h4 x rfl 0 (cellB l[0]) (by simp [cellsB, h0])
    refine ⟨b, off, rfl, h1, h2, fun j hj => ?_⟩
    obtain ⟨b', off', e', h5⟩ := h4 _ rfl j (cellB l[j]) (by simp [cellsB, hj])
    cases e'
    exact h5
section
variable {P : Program} {w : World} {t e : TypeId} {inf : TypeInfo}
theorem run_take (h : P.underlying t = some (.slice e)) (hinf : P.info? e = some inf) (hsz : inf.size = 1) {v : Value} {bs : List UInt8} (hr : Rd w v bs) (n : Nat) (hn : n ≤ bs.length) :
    ∃ v', (Instr.sliceAt t v none (some (.int .i64 (n : Nat))) none).run P w = .ok v' w ∧ Rd w v' (bs.take n) := by
  obtain ⟨ao, cap, rfl⟩ := hr.shape
  have hc : bs.length ≤ cap := by obtain ⟨_, _, g0, g1, _⟩ := hr; cases g0; exact g1
  have he := elem_eq h
  have h' : P.underlying t = some (.slice (P.elem t)) := by rw [he]; exact h
  have hs : sliced ao 0 n cap 1 = .slice ao n cap := by
    unfold sliced
    cases ao with
    | none => simp
    | some a => obtain ⟨b, off, s⟩ := a; simp [Addr.add]
  refine ⟨.slice ao n cap, ?_, hr.take n hn⟩
  rw [run_sliceAt_slice (h := h'), run_slice_h (ht := h') (h0 := by omega) (h2 := by omega), he]
  simp [sizeOf, typeInfo, hinf, hsz, hs]
theorem run_list_two (hu : P.underlying t = some (.slice e)) (hie : P.info? e = some inf) (hz : inf.zero = some (.slice none 0 0)) (hsz : inf.size = 1) (a : Option Addr) (len cap : Nat) (a' : Option Addr) (len' cap' : Nat) :
    (Instr.buildSlice t 2 #[(0, .slice a len cap), (1, .slice a' len' cap')]).run P w = .ok (.slice (some ⟨w.heap.size, 0, none⟩) 2 2) (w.alloc (.cells #[.slice a len cap, .slice a' len' cap'] e)) := by
  refine run_buildSlice w t e 2 _ _ inf _ hu hie hz (by rw [hsz]; decide) (by rw [hsz]; decide) ?_
  rw [hsz]
  simp [Instr.fill, Value.cells]
  rw [show Array.range 2 = #[0, 1] from rfl]
  simp
end
section
variable {P : Program} {ρ : Operand → Value} {o : Oper} {w : World} {T : Tmp → Kn} {d : Tmp} {t e : TypeId} {inf : TypeInfo}
theorem Exec.ktake {x y : Operand} {bs : List UInt8} {n : Nat} (ho : o.op = .slice t x none (some y) none) (hd : o.dst = some d) (h : P.underlying t = some (.slice e)) (hinf : P.info? e = some inf) (hsz : inf.size = 1)
    (hx : Rd w (ρ x) bs) (hy : ρ y = .int .i64 (n : Nat)) (hn : n ≤ bs.length) (hv : ∀ v, Rd w v (bs.take n) → (T d).holds v w) :
    Exec P ρ o w fun v w' => (∀ d, o.dst = some d → knV T d v w') ∧ Ext w w' := by
  obtain ⟨v', r1, r2⟩ := run_take (P := P) (t := t) h hinf hsz hx n hn
  exact Exec.same hd (by unfold execOp; rw [ho]; simp only [Option.map_some, Option.map_none, hy, Sem.run_bind, r1, Result.andThen_ok, Sem.run_pure]) (hv _ r2)
theorem Exec.klen {x : Operand} {bs : List UInt8} {ats : Array TypeId} (ho : o.op = .call { callee := .builtin .len, args := #[x], argTypes := #[t] }) (hd : o.dst = some d) (h : P.underlying t = some (.slice e))
    (hx : Rd w (ρ x) bs) (hv : (T d).holds (.int .i64 (bs.length : Nat)) w) :
    Exec P ρ o w fun v w' => (∀ d, o.dst = some d → knV T d v w') ∧ Ext w w' := by
  obtain ⟨ao, cap, hs⟩ := hx.shape
  have hu : ∀ w : World, (underlying t).run P w = .ok (.slice e) w := fun w => run_underlying h w
  refine Exec.same hd ?_ hv
  unfold execOp
  rw [ho]
  simp [resolve, invoke, builtin, hs, Builtin.len_, hu, Builtin.lenOf, goInt]
theorem Exec.ktwo {x y : Operand} {bs bs' : List UInt8} (ho : o.op = .buildSlice t 2 #[(0, x), (1, y)]) (hd : o.dst = some d) (hu : P.underlying t = some (.slice e)) (hie : P.info? e = some inf) (hz : inf.zero = some (.slice none 0 0)) (hsz : inf.size = 1)
    (hx : Rd w (ρ x) bs) (hy : Rd w (ρ y) bs') (hv : ∀ v w', Parts w' v [bs, bs'] → (T d).holds v w') :
    Exec P ρ o w fun v w' => (∀ d, o.dst = some d → knV T d v w') ∧ Ext w w' := by
  obtain ⟨a, cap, hs⟩ := hx.shape
  obtain ⟨a', cap', hs'⟩ := hy.shape
  refine Exec.kalloc (v := .slice (some ⟨w.heap.size, 0, none⟩) 2 2) (ob := .cells #[ρ x, ρ y] e) hd ?_ (hv _ _ (parts_two hx hy e))
  unfold execOp; rw [ho]
  simp only [List.map_toArray, List.map_cons, List.map_nil, hs, hs', Sem.run_bind, run_list_two hu hie hz hsz a bs.length cap a' bs'.length cap', Result.andThen_ok, Sem.run_pure]
end
theorem Made.rd {E : TypeId} {bs : List UInt8} {w w' : World} {e : Ending} (h : Made E bs w e w') : ∃ s, e = .returned s ∧ Ext w w' ∧ Rd w' s bs := by
  obtain ⟨s, h1, h2, h3⟩ := h
  exact ⟨s, h1, h2, Rd.ofOwns h3⟩
end Go.Lac
namespace Go.Lac
open Go Go.RowKit
def StepG (P : Program) (ops : Array Oper) (V : (Nat → Bool) → Tmp → Value → World → Prop) (S : (Nat → Bool) → World → Prop) (a0 : Act) (i : Nat) (o : Oper) : Prop :=
  ∀ (ρ : Operand → Value) (w : World) (L : Nat → Bool), Env ρ → S L w → L i = false → (∀ j ∈ deps o, L j = true) → (∀ t, Fact ops (V L) a0 i o ρ w t) →
    (∀ j p, ops[j]? = some p → L j = true → ∀ k ∈ deps p, L k = true) →
    let Φ : Value → World → Prop := fun v w' => (∀ d, o.dst = some d → V (fun j => j == i || L j) d v w') ∧
      (∀ d v, (∃ j p, ops[j]? = some p ∧ L j = true ∧ p.dst = some d) → V L d v w → V (fun j => j == i || L j) d v w') ∧ S (fun j => j == i || L j) w'
    (wantedBy ops o ρ = true → Exec P ρ o w Φ) ∧ (wantedBy ops o ρ = false → Φ undef w)
def AllG (P : Program) (ops : Array Oper) (V : (Nat → Bool) → Tmp → Value → World → Prop) (S : (Nat → Bool) → World → Prop) (a0 : Act) : Nat → List Oper → Prop
  | _, [] => True
  | i, o :: l => StepG P ops V S a0 i o ∧ AllG P ops V S a0 (i + 1) l
theorem AllG.get {P : Program} {ops : Array Oper} {V : (Nat → Bool) → Tmp → Value → World → Prop} {S : (Nat → Bool) → World → Prop} {a0 : Act} :
    ∀ (l : List Oper) (i : Nat), AllG P ops V S a0 i l → ∀ k o, l[k]? = some o → StepG P ops V S a0 (i + k) o
  | [], _, _, k, o, h => by simp at h
  | x :: l, i, h, 0, o, e => by simp at e; subst e; exact h.1
  | x :: l, i, h, k + 1, o, e => by
    have := AllG.get l (i + 1) h.2 k o (by simpa using e)
    rwa [show i + (k + 1) = i + 1 + k by omega]
structure RG (ops : Array Oper) (V : (Nat → Bool) → Tmp → Value → World → Prop) (S : (Nat → Bool) → World → Prop) (a0 : Act) (L : Nat → Bool) (a : Act) (w : World) : Prop where
  size : a.tmps.size = a0.tmps.size
  defers : a.defers = a0.defers
  closed : ∀ i o, ops[i]? = some o → L i = true → ∀ j ∈ deps o, L j = true
  keep : ∀ t, (∀ i o, ops[i]? = some o → L i = true → o.dst ≠ some t) → a.tmps[t]? = a0.tmps[t]?
  val : ∀ i o, ops[i]? = some o → L i = true → ∀ d, o.dst = some d → V L d (a.tmps.getD d undef) w
  st : S L w
section
variable {P : Program} {ops : Array Oper} {Q : Exit → Act → World → Prop} {V : (Nat → Bool) → Tmp → Value → World → Prop} {S : (Nat → Bool) → World → Prop} {a0 : Act}
theorem RG.fact {L : Nat → Bool} {a : Act} {w : World} (h : RG ops V S a0 L a w) {i : Nat} {o : Oper} (ho : ops[i]? = some o) (hi : L i = false)
    (hd : ∀ j ∈ deps o, L j = true) (t : Tmp) : Fact ops (V L) a0 i o a.eval w t := by
  constructor
  · intro hf
    obtain ⟨j, hj, hjt⟩ := List.any_eq_true.1 hf
    cases hoj : ops[j]? with
    | none => simp [hoj] at hjt
    | some p =>
      simp only [hoj, Option.bind_some, beq_iff_eq] at hjt
      exact h.val j p hoj (hd j hj) t hjt
  · intro hf hu
    have hk : a.tmps[t]? = a0.tmps[t]? := h.keep t fun j p hp hL hdst => by
      have hjs : j < ops.size := (Array.getElem?_eq_some_iff.1 hp).1
      have h1 := List.all_eq_true.1 hu j (List.mem_range.2 hjs)
      simp only [hp, Option.bind_some, Option.map_some, Option.getD_some, Bool.or_eq_true, beq_iff_eq, bne_iff_ne, ne_eq, hdst, not_true_eq_false, or_false] at h1
      rcases h1 with h1 | h1
      · subst h1; rw [hi] at hL; cases hL
      · have := h.closed j p hp hL i (by simpa using h1)
        rw [hi] at this; cases this
    simp only [Act.eval, Array.getD_eq_getD_getElem?, hk]
theorem RG.put {L : Nat → Bool} {a : Act} {w w' : World} (h : RG ops V S a0 L a w) (hg : goodOps ops = true) {i : Nat} {o : Oper} (ho : ops[i]? = some o) (hi : L i = false)
    (hd : ∀ j ∈ deps o, L j = true) (hdst : ∀ d, o.dst = some d → d < a0.tmps.size) {v : Value}
    (hΦ : (∀ d, o.dst = some d → V (fun j => j == i || L j) d v w') ∧ (∀ d v, (∃ j p, ops[j]? = some p ∧ L j = true ∧ p.dst = some d) → V L d v w → V (fun j => j == i || L j) d v w') ∧ S (fun j => j == i || L j) w') :
    RG ops V S a0 (fun j => j == i || L j) (a.put o.dst v) w' := by
  obtain ⟨h1, h2, h3⟩ := hΦ
  refine ⟨?_, ?_, ?_, ?_, ?_, h3⟩
  · cases hod : o.dst <;> simp [Act.put, h.size]
  · cases hod : o.dst <;> simp [Act.put, h.defers]
  · intro j p hp hL k hk
    simp only [Bool.or_eq_true, beq_iff_eq] at hL ⊢
    rcases hL with rfl | hL
    · rw [ho] at hp; cases hp
      exact .inr (hd k hk)
    · exact .inr (h.closed j p hp hL k hk)
  · intro t ht
    have hne : o.dst ≠ some t := ht i o ho (by simp)
    have := h.keep t fun j p hp hL => ht j p hp (by simp [hL])
    rw [← this]
    cases hod : o.dst with
    | none => rfl
    | some d =>
      have : d ≠ t := fun e => hne (by rw [hod, e])
      simp [Act.put, Array.getElem?_setIfInBounds_ne this]
  · intro j p hp hL d hpd
    simp only [Bool.or_eq_true, beq_iff_eq] at hL
    by_cases hji : j = i
    · subst hji
      rw [ho] at hp; cases hp
      have hlt := hdst d hpd
      rw [hpd]
      have : (a.tmps.setIfInBounds d v).getD d undef = v := by
        have hs : d < (a.tmps.setIfInBounds d v).size := by simp; rw [h.size]; exact hlt
        simp [Array.getD, h.size, hlt]
      simp only [Act.put, this]
      exact h1 d hpd
    · have hL' : L j = true := hL.resolve_left hji
      have hval := h.val j p hp hL' d hpd
      cases hod : o.dst with
      | none => exact h2 _ _ ⟨j, p, hp, hL', hpd⟩ hval
      | some d' =>
        have hdd : d' ≠ d := fun e => goodOps_dst hg hp ho (Ne.symm hji) hpd (by rw [hod, e])
        have : ((a.put (some d') v).tmps).getD d undef = a.tmps.getD d undef := by
          simp [Act.put, Array.getD_eq_getD_getElem?, Array.getElem?_setIfInBounds_ne hdd]
        rw [this]
        exact h2 _ _ ⟨j, p, hp, hL', hpd⟩ hval
theorem wpAny_gen (hg : goodOps ops = true) (hall : AllG P ops V S a0 0 ops.toList) (hdst : ∀ (i : Nat) (o : Oper), ops[i]? = some o → ∀ d, o.dst = some d → d < a0.tmps.size)
    (fin : ∀ a w, RG ops V S a0 (fun i => decide (i < ops.size)) a w → Q .normal a w) :
    ∀ (fuel : Nat) (listed : Array Bool) (a : Act) (w : World), listed.size = ops.size → leftOver listed = fuel → RG ops V S a0 (allow listed) a w →
      wpAny P .any ops Q fuel listed a w := by
  have done : ∀ (listed : Array Bool) (a : Act) (w : World), listed.size = ops.size → (∀ i, i < ops.size → listed.getD i true = true) → RG ops V S a0 (allow listed) a w → Q .normal a w := by
    intro listed a w hs hl h
    refine fin a w ?_
    have : allow listed = fun i => decide (i < ops.size) := by
      funext i
      unfold allow
      by_cases hi : i < ops.size
      · have := hl i hi
        simpa [Array.getD, hs, hi] using this
      · simp [Array.getD, hs, hi]
    rw [← this]; exact h
  have stuck : ∀ (listed : Array Bool), listed.size = ops.size → Region.ready .any ops listed = [] → ∀ i, i < ops.size → listed.getD i true = true := by
    intro listed hs hr i
    induction i using Nat.strongRecOn with
    | _ i ih =>
      intro hi
      by_cases hb : listed.getD i true = true
      · exact hb
      · have hmem : i ∈ Region.ready .any ops listed := ready_iff.2 ⟨hi, by simpa using hb, ops[i], Array.getElem?_eq_getElem hi, fun j hj => by
          have hlt := goodOps_lt hg (Array.getElem?_eq_getElem hi) j hj
          have := ih j hlt (by omega)
          simpa [Array.getD, hs, show j < ops.size by omega] using this⟩
        rw [hr] at hmem; cases hmem
  intro fuel
  induction fuel with
  | zero =>
    intro listed a w hs hl h
    have hfull : ∀ i, i < ops.size → listed.getD i true = true := fun i hi => leftOver_zero hl (by omega)
    refine ⟨?_, done listed a w hs hfull h⟩
    rw [List.eq_nil_iff_forall_not_mem]
    intro i hi
    obtain ⟨h1, h2, _⟩ := ready_iff.1 hi
    rw [hfull i h1] at h2; cases h2
  | succ fuel ih =>
    intro listed a w hs hl h
    refine ⟨fun hr => done listed a w hs (stuck listed hs hr) h, fun i hi => ?_⟩
    obtain ⟨h1, h2, o, ho, h3⟩ := ready_iff.1 hi
    have hLi : allow listed i = false := by
      have : listed.getD i true = listed[i]'(by omega) := by simp [Array.getD, hs, h1]
      rw [this] at h2
      simp [allow, Array.getD, hs, h1, h2]
    have hLd : ∀ j ∈ deps o, allow listed j = true := h3
    have hstep := AllG.get ops.toList 0 hall i o (by simpa using ho)
    rw [Nat.zero_add] at hstep
    have hs' := hstep a.eval w (allow listed) (env_eval a) h.st hLi hLd (h.fact ho hLi hLd) h.closed
    have hset := allow_set (listed := listed) (i := i) (by omega)
    have hleft := leftOver_set (listed := listed) (i := i) (by omega) h2
    unfold wpOp
    simp only [ho]
    rw [wantedBy_eq] at hs'
    split
    · rename_i hw
      refine .inl ((hs'.1 hw).wp fun v w' hv => ?_)
      refine ih _ _ _ (by simpa using hs) (by omega) ?_
      rw [hset]
      exact h.put hg ho hLi hLd (hdst i o ho) hv
    · rename_i hw
      refine ih _ _ _ (by simpa using hs) (by omega) ?_
      rw [hset]
      exact h.put hg ho hLi hLd (hdst i o ho) (hs'.2 (by simpa using hw))
theorem wp_region_gen {id : Nat} {l : List Oper} {w0 : World} (V : (Nat → Bool) → Tmp → Value → World → Prop) (S : (Nat → Bool) → World → Prop)
    (hm : P.follows .mixedOrders = true) (hg : goodOps l.toArray = true) (hdst : (l.all fun o => match o.dst with | some d => decide (d < a0.tmps.size) | none => true) = true)
    (h0 : S (fun _ => false) w0.drew)
    (hall : AllG P l.toArray V S a0 0 l)
    (fin : ∀ (ν : Tmp → Value) (w : World), (∀ o ∈ l, ∀ d, o.dst = some d → V (fun i => decide (i < l.length)) d (ν d) w) → S (fun i => decide (i < l.length)) w → Q .normal ⟨ended l ν a0.tmps, a0.defers⟩ w) :
    (Code.region id l.toArray true).wp P Q a0 w0 := by
  refine wp_region_any hm ?_
  have hdst' : ∀ (i : Nat) (o : Oper), l.toArray[i]? = some o → ∀ d, o.dst = some d → d < a0.tmps.size := by
    intro i o ho d hd
    have hmem : o ∈ l := by
      have : l[i]? = some o := by simpa using ho
      exact List.mem_of_getElem? this
    have := List.all_eq_true.1 hdst o hmem
    simpa [hd] using this
  refine wpAny_gen (V := V) (S := S) (a0 := a0) hg hall hdst' ?_ _ _ _ _ (by simp) (by simp [leftOver]) ?_
  · intro a w h
    have hv : ∀ o ∈ l, ∀ d, o.dst = some d → V (fun i => decide (i < l.length)) d (a.tmps.getD d undef) w := by
      intro o ho d hd
      obtain ⟨i, hi⟩ := List.mem_iff_getElem?.1 ho
      have hh := h.val i o (by simpa using hi) (by have := (List.getElem?_eq_some_iff.1 hi).1; simpa using this) d hd
      exact hh
    have hq := fin (fun d => a.tmps.getD d undef) w hv (by simpa using h.st)
    have : (⟨ended l (fun d => a.tmps.getD d undef) a0.tmps, a0.defers⟩ : Act) = a := by
      cases a with
      | mk tmps defers =>
        have hdf : defers = a0.defers := h.defers
        have hsz : tmps.size = a0.tmps.size := h.size
        simp only [Act.mk.injEq]
        refine ⟨?_, hdf.symm⟩
        apply Array.ext
        · rw [ended_size]; exact hsz.symm
        · intro t h1 h2
          have h3 : t < a0.tmps.size := by omega
          have e1 := ended_get (fun d => tmps.getD d undef) t l a0.tmps h3
          have e2 : (ended l (fun d => tmps.getD d undef) a0.tmps)[t]? = some tmps[t] := by
            rw [e1]
            split
            · simp [Array.getD, h2]
            · rename_i hno
              have hk := h.keep t fun i o ho _ hd => hno ⟨o, by
                have : l[i]? = some o := by simpa using ho
                exact List.mem_of_getElem? this, hd⟩
              have hk' : tmps[t]? = a0.tmps[t]? := hk
              rw [← hk', Array.getElem?_eq_getElem h2]
          rw [Array.getElem?_eq_getElem h1] at e2
          exact Option.some.inj e2
    rw [this] at hq
    exact hq
  · have hno : allow (Array.replicate l.toArray.size false) = fun _ => false := by
      funext i
      unfold allow
      by_cases hi : i < l.length
      · simp [Array.getD, hi]
      · simp [Array.getD, hi]
    rw [hno]
    exact ⟨rfl, rfl, by simp, by simp, by simp, h0⟩
end
def dedup : List Nat → List Nat
  | [] => []
  | x :: l => if (dedup l).contains x then dedup l else x :: dedup l
theorem mem_dedup : ∀ {l : List Nat} {y : Nat}, y ∈ dedup l → y ∈ l
  | [], _, h => h
  | x :: l, y, h => by
    unfold dedup at h
    split at h
    · exact List.mem_cons_of_mem _ (mem_dedup h)
    · rcases List.mem_cons.1 h with rfl | h
      · exact List.mem_cons_self
      · exact List.mem_cons_of_mem _ (mem_dedup h)
def reachD (ops : Array Oper) : Nat → List Nat → List Nat
  | 0, l => l
  | n + 1, l => reachD ops n (dedup (l ++ l.flatMap fun j => ((ops[j]?).map deps).getD []))
theorem reachD_listed {ops : Array Oper} {L : Nat → Bool} (hc : ∀ (j : Nat) (p : Oper), ops[j]? = some p → L j = true → ∀ k ∈ deps p, L k = true) :
    ∀ (n : Nat) (l : List Nat), (∀ j ∈ l, L j = true) → ∀ j ∈ reachD ops n l, L j = true
  | 0, l, h, j, hj => h j hj
  | n + 1, l, h, j, hj => reachD_listed hc n _ (fun k hk => by
      rcases List.mem_append.1 (mem_dedup hk) with hk | hk
      · exact h k hk
      · obtain ⟨i, hi, hk⟩ := List.mem_flatMap.1 hk
        cases ho : ops[i]? with
        | none => simp [ho] at hk
        | some p => simp only [ho, Option.map_some, Option.getD_some] at hk; exact hc i p ho (h i hi) k hk) j hj
def lateOk (ops : Array Oper) (m : Nat) (late : List Tmp) : Bool :=
  (List.range ops.size).all fun j => (decide (j ≤ m) || (reachD ops 12 [j]).contains m) &&
    (match (ops[j]?).bind (·.dst) with | some d => (decide (j < m)) == !(late.contains d) | none => true)
def lateV (T T' : Tmp → Kn) (m : Nat) (L : Nat → Bool) (d : Tmp) (v : Value) (w : World) : Prop := if L m = true then (T' d).holds v w else (T d).holds v w
section
variable {P : Program} {ops : Array Oper} {T T' : Tmp → Kn} {w0 : World} {a0 : Act} {i m : Nat} {o : Oper} {Fin : World → Prop} {late : List Tmp}
theorem early_not {L : Nat → Bool} (hm : (reachD ops 12 [m]).contains i = true) (hi : L i = false) (hc : ∀ (j : Nat) (p : Oper), ops[j]? = some p → L j = true → ∀ k ∈ deps p, L k = true) : L m = false := by
  rcases Bool.eq_false_or_eq_true (L m) with h1 | h1
  · have := reachD_listed (L := L) (fun j p => hc j p) 12 [m] (by simpa using h1) i (by simpa using hm)
    rw [hi] at this; cases this
  · exact h1
theorem lateV_f {L : Nat → Bool} {d : Tmp} {v : Value} {w : World} (h : L m = false) : lateV T T' m L d v w = (T d).holds v w := by unfold lateV; rw [h]; simp
theorem lastS_f {L : Nat → Bool} {w : World} (h : L m = false) : lastS w0 m Fin L w = Ext w0 w := by unfold lastS; rw [h]; simp
theorem lateS_ext {L : Nat → Bool} {w : World} (hw : lastS w0 m Fin L w) (h : L m = false) : Ext w0 w := by unfold lastS at hw; rw [h] at hw; simpa using hw
theorem StepG.early (hm : (reachD ops 12 [m]).contains i = true) (him : i ≠ m) (hg : o.guard = none)
    (h : ∀ ρ w, Env ρ → Ext w0 w → (∀ t, Fact ops (knV T) a0 i o ρ w t) → Exec P ρ o w fun v w' => (∀ d, o.dst = some d → knV T d v w') ∧ Ext w w') :
    StepG P ops (lateV T T' m) (lastS w0 m Fin) a0 i o := by
  intro ρ w L hρ hw hi _ hf hc
  have hLm := early_not hm hi hc
  have hw' := lateS_ext hw hLm
  have hLm' : (fun j => j == i || L j) m = false := by
    have : (m == i) = false := by rw [beq_eq_false_iff_ne]; exact fun h => him h.symm
    simp only [this, hLm, Bool.or_false]
  have hf' : ∀ t, Fact ops (knV T) a0 i o ρ w t := fun t => ⟨fun e => by have := (hf t).1 e; rwa [lateV_f hLm] at this, (hf t).2⟩
  refine ⟨fun _ => (h ρ w hρ hw' hf').mono fun v w' ⟨h1, h2⟩ => ⟨fun d hd => ?_, fun d v _ hv => ?_, ?_⟩, fun hn => ?_⟩
  · rw [lateV_f hLm']; exact h1 d hd
  · rw [lateV_f hLm] at hv; rw [lateV_f hLm']
    exact (T d).keeps v w w' h2 hv
  · rw [lastS_f hLm']; exact hw'.trans h2
  · simp [wantedBy, hg] at hn
end
section
variable {P : Program} {Q : Exit → Act → World → Prop} {a0 : Act}
end
def Kn.own (base : Nat) (E : TypeId) (n : Nat) (cs : List Value) : Kn := ⟨fun v w => w.ownsRow base E 1 v n cs, fun _ _ _ k h => h.ext k⟩
section
variable {P : Program} {ρ : Operand → Value} {o : Oper} {w : World} {T : Tmp → Kn} {d : Tmp} {t e : TypeId} {inf : TypeInfo}
theorem Exec.kappend {s xo : Operand} (ho : o.op = .call { callee := .builtin .append, args := #[s, xo], argTypes := #[t, t] }) (base : Nat) {z : Value} {size bytes : Nat} (ht : P.underlying t = some (.slice e)) (hi : P.info? e = some inf) (hz : inf.zero = some z)
    (hsize : inf.size = size) (hby : inf.bytes = bytes) (hzs : z.cells.size = size) (hsz : 0 < size) {v : Value} {n : Nat} {xs : List Value} (hs : ρ s = v) (hown : w.ownsRow base e size v n xs)
    {m : Nat} {news : List Value} (hx : Sl w (ρ xo) m news) (hl : news.length = m * size) (h1 : ∀ u ∈ news, u.oneCell' = true) (hbytes : (n + m) * bytes ≤ 140737488355328) (h63 : n + m ≤ maxLen) (hbase : base ≤ w.heap.size) :
    Exec P ρ o w fun v' w' => w'.ownsRow base e size v' (n + m) (xs ++ news) ∧ w.grownBy w' v.ownBlock := by
  obtain ⟨v', w', r1, r2, r3⟩ := run_append_sl (P := P) w base t o.type e inf z size bytes ht hi hz hsize hby hzs hsz v n xs hown (ρ xo) m news hx hl h1 hbytes h63 hbase
  refine Exec.value (v := v') (w' := w') ?_ ⟨r2, r3⟩
  unfold execOp
  rw [ho]
  simp only [resolve, invoke, builtin, Sem.run_bind, Sem.run_pure, Result.andThen_ok, List.map_toArray, List.map_cons, List.map_nil, hs, r1]
end
section
variable {P : Program} {w : World}
end
section
variable {P : Program} {ρ : Operand → Value} {o : Oper} {w : World} {T : Tmp → Kn} {d : Tmp} {t e : TypeId} {inf : TypeInfo}
def Kn.empty (base : Nat) (E : TypeId) : Kn := ⟨fun v w => ∃ g, v = .slice (some ⟨g, 0, none⟩) 0 0 ∧ w.ownsRow base E 1 v 0 [], fun _ _ _ k h => by obtain ⟨g, h1, h2⟩ := h; exact ⟨g, h1, h2.ext k⟩⟩
end
section
variable {P : Program} {ρ : Operand → Value} {o : Oper} {w : World} {T : Tmp → Kn} {d : Tmp} {t : TypeId}
theorem Exec.kfield {x : Operand} {i : Nat} {v u : Value} (ho : o.op = .fieldAddr t x i) (hd : o.dst = some d) (hx : ρ x = v) (hr : (Instr.fieldAt t v i).run P w = .ok u w) (hv : (T d).holds u w) :
    Exec P ρ o w fun v w' => (∀ d, o.dst = some d → knV T d v w') ∧ Ext w w' :=
  Exec.same hd (by unfold execOp; rw [ho]; simp only [hx, Sem.run_bind, hr, Result.andThen_ok, Sem.run_pure]) hv
theorem Exec.kstorerow {x y : Operand} {g : Nat} {cells old : Array Value} {tt : TypeId} (ho : o.op = .store t x y) (hx : ρ x = .pointer (some ⟨g, 0, none⟩)) (hy : ρ y = .agg cells)
    (hg : w.heap[g]? = some (.cells old tt (0, 0))) (hi : (P.info? t).map (·.size) = some cells.size) (hold : old.size = cells.size) (h1 : cells.all (·.oneCell') = true) :
    Exec P ρ o w fun _ w' => w' = w.setRow g cells :=
  Exec.skip (by unfold execOp; rw [ho]; simp only [hx, hy, Instr.storeAt, Instr.sureAddr, Sem.run_bind, Sem.run_pure, Result.andThen_ok, run_storeVar_row w g tt t old cells hg hi hold h1]) rfl
theorem Exec.kloadrow {x : Operand} {g : Nat} {cs : Array Value} {tt : TypeId} {dd : TypeDesc} (ho : o.op = .load t x) (hd : o.dst = some d) (hx : ρ x = .pointer (some ⟨g, 0, none⟩)) (hg : w.heap[g]? = some (.cells cs tt (0, 0)))
    (hu : P.underlying t = some dd) (hdd : (match dd with | .struct _ | .array _ _ => true | _ => false) = true) (hi : (P.info? t).map (·.size) = some cs.size) (hv : (T d).holds (.agg cs) w) :
    Exec P ρ o w fun v w' => (∀ d, o.dst = some d → knV T d v w') ∧ Ext w w' :=
  Exec.same hd (by unfold execOp; rw [ho]; simp only [hx, Instr.loadAt, Instr.sureAddr, Sem.run_bind, Sem.run_pure, Result.andThen_ok, run_loadVar_row w g tt t cs (0, 0) dd hg hu hdd hi]) hv
end
def Kn.fr (base : Nat) (E : TypeId) (x y n : Nat) (cs : List Value) : Kn :=
  ⟨fun v w => ∃ s, v = .agg #[.int .u8 (x : Nat), .int .u8 (y : Nat), s] ∧ w.ownsRow base E 1 s n cs, fun _ _ _ k h => by obtain ⟨s, h1, h2⟩ := h; exact ⟨s, h1, h2.ext k⟩⟩
theorem Ch.setRow {M : Nat → Prop} {a w : World} (h : Ch M a w) {g : Nat} (hg : M g ∨ a.heap.size ≤ g) (cs : Array Value) : Ch M a (w.setRow g cs) :=
  ⟨h.os, h.tape, h.output, by have := h.size; simpa using this, fun k hk hm => by
    rw [setRow_other _ _ _ _ (by rintro rfl; rcases hg with hg | hg; exact hm hg; omega)]; exact h.block k hk hm⟩
end Go.Lac
namespace Go.Lac
open Go Go.RowKit
def Vals (ops : Array Oper) (V : (Nat → Bool) → Tmp → Value → World → Prop) (L : Nat → Bool) (a : Act) (w : World) : Prop :=
  ∀ j p, ops[j]? = some p → L j = true → ∀ d, p.dst = some d → V L d (a.tmps.getD d undef) w
def StepA (P : Program) (ops : Array Oper) (V : (Nat → Bool) → Tmp → Value → World → Prop) (S : (Nat → Bool) → Act → World → Prop) (a0 : Act) (i : Nat) (o : Oper) : Prop :=
  ∀ (a : Act) (w : World) (L : Nat → Bool), a.tmps.size = a0.tmps.size → S L a w → L i = false → (∀ j ∈ deps o, L j = true) → (∀ t, Fact ops (V L) a0 i o a.eval w t) → Vals ops V L a w →
    (∀ j p, ops[j]? = some p → L j = true → ∀ k ∈ deps p, L k = true) →
    let Φ : Value → World → Prop := fun v w' => (∀ d, o.dst = some d → V (fun j => j == i || L j) d v w') ∧
      (∀ j p d, ops[j]? = some p → L j = true → p.dst = some d → V (fun j => j == i || L j) d (a.tmps.getD d undef) w') ∧ S (fun j => j == i || L j) (a.put o.dst v) w'
    (wantedBy ops o a.eval = true → Exec P a.eval o w Φ) ∧ (wantedBy ops o a.eval = false → Φ undef w)
def AllA (P : Program) (ops : Array Oper) (V : (Nat → Bool) → Tmp → Value → World → Prop) (S : (Nat → Bool) → Act → World → Prop) (a0 : Act) : Nat → List Oper → Prop
  | _, [] => True
  | i, o :: l => StepA P ops V S a0 i o ∧ AllA P ops V S a0 (i + 1) l
theorem AllA.get {P : Program} {ops : Array Oper} {V : (Nat → Bool) → Tmp → Value → World → Prop} {S : (Nat → Bool) → Act → World → Prop} {a0 : Act} :
    ∀ (l : List Oper) (i : Nat), AllA P ops V S a0 i l → ∀ k o, l[k]? = some o → StepA P ops V S a0 (i + k) o
  | [], _, _, k, o, h => by simp at h
  | x :: l, i, h, 0, o, e => by simp at e; subst e; exact h.1
  | x :: l, i, h, k + 1, o, e => by
    have := AllA.get l (i + 1) h.2 k o (by simpa using e)
    rwa [show i + (k + 1) = i + 1 + k by omega]
structure RA (ops : Array Oper) (V : (Nat → Bool) → Tmp → Value → World → Prop) (S : (Nat → Bool) → Act → World → Prop) (a0 : Act) (L : Nat → Bool) (a : Act) (w : World) : Prop where
  rg : RG ops V (fun _ _ => True) a0 L a w
  sa : S L a w
section
variable {P : Program} {ops : Array Oper} {Q : Exit → Act → World → Prop} {V : (Nat → Bool) → Tmp → Value → World → Prop} {S : (Nat → Bool) → Act → World → Prop} {a0 : Act}
theorem RA.put {L : Nat → Bool} {a : Act} {w w' : World} (h : RA ops V S a0 L a w) (hg : goodOps ops = true) {i : Nat} {o : Oper} (ho : ops[i]? = some o) (hi : L i = false)
    (hd : ∀ j ∈ deps o, L j = true) (hdst : ∀ d, o.dst = some d → d < a0.tmps.size) {v : Value}
    (hΦ : (∀ d, o.dst = some d → V (fun j => j == i || L j) d v w') ∧ (∀ j p d, ops[j]? = some p → L j = true → p.dst = some d → V (fun j => j == i || L j) d (a.tmps.getD d undef) w') ∧ S (fun j => j == i || L j) (a.put o.dst v) w') :
    RA ops V S a0 (fun j => j == i || L j) (a.put o.dst v) w' := by
  obtain ⟨h1, h2, h3⟩ := hΦ
  refine ⟨?_, h3⟩
  have h := h.rg
  refine ⟨?_, ?_, ?_, ?_, ?_, trivial⟩
  · cases hod : o.dst <;> simp [Act.put, h.size]
  · cases hod : o.dst <;> simp [Act.put, h.defers]
  · intro j p hp hL k hk
    simp only [Bool.or_eq_true, beq_iff_eq] at hL ⊢
    rcases hL with rfl | hL
    · rw [ho] at hp; cases hp
      exact .inr (hd k hk)
    · exact .inr (h.closed j p hp hL k hk)
  · intro t ht
    have hne : o.dst ≠ some t := ht i o ho (by simp)
    have := h.keep t fun j p hp hL => ht j p hp (by simp [hL])
    rw [← this]
    cases hod : o.dst with
    | none => rfl
    | some d =>
      have : d ≠ t := fun e => hne (by rw [hod, e])
      simp [Act.put, Array.getElem?_setIfInBounds_ne this]
  · intro j p hp hL d hpd
    simp only [Bool.or_eq_true, beq_iff_eq] at hL
    by_cases hji : j = i
    · subst hji
      rw [ho] at hp; cases hp
      have hlt := hdst d hpd
      rw [hpd]
      have : (a.tmps.setIfInBounds d v).getD d undef = v := by
        have hs : d < (a.tmps.setIfInBounds d v).size := by simp; rw [h.size]; exact hlt
        simp [Array.getD, h.size, hlt]
      simp only [Act.put, this]
      exact h1 d hpd
    · have hL' : L j = true := hL.resolve_left hji
      have hval := h2 j p d hp hL' hpd
      cases hod : o.dst with
      | none => exact hval
      | some d' =>
        have hdd : d' ≠ d := fun e => goodOps_dst hg hp ho (Ne.symm hji) hpd (by rw [hod, e])
        have : ((a.put (some d') v).tmps).getD d undef = a.tmps.getD d undef := by
          simp [Act.put, Array.getD_eq_getD_getElem?, Array.getElem?_setIfInBounds_ne hdd]
        rw [this]
        exact hval
theorem wpAny_act (hg : goodOps ops = true) (hall : AllA P ops V S a0 0 ops.toList) (hdst : ∀ (i : Nat) (o : Oper), ops[i]? = some o → ∀ d, o.dst = some d → d < a0.tmps.size)
    (fin : ∀ a w, RA ops V S a0 (fun i => decide (i < ops.size)) a w → Q .normal a w) :
    ∀ (fuel : Nat) (listed : Array Bool) (a : Act) (w : World), listed.size = ops.size → leftOver listed = fuel → RA ops V S a0 (allow listed) a w →
      wpAny P .any ops Q fuel listed a w := by
  have done : ∀ (listed : Array Bool) (a : Act) (w : World), listed.size = ops.size → (∀ i, i < ops.size → listed.getD i true = true) → RA ops V S a0 (allow listed) a w → Q .normal a w := by
    intro listed a w hs hl h
    refine fin a w ?_
    have : allow listed = fun i => decide (i < ops.size) := by
      funext i
      unfold allow
      by_cases hi : i < ops.size
      · have := hl i hi
        simpa [Array.getD, hs, hi] using this
      · simp [Array.getD, hs, hi]
    rw [← this]; exact h
  have stuck : ∀ (listed : Array Bool), listed.size = ops.size → Region.ready .any ops listed = [] → ∀ i, i < ops.size → listed.getD i true = true := by
    intro listed hs hr i
    induction i using Nat.strongRecOn with
    | _ i ih =>
      intro hi
      by_cases hb : listed.getD i true = true
      · exact hb
      · have hmem : i ∈ Region.ready .any ops listed := ready_iff.2 ⟨hi, by simpa using hb, ops[i], Array.getElem?_eq_getElem hi, fun j hj => by
          have hlt := goodOps_lt hg (Array.getElem?_eq_getElem hi) j hj
          have := ih j hlt (by omega)
          simpa [Array.getD, hs, show j < ops.size by omega] using this⟩
        rw [hr] at hmem; cases hmem
  intro fuel
  induction fuel with
  | zero =>
    intro listed a w hs hl h
    have hfull : ∀ i, i < ops.size → listed.getD i true = true := fun i hi => leftOver_zero hl (by omega)
    refine ⟨?_, done listed a w hs hfull h⟩
    rw [List.eq_nil_iff_forall_not_mem]
    intro i hi
    obtain ⟨h1, h2, _⟩ := ready_iff.1 hi
    rw [hfull i h1] at h2; cases h2
  | succ fuel ih =>
    intro listed a w hs hl h
    refine ⟨fun hr => done listed a w hs (stuck listed hs hr) h, fun i hi => ?_⟩
    obtain ⟨h1, h2, o, ho, h3⟩ := ready_iff.1 hi
    have hLi : allow listed i = false := by
      have : listed.getD i true = listed[i]'(by omega) := by simp [Array.getD, hs, h1]
      rw [this] at h2
      simp [allow, Array.getD, hs, h1, h2]
    have hLd : ∀ j ∈ deps o, allow listed j = true := h3
    have hstep := AllA.get ops.toList 0 hall i o (by simpa using ho)
    rw [Nat.zero_add] at hstep
    have hs' := hstep a w (allow listed) h.rg.size h.sa hLi hLd (h.rg.fact ho hLi hLd) h.rg.val h.rg.closed
    have hset := allow_set (listed := listed) (i := i) (by omega)
    have hleft := leftOver_set (listed := listed) (i := i) (by omega) h2
    unfold wpOp
    simp only [ho]
    rw [wantedBy_eq] at hs'
    split
    · rename_i hw
      refine .inl ((hs'.1 hw).wp fun v w' hv => ?_)
      refine ih _ _ _ (by simpa using hs) (by omega) ?_
      rw [hset]
      exact h.put hg ho hLi hLd (hdst i o ho) hv
    · rename_i hw
      refine ih _ _ _ (by simpa using hs) (by omega) ?_
      rw [hset]
      exact h.put hg ho hLi hLd (hdst i o ho) (hs'.2 (by simpa using hw))
theorem wp_region_act {id : Nat} {l : List Oper} {w0 : World} (V : (Nat → Bool) → Tmp → Value → World → Prop) (S : (Nat → Bool) → Act → World → Prop)
    (hm : P.follows .mixedOrders = true) (hg : goodOps l.toArray = true) (hdst : (l.all fun o => match o.dst with | some d => decide (d < a0.tmps.size) | none => true) = true)
    (h0 : S (fun _ => false) a0 w0.drew)
    (hall : AllA P l.toArray V S a0 0 l)
    (fin : ∀ (ν : Tmp → Value) (w : World), (∀ o ∈ l, ∀ d, o.dst = some d → V (fun i => decide (i < l.length)) d (ν d) w) → S (fun i => decide (i < l.length)) ⟨ended l ν a0.tmps, a0.defers⟩ w → Q .normal ⟨ended l ν a0.tmps, a0.defers⟩ w) :
    (Code.region id l.toArray true).wp P Q a0 w0 := by
  refine wp_region_any hm ?_
  have hdst' : ∀ (i : Nat) (o : Oper), l.toArray[i]? = some o → ∀ d, o.dst = some d → d < a0.tmps.size := by
    intro i o ho d hd
    have hmem : o ∈ l := by
      have : l[i]? = some o := by simpa using ho
      exact List.mem_of_getElem? this
    have := List.all_eq_true.1 hdst o hmem
    simpa [hd] using this
  refine wpAny_act (V := V) (S := S) (a0 := a0) hg hall hdst' ?_ _ _ _ _ (by simp) (by simp [leftOver]) ?_
  · intro a w hh
    have h := hh.rg
    have hv : ∀ o ∈ l, ∀ d, o.dst = some d → V (fun i => decide (i < l.length)) d (a.tmps.getD d undef) w := by
      intro o ho d hd
      obtain ⟨i, hi⟩ := List.mem_iff_getElem?.1 ho
      exact h.val i o (by simpa using hi) (by have := (List.getElem?_eq_some_iff.1 hi).1; simpa using this) d hd
    have : (⟨ended l (fun d => a.tmps.getD d undef) a0.tmps, a0.defers⟩ : Act) = a := by
      cases a with
      | mk tmps defers =>
        have hdf : defers = a0.defers := h.defers
        have hsz : tmps.size = a0.tmps.size := h.size
        simp only [Act.mk.injEq]
        refine ⟨?_, hdf.symm⟩
        apply Array.ext
        · rw [ended_size]; exact hsz.symm
        · intro t h1 h2
          have h3 : t < a0.tmps.size := by omega
          have e1 := ended_get (fun d => tmps.getD d undef) t l a0.tmps h3
          have e2 : (ended l (fun d => tmps.getD d undef) a0.tmps)[t]? = some tmps[t] := by
            rw [e1]
            split
            · simp [Array.getD, h2]
            · rename_i hno
              have hk := h.keep t fun i o ho _ hd => hno ⟨o, by
                have : l[i]? = some o := by simpa using ho
                exact List.mem_of_getElem? this, hd⟩
              have hk' : tmps[t]? = a0.tmps[t]? := hk
              rw [← hk', Array.getElem?_eq_getElem h2]
          rw [Array.getElem?_eq_getElem h1] at e2
          exact Option.some.inj e2
    have hsa := hh.sa
    simp only [List.size_toArray] at hsa
    have hq := fin (fun d => a.tmps.getD d undef) w hv (by rw [this]; exact hsa)
    rw [this] at hq
    exact hq
  · have hno : allow (Array.replicate l.toArray.size false) = fun _ => false := by
      funext i
      unfold allow
      by_cases hi : i < l.length
      · simp [Array.getD, hi]
      · simp [Array.getD, hi]
    rw [hno]
    exact ⟨⟨rfl, rfl, by simp, by simp, by simp, trivial⟩, h0⟩
end
end Go.Lac
namespace Go.Lac
open Go Go.RowKit
def TyB (Ts : TypeId → Prop) (w : World) (k : Nat) : Prop := ∃ c T o, Ts T ∧ w.heap[k]? = some (.cells c T o)
structure KnT (Ts : TypeId → Prop) where
  holds : Value → World → Prop
  keeps : ∀ v w w', Ch (TyB Ts w) w w' → holds v w → holds v w'
def KnT.is {Ts : TypeId → Prop} (x : Value) : KnT Ts := ⟨fun v _ => v = x, fun _ _ _ _ h => h⟩
def KnT.any {Ts : TypeId → Prop} : KnT Ts := ⟨fun _ _ => True, fun _ _ _ _ _ => trivial⟩
theorem KnT.ext {Ts : TypeId → Prop} (k : KnT Ts) {v : Value} {w w' : World} (h : k.holds v w) (hx : Ext w w') : k.holds v w' := k.keeps v w w' hx.ch h
def KnT.kn {Ts : TypeId → Prop} (k : KnT Ts) : Kn := ⟨k.holds, fun _ _ _ hx h => k.ext h hx⟩
structure Bx where
  slot : Tmp
  alloc : Nat
  store : Nat
  src : Tmp
  ty : TypeId
  n : Nat
section
variable {Ts : TypeId → Prop} {bs : List Bx} {T : Tmp → KnT Ts} {B : Nat}
def bxV (bs : List Bx) (T : Tmp → KnT Ts) (B : Nat) (L : Nat → Bool) (d : Tmp) (v : Value) (w : World) : Prop :=
  match bs.find? (fun b => b.slot == d) with
  | some b => ∃ g c, v = .pointer (some ⟨g, 0, none⟩) ∧ B ≤ g ∧ w.heap[g]? = some (.cells c b.ty (0, 0)) ∧ c.size = b.n ∧ (L b.store = true → (T b.src).holds (.agg c) w)
  | none => (T d).holds v w
def bxS (bs : List Bx) (w0 : World) (L : Nat → Bool) (x : Act) (w : World) : Prop :=
  Ext w0 w ∧ ∀ b ∈ bs, ∀ b' ∈ bs, b.slot ≠ b'.slot → L b.alloc = true → L b'.alloc = true → x.tmps.getD b.slot undef ≠ x.tmps.getD b'.slot undef
def bxOk (ops : Array Oper) (bs : List Bx) : Bool :=
  bs.all fun b => ((ops[b.alloc]?).bind (·.dst) == some b.slot) && ((ops[b.store]?).map (·.dst.isNone) == some true) && ((ops[b.store]?).map (fun o => (deps o).contains b.alloc) == some true)
    && bs.all fun b' => (b.slot != b'.slot) || ((b.alloc == b'.alloc) && (b.store == b'.store) && (b.src == b'.src) && (b.ty == b'.ty) && (b.n == b'.n))
theorem bxV_box {L : Nat → Bool} {d : Tmp} {v : Value} {w : World} {b : Bx} (hb : bs.find? (fun b => b.slot == d) = some b) :
    bxV bs T B L d v w ↔ ∃ g c, v = .pointer (some ⟨g, 0, none⟩) ∧ B ≤ g ∧ w.heap[g]? = some (.cells c b.ty (0, 0)) ∧ c.size = b.n ∧ (L b.store = true → (T b.src).holds (.agg c) w) := by
  unfold bxV; rw [hb]
theorem bxV_none {L : Nat → Bool} {d : Tmp} {v : Value} {w : World} (hb : bs.find? (fun b => b.slot == d) = none) : bxV bs T B L d v w ↔ (T d).holds v w := by
  unfold bxV; rw [hb]
theorem heap_ext {w w' : World} {g : Nat} {o : Obj} (k : Ext w w') (h : w.heap[g]? = some o) : w'.heap[g]? = some o := by
  rw [k.block g (Array.getElem?_eq_some_iff.1 h).1 (fun f => f)]; exact h
theorem bxV_ext {L L' : Nat → Bool} {d : Tmp} {v : Value} {w w' : World} (k : Ext w w') (hL : ∀ b ∈ bs, L' b.store = true → L b.store = true) (h : bxV bs T B L d v w) : bxV bs T B L' d v w' := by
  cases hb : bs.find? (fun b => b.slot == d) with
  | none => rw [bxV_none hb] at h ⊢; exact (T d).ext h k
  | some b =>
    rw [bxV_box hb] at h ⊢
    obtain ⟨g, c, e1, e2, e3, e4, e5⟩ := h
    exact ⟨g, c, e1, e2, heap_ext k e3, e4, fun h => (T b.src).ext (e5 (hL b (List.mem_of_find?_eq_some hb) h)) k⟩
theorem bx_same (hok : ∀ b ∈ bs, ∀ b' ∈ bs, b.slot = b'.slot → b = b') {b : Bx} (hb : b ∈ bs) : bs.find? (fun x => x.slot == b.slot) = some b := by
  cases h : bs.find? (fun x => x.slot == b.slot) with
  | none => have := List.find?_eq_none.1 h b hb; simp at this
  | some b' =>
    have h1 := List.mem_of_find?_eq_some h
    have h2 := List.find?_some h
    rw [hok b' h1 b hb (by simpa using h2)]
end
section
variable {P : Program} {Ts : TypeId → Prop} {bs : List Bx} {T : Tmp → KnT Ts} {ops : Array Oper} {w0 : World} {a0 : Act} {i : Nat} {o : Oper}
theorem bxOk_at (h : bxOk ops bs = true) {b : Bx} (hb : b ∈ bs) : (ops[b.alloc]?).bind (·.dst) = some b.slot ∧ (ops[b.store]?).map (·.dst.isNone) = some true ∧ (ops[b.store]?).map (fun o => (deps o).contains b.alloc) = some true ∧ ∀ b' ∈ bs, b.slot = b'.slot → b = b' := by
  have h1 := List.all_eq_true.1 h b hb
  simp only [Bool.and_eq_true, beq_iff_eq] at h1
  obtain ⟨⟨⟨h1, h2⟩, h3⟩, h4⟩ := h1
  refine ⟨h1, h2, h3, fun b' hb' e => ?_⟩
  have h5 := List.all_eq_true.1 h4 b' hb'
  simp only [Bool.or_eq_true, bne_iff_ne, ne_eq, e, not_true_eq_false, false_or, Bool.and_eq_true, beq_iff_eq] at h5
  obtain ⟨x1, x2, x3, x4, x5, x6⟩ := b
  obtain ⟨y1, y2, y3, y4, y5, y6⟩ := b'
  simp only at e h5
  obtain ⟨⟨⟨⟨k1, k2⟩, k3⟩, k4⟩, k5⟩ := h5
  subst e; subst k1; subst k2; subst k3; subst k4; subst k5
  rfl
theorem put_slot {x : Act} {dst : Option Tmp} {t : Nat} {v : Value} (h : dst ≠ some t) : ((x.put dst v).tmps).getD t undef = x.tmps.getD t undef := by
  cases dst with
  | none => rfl
  | some d =>
    have hne : d ≠ t := fun e => h (by rw [e])
    simp [Act.put, Array.getD_eq_getD_getElem?, Array.getElem?_setIfInBounds_ne hne]
theorem put_here {x : Act} {d : Nat} {v : Value} (h : d < x.tmps.size) : ((x.put (some d) v).tmps).getD d undef = v := by
  simp [Act.put, Array.getD, h]
theorem StepA.bplain (hi : (bs.all fun b => b.store != i && b.alloc != i) = true) (hd : (match o.dst with | some d => (bs.find? (fun b => b.slot == d)).isNone | none => true) = true) (hg : o.guard = none)
    (h : ∀ (ρ : Operand → Value) (w : World) (L : Nat → Bool), Env ρ → Ext w0 w → (∀ t, Fact ops (bxV bs T w0.heap.size L) a0 i o ρ w t) → Exec P ρ o w fun v w' => (∀ d, o.dst = some d → knV (fun d => (T d).kn) d v w') ∧ Ext w w') :
    StepA P ops (bxV bs T w0.heap.size) (bxS bs w0) a0 i o := by
  intro x w L hsz hS hLi hdp hf hval hcl
  refine ⟨fun _ => (h x.eval w L (env_eval x) hS.1 hf).mono ?_, fun hn => by simp [wantedBy, hg] at hn⟩
  rintro v w' ⟨h1, h2⟩
  have hL : ∀ b ∈ bs, (fun j => j == i || L j) b.store = true → L b.store = true := fun b hb h => by
    have := List.all_eq_true.1 hi b hb
    simp only [Bool.and_eq_true, bne_iff_ne, ne_eq] at this
    simpa [this.1] using h
  refine ⟨fun d hd' => ?_, fun j p d hj hLj hd' => bxV_ext h2 hL (hval j p hj hLj d hd'), hS.1.trans h2, fun b hb b' hb' hne l1 l2 => ?_⟩
  · rw [hd'] at hd
    rw [bxV_none (by simpa using hd)]
    exact h1 d hd'
  · have q := List.all_eq_true.1 hi b hb
    have q' := List.all_eq_true.1 hi b' hb'
    simp only [Bool.and_eq_true, bne_iff_ne, ne_eq] at q q'
    have s1 : o.dst ≠ some b.slot := fun e => by
      rw [e] at hd
      simp only [Option.isNone_iff_eq_none] at hd
      have := List.find?_eq_none.1 hd b hb
      simp at this
    have s2 : o.dst ≠ some b'.slot := fun e => by
      rw [e] at hd
      simp only [Option.isNone_iff_eq_none] at hd
      have := List.find?_eq_none.1 hd b' hb'
      simp at this
    rw [put_slot s1, put_slot s2]
    exact hS.2 b hb b' hb' hne (by simpa [q.2] using l1) (by simpa [q'.2] using l2)
theorem StepA.balloc (hok : bxOk ops bs = true) {b : Bx} (hb : b ∈ bs) (hdst : b.slot < a0.tmps.size) (hi : b.alloc = i) (hst : (bs.all fun x => x.store != i) = true) (ho : ops[i]? = some o) (hg : o.guard = none) (Z : Array Value) (hZ : Z.size = b.n)
    (hrun : ∀ (x : Act) (w : World), (execOp x.eval o).run P w = .ok (.value (.pointer (some ⟨w.heap.size, 0, none⟩))) (w.alloc (.cells Z b.ty))) :
    StepA P ops (bxV bs T w0.heap.size) (bxS bs w0) a0 i o := by
  subst hi
  intro x w L hsz hS hLi hdp hf hval hcl
  obtain ⟨q1, q2, q3, q4⟩ := bxOk_at hok hb
  have hod : o.dst = some b.slot := by rw [ho] at q1; simpa using q1
  refine ⟨fun _ => Exec.value (hrun x w) ?_, fun hn => by simp [wantedBy, hg] at hn⟩
  have hx : Ext w (w.alloc (.cells Z b.ty)) := (Ch.refl _ _).alloc _
  have hL : ∀ x ∈ bs, (fun j => j == b.alloc || L j) x.store = true → L x.store = true := fun x hx h => by
    have := List.all_eq_true.1 hst x hx
    simp only [bne_iff_ne, ne_eq] at this
    simpa [this] using h
  have hLs : L b.store = false := by
    rcases Bool.eq_false_or_eq_true (L b.store) with h | h
    · cases hos : ops[b.store]? with
      | none => rw [hos] at q3; cases q3
      | some p =>
        rw [hos] at q3
        have := hcl b.store p hos h b.alloc (by simpa using q3)
        rw [hLi] at this; cases this
    · exact h
  have hnew : ∀ b' ∈ bs, b.slot ≠ b'.slot → L b'.alloc = true → x.tmps.getD b'.slot undef ≠ .pointer (some ⟨w.heap.size, 0, none⟩) := fun b' hb' hne hl e => by
    obtain ⟨r1, _⟩ := bxOk_at hok hb'
    cases hoa : ops[b'.alloc]? with
    | none => rw [hoa] at r1; cases r1
    | some p =>
      rw [hoa] at r1
      have hv := hval b'.alloc p hoa hl b'.slot (by simpa using r1)
      rw [bxV_box (bx_same (fun b hb => (bxOk_at hok hb).2.2.2) hb')] at hv
      obtain ⟨g, c, e1, _, e3, _⟩ := hv
      rw [e] at e1; cases e1
      have := (Array.getElem?_eq_some_iff.1 e3).1; omega
  refine ⟨fun d hd' => ?_, fun j p d hj hLj hd' => bxV_ext hx hL (hval j p hj hLj d hd'), hS.1.trans hx, fun c hc c' hc' hne l1 l2 => ?_⟩
  · rw [hod] at hd'; cases hd'
    rw [bxV_box (bx_same (fun b hb => (bxOk_at hok hb).2.2.2) hb)]
    refine ⟨w.heap.size, Z, rfl, hS.1.size, heap_alloc_new w _, hZ, fun h => ?_⟩
    have := hL b hb h
    rw [hLs] at this; cases this
  · rw [hod]
    have hbs : b.slot < x.tmps.size := by rw [hsz]; exact hdst
    by_cases e1 : c.slot = b.slot
    · have e2 : b.slot ≠ c'.slot := fun e => hne (e1.trans e)
      rw [e1, put_here hbs, put_slot (fun e => e2 (Option.some.inj e))]
      have hne2 : c'.alloc ≠ b.alloc := fun e => by
        have r := (bxOk_at hok hc').1
        rw [e, q1] at r
        exact e2 (Option.some.inj r)
      exact fun e => hnew c' hc' e2 (by simpa [hne2] using l2) e.symm
    · rw [put_slot (fun e => e1 (Option.some.inj e).symm)]
      have hne1 : c.alloc ≠ b.alloc := fun e => by
        have r := (bxOk_at hok hc).1
        rw [e, q1] at r
        exact e1 (Option.some.inj r).symm
      by_cases e2 : c'.slot = b.slot
      · rw [e2, put_here hbs]
        exact hnew c hc (fun e => e1 e.symm) (by simpa [hne1] using l1)
      · rw [put_slot (fun e => e2 (Option.some.inj e).symm)]
        have hne2 : c'.alloc ≠ b.alloc := fun e => by
          have r := (bxOk_at hok hc').1
          rw [e, q1] at r
          exact e2 (Option.some.inj r).symm
        exact hS.2 c hc c' hc' hne (by simpa [hne1] using l1) (by simpa [hne2] using l2)
theorem StepA.bstore (hgo : goodOps ops = true) (hok : bxOk ops bs = true) {b : Bx} (hb : b ∈ bs) (hi : b.store = i) (hst : (bs.all fun x => (x.slot == b.slot) || ((x.store != i) && (x.alloc != i))) = true) (hba : b.alloc ≠ i) (ho : ops[i]? = some o) (hg : o.guard = none) (hop : o.op = .store b.ty (.tmp b.slot) (.tmp b.src))
    (hf1 : fedBy ops o b.slot = true) (hf2 : fedBy ops o b.src = true) (hns : bs.find? (fun x => x.slot == b.src) = none) (hTs : Ts b.ty) (hinf : (P.info? b.ty).map (·.size) = some b.n)
    (hagg : ∀ v w, (T b.src).holds v w → ∃ c, v = .agg c ∧ c.size = b.n ∧ (c.all (·.oneCell')) = true) :
    StepA P ops (bxV bs T w0.heap.size) (bxS bs w0) a0 i o := by
  subst hi
  intro x w L hsz hS hLi hdp hf hval hcl
  obtain ⟨q1, q2, q3, q4⟩ := bxOk_at hok hb
  have hod : o.dst = none := by rw [ho] at q2; simpa using q2
  have hLa : L b.alloc = true := hdp b.alloc (by rw [ho] at q3; simpa using q3)
  have hbox := (hf b.slot).1 hf1
  rw [bxV_box (bx_same (fun b hb => (bxOk_at hok hb).2.2.2) hb)] at hbox
  obtain ⟨g, c0, e1, e2, e3, e4, _⟩ := hbox
  have hsrc := (hf b.src).1 hf2
  rw [bxV_none hns] at hsrc
  obtain ⟨c, ec, hcn, hc1⟩ := hagg _ _ hsrc
  refine ⟨fun _ => ?_, fun hn => by simp [wantedBy, hg] at hn⟩
  refine (Exec.kstorerow hop e1 ec e3 (by rw [hinf, hcn]) (by rw [e4, hcn]) hc1).mono ?_
  rintro v w' rfl
  have hty : Ch (TyB Ts w) w (w.setRow g c) := (Ch.refl (TyB Ts w) w).setRow (.inl ⟨c0, b.ty, (0, 0), hTs, e3⟩) c
  have e1' : x.tmps.getD b.slot undef = .pointer (some ⟨g, 0, none⟩) := e1
  refine ⟨fun d hd' => (by rw [hod] at hd'; cases hd'), fun j p d hj hLj hd' => ?_, hS.1.setRow (.inr e2) c, fun y hy y' hy' hne l1 l2 => ?_⟩
  · have hv := hval j p hj hLj d hd'
    cases hfd : bs.find? (fun y => y.slot == d) with
    | none =>
      rw [bxV_none hfd] at hv ⊢
      exact (T d).keeps _ _ _ hty hv
    | some b' =>
      have hb' := List.mem_of_find?_eq_some hfd
      have hs' : b'.slot = d := by have := List.find?_some hfd; simpa using this
      subst hs'
      rw [bxV_box hfd] at hv ⊢
      obtain ⟨g', c', k1, k2, k3, k4, k5⟩ := hv
      by_cases hbb : b.slot = b'.slot
      · obtain rfl := q4 b' hb' hbb
        rw [e1'] at k1; cases k1
        refine ⟨g, c, e1', e2, setRow_heap _ _ _ _ _ _ e3, hcn, fun _ => ?_⟩
        rw [← ec]
        exact (T b.src).keeps _ _ _ hty hsrc
      · have hq := List.all_eq_true.1 hst b' hb'
        simp only [Bool.or_eq_true, beq_iff_eq, Bool.and_eq_true, bne_iff_ne, ne_eq] at hq
        have hq' := hq.resolve_left (fun e => hbb e.symm)
        have hLa' : L b'.alloc = true := by
          obtain ⟨r1, _⟩ := bxOk_at hok hb'
          by_cases hja : j = b'.alloc
          · rw [← hja]; exact hLj
          · exfalso
            cases hoa : ops[b'.alloc]? with
            | none => rw [hoa] at r1; cases r1
            | some p' =>
              rw [hoa] at r1
              exact goodOps_dst hgo hoa hj hja (by simpa using r1) hd'
        have hgg : g' ≠ g := fun e => by
          have := hS.2 b hb b' hb' hbb hLa hLa'
          rw [e1', k1, e] at this
          exact this rfl
        refine ⟨g', c', k1, k2, by rw [setRow_other _ _ _ _ hgg]; exact k3, k4, fun h => (T b'.src).keeps _ _ _ hty (k5 (by simpa [hq'.1] using h))⟩
  · rw [hod, show (x.put none v) = x from rfl]
    have r := List.all_eq_true.1 hst y hy
    have r' := List.all_eq_true.1 hst y' hy'
    simp only [Bool.or_eq_true, beq_iff_eq, Bool.and_eq_true, bne_iff_ne, ne_eq] at r r'
    have key : ∀ z ∈ bs, z.alloc ≠ b.store := fun z hz => by
      have r := List.all_eq_true.1 hst z hz
      simp only [Bool.or_eq_true, beq_iff_eq, Bool.and_eq_true, bne_iff_ne, ne_eq] at r
      rcases r with r | r
      · rw [← q4 z hz r.symm]; exact hba
      · exact r.2
    exact hS.2 y hy y' hy' hne (by simpa [key y hy] using l1) (by simpa [key y' hy'] using l2)
end
section
variable {P : Program} {Q : Exit → Act → World → Prop} {a0 : Act}
theorem wp_region_boxes {Ts : TypeId → Prop} {id : Nat} {l : List Oper} {w0 : World} (T : Tmp → KnT Ts) (bs : List Bx)
    (hm : P.follows .mixedOrders = true) (hg : goodOps l.toArray = true) (hdst : (l.all fun o => match o.dst with | some d => decide (d < a0.tmps.size) | none => true) = true)
    (hall : AllA P l.toArray (bxV bs T w0.heap.size) (bxS bs w0) a0 0 l)
    (fin : ∀ (ν : Tmp → Value) (w : World), (∀ (i : Nat) (d : Tmp), (l[i]?).bind (·.dst) = some d → bxV bs T w0.heap.size (fun i => decide (i < l.length)) d (ν d) w) → Ext w0 w → Q .normal ⟨ended l ν a0.tmps, a0.defers⟩ w) :
    (Code.region id l.toArray true).wp P Q a0 w0 :=
  wp_region_act (bxV bs T w0.heap.size) (bxS bs w0) hm hg hdst ⟨Ch.drew (Ch.refl _ _), fun _ _ _ _ _ h => by cases h⟩ hall fun ν w h hs => fin ν w (fun i d hd => by
    cases ho : l[i]? with
    | none => simp [ho] at hd
    | some o => exact h o (List.mem_of_getElem? ho) d (by simpa [ho] using hd)) hs.1
end
end Go.Lac
namespace Go.Lac
open Go Go.RowKit
def ph (ms : List Nat) (L : Nat → Bool) : Nat := (ms.filter L).length
def phV (ms : List Nat) (T : Nat → Tmp → Kn) (L : Nat → Bool) (d : Tmp) (v : Value) (w : World) : Prop := (T (ph ms L) d).holds v w
def phS (ms : List Nat) (F : Nat → World → Prop) (L : Nat → Bool) (w : World) : Prop := F (ph ms L) w
def phLo (ops : Array Oper) (ms : List Nat) (i : Nat) : Nat := (ms.filter fun m => m != i && (reachD ops 12 [i]).contains m).length
def phHi (ops : Array Oper) (ms : List Nat) (i : Nat) : Nat := ms.length - (ms.filter fun m => (reachD ops 12 [m]).contains i).length
def prevD (ops : Array Oper) (i : Nat) : List Tmp := (List.range ops.size).filterMap fun j => if j != i && !(reachD ops 12 [j]).contains i then (ops[j]?).bind (·.dst) else none
theorem filter_le {ms : List Nat} {p q : Nat → Bool} (h : ∀ m ∈ ms, p m = true → q m = true) : (ms.filter p).length ≤ (ms.filter q).length := by
  induction ms with
  | nil => exact Nat.le_refl _
  | cons m ms ih =>
    have ih := ih fun x hx => h x (List.mem_cons_of_mem _ hx)
    have hm := h m List.mem_cons_self
    rw [List.filter_cons, List.filter_cons]
    split
    · rename_i hp; rw [if_pos (hm hp)]; simp; exact ih
    · split <;> simp <;> omega
theorem filter_not (ms : List Nat) (p : Nat → Bool) : (ms.filter p).length + (ms.filter fun m => !p m).length = ms.length := by
  induction ms with
  | nil => rfl
  | cons m ms ih =>
    rw [List.filter_cons, List.filter_cons]
    cases hp : p m <;> simp <;> omega
section
variable {P : Program} {ops : Array Oper} {ms : List Nat} {T : Nat → Tmp → Kn} {F : Nat → World → Prop} {a0 : Act} {i : Nat} {o : Oper}
theorem ph_bounds {L : Nat → Bool} (ho : ops[i]? = some o) (hi : L i = false) (hd : ∀ j ∈ deps o, L j = true) (hc : ∀ (j : Nat) (p : Oper), ops[j]? = some p → L j = true → ∀ k ∈ deps p, L k = true) :
    phLo ops ms i ≤ ph ms L ∧ ph ms L ≤ phHi ops ms i := by
  have hc' : ∀ (j : Nat) (p : Oper), ops[j]? = some p → (j == i || L j) = true → ∀ k ∈ deps p, (k == i || L k) = true := by
    intro j p hp hj k hk
    simp only [Bool.or_eq_true, beq_iff_eq] at hj ⊢
    rcases hj with rfl | hj
    · rw [ho] at hp; cases hp
      exact .inr (hd k hk)
    · exact .inr (hc j p hp hj k hk)
  constructor
  · refine filter_le fun m _ h => ?_
    simp only [Bool.and_eq_true, bne_iff_ne, ne_eq] at h
    have := reachD_listed (L := fun j => j == i || L j) hc' 12 [i] (by simp) m (by simpa using h.2)
    simp only [Bool.or_eq_true, beq_iff_eq] at this
    exact this.resolve_left h.1
  · unfold phHi
    have h1 : (ms.filter fun m => (reachD ops 12 [m]).contains i).length ≤ (ms.filter fun m => !L m).length := filter_le fun m _ h => by
      cases hm : L m with
      | false => rfl
      | true =>
        have := reachD_listed (L := L) hc 12 [m] (by simpa using hm) i (by simpa using h)
        rw [hi] at this; cases this
    have h2 := filter_not ms L
    unfold ph
    omega
theorem StepG.phPlain (lo hi : Nat) (hlo : lo ≤ phLo ops ms i) (hhi : phHi ops ms i ≤ hi) (hni : (ms.all fun m => m != i) = true) (ho : ops[i]? = some o) (hg : o.guard = none) (hF : ∀ p w w', F p w → Ext w w' → F p w')
    (h : ∀ p, lo ≤ p → p ≤ hi → ∀ ρ w, Env ρ → F p w → (∀ t, Fact ops (knV (T p)) a0 i o ρ w t) → Exec P ρ o w fun v w' => (∀ d, o.dst = some d → knV (T p) d v w') ∧ Ext w w') :
    StepG P ops (phV ms T) (phS ms F) a0 i o := by
  intro ρ w L hρ hw hLi hd hf hc
  obtain ⟨b1, b2⟩ := ph_bounds (ms := ms) ho hLi hd hc
  have hph : ph ms (fun j => j == i || L j) = ph ms L := by
    unfold ph
    congr 1
    refine List.filter_congr fun m hm => ?_
    have := List.all_eq_true.1 hni m hm
    simp only [bne_iff_ne, ne_eq] at this
    simp [this]
  refine ⟨fun _ => (h (ph ms L) (by omega) (by omega) ρ w hρ hw hf).mono ?_, fun hn => by simp [wantedBy, hg] at hn⟩
  rintro v w' ⟨h1, h2⟩
  refine ⟨fun d hd' => ?_, fun d v _ hv => ?_, ?_⟩
  · unfold phV; rw [hph]; exact h1 d hd'
  · unfold phV at *; rw [hph]; exact (T _ d).keeps _ _ _ h2 hv
  · unfold phS; rw [hph]; exact hF _ _ _ hw h2
theorem StepG.phWrite (pr : List Tmp) (hpr : prevD ops i = pr) (q : Nat) (hlo : q ≤ phLo ops ms i) (hhi : phHi ops ms i ≤ q) (hin : (ms.filter fun m => m == i).length = 1) (ho : ops[i]? = some o) (hg : o.guard = none)
    (h : ∀ ρ w, Env ρ → F q w → (∀ t, Fact ops (knV (T q)) a0 i o ρ w t) → Exec P ρ o w fun v w' => (∀ d, o.dst = some d → knV (T (q + 1)) d v w') ∧ (∀ d v, d ∈ pr → (T q d).holds v w → (T (q + 1) d).holds v w') ∧ F (q + 1) w') :
    StepG P ops (phV ms T) (phS ms F) a0 i o := by
  intro ρ w L hρ hw hLi hd hf hc
  obtain ⟨b1, b2⟩ := ph_bounds (ms := ms) ho hLi hd hc
  have hq : ph ms L = q := by omega
  have hph : ph ms (fun j => j == i || L j) = q + 1 := by
    rw [← hq]
    unfold ph
    have key : ∀ l : List Nat, (l.filter fun j => j == i || L j).length = (l.filter L).length + (l.filter fun m => m == i).length := by
      intro l
      induction l with
      | nil => rfl
      | cons m l ih =>
        rw [List.filter_cons, List.filter_cons, List.filter_cons]
        by_cases hm : m = i
        · subst hm; simp [hLi]; omega
        · have : (m == i) = false := beq_eq_false_iff_ne.2 hm
          rw [this]
          cases L m <;> simp <;> omega
    rw [key, hin]
  have hw' : F q w := by unfold phS at hw; rwa [hq] at hw
  have hf' : ∀ t, Fact ops (knV (T q)) a0 i o ρ w t := fun t => by have := hf t; unfold Fact phV at this; rw [hq] at this; exact this
  refine ⟨fun _ => (h ρ w hρ hw' hf').mono ?_, fun hn => by simp [wantedBy, hg] at hn⟩
  rintro v w' ⟨h1, h2, h3⟩
  refine ⟨fun d hd' => ?_, fun d v hex hv => ?_, ?_⟩
  · unfold phV; rw [hph]; exact h1 d hd'
  · obtain ⟨j, p, hp, hLj, hpd⟩ := hex
    have hji : j ≠ i := fun e => by rw [e, hLi] at hLj; cases hLj
    have hin' : d ∈ pr := by
      rw [← hpr]
      unfold prevD
      rw [List.mem_filterMap]
      refine ⟨j, List.mem_range.2 (Array.getElem?_eq_some_iff.1 hp).1, ?_⟩
      have hnr : (reachD ops 12 [j]).contains i = false := by
        cases hr : (reachD ops 12 [j]).contains i with
        | false => rfl
        | true =>
          have := reachD_listed (L := L) hc 12 [j] (by simpa using hLj) i (by simpa using hr)
          rw [hLi] at this; cases this
      rw [if_pos (by rw [hnr]; simp [hji])]
      simp [hp, hpd]
    unfold phV at *; rw [hph]; rw [hq] at hv; exact h2 d v hin' hv
  · unfold phS; rw [hph]; exact h3
end
section
variable {P : Program} {Q : Exit → Act → World → Prop} {a0 : Act}
theorem wp_region_ph {id : Nat} {l : List Oper} {w0 : World} (ms : List Nat) (T : Nat → Tmp → Kn) (F : Nat → World → Prop)
    (hm : P.follows .mixedOrders = true) (hg : goodOps l.toArray = true) (hdst : (l.all fun o => match o.dst with | some d => decide (d < a0.tmps.size) | none => true) = true) (hms : (ms.all fun m => decide (m < l.length)) = true)
    (h0 : F 0 w0.drew)
    (hall : AllG P l.toArray (phV ms T) (phS ms F) a0 0 l)
    (fin : ∀ (ν : Tmp → Value) (w : World), (∀ (i : Nat) (d : Tmp), (l[i]?).bind (·.dst) = some d → (T ms.length d).holds (ν d) w) → F ms.length w → Q .normal ⟨ended l ν a0.tmps, a0.defers⟩ w) :
    (Code.region id l.toArray true).wp P Q a0 w0 := by
  have hph : ph ms (fun i => decide (i < l.length)) = ms.length := by
    unfold ph
    rw [List.filter_eq_self.2 fun m hm => List.all_eq_true.1 hms m hm]
  refine wp_region_gen (phV ms T) (phS ms F) hm hg hdst ?_ hall fun ν w h hs => fin ν w (fun i d hd => ?_) ?_
  · have : ph ms (fun _ => false) = 0 := by unfold ph; rw [List.filter_eq_nil_iff.2 fun _ _ => by simp]; rfl
    unfold phS
    rw [this]; exact h0
  · cases ho : l[i]? with
    | none => simp [ho] at hd
    | some o =>
      have := h o (List.mem_of_getElem? ho) d (by simpa [ho] using hd)
      unfold phV at this
      rwa [hph] at this
  · unfold phS at hs; rwa [hph] at hs
end
end Go.Lac
