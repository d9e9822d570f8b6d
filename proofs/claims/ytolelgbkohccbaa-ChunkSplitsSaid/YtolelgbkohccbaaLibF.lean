/-
  A library of the verifier's own, over no program, sixth part: a region whose order is drawn, in which some variables' boxes are laid and filled, each once.
-/
import Derived.Test.YtolelgbkohccbaaLibE
namespace Go.Lac
open Go Go.RowKit

/-- Block k holds cells of one of these types. -/
def TyB (Ts : TypeId → Prop) (w : World) (k : Nat) : Prop := ∃ c T o, Ts T ∧ w.heap[k]? = some (.cells c T o)
/-- Knowledge that no change of a block of these types touches. -/
structure KnT (Ts : TypeId → Prop) where
  holds : Value → World → Prop
  keeps : ∀ v w w', Ch (TyB Ts w) w w' → holds v w → holds v w'
def KnT.is {Ts : TypeId → Prop} (x : Value) : KnT Ts := ⟨fun v _ => v = x, fun _ _ _ _ h => h⟩
def KnT.any {Ts : TypeId → Prop} : KnT Ts := ⟨fun _ _ => True, fun _ _ _ _ _ => trivial⟩
theorem KnT.ext {Ts : TypeId → Prop} (k : KnT Ts) {v : Value} {w w' : World} (h : k.holds v w) (hx : Ext w w') : k.holds v w' := k.keeps v w w' hx.ch h

def KnT.kn {Ts : TypeId → Prop} (k : KnT Ts) : Kn := ⟨k.holds, fun _ _ _ hx h => k.ext h hx⟩
theorem Exec.kpair {P : Program} {ρ : Operand → Value} {o : Oper} {w : World} {T : Tmp → Kn} {d : Tmp} {t : TypeId} {x y : Operand} {vx vy r : Value} (ho : o.op = .build t #[(0, x), (1, y)]) (hd : o.dst = some d) (hx : ρ x = vx) (hy : ρ y = vy) (hr : (Instr.build t #[(0, vx), (1, vy)]).run P w = .ok r w) (hv : (T d).holds r w) :
    Exec P ρ o w fun v w' => (∀ d, o.dst = some d → knV T d v w') ∧ Ext w w' :=
  Exec.same hd (by unfold execOp; rw [ho]; simp only [List.map_toArray, List.map_cons, List.map_nil, hx, hy, Sem.run_bind, hr, Result.andThen_ok, Sem.run_pure]) hv
/-- A variable's box: its slot; the operations that lay it, that fill it; the slot of what it is filled with; its type; how many cells. -/
structure Bx where
  slot : Tmp
  alloc : Nat
  store : Nat
  src : Tmp
  ty : TypeId
  n : Nat

section
variable {Ts : TypeId → Prop} {bs : List Bx} {T : Tmp → KnT Ts} {B : Nat}
def bxV (bs : List Bx) (T : Tmp → KnT Ts) (B : Nat) (L : Nat → Bool) (d : Tmp) (v : Value) (w : World) : Prop :=
  match bs.find? (fun b => b.slot == d) with
  | some b => ∃ g c, v = .pointer (some ⟨g, 0, none⟩) ∧ B ≤ g ∧ w.heap[g]? = some (.cells c b.ty (0, 0)) ∧ c.size = b.n ∧ (L b.store = true → (T b.src).holds (.agg c) w)
  | none => (T d).holds v w
def bxS (bs : List Bx) (w0 : World) (L : Nat → Bool) (x : Act) (w : World) : Prop :=
  Ext w0 w ∧ ∀ b ∈ bs, ∀ b' ∈ bs, b.slot ≠ b'.slot → L b.alloc = true → L b'.alloc = true → x.tmps.getD b.slot undef ≠ x.tmps.getD b'.slot undef
/-- All that is asked of the text. -/
def bxOk (ops : Array Oper) (bs : List Bx) : Bool :=
  bs.all fun b => ((ops[b.alloc]?).bind (·.dst) == some b.slot) && ((ops[b.store]?).map (·.dst.isNone) == some true) && ((ops[b.store]?).map (fun o => (deps o).contains b.alloc) == some true)
    && bs.all fun b' => (b.slot != b'.slot) || ((b.alloc == b'.alloc) && (b.store == b'.store) && (b.src == b'.src) && (b.ty == b'.ty) && (b.n == b'.n))

theorem bxV_box {L : Nat → Bool} {d : Tmp} {v : Value} {w : World} {b : Bx} (hb : bs.find? (fun b => b.slot == d) = some b) :
    bxV bs T B L d v w ↔ ∃ g c, v = .pointer (some ⟨g, 0, none⟩) ∧ B ≤ g ∧ w.heap[g]? = some (.cells c b.ty (0, 0)) ∧ c.size = b.n ∧ (L b.store = true → (T b.src).holds (.agg c) w) := by
  unfold bxV; rw [hb]
theorem bxV_none {L : Nat → Bool} {d : Tmp} {v : Value} {w : World} (hb : bs.find? (fun b => b.slot == d) = none) : bxV bs T B L d v w ↔ (T d).holds v w := by
  unfold bxV; rw [hb]
theorem heap_ext {w w' : World} {g : Nat} {o : Obj} (k : Ext w w') (h : w.heap[g]? = some o) : w'.heap[g]? = some o := by
  rw [k.block g (Array.getElem?_eq_some_iff.1 h).1 (fun f => f)]; exact h
theorem bxV_ext {L L' : Nat → Bool} {d : Tmp} {v : Value} {w w' : World} (k : Ext w w') (hL : ∀ b ∈ bs, L' b.store = true → L b.store = true) (h : bxV bs T B L d v w) : bxV bs T B L' d v w' := by
  cases hb : bs.find? (fun b => b.slot == d) with
  | none => rw [bxV_none hb] at h ⊢; exact (T d).ext h k
  | some b =>
    rw [bxV_box hb] at h ⊢
    obtain ⟨g, c, e1, e2, e3, e4, e5⟩ := h
    exact ⟨g, c, e1, e2, heap_ext k e3, e4, fun h => (T b.src).ext (e5 (hL b (List.mem_of_find?_eq_some hb) h)) k⟩
theorem bx_same (hok : ∀ b ∈ bs, ∀ b' ∈ bs, b.slot = b'.slot → b = b') {b : Bx} (hb : b ∈ bs) : bs.find? (fun x => x.slot == b.slot) = some b := by
  cases h : bs.find? (fun x => x.slot == b.slot) with
  | none => have := List.find?_eq_none.1 h b hb; simp at this
  | some b' =>
    have h1 := List.mem_of_find?_eq_some h
    have h2 := List.find?_some h
    rw [hok b' h1 b hb (by simpa using h2)]
end

section
variable {P : Program} {Ts : TypeId → Prop} {bs : List Bx} {T : Tmp → KnT Ts} {ops : Array Oper} {w0 : World} {a0 : Act} {i : Nat} {o : Oper}
theorem bxOk_at (h : bxOk ops bs = true) {b : Bx} (hb : b ∈ bs) : (ops[b.alloc]?).bind (·.dst) = some b.slot ∧ (ops[b.store]?).map (·.dst.isNone) = some true ∧ (ops[b.store]?).map (fun o => (deps o).contains b.alloc) = some true ∧ ∀ b' ∈ bs, b.slot = b'.slot → b = b' := by
  have h1 := List.all_eq_true.1 h b hb
  simp only [Bool.and_eq_true, beq_iff_eq] at h1
  obtain ⟨⟨⟨h1, h2⟩, h3⟩, h4⟩ := h1
  refine ⟨h1, h2, h3, fun b' hb' e => ?_⟩
  have h5 := List.all_eq_true.1 h4 b' hb'
  simp only [Bool.or_eq_true, bne_iff_ne, ne_eq, e, not_true_eq_false, false_or, Bool.and_eq_true, beq_iff_eq] at h5
  obtain ⟨x1, x2, x3, x4, x5, x6⟩ := b
  obtain ⟨y1, y2, y3, y4, y5, y6⟩ := b'
  simp only at e h5
  obtain ⟨⟨⟨⟨k1, k2⟩, k3⟩, k4⟩, k5⟩ := h5
  subst e; subst k1; subst k2; subst k3; subst k4; subst k5
  rfl
theorem put_slot {x : Act} {dst : Option Tmp} {t : Nat} {v : Value} (h : dst ≠ some t) : ((x.put dst v).tmps).getD t undef = x.tmps.getD t undef := by
  cases dst with
  | none => rfl
  | some d =>
    have hne : d ≠ t := fun e => h (by rw [e])
    simp [Act.put, Array.getD_eq_getD_getElem?, Array.getElem?_setIfInBounds_ne hne]
theorem put_here {x : Act} {d : Nat} {v : Value} (h : d < x.tmps.size) : ((x.put (some d) v).tmps).getD d undef = v := by
  simp [Act.put, Array.getD, h]

/-- An operation that changes nothing old, and lays no box. -/
theorem StepA.bplain (hi : (bs.all fun b => b.store != i && b.alloc != i) = true) (hd : (match o.dst with | some d => (bs.find? (fun b => b.slot == d)).isNone | none => true) = true) (hg : o.guard = none)
    (h : ∀ (ρ : Operand → Value) (w : World) (L : Nat → Bool), Env ρ → Ext w0 w → (∀ t, Fact ops (bxV bs T w0.heap.size L) a0 i o ρ w t) → Exec P ρ o w fun v w' => (∀ d, o.dst = some d → knV (fun d => (T d).kn) d v w') ∧ Ext w w') :
    StepA P ops (bxV bs T w0.heap.size) (bxS bs w0) a0 i o := by
  intro x w L hsz hS hLi hdp hf hval hcl
  refine ⟨fun _ => (h x.eval w L (env_eval x) hS.1 hf).mono ?_, fun hn => by simp [wantedBy, hg] at hn⟩
  rintro v w' ⟨h1, h2⟩
  have hL : ∀ b ∈ bs, (fun j => j == i || L j) b.store = true → L b.store = true := fun b hb h => by
    have := List.all_eq_true.1 hi b hb
    simp only [Bool.and_eq_true, bne_iff_ne, ne_eq] at this
    simpa [this.1] using h
  refine ⟨fun d hd' => ?_, fun j p d hj hLj hd' => bxV_ext h2 hL (hval j p hj hLj d hd'), hS.1.trans h2, fun b hb b' hb' hne l1 l2 => ?_⟩
  · rw [hd'] at hd
    rw [bxV_none (by simpa using hd)]
    exact h1 d hd'
  · have q := List.all_eq_true.1 hi b hb
    have q' := List.all_eq_true.1 hi b' hb'
    simp only [Bool.and_eq_true, bne_iff_ne, ne_eq] at q q'
    have s1 : o.dst ≠ some b.slot := fun e => by
      rw [e] at hd
      simp only [Option.isNone_iff_eq_none] at hd
      have := List.find?_eq_none.1 hd b hb
      simp at this
    have s2 : o.dst ≠ some b'.slot := fun e => by
      rw [e] at hd
      simp only [Option.isNone_iff_eq_none] at hd
      have := List.find?_eq_none.1 hd b' hb'
      simp at this
    rw [put_slot s1, put_slot s2]
    exact hS.2 b hb b' hb' hne (by simpa [q.2] using l1) (by simpa [q'.2] using l2)
/-- The operation that lays a box. -/
theorem StepA.balloc (hok : bxOk ops bs = true) {b : Bx} (hb : b ∈ bs) (hdst : b.slot < a0.tmps.size) (hi : b.alloc = i) (hst : (bs.all fun x => x.store != i) = true) (ho : ops[i]? = some o) (hg : o.guard = none) (Z : Array Value) (hZ : Z.size = b.n)
    (hrun : ∀ (x : Act) (w : World), (execOp x.eval o).run P w = .ok (.value (.pointer (some ⟨w.heap.size, 0, none⟩))) (w.alloc (.cells Z b.ty))) :
    StepA P ops (bxV bs T w0.heap.size) (bxS bs w0) a0 i o := by
  subst hi
  intro x w L hsz hS hLi hdp hf hval hcl
  obtain ⟨q1, q2, q3, q4⟩ := bxOk_at hok hb
  have hod : o.dst = some b.slot := by rw [ho] at q1; simpa using q1
  refine ⟨fun _ => Exec.value (hrun x w) ?_, fun hn => by simp [wantedBy, hg] at hn⟩
  have hx : Ext w (w.alloc (.cells Z b.ty)) := (Ch.refl _ _).alloc _
  have hL : ∀ x ∈ bs, (fun j => j == b.alloc || L j) x.store = true → L x.store = true := fun x hx h => by
    have := List.all_eq_true.1 hst x hx
    simp only [bne_iff_ne, ne_eq] at this
    simpa [this] using h
  have hLs : L b.store = false := by
    rcases Bool.eq_false_or_eq_true (L b.store) with h | h
    · cases hos : ops[b.store]? with
      | none => rw [hos] at q3; cases q3
      | some p =>
        rw [hos] at q3
        have := hcl b.store p hos h b.alloc (by simpa using q3)
        rw [hLi] at this; cases this
    · exact h
  have hnew : ∀ b' ∈ bs, b.slot ≠ b'.slot → L b'.alloc = true → x.tmps.getD b'.slot undef ≠ .pointer (some ⟨w.heap.size, 0, none⟩) := fun b' hb' hne hl e => by
    obtain ⟨r1, _⟩ := bxOk_at hok hb'
    cases hoa : ops[b'.alloc]? with
    | none => rw [hoa] at r1; cases r1
    | some p =>
      rw [hoa] at r1
      have hv := hval b'.alloc p hoa hl b'.slot (by simpa using r1)
      rw [bxV_box (bx_same (fun b hb => (bxOk_at hok hb).2.2.2) hb')] at hv
      obtain ⟨g, c, e1, _, e3, _⟩ := hv
      rw [e] at e1; cases e1
      have := (Array.getElem?_eq_some_iff.1 e3).1; omega
  refine ⟨fun d hd' => ?_, fun j p d hj hLj hd' => bxV_ext hx hL (hval j p hj hLj d hd'), hS.1.trans hx, fun c hc c' hc' hne l1 l2 => ?_⟩
  · rw [hod] at hd'; cases hd'
    rw [bxV_box (bx_same (fun b hb => (bxOk_at hok hb).2.2.2) hb)]
    refine ⟨w.heap.size, Z, rfl, hS.1.size, heap_alloc_new w _, hZ, fun h => ?_⟩
    have := hL b hb h
    rw [hLs] at this; cases this
  · rw [hod]
    have hbs : b.slot < x.tmps.size := by rw [hsz]; exact hdst
    by_cases e1 : c.slot = b.slot
    · have e2 : b.slot ≠ c'.slot := fun e => hne (e1.trans e)
      rw [e1, put_here hbs, put_slot (fun e => e2 (Option.some.inj e))]
      have hne2 : c'.alloc ≠ b.alloc := fun e => by
        have r := (bxOk_at hok hc').1
        rw [e, q1] at r
        exact e2 (Option.some.inj r)
      exact fun e => hnew c' hc' e2 (by simpa [hne2] using l2) e.symm
    · rw [put_slot (fun e => e1 (Option.some.inj e).symm)]
      have hne1 : c.alloc ≠ b.alloc := fun e => by
        have r := (bxOk_at hok hc).1
        rw [e, q1] at r
        exact e1 (Option.some.inj r).symm
      by_cases e2 : c'.slot = b.slot
      · rw [e2, put_here hbs]
        exact hnew c hc (fun e => e1 e.symm) (by simpa [hne1] using l1)
      · rw [put_slot (fun e => e2 (Option.some.inj e).symm)]
        have hne2 : c'.alloc ≠ b.alloc := fun e => by
          have r := (bxOk_at hok hc').1
          rw [e, q1] at r
          exact e2 (Option.some.inj r).symm
        exact hS.2 c hc c' hc' hne (by simpa [hne1] using l1) (by simpa [hne2] using l2)
/-- The operation that fills a box. -/
theorem StepA.bstore (hgo : goodOps ops = true) (hok : bxOk ops bs = true) {b : Bx} (hb : b ∈ bs) (hi : b.store = i) (hst : (bs.all fun x => (x.slot == b.slot) || ((x.store != i) && (x.alloc != i))) = true) (hba : b.alloc ≠ i) (ho : ops[i]? = some o) (hg : o.guard = none) (hop : o.op = .store b.ty (.tmp b.slot) (.tmp b.src))
    (hf1 : fedBy ops o b.slot = true) (hf2 : fedBy ops o b.src = true) (hns : bs.find? (fun x => x.slot == b.src) = none) (hTs : Ts b.ty) (hinf : (P.info? b.ty).map (·.size) = some b.n)
    (hagg : ∀ v w, (T b.src).holds v w → ∃ c, v = .agg c ∧ c.size = b.n ∧ (c.all (·.oneCell')) = true) :
    StepA P ops (bxV bs T w0.heap.size) (bxS bs w0) a0 i o := by
  subst hi
  intro x w L hsz hS hLi hdp hf hval hcl
  obtain ⟨q1, q2, q3, q4⟩ := bxOk_at hok hb
  have hod : o.dst = none := by rw [ho] at q2; simpa using q2
  have hLa : L b.alloc = true := hdp b.alloc (by rw [ho] at q3; simpa using q3)
  have hbox := (hf b.slot).1 hf1
  rw [bxV_box (bx_same (fun b hb => (bxOk_at hok hb).2.2.2) hb)] at hbox
  obtain ⟨g, c0, e1, e2, e3, e4, _⟩ := hbox
  have hsrc := (hf b.src).1 hf2
  rw [bxV_none hns] at hsrc
  obtain ⟨c, ec, hcn, hc1⟩ := hagg _ _ hsrc
  refine ⟨fun _ => ?_, fun hn => by simp [wantedBy, hg] at hn⟩
  refine (Exec.kstorerow hop e1 ec e3 (by rw [hinf, hcn]) (by rw [e4, hcn]) hc1).mono ?_
  rintro v w' rfl
  have hty : Ch (TyB Ts w) w (w.setRow g c) := (Ch.refl (TyB Ts w) w).setRow (.inl ⟨c0, b.ty, (0, 0), hTs, e3⟩) c
  have e1' : x.tmps.getD b.slot undef = .pointer (some ⟨g, 0, none⟩) := e1
  refine ⟨fun d hd' => (by rw [hod] at hd'; cases hd'), fun j p d hj hLj hd' => ?_, hS.1.setRow (.inr e2) c, fun y hy y' hy' hne l1 l2 => ?_⟩
  · have hv := hval j p hj hLj d hd'
    cases hfd : bs.find? (fun y => y.slot == d) with
    | none =>
      rw [bxV_none hfd] at hv ⊢
      exact (T d).keeps _ _ _ hty hv
    | some b' =>
      have hb' := List.mem_of_find?_eq_some hfd
      have hs' : b'.slot = d := by have := List.find?_some hfd; simpa using this
      subst hs'
      rw [bxV_box hfd] at hv ⊢
      obtain ⟨g', c', k1, k2, k3, k4, k5⟩ := hv
      by_cases hbb : b.slot = b'.slot
      · obtain rfl := q4 b' hb' hbb
        rw [e1'] at k1; cases k1
        refine ⟨g, c, e1', e2, setRow_heap _ _ _ _ _ _ e3, hcn, fun _ => ?_⟩
        rw [← ec]
        exact (T b.src).keeps _ _ _ hty hsrc
      · have hq := List.all_eq_true.1 hst b' hb'
        simp only [Bool.or_eq_true, beq_iff_eq, Bool.and_eq_true, bne_iff_ne, ne_eq] at hq
        have hq' := hq.resolve_left (fun e => hbb e.symm)
        have hLa' : L b'.alloc = true := by
          obtain ⟨r1, _⟩ := bxOk_at hok hb'
          by_cases hja : j = b'.alloc
          · rw [← hja]; exact hLj
          · exfalso
            cases hoa : ops[b'.alloc]? with
            | none => rw [hoa] at r1; cases r1
            | some p' =>
              rw [hoa] at r1
              exact goodOps_dst hgo hoa hj hja (by simpa using r1) hd'
        have hgg : g' ≠ g := fun e => by
          have := hS.2 b hb b' hb' hbb hLa hLa'
          rw [e1', k1, e] at this
          exact this rfl
        refine ⟨g', c', k1, k2, by rw [setRow_other _ _ _ _ hgg]; exact k3, k4, fun h => (T b'.src).keeps _ _ _ hty (k5 (by simpa [hq'.1] using h))⟩
  · rw [hod, show (x.put none v) = x from rfl]
    have r := List.all_eq_true.1 hst y hy
    have r' := List.all_eq_true.1 hst y' hy'
    simp only [Bool.or_eq_true, beq_iff_eq, Bool.and_eq_true, bne_iff_ne, ne_eq] at r r'
    have key : ∀ z ∈ bs, z.alloc ≠ b.store := fun z hz => by
      have r := List.all_eq_true.1 hst z hz
      simp only [Bool.or_eq_true, beq_iff_eq, Bool.and_eq_true, bne_iff_ne, ne_eq] at r
      rcases r with r | r
      · rw [← q4 z hz r.symm]; exact hba
      · exact r.2
    exact hS.2 y hy y' hy' hne (by simpa [key y hy] using l1) (by simpa [key y' hy'] using l2)
end

section
variable {P : Program} {Q : Exit → Act → World → Prop} {a0 : Act}
/-- THE LAW. -/
theorem wp_region_boxes {Ts : TypeId → Prop} {id : Nat} {l : List Oper} {w0 : World} (T : Tmp → KnT Ts) (bs : List Bx)
    (hm : P.follows .mixedOrders = true) (hg : goodOps l.toArray = true) (hdst : (l.all fun o => match o.dst with | some d => decide (d < a0.tmps.size) | none => true) = true)
    (hall : AllA P l.toArray (bxV bs T w0.heap.size) (bxS bs w0) a0 0 l)
    (fin : ∀ (ν : Tmp → Value) (w : World), (∀ (i : Nat) (d : Tmp), (l[i]?).bind (·.dst) = some d → bxV bs T w0.heap.size (fun i => decide (i < l.length)) d (ν d) w) → Ext w0 w → Q .normal ⟨ended l ν a0.tmps, a0.defers⟩ w) :
    (Code.region id l.toArray true).wp P Q a0 w0 :=
  wp_region_act (bxV bs T w0.heap.size) (bxS bs w0) hm hg hdst ⟨Ch.drew (Ch.refl _ _), fun _ _ _ _ _ h => by cases h⟩ hall fun ν w h hs => fin ν w (fun i d hd => by
    cases ho : l[i]? with
    | none => simp [ho] at hd
    | some o => exact h o (List.mem_of_getElem? ho) d (by simpa [ho] using hd)) hs.1
end
end Go.Lac
