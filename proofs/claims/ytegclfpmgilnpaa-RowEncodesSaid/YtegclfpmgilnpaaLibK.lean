/-
  A library of the verifier's own, over no program, eleventh part: a range over an iterator that makes what it hands over: the loop's body is told what the iterator knows of each item.
-/
import Derived.Test.YtegclfpmgilnpaaLibJ
import Derived.Test.YtegclfpmgilnpaaLibI
import Derived.Test.YtegclfpmgilnpaaGLib
import Derived.RangeFuncNested
import Derived.RangeFuncBox
namespace Go.Lac
open Go Go.RowKit

/-- An iterator's contract, for every body and every invariant of the body's: each item x comes with what is known of it, Kx x. -/
def SeqKnows {α : Type} (F : Fence) (n : Nat) (P : Program) (g : Nat) (lb : Array Value) (encs : α → Array Value) (Kx : α → World → Prop) (Kp : World → World → Prop) (S Sp : List α → Prop) (N : Nat) (w : World) : Prop :=
  ∀ (l : Nat) (J Jx : List α → World → Prop) (W : World), Below w.heap.size w W → AbidesFrom W.heap.size J → AbidesFrom W.heap.size Jx →
    (∀ pre x W1, J pre W1 → Kx x W1 → pre.length < N → YieldAt F (n - 1) P l (encs x) W1 fun e W' =>
      (e = .returned (.bool true) ∧ J (pre ++ [x]) W' ∧ Kp W1 W') ∨ (e = .returned (.bool false) ∧ Jx (pre ++ [x]) W')) →
    J [] W → CallsIn F n P g (#[.func (.yield l) #[] #[]] ++ lb) W fun e W' => (∃ v, e = .returned v) ∧ ((∃ xs, S xs ∧ J xs W') ∨ (∃ pre, Sp pre ∧ Jx pre W'))

/-- The loop's two blocks of its own: the rounds' deferred calls at D, the record behind it. -/
def Recs (D : Nat) (r : Loop) (W : World) : Prop := W.heap[D]? = some (.deferred (some [])) ∧ W.heap[D + 1]? = some (.loop r)
theorem Recs.lt {D : Nat} {r : Loop} {W : World} (h : Recs D r W) : D + 1 < W.heap.size := (Array.getElem?_eq_some_iff.1 h.2).1
theorem Recs.keeps {D : Nat} {r : Loop} {W W' : World} (h : Recs D r W) (hk : KeepsFrom D W W') : Recs D r W' := ⟨hk.same _ _ (Nat.le_refl _) h.1 rfl, hk.same _ _ (by omega) h.2 rfl⟩
theorem Recs.turn {D : Nat} {r : Loop} {W : World} (h : Recs D r W) (r' : Loop) : Recs D r' (W.putObj (D + 1) (.loop r')) := ⟨(World.putObj_heap_other (by omega)).trans h.1, World.putObj_heap_same h.lt⟩
theorem Recs.grows {D : Nat} {r : Loop} {A B : World} {row : Option Nat} (h : Recs D r A) (hg : A.grownBy B row) (hr : ∀ b, row = some b → ∃ o : Obj, A.heap[b]? = some o ∧ o.isWalk = true) : Recs D r B :=
  ⟨(grownBy_keeps hg hr h.1 rfl).trans h.1, (grownBy_keeps hg hr h.2 rfl).trans h.2⟩

section
variable {F : Fence} {n : Nat} {P : Program} {w : World}
theorem wpIn_rangeFunc_knows {α : Type} {g : Operand} {ps : Array Tmp} {assign body : Code} {Q : Exit → Act → World → Prop} {a : Act}
    (hro : F.round = none) (h1 : 1 ≤ n) {gf : Nat} {lb : Array Value} (hg : a.eval g = .func (.func gf) #[] lb) (hFg : F.fn gf) (eg : ∀ args w, (callFunc gf args).run P w = .ok (.enter gf args) w)
    {encs : α → Array Value} {Kx : α → World → Prop} {Kp : World → World → Prop} {S Sp : List α → Prop} {N : Nat} {w0 : World} (hseq : SeqKnows F (n - 1) P gf lb encs Kx Kp S Sp N w0)
    (hKt : ∀ {A B C : World}, Kp A B → Kp B C → Kp A C) (hKb : ∀ (W : World) (l : Nat) (o o' : Obj), w.heap.size ≤ l → W.heap[l]? = some o → o.isCells = false → o.isWalk = false → Kp W (W.putObj l o')) (hb0 : Below w0.heap.size w0 w) (hps : ∀ x, (encs x).size = ps.size)
    (I : List α → World → Prop) (Ix : Code → List α → World → Prop) (hI : OwnFrom w.heap.size I) (hIx : ∀ c, OwnFrom w.heap.size (Ix c)) (h0 : I [] w) (Ax : α → Act → World → Prop) (hAx : ∀ x a', OwnFrom w.heap.size (fun (_ : Unit) W => Ax x a' W))
    (hassign : ∀ (l : Nat) (pre : List α) (x : α) (W : World) (K : Act → World → Prop), I pre W → Kx x W → (∀ a' W', KeepsFrom w.heap.size W W' → Kp W W' → I pre W' → Ax x a' W' → K a' W') →
      assign.wpIn (F.inRound l) (n - 1 - 1) P (Exit.then K (fun _ _ _ => False)) { tmps := (ps.zip (encs x)).foldl (fun t (p, v) => t.setIfInBounds p v) a.tmps, defers := [] } W)
    (hbody : ∀ (l : Nat) (pre : List α) (x : α) (a' : Act) (W : World), w.heap.size ≤ l → I pre W → Ax x a' W → pre.length < N → body.wpIn (F.inRound l) (n - 1 - 1) P (ownPostG w.heap.size Kp I Ix (pre ++ [x]) W) a' W)
    (hdone : ∀ (D : Nat) (xs : List α) (W : World), w.heap.size ≤ D → S xs → I xs W → W.heap[D]? = some (.deferred (some [])) → Q .normal { a with defers := { target := .collected D, args := #[] } :: a.defers } W)
    (hstop : ∀ (D : Nat) (c : Code) (pre : List α) (W : World), w.heap.size ≤ D → Sp pre → Ix c pre W → W.heap[D]? = some (.deferred (some [])) → c.wpIn F n P Q { a with defers := { target := .collected D, args := #[] } :: a.defers } W) :
    (Code.rangeFunc g ps assign body).wpIn F n P Q a w := by
  obtain ⟨D, hD⟩ : ∃ D, D = w.heap.size := ⟨_, rfl⟩
  refine wpIn_rangeFunc fun fn hfn => ?_
  rw [hro]
  obtain ⟨rec, hrec⟩ : ∃ rec : LoopState → Option Code → Loop, rec = fun st pe => { state := st, pending := pe, fn, tmps := a.tmps, params := ps, assign, body, defers := D } := ⟨_, rfl⟩
  have rst : ∀ st pe, (rec st pe).state = st := fun st pe => by rw [hrec]
  obtain ⟨W1, hW1⟩ : ∃ W1, W1 = (w.alloc (.deferred (some []))).alloc (.loop (rec .ready none)) := ⟨_, rfl⟩
  have hR1 : Recs D (rec .ready none) W1 := by
    have e1 := World.alloc_heap_new (w.alloc (.deferred (some []))) (.loop (rec .ready none))
    rw [World.size_alloc, ← hW1, ← hD] at e1
    refine ⟨?_, e1⟩
    rw [hW1, hD]
    exact (Below.heap_alloc _ _ _ (by simp)).trans (World.alloc_heap_new w _)
  have hS1 : W1.heap.size = D + 2 := by rw [hW1, hD]; simp
  have hb1 : Below w0.heap.size w0 W1 := by
    have := ((Below.refl _ w).alloc (Nat.le_refl _) (.deferred (some []))).alloc (by simp) (.loop (rec .ready none))
    rw [hW1]
    exact hb0.trans (this.mono hb0.size)
  have hI1 : I [] W1 := by rw [hW1]; exact hI.alloc _ (hI.alloc _ h0)
  subst hD
  refine ⟨w.heap.size + 1, [{ target := .collected w.heap.size, args := #[] }], W1, { target := .fn (.func gf) lb, args := #[.func (.yield (w.heap.size + 1)) #[] #[]] }, W1, gf, #[.func (.yield (w.heap.size + 1)) #[] #[]] ++ lb, W1, ?_, ?_, ?_, ?_, fun _ => h1, ?_⟩
  · rw [hW1, hrec]; exact run_enterLoop_outer _ _ _ _ _
  · simp only [resolve, hg]; simp [go_sem]
  · intro f' hf'
    simp only [Target.leads, Option.some.injEq] at hf'
    subst hf'
    exact hFg
  · simp [invoke, go_sem, eg]
  have hrow : ∀ {A : World} {row : Option Nat}, (∀ r, row = some r → W1.heap.size ≤ r ∧ ∃ o : Obj, A.heap[r]? = some o ∧ o.isWalk = true) → (∀ r, row = some r → w.heap.size ≤ r ∧ ∃ o : Obj, A.heap[r]? = some o ∧ o.isCells = false) := fun hr r e => by
    obtain ⟨h2, o, h3, h4⟩ := hr r e
    exact ⟨by omega, o, h3, Obj.not_cells_of_walk h4⟩
  refine (hseq (w.heap.size + 1) (fun pre W => I pre W ∧ Recs w.heap.size (rec .ready none) W) (fun pre W => ∃ c, Ix c pre W ∧ Recs w.heap.size (rec .done (some c)) W) W1 hb1
    (fun s A B row hs hg' hr => ⟨hI s A B row hs.1 hg' (hrow hr), hs.2.grows hg' fun r e => (hr r e).2⟩)
    (fun s A B row ⟨c, hc, hk⟩ hg' hr => ⟨c, hIx c s A B row hc hg' (hrow hr), hk.grows hg' fun r e => (hr r e).2⟩) ?_ ⟨hI1, hR1⟩).mono ?_
  · rintro pre x W ⟨hi, hr⟩ hkx hlen
    have hy := run_yield (P := P) (args := encs x) hr.2 (by rw [hrec]; exact hps x)
    rw [hrec] at hy
    refine ⟨fn, _, assign, body, hy, roundIn_of_wpIn hfn (hassign _ pre x W _ hi hkx ?_)⟩
    intro a' Wa hka hpa hia hax
    have hra := hr.keeps hka
    refine ⟨_, run_beginRound hra.2 (rst _ _), ?_⟩
    have hrb := hra.turn { rec .ready none with state := .busy }
    have hpb := hKb Wa (w.heap.size + 1) _ (.loop { rec .ready none with state := .busy }) (by omega) hra.2 rfl rfl
    have hib := hI.putObj (.loop { rec .ready none with state := .busy }) hia (by omega) hra.2 rfl
    have hab := (hAx x a').putObj (s := ()) (.loop { rec .ready none with state := .busy }) hax (by omega) hra.2 rfl
    refine wpIn_mono (hbody _ pre x a' _ (by omega) hib hab hlen) ?_
    have fin : ∀ (jump : Option Code) (W3 : World), KeepsFrom w.heap.size (Wa.putObj (w.heap.size + 1) (.loop { rec .ready none with state := .busy })) W3 →
        (Instr.endRound (w.heap.size + 1) jump).run P W3 = .ok (.bool jump.isNone) (W3.putObj (w.heap.size + 1) (.loop (rec (if jump.isNone then .ready else .done) jump))) ∧
        W3.heap[w.heap.size + 1]? = some (.loop { rec .ready none with state := .busy }) ∧ Recs w.heap.size (rec (if jump.isNone then .ready else .done) jump) (W3.putObj (w.heap.size + 1) (.loop (rec (if jump.isNone then .ready else .done) jump))) := fun jump W3 hk3 => by
      have hr3 := hrb.keeps hk3
      have he := run_endRound (P := P) jump (by rw [hrec] at hr3; exact hr3.2)
      refine ⟨?_, hr3.2, hr3.turn _⟩
      rw [hrec]
      exact he
    intro e a3 W3 hp
    cases e with
    | normal =>
      obtain ⟨k1, k2, k3⟩ := hp
      obtain ⟨f1, f2, f3⟩ := fin none W3 k1
      exact ⟨_, _, f1, .inl ⟨rfl, ⟨hI.putObj _ k3 (by omega) f2 rfl, f3⟩, hKt hpa (hKt hpb (hKt k2 (hKb _ _ _ _ (by omega) f2 rfl rfl)))⟩⟩
    | ret => obtain ⟨k1, k3⟩ := hp; obtain ⟨f1, f2, f3⟩ := fin (some .ret) W3 k1; exact ⟨_, _, f1, .inr ⟨rfl, .ret, (hIx _).putObj _ k3 (by omega) f2 rfl, f3⟩⟩
    | exit id => obtain ⟨k1, k3⟩ := hp; obtain ⟨f1, f2, f3⟩ := fin (some (.exit id)) W3 k1; exact ⟨_, _, f1, .inr ⟨rfl, .exit id, (hIx _).putObj _ k3 (by omega) f2 rfl, f3⟩⟩
    | goto t => obtain ⟨k1, k3⟩ := hp; obtain ⟨f1, f2, f3⟩ := fin (some (.goto t)) W3 k1; exact ⟨_, _, f1, .inr ⟨rfl, .goto t, (hIx _).putObj _ k3 (by omega) f2 rfl, f3⟩⟩
    | panic ch => exact hp.elim
    | outgrown => exact hp.elim
  · have dn : ∀ (st : LoopState) (pe : Option Code) (W2 : World), st ≠ .busy → Recs w.heap.size (rec st pe) W2 → ∃ W3 o, (Instr.endLoop (w.heap.size + 1)).run P W2 = .ok pe W3 ∧ W3 = W2.putObj (w.heap.size + 1) o ∧ W3.heap[w.heap.size]? = some (.deferred (some [])) := fun st pe W2 hne hr => by
      have e := run_endLoop (P := P) hr.2 (by rw [rst]; exact hne)
      have ep : (rec st pe).pending = pe := by rw [hrec]
      rw [ep] at e
      exact ⟨_, _, e, rfl, (World.putObj_heap_other (by omega)).trans hr.1⟩
    rintro e W2 ⟨⟨v, rfl⟩, (⟨xs, hS, hi, hr⟩ | ⟨pre, hSp, c, hi, hr⟩)⟩
    · obtain ⟨W3, o, d1, rfl, d3⟩ := dn _ _ W2 (by simp) hr
      exact ⟨none, _, d1, hdone w.heap.size xs _ (Nat.le_refl _) hS (hI.putObj _ hi (by omega) hr.2 rfl) d3⟩
    · obtain ⟨W3, o, d1, rfl, d3⟩ := dn _ _ W2 (by simp) hr
      exact ⟨some c, _, d1, hstop w.heap.size c pre _ (Nat.le_refl _) hSp ((hIx c).putObj _ hi (by omega) hr.2 rfl) d3⟩
end

/-! ### Small things -/
theorem with_frameK {F : Fence} {n : Nat} {P : Program} {c : Code} {Q : Exit → Act → World → Prop} {L : List Value} {ds : List Deferred} {w : World} (h : ∀ L' : List Value, L' = L → Code.wpIn F n P c Q ⟨L'.toArray, ds⟩ w) : Code.wpIn F n P c Q ⟨L.toArray, ds⟩ w := h L rfl
theorem keepsK_ext {W W' : World} (h : Ext W W') : KeepsOthers W W' := ⟨h.size, fun k o hk _ => by
  rw [h.block k (Array.getElem?_eq_some_iff.1 hk).1 (fun f => f)]; exact hk⟩
theorem keepsK_grown {W W' : World} {row : Option Nat} (hg : W.grownBy W' row) (hr : ∀ r, row = some r → ∃ o : Obj, W.heap[r]? = some o ∧ o.isCells = true) : KeepsOthers W W' := ⟨hg.size, fun k o hk hc => by
  rw [hg.block k (Array.getElem?_eq_some_iff.1 hk).1 fun e => by
    obtain ⟨o', h1, h2⟩ := hr k e.symm
    rw [hk] at h1; cases h1; rw [hc] at h2; cases h2]
  exact hk⟩
theorem ownsK_cells {w : World} {base : Nat} {e : TypeId} {size : Nat} {v : Value} {n : Nat} {xs : List Value} (h : w.ownsRow base e size v n xs) : ∀ r, v.ownBlock = some r → ∃ o : Obj, w.heap[r]? = some o ∧ o.isCells = true := by
  intro r hr
  rcases h.2 with ⟨rfl, _⟩ | ⟨g', cap, cur, rfl, hb, hh, _⟩
  · simp [Value.ownBlock] at hr
  · simp only [Value.ownBlock, Option.some.injEq] at hr
    subst hr
    exact ⟨_, hh, rfl⟩
theorem own_noobK {w : World} {base : Nat} {e : TypeId} {size : Nat} {v : Value} {n : Nat} {xs : List Value} (h : w.ownsRow base e size v n xs) {g : Nat} {o : Obj} (hg : w.heap[g]? = some o) (hT : ∀ cur, o ≠ .cells cur e (0, 0)) : v.ownBlock ≠ some g := by
  rcases h.2 with ⟨rfl, _⟩ | ⟨g', cap, cur, rfl, hb, hh, _⟩
  · simp [Value.ownBlock]
  · intro e
    simp only [Value.ownBlock, Option.some.injEq] at e
    subst e
    rw [hg] at hh
    cases hh
    exact hT _ rfl
/-- A row of one's own lies as it lay where no cells are changed. -/
theorem own_keptK {A B : World} {row : Option Nat} {base : Nat} {e : TypeId} {size : Nat} {v : Value} {n : Nat} {xs : List Value} (h : A.ownsRow base e size v n xs) (hg : A.grownBy B row) (hrow : ∀ r, row = some r → ∃ o : Obj, A.heap[r]? = some o ∧ o.isCells = false) : B.ownsRow base e size v n xs := by
  refine h.kept hg ?_
  cases hv : v.ownBlock with
  | none => exact .inl rfl
  | some k =>
    refine .inr fun e' => ?_
    obtain ⟨o, ho, hc⟩ := hrow k e'.symm
    exact own_noobK h ho (fun cur e => by subst e; cases hc) hv
/-- A block of cells lies as it lay where no cells are changed. -/
theorem heap_keptK {A B : World} {row : Option Nat} {g : Nat} {cs : Array Value} {T : TypeId} {z : Nat × Nat} (h : A.heap[g]? = some (.cells cs T z)) (hg : A.grownBy B row) (hrow : ∀ r, row = some r → ∃ o : Obj, A.heap[r]? = some o ∧ o.isCells = false) : B.heap[g]? = some (.cells cs T z) := by
  rw [hg.block g (Array.getElem?_eq_some_iff.1 h).1 fun e => by
    obtain ⟨o, ho, hc⟩ := hrow g e.symm
    rw [h] at ho; cases ho; cases hc]
  exact h
/-- What owns its row keeps it where another row, of another type, is changed. -/
theorem own_chK {N : Nat → Prop} {w w' : World} {base : Nat} {e : TypeId} {size : Nat} {v : Value} {n : Nat} {xs : List Value} (h : w.ownsRow base e size v n xs) (hx : Ch N w w') (hN : ∀ k, v.ownBlock = some k → ¬ N k) : w'.ownsRow base e size v n xs := by
  refine ⟨h.1, ?_⟩
  rcases h.2 with h1 | ⟨g, cap, cur, h1, h2, h3, h4⟩
  · exact .inl h1
  · refine .inr ⟨g, cap, cur, h1, h2, ?_, h4⟩
    rw [hx.block g (Array.getElem?_eq_some_iff.1 h3).1 (hN g (by rw [h1]; rfl))]
    exact h3

/-! ### Regions whose order is drawn, within any open fence -/
section
variable {F : Fence} {n : Nat} {P : Program} {ops : Array Oper} {V : (Nat → Bool) → Tmp → Value → World → Prop} {S : (Nat → Bool) → World → Prop} {a0 : Act}
theorem StepG.openly {i : Nat} {o : Oper} (hF : Open F) (hn : noDefer o = true) (h : StepG P ops V S a0 i o) : StepI F n P ops V S a0 i o := by
  intro x w L hw hi hd hf hc
  obtain ⟨h1, h2⟩ := h x.eval w L (env_eval x) hw hi hd hf hc
  exact ⟨fun hx => Exec.openly hF hn (h1 hx), h2⟩
theorem AllG.openly (hF : Open F) : ∀ (l : List Oper) (i : Nat), l.all noDefer = true → AllG P ops V S a0 i l → AllI F n P ops V S a0 i l
  | [], _, _, _ => trivial
  | o :: l, i, hn, h => by
    rw [List.all_cons, Bool.and_eq_true] at hn
    exact ⟨StepG.openly hF hn.1 h.1, AllG.openly hF l (i + 1) hn.2 h.2⟩
/-- THE LAW: some operations write, one behind the other. -/
theorem wpIn_region_ph {Q : Exit → Act → World → Prop} {id : Nat} {l : List Oper} {w0 : World} (hF : Open F) (ms : List Nat) (T : Nat → Tmp → Kn) (Fi : Nat → World → Prop)
    (hm : P.follows .mixedOrders = true) (hg : goodOps l.toArray = true) (hnd : l.all noDefer = true) (hdst : (l.all fun o => match o.dst with | some d => decide (d < a0.tmps.size) | none => true) = true) (hms : (ms.all fun m => decide (m < l.length)) = true)
    (h0 : Fi 0 w0.drew)
    (hall : AllG P l.toArray (phV ms T) (phS ms Fi) a0 0 l)
    (fin : ∀ (ν : Tmp → Value) (w : World), (∀ (i : Nat) (d : Tmp), (l[i]?).bind (·.dst) = some d → (T ms.length d).holds (ν d) w) → Fi ms.length w → Q .normal ⟨ended l ν a0.tmps, a0.defers⟩ w) :
    (Code.region id l.toArray true).wpIn F n P Q a0 w0 := by
  have hph : ph ms (fun i => decide (i < l.length)) = ms.length := by
    unfold ph
    rw [List.filter_eq_self.2 fun m hm => List.all_eq_true.1 hms m hm]
  refine wpIn_region_gen (phV ms T) (phS ms Fi) hF hm hg hdst ?_ (AllG.openly hF l 0 hnd hall) fun ν w h hs => fin ν w (fun i d hd => ?_) ?_
  · have : ph ms (fun _ => false) = 0 := by unfold ph; rw [List.filter_eq_nil_iff.2 fun _ _ => by simp]; rfl
    unfold phS
    rw [this]; exact h0
  · cases ho : l[i]? with
    | none => simp [ho] at hd
    | some o =>
      have := h o (List.mem_of_getElem? ho) d (by simpa [ho] using hd)
      unfold phV at this
      rwa [hph] at this
  · unfold phS at hs; rwa [hph] at hs
theorem StepOK.toG {V : Tmp → Value → World → Prop} {i : Nat} {o : Oper} (h : StepOK P ops V S a0 i o) : StepG P ops (fun _ => V) S a0 i o := by
  intro ρ w L hρ hS hi hd hf hc
  obtain ⟨h1, h2⟩ := h ρ w L hρ hS hi hd hf hc
  refine ⟨fun hw => (h1 hw).mono ?_, fun hw => ?_⟩
  · rintro v w' ⟨a, b, c⟩
    exact ⟨a, fun d v _ => b d v, c⟩
  · obtain ⟨a, b, c⟩ := h2 hw
    exact ⟨a, fun d v _ => b d v, c⟩
theorem AllOK.toG {V : Tmp → Value → World → Prop} : ∀ (l : List Oper) (i : Nat), AllOK P ops V S a0 i l → AllG P ops (fun _ => V) S a0 i l
  | [], _, _ => trivial
  | _ :: l, i, h => ⟨StepOK.toG h.1, AllOK.toG l (i + 1) h.2⟩
/-- THE LAW: nothing old is changed. -/
theorem wpIn_region_extO {Q : Exit → Act → World → Prop} {id : Nat} {l : List Oper} {w0 : World} (hF : Open F) (T : Tmp → Kn)
    (hm : P.follows .mixedOrders = true) (hg : goodOps l.toArray = true) (hnd : l.all noDefer = true) (hdst : (l.all fun o => match o.dst with | some d => decide (d < a0.tmps.size) | none => true) = true)
    (hall : AllOK P l.toArray (knV T) (fun _ w => Ext w0 w) a0 0 l)
    (fin : ∀ (ν : Tmp → Value) (w : World), (∀ (i : Nat) (d : Tmp), (l[i]?).bind (·.dst) = some d → (T d).holds (ν d) w) → Ext w0 w → Q .normal ⟨ended l ν a0.tmps, a0.defers⟩ w) :
    (Code.region id l.toArray true).wpIn F n P Q a0 w0 := by
  refine wpIn_region_gen (fun _ => knV T) (fun _ w => Ext w0 w) hF hm hg hdst (Ch.drew (Ch.refl _ _)) (AllG.openly hF l 0 hnd (AllOK.toG l 0 hall)) fun ν w h hx => fin ν w (fun i d hd => ?_) hx
  cases ho : l[i]? with
  | none => simp [ho] at hd
  | some o => exact h o (List.mem_of_getElem? ho) d (by simpa [ho] using hd)
end
end Go.Lac
