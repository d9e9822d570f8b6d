/-
  A region whose order is drawn, with two calls that each change a thing of their own; and what a change to one reader leaves of the other.
-/
import Derived.Test.YteechmgcjfnjbaaLib
import Derived.Test.YteechmgcjfnjbaaPrimD
import Derived.Test.YteechmgcjfnjbaaRefA
namespace Go.Lac
open Go.RowKit

section
variable {P : Program} {ops : Array Oper} {T : Tmp → Kn} {A : Bool → Bool → World → Prop} {a0 : Act} {i m1 m2 : Nat} {o : Oper}

def twoS (A : Bool → Bool → World → Prop) (m1 m2 : Nat) (L : Nat → Bool) (w : World) : Prop := A (L m1) (L m2) w

theorem StepOK.twoRead (hT : ∀ d, (T d).pure) (hA : ∀ a b w w', A a b w → Ext w w' → A a b w') (h1 : (m1 == i) = false) (h2 : (m2 == i) = false) (hg : o.guard = none)
    (h : ∀ ρ w, Env ρ → (∃ a b, A a b w) → (∀ t, Fact ops (knV T) a0 i o ρ w t) → Exec P ρ o w fun v w' => (∀ d, o.dst = some d → knV T d v w') ∧ Ext w w') :
    StepOK P ops (knV T) (twoS A m1 m2) a0 i o := by
  intro ρ w L hρ hw hi _ hf _
  refine ⟨fun _ => (h ρ w hρ ⟨_, _, hw⟩ hf).mono fun v w' ⟨g1, g2⟩ => ⟨g1, fun d v => hT d v w w', ?_⟩, fun hn => ?_⟩
  · unfold twoS at *
    simp only [h1, h2, Bool.false_or]
    exact hA _ _ _ _ hw g2
  · simp [wantedBy, hg] at hn

theorem StepOK.twoFirst (hT : ∀ d, (T d).pure) (h2 : (m2 == m1) = false) (hg : o.guard = none)
    (h : ∀ ρ w b, Env ρ → A false b w → (∀ t, Fact ops (knV T) a0 m1 o ρ w t) → Exec P ρ o w fun v w' => (∀ d, o.dst = some d → knV T d v w') ∧ A true b w') :
    StepOK P ops (knV T) (twoS A m1 m2) a0 m1 o := by
  intro ρ w L hρ hw hi _ hf _
  unfold twoS at hw
  rw [hi] at hw
  refine ⟨fun _ => (h ρ w _ hρ hw hf).mono fun v w' ⟨g1, g2⟩ => ⟨g1, fun d v => hT d v w w', ?_⟩, fun hn => ?_⟩
  · unfold twoS
    simpa [h2] using g2
  · simp [wantedBy, hg] at hn

theorem StepOK.twoSecond (hT : ∀ d, (T d).pure) (h1 : (m1 == m2) = false) (hg : o.guard = none)
    (h : ∀ ρ w a, Env ρ → A a false w → (∀ t, Fact ops (knV T) a0 m2 o ρ w t) → Exec P ρ o w fun v w' => (∀ d, o.dst = some d → knV T d v w') ∧ A a true w') :
    StepOK P ops (knV T) (twoS A m1 m2) a0 m2 o := by
  intro ρ w L hρ hw hi _ hf _
  unfold twoS at hw
  rw [hi] at hw
  refine ⟨fun _ => (h ρ w _ hρ hw hf).mono fun v w' ⟨g1, g2⟩ => ⟨g1, fun d v => hT d v w w', ?_⟩, fun hn => ?_⟩
  · unfold twoS
    simpa [h1] using g2
  · simp [wantedBy, hg] at hn

variable {Q : Exit → Act → World → Prop}
theorem wp_region_two {id : Nat} {l : List Oper} {w0 : World} (T : Tmp → Kn) (A : Bool → Bool → World → Prop) (m1 m2 : Nat)
    (hm : P.follows .mixedOrders = true) (hg : goodOps l.toArray = true) (hdst : (l.all fun o => match o.dst with | some d => decide (d < a0.tmps.size) | none => true) = true) (hm1 : m1 < l.length) (hm2 : m2 < l.length)
    (h0 : A false false w0.drew)
    (hall : AllOK P l.toArray (knV T) (twoS A m1 m2) a0 0 l)
    (fin : ∀ (ν : Tmp → Value) (w : World), (∀ (i : Nat) (d : Tmp), (l[i]?).bind (·.dst) = some d → (T d).holds (ν d) w) → A true true w → Q .normal ⟨ended l ν a0.tmps, a0.defers⟩ w) :
    (Code.region id l.toArray true).wp P Q a0 w0 :=
  wp_region_inv (knV T) (twoS A m1 m2) hm hg hdst h0 hall fun ν w h hs => fin ν w (fun i d hd => by
    cases ho : l[i]? with
    | none => simp [ho] at hd
    | some o => exact h o (List.mem_of_getElem? ho) d (by simpa [ho] using hd)) (by unfold twoS at hs; simpa [hm1, hm2] using hs)
end
end Go.Lac
namespace Go.Proofs.Yteechmgcjfnjbaa
open Go.RowKit Go.Lac

theorem rd_other {w w' : World} {q : Nat} {v : Value} {bs : List UInt8} {cs : Array Value} {E : TypeId} (h : Rd w v bs) (hq : w.heap[q]? = some (.cells cs E (0, 0))) (hn : ∀ u ∈ cs, NoByte u) (k : Only q w w') : Rd w' v bs := by
  obtain ⟨ao, cap, g1, g2, g3, g4, g5⟩ := h
  refine ⟨ao, cap, g1, g2, g3, g4, fun x hx j c hc => ?_⟩
  obtain ⟨b, off, rfl, g6⟩ := g5 x hx j c hc
  refine ⟨b, off, rfl, k.cell (p := ⟨b, off + j, none⟩) ?_ c g6⟩
  rintro (rfl : b = q)
  obtain ⟨y, _, rfl⟩ := List.mem_map.1 (List.mem_of_getElem? hc)
  rw [cell_of_row w b (off + j) _ _ _ hq] at g6
  exact hn _ (Array.mem_of_getElem? g6) y rfl

theorem owns_empty (w : World) (E : TypeId) : (w.alloc (.cells #[] E)).ownsRow w.heap.size E 1 (.slice (some ⟨w.heap.size, 0, none⟩) 0 0) 0 [] :=
  ⟨rfl, .inr ⟨w.heap.size, 0, #[], rfl, Nat.le_refl _, heap_alloc_new w _, Nat.le_refl _, by unfold maxLen; omega, rfl, rfl⟩⟩

/-- What is done to the reference's reader leaves prim's. -/
theorem IsR.otherQ {w w' : World} {r q : Nat} {s u : RS} (h : IsR w r s) (hq : IsQ w q u) (hne : r ≠ q) (k : Only q w w') : IsR w' r s := by
  have hlt := h.lt
  obtain ⟨lv, h1, ⟨h2, h4⟩, h3⟩ := h
  obtain ⟨bs, a, ao, cap, _, _, _, _, _, _, _, _, _, hrow, _⟩ := hq.cells
  exact ⟨lv, by rw [k.block r hlt hne]; exact h1, ⟨rd_other h2 hrow (by intro u hu; simp at hu; rcases hu with rfl | rfl | rfl <;> first | exact noByte_slice _ _ _ | exact noByte_i64 _) k, h4⟩, h3⟩

theorem IsQ.otherR {w w' : World} {r q : Nat} {s u : RS} (h : IsQ w q u) (hr : IsR w r s) (hne : q ≠ r) (k : Only r w w') : IsQ w' q u := by
  have hlt := h.lt
  obtain ⟨lv, bs, a, h1, ⟨h2, h4⟩, h3⟩ := h
  obtain ⟨rv, r1, ⟨r2, _⟩, _⟩ := hr
  obtain ⟨ra, rc, rfl⟩ := r2.shape
  exact ⟨lv, bs, a, by rw [k.block q hlt hne]; exact h1, ⟨rd_other h2 r1 (by intro u hu; simp at hu; rcases hu with rfl | rfl <;> first | exact noByte_slice _ _ _ | exact noByte_i64 _) k, h4⟩, h3⟩
end Go.Proofs.Yteechmgcjfnjbaa
