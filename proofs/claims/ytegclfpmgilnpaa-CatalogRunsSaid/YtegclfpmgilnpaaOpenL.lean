/-
  Arguments opened: a list of relations.
-/
import Derived.Test.YtegclfpmgilnpaaGOpen
import Derived.Test.YtegclfpmgilnpaaCatL
import Derived.SizedLaws
namespace Go.Proofs.Ytegclfpmgilnpaa
open Go Go.RowKit Go.Lac Go.ChangeShapes Go.WideShapes Go.ChangeAt

def rlCells (l : List (Rl × Value)) : List Value := l.flatMap fun p => (relv p.1 p.2).toList
theorem rlCells_length : ∀ l : List (Rl × Value), (rlCells l).length = l.length * 5
  | [] => rfl
  | p :: l => by unfold rlCells; rw [List.flatMap_cons, List.length_append]; have := rlCells_length l; unfold rlCells at this; rw [this, List.length_cons]; simp [relv]; omega
theorem rlCells_at : ∀ (l : List (Rl × Value)) (i q : Nat) (hi : i < l.length) (u : Value), q < 5 → (rlCells l)[i * 5 + q]? = some u → (relv l[i].1 l[i].2).toList[q]? = some u
  | p :: l, 0, q, hi, u, hq, hu => by
    unfold rlCells at hu
    rw [List.flatMap_cons, Nat.zero_mul, Nat.zero_add, List.getElem?_append_left (by simpa [relv] using hq)] at hu
    exact hu
  | p :: l, i + 1, q, hi, u, hq, hu => by
    refine rlCells_at l i q (by simpa using hi) u hq ?_
    unfold rlCells at hu ⊢
    rw [List.flatMap_cons, List.getElem?_append_right (by simp [relv]; omega)] at hu
    rwa [show (i + 1) * 5 + q - (relv p.1 p.2).toList.length = i * 5 + q by simp [relv]; omega] at hu
theorem rlC_of {P : Value → List Col → Prop} : ∀ l : List (Rl × Value), (∀ p ∈ l, P p.2 p.1.cols) → RlC P (l.map Prod.fst) (rlCells l)
  | [], _ => rfl
  | p :: l, h => ⟨p.2, rlCells l, by unfold rlCells; rw [List.flatMap_cons], h p List.mem_cons_self, rlC_of l fun q hq => h q (List.mem_cons_of_mem _ hq)⟩
section
variable {H : Type} {enc : TypeId × Value → H} {w : World} {base : Nat} {held : Bool} {r : Reach} {b0 : Nat}
theorem rlS_of_at {ao : Option Addr} {n cap : Nat} {l : List (Rl × Value)} (hn : n = l.length) (h1 : n ≤ cap) (h2 : cap ≤ maxLen) (h3 : ao = none → cap = 0) (hc : ∀ p ∈ l, ColS w p.2 p.1.cols) (h : ∀ i (hi : i < l.length), ∃ b o, ao = some ⟨b, o, none⟩ ∧ w.rangeAt b (o + i * 5) (relv l[i].1 l[i].2).toList) : RlS (ColS w) w (.slice ao n cap) (l.map Prod.fst) := by
  subst hn
  refine ⟨rlCells l, rlC_of l hc, ao, cap, by rw [List.length_map], by rw [List.length_map]; exact h1, h2, h3, fun x hx j u hu => ?_⟩
  have hj : j < l.length * 5 := by have := (List.getElem?_eq_some_iff.1 hu).1; rwa [rlCells_length] at this
  obtain ⟨b, o, e, hr⟩ := h (j / 5) (by omega)
  rw [hx] at e; cases e
  refine ⟨b, o, rfl, ?_⟩
  have := hr (j % 5) u (rlCells_at l (j / 5) (j % 5) (by omega) u (Nat.mod_lt _ (by decide)) (by rw [show j / 5 * 5 + j % 5 = j by omega]; exact hu))
  rwa [show o + j / 5 * 5 + j % 5 = o + j by omega] at this
set_option maxRecDepth 20000 in
theorem open_rels {v : Value} {d : DataW H} {ps : List MemPlace} (hv : Value.okWide Try.prog w r b0 22 v) (h : DataW.Trod enc Try.prog w base (fun _ => true) held 22 v d ps) :
    ∃ l : List Rl, RlS (ColS w) w v l ∧ ∀ q ∈ l, q.ok ∧ q.fits := by
  obtain ⟨a, len, cap, rfl⟩ := okWide_slice Try.underlying22 hv
  obtain ⟨fuel, hf⟩ := h
  rcases Go.Deep.open_slice Try.underlying22 hf with ⟨hcs, _⟩ | ⟨x, l, c, m, n, D, Pl, hcs, _, hl, hm, hmm, _, hx⟩
  · simp [Value.cells] at hcs
    obtain ⟨rfl, rfl, rfl⟩ := hcs
    exact ⟨[], ⟨[], rfl, none, 0, rfl, Nat.le_refl _, Nat.zero_le _, fun _ => rfl, fun x hx => by cases hx⟩, fun q hq => by cases hq⟩
  · simp [Value.cells] at hcs
    obtain ⟨rfl, rfl, rfl⟩ := hcs
    simp only [if_true] at hmm
    subst hmm
    rw [cellsRl] at hx
    have key : ∀ i, i < len → ∃ y : Rl × Value, (∃ b o, some x = some ⟨b, o, none⟩ ∧ w.rangeAt b (o + i * 5) (relv y.1 y.2).toList) ∧ ColS w y.2 y.1.cols ∧ y.1.ok ∧ y.1.fits := fun i hi => by
      obtain ⟨cs', g1, g2⟩ := hx i (by omega)
      obtain ⟨_, g3, g4⟩ := World.cells?_some g1
      obtain ⟨q, cv, e1, e2, e3, e4⟩ := rel_cells g2
      subst e1
      have hsp : x.spot = none := by
        obtain ⟨cs0, q1, _⟩ := hx 0 (by omega)
        obtain ⟨_, q3, q4⟩ := World.cells?_some q1
        have q5 := q4 0 (by omega)
        rw [List.getElem?_eq_getElem (by omega)] at q5
        have := World.cell?_spot q5
        simpa [Addr.add] using this
      obtain ⟨b, o, sp⟩ := x
      cases hsp
      refine ⟨(q, cv), ⟨b, o, rfl, fun j u hj => ?_⟩, e2, e3, e4⟩
      have hj5 : j < 5 := by have := (List.getElem?_eq_some_iff.1 hj).1; simpa [relv] using this
      have := g4 j hj5
      rw [Addr.add_lit, Addr.add_lit, hj] at this
      exact this
    obtain ⟨L, h1, h2⟩ := choose_l len key
    have hL : ∀ p ∈ L, ColS w p.2 p.1.cols ∧ p.1.ok ∧ p.1.fits := fun p hp => by
      obtain ⟨i, hi, rfl⟩ := List.mem_iff_getElem.1 hp
      exact (h2 i hi).2
    refine ⟨L.map Prod.fst, rlS_of_at h1.symm hl (by omega) (fun h => by cases h) (fun p hp => (hL p hp).1) fun i hi => (h2 i hi).1, fun q hq => ?_⟩
    obtain ⟨p, hp, rfl⟩ := List.mem_map.1 hq
    exact (hL p hp).2
theorem bytesRC : Try.prog.bytesOf 111 = 24 := by kernel_rfl
/-- How much a reading of columns weighs. -/
theorem cols_weigh {fuel : Nat} {cs : List Value} {x : DataW H × List MemPlace} (h : DataW.trod enc Try.prog w base (fun _ => true) held fuel 31 cs = some x) {cv : Value} {l : List Col} (hcs : cs = [cv]) (hcl : ColS w cv l) {R : Nat} (hw : ∀ n ∈ x.1.weights Try.prog 31, n ≤ R) : l.length * 24 ≤ R := by
  obtain ⟨ao, cap, rfl, _⟩ := hcl
  rcases Go.Deep.open_slice Try.underlying31 h with ⟨h1, _⟩ | ⟨a, len, c, m, n, D, Pl, h1, _, hl, hm, hmm, hxe, hx⟩
  · rw [hcs] at h1
    simp only [List.cons.injEq, Value.slice.injEq, and_true] at h1
    rw [h1.2.1]; simp
  · rw [hcs] at h1
    simp only [List.cons.injEq, Value.slice.injEq, and_true] at h1
    rw [hxe] at hw
    have hu : Try.prog.underlying 31 = some (.slice 111) := Try.underlying31
    have := hw ((((List.range len).map D).length + ((List.range (m - len)).map fun j => D (len + j)).length) * Try.prog.bytesOf 111) (by simp only [DataW.weights, hu]; exact List.mem_cons_self)
    rw [List.length_map, List.length_range, bytesRC] at this
    rw [h1.2.1]
    have h2 := Nat.mul_le_mul_right 24 (Nat.le_add_right len ((List.range (m - len)).map fun j => D (len + j)).length)
    omega
theorem rel_weigh {fuel : Nat} {cs : List Value} {x : DataW H × List MemPlace} (h : DataW.trod enc Try.prog w base (fun _ => true) held fuel 33 cs = some x) {q : Rl} {cv : Value} (hcs : cs = (relv q cv).toList) (hcl : ColS w cv q.cols) {R : Nat} (hw : ∀ n ∈ x.1.weights Try.prog 33, n ≤ R) : q.cols.length * 24 ≤ R := by
  obtain ⟨xs, n', _, hxe, hl, g5, g6⟩ := DataW.trod_struct Try.underlying33 h
  match xs, g5 with
  | [y0, y1, y2, y3], _ =>
    have k3 := g6 3 _ rfl
    rw [hcs] at k3
    simp [cells1_cols, relv] at k3
    refine cols_weigh k3 rfl hcl fun n hn => hw n ?_
    rw [hxe]
    have hu := Try.underlying33
    simp only [DataW.weights, hu]
    exact DataW.weights_mem_each (j := 3) rfl rfl n hn
theorem weights_all {P : Program} {e : TypeId} : ∀ {ds : List (DataW H)} {d : DataW H}, d ∈ ds → ∀ n ∈ d.weights P e, n ∈ DataW.weightsAll P e ds
  | d0 :: ds, d, hd, n, hn => by
    simp only [DataW.weightsAll, List.mem_append]
    rcases List.mem_cons.1 hd with rfl | hd
    · exact .inl hn
    · exact .inr (weights_all hd n hn)
set_option maxRecDepth 20000 in
theorem rels_weigh {v : Value} {d : DataW H} {ps : List MemPlace} (h : DataW.Trod enc Try.prog w base (fun _ => true) held 22 v d ps) {l : List Rl} (hr : RlS (ColS w) w v l) {R : Nat} (hw : ∀ n ∈ d.weights Try.prog 22, n ≤ R) : ∀ q ∈ l, q.cols.length * 24 ≤ R := by
  obtain ⟨fuel, hf⟩ := h
  obtain ⟨ao, cap, rfl, _, _⟩ := hr.shape
  intro q hq
  obtain ⟨i, hi, rfl⟩ := List.mem_iff_getElem.1 hq
  obtain ⟨b, o, cv, rfl, hra, hcv⟩ := rlS_at hr hi
  rcases Go.Deep.open_slice Try.underlying22 hf with ⟨h1, _⟩ | ⟨a, len, c, m, n, D, Pl, h1, _, hl, hm, hmm, hxe, hx⟩
  · simp [Value.cells] at h1
  · simp only [Value.cells, List.cons.injEq, Value.slice.injEq, Option.some.injEq, and_true] at h1
    obtain ⟨rfl, h2, rfl⟩ := h1
    obtain ⟨cs', g1, g2⟩ := hx i (by simp only [if_true] at hmm; omega)
    obtain ⟨_, g3, g4⟩ := World.cells?_some g1
    rw [cellsRl] at g3 g4
    obtain ⟨q', cv', e1, e2, e3, e4⟩ := rel_cells g2
    have hsame : (relv l[i] cv).toList = cs' := by
      apply List.ext_getElem?
      intro j
      by_cases hj : j < 5
      · have h5 := g4 j hj
        have hu : ∃ u, (relv l[i] cv).toList[j]? = some u := ⟨_, List.getElem?_eq_getElem (by simpa [relv] using hj)⟩
        obtain ⟨u, hu⟩ := hu
        have h6 := hra j u hu
        rw [Addr.add_lit, Addr.add_lit] at h5
        rw [hu, ← h5, h6]
      · rw [List.getElem?_eq_none (by simp [relv]; omega), List.getElem?_eq_none (by omega)]
    subst hsame
    refine rel_weigh g2 rfl hcv fun k hk => hw k ?_
    have hde : d = .slice ((List.range len).map D) ((List.range (m - len)).map fun j => D (len + j)) := congrArg Prod.fst hxe
    rw [hde]
    have hu : Try.prog.underlying 22 = some (.slice 33) := Try.underlying22
    simp only [DataW.weights, hu]
    refine List.mem_cons_of_mem _ (List.mem_append.2 (.inl (weights_all (List.mem_map.2 ⟨i, List.mem_range.2 (by omega), rfl⟩) k hk)))
end
end Go.Proofs.Ytegclfpmgilnpaa
