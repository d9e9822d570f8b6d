/-
  Catalogs as plain mathematics: lists of relations in the order of their refs.
-/
import Derived.Test.YtegclfpmgilnpaaGRelA
namespace Go.Proofs.Ytegclfpmgilnpaa
open Go.RowKit Go.Lac

def rf (r : Rl) : Nat × Nat := (r.oid, r.ver)
def RefLt (a b : Nat × Nat) : Prop := a.1 < b.1 ∨ (a.1 = b.1 ∧ a.2 < b.2)
instance (a b : Nat × Nat) : Decidable (RefLt a b) := by unfold RefLt; exact inferInstance
theorem RefLt.irrefl (a : Nat × Nat) : ¬ RefLt a a := by unfold RefLt; omega
theorem RefLt.trans {a b c : Nat × Nat} (h : RefLt a b) (k : RefLt b c) : RefLt a c := by unfold RefLt at *; omega
theorem RefLt.asymm {a b : Nat × Nat} (h : RefLt a b) : ¬ RefLt b a := by unfold RefLt at *; omega
theorem RefLt.total (a b : Nat × Nat) : RefLt a b ∨ a = b ∨ RefLt b a := by
  obtain ⟨a1, a2⟩ := a
  obtain ⟨b1, b2⟩ := b
  unfold RefLt
  simp only [Prod.mk.injEq]
  omega
theorem RefLt.ne {a b : Nat × Nat} (h : RefLt a b) : a ≠ b := fun e => by subst e; exact RefLt.irrefl _ h
def InOrder (l : List Rl) : Prop := l.Pairwise fun a b => RefLt (rf a) (rf b)
def ins (r : Rl) : List Rl → List Rl
  | [] => [r]
  | x :: l => if RefLt (rf r) (rf x) then r :: x :: l else x :: ins r l
theorem mem_ins {r x : Rl} : ∀ {l : List Rl}, x ∈ ins r l ↔ x = r ∨ x ∈ l
  | [] => by simp [ins]
  | y :: l => by
    rw [ins]
    split
    · simp
    · simp only [List.mem_cons, mem_ins]
      constructor
      · rintro (h | h | h) <;> simp [h]
      · rintro (h | h | h) <;> simp [h]
theorem ins_perm (r : Rl) : ∀ l : List Rl, (ins r l).Perm (r :: l)
  | [] => .refl _
  | x :: l => by
    rw [ins]
    split
    · exact .refl _
    · exact ((ins_perm r l).cons x).trans (.swap r x l)
theorem ins_length (r : Rl) (l : List Rl) : (ins r l).length = l.length + 1 := by rw [(ins_perm r l).length_eq]; rfl
theorem ins_order {r : Rl} : ∀ {l : List Rl}, InOrder l → (∀ x ∈ l, rf x ≠ rf r) → InOrder (ins r l)
  | [], _, _ => by simp [ins, InOrder]
  | x :: l, h, hn => by
    obtain ⟨h1, h2⟩ := List.pairwise_cons.1 h
    rw [ins]
    split
    · rename_i hlt
      refine List.pairwise_cons.2 ⟨fun y hy => ?_, h⟩
      rcases List.mem_cons.1 hy with rfl | hy
      · exact hlt
      · exact hlt.trans (h1 y hy)
    · rename_i hlt
      refine List.pairwise_cons.2 ⟨fun y hy => ?_, ins_order h2 fun y hy => hn y (List.mem_cons_of_mem _ hy)⟩
      rcases mem_ins.1 hy with rfl | hy
      · rcases RefLt.total (rf x) (rf y) with h | h | h
        · exact h
        · exact absurd h (hn x List.mem_cons_self)
        · exact absurd h hlt
      · exact h1 y hy
/-- Where what is not ahead of a ref begins. -/
def place (l : List Rl) (p : Nat × Nat) : Nat := (l.takeWhile fun x => decide (RefLt (rf x) p)).length
theorem place_le (l : List Rl) (p : Nat × Nat) : place l p ≤ l.length := (List.takeWhile_sublist _).length_le
theorem place_iff {p : Nat × Nat} : ∀ {l : List Rl}, InOrder l → ∀ (j : Nat) (h : j < l.length), RefLt (rf l[j]) p ↔ j < place l p
  | x :: l, h, j, hj => by
    obtain ⟨h1, h2⟩ := List.pairwise_cons.1 h
    unfold place
    rw [List.takeWhile_cons]
    by_cases hx : RefLt (rf x) p
    · rw [if_pos (by simpa using hx), List.length_cons]
      cases j with
      | zero => simp [hx]
      | succ j =>
        have := place_iff h2 j (by simpa using hj) (p := p)
        unfold place at this
        simp only [List.getElem_cons_succ]
        rw [this]
        omega
    · rw [if_neg (by simpa using hx)]
      cases j with
      | zero => simp [hx]
      | succ j =>
        simp only [List.getElem_cons_succ, List.length_nil, Nat.not_lt_zero, iff_false]
        intro h3
        exact hx ((h1 _ (List.getElem_mem _)).trans h3)
theorem place_there {p : Nat × Nat} {l : List Rl} (h : InOrder l) : (∃ hk : place l p < l.length, rf l[place l p] = p) ↔ ∃ x ∈ l, rf x = p := by
  constructor
  · rintro ⟨hk, e⟩; exact ⟨_, List.getElem_mem hk, e⟩
  · rintro ⟨x, hx, e⟩
    obtain ⟨j, hj, rfl⟩ := List.mem_iff_getElem.1 hx
    have h1 : ¬ j < place l p := fun h2 => by
      have := (place_iff h j hj (p := p)).2 h2
      rw [e] at this
      exact RefLt.irrefl _ this
    have h2 : ¬ place l p < j := fun h2 => by
      have hk : place l p < l.length := by omega
      have h3 := List.pairwise_iff_getElem.1 h _ _ hk hj h2
      rw [e] at h3
      have := (place_iff h _ hk (p := p)).1 h3
      omega
    have h3 : place l p = j := by omega
    exact ⟨by omega, by simp only [h3]; exact e⟩
theorem ins_place {r : Rl} : ∀ {l : List Rl}, InOrder l → (∀ x ∈ l, rf x ≠ rf r) → ins r l = l.take (place l (rf r)) ++ r :: l.drop (place l (rf r))
  | [], _, _ => rfl
  | x :: l, h, hn => by
    obtain ⟨h1, h2⟩ := List.pairwise_cons.1 h
    rw [ins]
    unfold place
    rw [List.takeWhile_cons]
    by_cases hx : RefLt (rf r) (rf x)
    · rw [if_pos hx, if_neg (by simpa using hx.asymm)]
      rfl
    · have hx2 : RefLt (rf x) (rf r) := by
        rcases RefLt.total (rf x) (rf r) with h | h | h
        · exact h
        · exact absurd h (hn x List.mem_cons_self)
        · exact absurd h hx
      have := ins_place h2 fun y hy => hn y (List.mem_cons_of_mem _ hy)
      unfold place at this
      rw [if_neg hx, if_pos (by simpa using hx2), List.length_cons, List.take_succ_cons, List.drop_succ_cons, this]
      rfl

/-- A relation more: all there are then, an error's number. -/
def catAdd (l : List Rl) (r : Rl) : List Rl × Nat :=
  if rlErr r ≠ 0 then (l, rlErr r) else if (∃ x ∈ l, rf x = rf r) then (l, 9) else if 64 ≤ l.length then (l, 8) else (ins r l, 0)
structure CatOk (l : List Rl) : Prop where
  order : InOrder l
  len : l.length ≤ 64
  right : ∀ r ∈ l, rlErr r = 0
theorem CatOk.nil : CatOk [] := ⟨.nil, by simp, by simp⟩
theorem CatOk.add {l : List Rl} (h : CatOk l) (r : Rl) : CatOk (catAdd l r).1 := by
  unfold catAdd
  split
  · exact h
  · rename_i h1
    split
    · exact h
    · rename_i h2
      split
      · exact h
      · rename_i h3
        refine ⟨ins_order h.order fun x hx e => h2 ⟨x, hx, e⟩, by rw [ins_length]; omega, fun x hx => ?_⟩
        rcases mem_ins.1 hx with rfl | hx
        · exact Classical.not_not.1 h1
        · exact h.right x hx
/-- All of a list, one after the other, to those there are: all there are then; the place of the first that is wrong; an error's number. -/
def catOf : List Rl → Nat → List Rl → List Rl × Nat × Nat
  | w, i, [] => (w, i, 0)
  | w, i, r :: l => if (catAdd w r).2 = 0 then catOf (catAdd w r).1 (i + 1) l else ([], i, (catAdd w r).2)
theorem catOf_ok : ∀ (l w : List Rl) (i : Nat), CatOk w → CatOk (catOf w i l).1
  | [], w, i, h => h
  | r :: l, w, i, h => by
    rw [catOf]
    split
    · exact catOf_ok l _ _ (h.add r)
    · exact CatOk.nil
theorem catAdd_zero {l : List Rl} {r : Rl} : (catAdd l r).2 = 0 ↔ rlErr r = 0 ∧ (¬ ∃ x ∈ l, rf x = rf r) ∧ l.length < 64 := by
  unfold catAdd
  split
  · rename_i h; simp [h]
  · rename_i h
    split
    · rename_i h2; simp [h2]
    · rename_i h2
      split
      · rename_i h3; simp; omega
      · rename_i h3; simp [Classical.not_not.1 h]; exact ⟨fun x hx e => h2 ⟨x, hx, e⟩, by omega⟩
theorem catAdd_ins {l : List Rl} {r : Rl} (h : (catAdd l r).2 = 0) : (catAdd l r).1 = ins r l := by
  obtain ⟨h1, h2, h3⟩ := catAdd_zero.1 h
  unfold catAdd
  rw [if_neg (by simp [h1]), if_neg h2, if_neg (by omega)]
/-- When nothing is wrong. -/
theorem catOf_zero : ∀ (l w : List Rl) (i : Nat), (catOf w i l).2.2 = 0 ↔ (∀ r ∈ l, rlErr r = 0) ∧ l.Pairwise (fun a b => rf a ≠ rf b) ∧ (∀ r ∈ l, ∀ x ∈ w, rf x ≠ rf r) ∧ (l ≠ [] → w.length + l.length ≤ 64)
  | [], w, i => by simp [catOf]
  | r :: l, w, i => by
    rw [catOf]
    by_cases h : (catAdd w r).2 = 0
    · rw [if_pos h, catOf_zero l _ _, catAdd_ins h]
      obtain ⟨h1, h2, h3⟩ := catAdd_zero.1 h
      have hlen := ins_length r w
      constructor
      · rintro ⟨k1, k2, k3, k4⟩
        refine ⟨fun x hx => ?_, List.pairwise_cons.2 ⟨fun x hx => k3 x hx r (mem_ins.2 (.inl rfl)), k2⟩, fun x hx y hy => ?_, fun _ => ?_⟩
        · rcases List.mem_cons.1 hx with rfl | hx
          · exact h1
          · exact k1 x hx
        · rcases List.mem_cons.1 hx with rfl | hx
          · exact fun e => h2 ⟨y, hy, e⟩
          · exact k3 x hx y (mem_ins.2 (.inr hy))
        · cases l with
          | nil => simp; omega
          | cons y l => have := k4 (by simp); simp only [List.length_cons] at *; omega
      · rintro ⟨k1, k2, k3, k4⟩
        obtain ⟨k5, k6⟩ := List.pairwise_cons.1 k2
        refine ⟨fun x hx => k1 x (List.mem_cons_of_mem _ hx), k6, fun x hx y hy => ?_, fun _ => by have := k4 (by simp); rw [List.length_cons] at this; omega⟩
        rcases mem_ins.1 hy with rfl | hy
        · exact k5 x hx
        · exact k3 x (List.mem_cons_of_mem _ hx) y hy
    · rw [if_neg h]
      refine ⟨fun e => absurd e h, fun ⟨k1, k2, k3, k4⟩ => absurd (catAdd_zero.2 ⟨k1 r List.mem_cons_self, ?_, ?_⟩) h⟩
      · rintro ⟨x, hx, e⟩; exact k3 r List.mem_cons_self x hx e
      · have := k4 (by simp); rw [List.length_cons] at this; omega
theorem catOf_perm : ∀ (l w : List Rl) (i : Nat), (catOf w i l).2.2 = 0 → (catOf w i l).1.Perm (l.reverse ++ w) ∧ (catOf w i l).2.1 = i + l.length
  | [], w, i, _ => ⟨.refl _, rfl⟩
  | r :: l, w, i, h => by
    rw [catOf] at h ⊢
    split at h
    · rename_i h0
      rw [if_pos h0]
      obtain ⟨k1, k2⟩ := catOf_perm l _ _ h
      rw [catAdd_ins h0] at k1 ⊢
      refine ⟨k1.trans ?_, by rw [catAdd_ins h0] at k2; rw [k2, List.length_cons]; omega⟩
      rw [List.reverse_cons, List.append_assoc]
      exact (ins_perm r w).append_left _
    · rename_i h0
      exact absurd h h0
theorem order_unique {a b : List Rl} (ha : InOrder a) (hb : InOrder b) (h : a.Perm b) : a = b :=
  List.Perm.eq_of_pairwise (fun x y _ _ h1 h2 => absurd h2 (RefLt.asymm h1)) ha hb h
/-- However relations come, there is one catalog of them. -/
theorem catOf_reverse {l : List Rl} (h : (catOf [] 0 l).2.2 = 0) : catOf [] 0 l.reverse = catOf [] 0 l := by
  have h2 : (catOf [] 0 l.reverse).2.2 = 0 := by
    obtain ⟨k1, k2, k3, k4⟩ := (catOf_zero l [] 0).1 h
    refine (catOf_zero l.reverse [] 0).2 ⟨fun r hr => k1 r (List.mem_reverse.1 hr), ?_, by simp, fun hn => by rw [List.length_reverse]; exact k4 (by simpa using hn)⟩
    rw [List.pairwise_reverse]
    exact k2.imp fun h => Ne.symm h
  obtain ⟨p1, q1⟩ := catOf_perm l [] 0 h
  obtain ⟨p2, q2⟩ := catOf_perm l.reverse [] 0 h2
  have e1 : (catOf [] 0 l.reverse).1 = (catOf [] 0 l).1 := by
    refine order_unique (catOf_ok _ _ _ CatOk.nil).order (catOf_ok _ _ _ CatOk.nil).order (p2.trans (.trans ?_ p1.symm))
    rw [List.reverse_reverse, List.append_nil, List.append_nil]
    exact (List.reverse_perm l).symm
  refine Prod.ext e1 (Prod.ext ?_ (h2.trans h.symm))
  rw [q1, q2, List.length_reverse]

/-- The relation of a ref. -/
def catGet (l : List Rl) (p : Nat × Nat) : Option Rl := l.find? fun x => decide (rf x = p)
theorem catGet_place {l : List Rl} (h : InOrder l) (p : Nat × Nat) : catGet l p = if hk : place l p < l.length then (if rf l[place l p] = p then some l[place l p] else none) else none := by
  unfold catGet
  by_cases ht : ∃ x ∈ l, rf x = p
  · obtain ⟨hk, e⟩ := (place_there h).2 ht
    rw [dif_pos hk, if_pos e]
    refine List.find?_eq_some_iff_getElem.2 ⟨by simpa using e, _, hk, rfl, fun j hj => ?_⟩
    have := (place_iff h j (by omega) (p := p)).2 hj
    simpa using this.ne
  · rw [List.find?_eq_none.2 fun x hx => by simpa using fun e => ht ⟨x, hx, e⟩]
    split
    · rename_i hk
      rw [if_neg fun e => ht ⟨_, List.getElem_mem hk, e⟩]
    · rfl
/-- The youngest relation of an oid, as it is looked for from the front on. -/
def young (oid : Nat) : Option Rl → List Rl → Option Rl
  | a, [] => a
  | a, x :: l => young oid (if x.oid = oid ∧ (∀ y, a = some y → y.ver < x.ver) then some x else a) l
/-- Where what lies behind an oid begins. -/
def behind (l : List Rl) (oid : Nat) : Nat := (l.takeWhile fun x => decide (x.oid ≤ oid)).length
theorem behind_le (l : List Rl) (oid : Nat) : behind l oid ≤ l.length := (List.takeWhile_sublist _).length_le
theorem behind_iff {oid : Nat} : ∀ {l : List Rl}, InOrder l → ∀ (j : Nat) (h : j < l.length), l[j].oid ≤ oid ↔ j < behind l oid
  | x :: l, h, j, hj => by
    obtain ⟨h1, h2⟩ := List.pairwise_cons.1 h
    unfold behind
    rw [List.takeWhile_cons]
    by_cases hx : x.oid ≤ oid
    · rw [if_pos (by simpa using hx), List.length_cons]
      cases j with
      | zero => simp [hx]
      | succ j =>
        have := behind_iff h2 j (by simpa using hj) (oid := oid)
        unfold behind at this
        simp only [List.getElem_cons_succ]
        rw [this]
        omega
    · rw [if_neg (by simpa using hx)]
      cases j with
      | zero => simp [hx]
      | succ j =>
        simp only [List.getElem_cons_succ, List.length_nil, Nat.not_lt_zero, iff_false]
        intro h3
        have := h1 _ (List.getElem_mem (l := l) (n := j) (by simpa using hj))
        unfold RefLt rf at this
        simp only at this
        omega
theorem young_none {oid : Nat} : ∀ (l : List Rl) (a : Option Rl), (∀ x ∈ l, x.oid ≠ oid) → young oid a l = a
  | [], a, _ => rfl
  | x :: l, a, h => by
    rw [young, if_neg fun h2 => h x List.mem_cons_self h2.1]
    exact young_none l a fun y hy => h y (List.mem_cons_of_mem _ hy)
theorem young_append (oid : Nat) : ∀ (l k : List Rl) (a : Option Rl), young oid a (l ++ k) = young oid (young oid a l) k
  | [], k, a => rfl
  | x :: l, k, a => by rw [List.cons_append, young, young, young_append oid l k]
theorem young_mem {oid : Nat} : ∀ (l : List Rl) (a : Option Rl) {y : Rl}, young oid a l = some y → a = some y ∨ (y ∈ l ∧ y.oid = oid)
  | [], a, y, h => .inl h
  | x :: l, a, y, h => by
    rw [young] at h
    rcases young_mem l _ h with h1 | ⟨h1, h2⟩
    · split at h1
      · rename_i hx
        cases h1
        exact .inr ⟨List.mem_cons_self, hx.1⟩
      · exact .inl h1
    · exact .inr ⟨List.mem_cons_of_mem _ h1, h2⟩
theorem young_behind {oid : Nat} {l : List Rl} (h : InOrder l) : young oid none l = if hk : 0 < behind l oid ∧ behind l oid ≤ l.length then (if l[behind l oid - 1].oid = oid then some l[behind l oid - 1] else none) else none := by
  have hle := behind_le l oid
  have hsplit := List.take_append_drop (behind l oid) l
  have hd : ∀ x ∈ l.drop (behind l oid), x.oid ≠ oid := by
    intro x hx
    obtain ⟨j, hj, rfl⟩ := List.mem_iff_getElem.1 hx
    rw [List.getElem_drop]
    intro e
    rw [List.length_drop] at hj
    have := (behind_iff h (behind l oid + j) (by omega) (oid := oid)).1 (by omega)
    omega
  have e1 : young oid none l = young oid none (l.take (behind l oid)) := by
    conv => lhs; rw [← hsplit, young_append, young_none _ _ hd]
  rw [e1]
  by_cases hk : 0 < behind l oid
  · rw [dif_pos ⟨hk, hle⟩]
    obtain ⟨k, hke⟩ : ∃ k, behind l oid = k + 1 := ⟨behind l oid - 1, by omega⟩
    have hkl : k < l.length := by omega
    simp only [hke, Nat.add_sub_cancel]
    rw [List.take_succ_eq_append_getElem hkl, young_append, young, young]
    by_cases hx : l[k].oid = oid
    · have hc : l[k].oid = oid ∧ ∀ y, young oid none (l.take k) = some y → y.ver < l[k].ver := ⟨hx, fun y hy => by
        rcases young_mem _ _ hy with h1 | ⟨h1, h2⟩
        · cases h1
        · obtain ⟨j, hj, rfl⟩ := List.mem_iff_getElem.1 h1
          rw [List.length_take] at hj
          have := List.pairwise_iff_getElem.1 h j k (by omega) hkl (by omega)
          rw [List.getElem_take] at h2 ⊢
          unfold RefLt rf at this
          simp only at this
          omega⟩
      rw [if_pos hx, if_pos hc]
    · rw [if_neg hx, if_neg fun h => hx h.1]
      refine young_none _ _ fun x hx2 e => ?_
      obtain ⟨j, hj, rfl⟩ := List.mem_iff_getElem.1 hx2
      rw [List.length_take] at hj
      have := List.pairwise_iff_getElem.1 h j k (by omega) hkl (by omega)
      have h3 := (behind_iff h k hkl (oid := oid)).2 (by omega)
      rw [List.getElem_take] at e
      unfold RefLt rf at this
      simp only at this
      omega
  · rw [dif_neg fun h => hk h.1]
    have : behind l oid = 0 := by omega
    rw [this]
    rfl
/-- The relations of some refs; an error's number. -/
def catOnly (l : List Rl) (refs : List (Nat × Nat)) : List Rl × Nat :=
  if ∃ p ∈ refs, ¬ ∃ x ∈ l, rf x = p then ([], 10) else (l.filter fun x => decide (rf x ∈ refs), 0)
theorem catOnly_ok {l : List Rl} (h : CatOk l) (refs : List (Nat × Nat)) : CatOk (catOnly l refs).1 := by
  unfold catOnly
  split
  · exact CatOk.nil
  · exact ⟨h.order.filter _, Nat.le_trans (List.length_filter_le _ _) h.len, fun r hr => h.right r (List.mem_filter.1 hr).1⟩
end Go.Proofs.Ytegclfpmgilnpaa
