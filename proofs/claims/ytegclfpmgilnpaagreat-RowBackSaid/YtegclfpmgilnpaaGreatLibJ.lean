import Derived.Test.YtegclfpmgilnpaaGreatLibH
import Derived.Deep.MidRow
namespace Go.Lac
open Go Go.RowKit
section
variable {P : Program} {ops : Array Oper} {Q : Exit → Act → World → Prop} {r n : Nat}
end
theorem setCells_block (g : Nat) {e : TypeId} : ∀ (vs : List Value) (o : Nat) (w : World) (cur : Array Value), w.heap[g]? = some (.cells cur e (0, 0)) → o + vs.length ≤ cur.size →
    ∃ cur', (w.setCells g o vs).heap[g]? = some (.cells cur' e (0, 0)) ∧ cur'.size = cur.size ∧ cur'.toList = cur.toList.take o ++ vs ++ cur.toList.drop (o + vs.length)
  | [], o, w, cur, h, hl => ⟨cur, h, rfl, by simp⟩
  | v :: r, o, w, cur, h, hl => by
    have hl' : o + 1 + r.length ≤ cur.size := by simp at hl; omega
    have hs := heap_setCell_same w g o cur e v h
    obtain ⟨cur', h1, h2, h3⟩ := setCells_block g r (o + 1) _ _ hs (by simpa using hl')
    refine ⟨cur', h1, by simpa using h2, ?_⟩
    rw [h3]
    have ho : o < cur.toList.length := by simp at hl ⊢; omega
    have e1 : (cur.setIfInBounds o v).toList = cur.toList.set o v := by simp
    rw [e1, List.set_eq_take_append_cons_drop, if_pos ho]
    have ht : (cur.toList.take o).length = o := by rw [List.length_take]; omega
    rw [List.take_append, List.drop_append, ht]
    rw [show o + 1 - o = 1 by omega, List.take_of_length_le (by omega), List.drop_of_length_le (l := cur.toList.take o) (by omega)]
    rw [show o + 1 + r.length - o = r.length + 1 by omega]
    simp [Nat.add_comm, Nat.add_left_comm]
theorem Ch.setCells {M : Nat → Prop} {a : World} {g : Nat} (hg : M g ∨ a.heap.size ≤ g) : ∀ (vs : List Value) (o : Nat) (w : World), Ch M a w → Ch M a (w.setCells g o vs)
  | [], _, _, h => h
  | v :: r, o, w, h => Ch.setCells hg r (o + 1) _ (Ch.setCell (p := ⟨g, o, none⟩) h hg v)
def firstN (f : Nat → Nat) : Nat → Nat
  | 0 => 0
  | n + 1 => if firstN f n ≠ 0 then firstN f n else f n
theorem firstN_eq {f : Nat → Nat} : ∀ n, firstN f n = 0 ↔ ∀ j < n, f j = 0
  | 0 => by simp [firstN]
  | n + 1 => by
    have ih := firstN_eq (f := f) n
    unfold firstN
    constructor
    · intro h j hj
      split at h
      · contradiction
      · rename_i h0
        rcases Nat.lt_or_ge j n with h1 | h1
        · exact ih.1 (by omega) j h1
        · obtain rfl : j = n := by omega
          exact h
    · intro h
      rw [if_neg (fun hne => hne (ih.2 fun j hj => h j (by omega)))]
      exact h n (by omega)
theorem firstN_zero {f : Nat → Nat} {n : Nat} (h : ∀ j < n, f j = 0) : firstN f n = 0 := (firstN_eq n).2 h
theorem firstN_at {f : Nat → Nat} {k : Nat} (h : ∀ j < k, f j = 0) (hk : f k ≠ 0) : ∀ {n : Nat}, k < n → firstN f n = f k
  | n + 1, hn => by
    unfold firstN
    rcases Nat.lt_or_ge k n with h1 | h1
    · have := firstN_at h hk (n := n) h1
      rw [if_pos (by rw [this]; exact hk), this]
    · obtain rfl : k = n := by omega
      rw [if_neg (fun hne => hne (firstN_zero h))]
end Go.Lac
