/-
  ImageStrict: the walk. MADE BY mkImgStrict.py
-/
import Derived.Test.YtdpebdbfphlmeaaImgKeysW
import Derived.Test.YtdpebdbfphlmeaaImgKA
import Derived.Test.YtdpebdbfphlmeaaRelX
namespace Go.Proofs.Ytdpebdbfphlmeaa
open Go.RowKit Go.Lac

theorem right_zero {r : Rl} {k o : Nat} {b a : List Cel} (h : rightE r k o b a = 0) : (k = 4 ∨ k = 5 ∨ k = 6) ∧ ¬ ((o = 0 ∧ 0 < b.length) ∨ (k = 6 ∧ 0 < a.length)) ∧ mayB r.ident k o = true ∧ oldE r o b = 0 ∧ newE r k a = 0 := by
  unfold rightE at h
  by_cases h1 : k ≠ 4 ∧ k ≠ 5 ∧ k ≠ 6
  · rw [if_pos h1] at h; cases h
  rw [if_neg h1] at h
  by_cases h2 : (o = 0 ∧ 0 < b.length) ∨ (k = 6 ∧ 0 < a.length)
  · rw [if_pos h2] at h; cases h
  rw [if_neg h2] at h
  cases h3 : mayB r.ident k o with
  | false => rw [if_pos h3] at h; cases h
  | true =>
    rw [if_neg (by rw [h3]; decide)] at h
    by_cases h4 : oldE r o b = 0
    · rw [if_neg (fun hn => hn h4)] at h
      by_cases h5 : newE r k a = 0
      · exact ⟨by omega, h2, rfl, h4, h5⟩
      · rw [if_pos h5] at h; exact absurd h h5
    · rw [if_pos h4] at h; exact absurd h h4
theorem rlErr_cols {r : Rl} (h : rlErr r = 0) : r.cols.length ≠ 0 := by
  intro h0
  unfold rlErr at h
  split at h
  · cases h
  · split at h
    · cases h
    · split at h
      · cases h
      · rw [if_pos (.inl h0)] at h; cases h
theorem full_pos {r : Rl} {l : List Cel} (h : isFullE r l = 0) : l.length ≠ 0 := by
  obtain ⟨h1, _⟩ := isFull_iff.1 h
  obtain ⟨h3, _⟩ := keyed_iff.1 h1
  obtain ⟨h5, h6, _⟩ := fits_iff.1 h3
  have := rlErr_cols h5; omega
theorem key_pos {r : Rl} {l : List Cel} (h : isKeyE r l = 0) : l.length ≠ 0 := by
  obtain ⟨h1, _⟩ := isKey_iff.1 h
  obtain ⟨h3, _⟩ := keyed_iff.1 h1
  obtain ⟨h5, h6, _⟩ := fits_iff.1 h3
  have := rlErr_cols h5; omega
theorem old_len {r : Rl} {k o : Nat} {b a : List Cel} (h : rightE r k o b a = 0) : (o = 0 → b.length = 0) ∧ (o = 1 → b.length ≠ 0) ∧ (o = 2 → b.length ≠ 0) := by
  obtain ⟨h1, h2, h3, h4, h5⟩ := right_zero h
  refine ⟨fun e => by omega, fun e => ?_, fun e => ?_⟩
  · subst e; unfold oldE at h4; rw [if_pos rfl] at h4; exact key_pos h4
  · subst e; unfold oldE at h4; rw [if_neg (by decide), if_pos rfl] at h4; exact full_pos h4
theorem may_cases {i k o : Nat} (h : mayB i k o = true) : (o = 0 ∧ (k = 4 ∨ k = 5 ∧ i ≤ 1)) ∨ (o = 1 ∧ i = 1 ∧ k ≠ 4) ∨ (o = 2 ∧ i = 2 ∧ k ≠ 4) := by
  unfold mayB at h
  split at h
  · have := of_decide_eq_true h; omega
  · split at h
    · have := of_decide_eq_true h; omega
    · split at h
      · have := of_decide_eq_true h; omega
      · split at h
        · have := of_decide_eq_true h; omega
        · cases h
/-- How many kinds of old images are right, below j. -/
def cntR (r : Rl) (k : Nat) (b a : List Cel) : Nat → Nat
  | 0 => 0
  | j + 1 => cntR r k b a j + if rightE r k j b a = 0 then 1 else 0
theorem one_right {r : Rl} {k o o' : Nat} {b a : List Cel} (h : rightE r k o b a = 0) (h' : rightE r k o' b a = 0) : o = o' := by
  obtain ⟨h1, h2, h3, h4, h5⟩ := right_zero h
  obtain ⟨g1, g2, g3, g4, g5⟩ := right_zero h'
  have a1 := old_len h; have a2 := old_len h'
  rcases may_cases h3 with m | m | m <;> rcases may_cases g3 with n | n | n
  all_goals first | omega | (exfalso; have x1 := a1.1; have x2 := a1.2.1; have x3 := a1.2.2; have y1 := a2.1; have y2 := a2.2.1; have y3 := a2.2.2; omega)
theorem cnt_le {r : Rl} {k : Nat} {b a : List Cel} : cntR r k b a 4 ≤ 1 := by
  by_cases h0 : rightE r k 0 b a = 0 <;> by_cases h1 : rightE r k 1 b a = 0 <;> by_cases h2 : rightE r k 2 b a = 0 <;> by_cases h3 : rightE r k 3 b a = 0
  all_goals first
    | (exfalso; have := one_right h0 h1; omega)
    | (exfalso; have := one_right h0 h2; omega)
    | (exfalso; have := one_right h0 h3; omega)
    | (exfalso; have := one_right h1 h2; omega)
    | (exfalso; have := one_right h1 h3; omega)
    | (exfalso; have := one_right h2 h3; omega)
    | (simp [cntR, h0, h1, h2, h3])
theorem insert_facts {r : Rl} {o : Nat} {b a : List Cel} (h : rightE r 4 0 b a = 0) : b.length = 0 ∧ isFullE r a = 0 ∧ rightE r 6 o b a ≠ 0 := by
  obtain ⟨h1, h2, h3, h4, h5⟩ := right_zero h
  have hf : isFullE r a = 0 := by unfold newE at h5; rwa [if_pos rfl] at h5
  refine ⟨(old_len h).1 rfl, hf, fun h6 => ?_⟩
  obtain ⟨g1, g2, _⟩ := right_zero h6
  have := full_pos hf
  omega
def KnT.rowO {Ts : TypeId → Prop} (hT : ¬ Ts 59) (l : List Cel) : KnT Ts :=
  ⟨fun v w => w.ownsRow 0 59 5 v l.length (PcC l), fun _ _ _ hx h => own_tyb h hT hx⟩
abbrev stTs : TypeId → Prop := fun t => t = 33
def stB : Bx := ⟨5, 8, 9, 22, 33, 5⟩
def stT (r : Rl) (cv vb va : Value) (ge : Nat) (b a : List Cel) : Tmp → KnT stTs
  | 21 => .is (.agg (relv r cv))
  | 22 => KnT.relO (by decide) r
  | 23 => .is (.pointer (some ⟨ge, 2, none⟩))
  | 24 => .is vb
  | 25 => KnT.rowO (by decide) b
  | 26 => .is (.pointer (some ⟨ge, 3, none⟩))
  | 27 => .is va
  | 28 => KnT.rowO (by decide) a
  | 6 => KnT.rowO (by decide) b
  | 7 => KnT.rowO (by decide) a
  | _ => .any
theorem fieldE2 (w : World) (b : Nat) : (Instr.fieldAt 48 (.pointer (some ⟨b, 0, none⟩)) 2).run Try.prog w = .ok (.pointer (some ⟨b, 2, none⟩)) w := by kernel_rfl
theorem fieldE3 (w : World) (b : Nat) : (Instr.fieldAt 48 (.pointer (some ⟨b, 0, none⟩)) 3).run Try.prog w = .ok (.pointer (some ⟨b, 3, none⟩)) w := by kernel_rfl
end Go.Proofs.Ytdpebdbfphlmeaa
