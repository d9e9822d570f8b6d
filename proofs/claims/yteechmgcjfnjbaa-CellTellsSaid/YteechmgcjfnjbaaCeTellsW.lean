/-
  CellTells: the walk.
-/
import Derived.Test.YteechmgcjfnjbaaCelI
import Derived.Test.YteechmgcjfnjbaaCelG
import Derived.Test.YteechmgcjfnjbaaLibE
namespace Go.Proofs.Yteechmgcjfnjbaa
open Go.RowKit Go.Lac

def tells7T (a b : Cel) (kind g0 g7 : Nat) (z : Bool) : Tmp → Kn
  | 6 => .is (.bool true)
  | 25 => .is (pc a)
  | 26 => .is (.int .u8 (kind : Nat))
  | 27 => .is (.int .i64 (cErr a kind : Nat))
  | 28 => .is (rc a)
  | 29 => .is (.int .u8 (kind : Nat))
  | 30 => .is (.int .i64 (cErr a kind : Nat))
  | 31 => .is (.bool true)
  | 32 => .is (.bool true)
  | 33 => .is (pc a)
  | 34 => .is (.bool (cLarge a))
  | 35 => .is (rc a)
  | 36 => .is (.bool (cLarge a))
  | 37 => .is (.bool true)
  | 38 => .is (.bool true)
  | 39 => .is (.bool true)
  | 40 => .is (pc a)
  | 41 => .is (pc b)
  | 42 => .is (.bool z)
  | 43 => .is (rc a)
  | 44 => .is (rc b)
  | 45 => .is (.bool z)
  | 46 => .is (.bool true)
  | 47 => .is (.bool true)
  | 48 => .is (.bool true)
  | 49 => .is (.pointer (some ⟨g7, 1, none⟩))
  | 50 => .is (pv a.v)
  | 51 => .is (pc ⟨2, a.v⟩)
  | 52 => .is (rc ⟨2, a.v⟩)
  | 53 => .is (.pointer (some ⟨g0, 1, none⟩))
  | 54 => .is (rv a.v)
  | 55 => .is (rc ⟨2, a.v⟩)
  | 56 => .is (.bool true)
  | 57 => .is (.bool true)
  | 58 => .is (.bool true)
  | 59 => .is (.bool true)
  | 60 => .is (.bool true)
  | _ => .any

/-- What is known while the two are laid down. -/
def cellV (B : Nat) (a b : Cel) (L : Nat → Bool) (d : Tmp) (v : Value) (w : World) : Prop :=
  match d with
  | 21 => v = rc a
  | 23 => v = rc b
  | 22 => v = pc a
  | 24 => v = pc b
  | 7 => ∃ g, v = .pointer (some ⟨g, 0, none⟩) ∧ B ≤ g ∧ w.heap[g]? = some (.cells (if L 6 then pcv a else #[.int .u8 0, .int .u8 0, .int .i64 0, .complex .f64 0 0, .string ⟨#[]⟩]) 31 (0, 0))
  | 8 => ∃ g, v = .pointer (some ⟨g, 0, none⟩) ∧ B ≤ g ∧ w.heap[g]? = some (.cells (if L 7 then pcv b else #[.int .u8 0, .int .u8 0, .int .i64 0, .complex .f64 0 0, .string ⟨#[]⟩]) 31 (0, 0))
  | _ => True
theorem cellV_ext {B : Nat} {a b : Cel} {L L' : Nat → Bool} {w w' : World} (h6 : L' 6 = L 6) (h7 : L' 7 = L 7) (k : Ext w w') {d : Tmp} {v : Value} (h : cellV B a b L d v w) : cellV B a b L' d v w' := by
  unfold cellV at *
  split at h <;> first | exact h | (obtain ⟨g, e1, e2, e3⟩ := h; exact ⟨g, e1, e2, by first | (rw [h6]; exact heap_of_ext k e3) | (rw [h7]; exact heap_of_ext k e3)⟩) | trivial
theorem cellV_set {B : Nat} {a b : Cel} {L L' : Nat → Bool} {w : World} {g : Nat} {cs : Array Value} {d n : Tmp} {v : Value} (h6 : n ≠ 7 → L' 6 = L 6) (h7 : n ≠ 8 → L' 7 = L 7)
    (h : cellV B a b L d v w) (hg : v = .pointer (some ⟨g, 0, none⟩) → d ≠ 7 ∧ d ≠ 8) (hd : d ≠ n) : cellV B a b L' d v (w.setRow g cs) := by
  unfold cellV at *
  split at h
  · exact h
  · exact h
  · exact h
  · exact h
  · obtain ⟨g', e1, e2, e3⟩ := h
    have hne : g' ≠ g := fun e => (hg (by rw [e1, e])).1 rfl
    exact ⟨g', e1, e2, by rw [h6 (fun e => hd e.symm), setRow_other _ _ _ _ hne]; exact e3⟩
  · obtain ⟨g', e1, e2, e3⟩ := h
    have hne : g' ≠ g := fun e => (hg (by rw [e1, e])).2 rfl
    exact ⟨g', e1, e2, by rw [h7 (fun e => hd e.symm), setRow_other _ _ _ _ hne]; exact e3⟩
  · trivial
def cellS (w0 : World) (L : Nat → Bool) (x : Act) (w : World) : Prop :=
  Ext w0 w ∧ (L 4 = true → L 5 = true → x.tmps.getD 7 undef ≠ x.tmps.getD 8 undef)
theorem putOther {x : Act} {d t : Nat} {v : Value} (h : d ≠ t) : ((x.put (some d) v).tmps).getD t undef = x.tmps.getD t undef := by
  simp [Act.put, Array.getD_eq_getD_getElem?, Array.getElem?_setIfInBounds_ne h]
theorem putSame {x : Act} {d : Nat} {v : Value} (h : d < x.tmps.size) : ((x.put (some d) v).tmps).getD d undef = v := by
  simp [Act.put, Array.getD, h]

set_option maxRecDepth 20000 in
set_option maxHeartbeats 4000000 in
theorem cellTells_walk (a b : Cel) (kind : Nat) (w0 : World) :
    Calls Try.prog 3 #[rc a, rc b, .int .u8 (kind : Nat)] w0 fun e w' => e = .returned (.bool true) ∧ Ext w0 w' := by
  obtain ⟨W1, hW1⟩ : ∃ W1, W1 = (w0.alloc (.cells (rcv a) 26)).alloc (.cells (rcv b) 26) := ⟨_, rfl⟩
  have ga : RRow W1 w0.heap.size a := by rw [hW1]; exact heap_alloc2_old _ _ _
  have gb : RRow W1 (w0.heap.size + 1) b := by rw [hW1]; exact heap_alloc2_new _ _ _
  have hx1 : Ext w0 W1 := by rw [hW1]; exact ((Ch.refl _ _).alloc _).alloc _
  have GA1 := Lib.hid ga; have GB1 := Lib.hid gb; have HX1 := Lib.hid hx1; have HW1 := Lib.hid hW1
  have hsa : (⟨a.v.t.toArray⟩ : ByteArray).size = a.v.t.length := by simp [ByteArray.size]
  have hsb : (⟨b.v.t.toArray⟩ : ByteArray).size = b.v.t.length := by simp [ByteArray.size]
  have ca := ga.text
  have cb := gb.text
  unfold strV at ca cb
  have hia : rc a = .agg (rcv a) := rfl
  have hib : rc b = .agg (rcv b) := rfl
  rw [hia, hib]
  rw [hW1] at ca cb
  generalize (⟨a.v.t.toArray⟩ : ByteArray) = AS at *
  generalize (⟨b.v.t.toArray⟩ : ByteArray) = BS at *
  generalize a.v.t.length = na at *
  generalize b.v.t.length = nb at *
  clear hia hib ga gb hx1 hW1
  by_cases h1 : 3000 < na
  · go_enter Try.func3, Try.ntmps3
    go_wp2
    go_ret
    rw [← HW1.out]
    exact ⟨rfl, HX1.out⟩
  by_cases h2 : 3000 < nb
  · go_enter Try.func3, Try.ntmps3
    go_wp2
    go_ret
    rw [← HW1.out]
    exact ⟨rfl, HX1.out⟩
  have h1' : na ≤ 3000 := by omega
  have h2' : nb ≤ 3000 := by omega
  clear h1 h2
  go_enter Try.func3, Try.ntmps3
  go_wp2
  rw [← HW1.out]
  clear HW1 ca cb hsa hsb h1' h2'
  generalize hg0 : w0.heap.size = g0 at *
  refine wp_region_act (cellV W1.heap.size a b) (cellS W1) mixedV (by rfl) (by rfl) ⟨Ch.drew (Ch.refl _ _), by simp⟩ ?all ?fin
  case all =>
    refine ⟨?_, ?_, ?_, ?_, ?_, ?_, ?_, ?_, trivial⟩
    · intro x w L hsz hS hi hd hf hval hcl
      refine ⟨fun _ => ?_, fun hn => by simp [wantedBy] at hn⟩
      have h3 : x.eval (.tmp 3) = .pointer (some ⟨g0, 0, none⟩) := (hf 3).2 rfl rfl
      refine (Exec.kloadmid (T := fun _ => .is (rc a)) (d := 21) rfl rfl h3 (GA1.out.ext hS.1).whole rfl).mono ?_
      rintro u w' ⟨k1, hx⟩
      exact ⟨fun d hd => by cases hd; exact k1 21 rfl, fun j p d hj hL hd => cellV_ext (by simp) (by simp) hx (hval j p hj hL d hd), ⟨hS.1.trans hx, fun l1 l2 => by rw [putOther (by decide), putOther (by decide)]; exact hS.2 (by simpa using l1) (by simpa using l2)⟩⟩
    · intro x w L hsz hS hi hd hf hval hcl
      refine ⟨fun _ => ?_, fun hn => by simp [wantedBy] at hn⟩
      have h21 : x.eval (.tmp 21) = rc a := (hf 21).1 rfl
      refine (Exec.kcall (T := fun _ => .is (pc a)) (d := 22) #[rc a] (env_eval x) rfl rfl (by simp [h21]) Try.func12 (by rfl) (by rfl) ((own7_any a w).mono (by rintro e w' ⟨rfl, hx⟩; exact ⟨_, rfl, rfl, hx⟩))).mono ?_
      rintro u w' ⟨k1, hx⟩
      exact ⟨fun d hd => by cases hd; exact k1 22 rfl, fun j p d hj hL hd => cellV_ext (by simp) (by simp) hx (hval j p hj hL d hd), ⟨hS.1.trans hx, fun l1 l2 => by rw [putOther (by decide), putOther (by decide)]; exact hS.2 (by simpa using l1) (by simpa using l2)⟩⟩
    · intro x w L hsz hS hi hd hf hval hcl
      refine ⟨fun _ => ?_, fun hn => by simp [wantedBy] at hn⟩
      have h4 : x.eval (.tmp 4) = .pointer (some ⟨(g0 + 1), 0, none⟩) := (hf 4).2 rfl rfl
      refine (Exec.kloadmid (T := fun _ => .is (rc b)) (d := 23) rfl rfl h4 (GB1.out.ext hS.1).whole rfl).mono ?_
      rintro u w' ⟨k1, hx⟩
      exact ⟨fun d hd => by cases hd; exact k1 23 rfl, fun j p d hj hL hd => cellV_ext (by simp) (by simp) hx (hval j p hj hL d hd), ⟨hS.1.trans hx, fun l1 l2 => by rw [putOther (by decide), putOther (by decide)]; exact hS.2 (by simpa using l1) (by simpa using l2)⟩⟩
    · intro x w L hsz hS hi hd hf hval hcl
      refine ⟨fun _ => ?_, fun hn => by simp [wantedBy] at hn⟩
      have h23 : x.eval (.tmp 23) = rc b := (hf 23).1 rfl
      refine (Exec.kcall (T := fun _ => .is (pc b)) (d := 24) #[rc b] (env_eval x) rfl rfl (by simp [h23]) Try.func12 (by rfl) (by rfl) ((own7_any b w).mono (by rintro e w' ⟨rfl, hx⟩; exact ⟨_, rfl, rfl, hx⟩))).mono ?_
      rintro u w' ⟨k1, hx⟩
      exact ⟨fun d hd => by cases hd; exact k1 24 rfl, fun j p d hj hL hd => cellV_ext (by simp) (by simp) hx (hval j p hj hL d hd), ⟨hS.1.trans hx, fun l1 l2 => by rw [putOther (by decide), putOther (by decide)]; exact hS.2 (by simpa using l1) (by simpa using l2)⟩⟩
    · intro x w L hsz hS hi hd hf hval hcl
      refine ⟨fun _ => ?_, fun hn => by simp [wantedBy] at hn⟩
      have h9 : L 6 = false := by
        rcases Bool.eq_false_or_eq_true (L 6) with h | h
        · have := hcl 6 _ rfl h 4 (by decide)
          rw [hi] at this; cases this
        · exact h
      have hnew : ∀ t, t ∈ [7, 8] → L (t - 3) = true → x.tmps.getD t undef ≠ .pointer (some ⟨w.heap.size, 0, none⟩) := by
        intro t ht hL e
        simp only [List.mem_cons, List.not_mem_nil, or_false] at ht
        rcases ht with rfl | rfl
        · have hv := hval 4 _ rfl hL 7 rfl
          obtain ⟨g, e1, _, e3⟩ := hv
          rw [e] at e1; cases e1
          have := (Array.getElem?_eq_some_iff.1 e3).1; omega
        · have hv := hval 5 _ rfl hL 8 rfl
          obtain ⟨g, e1, _, e3⟩ := hv
          rw [e] at e1; cases e1
          have := (Array.getElem?_eq_some_iff.1 e3).1; omega
      have hx : Ext w (w.alloc (.cells #[.int .u8 0, .int .u8 0, .int .i64 0, .complex .f64 0 0, .string ⟨#[]⟩] 31)) := (Ch.refl _ _).alloc _
      refine Exec.value (v := .pointer (some ⟨w.heap.size, 0, none⟩)) (w' := w.alloc (.cells #[.int .u8 0, .int .u8 0, .int .i64 0, .complex .f64 0 0, .string ⟨#[]⟩] 31)) (by unfold execOp; simp [go_sem]) ⟨fun d hd => ?_, fun j p d hj hL hd => cellV_ext (by simp) (by simp) hx (hval j p hj hL d hd), hS.1.trans hx, fun l1 l2 => by rw [putSame (by rw [hsz]; exact (by decide : 7 < 61)), putOther (by decide)]; exact fun e => hnew 8 (by decide) (by simpa using l2) e.symm⟩
      cases hd
      refine ⟨w.heap.size, rfl, hS.1.size, ?_⟩
      simp only [h9]
      exact heap_alloc_new w _
    · intro x w L hsz hS hi hd hf hval hcl
      refine ⟨fun _ => ?_, fun hn => by simp [wantedBy] at hn⟩
      have h9 : L 7 = false := by
        rcases Bool.eq_false_or_eq_true (L 7) with h | h
        · have := hcl 7 _ rfl h 5 (by decide)
          rw [hi] at this; cases this
        · exact h
      have hnew : ∀ t, t ∈ [7, 8] → L (t - 3) = true → x.tmps.getD t undef ≠ .pointer (some ⟨w.heap.size, 0, none⟩) := by
        intro t ht hL e
        simp only [List.mem_cons, List.not_mem_nil, or_false] at ht
        rcases ht with rfl | rfl
        · have hv := hval 4 _ rfl hL 7 rfl
          obtain ⟨g, e1, _, e3⟩ := hv
          rw [e] at e1; cases e1
          have := (Array.getElem?_eq_some_iff.1 e3).1; omega
        · have hv := hval 5 _ rfl hL 8 rfl
          obtain ⟨g, e1, _, e3⟩ := hv
          rw [e] at e1; cases e1
          have := (Array.getElem?_eq_some_iff.1 e3).1; omega
      have hx : Ext w (w.alloc (.cells #[.int .u8 0, .int .u8 0, .int .i64 0, .complex .f64 0 0, .string ⟨#[]⟩] 31)) := (Ch.refl _ _).alloc _
      refine Exec.value (v := .pointer (some ⟨w.heap.size, 0, none⟩)) (w' := w.alloc (.cells #[.int .u8 0, .int .u8 0, .int .i64 0, .complex .f64 0 0, .string ⟨#[]⟩] 31)) (by unfold execOp; simp [go_sem]) ⟨fun d hd => ?_, fun j p d hj hL hd => cellV_ext (by simp) (by simp) hx (hval j p hj hL d hd), hS.1.trans hx, fun l1 l2 => by rw [putSame (by rw [hsz]; exact (by decide : 8 < 61)), putOther (by decide)]; exact fun e => hnew 7 (by decide) (by simpa using l1) e⟩
      cases hd
      refine ⟨w.heap.size, rfl, hS.1.size, ?_⟩
      simp only [h9]
      exact heap_alloc_new w _
    · intro x w L hsz hS hi hd hf hval hcl
      refine ⟨fun _ => ?_, fun hn => by simp [wantedBy] at hn⟩
      have hs : cellV W1.heap.size a b L 7 (x.eval (.tmp 7)) w := (hf 7).1 rfl
      have hp : x.eval (.tmp 22) = pc a := (hf 22).1 rfl
      obtain ⟨g, e1, e2, e3⟩ := hs
      have d4 : L 4 = true := hd 4 (by decide)
      have d5 : L 5 = true := hd 5 (by decide)
      have hne := hS.2
      have e1' : x.tmps.getD 7 undef = .pointer (some ⟨g, 0, none⟩) := e1
      refine (Exec.kstorerow rfl e1 hp e3 infoPC (by split <;> rfl) (pcv_one _)).mono ?_
      rintro _ w' rfl
      have hx : Ext W1 (w.setRow g (pcv a)) := hS.1.setRow (.inr e2) _
      refine ⟨(fun d hd => by cases hd), ?_, hx, fun _ _ => hne d4 d5⟩
      intro j p d hj hL hd'
      have hv := hval j p hj hL d hd'
      have hdn : d = 7 ∨ d ≠ 7 := Classical.em _
      rcases hdn with rfl | hdn
      · rw [e1']
        exact ⟨g, rfl, e2, by simp only [beq_self_eq_true, Bool.true_or, if_true]; exact setRow_heap _ _ _ _ _ _ e3⟩
      · exact cellV_set (by simp) (by simp) hv (by
          intro e
          have q1 := hne d4 d5
          rw [← e1'] at e
          refine ⟨?_, ?_⟩ <;> intro hd9 <;> subst hd9 <;> first | exact hdn rfl | exact q1 e | exact q1 e.symm) hdn
    · intro x w L hsz hS hi hd hf hval hcl
      refine ⟨fun _ => ?_, fun hn => by simp [wantedBy] at hn⟩
      have hs : cellV W1.heap.size a b L 8 (x.eval (.tmp 8)) w := (hf 8).1 rfl
      have hp : x.eval (.tmp 24) = pc b := (hf 24).1 rfl
      obtain ⟨g, e1, e2, e3⟩ := hs
      have d4 : L 4 = true := hd 4 (by decide)
      have d5 : L 5 = true := hd 5 (by decide)
      have hne := hS.2
      have e1' : x.tmps.getD 8 undef = .pointer (some ⟨g, 0, none⟩) := e1
      refine (Exec.kstorerow rfl e1 hp e3 infoPC (by split <;> rfl) (pcv_one _)).mono ?_
      rintro _ w' rfl
      have hx : Ext W1 (w.setRow g (pcv b)) := hS.1.setRow (.inr e2) _
      refine ⟨(fun d hd => by cases hd), ?_, hx, fun _ _ => hne d4 d5⟩
      intro j p d hj hL hd'
      have hv := hval j p hj hL d hd'
      have hdn : d = 8 ∨ d ≠ 8 := Classical.em _
      rcases hdn with rfl | hdn
      · rw [e1']
        exact ⟨g, rfl, e2, by simp only [beq_self_eq_true, Bool.true_or, if_true]; exact setRow_heap _ _ _ _ _ _ e3⟩
      · exact cellV_set (by simp) (by simp) hv (by
          intro e
          have q1 := hne d4 d5
          rw [← e1'] at e
          refine ⟨?_, ?_⟩ <;> intro hd9 <;> subst hd9 <;> first | exact hdn rfl | exact q1 e | exact q1 e.symm) hdn
  case fin =>
    intro ν w2 hV hS
    have q7 := hV _ (List.mem_of_getElem? (i := 4) rfl) 7 rfl
    have q8 := hV _ (List.mem_of_getElem? (i := 5) rfl) 8 rfl
    obtain ⟨g7, e7, _, k7⟩ := q7
    obtain ⟨g8, e8, _, k8⟩ := q8
    simp only [Exit.then, ended, List.foldl_cons, List.foldl_nil, List.setIfInBounds_toArray, List.set_cons_succ, List.set_cons_zero, e7, e8]
    have G7 : Hid (PRow w2 g7 a) := Lib.hid k7
    have G8 : Hid (PRow w2 g8 b) := Lib.hid k8
    have GA : Hid (RRow w2 g0 a) := Lib.hid (GA1.out.ext hS.1)
    have GB : Hid (RRow w2 (g0 + 1) b) := Lib.hid (GB1.out.ext hS.1)
    have HX2 := Lib.hid (HX1.out.trans hS.1)
    clear hV hS e7 e8 k7 k8
    obtain ⟨z, hz⟩ : ∃ z, z = decide (a = b) := ⟨_, rfl⟩
    have HZ : Hid (decide (a = b) = z) := Lib.hid hz.symm
    clear hz
    go_wp2
    refine wp_region_ext (tells7T a b kind g0 g7 z) mixedV (by rfl) (by rfl) ?all ?fin
    case all =>
      refine ⟨?_, ?_, ?_, ?_, ?_, ?_, ?_, ?_, ?_, ?_, ?_, ?_, ?_, ?_, ?_, ?_, ?_, ?_, ?_, ?_, ?_, ?_, ?_, ?_, ?_, ?_, ?_, ?_, ?_, ?_, ?_, ?_, ?_, ?_, ?_, ?_, ?_, trivial⟩
      · -- 0: slot 25 := Op.load 31 t7
        refine StepOK.plain (kn_stable _) rfl fun ρ w hρ hw hf => ?_
        have h7 : ρ (.tmp 7) = (.pointer (some ⟨g7, 0, none⟩)) := (hf 7).2 rfl rfl
        exact Exec.kloadmid rfl rfl h7 (G7.out.ext hw).whole rfl
      · -- 1: slot 26 := Op.move t2
        refine StepOK.plain (kn_stable _) rfl fun ρ w hρ hw hf => ?_
        have h2 : ρ (.tmp 2) = (.int .u8 (kind : Nat)) := (hf 2).2 rfl rfl
        exact Exec.kmove rfl rfl h2
      · -- 2: slot 27 := Op.call { value (Operand.func 13), args := #[t25, t26], argTypes := #[
        refine StepOK.plain (kn_stable _) rfl fun ρ w hρ hw hf => ?_
        have h25 : ρ (.tmp 25) = (pc a) := (hf 25).1 rfl
        have h26 : ρ (.tmp 26) = (.int .u8 (kind : Nat)) := (hf 26).1 rfl
        refine Exec.kcall #[pc a, .int .u8 (kind : Nat)] hρ rfl rfl (by simp [hρ.const, h25, h26]) Try.func13 (by rfl) rfl ?_
        refine (cright_any a kind w).mono ?_
        rintro e w' ⟨rfl, hx⟩
        exact ⟨_, rfl, rfl, hx⟩
      · -- 3: slot 28 := Op.load 26 t3
        refine StepOK.plain (kn_stable _) rfl fun ρ w hρ hw hf => ?_
        have h3 : ρ (.tmp 3) = (.pointer (some ⟨g0, 0, none⟩)) := (hf 3).2 rfl rfl
        exact Exec.kloadmid rfl rfl h3 (GA.out.ext hw).whole rfl
      · -- 4: slot 29 := Op.move t2
        refine StepOK.plain (kn_stable _) rfl fun ρ w hρ hw hf => ?_
        have h2 : ρ (.tmp 2) = (.int .u8 (kind : Nat)) := (hf 2).2 rfl rfl
        exact Exec.kmove rfl rfl h2
      · -- 5: slot 30 := Op.call { value (Operand.func 14), args := #[t28, t29], argTypes := #[
        refine StepOK.plain (kn_stable _) rfl fun ρ w hρ hw hf => ?_
        have h28 : ρ (.tmp 28) = (rc a) := (hf 28).1 rfl
        have h29 : ρ (.tmp 29) = (.int .u8 (kind : Nat)) := (hf 29).1 rfl
        refine Exec.kcall #[rc a, .int .u8 (kind : Nat)] hρ rfl rfl (by simp [hρ.const, h28, h29]) Try.func14 (by rfl) rfl ?_
        refine (rright7_any a kind w).mono ?_
        rintro e w' ⟨rfl, hx⟩
        exact ⟨_, rfl, rfl, hx⟩
      · -- 6: slot 31 := Op.binOp BinOp.eql 3 t27 t30 3
        refine StepOK.plain (kn_stable _) rfl fun ρ w hρ hw hf => ?_
        have h27 : ρ (.tmp 27) = (.int .i64 (cErr a kind : Nat)) := (hf 27).1 rfl
        have h30 : ρ (.tmp 30) = (.int .i64 (cErr a kind : Nat)) := (hf 30).1 rfl
        exact Exec.same (v := .bool true) rfl (by simp [go_sem, hρ.const, h27, h30]) rfl
      · -- 7: slot 32 := Op.move t31
        refine StepOK.plain (kn_stable _) rfl fun ρ w hρ hw hf => ?_
        have h31 : ρ (.tmp 31) = (.bool true) := (hf 31).1 rfl
        exact Exec.kmove rfl rfl h31
      · -- 8: slot 33 := Op.load 31 t7
        refine StepOK.guarded (kn_stable _) 7 true 32 rfl rfl (fun ρ w _ _ hf => (hf 32).1 rfl) fun ρ w hρ hw hf => ?_
        have h7 : ρ (.tmp 7) = (.pointer (some ⟨g7, 0, none⟩)) := (hf 7).2 rfl rfl
        exact Exec.kloadmid rfl rfl h7 (G7.out.ext hw).whole rfl
      · -- 9: slot 34 := Op.call { value (Operand.func 15), args := #[t33], argTypes := #[31] }
        refine StepOK.guarded (kn_stable _) 7 true 32 rfl rfl (fun ρ w _ _ hf => (hf 32).1 rfl) fun ρ w hρ hw hf => ?_
        have h33 : ρ (.tmp 33) = (pc a) := (hf 33).1 rfl
        refine Exec.kcall #[pc a] hρ rfl rfl (by simp [hρ.const, h33]) Try.func15 (by rfl) rfl ?_
        refine (clarge_any a w).mono ?_
        rintro e w' ⟨rfl, hx⟩
        exact ⟨_, rfl, rfl, hx⟩
      · -- 10: slot 35 := Op.load 26 t3
        refine StepOK.guarded (kn_stable _) 7 true 32 rfl rfl (fun ρ w _ _ hf => (hf 32).1 rfl) fun ρ w hρ hw hf => ?_
        have h3 : ρ (.tmp 3) = (.pointer (some ⟨g0, 0, none⟩)) := (hf 3).2 rfl rfl
        exact Exec.kloadmid rfl rfl h3 (GA.out.ext hw).whole rfl
      · -- 11: slot 36 := Op.call { value (Operand.func 16), args := #[t35], argTypes := #[26] }
        refine StepOK.guarded (kn_stable _) 7 true 32 rfl rfl (fun ρ w _ _ hf => (hf 32).1 rfl) fun ρ w hρ hw hf => ?_
        have h35 : ρ (.tmp 35) = (rc a) := (hf 35).1 rfl
        refine Exec.kcall #[rc a] hρ rfl rfl (by simp [hρ.const, h35]) Try.func16 (by rfl) rfl ?_
        refine (rlarge_any a w).mono ?_
        rintro e w' ⟨rfl, hx⟩
        exact ⟨_, rfl, rfl, hx⟩
      · -- 12: slot 37 := Op.binOp BinOp.eql 4 t34 t36 4
        refine StepOK.guarded (kn_stable _) 7 true 32 rfl rfl (fun ρ w _ _ hf => (hf 32).1 rfl) fun ρ w hρ hw hf => ?_
        have h34 : ρ (.tmp 34) = (.bool (cLarge a)) := (hf 34).1 rfl
        have h36 : ρ (.tmp 36) = (.bool (cLarge a)) := (hf 36).1 rfl
        exact Exec.same (v := .bool true) rfl (by cases hz : cLarge a <;> simp [go_sem, hρ.const, h34, h36, hz]) rfl
      · -- 13: slot 38 := Op.pick t32 t37 (const (Value.bool false))
        refine StepOK.plain (kn_stable _) rfl fun ρ w hρ hw hf => ?_
        have h32 : ρ (.tmp 32) = (.bool true) := (hf 32).1 rfl
        have h37 : ρ (.tmp 37) = (.bool true) := (hf 37).1 rfl
        exact Exec.kpickT rfl rfl h32 h37
      · -- 14: slot 39 := Op.move t38
        refine StepOK.plain (kn_stable _) rfl fun ρ w hρ hw hf => ?_
        have h38 : ρ (.tmp 38) = (.bool true) := (hf 38).1 rfl
        exact Exec.kmove rfl rfl h38
      · -- 15: slot 40 := Op.load 31 t7
        refine StepOK.guarded (kn_stable _) 14 true 39 rfl rfl (fun ρ w _ _ hf => (hf 39).1 rfl) fun ρ w hρ hw hf => ?_
        have h7 : ρ (.tmp 7) = (.pointer (some ⟨g7, 0, none⟩)) := (hf 7).2 rfl rfl
        exact Exec.kloadmid rfl rfl h7 (G7.out.ext hw).whole rfl
      · -- 16: slot 41 := Op.load 31 t8
        refine StepOK.guarded (kn_stable _) 14 true 39 rfl rfl (fun ρ w _ _ hf => (hf 39).1 rfl) fun ρ w hρ hw hf => ?_
        have h8 : ρ (.tmp 8) = (.pointer (some ⟨g8, 0, none⟩)) := (hf 8).2 rfl rfl
        exact Exec.kloadmid rfl rfl h8 (G8.out.ext hw).whole rfl
      · -- 17: slot 42 := Op.call { value (Operand.func 17), args := #[t40, t41], argTypes := #[
        refine StepOK.guarded (kn_stable _) 14 true 39 rfl rfl (fun ρ w _ _ hf => (hf 39).1 rfl) fun ρ w hρ hw hf => ?_
        have h40 : ρ (.tmp 40) = (pc a) := (hf 40).1 rfl
        have h41 : ρ (.tmp 41) = (pc b) := (hf 41).1 rfl
        refine Exec.kcall #[pc a, pc b] hρ rfl rfl (by simp [hρ.const, h40, h41]) Try.func17 (by rfl) rfl ?_
        refine (calike_any a b w).mono ?_
        rintro e w' ⟨rfl, hx⟩
        exact ⟨_, rfl, (by rw [HZ.out]; exact rfl), hx⟩
      · -- 18: slot 43 := Op.load 26 t3
        refine StepOK.guarded (kn_stable _) 14 true 39 rfl rfl (fun ρ w _ _ hf => (hf 39).1 rfl) fun ρ w hρ hw hf => ?_
        have h3 : ρ (.tmp 3) = (.pointer (some ⟨g0, 0, none⟩)) := (hf 3).2 rfl rfl
        exact Exec.kloadmid rfl rfl h3 (GA.out.ext hw).whole rfl
      · -- 19: slot 44 := Op.load 26 t4
        refine StepOK.guarded (kn_stable _) 14 true 39 rfl rfl (fun ρ w _ _ hf => (hf 39).1 rfl) fun ρ w hρ hw hf => ?_
        have h4 : ρ (.tmp 4) = (.pointer (some ⟨g0 + 1, 0, none⟩)) := (hf 4).2 rfl rfl
        exact Exec.kloadmid rfl rfl h4 (GB.out.ext hw).whole rfl
      · -- 20: slot 45 := Op.binOp BinOp.eql 26 t43 t44 26
        refine StepOK.guarded (kn_stable _) 14 true 39 rfl rfl (fun ρ w _ _ hf => (hf 39).1 rfl) fun ρ w hρ hw hf => ?_
        have h43 : ρ (.tmp 43) = (rc a) := (hf 43).1 rfl
        have h44 : ρ (.tmp 44) = (rc b) := (hf 44).1 rfl
        exact Exec.krceq rfl rfl h43 h44 (by rw [HZ.out]; exact rfl)
      · -- 21: slot 46 := Op.binOp BinOp.eql 4 t42 t45 4
        refine StepOK.guarded (kn_stable _) 14 true 39 rfl rfl (fun ρ w _ _ hf => (hf 39).1 rfl) fun ρ w hρ hw hf => ?_
        have h42 : ρ (.tmp 42) = (.bool z) := (hf 42).1 rfl
        have h45 : ρ (.tmp 45) = (.bool z) := (hf 45).1 rfl
        exact Exec.same (v := .bool true) rfl (by cases z <;> simp [go_sem, hρ.const, h42, h45]) rfl
      · -- 22: slot 47 := Op.pick t39 t46 (const (Value.bool false))
        refine StepOK.plain (kn_stable _) rfl fun ρ w hρ hw hf => ?_
        have h39 : ρ (.tmp 39) = (.bool true) := (hf 39).1 rfl
        have h46 : ρ (.tmp 46) = (.bool true) := (hf 46).1 rfl
        exact Exec.kpickT rfl rfl h39 h46
      · -- 23: slot 48 := Op.move t47
        refine StepOK.plain (kn_stable _) rfl fun ρ w hρ hw hf => ?_
        have h47 : ρ (.tmp 47) = (.bool true) := (hf 47).1 rfl
        exact Exec.kmove rfl rfl h47
      · -- 24: slot 49 := Op.fieldAddr 31 t7 1
        refine StepOK.guarded (kn_stable _) 23 true 48 rfl rfl (fun ρ w _ _ hf => (hf 48).1 rfl) fun ρ w hρ hw hf => ?_
        have h7 : ρ (.tmp 7) = (.pointer (some ⟨g7, 0, none⟩)) := (hf 7).2 rfl rfl
        exact Exec.kfield rfl rfl h7 (fieldPC_1 w g7) rfl
      · -- 25: slot 50 := Op.load 29 t49
        refine StepOK.guarded (kn_stable _) 23 true 48 rfl rfl (fun ρ w _ _ hf => (hf 48).1 rfl) fun ρ w hρ hw hf => ?_
        have h49 : ρ (.tmp 49) = (.pointer (some ⟨g7, 1, none⟩)) := (hf 49).1 rfl
        exact Exec.kloadmid rfl rfl h49 (G7.out.ext hw).value rfl
      · -- 26: slot 51 := Op.call { value (Operand.func 19), args := #[t50], argTypes := #[29] }
        refine StepOK.guarded (kn_stable _) 23 true 48 rfl rfl (fun ρ w _ _ hf => (hf 48).1 rfl) fun ρ w hρ hw hf => ?_
        have h50 : ρ (.tmp 50) = (pv a.v) := (hf 50).1 rfl
        refine Exec.kcall #[pv a.v] hρ rfl rfl (by simp [hρ.const, h50]) Try.func19 (by rfl) rfl ?_
        refine (cof_any a.v w).mono ?_
        rintro e w' ⟨rfl, hx⟩
        exact ⟨_, rfl, rfl, hx⟩
      · -- 27: slot 52 := Op.call { value (Operand.func 18), args := #[t51], argTypes := #[31] }
        refine StepOK.guarded (kn_stable _) 23 true 48 rfl rfl (fun ρ w _ _ hf => (hf 48).1 rfl) fun ρ w hρ hw hf => ?_
        have h51 : ρ (.tmp 51) = (pc ⟨2, a.v⟩) := (hf 51).1 rfl
        refine Exec.kcall #[pc ⟨2, a.v⟩] hρ rfl rfl (by simp [hρ.const, h51]) Try.func18 (by rfl) rfl ?_
        refine (back7_any ⟨2, a.v⟩ w).mono ?_
        rintro e w' ⟨rfl, hx⟩
        exact ⟨_, rfl, rfl, hx⟩
      · -- 28: slot 53 := Op.fieldAddr 26 t3 1
        refine StepOK.guarded (kn_stable _) 23 true 48 rfl rfl (fun ρ w _ _ hf => (hf 48).1 rfl) fun ρ w hρ hw hf => ?_
        have h3 : ρ (.tmp 3) = (.pointer (some ⟨g0, 0, none⟩)) := (hf 3).2 rfl rfl
        exact Exec.kfield rfl rfl h3 (fieldRC_1 w g0) rfl
      · -- 29: slot 54 := Op.load 24 t53
        refine StepOK.guarded (kn_stable _) 23 true 48 rfl rfl (fun ρ w _ _ hf => (hf 48).1 rfl) fun ρ w hρ hw hf => ?_
        have h53 : ρ (.tmp 53) = (.pointer (some ⟨g0, 1, none⟩)) := (hf 53).1 rfl
        exact Exec.kloadmid rfl rfl h53 (GA.out.ext hw).value rfl
      · -- 30: slot 55 := Op.build 26 #[(0, const (2:u8)), (1, t54)]
        refine StepOK.guarded (kn_stable _) 23 true 48 rfl rfl (fun ρ w _ _ hf => (hf 48).1 rfl) fun ρ w hρ hw hf => ?_
        have h54 : ρ (.tmp 54) = (rv a.v) := (hf 54).1 rfl
        exact Exec.kbuild2 rfl rfl (hρ.const _) h54 (buildRC' w ⟨2, a.v⟩) rfl
      · -- 31: slot 56 := Op.binOp BinOp.eql 26 t52 t55 26
        refine StepOK.guarded (kn_stable _) 23 true 48 rfl rfl (fun ρ w _ _ hf => (hf 48).1 rfl) fun ρ w hρ hw hf => ?_
        have h52 : ρ (.tmp 52) = (rc ⟨2, a.v⟩) := (hf 52).1 rfl
        have h55 : ρ (.tmp 55) = (rc ⟨2, a.v⟩) := (hf 55).1 rfl
        exact Exec.krceq rfl rfl h52 h55 (by rw [decide_eq_true rfl]; exact rfl)
      · -- 32: slot 57 := Op.pick t48 t56 (const (Value.bool false))
        refine StepOK.plain (kn_stable _) rfl fun ρ w hρ hw hf => ?_
        have h48 : ρ (.tmp 48) = (.bool true) := (hf 48).1 rfl
        have h56 : ρ (.tmp 56) = (.bool true) := (hf 56).1 rfl
        exact Exec.kpickT rfl rfl h48 h56
      · -- 33: slot 58 := Op.move t57
        refine StepOK.plain (kn_stable _) rfl fun ρ w hρ hw hf => ?_
        have h57 : ρ (.tmp 57) = (.bool true) := (hf 57).1 rfl
        exact Exec.kmove rfl rfl h57
      · -- 34: slot 59 := Op.call { value (Operand.func 20), args := #[], argTypes := #[] }
        refine StepOK.guarded (kn_stable _) 33 true 58 rfl rfl (fun ρ w _ _ hf => (hf 58).1 rfl) fun ρ w hρ hw hf => ?_
        refine Exec.kcall #[] hρ rfl rfl (by simp) Try.func20 (by rfl) rfl ?_
        refine (awake7_any w).mono ?_
        rintro e w' ⟨rfl, hx⟩
        exact ⟨_, rfl, rfl, hx⟩
      · -- 35: slot 60 := Op.pick t58 t59 (const (Value.bool false))
        refine StepOK.plain (kn_stable _) rfl fun ρ w hρ hw hf => ?_
        have h58 : ρ (.tmp 58) = (.bool true) := (hf 58).1 rfl
        have h59 : ρ (.tmp 59) = (.bool true) := (hf 59).1 rfl
        exact Exec.kpickT rfl rfl h58 h59
      · -- 36: slot 6 := Op.assign t60
        refine StepOK.plain (kn_stable _) rfl fun ρ w hρ hw hf => ?_
        have h60 : ρ (.tmp 60) = (.bool true) := (hf 60).1 rfl
        exact Exec.kassign rfl rfl h60
    case fin =>
      intro ν w8 hfin hext
      have h0 : ν 6 = .bool true := hfin 36 6 rfl
      simp only [Exit.then, ended, List.foldl_cons, List.foldl_nil, List.setIfInBounds_toArray, List.set_cons_succ, List.set_cons_zero, h0]
      have HX8 := Lib.hid (HX2.out.trans hext); clear hext hfin h0
      go_wp2
      go_ret
      exact ⟨rfl, HX8.out⟩

end Go.Proofs.Yteechmgcjfnjbaa
