/-
  ValueSame: the walk.
-/
import Derived.Test.YtoggnmfjkbnopaaLibE
import Derived.Test.YtoggnmfjkbnopaaValH
import Derived.Test.YtoggnmfjkbnopaaAwake6
namespace Go.Proofs.Ytoggnmfjkbnopaa
open Go.RowKit Go.Lac

def same4T_11 (a b c : Val) : Tmp → Kn
  | 33 => .is (pv a)
  | 34 => .is (pv a)
  | 35 => .is (.bool true)
  | 36 => .is (.bool false)
  | 37 => .is (.bool false)
  | 38 => .is (pv a)
  | 39 => .is (pv b)
  | 40 => .is (.bool true)
  | 41 => .is (pv b)
  | 42 => .is (pv a)
  | 43 => .is (.bool true)
  | 44 => .is (.bool false)
  | 45 => .is (.bool false)
  | 46 => .is (.bool false)
  | 47 => .is (pv a)
  | 48 => .is (pv b)
  | 49 => .is (.bool true)
  | 50 => .is (.bool true)
  | 51 => .is (pv b)
  | 52 => .is (pv c)
  | 53 => .is (.bool true)
  | 54 => .is (.bool true)
  | 55 => .is (.bool true)
  | 56 => .is (pv a)
  | 57 => .is (pv c)
  | 58 => .is (.bool true)
  | 59 => .is (.bool false)
  | 60 => .is (.bool false)
  | 61 => .is (.bool false)
  | _ => .any

def same4T_10 (a b c : Val) : Tmp → Kn
  | 33 => .is (pv a)
  | 34 => .is (pv a)
  | 35 => .is (.bool true)
  | 36 => .is (.bool false)
  | 37 => .is (.bool false)
  | 38 => .is (pv a)
  | 39 => .is (pv b)
  | 40 => .is (.bool true)
  | 41 => .is (pv b)
  | 42 => .is (pv a)
  | 43 => .is (.bool true)
  | 44 => .is (.bool false)
  | 45 => .is (.bool false)
  | 46 => .is (.bool false)
  | 47 => .is (pv a)
  | 48 => .is (pv b)
  | 49 => .is (.bool true)
  | 50 => .is (.bool true)
  | 51 => .is (pv b)
  | 52 => .is (pv c)
  | 53 => .is (.bool false)
  | 54 => .is (.bool false)
  | 55 => .is (.bool false)
  | 56 => .is undef
  | 57 => .is undef
  | 58 => .is undef
  | 59 => .is undef
  | 60 => .is (.bool false)
  | 61 => .is (.bool false)
  | _ => .any

def same4T_00 (a b c : Val) : Tmp → Kn
  | 33 => .is (pv a)
  | 34 => .is (pv a)
  | 35 => .is (.bool true)
  | 36 => .is (.bool false)
  | 37 => .is (.bool false)
  | 38 => .is (pv a)
  | 39 => .is (pv b)
  | 40 => .is (.bool false)
  | 41 => .is (pv b)
  | 42 => .is (pv a)
  | 43 => .is (.bool false)
  | 44 => .is (.bool false)
  | 45 => .is (.bool false)
  | 46 => .is (.bool false)
  | 47 => .is (pv a)
  | 48 => .is (pv b)
  | 49 => .is (.bool false)
  | 50 => .is (.bool false)
  | 51 => .is undef
  | 52 => .is undef
  | 53 => .is undef
  | 54 => .is (.bool false)
  | 55 => .is (.bool false)
  | 56 => .is undef
  | 57 => .is undef
  | 58 => .is undef
  | 59 => .is undef
  | 60 => .is (.bool false)
  | 61 => .is (.bool false)
  | _ => .any

def same7T (mn zf : Val) : Tmp → Kn
  | 6 => .is (.bool true)
  | 63 => .is (rv mn)
  | 64 => .is (pv mn)
  | 65 => .is (pv zf)
  | 66 => .is (.bool false)
  | 67 => .is (.bool true)
  | 68 => .is (.bool true)
  | 69 => .is (rv mn)
  | 70 => .is (pv mn)
  | 71 => .is (rv mn)
  | 72 => .is (pv mn)
  | 73 => .is (.bool true)
  | 74 => .is (.bool true)
  | 75 => .is (.bool true)
  | 76 => .is (.bool true)
  | 77 => .is (.bool true)
  | _ => .any

theorem heap_of_ext' {w w' : World} {g : Nat} {o : Obj} (k : Ext w w') (h : w.heap[g]? = some o) : w'.heap[g]? = some o := by
  rw [k.block g (Array.getElem?_eq_some_iff.1 h).1 (fun f => f)]; exact h
/-- What is known while the three are laid down. -/
def sameV (B : Nat) (a b c : Val) (L : Nat → Bool) (d : Tmp) (v : Value) (w : World) : Prop :=
  match d with
  | 27 => v = rv a
  | 29 => v = rv b
  | 31 => v = rv c
  | 28 => v = pv a
  | 30 => v = pv b
  | 32 => v = pv c
  | 7 => ∃ g, v = .pointer (some ⟨g, 0, none⟩) ∧ B ≤ g ∧ w.heap[g]? = some (.cells (if L 9 then pvals a else #[.int .u8 0, .int .i64 0, .complex .f64 0 0, .string ⟨#[]⟩]) 61 (0, 0))
  | 8 => ∃ g, v = .pointer (some ⟨g, 0, none⟩) ∧ B ≤ g ∧ w.heap[g]? = some (.cells (if L 10 then pvals b else #[.int .u8 0, .int .i64 0, .complex .f64 0 0, .string ⟨#[]⟩]) 61 (0, 0))
  | 9 => ∃ g, v = .pointer (some ⟨g, 0, none⟩) ∧ B ≤ g ∧ w.heap[g]? = some (.cells (if L 11 then pvals c else #[.int .u8 0, .int .i64 0, .complex .f64 0 0, .string ⟨#[]⟩]) 61 (0, 0))
  | _ => True
theorem sameV_ext {B : Nat} {a b c : Val} {L L' : Nat → Bool} {w w' : World} (h9 : L' 9 = L 9) (h10 : L' 10 = L 10) (h11 : L' 11 = L 11) (k : Ext w w') {d : Tmp} {v : Value} (h : sameV B a b c L d v w) : sameV B a b c L' d v w' := by
  unfold sameV at *
  split at h <;> first | exact h | (obtain ⟨g, e1, e2, e3⟩ := h; exact ⟨g, e1, e2, by first | (rw [h9]; exact heap_of_ext' k e3) | (rw [h10]; exact heap_of_ext' k e3) | (rw [h11]; exact heap_of_ext' k e3)⟩) | trivial
theorem sameV_set {B : Nat} {a b c : Val} {L L' : Nat → Bool} {w : World} {g : Nat} {cs : Array Value} {d n : Tmp} {v : Value} (h9 : n ≠ 7 → L' 9 = L 9) (h10 : n ≠ 8 → L' 10 = L 10) (h11 : n ≠ 9 → L' 11 = L 11)
    (h : sameV B a b c L d v w) (hg : v = .pointer (some ⟨g, 0, none⟩) → d ≠ 7 ∧ d ≠ 8 ∧ d ≠ 9) (hd : d ≠ n) : sameV B a b c L' d v (w.setRow g cs) := by
  unfold sameV at *
  split at h
  · exact h
  · exact h
  · exact h
  · exact h
  · exact h
  · exact h
  · obtain ⟨g', e1, e2, e3⟩ := h
    have hne : g' ≠ g := fun e => (hg (by rw [e1, e])).1 rfl
    exact ⟨g', e1, e2, by rw [h9 (fun e => hd e.symm), setRow_other _ _ _ _ hne]; exact e3⟩
  · obtain ⟨g', e1, e2, e3⟩ := h
    have hne : g' ≠ g := fun e => (hg (by rw [e1, e])).2.1 rfl
    exact ⟨g', e1, e2, by rw [h10 (fun e => hd e.symm), setRow_other _ _ _ _ hne]; exact e3⟩
  · obtain ⟨g', e1, e2, e3⟩ := h
    have hne : g' ≠ g := fun e => (hg (by rw [e1, e])).2.2 rfl
    exact ⟨g', e1, e2, by rw [h11 (fun e => hd e.symm), setRow_other _ _ _ _ hne]; exact e3⟩
  · trivial
def sameS (w0 : World) (L : Nat → Bool) (x : Act) (w : World) : Prop :=
  Ext w0 w ∧ (L 6 = true → L 7 = true → x.tmps.getD 7 undef ≠ x.tmps.getD 8 undef) ∧ (L 6 = true → L 8 = true → x.tmps.getD 7 undef ≠ x.tmps.getD 9 undef) ∧ (L 7 = true → L 8 = true → x.tmps.getD 8 undef ≠ x.tmps.getD 9 undef)
theorem put_other {x : Act} {d t : Nat} {v : Value} (h : d ≠ t) : ((x.put (some d) v).tmps).getD t undef = x.tmps.getD t undef := by
  simp [Act.put, Array.getD_eq_getD_getElem?, Array.getElem?_setIfInBounds_ne h]
theorem put_same {x : Act} {d : Nat} {v : Value} (h : d < x.tmps.size) : ((x.put (some d) v).tmps).getD d undef = v := by
  simp [Act.put, Array.getD, h]
theorem build61_1 (w : World) : (Instr.build 61 #[(0, .int .u8 3)]).run Try.prog w = .ok (.agg #[.int .u8 3, .int .i64 0, .complex .f64 0 0, .string ⟨#[]⟩]) w := by kernel_rfl
theorem alloc61 (w : World) : True := trivial
theorem put_none {x : Act} {v : Value} : x.put none v = x := rfl

set_option maxRecDepth 20000 in
set_option maxHeartbeats 4000000 in
theorem valueSame_walk (a b c : Val) (w : World) :
    Calls Try.prog 13 #[rv a, rv b, rv c] w fun e w' => e = .returned (.bool true) ∧ Ext w w' := by
  obtain ⟨W1, hW1⟩ : ∃ W1, W1 = ((w.alloc (.cells (rvals a) 54)).alloc (.cells (rvals b) 54)).alloc (.cells (rvals c) 54) := ⟨_, rfl⟩
  obtain ⟨ga, gb, gc⟩ := heap_alloc3 w (.cells (rvals a) 54) (.cells (rvals b) 54) (.cells (rvals c) 54)
  rw [← hW1] at ga gb gc
  have hx1 : Ext w W1 := by rw [hW1]; exact (((Ch.refl _ _).alloc _).alloc _).alloc _
  have GA := Lib.hid ga; have GB := Lib.hid gb; have GC := Lib.hid gc; have HX1 := Lib.hid hx1; have HW1 := Lib.hid hW1
  have hsa : (⟨a.t.toArray⟩ : ByteArray).size = a.t.length := by simp [ByteArray.size]
  have hsb : (⟨b.t.toArray⟩ : ByteArray).size = b.t.length := by simp [ByteArray.size]
  have hsc : (⟨c.t.toArray⟩ : ByteArray).size = c.t.length := by simp [ByteArray.size]
  have ca : W1.cell? ⟨w.heap.size, 4, none⟩ = some (.string ⟨a.t.toArray⟩) := by rw [cell_of_row _ _ _ _ _ _ ga]; rfl
  have cb : W1.cell? ⟨w.heap.size + 1, 4, none⟩ = some (.string ⟨b.t.toArray⟩) := by rw [cell_of_row _ _ _ _ _ _ gb]; rfl
  have cc : W1.cell? ⟨w.heap.size + 1 + 1, 4, none⟩ = some (.string ⟨c.t.toArray⟩) := by rw [cell_of_row _ _ _ _ _ _ gc]; rfl
  have hia : rv a = .agg (rvals a) := rfl
  have hib : rv b = .agg (rvals b) := rfl
  have hic : rv c = .agg (rvals c) := rfl
  rw [hia, hib, hic]
  rw [hW1] at ca cb cc
  generalize (⟨a.t.toArray⟩ : ByteArray) = AS at *
  generalize (⟨b.t.toArray⟩ : ByteArray) = BS at *
  generalize (⟨c.t.toArray⟩ : ByteArray) = CS at *
  generalize a.t.length = na at *
  generalize b.t.length = nb at *
  generalize c.t.length = nc at *
  clear hia hib hic ga gb gc hx1 hW1
  by_cases h1 : 3000 < na
  · go_enter Try.func13, Try.ntmps13
    go_wp2
    go_ret
    rw [← HW1.out]
    exact ⟨rfl, HX1.out⟩
  by_cases h2 : 3000 < nb
  · go_enter Try.func13, Try.ntmps13
    go_wp2
    go_ret
    rw [← HW1.out]
    exact ⟨rfl, HX1.out⟩
  by_cases h3 : 3000 < nc
  · go_enter Try.func13, Try.ntmps13
    go_wp2
    go_ret
    rw [← HW1.out]
    exact ⟨rfl, HX1.out⟩
  have h1' : na ≤ 3000 := by omega
  have h2' : nb ≤ 3000 := by omega
  have h3' : nc ≤ 3000 := by omega
  clear h1 h2 h3
  go_enter Try.func13, Try.ntmps13
  go_wp2
  rw [← HW1.out]
  clear HW1 ca cb cc hsa hsb hsc h1' h2' h3'
  generalize hg0 : w.heap.size = g0 at *
  refine wp_region_act (sameV W1.heap.size a b c) (sameS W1) mixedV (by rfl) (by rfl) ⟨Ch.drew (Ch.refl _ _), by simp, by simp, by simp⟩ ?all ?fin
  case all =>
    refine ⟨?_, ?_, ?_, ?_, ?_, ?_, ?_, ?_, ?_, ?_, ?_, ?_, trivial⟩
    · intro x w L hsz hS hi hd hf hval hcl
      refine ⟨fun _ => ?_, fun hn => by simp [wantedBy] at hn⟩
      have h3 : x.eval (.tmp 3) = .pointer (some ⟨g0, 0, none⟩) := (hf 3).2 rfl rfl
      have hg := heap_of_ext' hS.1 GA.out
      refine (Exec.kloadrow (T := fun _ => .is (rv a)) (d := 27) rfl rfl h3 hg Try.underlying54 rfl (infoR _) rfl).mono ?_
      rintro u w' ⟨k1, hx⟩
      exact ⟨fun d hd => by cases hd; exact k1 27 rfl, fun j p d hj hL hd => sameV_ext (by simp) (by simp) (by simp) hx (hval j p hj hL d hd), ⟨hS.1.trans hx, fun l1 l2 => by rw [put_other (by decide), put_other (by decide)]; exact hS.2.1 (by simpa using l1) (by simpa using l2), fun l1 l2 => by rw [put_other (by decide), put_other (by decide)]; exact hS.2.2.1 (by simpa using l1) (by simpa using l2), fun l1 l2 => by rw [put_other (by decide), put_other (by decide)]; exact hS.2.2.2 (by simpa using l1) (by simpa using l2)⟩⟩
    · intro x w L hsz hS hi hd hf hval hcl
      refine ⟨fun _ => ?_, fun hn => by simp [wantedBy] at hn⟩
      have h27 : x.eval (.tmp 27) = rv a := (hf 27).1 rfl
      refine (Exec.kcall (T := fun _ => .is (pv a)) (d := 28) #[rv a] (env_eval x) rfl rfl (by simp [h27]) Try.func27 (by rfl) (by rfl) ((lawOwn_any a w).mono (by rintro e w' ⟨rfl, hx⟩; exact ⟨_, rfl, rfl, hx⟩))).mono ?_
      rintro u w' ⟨k1, hx⟩
      exact ⟨fun d hd => by cases hd; exact k1 28 rfl, fun j p d hj hL hd => sameV_ext (by simp) (by simp) (by simp) hx (hval j p hj hL d hd), ⟨hS.1.trans hx, fun l1 l2 => by rw [put_other (by decide), put_other (by decide)]; exact hS.2.1 (by simpa using l1) (by simpa using l2), fun l1 l2 => by rw [put_other (by decide), put_other (by decide)]; exact hS.2.2.1 (by simpa using l1) (by simpa using l2), fun l1 l2 => by rw [put_other (by decide), put_other (by decide)]; exact hS.2.2.2 (by simpa using l1) (by simpa using l2)⟩⟩
    · intro x w L hsz hS hi hd hf hval hcl
      refine ⟨fun _ => ?_, fun hn => by simp [wantedBy] at hn⟩
      have h4 : x.eval (.tmp 4) = .pointer (some ⟨(g0 + 1), 0, none⟩) := (hf 4).2 rfl rfl
      have hg := heap_of_ext' hS.1 GB.out
      refine (Exec.kloadrow (T := fun _ => .is (rv b)) (d := 29) rfl rfl h4 hg Try.underlying54 rfl (infoR _) rfl).mono ?_
      rintro u w' ⟨k1, hx⟩
      exact ⟨fun d hd => by cases hd; exact k1 29 rfl, fun j p d hj hL hd => sameV_ext (by simp) (by simp) (by simp) hx (hval j p hj hL d hd), ⟨hS.1.trans hx, fun l1 l2 => by rw [put_other (by decide), put_other (by decide)]; exact hS.2.1 (by simpa using l1) (by simpa using l2), fun l1 l2 => by rw [put_other (by decide), put_other (by decide)]; exact hS.2.2.1 (by simpa using l1) (by simpa using l2), fun l1 l2 => by rw [put_other (by decide), put_other (by decide)]; exact hS.2.2.2 (by simpa using l1) (by simpa using l2)⟩⟩
    · intro x w L hsz hS hi hd hf hval hcl
      refine ⟨fun _ => ?_, fun hn => by simp [wantedBy] at hn⟩
      have h29 : x.eval (.tmp 29) = rv b := (hf 29).1 rfl
      refine (Exec.kcall (T := fun _ => .is (pv b)) (d := 30) #[rv b] (env_eval x) rfl rfl (by simp [h29]) Try.func27 (by rfl) (by rfl) ((lawOwn_any b w).mono (by rintro e w' ⟨rfl, hx⟩; exact ⟨_, rfl, rfl, hx⟩))).mono ?_
      rintro u w' ⟨k1, hx⟩
      exact ⟨fun d hd => by cases hd; exact k1 30 rfl, fun j p d hj hL hd => sameV_ext (by simp) (by simp) (by simp) hx (hval j p hj hL d hd), ⟨hS.1.trans hx, fun l1 l2 => by rw [put_other (by decide), put_other (by decide)]; exact hS.2.1 (by simpa using l1) (by simpa using l2), fun l1 l2 => by rw [put_other (by decide), put_other (by decide)]; exact hS.2.2.1 (by simpa using l1) (by simpa using l2), fun l1 l2 => by rw [put_other (by decide), put_other (by decide)]; exact hS.2.2.2 (by simpa using l1) (by simpa using l2)⟩⟩
    · intro x w L hsz hS hi hd hf hval hcl
      refine ⟨fun _ => ?_, fun hn => by simp [wantedBy] at hn⟩
      have h5 : x.eval (.tmp 5) = .pointer (some ⟨(g0 + 1 + 1), 0, none⟩) := (hf 5).2 rfl rfl
      have hg := heap_of_ext' hS.1 GC.out
      refine (Exec.kloadrow (T := fun _ => .is (rv c)) (d := 31) rfl rfl h5 hg Try.underlying54 rfl (infoR _) rfl).mono ?_
      rintro u w' ⟨k1, hx⟩
      exact ⟨fun d hd => by cases hd; exact k1 31 rfl, fun j p d hj hL hd => sameV_ext (by simp) (by simp) (by simp) hx (hval j p hj hL d hd), ⟨hS.1.trans hx, fun l1 l2 => by rw [put_other (by decide), put_other (by decide)]; exact hS.2.1 (by simpa using l1) (by simpa using l2), fun l1 l2 => by rw [put_other (by decide), put_other (by decide)]; exact hS.2.2.1 (by simpa using l1) (by simpa using l2), fun l1 l2 => by rw [put_other (by decide), put_other (by decide)]; exact hS.2.2.2 (by simpa using l1) (by simpa using l2)⟩⟩
    · intro x w L hsz hS hi hd hf hval hcl
      refine ⟨fun _ => ?_, fun hn => by simp [wantedBy] at hn⟩
      have h31 : x.eval (.tmp 31) = rv c := (hf 31).1 rfl
      refine (Exec.kcall (T := fun _ => .is (pv c)) (d := 32) #[rv c] (env_eval x) rfl rfl (by simp [h31]) Try.func27 (by rfl) (by rfl) ((lawOwn_any c w).mono (by rintro e w' ⟨rfl, hx⟩; exact ⟨_, rfl, rfl, hx⟩))).mono ?_
      rintro u w' ⟨k1, hx⟩
      exact ⟨fun d hd => by cases hd; exact k1 32 rfl, fun j p d hj hL hd => sameV_ext (by simp) (by simp) (by simp) hx (hval j p hj hL d hd), ⟨hS.1.trans hx, fun l1 l2 => by rw [put_other (by decide), put_other (by decide)]; exact hS.2.1 (by simpa using l1) (by simpa using l2), fun l1 l2 => by rw [put_other (by decide), put_other (by decide)]; exact hS.2.2.1 (by simpa using l1) (by simpa using l2), fun l1 l2 => by rw [put_other (by decide), put_other (by decide)]; exact hS.2.2.2 (by simpa using l1) (by simpa using l2)⟩⟩
    · intro x w L hsz hS hi hd hf hval hcl
      refine ⟨fun _ => ?_, fun hn => by simp [wantedBy] at hn⟩
      have h9 : L 9 = false := by
        rcases Bool.eq_false_or_eq_true (L 9) with h | h
        · have := hcl 9 _ rfl h 6 (by decide)
          rw [hi] at this; cases this
        · exact h
      have hnew : ∀ t, t ∈ [7, 8, 9] → L (t - 1) = true → x.tmps.getD t undef ≠ .pointer (some ⟨w.heap.size, 0, none⟩) := by
        intro t ht hL e
        simp only [List.mem_cons, List.not_mem_nil, or_false] at ht
        rcases ht with rfl | rfl | rfl
        · have hv := hval 6 _ rfl hL 7 rfl
          obtain ⟨g, e1, _, e3⟩ := hv
          rw [e] at e1; cases e1
          have := (Array.getElem?_eq_some_iff.1 e3).1; omega
        · have hv := hval 7 _ rfl hL 8 rfl
          obtain ⟨g, e1, _, e3⟩ := hv
          rw [e] at e1; cases e1
          have := (Array.getElem?_eq_some_iff.1 e3).1; omega
        · have hv := hval 8 _ rfl hL 9 rfl
          obtain ⟨g, e1, _, e3⟩ := hv
          rw [e] at e1; cases e1
          have := (Array.getElem?_eq_some_iff.1 e3).1; omega
      have hx : Ext w (w.alloc (.cells #[.int .u8 0, .int .i64 0, .complex .f64 0 0, .string ⟨#[]⟩] 61)) := (Ch.refl _ _).alloc _
      refine Exec.value (v := .pointer (some ⟨w.heap.size, 0, none⟩)) (w' := w.alloc (.cells #[.int .u8 0, .int .i64 0, .complex .f64 0 0, .string ⟨#[]⟩] 61)) (by unfold execOp; simp [go_sem, alloc61]) ⟨fun d hd => ?_, fun j p d hj hL hd => sameV_ext (by simp) (by simp) (by simp) hx (hval j p hj hL d hd), hS.1.trans hx, fun l1 l2 => by rw [put_same (by rw [hsz]; exact (by decide : 7 < 78)), put_other (by decide)]; exact fun e => hnew 8 (by decide) (by simpa using l2) e.symm, fun l1 l2 => by rw [put_same (by rw [hsz]; exact (by decide : 7 < 78)), put_other (by decide)]; exact fun e => hnew 9 (by decide) (by simpa using l2) e.symm, fun l1 l2 => by rw [put_other (by decide), put_other (by decide)]; exact hS.2.2.2 (by simpa using l1) (by simpa using l2)⟩
      cases hd
      refine ⟨w.heap.size, rfl, hS.1.size, ?_⟩
      simp only [h9]
      exact heap_alloc_new w _
    · intro x w L hsz hS hi hd hf hval hcl
      refine ⟨fun _ => ?_, fun hn => by simp [wantedBy] at hn⟩
      have h9 : L 10 = false := by
        rcases Bool.eq_false_or_eq_true (L 10) with h | h
        · have := hcl 10 _ rfl h 7 (by decide)
          rw [hi] at this; cases this
        · exact h
      have hnew : ∀ t, t ∈ [7, 8, 9] → L (t - 1) = true → x.tmps.getD t undef ≠ .pointer (some ⟨w.heap.size, 0, none⟩) := by
        intro t ht hL e
        simp only [List.mem_cons, List.not_mem_nil, or_false] at ht
        rcases ht with rfl | rfl | rfl
        · have hv := hval 6 _ rfl hL 7 rfl
          obtain ⟨g, e1, _, e3⟩ := hv
          rw [e] at e1; cases e1
          have := (Array.getElem?_eq_some_iff.1 e3).1; omega
        · have hv := hval 7 _ rfl hL 8 rfl
          obtain ⟨g, e1, _, e3⟩ := hv
          rw [e] at e1; cases e1
          have := (Array.getElem?_eq_some_iff.1 e3).1; omega
        · have hv := hval 8 _ rfl hL 9 rfl
          obtain ⟨g, e1, _, e3⟩ := hv
          rw [e] at e1; cases e1
          have := (Array.getElem?_eq_some_iff.1 e3).1; omega
      have hx : Ext w (w.alloc (.cells #[.int .u8 0, .int .i64 0, .complex .f64 0 0, .string ⟨#[]⟩] 61)) := (Ch.refl _ _).alloc _
      refine Exec.value (v := .pointer (some ⟨w.heap.size, 0, none⟩)) (w' := w.alloc (.cells #[.int .u8 0, .int .i64 0, .complex .f64 0 0, .string ⟨#[]⟩] 61)) (by unfold execOp; simp [go_sem, alloc61]) ⟨fun d hd => ?_, fun j p d hj hL hd => sameV_ext (by simp) (by simp) (by simp) hx (hval j p hj hL d hd), hS.1.trans hx, fun l1 l2 => by rw [put_same (by rw [hsz]; exact (by decide : 8 < 78)), put_other (by decide)]; exact fun e => hnew 7 (by decide) (by simpa using l1) e, fun l1 l2 => by rw [put_other (by decide), put_other (by decide)]; exact hS.2.2.1 (by simpa using l1) (by simpa using l2), fun l1 l2 => by rw [put_same (by rw [hsz]; exact (by decide : 8 < 78)), put_other (by decide)]; exact fun e => hnew 9 (by decide) (by simpa using l2) e.symm⟩
      cases hd
      refine ⟨w.heap.size, rfl, hS.1.size, ?_⟩
      simp only [h9]
      exact heap_alloc_new w _
    · intro x w L hsz hS hi hd hf hval hcl
      refine ⟨fun _ => ?_, fun hn => by simp [wantedBy] at hn⟩
      have h9 : L 11 = false := by
        rcases Bool.eq_false_or_eq_true (L 11) with h | h
        · have := hcl 11 _ rfl h 8 (by decide)
          rw [hi] at this; cases this
        · exact h
      have hnew : ∀ t, t ∈ [7, 8, 9] → L (t - 1) = true → x.tmps.getD t undef ≠ .pointer (some ⟨w.heap.size, 0, none⟩) := by
        intro t ht hL e
        simp only [List.mem_cons, List.not_mem_nil, or_false] at ht
        rcases ht with rfl | rfl | rfl
        · have hv := hval 6 _ rfl hL 7 rfl
          obtain ⟨g, e1, _, e3⟩ := hv
          rw [e] at e1; cases e1
          have := (Array.getElem?_eq_some_iff.1 e3).1; omega
        · have hv := hval 7 _ rfl hL 8 rfl
          obtain ⟨g, e1, _, e3⟩ := hv
          rw [e] at e1; cases e1
          have := (Array.getElem?_eq_some_iff.1 e3).1; omega
        · have hv := hval 8 _ rfl hL 9 rfl
          obtain ⟨g, e1, _, e3⟩ := hv
          rw [e] at e1; cases e1
          have := (Array.getElem?_eq_some_iff.1 e3).1; omega
      have hx : Ext w (w.alloc (.cells #[.int .u8 0, .int .i64 0, .complex .f64 0 0, .string ⟨#[]⟩] 61)) := (Ch.refl _ _).alloc _
      refine Exec.value (v := .pointer (some ⟨w.heap.size, 0, none⟩)) (w' := w.alloc (.cells #[.int .u8 0, .int .i64 0, .complex .f64 0 0, .string ⟨#[]⟩] 61)) (by unfold execOp; simp [go_sem, alloc61]) ⟨fun d hd => ?_, fun j p d hj hL hd => sameV_ext (by simp) (by simp) (by simp) hx (hval j p hj hL d hd), hS.1.trans hx, fun l1 l2 => by rw [put_other (by decide), put_other (by decide)]; exact hS.2.1 (by simpa using l1) (by simpa using l2), fun l1 l2 => by rw [put_same (by rw [hsz]; exact (by decide : 9 < 78)), put_other (by decide)]; exact fun e => hnew 7 (by decide) (by simpa using l1) e, fun l1 l2 => by rw [put_same (by rw [hsz]; exact (by decide : 9 < 78)), put_other (by decide)]; exact fun e => hnew 8 (by decide) (by simpa using l1) e⟩
      cases hd
      refine ⟨w.heap.size, rfl, hS.1.size, ?_⟩
      simp only [h9]
      exact heap_alloc_new w _
    · intro x w L hsz hS hi hd hf hval hcl
      refine ⟨fun _ => ?_, fun hn => by simp [wantedBy] at hn⟩
      have hs : sameV W1.heap.size a b c L 7 (x.eval (.tmp 7)) w := (hf 7).1 rfl
      have hp : x.eval (.tmp 28) = pv a := (hf 28).1 rfl
      obtain ⟨g, e1, e2, e3⟩ := hs
      have d6 : L 6 = true := hd 6 (by decide)
      have d7 : L 7 = true := hd 7 (by decide)
      have d8 : L 8 = true := hd 8 (by decide)
      have hne := hS.2
      have e1' : x.tmps.getD 7 undef = .pointer (some ⟨g, 0, none⟩) := e1
      refine (Exec.kstorerow rfl e1 hp e3 (infoP _) (by split <;> rfl) (prow_one _ _ _ _ _)).mono ?_
      rintro _ w' rfl
      have hx : Ext W1 (w.setRow g (pvals a)) := hS.1.setRow (.inr e2) _
      refine ⟨(fun d hd => by cases hd), ?_, hx, fun _ _ => hne.1 d6 d7, fun _ _ => hne.2.1 d6 d8, fun _ _ => hne.2.2 d7 d8⟩
      intro j p d hj hL hd'
      have hv := hval j p hj hL d hd'
      have hdn : d = 7 ∨ d ≠ 7 := Classical.em _
      rcases hdn with rfl | hdn
      · rw [e1']
        exact ⟨g, rfl, e2, by simp only [beq_self_eq_true, Bool.true_or, if_true]; exact setRow_heap _ _ _ _ _ _ e3⟩
      · exact sameV_set (by simp) (by simp) (by simp) hv (by
          intro e
          have q1 := hne.1 d6 d7; have q2 := hne.2.1 d6 d8; have q3 := hne.2.2 d7 d8
          rw [← e1'] at e
          refine ⟨?_, ?_, ?_⟩ <;> intro hd9 <;> subst hd9 <;> first | exact hdn rfl | exact q1 e | exact q2 e | exact q3 e | exact q1 e.symm | exact q2 e.symm | exact q3 e.symm) hdn
    · intro x w L hsz hS hi hd hf hval hcl
      refine ⟨fun _ => ?_, fun hn => by simp [wantedBy] at hn⟩
      have hs : sameV W1.heap.size a b c L 8 (x.eval (.tmp 8)) w := (hf 8).1 rfl
      have hp : x.eval (.tmp 30) = pv b := (hf 30).1 rfl
      obtain ⟨g, e1, e2, e3⟩ := hs
      have d6 : L 6 = true := hd 6 (by decide)
      have d7 : L 7 = true := hd 7 (by decide)
      have d8 : L 8 = true := hd 8 (by decide)
      have hne := hS.2
      have e1' : x.tmps.getD 8 undef = .pointer (some ⟨g, 0, none⟩) := e1
      refine (Exec.kstorerow rfl e1 hp e3 (infoP _) (by split <;> rfl) (prow_one _ _ _ _ _)).mono ?_
      rintro _ w' rfl
      have hx : Ext W1 (w.setRow g (pvals b)) := hS.1.setRow (.inr e2) _
      refine ⟨(fun d hd => by cases hd), ?_, hx, fun _ _ => hne.1 d6 d7, fun _ _ => hne.2.1 d6 d8, fun _ _ => hne.2.2 d7 d8⟩
      intro j p d hj hL hd'
      have hv := hval j p hj hL d hd'
      have hdn : d = 8 ∨ d ≠ 8 := Classical.em _
      rcases hdn with rfl | hdn
      · rw [e1']
        exact ⟨g, rfl, e2, by simp only [beq_self_eq_true, Bool.true_or, if_true]; exact setRow_heap _ _ _ _ _ _ e3⟩
      · exact sameV_set (by simp) (by simp) (by simp) hv (by
          intro e
          have q1 := hne.1 d6 d7; have q2 := hne.2.1 d6 d8; have q3 := hne.2.2 d7 d8
          rw [← e1'] at e
          refine ⟨?_, ?_, ?_⟩ <;> intro hd9 <;> subst hd9 <;> first | exact hdn rfl | exact q1 e | exact q2 e | exact q3 e | exact q1 e.symm | exact q2 e.symm | exact q3 e.symm) hdn
    · intro x w L hsz hS hi hd hf hval hcl
      refine ⟨fun _ => ?_, fun hn => by simp [wantedBy] at hn⟩
      have hs : sameV W1.heap.size a b c L 9 (x.eval (.tmp 9)) w := (hf 9).1 rfl
      have hp : x.eval (.tmp 32) = pv c := (hf 32).1 rfl
      obtain ⟨g, e1, e2, e3⟩ := hs
      have d6 : L 6 = true := hd 6 (by decide)
      have d7 : L 7 = true := hd 7 (by decide)
      have d8 : L 8 = true := hd 8 (by decide)
      have hne := hS.2
      have e1' : x.tmps.getD 9 undef = .pointer (some ⟨g, 0, none⟩) := e1
      refine (Exec.kstorerow rfl e1 hp e3 (infoP _) (by split <;> rfl) (prow_one _ _ _ _ _)).mono ?_
      rintro _ w' rfl
      have hx : Ext W1 (w.setRow g (pvals c)) := hS.1.setRow (.inr e2) _
      refine ⟨(fun d hd => by cases hd), ?_, hx, fun _ _ => hne.1 d6 d7, fun _ _ => hne.2.1 d6 d8, fun _ _ => hne.2.2 d7 d8⟩
      intro j p d hj hL hd'
      have hv := hval j p hj hL d hd'
      have hdn : d = 9 ∨ d ≠ 9 := Classical.em _
      rcases hdn with rfl | hdn
      · rw [e1']
        exact ⟨g, rfl, e2, by simp only [beq_self_eq_true, Bool.true_or, if_true]; exact setRow_heap _ _ _ _ _ _ e3⟩
      · exact sameV_set (by simp) (by simp) (by simp) hv (by
          intro e
          have q1 := hne.1 d6 d7; have q2 := hne.2.1 d6 d8; have q3 := hne.2.2 d7 d8
          rw [← e1'] at e
          refine ⟨?_, ?_, ?_⟩ <;> intro hd9 <;> subst hd9 <;> first | exact hdn rfl | exact q1 e | exact q2 e | exact q3 e | exact q1 e.symm | exact q2 e.symm | exact q3 e.symm) hdn
  case fin =>
    intro ν w2 hV hS
    have q7 := hV _ (List.mem_of_getElem? (i := 6) rfl) 7 rfl
    have q8 := hV _ (List.mem_of_getElem? (i := 7) rfl) 8 rfl
    have q9 := hV _ (List.mem_of_getElem? (i := 8) rfl) 9 rfl
    obtain ⟨g7, e7, _, k7⟩ := q7
    obtain ⟨g8, e8, _, k8⟩ := q8
    obtain ⟨g9, e9, _, k9⟩ := q9
    simp only [Exit.then, ended, List.foldl_cons, List.foldl_nil, List.setIfInBounds_toArray, List.set_cons_succ, List.set_cons_zero, e7, e8, e9]
    have G7 : Hid (w2.heap[g7]? = some (.cells (pvals a) 61 (0, 0))) := Lib.hid k7
    have G8 : Hid (w2.heap[g8]? = some (.cells (pvals b) 61 (0, 0))) := Lib.hid k8
    have G9 : Hid (w2.heap[g9]? = some (.cells (pvals c) 61 (0, 0))) := Lib.hid k9
    have HX2 := Lib.hid (HX1.out.trans hS.1)
    clear hV hS e7 e8 e9 k7 k8 k9
    go_wp2
    have key : ∀ (w3 : World) (ν : Tmp → Value) (P : World → Prop), P w3 → P w3 := fun _ _ _ h => h
    clear key
    by_cases hab : a = b
    · have HAB := Lib.hid (decide_eq_true hab); have HBA := Lib.hid (decide_eq_true hab.symm)
      by_cases hbc : b = c
      · have HBC := Lib.hid (decide_eq_true hbc); have HAC := Lib.hid (decide_eq_true (hab.trans hbc))
        clear hab hbc
        refine wp_region_ext (same4T_11 a b c) mixedV (by rfl) (by rfl) ?all ?fin
        case all =>
          refine ⟨?_, ?_, ?_, ?_, ?_, ?_, ?_, ?_, ?_, ?_, ?_, ?_, ?_, ?_, ?_, ?_, ?_, ?_, ?_, ?_, ?_, ?_, ?_, ?_, ?_, ?_, ?_, ?_, ?_, trivial⟩
          · -- 0: slot 33 := Op.load 61 t7
            refine StepOK.plain (kn_stable _) rfl fun ρ w hρ hw hf => ?_
            have h7 : ρ (.tmp 7) = (.pointer (some ⟨g7, 0, none⟩)) := (hf 7).2 rfl rfl
            have hg := (hw.block g7 (Array.getElem?_eq_some_iff.1 G7.out).1 (fun f => f)).trans G7.out
            exact Exec.kloadrow rfl rfl h7 hg Try.underlying61 rfl (infoP _) rfl
          · -- 1: slot 34 := Op.load 61 t7
            refine StepOK.plain (kn_stable _) rfl fun ρ w hρ hw hf => ?_
            have h7 : ρ (.tmp 7) = (.pointer (some ⟨g7, 0, none⟩)) := (hf 7).2 rfl rfl
            have hg := (hw.block g7 (Array.getElem?_eq_some_iff.1 G7.out).1 (fun f => f)).trans G7.out
            exact Exec.kloadrow rfl rfl h7 hg Try.underlying61 rfl (infoP _) rfl
          · -- 2: slot 35 := Op.call { value (Operand.func 29), args := #[t33, t34], argTypes := #[
            refine StepOK.plain (kn_stable _) rfl fun ρ w hρ hw hf => ?_
            have h33 : ρ (.tmp 33) = (pv a) := (hf 33).1 rfl
            have h34 : ρ (.tmp 34) = (pv a) := (hf 34).1 rfl
            refine Exec.kcall #[pv a, pv a] hρ rfl rfl (by simp [hρ.const, h33, h34]) Try.func29 (by rfl) rfl ?_
            refine (same_any a a w).mono ?_
            rintro e w' ⟨rfl, hx⟩
            exact ⟨_, rfl, (by rw [decide_eq_true rfl]; exact rfl), hx⟩
          · -- 3: slot 36 := Op.unOp UnOp.not 4 t35
            refine StepOK.plain (kn_stable _) rfl fun ρ w hρ hw hf => ?_
            have h35 : ρ (.tmp 35) = (.bool true) := (hf 35).1 rfl
            exact Exec.same (v := .bool false) rfl (by simp [go_sem, hρ.const, h35]) rfl
          · -- 4: slot 37 := Op.move t36
            refine StepOK.plain (kn_stable _) rfl fun ρ w hρ hw hf => ?_
            have h36 : ρ (.tmp 36) = (.bool false) := (hf 36).1 rfl
            exact Exec.kmove rfl rfl h36
          · -- 5: slot 38 := Op.load 61 t7
            refine StepOK.guarded (kn_stable _) 4 false 37 rfl rfl (fun ρ w _ _ hf => (hf 37).1 rfl) fun ρ w hρ hw hf => ?_
            have h7 : ρ (.tmp 7) = (.pointer (some ⟨g7, 0, none⟩)) := (hf 7).2 rfl rfl
            have hg := (hw.block g7 (Array.getElem?_eq_some_iff.1 G7.out).1 (fun f => f)).trans G7.out
            exact Exec.kloadrow rfl rfl h7 hg Try.underlying61 rfl (infoP _) rfl
          · -- 6: slot 39 := Op.load 61 t8
            refine StepOK.guarded (kn_stable _) 4 false 37 rfl rfl (fun ρ w _ _ hf => (hf 37).1 rfl) fun ρ w hρ hw hf => ?_
            have h8 : ρ (.tmp 8) = (.pointer (some ⟨g8, 0, none⟩)) := (hf 8).2 rfl rfl
            have hg := (hw.block g8 (Array.getElem?_eq_some_iff.1 G8.out).1 (fun f => f)).trans G8.out
            exact Exec.kloadrow rfl rfl h8 hg Try.underlying61 rfl (infoP _) rfl
          · -- 7: slot 40 := Op.call { value (Operand.func 29), args := #[t38, t39], argTypes := #[
            refine StepOK.guarded (kn_stable _) 4 false 37 rfl rfl (fun ρ w _ _ hf => (hf 37).1 rfl) fun ρ w hρ hw hf => ?_
            have h38 : ρ (.tmp 38) = (pv a) := (hf 38).1 rfl
            have h39 : ρ (.tmp 39) = (pv b) := (hf 39).1 rfl
            refine Exec.kcall #[pv a, pv b] hρ rfl rfl (by simp [hρ.const, h38, h39]) Try.func29 (by rfl) rfl ?_
            refine (same_any a b w).mono ?_
            rintro e w' ⟨rfl, hx⟩
            exact ⟨_, rfl, (by rw [HAB.out]; exact rfl), hx⟩
          · -- 8: slot 41 := Op.load 61 t8
            refine StepOK.guarded (kn_stable _) 4 false 37 rfl rfl (fun ρ w _ _ hf => (hf 37).1 rfl) fun ρ w hρ hw hf => ?_
            have h8 : ρ (.tmp 8) = (.pointer (some ⟨g8, 0, none⟩)) := (hf 8).2 rfl rfl
            have hg := (hw.block g8 (Array.getElem?_eq_some_iff.1 G8.out).1 (fun f => f)).trans G8.out
            exact Exec.kloadrow rfl rfl h8 hg Try.underlying61 rfl (infoP _) rfl
          · -- 9: slot 42 := Op.load 61 t7
            refine StepOK.guarded (kn_stable _) 4 false 37 rfl rfl (fun ρ w _ _ hf => (hf 37).1 rfl) fun ρ w hρ hw hf => ?_
            have h7 : ρ (.tmp 7) = (.pointer (some ⟨g7, 0, none⟩)) := (hf 7).2 rfl rfl
            have hg := (hw.block g7 (Array.getElem?_eq_some_iff.1 G7.out).1 (fun f => f)).trans G7.out
            exact Exec.kloadrow rfl rfl h7 hg Try.underlying61 rfl (infoP _) rfl
          · -- 10: slot 43 := Op.call { value (Operand.func 29), args := #[t41, t42], argTypes := #[
            refine StepOK.guarded (kn_stable _) 4 false 37 rfl rfl (fun ρ w _ _ hf => (hf 37).1 rfl) fun ρ w hρ hw hf => ?_
            have h41 : ρ (.tmp 41) = (pv b) := (hf 41).1 rfl
            have h42 : ρ (.tmp 42) = (pv a) := (hf 42).1 rfl
            refine Exec.kcall #[pv b, pv a] hρ rfl rfl (by simp [hρ.const, h41, h42]) Try.func29 (by rfl) rfl ?_
            refine (same_any b a w).mono ?_
            rintro e w' ⟨rfl, hx⟩
            exact ⟨_, rfl, (by rw [HBA.out]; exact rfl), hx⟩
          · -- 11: slot 44 := Op.binOp BinOp.neq 4 t40 t43 4
            refine StepOK.guarded (kn_stable _) 4 false 37 rfl rfl (fun ρ w _ _ hf => (hf 37).1 rfl) fun ρ w hρ hw hf => ?_
            have h40 : ρ (.tmp 40) = (.bool true) := (hf 40).1 rfl
            have h43 : ρ (.tmp 43) = (.bool true) := (hf 43).1 rfl
            exact Exec.same (v := .bool false) rfl (by simp [go_sem, hρ.const, h40, h43]) rfl
          · -- 12: slot 45 := Op.pick t37 (const (Value.bool true)) t44
            refine StepOK.plain (kn_stable _) rfl fun ρ w hρ hw hf => ?_
            have h37 : ρ (.tmp 37) = (.bool false) := (hf 37).1 rfl
            have h44 : ρ (.tmp 44) = (.bool false) := (hf 44).1 rfl
            exact Exec.kpickF rfl rfl h37 h44
          · -- 13: slot 46 := Op.move t45
            refine StepOK.plain (kn_stable _) rfl fun ρ w hρ hw hf => ?_
            have h45 : ρ (.tmp 45) = (.bool false) := (hf 45).1 rfl
            exact Exec.kmove rfl rfl h45
          · -- 14: slot 47 := Op.load 61 t7
            refine StepOK.guarded (kn_stable _) 13 false 46 rfl rfl (fun ρ w _ _ hf => (hf 46).1 rfl) fun ρ w hρ hw hf => ?_
            have h7 : ρ (.tmp 7) = (.pointer (some ⟨g7, 0, none⟩)) := (hf 7).2 rfl rfl
            have hg := (hw.block g7 (Array.getElem?_eq_some_iff.1 G7.out).1 (fun f => f)).trans G7.out
            exact Exec.kloadrow rfl rfl h7 hg Try.underlying61 rfl (infoP _) rfl
          · -- 15: slot 48 := Op.load 61 t8
            refine StepOK.guarded (kn_stable _) 13 false 46 rfl rfl (fun ρ w _ _ hf => (hf 46).1 rfl) fun ρ w hρ hw hf => ?_
            have h8 : ρ (.tmp 8) = (.pointer (some ⟨g8, 0, none⟩)) := (hf 8).2 rfl rfl
            have hg := (hw.block g8 (Array.getElem?_eq_some_iff.1 G8.out).1 (fun f => f)).trans G8.out
            exact Exec.kloadrow rfl rfl h8 hg Try.underlying61 rfl (infoP _) rfl
          · -- 16: slot 49 := Op.call { value (Operand.func 29), args := #[t47, t48], argTypes := #[
            refine StepOK.guarded (kn_stable _) 13 false 46 rfl rfl (fun ρ w _ _ hf => (hf 46).1 rfl) fun ρ w hρ hw hf => ?_
            have h47 : ρ (.tmp 47) = (pv a) := (hf 47).1 rfl
            have h48 : ρ (.tmp 48) = (pv b) := (hf 48).1 rfl
            refine Exec.kcall #[pv a, pv b] hρ rfl rfl (by simp [hρ.const, h47, h48]) Try.func29 (by rfl) rfl ?_
            refine (same_any a b w).mono ?_
            rintro e w' ⟨rfl, hx⟩
            exact ⟨_, rfl, (by rw [HAB.out]; exact rfl), hx⟩
          · -- 17: slot 50 := Op.move t49
            refine StepOK.guarded (kn_stable _) 13 false 46 rfl rfl (fun ρ w _ _ hf => (hf 46).1 rfl) fun ρ w hρ hw hf => ?_
            have h49 : ρ (.tmp 49) = (.bool true) := (hf 49).1 rfl
            exact Exec.kmove rfl rfl h49
          · -- 18: slot 51 := Op.load 61 t8
            refine StepOK.guarded (kn_stable _) 17 true 50 rfl rfl (fun ρ w _ _ hf => (hf 50).1 rfl) fun ρ w hρ hw hf => ?_
            have h8 : ρ (.tmp 8) = (.pointer (some ⟨g8, 0, none⟩)) := (hf 8).2 rfl rfl
            have hg := (hw.block g8 (Array.getElem?_eq_some_iff.1 G8.out).1 (fun f => f)).trans G8.out
            exact Exec.kloadrow rfl rfl h8 hg Try.underlying61 rfl (infoP _) rfl
          · -- 19: slot 52 := Op.load 61 t9
            refine StepOK.guarded (kn_stable _) 17 true 50 rfl rfl (fun ρ w _ _ hf => (hf 50).1 rfl) fun ρ w hρ hw hf => ?_
            have h9 : ρ (.tmp 9) = (.pointer (some ⟨g9, 0, none⟩)) := (hf 9).2 rfl rfl
            have hg := (hw.block g9 (Array.getElem?_eq_some_iff.1 G9.out).1 (fun f => f)).trans G9.out
            exact Exec.kloadrow rfl rfl h9 hg Try.underlying61 rfl (infoP _) rfl
          · -- 20: slot 53 := Op.call { value (Operand.func 29), args := #[t51, t52], argTypes := #[
            refine StepOK.guarded (kn_stable _) 17 true 50 rfl rfl (fun ρ w _ _ hf => (hf 50).1 rfl) fun ρ w hρ hw hf => ?_
            have h51 : ρ (.tmp 51) = (pv b) := (hf 51).1 rfl
            have h52 : ρ (.tmp 52) = (pv c) := (hf 52).1 rfl
            refine Exec.kcall #[pv b, pv c] hρ rfl rfl (by simp [hρ.const, h51, h52]) Try.func29 (by rfl) rfl ?_
            refine (same_any b c w).mono ?_
            rintro e w' ⟨rfl, hx⟩
            exact ⟨_, rfl, (by rw [HBC.out]; exact rfl), hx⟩
          · -- 21: slot 54 := Op.pick t50 t53 (const (Value.bool false))
            refine StepOK.guarded (kn_stable _) 13 false 46 rfl rfl (fun ρ w _ _ hf => (hf 46).1 rfl) fun ρ w hρ hw hf => ?_
            have h50 : ρ (.tmp 50) = (.bool true) := (hf 50).1 rfl
            have h53 : ρ (.tmp 53) = (.bool true) := (hf 53).1 rfl
            exact Exec.kpickT rfl rfl h50 h53
          · -- 22: slot 55 := Op.move t54
            refine StepOK.guarded (kn_stable _) 13 false 46 rfl rfl (fun ρ w _ _ hf => (hf 46).1 rfl) fun ρ w hρ hw hf => ?_
            have h54 : ρ (.tmp 54) = (.bool true) := (hf 54).1 rfl
            exact Exec.kmove rfl rfl h54
          · -- 23: slot 56 := Op.load 61 t7
            refine StepOK.guarded (kn_stable _) 22 true 55 rfl rfl (fun ρ w _ _ hf => (hf 55).1 rfl) fun ρ w hρ hw hf => ?_
            have h7 : ρ (.tmp 7) = (.pointer (some ⟨g7, 0, none⟩)) := (hf 7).2 rfl rfl
            have hg := (hw.block g7 (Array.getElem?_eq_some_iff.1 G7.out).1 (fun f => f)).trans G7.out
            exact Exec.kloadrow rfl rfl h7 hg Try.underlying61 rfl (infoP _) rfl
          · -- 24: slot 57 := Op.load 61 t9
            refine StepOK.guarded (kn_stable _) 22 true 55 rfl rfl (fun ρ w _ _ hf => (hf 55).1 rfl) fun ρ w hρ hw hf => ?_
            have h9 : ρ (.tmp 9) = (.pointer (some ⟨g9, 0, none⟩)) := (hf 9).2 rfl rfl
            have hg := (hw.block g9 (Array.getElem?_eq_some_iff.1 G9.out).1 (fun f => f)).trans G9.out
            exact Exec.kloadrow rfl rfl h9 hg Try.underlying61 rfl (infoP _) rfl
          · -- 25: slot 58 := Op.call { value (Operand.func 29), args := #[t56, t57], argTypes := #[
            refine StepOK.guarded (kn_stable _) 22 true 55 rfl rfl (fun ρ w _ _ hf => (hf 55).1 rfl) fun ρ w hρ hw hf => ?_
            have h56 : ρ (.tmp 56) = (pv a) := (hf 56).1 rfl
            have h57 : ρ (.tmp 57) = (pv c) := (hf 57).1 rfl
            refine Exec.kcall #[pv a, pv c] hρ rfl rfl (by simp [hρ.const, h56, h57]) Try.func29 (by rfl) rfl ?_
            refine (same_any a c w).mono ?_
            rintro e w' ⟨rfl, hx⟩
            exact ⟨_, rfl, (by rw [HAC.out]; exact rfl), hx⟩
          · -- 26: slot 59 := Op.unOp UnOp.not 4 t58
            refine StepOK.guarded (kn_stable _) 22 true 55 rfl rfl (fun ρ w _ _ hf => (hf 55).1 rfl) fun ρ w hρ hw hf => ?_
            have h58 : ρ (.tmp 58) = (.bool true) := (hf 58).1 rfl
            exact Exec.same (v := .bool false) rfl (by simp [go_sem, hρ.const, h58]) rfl
          · -- 27: slot 60 := Op.pick t55 t59 (const (Value.bool false))
            refine StepOK.guarded (kn_stable _) 13 false 46 rfl rfl (fun ρ w _ _ hf => (hf 46).1 rfl) fun ρ w hρ hw hf => ?_
            have h55 : ρ (.tmp 55) = (.bool true) := (hf 55).1 rfl
            have h59 : ρ (.tmp 59) = (.bool false) := (hf 59).1 rfl
            exact Exec.kpickT rfl rfl h55 h59
          · -- 28: slot 61 := Op.pick t46 (const (Value.bool true)) t60
            refine StepOK.plain (kn_stable _) rfl fun ρ w hρ hw hf => ?_
            have h46 : ρ (.tmp 46) = (.bool false) := (hf 46).1 rfl
            have h60 : ρ (.tmp 60) = (.bool false) := (hf 60).1 rfl
            exact Exec.kpickF rfl rfl h46 h60
        case fin =>
          intro ν w3 hfin hext
          have h0 : ν 61 = .bool false := hfin 28 61 rfl
          simp only [Exit.then, ended, List.foldl_cons, List.foldl_nil, List.setIfInBounds_toArray, List.set_cons_succ, List.set_cons_zero, h0]
          have HX3 := Lib.hid (HX2.out.trans hext)
          clear hext hfin h0
          have hmn : rv (⟨3, 0, 9223372036854775808, 0, []⟩ : Val) = .agg #[.int .u8 3, .int .i64 0, .int .u64 9223372036854775808, .int .u64 0, .string ⟨#[]⟩] := rfl
          obtain ⟨mn, hmn2⟩ : ∃ mn, mn = (⟨3, 0, 9223372036854775808, 0, []⟩ : Val) := ⟨_, rfl⟩
          obtain ⟨zf, hzf2⟩ : ∃ zf, zf = (⟨3, 0, 0, 0, []⟩ : Val) := ⟨_, rfl⟩
          rw [← hmn2] at hmn
          have HMZ : Hid (decide (mn = zf) = false) := Lib.hid (by rw [hmn2, hzf2]; decide)
          have HBU : Hid (∀ w, (Instr.build 61 #[(0, .int .u8 3)]).run Try.prog w = .ok (pv zf) w) := Lib.hid (fun w => by rw [hzf2]; exact build61_1 w)
          have hq := heap_alloc_new w3 (.cells #[.int .u8 0, .int .i64 0, .int .u64 0, .int .u64 0, .string ⟨#[]⟩] 54)
          obtain ⟨W4, hW4⟩ : ∃ W4, W4 = (w3.alloc (.cells #[.int .u8 0, .int .i64 0, .int .u64 0, .int .u64 0, .string ⟨#[]⟩] 54)).setRow w3.heap.size #[.int .u8 3, .int .i64 0, .int .u64 9223372036854775808, .int .u64 0, .string ⟨#[]⟩] := ⟨_, rfl⟩
          have HQ := Lib.hid hq
          have hx4 : Ext w3 W4 := by rw [hW4]; exact ((Ch.refl _ _).alloc _).setRow (.inr (Nat.le_refl _)) _
          have G10 : Hid (W4.heap[w3.heap.size]? = some (.cells (rvals mn) 54 (0, 0))) := Lib.hid (by rw [hW4, hmn2]; exact setRow_heap _ _ _ _ _ _ hq)
          have HX4 := Lib.hid (HX3.out.trans hx4)
          have HW4 := Lib.hid hW4
          clear hq hx4 hW4 hmn hmn2 hzf2
          go_wp2_with (refine wpList_store_rowTo rfl _ _ _ rfl rfl w3.heap.size #[.int .u8 3, .int .i64 0, .int .u64 9223372036854775808, .int .u64 0, .string ⟨#[]⟩] rfl rfl _ _ HQ.out info54 rfl (rrow_one _ _ _ _ _) ?_; rw [← HW4.out])
          generalize w3.heap.size = g10 at *
          refine wp_region_ext (same7T mn zf) mixedV (by rfl) (by rfl) ?all ?fin
          case all =>
            refine ⟨?_, ?_, ?_, ?_, ?_, ?_, ?_, ?_, ?_, ?_, ?_, ?_, ?_, ?_, ?_, ?_, trivial⟩
            · -- 0: slot 63 := Op.load 54 t10
              refine StepOK.plain (kn_stable _) rfl fun ρ w hρ hw hf => ?_
              have h10 : ρ (.tmp 10) = (.pointer (some ⟨g10, 0, none⟩)) := (hf 10).2 rfl rfl
              have hg := (hw.block g10 (Array.getElem?_eq_some_iff.1 G10.out).1 (fun f => f)).trans G10.out
              exact Exec.kloadrow rfl rfl h10 hg Try.underlying54 rfl (infoR _) rfl
            · -- 1: slot 64 := Op.call { value (Operand.func 27), args := #[t63], argTypes := #[54] }
              refine StepOK.plain (kn_stable _) rfl fun ρ w hρ hw hf => ?_
              have h63 : ρ (.tmp 63) = (rv mn) := (hf 63).1 rfl
              refine Exec.kcall #[rv mn] hρ rfl rfl (by simp [hρ.const, h63]) Try.func27 (by rfl) rfl ?_
              refine (lawOwn_any mn w).mono ?_
              rintro e w' ⟨rfl, hx⟩
              exact ⟨_, rfl, rfl, hx⟩
            · -- 2: slot 65 := Op.build 61 #[(0, const (3:u8))]
              refine StepOK.plain (kn_stable _) rfl fun ρ w hρ hw hf => ?_
              exact Exec.kbuild1 rfl rfl (hρ.const _) (HBU.out w) rfl
            · -- 3: slot 66 := Op.call { value (Operand.func 29), args := #[t64, t65], argTypes := #[
              refine StepOK.plain (kn_stable _) rfl fun ρ w hρ hw hf => ?_
              have h64 : ρ (.tmp 64) = (pv mn) := (hf 64).1 rfl
              have h65 : ρ (.tmp 65) = (pv zf) := (hf 65).1 rfl
              refine Exec.kcall #[pv mn, pv zf] hρ rfl rfl (by simp [hρ.const, h64, h65]) Try.func29 (by rfl) rfl ?_
              refine (same_any mn zf w).mono ?_
              rintro e w' ⟨rfl, hx⟩
              exact ⟨_, rfl, (by rw [HMZ.out]; exact rfl), hx⟩
            · -- 4: slot 67 := Op.unOp UnOp.not 4 t66
              refine StepOK.plain (kn_stable _) rfl fun ρ w hρ hw hf => ?_
              have h66 : ρ (.tmp 66) = (.bool false) := (hf 66).1 rfl
              exact Exec.same (v := .bool true) rfl (by simp [go_sem, hρ.const, h66]) rfl
            · -- 5: slot 68 := Op.move t67
              refine StepOK.plain (kn_stable _) rfl fun ρ w hρ hw hf => ?_
              have h67 : ρ (.tmp 67) = (.bool true) := (hf 67).1 rfl
              exact Exec.kmove rfl rfl h67
            · -- 6: slot 69 := Op.load 54 t10
              refine StepOK.guarded (kn_stable _) 5 true 68 rfl rfl (fun ρ w _ _ hf => (hf 68).1 rfl) fun ρ w hρ hw hf => ?_
              have h10 : ρ (.tmp 10) = (.pointer (some ⟨g10, 0, none⟩)) := (hf 10).2 rfl rfl
              have hg := (hw.block g10 (Array.getElem?_eq_some_iff.1 G10.out).1 (fun f => f)).trans G10.out
              exact Exec.kloadrow rfl rfl h10 hg Try.underlying54 rfl (infoR _) rfl
            · -- 7: slot 70 := Op.call { value (Operand.func 27), args := #[t69], argTypes := #[54] }
              refine StepOK.guarded (kn_stable _) 5 true 68 rfl rfl (fun ρ w _ _ hf => (hf 68).1 rfl) fun ρ w hρ hw hf => ?_
              have h69 : ρ (.tmp 69) = (rv mn) := (hf 69).1 rfl
              refine Exec.kcall #[rv mn] hρ rfl rfl (by simp [hρ.const, h69]) Try.func27 (by rfl) rfl ?_
              refine (lawOwn_any mn w).mono ?_
              rintro e w' ⟨rfl, hx⟩
              exact ⟨_, rfl, rfl, hx⟩
            · -- 8: slot 71 := Op.load 54 t10
              refine StepOK.guarded (kn_stable _) 5 true 68 rfl rfl (fun ρ w _ _ hf => (hf 68).1 rfl) fun ρ w hρ hw hf => ?_
              have h10 : ρ (.tmp 10) = (.pointer (some ⟨g10, 0, none⟩)) := (hf 10).2 rfl rfl
              have hg := (hw.block g10 (Array.getElem?_eq_some_iff.1 G10.out).1 (fun f => f)).trans G10.out
              exact Exec.kloadrow rfl rfl h10 hg Try.underlying54 rfl (infoR _) rfl
            · -- 9: slot 72 := Op.call { value (Operand.func 27), args := #[t71], argTypes := #[54] }
              refine StepOK.guarded (kn_stable _) 5 true 68 rfl rfl (fun ρ w _ _ hf => (hf 68).1 rfl) fun ρ w hρ hw hf => ?_
              have h71 : ρ (.tmp 71) = (rv mn) := (hf 71).1 rfl
              refine Exec.kcall #[rv mn] hρ rfl rfl (by simp [hρ.const, h71]) Try.func27 (by rfl) rfl ?_
              refine (lawOwn_any mn w).mono ?_
              rintro e w' ⟨rfl, hx⟩
              exact ⟨_, rfl, rfl, hx⟩
            · -- 10: slot 73 := Op.call { value (Operand.func 29), args := #[t70, t72], argTypes := #[
              refine StepOK.guarded (kn_stable _) 5 true 68 rfl rfl (fun ρ w _ _ hf => (hf 68).1 rfl) fun ρ w hρ hw hf => ?_
              have h70 : ρ (.tmp 70) = (pv mn) := (hf 70).1 rfl
              have h72 : ρ (.tmp 72) = (pv mn) := (hf 72).1 rfl
              refine Exec.kcall #[pv mn, pv mn] hρ rfl rfl (by simp [hρ.const, h70, h72]) Try.func29 (by rfl) rfl ?_
              refine (same_any mn mn w).mono ?_
              rintro e w' ⟨rfl, hx⟩
              exact ⟨_, rfl, (by rw [decide_eq_true rfl]; exact rfl), hx⟩
            · -- 11: slot 74 := Op.pick t68 t73 (const (Value.bool false))
              refine StepOK.plain (kn_stable _) rfl fun ρ w hρ hw hf => ?_
              have h68 : ρ (.tmp 68) = (.bool true) := (hf 68).1 rfl
              have h73 : ρ (.tmp 73) = (.bool true) := (hf 73).1 rfl
              exact Exec.kpickT rfl rfl h68 h73
            · -- 12: slot 75 := Op.move t74
              refine StepOK.plain (kn_stable _) rfl fun ρ w hρ hw hf => ?_
              have h74 : ρ (.tmp 74) = (.bool true) := (hf 74).1 rfl
              exact Exec.kmove rfl rfl h74
            · -- 13: slot 76 := Op.call { value (Operand.func 30), args := #[], argTypes := #[] }
              refine StepOK.guarded (kn_stable _) 12 true 75 rfl rfl (fun ρ w _ _ hf => (hf 75).1 rfl) fun ρ w hρ hw hf => ?_
              refine Exec.kcall #[] hρ rfl rfl (by simp) Try.func30 (by rfl) rfl ?_
              refine (awake6_any w).mono ?_
              rintro e w' ⟨rfl, hx⟩
              exact ⟨_, rfl, rfl, hx⟩
            · -- 14: slot 77 := Op.pick t75 t76 (const (Value.bool false))
              refine StepOK.plain (kn_stable _) rfl fun ρ w hρ hw hf => ?_
              have h75 : ρ (.tmp 75) = (.bool true) := (hf 75).1 rfl
              have h76 : ρ (.tmp 76) = (.bool true) := (hf 76).1 rfl
              exact Exec.kpickT rfl rfl h75 h76
            · -- 15: slot 6 := Op.assign t77
              refine StepOK.plain (kn_stable _) rfl fun ρ w hρ hw hf => ?_
              have h77 : ρ (.tmp 77) = (.bool true) := (hf 77).1 rfl
              exact Exec.kassign rfl rfl h77
          case fin =>
            intro ν w5 hfin hext
            have h0 : ν 6 = .bool true := hfin 15 6 rfl
            simp only [Exit.then, ended, List.foldl_cons, List.foldl_nil, List.setIfInBounds_toArray, List.set_cons_succ, List.set_cons_zero, h0]
            have HX5 := Lib.hid (HX4.out.trans hext)
            clear hext hfin h0
            go_wp2
            go_ret
            exact ⟨rfl, HX5.out⟩
      · have HBC := Lib.hid (decide_eq_false hbc)
        clear hab hbc
        refine wp_region_ext (same4T_10 a b c) mixedV (by rfl) (by rfl) ?all ?fin
        case all =>
          refine ⟨?_, ?_, ?_, ?_, ?_, ?_, ?_, ?_, ?_, ?_, ?_, ?_, ?_, ?_, ?_, ?_, ?_, ?_, ?_, ?_, ?_, ?_, ?_, ?_, ?_, ?_, ?_, ?_, ?_, trivial⟩
          · -- 0: slot 33 := Op.load 61 t7
            refine StepOK.plain (kn_stable _) rfl fun ρ w hρ hw hf => ?_
            have h7 : ρ (.tmp 7) = (.pointer (some ⟨g7, 0, none⟩)) := (hf 7).2 rfl rfl
            have hg := (hw.block g7 (Array.getElem?_eq_some_iff.1 G7.out).1 (fun f => f)).trans G7.out
            exact Exec.kloadrow rfl rfl h7 hg Try.underlying61 rfl (infoP _) rfl
          · -- 1: slot 34 := Op.load 61 t7
            refine StepOK.plain (kn_stable _) rfl fun ρ w hρ hw hf => ?_
            have h7 : ρ (.tmp 7) = (.pointer (some ⟨g7, 0, none⟩)) := (hf 7).2 rfl rfl
            have hg := (hw.block g7 (Array.getElem?_eq_some_iff.1 G7.out).1 (fun f => f)).trans G7.out
            exact Exec.kloadrow rfl rfl h7 hg Try.underlying61 rfl (infoP _) rfl
          · -- 2: slot 35 := Op.call { value (Operand.func 29), args := #[t33, t34], argTypes := #[
            refine StepOK.plain (kn_stable _) rfl fun ρ w hρ hw hf => ?_
            have h33 : ρ (.tmp 33) = (pv a) := (hf 33).1 rfl
            have h34 : ρ (.tmp 34) = (pv a) := (hf 34).1 rfl
            refine Exec.kcall #[pv a, pv a] hρ rfl rfl (by simp [hρ.const, h33, h34]) Try.func29 (by rfl) rfl ?_
            refine (same_any a a w).mono ?_
            rintro e w' ⟨rfl, hx⟩
            exact ⟨_, rfl, (by rw [decide_eq_true rfl]; exact rfl), hx⟩
          · -- 3: slot 36 := Op.unOp UnOp.not 4 t35
            refine StepOK.plain (kn_stable _) rfl fun ρ w hρ hw hf => ?_
            have h35 : ρ (.tmp 35) = (.bool true) := (hf 35).1 rfl
            exact Exec.same (v := .bool false) rfl (by simp [go_sem, hρ.const, h35]) rfl
          · -- 4: slot 37 := Op.move t36
            refine StepOK.plain (kn_stable _) rfl fun ρ w hρ hw hf => ?_
            have h36 : ρ (.tmp 36) = (.bool false) := (hf 36).1 rfl
            exact Exec.kmove rfl rfl h36
          · -- 5: slot 38 := Op.load 61 t7
            refine StepOK.guarded (kn_stable _) 4 false 37 rfl rfl (fun ρ w _ _ hf => (hf 37).1 rfl) fun ρ w hρ hw hf => ?_
            have h7 : ρ (.tmp 7) = (.pointer (some ⟨g7, 0, none⟩)) := (hf 7).2 rfl rfl
            have hg := (hw.block g7 (Array.getElem?_eq_some_iff.1 G7.out).1 (fun f => f)).trans G7.out
            exact Exec.kloadrow rfl rfl h7 hg Try.underlying61 rfl (infoP _) rfl
          · -- 6: slot 39 := Op.load 61 t8
            refine StepOK.guarded (kn_stable _) 4 false 37 rfl rfl (fun ρ w _ _ hf => (hf 37).1 rfl) fun ρ w hρ hw hf => ?_
            have h8 : ρ (.tmp 8) = (.pointer (some ⟨g8, 0, none⟩)) := (hf 8).2 rfl rfl
            have hg := (hw.block g8 (Array.getElem?_eq_some_iff.1 G8.out).1 (fun f => f)).trans G8.out
            exact Exec.kloadrow rfl rfl h8 hg Try.underlying61 rfl (infoP _) rfl
          · -- 7: slot 40 := Op.call { value (Operand.func 29), args := #[t38, t39], argTypes := #[
            refine StepOK.guarded (kn_stable _) 4 false 37 rfl rfl (fun ρ w _ _ hf => (hf 37).1 rfl) fun ρ w hρ hw hf => ?_
            have h38 : ρ (.tmp 38) = (pv a) := (hf 38).1 rfl
            have h39 : ρ (.tmp 39) = (pv b) := (hf 39).1 rfl
            refine Exec.kcall #[pv a, pv b] hρ rfl rfl (by simp [hρ.const, h38, h39]) Try.func29 (by rfl) rfl ?_
            refine (same_any a b w).mono ?_
            rintro e w' ⟨rfl, hx⟩
            exact ⟨_, rfl, (by rw [HAB.out]; exact rfl), hx⟩
          · -- 8: slot 41 := Op.load 61 t8
            refine StepOK.guarded (kn_stable _) 4 false 37 rfl rfl (fun ρ w _ _ hf => (hf 37).1 rfl) fun ρ w hρ hw hf => ?_
            have h8 : ρ (.tmp 8) = (.pointer (some ⟨g8, 0, none⟩)) := (hf 8).2 rfl rfl
            have hg := (hw.block g8 (Array.getElem?_eq_some_iff.1 G8.out).1 (fun f => f)).trans G8.out
            exact Exec.kloadrow rfl rfl h8 hg Try.underlying61 rfl (infoP _) rfl
          · -- 9: slot 42 := Op.load 61 t7
            refine StepOK.guarded (kn_stable _) 4 false 37 rfl rfl (fun ρ w _ _ hf => (hf 37).1 rfl) fun ρ w hρ hw hf => ?_
            have h7 : ρ (.tmp 7) = (.pointer (some ⟨g7, 0, none⟩)) := (hf 7).2 rfl rfl
            have hg := (hw.block g7 (Array.getElem?_eq_some_iff.1 G7.out).1 (fun f => f)).trans G7.out
            exact Exec.kloadrow rfl rfl h7 hg Try.underlying61 rfl (infoP _) rfl
          · -- 10: slot 43 := Op.call { value (Operand.func 29), args := #[t41, t42], argTypes := #[
            refine StepOK.guarded (kn_stable _) 4 false 37 rfl rfl (fun ρ w _ _ hf => (hf 37).1 rfl) fun ρ w hρ hw hf => ?_
            have h41 : ρ (.tmp 41) = (pv b) := (hf 41).1 rfl
            have h42 : ρ (.tmp 42) = (pv a) := (hf 42).1 rfl
            refine Exec.kcall #[pv b, pv a] hρ rfl rfl (by simp [hρ.const, h41, h42]) Try.func29 (by rfl) rfl ?_
            refine (same_any b a w).mono ?_
            rintro e w' ⟨rfl, hx⟩
            exact ⟨_, rfl, (by rw [HBA.out]; exact rfl), hx⟩
          · -- 11: slot 44 := Op.binOp BinOp.neq 4 t40 t43 4
            refine StepOK.guarded (kn_stable _) 4 false 37 rfl rfl (fun ρ w _ _ hf => (hf 37).1 rfl) fun ρ w hρ hw hf => ?_
            have h40 : ρ (.tmp 40) = (.bool true) := (hf 40).1 rfl
            have h43 : ρ (.tmp 43) = (.bool true) := (hf 43).1 rfl
            exact Exec.same (v := .bool false) rfl (by simp [go_sem, hρ.const, h40, h43]) rfl
          · -- 12: slot 45 := Op.pick t37 (const (Value.bool true)) t44
            refine StepOK.plain (kn_stable _) rfl fun ρ w hρ hw hf => ?_
            have h37 : ρ (.tmp 37) = (.bool false) := (hf 37).1 rfl
            have h44 : ρ (.tmp 44) = (.bool false) := (hf 44).1 rfl
            exact Exec.kpickF rfl rfl h37 h44
          · -- 13: slot 46 := Op.move t45
            refine StepOK.plain (kn_stable _) rfl fun ρ w hρ hw hf => ?_
            have h45 : ρ (.tmp 45) = (.bool false) := (hf 45).1 rfl
            exact Exec.kmove rfl rfl h45
          · -- 14: slot 47 := Op.load 61 t7
            refine StepOK.guarded (kn_stable _) 13 false 46 rfl rfl (fun ρ w _ _ hf => (hf 46).1 rfl) fun ρ w hρ hw hf => ?_
            have h7 : ρ (.tmp 7) = (.pointer (some ⟨g7, 0, none⟩)) := (hf 7).2 rfl rfl
            have hg := (hw.block g7 (Array.getElem?_eq_some_iff.1 G7.out).1 (fun f => f)).trans G7.out
            exact Exec.kloadrow rfl rfl h7 hg Try.underlying61 rfl (infoP _) rfl
          · -- 15: slot 48 := Op.load 61 t8
            refine StepOK.guarded (kn_stable _) 13 false 46 rfl rfl (fun ρ w _ _ hf => (hf 46).1 rfl) fun ρ w hρ hw hf => ?_
            have h8 : ρ (.tmp 8) = (.pointer (some ⟨g8, 0, none⟩)) := (hf 8).2 rfl rfl
            have hg := (hw.block g8 (Array.getElem?_eq_some_iff.1 G8.out).1 (fun f => f)).trans G8.out
            exact Exec.kloadrow rfl rfl h8 hg Try.underlying61 rfl (infoP _) rfl
          · -- 16: slot 49 := Op.call { value (Operand.func 29), args := #[t47, t48], argTypes := #[
            refine StepOK.guarded (kn_stable _) 13 false 46 rfl rfl (fun ρ w _ _ hf => (hf 46).1 rfl) fun ρ w hρ hw hf => ?_
            have h47 : ρ (.tmp 47) = (pv a) := (hf 47).1 rfl
            have h48 : ρ (.tmp 48) = (pv b) := (hf 48).1 rfl
            refine Exec.kcall #[pv a, pv b] hρ rfl rfl (by simp [hρ.const, h47, h48]) Try.func29 (by rfl) rfl ?_
            refine (same_any a b w).mono ?_
            rintro e w' ⟨rfl, hx⟩
            exact ⟨_, rfl, (by rw [HAB.out]; exact rfl), hx⟩
          · -- 17: slot 50 := Op.move t49
            refine StepOK.guarded (kn_stable _) 13 false 46 rfl rfl (fun ρ w _ _ hf => (hf 46).1 rfl) fun ρ w hρ hw hf => ?_
            have h49 : ρ (.tmp 49) = (.bool true) := (hf 49).1 rfl
            exact Exec.kmove rfl rfl h49
          · -- 18: slot 51 := Op.load 61 t8
            refine StepOK.guarded (kn_stable _) 17 true 50 rfl rfl (fun ρ w _ _ hf => (hf 50).1 rfl) fun ρ w hρ hw hf => ?_
            have h8 : ρ (.tmp 8) = (.pointer (some ⟨g8, 0, none⟩)) := (hf 8).2 rfl rfl
            have hg := (hw.block g8 (Array.getElem?_eq_some_iff.1 G8.out).1 (fun f => f)).trans G8.out
            exact Exec.kloadrow rfl rfl h8 hg Try.underlying61 rfl (infoP _) rfl
          · -- 19: slot 52 := Op.load 61 t9
            refine StepOK.guarded (kn_stable _) 17 true 50 rfl rfl (fun ρ w _ _ hf => (hf 50).1 rfl) fun ρ w hρ hw hf => ?_
            have h9 : ρ (.tmp 9) = (.pointer (some ⟨g9, 0, none⟩)) := (hf 9).2 rfl rfl
            have hg := (hw.block g9 (Array.getElem?_eq_some_iff.1 G9.out).1 (fun f => f)).trans G9.out
            exact Exec.kloadrow rfl rfl h9 hg Try.underlying61 rfl (infoP _) rfl
          · -- 20: slot 53 := Op.call { value (Operand.func 29), args := #[t51, t52], argTypes := #[
            refine StepOK.guarded (kn_stable _) 17 true 50 rfl rfl (fun ρ w _ _ hf => (hf 50).1 rfl) fun ρ w hρ hw hf => ?_
            have h51 : ρ (.tmp 51) = (pv b) := (hf 51).1 rfl
            have h52 : ρ (.tmp 52) = (pv c) := (hf 52).1 rfl
            refine Exec.kcall #[pv b, pv c] hρ rfl rfl (by simp [hρ.const, h51, h52]) Try.func29 (by rfl) rfl ?_
            refine (same_any b c w).mono ?_
            rintro e w' ⟨rfl, hx⟩
            exact ⟨_, rfl, (by rw [HBC.out]; exact rfl), hx⟩
          · -- 21: slot 54 := Op.pick t50 t53 (const (Value.bool false))
            refine StepOK.guarded (kn_stable _) 13 false 46 rfl rfl (fun ρ w _ _ hf => (hf 46).1 rfl) fun ρ w hρ hw hf => ?_
            have h50 : ρ (.tmp 50) = (.bool true) := (hf 50).1 rfl
            have h53 : ρ (.tmp 53) = (.bool false) := (hf 53).1 rfl
            exact Exec.kpickT rfl rfl h50 h53
          · -- 22: slot 55 := Op.move t54
            refine StepOK.guarded (kn_stable _) 13 false 46 rfl rfl (fun ρ w _ _ hf => (hf 46).1 rfl) fun ρ w hρ hw hf => ?_
            have h54 : ρ (.tmp 54) = (.bool false) := (hf 54).1 rfl
            exact Exec.kmove rfl rfl h54
          · -- 23: slot 56 := Op.load 61 t7
            exact StepOK.skipped (kn_stable _) (fun w => Ch.refl _ w) 22 true 55 rfl rfl (fun ρ w _ _ hf => (.inl ((hf 55).1 rfl))) (fun w d h => by cases h; rfl)
          · -- 24: slot 57 := Op.load 61 t9
            exact StepOK.skipped (kn_stable _) (fun w => Ch.refl _ w) 22 true 55 rfl rfl (fun ρ w _ _ hf => (.inl ((hf 55).1 rfl))) (fun w d h => by cases h; rfl)
          · -- 25: slot 58 := Op.call { value (Operand.func 29), args := #[t56, t57], argTypes := #[
            exact StepOK.skipped (kn_stable _) (fun w => Ch.refl _ w) 22 true 55 rfl rfl (fun ρ w _ _ hf => (.inl ((hf 55).1 rfl))) (fun w d h => by cases h; rfl)
          · -- 26: slot 59 := Op.unOp UnOp.not 4 t58
            exact StepOK.skipped (kn_stable _) (fun w => Ch.refl _ w) 22 true 55 rfl rfl (fun ρ w _ _ hf => (.inl ((hf 55).1 rfl))) (fun w d h => by cases h; rfl)
          · -- 27: slot 60 := Op.pick t55 t59 (const (Value.bool false))
            refine StepOK.guarded (kn_stable _) 13 false 46 rfl rfl (fun ρ w _ _ hf => (hf 46).1 rfl) fun ρ w hρ hw hf => ?_
            have h55 : ρ (.tmp 55) = (.bool false) := (hf 55).1 rfl
            have h59 : ρ (.tmp 59) = (undef) := (hf 59).1 rfl
            exact Exec.kpickF rfl rfl h55 (hρ.const _)
          · -- 28: slot 61 := Op.pick t46 (const (Value.bool true)) t60
            refine StepOK.plain (kn_stable _) rfl fun ρ w hρ hw hf => ?_
            have h46 : ρ (.tmp 46) = (.bool false) := (hf 46).1 rfl
            have h60 : ρ (.tmp 60) = (.bool false) := (hf 60).1 rfl
            exact Exec.kpickF rfl rfl h46 h60
        case fin =>
          intro ν w3 hfin hext
          have h0 : ν 61 = .bool false := hfin 28 61 rfl
          simp only [Exit.then, ended, List.foldl_cons, List.foldl_nil, List.setIfInBounds_toArray, List.set_cons_succ, List.set_cons_zero, h0]
          have HX3 := Lib.hid (HX2.out.trans hext)
          clear hext hfin h0
          have hmn : rv (⟨3, 0, 9223372036854775808, 0, []⟩ : Val) = .agg #[.int .u8 3, .int .i64 0, .int .u64 9223372036854775808, .int .u64 0, .string ⟨#[]⟩] := rfl
          obtain ⟨mn, hmn2⟩ : ∃ mn, mn = (⟨3, 0, 9223372036854775808, 0, []⟩ : Val) := ⟨_, rfl⟩
          obtain ⟨zf, hzf2⟩ : ∃ zf, zf = (⟨3, 0, 0, 0, []⟩ : Val) := ⟨_, rfl⟩
          rw [← hmn2] at hmn
          have HMZ : Hid (decide (mn = zf) = false) := Lib.hid (by rw [hmn2, hzf2]; decide)
          have HBU : Hid (∀ w, (Instr.build 61 #[(0, .int .u8 3)]).run Try.prog w = .ok (pv zf) w) := Lib.hid (fun w => by rw [hzf2]; exact build61_1 w)
          have hq := heap_alloc_new w3 (.cells #[.int .u8 0, .int .i64 0, .int .u64 0, .int .u64 0, .string ⟨#[]⟩] 54)
          obtain ⟨W4, hW4⟩ : ∃ W4, W4 = (w3.alloc (.cells #[.int .u8 0, .int .i64 0, .int .u64 0, .int .u64 0, .string ⟨#[]⟩] 54)).setRow w3.heap.size #[.int .u8 3, .int .i64 0, .int .u64 9223372036854775808, .int .u64 0, .string ⟨#[]⟩] := ⟨_, rfl⟩
          have HQ := Lib.hid hq
          have hx4 : Ext w3 W4 := by rw [hW4]; exact ((Ch.refl _ _).alloc _).setRow (.inr (Nat.le_refl _)) _
          have G10 : Hid (W4.heap[w3.heap.size]? = some (.cells (rvals mn) 54 (0, 0))) := Lib.hid (by rw [hW4, hmn2]; exact setRow_heap _ _ _ _ _ _ hq)
          have HX4 := Lib.hid (HX3.out.trans hx4)
          have HW4 := Lib.hid hW4
          clear hq hx4 hW4 hmn hmn2 hzf2
          go_wp2_with (refine wpList_store_rowTo rfl _ _ _ rfl rfl w3.heap.size #[.int .u8 3, .int .i64 0, .int .u64 9223372036854775808, .int .u64 0, .string ⟨#[]⟩] rfl rfl _ _ HQ.out info54 rfl (rrow_one _ _ _ _ _) ?_; rw [← HW4.out])
          generalize w3.heap.size = g10 at *
          refine wp_region_ext (same7T mn zf) mixedV (by rfl) (by rfl) ?all ?fin
          case all =>
            refine ⟨?_, ?_, ?_, ?_, ?_, ?_, ?_, ?_, ?_, ?_, ?_, ?_, ?_, ?_, ?_, ?_, trivial⟩
            · -- 0: slot 63 := Op.load 54 t10
              refine StepOK.plain (kn_stable _) rfl fun ρ w hρ hw hf => ?_
              have h10 : ρ (.tmp 10) = (.pointer (some ⟨g10, 0, none⟩)) := (hf 10).2 rfl rfl
              have hg := (hw.block g10 (Array.getElem?_eq_some_iff.1 G10.out).1 (fun f => f)).trans G10.out
              exact Exec.kloadrow rfl rfl h10 hg Try.underlying54 rfl (infoR _) rfl
            · -- 1: slot 64 := Op.call { value (Operand.func 27), args := #[t63], argTypes := #[54] }
              refine StepOK.plain (kn_stable _) rfl fun ρ w hρ hw hf => ?_
              have h63 : ρ (.tmp 63) = (rv mn) := (hf 63).1 rfl
              refine Exec.kcall #[rv mn] hρ rfl rfl (by simp [hρ.const, h63]) Try.func27 (by rfl) rfl ?_
              refine (lawOwn_any mn w).mono ?_
              rintro e w' ⟨rfl, hx⟩
              exact ⟨_, rfl, rfl, hx⟩
            · -- 2: slot 65 := Op.build 61 #[(0, const (3:u8))]
              refine StepOK.plain (kn_stable _) rfl fun ρ w hρ hw hf => ?_
              exact Exec.kbuild1 rfl rfl (hρ.const _) (HBU.out w) rfl
            · -- 3: slot 66 := Op.call { value (Operand.func 29), args := #[t64, t65], argTypes := #[
              refine StepOK.plain (kn_stable _) rfl fun ρ w hρ hw hf => ?_
              have h64 : ρ (.tmp 64) = (pv mn) := (hf 64).1 rfl
              have h65 : ρ (.tmp 65) = (pv zf) := (hf 65).1 rfl
              refine Exec.kcall #[pv mn, pv zf] hρ rfl rfl (by simp [hρ.const, h64, h65]) Try.func29 (by rfl) rfl ?_
              refine (same_any mn zf w).mono ?_
              rintro e w' ⟨rfl, hx⟩
              exact ⟨_, rfl, (by rw [HMZ.out]; exact rfl), hx⟩
            · -- 4: slot 67 := Op.unOp UnOp.not 4 t66
              refine StepOK.plain (kn_stable _) rfl fun ρ w hρ hw hf => ?_
              have h66 : ρ (.tmp 66) = (.bool false) := (hf 66).1 rfl
              exact Exec.same (v := .bool true) rfl (by simp [go_sem, hρ.const, h66]) rfl
            · -- 5: slot 68 := Op.move t67
              refine StepOK.plain (kn_stable _) rfl fun ρ w hρ hw hf => ?_
              have h67 : ρ (.tmp 67) = (.bool true) := (hf 67).1 rfl
              exact Exec.kmove rfl rfl h67
            · -- 6: slot 69 := Op.load 54 t10
              refine StepOK.guarded (kn_stable _) 5 true 68 rfl rfl (fun ρ w _ _ hf => (hf 68).1 rfl) fun ρ w hρ hw hf => ?_
              have h10 : ρ (.tmp 10) = (.pointer (some ⟨g10, 0, none⟩)) := (hf 10).2 rfl rfl
              have hg := (hw.block g10 (Array.getElem?_eq_some_iff.1 G10.out).1 (fun f => f)).trans G10.out
              exact Exec.kloadrow rfl rfl h10 hg Try.underlying54 rfl (infoR _) rfl
            · -- 7: slot 70 := Op.call { value (Operand.func 27), args := #[t69], argTypes := #[54] }
              refine StepOK.guarded (kn_stable _) 5 true 68 rfl rfl (fun ρ w _ _ hf => (hf 68).1 rfl) fun ρ w hρ hw hf => ?_
              have h69 : ρ (.tmp 69) = (rv mn) := (hf 69).1 rfl
              refine Exec.kcall #[rv mn] hρ rfl rfl (by simp [hρ.const, h69]) Try.func27 (by rfl) rfl ?_
              refine (lawOwn_any mn w).mono ?_
              rintro e w' ⟨rfl, hx⟩
              exact ⟨_, rfl, rfl, hx⟩
            · -- 8: slot 71 := Op.load 54 t10
              refine StepOK.guarded (kn_stable _) 5 true 68 rfl rfl (fun ρ w _ _ hf => (hf 68).1 rfl) fun ρ w hρ hw hf => ?_
              have h10 : ρ (.tmp 10) = (.pointer (some ⟨g10, 0, none⟩)) := (hf 10).2 rfl rfl
              have hg := (hw.block g10 (Array.getElem?_eq_some_iff.1 G10.out).1 (fun f => f)).trans G10.out
              exact Exec.kloadrow rfl rfl h10 hg Try.underlying54 rfl (infoR _) rfl
            · -- 9: slot 72 := Op.call { value (Operand.func 27), args := #[t71], argTypes := #[54] }
              refine StepOK.guarded (kn_stable _) 5 true 68 rfl rfl (fun ρ w _ _ hf => (hf 68).1 rfl) fun ρ w hρ hw hf => ?_
              have h71 : ρ (.tmp 71) = (rv mn) := (hf 71).1 rfl
              refine Exec.kcall #[rv mn] hρ rfl rfl (by simp [hρ.const, h71]) Try.func27 (by rfl) rfl ?_
              refine (lawOwn_any mn w).mono ?_
              rintro e w' ⟨rfl, hx⟩
              exact ⟨_, rfl, rfl, hx⟩
            · -- 10: slot 73 := Op.call { value (Operand.func 29), args := #[t70, t72], argTypes := #[
              refine StepOK.guarded (kn_stable _) 5 true 68 rfl rfl (fun ρ w _ _ hf => (hf 68).1 rfl) fun ρ w hρ hw hf => ?_
              have h70 : ρ (.tmp 70) = (pv mn) := (hf 70).1 rfl
              have h72 : ρ (.tmp 72) = (pv mn) := (hf 72).1 rfl
              refine Exec.kcall #[pv mn, pv mn] hρ rfl rfl (by simp [hρ.const, h70, h72]) Try.func29 (by rfl) rfl ?_
              refine (same_any mn mn w).mono ?_
              rintro e w' ⟨rfl, hx⟩
              exact ⟨_, rfl, (by rw [decide_eq_true rfl]; exact rfl), hx⟩
            · -- 11: slot 74 := Op.pick t68 t73 (const (Value.bool false))
              refine StepOK.plain (kn_stable _) rfl fun ρ w hρ hw hf => ?_
              have h68 : ρ (.tmp 68) = (.bool true) := (hf 68).1 rfl
              have h73 : ρ (.tmp 73) = (.bool true) := (hf 73).1 rfl
              exact Exec.kpickT rfl rfl h68 h73
            · -- 12: slot 75 := Op.move t74
              refine StepOK.plain (kn_stable _) rfl fun ρ w hρ hw hf => ?_
              have h74 : ρ (.tmp 74) = (.bool true) := (hf 74).1 rfl
              exact Exec.kmove rfl rfl h74
            · -- 13: slot 76 := Op.call { value (Operand.func 30), args := #[], argTypes := #[] }
              refine StepOK.guarded (kn_stable _) 12 true 75 rfl rfl (fun ρ w _ _ hf => (hf 75).1 rfl) fun ρ w hρ hw hf => ?_
              refine Exec.kcall #[] hρ rfl rfl (by simp) Try.func30 (by rfl) rfl ?_
              refine (awake6_any w).mono ?_
              rintro e w' ⟨rfl, hx⟩
              exact ⟨_, rfl, rfl, hx⟩
            · -- 14: slot 77 := Op.pick t75 t76 (const (Value.bool false))
              refine StepOK.plain (kn_stable _) rfl fun ρ w hρ hw hf => ?_
              have h75 : ρ (.tmp 75) = (.bool true) := (hf 75).1 rfl
              have h76 : ρ (.tmp 76) = (.bool true) := (hf 76).1 rfl
              exact Exec.kpickT rfl rfl h75 h76
            · -- 15: slot 6 := Op.assign t77
              refine StepOK.plain (kn_stable _) rfl fun ρ w hρ hw hf => ?_
              have h77 : ρ (.tmp 77) = (.bool true) := (hf 77).1 rfl
              exact Exec.kassign rfl rfl h77
          case fin =>
            intro ν w5 hfin hext
            have h0 : ν 6 = .bool true := hfin 15 6 rfl
            simp only [Exit.then, ended, List.foldl_cons, List.foldl_nil, List.setIfInBounds_toArray, List.set_cons_succ, List.set_cons_zero, h0]
            have HX5 := Lib.hid (HX4.out.trans hext)
            clear hext hfin h0
            go_wp2
            go_ret
            exact ⟨rfl, HX5.out⟩
    · have HAB := Lib.hid (decide_eq_false hab); have HBA := Lib.hid (decide_eq_false (fun h : b = a => hab h.symm))
      clear hab
      refine wp_region_ext (same4T_00 a b c) mixedV (by rfl) (by rfl) ?all ?fin
      case all =>
        refine ⟨?_, ?_, ?_, ?_, ?_, ?_, ?_, ?_, ?_, ?_, ?_, ?_, ?_, ?_, ?_, ?_, ?_, ?_, ?_, ?_, ?_, ?_, ?_, ?_, ?_, ?_, ?_, ?_, ?_, trivial⟩
        · -- 0: slot 33 := Op.load 61 t7
          refine StepOK.plain (kn_stable _) rfl fun ρ w hρ hw hf => ?_
          have h7 : ρ (.tmp 7) = (.pointer (some ⟨g7, 0, none⟩)) := (hf 7).2 rfl rfl
          have hg := (hw.block g7 (Array.getElem?_eq_some_iff.1 G7.out).1 (fun f => f)).trans G7.out
          exact Exec.kloadrow rfl rfl h7 hg Try.underlying61 rfl (infoP _) rfl
        · -- 1: slot 34 := Op.load 61 t7
          refine StepOK.plain (kn_stable _) rfl fun ρ w hρ hw hf => ?_
          have h7 : ρ (.tmp 7) = (.pointer (some ⟨g7, 0, none⟩)) := (hf 7).2 rfl rfl
          have hg := (hw.block g7 (Array.getElem?_eq_some_iff.1 G7.out).1 (fun f => f)).trans G7.out
          exact Exec.kloadrow rfl rfl h7 hg Try.underlying61 rfl (infoP _) rfl
        · -- 2: slot 35 := Op.call { value (Operand.func 29), args := #[t33, t34], argTypes := #[
          refine StepOK.plain (kn_stable _) rfl fun ρ w hρ hw hf => ?_
          have h33 : ρ (.tmp 33) = (pv a) := (hf 33).1 rfl
          have h34 : ρ (.tmp 34) = (pv a) := (hf 34).1 rfl
          refine Exec.kcall #[pv a, pv a] hρ rfl rfl (by simp [hρ.const, h33, h34]) Try.func29 (by rfl) rfl ?_
          refine (same_any a a w).mono ?_
          rintro e w' ⟨rfl, hx⟩
          exact ⟨_, rfl, (by rw [decide_eq_true rfl]; exact rfl), hx⟩
        · -- 3: slot 36 := Op.unOp UnOp.not 4 t35
          refine StepOK.plain (kn_stable _) rfl fun ρ w hρ hw hf => ?_
          have h35 : ρ (.tmp 35) = (.bool true) := (hf 35).1 rfl
          exact Exec.same (v := .bool false) rfl (by simp [go_sem, hρ.const, h35]) rfl
        · -- 4: slot 37 := Op.move t36
          refine StepOK.plain (kn_stable _) rfl fun ρ w hρ hw hf => ?_
          have h36 : ρ (.tmp 36) = (.bool false) := (hf 36).1 rfl
          exact Exec.kmove rfl rfl h36
        · -- 5: slot 38 := Op.load 61 t7
          refine StepOK.guarded (kn_stable _) 4 false 37 rfl rfl (fun ρ w _ _ hf => (hf 37).1 rfl) fun ρ w hρ hw hf => ?_
          have h7 : ρ (.tmp 7) = (.pointer (some ⟨g7, 0, none⟩)) := (hf 7).2 rfl rfl
          have hg := (hw.block g7 (Array.getElem?_eq_some_iff.1 G7.out).1 (fun f => f)).trans G7.out
          exact Exec.kloadrow rfl rfl h7 hg Try.underlying61 rfl (infoP _) rfl
        · -- 6: slot 39 := Op.load 61 t8
          refine StepOK.guarded (kn_stable _) 4 false 37 rfl rfl (fun ρ w _ _ hf => (hf 37).1 rfl) fun ρ w hρ hw hf => ?_
          have h8 : ρ (.tmp 8) = (.pointer (some ⟨g8, 0, none⟩)) := (hf 8).2 rfl rfl
          have hg := (hw.block g8 (Array.getElem?_eq_some_iff.1 G8.out).1 (fun f => f)).trans G8.out
          exact Exec.kloadrow rfl rfl h8 hg Try.underlying61 rfl (infoP _) rfl
        · -- 7: slot 40 := Op.call { value (Operand.func 29), args := #[t38, t39], argTypes := #[
          refine StepOK.guarded (kn_stable _) 4 false 37 rfl rfl (fun ρ w _ _ hf => (hf 37).1 rfl) fun ρ w hρ hw hf => ?_
          have h38 : ρ (.tmp 38) = (pv a) := (hf 38).1 rfl
          have h39 : ρ (.tmp 39) = (pv b) := (hf 39).1 rfl
          refine Exec.kcall #[pv a, pv b] hρ rfl rfl (by simp [hρ.const, h38, h39]) Try.func29 (by rfl) rfl ?_
          refine (same_any a b w).mono ?_
          rintro e w' ⟨rfl, hx⟩
          exact ⟨_, rfl, (by rw [HAB.out]; exact rfl), hx⟩
        · -- 8: slot 41 := Op.load 61 t8
          refine StepOK.guarded (kn_stable _) 4 false 37 rfl rfl (fun ρ w _ _ hf => (hf 37).1 rfl) fun ρ w hρ hw hf => ?_
          have h8 : ρ (.tmp 8) = (.pointer (some ⟨g8, 0, none⟩)) := (hf 8).2 rfl rfl
          have hg := (hw.block g8 (Array.getElem?_eq_some_iff.1 G8.out).1 (fun f => f)).trans G8.out
          exact Exec.kloadrow rfl rfl h8 hg Try.underlying61 rfl (infoP _) rfl
        · -- 9: slot 42 := Op.load 61 t7
          refine StepOK.guarded (kn_stable _) 4 false 37 rfl rfl (fun ρ w _ _ hf => (hf 37).1 rfl) fun ρ w hρ hw hf => ?_
          have h7 : ρ (.tmp 7) = (.pointer (some ⟨g7, 0, none⟩)) := (hf 7).2 rfl rfl
          have hg := (hw.block g7 (Array.getElem?_eq_some_iff.1 G7.out).1 (fun f => f)).trans G7.out
          exact Exec.kloadrow rfl rfl h7 hg Try.underlying61 rfl (infoP _) rfl
        · -- 10: slot 43 := Op.call { value (Operand.func 29), args := #[t41, t42], argTypes := #[
          refine StepOK.guarded (kn_stable _) 4 false 37 rfl rfl (fun ρ w _ _ hf => (hf 37).1 rfl) fun ρ w hρ hw hf => ?_
          have h41 : ρ (.tmp 41) = (pv b) := (hf 41).1 rfl
          have h42 : ρ (.tmp 42) = (pv a) := (hf 42).1 rfl
          refine Exec.kcall #[pv b, pv a] hρ rfl rfl (by simp [hρ.const, h41, h42]) Try.func29 (by rfl) rfl ?_
          refine (same_any b a w).mono ?_
          rintro e w' ⟨rfl, hx⟩
          exact ⟨_, rfl, (by rw [HBA.out]; exact rfl), hx⟩
        · -- 11: slot 44 := Op.binOp BinOp.neq 4 t40 t43 4
          refine StepOK.guarded (kn_stable _) 4 false 37 rfl rfl (fun ρ w _ _ hf => (hf 37).1 rfl) fun ρ w hρ hw hf => ?_
          have h40 : ρ (.tmp 40) = (.bool false) := (hf 40).1 rfl
          have h43 : ρ (.tmp 43) = (.bool false) := (hf 43).1 rfl
          exact Exec.same (v := .bool false) rfl (by simp [go_sem, hρ.const, h40, h43]) rfl
        · -- 12: slot 45 := Op.pick t37 (const (Value.bool true)) t44
          refine StepOK.plain (kn_stable _) rfl fun ρ w hρ hw hf => ?_
          have h37 : ρ (.tmp 37) = (.bool false) := (hf 37).1 rfl
          have h44 : ρ (.tmp 44) = (.bool false) := (hf 44).1 rfl
          exact Exec.kpickF rfl rfl h37 h44
        · -- 13: slot 46 := Op.move t45
          refine StepOK.plain (kn_stable _) rfl fun ρ w hρ hw hf => ?_
          have h45 : ρ (.tmp 45) = (.bool false) := (hf 45).1 rfl
          exact Exec.kmove rfl rfl h45
        · -- 14: slot 47 := Op.load 61 t7
          refine StepOK.guarded (kn_stable _) 13 false 46 rfl rfl (fun ρ w _ _ hf => (hf 46).1 rfl) fun ρ w hρ hw hf => ?_
          have h7 : ρ (.tmp 7) = (.pointer (some ⟨g7, 0, none⟩)) := (hf 7).2 rfl rfl
          have hg := (hw.block g7 (Array.getElem?_eq_some_iff.1 G7.out).1 (fun f => f)).trans G7.out
          exact Exec.kloadrow rfl rfl h7 hg Try.underlying61 rfl (infoP _) rfl
        · -- 15: slot 48 := Op.load 61 t8
          refine StepOK.guarded (kn_stable _) 13 false 46 rfl rfl (fun ρ w _ _ hf => (hf 46).1 rfl) fun ρ w hρ hw hf => ?_
          have h8 : ρ (.tmp 8) = (.pointer (some ⟨g8, 0, none⟩)) := (hf 8).2 rfl rfl
          have hg := (hw.block g8 (Array.getElem?_eq_some_iff.1 G8.out).1 (fun f => f)).trans G8.out
          exact Exec.kloadrow rfl rfl h8 hg Try.underlying61 rfl (infoP _) rfl
        · -- 16: slot 49 := Op.call { value (Operand.func 29), args := #[t47, t48], argTypes := #[
          refine StepOK.guarded (kn_stable _) 13 false 46 rfl rfl (fun ρ w _ _ hf => (hf 46).1 rfl) fun ρ w hρ hw hf => ?_
          have h47 : ρ (.tmp 47) = (pv a) := (hf 47).1 rfl
          have h48 : ρ (.tmp 48) = (pv b) := (hf 48).1 rfl
          refine Exec.kcall #[pv a, pv b] hρ rfl rfl (by simp [hρ.const, h47, h48]) Try.func29 (by rfl) rfl ?_
          refine (same_any a b w).mono ?_
          rintro e w' ⟨rfl, hx⟩
          exact ⟨_, rfl, (by rw [HAB.out]; exact rfl), hx⟩
        · -- 17: slot 50 := Op.move t49
          refine StepOK.guarded (kn_stable _) 13 false 46 rfl rfl (fun ρ w _ _ hf => (hf 46).1 rfl) fun ρ w hρ hw hf => ?_
          have h49 : ρ (.tmp 49) = (.bool false) := (hf 49).1 rfl
          exact Exec.kmove rfl rfl h49
        · -- 18: slot 51 := Op.load 61 t8
          exact StepOK.skipped (kn_stable _) (fun w => Ch.refl _ w) 17 true 50 rfl rfl (fun ρ w _ _ hf => (.inl ((hf 50).1 rfl))) (fun w d h => by cases h; rfl)
        · -- 19: slot 52 := Op.load 61 t9
          exact StepOK.skipped (kn_stable _) (fun w => Ch.refl _ w) 17 true 50 rfl rfl (fun ρ w _ _ hf => (.inl ((hf 50).1 rfl))) (fun w d h => by cases h; rfl)
        · -- 20: slot 53 := Op.call { value (Operand.func 29), args := #[t51, t52], argTypes := #[
          exact StepOK.skipped (kn_stable _) (fun w => Ch.refl _ w) 17 true 50 rfl rfl (fun ρ w _ _ hf => (.inl ((hf 50).1 rfl))) (fun w d h => by cases h; rfl)
        · -- 21: slot 54 := Op.pick t50 t53 (const (Value.bool false))
          refine StepOK.guarded (kn_stable _) 13 false 46 rfl rfl (fun ρ w _ _ hf => (hf 46).1 rfl) fun ρ w hρ hw hf => ?_
          have h50 : ρ (.tmp 50) = (.bool false) := (hf 50).1 rfl
          have h53 : ρ (.tmp 53) = (undef) := (hf 53).1 rfl
          exact Exec.kpickF rfl rfl h50 (hρ.const _)
        · -- 22: slot 55 := Op.move t54
          refine StepOK.guarded (kn_stable _) 13 false 46 rfl rfl (fun ρ w _ _ hf => (hf 46).1 rfl) fun ρ w hρ hw hf => ?_
          have h54 : ρ (.tmp 54) = (.bool false) := (hf 54).1 rfl
          exact Exec.kmove rfl rfl h54
        · -- 23: slot 56 := Op.load 61 t7
          exact StepOK.skipped (kn_stable _) (fun w => Ch.refl _ w) 22 true 55 rfl rfl (fun ρ w _ _ hf => (.inl ((hf 55).1 rfl))) (fun w d h => by cases h; rfl)
        · -- 24: slot 57 := Op.load 61 t9
          exact StepOK.skipped (kn_stable _) (fun w => Ch.refl _ w) 22 true 55 rfl rfl (fun ρ w _ _ hf => (.inl ((hf 55).1 rfl))) (fun w d h => by cases h; rfl)
        · -- 25: slot 58 := Op.call { value (Operand.func 29), args := #[t56, t57], argTypes := #[
          exact StepOK.skipped (kn_stable _) (fun w => Ch.refl _ w) 22 true 55 rfl rfl (fun ρ w _ _ hf => (.inl ((hf 55).1 rfl))) (fun w d h => by cases h; rfl)
        · -- 26: slot 59 := Op.unOp UnOp.not 4 t58
          exact StepOK.skipped (kn_stable _) (fun w => Ch.refl _ w) 22 true 55 rfl rfl (fun ρ w _ _ hf => (.inl ((hf 55).1 rfl))) (fun w d h => by cases h; rfl)
        · -- 27: slot 60 := Op.pick t55 t59 (const (Value.bool false))
          refine StepOK.guarded (kn_stable _) 13 false 46 rfl rfl (fun ρ w _ _ hf => (hf 46).1 rfl) fun ρ w hρ hw hf => ?_
          have h55 : ρ (.tmp 55) = (.bool false) := (hf 55).1 rfl
          have h59 : ρ (.tmp 59) = (undef) := (hf 59).1 rfl
          exact Exec.kpickF rfl rfl h55 (hρ.const _)
        · -- 28: slot 61 := Op.pick t46 (const (Value.bool true)) t60
          refine StepOK.plain (kn_stable _) rfl fun ρ w hρ hw hf => ?_
          have h46 : ρ (.tmp 46) = (.bool false) := (hf 46).1 rfl
          have h60 : ρ (.tmp 60) = (.bool false) := (hf 60).1 rfl
          exact Exec.kpickF rfl rfl h46 h60
      case fin =>
        intro ν w3 hfin hext
        have h0 : ν 61 = .bool false := hfin 28 61 rfl
        simp only [Exit.then, ended, List.foldl_cons, List.foldl_nil, List.setIfInBounds_toArray, List.set_cons_succ, List.set_cons_zero, h0]
        have HX3 := Lib.hid (HX2.out.trans hext)
        clear hext hfin h0
        have hmn : rv (⟨3, 0, 9223372036854775808, 0, []⟩ : Val) = .agg #[.int .u8 3, .int .i64 0, .int .u64 9223372036854775808, .int .u64 0, .string ⟨#[]⟩] := rfl
        obtain ⟨mn, hmn2⟩ : ∃ mn, mn = (⟨3, 0, 9223372036854775808, 0, []⟩ : Val) := ⟨_, rfl⟩
        obtain ⟨zf, hzf2⟩ : ∃ zf, zf = (⟨3, 0, 0, 0, []⟩ : Val) := ⟨_, rfl⟩
        rw [← hmn2] at hmn
        have HMZ : Hid (decide (mn = zf) = false) := Lib.hid (by rw [hmn2, hzf2]; decide)
        have HBU : Hid (∀ w, (Instr.build 61 #[(0, .int .u8 3)]).run Try.prog w = .ok (pv zf) w) := Lib.hid (fun w => by rw [hzf2]; exact build61_1 w)
        have hq := heap_alloc_new w3 (.cells #[.int .u8 0, .int .i64 0, .int .u64 0, .int .u64 0, .string ⟨#[]⟩] 54)
        obtain ⟨W4, hW4⟩ : ∃ W4, W4 = (w3.alloc (.cells #[.int .u8 0, .int .i64 0, .int .u64 0, .int .u64 0, .string ⟨#[]⟩] 54)).setRow w3.heap.size #[.int .u8 3, .int .i64 0, .int .u64 9223372036854775808, .int .u64 0, .string ⟨#[]⟩] := ⟨_, rfl⟩
        have HQ := Lib.hid hq
        have hx4 : Ext w3 W4 := by rw [hW4]; exact ((Ch.refl _ _).alloc _).setRow (.inr (Nat.le_refl _)) _
        have G10 : Hid (W4.heap[w3.heap.size]? = some (.cells (rvals mn) 54 (0, 0))) := Lib.hid (by rw [hW4, hmn2]; exact setRow_heap _ _ _ _ _ _ hq)
        have HX4 := Lib.hid (HX3.out.trans hx4)
        have HW4 := Lib.hid hW4
        clear hq hx4 hW4 hmn hmn2 hzf2
        go_wp2_with (refine wpList_store_rowTo rfl _ _ _ rfl rfl w3.heap.size #[.int .u8 3, .int .i64 0, .int .u64 9223372036854775808, .int .u64 0, .string ⟨#[]⟩] rfl rfl _ _ HQ.out info54 rfl (rrow_one _ _ _ _ _) ?_; rw [← HW4.out])
        generalize w3.heap.size = g10 at *
        refine wp_region_ext (same7T mn zf) mixedV (by rfl) (by rfl) ?all ?fin
        case all =>
          refine ⟨?_, ?_, ?_, ?_, ?_, ?_, ?_, ?_, ?_, ?_, ?_, ?_, ?_, ?_, ?_, ?_, trivial⟩
          · -- 0: slot 63 := Op.load 54 t10
            refine StepOK.plain (kn_stable _) rfl fun ρ w hρ hw hf => ?_
            have h10 : ρ (.tmp 10) = (.pointer (some ⟨g10, 0, none⟩)) := (hf 10).2 rfl rfl
            have hg := (hw.block g10 (Array.getElem?_eq_some_iff.1 G10.out).1 (fun f => f)).trans G10.out
            exact Exec.kloadrow rfl rfl h10 hg Try.underlying54 rfl (infoR _) rfl
          · -- 1: slot 64 := Op.call { value (Operand.func 27), args := #[t63], argTypes := #[54] }
            refine StepOK.plain (kn_stable _) rfl fun ρ w hρ hw hf => ?_
            have h63 : ρ (.tmp 63) = (rv mn) := (hf 63).1 rfl
            refine Exec.kcall #[rv mn] hρ rfl rfl (by simp [hρ.const, h63]) Try.func27 (by rfl) rfl ?_
            refine (lawOwn_any mn w).mono ?_
            rintro e w' ⟨rfl, hx⟩
            exact ⟨_, rfl, rfl, hx⟩
          · -- 2: slot 65 := Op.build 61 #[(0, const (3:u8))]
            refine StepOK.plain (kn_stable _) rfl fun ρ w hρ hw hf => ?_
            exact Exec.kbuild1 rfl rfl (hρ.const _) (HBU.out w) rfl
          · -- 3: slot 66 := Op.call { value (Operand.func 29), args := #[t64, t65], argTypes := #[
            refine StepOK.plain (kn_stable _) rfl fun ρ w hρ hw hf => ?_
            have h64 : ρ (.tmp 64) = (pv mn) := (hf 64).1 rfl
            have h65 : ρ (.tmp 65) = (pv zf) := (hf 65).1 rfl
            refine Exec.kcall #[pv mn, pv zf] hρ rfl rfl (by simp [hρ.const, h64, h65]) Try.func29 (by rfl) rfl ?_
            refine (same_any mn zf w).mono ?_
            rintro e w' ⟨rfl, hx⟩
            exact ⟨_, rfl, (by rw [HMZ.out]; exact rfl), hx⟩
          · -- 4: slot 67 := Op.unOp UnOp.not 4 t66
            refine StepOK.plain (kn_stable _) rfl fun ρ w hρ hw hf => ?_
            have h66 : ρ (.tmp 66) = (.bool false) := (hf 66).1 rfl
            exact Exec.same (v := .bool true) rfl (by simp [go_sem, hρ.const, h66]) rfl
          · -- 5: slot 68 := Op.move t67
            refine StepOK.plain (kn_stable _) rfl fun ρ w hρ hw hf => ?_
            have h67 : ρ (.tmp 67) = (.bool true) := (hf 67).1 rfl
            exact Exec.kmove rfl rfl h67
          · -- 6: slot 69 := Op.load 54 t10
            refine StepOK.guarded (kn_stable _) 5 true 68 rfl rfl (fun ρ w _ _ hf => (hf 68).1 rfl) fun ρ w hρ hw hf => ?_
            have h10 : ρ (.tmp 10) = (.pointer (some ⟨g10, 0, none⟩)) := (hf 10).2 rfl rfl
            have hg := (hw.block g10 (Array.getElem?_eq_some_iff.1 G10.out).1 (fun f => f)).trans G10.out
            exact Exec.kloadrow rfl rfl h10 hg Try.underlying54 rfl (infoR _) rfl
          · -- 7: slot 70 := Op.call { value (Operand.func 27), args := #[t69], argTypes := #[54] }
            refine StepOK.guarded (kn_stable _) 5 true 68 rfl rfl (fun ρ w _ _ hf => (hf 68).1 rfl) fun ρ w hρ hw hf => ?_
            have h69 : ρ (.tmp 69) = (rv mn) := (hf 69).1 rfl
            refine Exec.kcall #[rv mn] hρ rfl rfl (by simp [hρ.const, h69]) Try.func27 (by rfl) rfl ?_
            refine (lawOwn_any mn w).mono ?_
            rintro e w' ⟨rfl, hx⟩
            exact ⟨_, rfl, rfl, hx⟩
          · -- 8: slot 71 := Op.load 54 t10
            refine StepOK.guarded (kn_stable _) 5 true 68 rfl rfl (fun ρ w _ _ hf => (hf 68).1 rfl) fun ρ w hρ hw hf => ?_
            have h10 : ρ (.tmp 10) = (.pointer (some ⟨g10, 0, none⟩)) := (hf 10).2 rfl rfl
            have hg := (hw.block g10 (Array.getElem?_eq_some_iff.1 G10.out).1 (fun f => f)).trans G10.out
            exact Exec.kloadrow rfl rfl h10 hg Try.underlying54 rfl (infoR _) rfl
          · -- 9: slot 72 := Op.call { value (Operand.func 27), args := #[t71], argTypes := #[54] }
            refine StepOK.guarded (kn_stable _) 5 true 68 rfl rfl (fun ρ w _ _ hf => (hf 68).1 rfl) fun ρ w hρ hw hf => ?_
            have h71 : ρ (.tmp 71) = (rv mn) := (hf 71).1 rfl
            refine Exec.kcall #[rv mn] hρ rfl rfl (by simp [hρ.const, h71]) Try.func27 (by rfl) rfl ?_
            refine (lawOwn_any mn w).mono ?_
            rintro e w' ⟨rfl, hx⟩
            exact ⟨_, rfl, rfl, hx⟩
          · -- 10: slot 73 := Op.call { value (Operand.func 29), args := #[t70, t72], argTypes := #[
            refine StepOK.guarded (kn_stable _) 5 true 68 rfl rfl (fun ρ w _ _ hf => (hf 68).1 rfl) fun ρ w hρ hw hf => ?_
            have h70 : ρ (.tmp 70) = (pv mn) := (hf 70).1 rfl
            have h72 : ρ (.tmp 72) = (pv mn) := (hf 72).1 rfl
            refine Exec.kcall #[pv mn, pv mn] hρ rfl rfl (by simp [hρ.const, h70, h72]) Try.func29 (by rfl) rfl ?_
            refine (same_any mn mn w).mono ?_
            rintro e w' ⟨rfl, hx⟩
            exact ⟨_, rfl, (by rw [decide_eq_true rfl]; exact rfl), hx⟩
          · -- 11: slot 74 := Op.pick t68 t73 (const (Value.bool false))
            refine StepOK.plain (kn_stable _) rfl fun ρ w hρ hw hf => ?_
            have h68 : ρ (.tmp 68) = (.bool true) := (hf 68).1 rfl
            have h73 : ρ (.tmp 73) = (.bool true) := (hf 73).1 rfl
            exact Exec.kpickT rfl rfl h68 h73
          · -- 12: slot 75 := Op.move t74
            refine StepOK.plain (kn_stable _) rfl fun ρ w hρ hw hf => ?_
            have h74 : ρ (.tmp 74) = (.bool true) := (hf 74).1 rfl
            exact Exec.kmove rfl rfl h74
          · -- 13: slot 76 := Op.call { value (Operand.func 30), args := #[], argTypes := #[] }
            refine StepOK.guarded (kn_stable _) 12 true 75 rfl rfl (fun ρ w _ _ hf => (hf 75).1 rfl) fun ρ w hρ hw hf => ?_
            refine Exec.kcall #[] hρ rfl rfl (by simp) Try.func30 (by rfl) rfl ?_
            refine (awake6_any w).mono ?_
            rintro e w' ⟨rfl, hx⟩
            exact ⟨_, rfl, rfl, hx⟩
          · -- 14: slot 77 := Op.pick t75 t76 (const (Value.bool false))
            refine StepOK.plain (kn_stable _) rfl fun ρ w hρ hw hf => ?_
            have h75 : ρ (.tmp 75) = (.bool true) := (hf 75).1 rfl
            have h76 : ρ (.tmp 76) = (.bool true) := (hf 76).1 rfl
            exact Exec.kpickT rfl rfl h75 h76
          · -- 15: slot 6 := Op.assign t77
            refine StepOK.plain (kn_stable _) rfl fun ρ w hρ hw hf => ?_
            have h77 : ρ (.tmp 77) = (.bool true) := (hf 77).1 rfl
            exact Exec.kassign rfl rfl h77
        case fin =>
          intro ν w5 hfin hext
          have h0 : ν 6 = .bool true := hfin 15 6 rfl
          simp only [Exit.then, ended, List.foldl_cons, List.foldl_nil, List.setIfInBounds_toArray, List.set_cons_succ, List.set_cons_zero, h0]
          have HX5 := Lib.hid (HX4.out.trans hext)
          clear hext hfin h0
          go_wp2
          go_ret
          exact ⟨rfl, HX5.out⟩

end Go.Proofs.Ytoggnmfjkbnopaa
