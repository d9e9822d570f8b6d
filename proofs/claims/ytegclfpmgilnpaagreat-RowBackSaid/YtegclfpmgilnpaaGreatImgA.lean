import Derived.Test.YtegclfpmgilnpaaGreatCelC
import Derived.Test.YtegclfpmgilnpaaGreatCelI
import Derived.Test.YtegclfpmgilnpaaGreatLibJ
import Derived.Test.YtegclfpmgilnpaaGreatGRelC
import Derived.Maps.AppendAt
import Derived.Deep.DeepMust
import Derived.WalkKit
namespace Go.Proofs.YtegclfpmgilnpaaGreat
open Go.RowKit Go.Lac
def PcC (l : List Cel) : List Value := l.flatMap fun c => (pcv c).toList
theorem PcC_append (a b : List Cel) : PcC (a ++ b) = PcC a ++ PcC b := by simp [PcC]
theorem PcC_length : ∀ l : List Cel, (PcC l).length = l.length * 5
  | [] => rfl
  | c :: l => by
    have := PcC_length l
    unfold PcC at *
    rw [List.flatMap_cons, List.length_append, this]
    simp [pcv]; omega
theorem PcC_one (l : List Cel) : ∀ u ∈ PcC l, u.oneCell' = true := by
  intro u hu
  obtain ⟨c, _, hc⟩ := List.mem_flatMap.1 hu
  simp [pcv, strV] at hc
  rcases hc with rfl | rfl | rfl | rfl | rfl <;> rfl
theorem PcC_at : ∀ (l : List Cel) (j : Nat) (hj : j < l.length) (q : Nat) (u : Value), (pcv l[j]).toList[q]? = some u → (PcC l)[j * 5 + q]? = some u := by
  intro l
  induction l with
  | nil => intro j hj; simp at hj
  | cons c l ih =>
    intro j hj q u hu
    cases j with
    | zero =>
      have hq : q < 5 := (List.getElem?_eq_some_iff.1 hu).1
      unfold PcC
      rw [List.flatMap_cons, Nat.zero_mul, Nat.zero_add, List.getElem?_append_left (by simpa [pcv] using hq)]
      exact hu
    | succ j =>
      have := ih j (by simpa using hj) q u (by simpa using hu)
      unfold PcC at *
      rw [List.flatMap_cons, List.getElem?_append_right (by simp [pcv]; omega)]
      rw [show (j + 1) * 5 + q - (pcv c).toList.length = j * 5 + q by simp [pcv]; omega]
      exact this
def PcS (w : World) (v : Value) (l : List Cel) : Prop := Sl w v l.length (PcC l)
theorem PcS.ext {w w' : World} {v : Value} {l : List Cel} (h : PcS w v l) (k : Ext w w') : PcS w' v l := Sl.ext h k
theorem PcS.shape {w : World} {v : Value} {l : List Cel} (h : PcS w v l) : ∃ ao cap, v = .slice ao l.length cap ∧ l.length ≤ cap ∧ cap ≤ maxLen := by
  obtain ⟨ao, cap, e, h1, h2, _⟩ := h; exact ⟨ao, cap, e, h1, h2⟩
theorem PcS.at {w : World} {ao : Option Addr} {n cap : Nat} {l : List Cel} (h : PcS w (.slice ao n cap) l) {j : Nat} (hj : j < l.length) :
    ∃ b o, ao = some ⟨b, o, none⟩ ∧ w.rangeAt b (o + j * 5) (pcv l[j]).toList := by
  obtain ⟨ao', cap', e0, g1, g2, g3, g5⟩ := h
  cases e0
  have h0 : (PcC l)[j * 5 + 0]? = some (.int .u8 (l[j].k : Nat)) := PcC_at l j hj 0 _ rfl
  cases ao with
  | none => exfalso; have := g3 rfl; omega
  | some x =>
    obtain ⟨b, o, rfl, c0⟩ := g5 x rfl _ _ h0
    refine ⟨b, o, rfl, fun q u hq => ?_⟩
    obtain ⟨b', o', e, c1⟩ := g5 ⟨b, o, none⟩ rfl _ _ (PcC_at l j hj q u hq)
    cases e
    rw [show o + j * 5 + q = o + (j * 5 + q) by omega]
    exact c1
theorem infoPrZ : (Tryz.prog.info? 90).map (fun i => (i.zero, i.size, i.bytes)) = some (some (.agg #[.int .u8 0, .int .u8 0, .int .i64 0, .complex .f64 0 0, .string ⟨#[]⟩]), 5, 56) := by kernel_rfl
theorem infoSPr : (Tryz.prog.info? 90).map (·.size) = some 5 := by kernel_rfl
theorem onePr (w : World) (c : Cel) : (Instr.buildSlice 36 1 #[(0, pc c)]).run Tryz.prog w = .ok (.slice (some ⟨w.heap.size, 0, none⟩) 1 1) (w.alloc (.cells (pcv c) 90)) := by
  have h : ∀ (a b : Nat) (i : Int) (x y : Nat) (s : ByteArray), (Instr.buildSlice 36 1 #[(0, .agg #[.int .u8 (a : Nat), .int .u8 (b : Nat), .int .i64 i, .complex .f64 x y, .string s])]).run Tryz.prog w = .ok (.slice (some ⟨w.heap.size, 0, none⟩) 1 1) (w.alloc (.cells #[.int .u8 (a : Nat), .int .u8 (b : Nat), .int .i64 i, .complex .f64 x y, .string s] 90)) := fun a b i x y s => by kernel_rfl
  exact h c.k c.v.ty c.v.i c.v.re c.v.im ⟨c.v.t.toArray⟩
def OwnPr (base : Nat) (w : World) (v : Value) (l : List Cel) : Prop := w.ownsRow base 90 5 v l.length (PcC l)
theorem OwnPr.ext {base : Nat} {w w' : World} {v : Value} {l : List Cel} (h : OwnPr base w v l) (k : Ext w w') : OwnPr base w' v l := World.ownsRow.ext h k
theorem OwnPr.s {base : Nat} {w : World} {v : Value} {l : List Cel} (h : OwnPr base w v l) : PcS w v l := Sl.ofOwns h
theorem OwnPr.nil (base : Nat) (w : World) : OwnPr base w (.slice none 0 0) [] := World.ownsRow_nil _ _ _ _
def PrPost (l : List Cel) (w : World) (e : Ending) (w' : World) : Prop := ∃ v, e = .returned v ∧ Ext w w' ∧ OwnPr w.heap.size w' v l
theorem wpList_apPr {ops : Array Oper} {rest : List Oper} {o : Oper} {a : Act} {Q : Exit → Act → World → Prop} (hgd : o.guard = none) (s x : Operand)
    (ho : o.op = .call { callee := .builtin .append, args := #[s, x], argTypes := #[36, 36] }) {w0 w : World} {v : Value} {l : List Cel} {c : Cel} {cs : Array Value} (hcs : cs = pcv c) (hx0 : Ext w0 w)
    (hown : OwnPr w0.heap.size w v l) (hs : a.eval s = v) (hx : a.eval x = .slice (some ⟨w.heap.size, 0, none⟩) 1 1) (hl : l.length ≤ 200000000)
    (h : ∀ g cap w', Ext w0 w' → OwnPr w0.heap.size w' (.slice (some ⟨g, 0, none⟩) (l.length + 1) cap) (l ++ [c]) → wpList Tryz.prog ops Q rest (a.put o.dst (.slice (some ⟨g, 0, none⟩) (l.length + 1) cap)) w') :
    wpList Tryz.prog ops Q (o :: rest) a (w.alloc (.cells cs 90)) := by
  subst hcs
  obtain ⟨ci, chi, chz, chs, chb⟩ := info_parts infoPrZ
  have hown2 : (w.alloc (.cells (pcv c) 90)).ownsRow w0.heap.size 90 5 v l.length (PcC l) := World.ownsRow.alloc hown _
  refine wpList_append_own_at _ hgd s x 36 ho w0.heap.size 90 ci (.agg #[.int .u8 0, .int .u8 0, .int .i64 0, .complex .f64 0 0, .string ⟨#[]⟩]) 5 56 Tryz.underlying36 chi chz chs chb rfl (by decide) v _ _ hs hown2 ⟨w.heap.size, 0, none⟩ 1 1 (pcv c).toList hx rfl ?_ ?_ (by unfold maxLen; omega) (by omega) (by have := hx0.size; simp; omega) ?_
  · intro j u hu
    rw [Addr.add_lit, Nat.zero_add, cell_of_row _ _ _ _ _ _ (heap_alloc_new w (.cells (pcv c) 90))]
    simpa using hu
  · intro u hu
    exact PcC_one [c] u (by simpa [PcC] using hu)
  intro v2 w3 hown' hgrow _ _
  obtain ⟨g2, cap2, rfl⟩ := ownsRow_succ hown'
  refine h g2 cap2 w3 ((hx0.alloc _).grown hgrow fun k hk => .inr (hown2.lt k hk).1) ?_
  unfold OwnPr
  rw [List.length_append, PcC_append]
  simpa [PcC] using hown'
def RcC (l : List Cel) : List Value := l.flatMap fun c => (rcv c).toList
theorem RcC_append (a b : List Cel) : RcC (a ++ b) = RcC a ++ RcC b := by simp [RcC]
theorem RcC_length : ∀ l : List Cel, (RcC l).length = l.length * 6
  | [] => rfl
  | c :: l => by
    have := RcC_length l
    unfold RcC at *
    rw [List.flatMap_cons, List.length_append, this]
    simp [rcv]; omega
theorem RcC_one (l : List Cel) : ∀ u ∈ RcC l, u.oneCell' = true := by
  intro u hu
  obtain ⟨c, _, hc⟩ := List.mem_flatMap.1 hu
  simp [rcv, strV] at hc
  rcases hc with rfl | rfl | rfl | rfl | rfl | rfl <;> rfl
theorem RcC_at : ∀ (l : List Cel) (j : Nat) (hj : j < l.length) (q : Nat) (u : Value), (rcv l[j]).toList[q]? = some u → (RcC l)[j * 6 + q]? = some u := by
  intro l
  induction l with
  | nil => intro j hj; simp at hj
  | cons c l ih =>
    intro j hj q u hu
    cases j with
    | zero =>
      have hq : q < 6 := (List.getElem?_eq_some_iff.1 hu).1
      unfold RcC
      rw [List.flatMap_cons, Nat.zero_mul, Nat.zero_add, List.getElem?_append_left (by simpa [rcv] using hq)]
      exact hu
    | succ j =>
      have := ih j (by simpa using hj) q u (by simpa using hu)
      unfold RcC at *
      rw [List.flatMap_cons, List.getElem?_append_right (by simp [rcv]; omega)]
      rw [show (j + 1) * 6 + q - (rcv c).toList.length = j * 6 + q by simp [rcv]; omega]
      exact this
def RcS (w : World) (v : Value) (l : List Cel) : Prop := Sl w v l.length (RcC l)
theorem RcS.ext {w w' : World} {v : Value} {l : List Cel} (h : RcS w v l) (k : Ext w w') : RcS w' v l := Sl.ext h k
theorem RcS.shape {w : World} {v : Value} {l : List Cel} (h : RcS w v l) : ∃ ao cap, v = .slice ao l.length cap ∧ l.length ≤ cap ∧ cap ≤ maxLen := by
  obtain ⟨ao, cap, e, h1, h2, _⟩ := h; exact ⟨ao, cap, e, h1, h2⟩
theorem RcS.at {w : World} {ao : Option Addr} {n cap : Nat} {l : List Cel} (h : RcS w (.slice ao n cap) l) {j : Nat} (hj : j < l.length) :
    ∃ b o, ao = some ⟨b, o, none⟩ ∧ w.rangeAt b (o + j * 6) (rcv l[j]).toList := by
  obtain ⟨ao', cap', e0, g1, g2, g3, g5⟩ := h
  cases e0
  have h0 : (RcC l)[j * 6 + 0]? = some (.int .u8 (l[j].k : Nat)) := RcC_at l j hj 0 _ rfl
  cases ao with
  | none => exfalso; have := g3 rfl; omega
  | some x =>
    obtain ⟨b, o, rfl, c0⟩ := g5 x rfl _ _ h0
    refine ⟨b, o, rfl, fun q u hq => ?_⟩
    obtain ⟨b', o', e, c1⟩ := g5 ⟨b, o, none⟩ rfl _ _ (RcC_at l j hj q u hq)
    cases e
    rw [show o + j * 6 + q = o + (j * 6 + q) by omega]
    exact c1
theorem infoRrZ : (Tryz.prog.info? 76).map (fun i => (i.zero, i.size, i.bytes)) = some (some (.agg #[.int .u8 0, .int .u8 0, .int .i64 0, .int .u64 0, .int .u64 0, .string ⟨#[]⟩]), 6, 56) := by kernel_rfl
theorem infoSRr : (Tryz.prog.info? 76).map (·.size) = some 6 := by kernel_rfl
theorem oneRr (w : World) (c : Cel) : (Instr.buildSlice 45 1 #[(0, rc c)]).run Tryz.prog w = .ok (.slice (some ⟨w.heap.size, 0, none⟩) 1 1) (w.alloc (.cells (rcv c) 76)) := by
  have h : ∀ (a b : Nat) (i : Int) (x y : Nat) (s : ByteArray), (Instr.buildSlice 45 1 #[(0, .agg #[.int .u8 (a : Nat), .int .u8 (b : Nat), .int .i64 i, .int .u64 (x : Nat), .int .u64 (y : Nat), .string s])]).run Tryz.prog w = .ok (.slice (some ⟨w.heap.size, 0, none⟩) 1 1) (w.alloc (.cells #[.int .u8 (a : Nat), .int .u8 (b : Nat), .int .i64 i, .int .u64 (x : Nat), .int .u64 (y : Nat), .string s] 76)) := fun a b i x y s => by kernel_rfl
  exact h c.k c.v.ty c.v.i c.v.re c.v.im ⟨c.v.t.toArray⟩
def OwnRr (base : Nat) (w : World) (v : Value) (l : List Cel) : Prop := w.ownsRow base 76 6 v l.length (RcC l)
theorem OwnRr.ext {base : Nat} {w w' : World} {v : Value} {l : List Cel} (h : OwnRr base w v l) (k : Ext w w') : OwnRr base w' v l := World.ownsRow.ext h k
theorem OwnRr.s {base : Nat} {w : World} {v : Value} {l : List Cel} (h : OwnRr base w v l) : RcS w v l := Sl.ofOwns h
theorem OwnRr.nil (base : Nat) (w : World) : OwnRr base w (.slice none 0 0) [] := World.ownsRow_nil _ _ _ _
def RrPost (l : List Cel) (w : World) (e : Ending) (w' : World) : Prop := ∃ v, e = .returned v ∧ Ext w w' ∧ OwnRr w.heap.size w' v l
theorem wpList_apRr {ops : Array Oper} {rest : List Oper} {o : Oper} {a : Act} {Q : Exit → Act → World → Prop} (hgd : o.guard = none) (s x : Operand)
    (ho : o.op = .call { callee := .builtin .append, args := #[s, x], argTypes := #[45, 45] }) {w0 w : World} {v : Value} {l : List Cel} {c : Cel} {cs : Array Value} (hcs : cs = rcv c) (hx0 : Ext w0 w)
    (hown : OwnRr w0.heap.size w v l) (hs : a.eval s = v) (hx : a.eval x = .slice (some ⟨w.heap.size, 0, none⟩) 1 1) (hl : l.length ≤ 200000000)
    (h : ∀ g cap w', Ext w0 w' → OwnRr w0.heap.size w' (.slice (some ⟨g, 0, none⟩) (l.length + 1) cap) (l ++ [c]) → wpList Tryz.prog ops Q rest (a.put o.dst (.slice (some ⟨g, 0, none⟩) (l.length + 1) cap)) w') :
    wpList Tryz.prog ops Q (o :: rest) a (w.alloc (.cells cs 76)) := by
  subst hcs
  obtain ⟨ci, chi, chz, chs, chb⟩ := info_parts infoRrZ
  have hown2 : (w.alloc (.cells (rcv c) 76)).ownsRow w0.heap.size 76 6 v l.length (RcC l) := World.ownsRow.alloc hown _
  refine wpList_append_own_at _ hgd s x 45 ho w0.heap.size 76 ci (.agg #[.int .u8 0, .int .u8 0, .int .i64 0, .int .u64 0, .int .u64 0, .string ⟨#[]⟩]) 6 56 Tryz.underlying45 chi chz chs chb rfl (by decide) v _ _ hs hown2 ⟨w.heap.size, 0, none⟩ 1 1 (rcv c).toList hx rfl ?_ ?_ (by unfold maxLen; omega) (by omega) (by have := hx0.size; simp; omega) ?_
  · intro j u hu
    rw [Addr.add_lit, Nat.zero_add, cell_of_row _ _ _ _ _ _ (heap_alloc_new w (.cells (rcv c) 76))]
    simpa using hu
  · intro u hu
    exact RcC_one [c] u (by simpa [RcC] using hu)
  intro v2 w3 hown' hgrow _ _
  obtain ⟨g2, cap2, rfl⟩ := ownsRow_succ hown'
  refine h g2 cap2 w3 ((hx0.alloc _).grown hgrow fun k hk => .inr (hown2.lt k hk).1) ?_
  unfold OwnRr
  rw [List.length_append, RcC_append]
  simpa [RcC] using hown'
end Go.Proofs.YtegclfpmgilnpaaGreat
