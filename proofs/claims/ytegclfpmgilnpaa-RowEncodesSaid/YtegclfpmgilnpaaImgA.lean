/-
  Rows: lists of cells in memory. MADE BY mkImgA.py
-/
import Derived.Test.YtegclfpmgilnpaaCelC
import Derived.Test.YtegclfpmgilnpaaCelI
import Derived.Test.YtegclfpmgilnpaaLibJ
import Derived.Test.YtegclfpmgilnpaaGRelC
import Derived.Maps.AppendAt
import Derived.Deep.DeepMust
import Derived.WalkKit
namespace Go.Proofs.Ytegclfpmgilnpaa
open Go.RowKit Go.Lac

theorem run_indexSlA {P : Program} (w : World) {t e : TypeId} {inf : TypeInfo} {sz : Nat} (h : P.underlying t = some (.slice e)) (hinf : P.info? e = some inf) (hsz : inf.size = sz) (b off len cap i : Nat) (hi : i < len) :
    (Instr.indexAt t (.slice (some ⟨b, off, none⟩) len cap) (.int .i64 (i : Int))).run P w = .ok (.pointer (some ⟨b, off + i * sz, none⟩)) w := run_indexSl w h hinf hsz b off len cap i hi

def PcC (l : List Cel) : List Value := l.flatMap fun c => (pcv c).toList
theorem PcC_append (a b : List Cel) : PcC (a ++ b) = PcC a ++ PcC b := by simp [PcC]
theorem PcC_length : ∀ l : List Cel, (PcC l).length = l.length * 5
  | [] => rfl
  | c :: l => by
    have := PcC_length l
    unfold PcC at *
    rw [List.flatMap_cons, List.length_append, this]
    simp [pcv]; omega
theorem PcC_one (l : List Cel) : ∀ u ∈ PcC l, u.oneCell' = true := by
  intro u hu
  obtain ⟨c, _, hc⟩ := List.mem_flatMap.1 hu
  simp [pcv, strV] at hc
  rcases hc with rfl | rfl | rfl | rfl | rfl <;> rfl
theorem PcC_at : ∀ (l : List Cel) (j : Nat) (hj : j < l.length) (q : Nat) (u : Value), (pcv l[j]).toList[q]? = some u → (PcC l)[j * 5 + q]? = some u := by
  intro l
  induction l with
  | nil => intro j hj; simp at hj
  | cons c l ih =>
    intro j hj q u hu
    cases j with
    | zero =>
      have hq : q < 5 := (List.getElem?_eq_some_iff.1 hu).1
      unfold PcC
      rw [List.flatMap_cons, Nat.zero_mul, Nat.zero_add, List.getElem?_append_left (by simpa [pcv] using hq)]
      exact hu
    | succ j =>
      have := ih j (by simpa using hj) q u (by simpa using hu)
      unfold PcC at *
      rw [List.flatMap_cons, List.getElem?_append_right (by simp [pcv]; omega)]
      rw [show (j + 1) * 5 + q - (pcv c).toList.length = j * 5 + q by simp [pcv]; omega]
      exact this
def PcS (w : World) (v : Value) (l : List Cel) : Prop := Sl w v l.length (PcC l)
theorem PcS.ext {w w' : World} {v : Value} {l : List Cel} (h : PcS w v l) (k : Ext w w') : PcS w' v l := Sl.ext h k
theorem PcS.shape {w : World} {v : Value} {l : List Cel} (h : PcS w v l) : ∃ ao cap, v = .slice ao l.length cap ∧ l.length ≤ cap ∧ cap ≤ maxLen := by
  obtain ⟨ao, cap, e, h1, h2, _⟩ := h; exact ⟨ao, cap, e, h1, h2⟩
theorem PcS.at {w : World} {ao : Option Addr} {n cap : Nat} {l : List Cel} (h : PcS w (.slice ao n cap) l) {j : Nat} (hj : j < l.length) :
    ∃ b o, ao = some ⟨b, o, none⟩ ∧ w.rangeAt b (o + j * 5) (pcv l[j]).toList := by
  obtain ⟨ao', cap', e0, g1, g2, g3, g5⟩ := h
  cases e0
  have h0 : (PcC l)[j * 5 + 0]? = some (.int .u8 (l[j].k : Nat)) := PcC_at l j hj 0 _ rfl
  cases ao with
  | none => exfalso; have := g3 rfl; omega
  | some x =>
    obtain ⟨b, o, rfl, c0⟩ := g5 x rfl _ _ h0
    refine ⟨b, o, rfl, fun q u hq => ?_⟩
    obtain ⟨b', o', e, c1⟩ := g5 ⟨b, o, none⟩ rfl _ _ (PcC_at l j hj q u hq)
    cases e
    rw [show o + j * 5 + q = o + (j * 5 + q) by omega]
    exact c1
theorem infoPrZ : (Try.prog.info? 129).map (fun i => (i.zero, i.size, i.bytes)) = some (some (.agg #[.int .u8 0, .int .u8 0, .int .i64 0, .complex .f64 0 0, .string ⟨#[]⟩]), 5, 56) := by kernel_rfl
theorem infoSPr : (Try.prog.info? 129).map (·.size) = some 5 := by kernel_rfl
theorem onePr (w : World) (c : Cel) : (Instr.buildSlice 74 1 #[(0, pc c)]).run Try.prog w = .ok (.slice (some ⟨w.heap.size, 0, none⟩) 1 1) (w.alloc (.cells (pcv c) 129)) := by
  have h : ∀ (a b : Nat) (i : Int) (x y : Nat) (s : ByteArray), (Instr.buildSlice 74 1 #[(0, .agg #[.int .u8 (a : Nat), .int .u8 (b : Nat), .int .i64 i, .complex .f64 x y, .string s])]).run Try.prog w = .ok (.slice (some ⟨w.heap.size, 0, none⟩) 1 1) (w.alloc (.cells #[.int .u8 (a : Nat), .int .u8 (b : Nat), .int .i64 i, .complex .f64 x y, .string s] 129)) := fun a b i x y s => by kernel_rfl
  exact h c.k c.v.ty c.v.i c.v.re c.v.im ⟨c.v.t.toArray⟩
def OwnPr (base : Nat) (w : World) (v : Value) (l : List Cel) : Prop := w.ownsRow base 129 5 v l.length (PcC l)
theorem OwnPr.ext {base : Nat} {w w' : World} {v : Value} {l : List Cel} (h : OwnPr base w v l) (k : Ext w w') : OwnPr base w' v l := World.ownsRow.ext h k
theorem OwnPr.s {base : Nat} {w : World} {v : Value} {l : List Cel} (h : OwnPr base w v l) : PcS w v l := Sl.ofOwns h
theorem OwnPr.nil (base : Nat) (w : World) : OwnPr base w (.slice none 0 0) [] := World.ownsRow_nil _ _ _ _
def PrPost (l : List Cel) (w : World) (e : Ending) (w' : World) : Prop := ∃ v, e = .returned v ∧ Ext w w' ∧ OwnPr w.heap.size w' v l
/-- 'append(l, c)', l one's own. -/
theorem wpList_apPr {ops : Array Oper} {rest : List Oper} {o : Oper} {a : Act} {Q : Exit → Act → World → Prop} (hgd : o.guard = none) (s x : Operand)
    (ho : o.op = .call { callee := .builtin .append, args := #[s, x], argTypes := #[74, 74] }) {w0 w : World} {v : Value} {l : List Cel} {c : Cel} {cs : Array Value} (hcs : cs = pcv c) (hx0 : Ext w0 w)
    (hown : OwnPr w0.heap.size w v l) (hs : a.eval s = v) (hx : a.eval x = .slice (some ⟨w.heap.size, 0, none⟩) 1 1) (hl : l.length ≤ 200000000)
    (h : ∀ g cap w', Ext w0 w' → OwnPr w0.heap.size w' (.slice (some ⟨g, 0, none⟩) (l.length + 1) cap) (l ++ [c]) → wpList Try.prog ops Q rest (a.put o.dst (.slice (some ⟨g, 0, none⟩) (l.length + 1) cap)) w') :
    wpList Try.prog ops Q (o :: rest) a (w.alloc (.cells cs 129)) := by
  subst hcs
  obtain ⟨ci, chi, chz, chs, chb⟩ := info_parts infoPrZ
  have hown2 : (w.alloc (.cells (pcv c) 129)).ownsRow w0.heap.size 129 5 v l.length (PcC l) := World.ownsRow.alloc hown _
  refine wpList_append_own_at _ hgd s x 74 ho w0.heap.size 129 ci (.agg #[.int .u8 0, .int .u8 0, .int .i64 0, .complex .f64 0 0, .string ⟨#[]⟩]) 5 56 Try.underlying74 chi chz chs chb rfl (by decide) v _ _ hs hown2 ⟨w.heap.size, 0, none⟩ 1 1 (pcv c).toList hx rfl ?_ ?_ (by unfold maxLen; omega) (by omega) (by have := hx0.size; simp; omega) ?_
  · intro j u hu
    rw [Addr.add_lit, Nat.zero_add, cell_of_row _ _ _ _ _ _ (heap_alloc_new w (.cells (pcv c) 129))]
    simpa using hu
  · intro u hu
    exact PcC_one [c] u (by simpa [PcC] using hu)
  intro v2 w3 hown' hgrow _ _
  obtain ⟨g2, cap2, rfl⟩ := ownsRow_succ hown'
  refine h g2 cap2 w3 ((hx0.alloc _).grown hgrow fun k hk => .inr (hown2.lt k hk).1) ?_
  unfold OwnPr
  rw [List.length_append, PcC_append]
  simpa [PcC] using hown'
/-- One cell written in a row of one's own. -/
theorem own_setPr {base : Nat} {w : World} {v : Value} {l : List Cel} {k : Nat} (c : Cel) (h : OwnPr base w v l) (hk : k < l.length) :
    ∃ g cap, v = .slice (some ⟨g, 0, none⟩) l.length cap ∧ base ≤ g ∧ OwnPr base (w.setCells g (k * 5) (pcv c).toList) v (l.set k c) ∧ w.there g (k * 5) 5 := by
  obtain ⟨h1, ⟨rfl, h2⟩ | ⟨g, cap, cur, rfl, hg, hh, hn, hm, hs, ht⟩⟩ := h
  · omega
  refine ⟨g, cap, rfl, hg, ?_, ?_⟩
  · have hvl : (pcv c).toList.length = 5 := by simp [pcv]
    have hle : k * 5 + 5 ≤ l.length * 5 := by omega
    have hle2 : l.length * 5 ≤ cap * 5 := Nat.mul_le_mul_right _ hn
    obtain ⟨cur', k1, k2, k3⟩ := setCells_block g (pcv c).toList (k * 5) w cur hh (by rw [hvl, hs]; omega)
    refine ⟨by rw [PcC_length], .inr ⟨g, cap, cur', by simp, hg, k1, by simpa using hn, hm, by omega, ?_⟩⟩
    have hsplit : PcC (l.set k c) = PcC (l.take k) ++ (pcv c).toList ++ PcC (l.drop (k + 1)) := by
      rw [List.set_eq_take_append_cons_drop, if_pos hk, PcC_append]
      simp [PcC]
    have hl : PcC l = PcC (l.take k) ++ (pcv l[k]).toList ++ PcC (l.drop (k + 1)) := by
      have e0 : l.take k ++ l[k] :: l.drop (k + 1) = l := by rw [← List.drop_eq_getElem_cons hk, List.take_append_drop]
      have e1 := (congrArg PcC e0).symm.trans (PcC_append _ _)
      rw [e1, show PcC (l[k] :: l.drop (k + 1)) = (pcv l[k]).toList ++ PcC (l.drop (k + 1)) from List.flatMap_cons, List.append_assoc]
    have hlt : (PcC (l.take k)).length = k * 5 := by rw [PcC_length, List.length_take, Nat.min_eq_left (by omega)]
    have hv2 : (pcv l[k]).toList.length = 5 := by simp [pcv]
    have hld : (PcC (l.drop (k + 1))).length = l.length * 5 - (k * 5 + 5) := by rw [PcC_length, List.length_drop]; omega
    rw [List.length_set, hsplit, k3, hvl]
    have e1 : cur.toList.take (k * 5) = PcC (l.take k) := by
      have : cur.toList.take (k * 5) = (cur.toList.take (l.length * 5)).take (k * 5) := by rw [List.take_take, Nat.min_eq_left (by omega)]
      rw [this, ht, hl, List.append_assoc, List.take_append, hlt, Nat.sub_self, List.take_zero, List.append_nil, List.take_of_length_le (by omega)]
    have e2 : (cur.toList.take (l.length * 5)).drop (k * 5 + 5) = PcC (l.drop (k + 1)) := by
      rw [ht, hl, List.drop_append, List.drop_of_length_le (by rw [List.length_append]; omega), List.nil_append, List.length_append, hlt, hv2, Nat.sub_self, List.drop_zero]
    rw [← e1, ← e2]
    have hcl : k * 5 ≤ cur.toList.length := by simp; omega
    have hT : (cur.toList.take (k * 5) ++ (pcv c).toList).length = k * 5 + 5 := by rw [List.length_append, List.length_take, hvl, Nat.min_eq_left hcl]
    rw [List.take_append, List.take_of_length_le (by rw [hT]; exact hle), hT, List.drop_take]
  · intro j hj
    have hle2 : l.length * 5 ≤ cap * 5 := Nat.mul_le_mul_right _ hn
    have hj2 : k * 5 + j < cur.size := by rw [hs]; omega
    refine ⟨?_, frozen_of_row w g _ _ _ hh⟩
    rw [cell_of_row w g (k * 5 + j) _ _ _ hh, Array.getElem?_eq_getElem hj2]
    rfl

def RcC (l : List Cel) : List Value := l.flatMap fun c => (rcv c).toList
theorem RcC_append (a b : List Cel) : RcC (a ++ b) = RcC a ++ RcC b := by simp [RcC]
theorem RcC_length : ∀ l : List Cel, (RcC l).length = l.length * 6
  | [] => rfl
  | c :: l => by
    have := RcC_length l
    unfold RcC at *
    rw [List.flatMap_cons, List.length_append, this]
    simp [rcv]; omega
theorem RcC_one (l : List Cel) : ∀ u ∈ RcC l, u.oneCell' = true := by
  intro u hu
  obtain ⟨c, _, hc⟩ := List.mem_flatMap.1 hu
  simp [rcv, strV] at hc
  rcases hc with rfl | rfl | rfl | rfl | rfl | rfl <;> rfl
theorem RcC_at : ∀ (l : List Cel) (j : Nat) (hj : j < l.length) (q : Nat) (u : Value), (rcv l[j]).toList[q]? = some u → (RcC l)[j * 6 + q]? = some u := by
  intro l
  induction l with
  | nil => intro j hj; simp at hj
  | cons c l ih =>
    intro j hj q u hu
    cases j with
    | zero =>
      have hq : q < 6 := (List.getElem?_eq_some_iff.1 hu).1
      unfold RcC
      rw [List.flatMap_cons, Nat.zero_mul, Nat.zero_add, List.getElem?_append_left (by simpa [rcv] using hq)]
      exact hu
    | succ j =>
      have := ih j (by simpa using hj) q u (by simpa using hu)
      unfold RcC at *
      rw [List.flatMap_cons, List.getElem?_append_right (by simp [rcv]; omega)]
      rw [show (j + 1) * 6 + q - (rcv c).toList.length = j * 6 + q by simp [rcv]; omega]
      exact this
def RcS (w : World) (v : Value) (l : List Cel) : Prop := Sl w v l.length (RcC l)
theorem RcS.ext {w w' : World} {v : Value} {l : List Cel} (h : RcS w v l) (k : Ext w w') : RcS w' v l := Sl.ext h k
theorem RcS.shape {w : World} {v : Value} {l : List Cel} (h : RcS w v l) : ∃ ao cap, v = .slice ao l.length cap ∧ l.length ≤ cap ∧ cap ≤ maxLen := by
  obtain ⟨ao, cap, e, h1, h2, _⟩ := h; exact ⟨ao, cap, e, h1, h2⟩
theorem RcS.at {w : World} {ao : Option Addr} {n cap : Nat} {l : List Cel} (h : RcS w (.slice ao n cap) l) {j : Nat} (hj : j < l.length) :
    ∃ b o, ao = some ⟨b, o, none⟩ ∧ w.rangeAt b (o + j * 6) (rcv l[j]).toList := by
  obtain ⟨ao', cap', e0, g1, g2, g3, g5⟩ := h
  cases e0
  have h0 : (RcC l)[j * 6 + 0]? = some (.int .u8 (l[j].k : Nat)) := RcC_at l j hj 0 _ rfl
  cases ao with
  | none => exfalso; have := g3 rfl; omega
  | some x =>
    obtain ⟨b, o, rfl, c0⟩ := g5 x rfl _ _ h0
    refine ⟨b, o, rfl, fun q u hq => ?_⟩
    obtain ⟨b', o', e, c1⟩ := g5 ⟨b, o, none⟩ rfl _ _ (RcC_at l j hj q u hq)
    cases e
    rw [show o + j * 6 + q = o + (j * 6 + q) by omega]
    exact c1
theorem infoRrZ : (Try.prog.info? 124).map (fun i => (i.zero, i.size, i.bytes)) = some (some (.agg #[.int .u8 0, .int .u8 0, .int .i64 0, .int .u64 0, .int .u64 0, .string ⟨#[]⟩]), 6, 56) := by kernel_rfl
theorem infoSRr : (Try.prog.info? 124).map (·.size) = some 6 := by kernel_rfl
theorem oneRr (w : World) (c : Cel) : (Instr.buildSlice 71 1 #[(0, rc c)]).run Try.prog w = .ok (.slice (some ⟨w.heap.size, 0, none⟩) 1 1) (w.alloc (.cells (rcv c) 124)) := by
  have h : ∀ (a b : Nat) (i : Int) (x y : Nat) (s : ByteArray), (Instr.buildSlice 71 1 #[(0, .agg #[.int .u8 (a : Nat), .int .u8 (b : Nat), .int .i64 i, .int .u64 (x : Nat), .int .u64 (y : Nat), .string s])]).run Try.prog w = .ok (.slice (some ⟨w.heap.size, 0, none⟩) 1 1) (w.alloc (.cells #[.int .u8 (a : Nat), .int .u8 (b : Nat), .int .i64 i, .int .u64 (x : Nat), .int .u64 (y : Nat), .string s] 124)) := fun a b i x y s => by kernel_rfl
  exact h c.k c.v.ty c.v.i c.v.re c.v.im ⟨c.v.t.toArray⟩
def OwnRr (base : Nat) (w : World) (v : Value) (l : List Cel) : Prop := w.ownsRow base 124 6 v l.length (RcC l)
theorem OwnRr.ext {base : Nat} {w w' : World} {v : Value} {l : List Cel} (h : OwnRr base w v l) (k : Ext w w') : OwnRr base w' v l := World.ownsRow.ext h k
theorem OwnRr.s {base : Nat} {w : World} {v : Value} {l : List Cel} (h : OwnRr base w v l) : RcS w v l := Sl.ofOwns h
theorem OwnRr.nil (base : Nat) (w : World) : OwnRr base w (.slice none 0 0) [] := World.ownsRow_nil _ _ _ _
def RrPost (l : List Cel) (w : World) (e : Ending) (w' : World) : Prop := ∃ v, e = .returned v ∧ Ext w w' ∧ OwnRr w.heap.size w' v l
/-- 'append(l, c)', l one's own. -/
theorem wpList_apRr {ops : Array Oper} {rest : List Oper} {o : Oper} {a : Act} {Q : Exit → Act → World → Prop} (hgd : o.guard = none) (s x : Operand)
    (ho : o.op = .call { callee := .builtin .append, args := #[s, x], argTypes := #[71, 71] }) {w0 w : World} {v : Value} {l : List Cel} {c : Cel} {cs : Array Value} (hcs : cs = rcv c) (hx0 : Ext w0 w)
    (hown : OwnRr w0.heap.size w v l) (hs : a.eval s = v) (hx : a.eval x = .slice (some ⟨w.heap.size, 0, none⟩) 1 1) (hl : l.length ≤ 200000000)
    (h : ∀ g cap w', Ext w0 w' → OwnRr w0.heap.size w' (.slice (some ⟨g, 0, none⟩) (l.length + 1) cap) (l ++ [c]) → wpList Try.prog ops Q rest (a.put o.dst (.slice (some ⟨g, 0, none⟩) (l.length + 1) cap)) w') :
    wpList Try.prog ops Q (o :: rest) a (w.alloc (.cells cs 124)) := by
  subst hcs
  obtain ⟨ci, chi, chz, chs, chb⟩ := info_parts infoRrZ
  have hown2 : (w.alloc (.cells (rcv c) 124)).ownsRow w0.heap.size 124 6 v l.length (RcC l) := World.ownsRow.alloc hown _
  refine wpList_append_own_at _ hgd s x 71 ho w0.heap.size 124 ci (.agg #[.int .u8 0, .int .u8 0, .int .i64 0, .int .u64 0, .int .u64 0, .string ⟨#[]⟩]) 6 56 Try.underlying71 chi chz chs chb rfl (by decide) v _ _ hs hown2 ⟨w.heap.size, 0, none⟩ 1 1 (rcv c).toList hx rfl ?_ ?_ (by unfold maxLen; omega) (by omega) (by have := hx0.size; simp; omega) ?_
  · intro j u hu
    rw [Addr.add_lit, Nat.zero_add, cell_of_row _ _ _ _ _ _ (heap_alloc_new w (.cells (rcv c) 124))]
    simpa using hu
  · intro u hu
    exact RcC_one [c] u (by simpa [RcC] using hu)
  intro v2 w3 hown' hgrow _ _
  obtain ⟨g2, cap2, rfl⟩ := ownsRow_succ hown'
  refine h g2 cap2 w3 ((hx0.alloc _).grown hgrow fun k hk => .inr (hown2.lt k hk).1) ?_
  unfold OwnRr
  rw [List.length_append, RcC_append]
  simpa [RcC] using hown'
/-- One cell written in a row of one's own. -/
theorem own_setRr {base : Nat} {w : World} {v : Value} {l : List Cel} {k : Nat} (c : Cel) (h : OwnRr base w v l) (hk : k < l.length) :
    ∃ g cap, v = .slice (some ⟨g, 0, none⟩) l.length cap ∧ base ≤ g ∧ OwnRr base (w.setCells g (k * 6) (rcv c).toList) v (l.set k c) ∧ w.there g (k * 6) 6 := by
  obtain ⟨h1, ⟨rfl, h2⟩ | ⟨g, cap, cur, rfl, hg, hh, hn, hm, hs, ht⟩⟩ := h
  · omega
  refine ⟨g, cap, rfl, hg, ?_, ?_⟩
  · have hvl : (rcv c).toList.length = 6 := by simp [rcv]
    have hle : k * 6 + 6 ≤ l.length * 6 := by omega
    have hle2 : l.length * 6 ≤ cap * 6 := Nat.mul_le_mul_right _ hn
    obtain ⟨cur', k1, k2, k3⟩ := setCells_block g (rcv c).toList (k * 6) w cur hh (by rw [hvl, hs]; omega)
    refine ⟨by rw [RcC_length], .inr ⟨g, cap, cur', by simp, hg, k1, by simpa using hn, hm, by omega, ?_⟩⟩
    have hsplit : RcC (l.set k c) = RcC (l.take k) ++ (rcv c).toList ++ RcC (l.drop (k + 1)) := by
      rw [List.set_eq_take_append_cons_drop, if_pos hk, RcC_append]
      simp [RcC]
    have hl : RcC l = RcC (l.take k) ++ (rcv l[k]).toList ++ RcC (l.drop (k + 1)) := by
      have e0 : l.take k ++ l[k] :: l.drop (k + 1) = l := by rw [← List.drop_eq_getElem_cons hk, List.take_append_drop]
      have e1 := (congrArg RcC e0).symm.trans (RcC_append _ _)
      rw [e1, show RcC (l[k] :: l.drop (k + 1)) = (rcv l[k]).toList ++ RcC (l.drop (k + 1)) from List.flatMap_cons, List.append_assoc]
    have hlt : (RcC (l.take k)).length = k * 6 := by rw [RcC_length, List.length_take, Nat.min_eq_left (by omega)]
    have hv2 : (rcv l[k]).toList.length = 6 := by simp [rcv]
    have hld : (RcC (l.drop (k + 1))).length = l.length * 6 - (k * 6 + 6) := by rw [RcC_length, List.length_drop]; omega
    rw [List.length_set, hsplit, k3, hvl]
    have e1 : cur.toList.take (k * 6) = RcC (l.take k) := by
      have : cur.toList.take (k * 6) = (cur.toList.take (l.length * 6)).take (k * 6) := by rw [List.take_take, Nat.min_eq_left (by omega)]
      rw [this, ht, hl, List.append_assoc, List.take_append, hlt, Nat.sub_self, List.take_zero, List.append_nil, List.take_of_length_le (by omega)]
    have e2 : (cur.toList.take (l.length * 6)).drop (k * 6 + 6) = RcC (l.drop (k + 1)) := by
      rw [ht, hl, List.drop_append, List.drop_of_length_le (by rw [List.length_append]; omega), List.nil_append, List.length_append, hlt, hv2, Nat.sub_self, List.drop_zero]
    rw [← e1, ← e2]
    have hcl : k * 6 ≤ cur.toList.length := by simp; omega
    have hT : (cur.toList.take (k * 6) ++ (rcv c).toList).length = k * 6 + 6 := by rw [List.length_append, List.length_take, hvl, Nat.min_eq_left hcl]
    rw [List.take_append, List.take_of_length_le (by rw [hT]; exact hle), hT, List.drop_take]
  · intro j hj
    have hle2 : l.length * 6 ≤ cap * 6 := Nat.mul_le_mul_right _ hn
    have hj2 : k * 6 + j < cur.size := by rw [hs]; omega
    refine ⟨?_, frozen_of_row w g _ _ _ hh⟩
    rw [cell_of_row w g (k * 6 + j) _ _ _ hh, Array.getElem?_eq_getElem hj2]
    rfl
end Go.Proofs.Ytegclfpmgilnpaa
