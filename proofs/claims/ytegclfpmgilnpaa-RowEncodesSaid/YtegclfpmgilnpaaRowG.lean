/-
  Rows: which cells are large, as holes and as texts; append to a list of one's own of the document's holes, of texts.
-/
import Derived.Test.YtegclfpmgilnpaaRowF
import Derived.Maps.AppendAt
namespace Go.Proofs.Ytegclfpmgilnpaa
open Go.RowKit Go.Lac

def holesL (l : List Cel) : List Ho := (l.zipIdx.filter fun p => cLarge p.1).map fun p => ⟨(p.2 : Int), (p.1.v.t.length : Int)⟩
def textsL (l : List Cel) : List (List UInt8) := (l.filter cLarge).map fun c => c.v.t
theorem holesL_snoc (l : List Cel) (c : Cel) : holesL (l ++ [c]) = holesL l ++ (if cLarge c = true then [⟨(l.length : Int), (c.v.t.length : Int)⟩] else []) := by
  unfold holesL
  rw [List.zipIdx_append, List.filter_append, List.map_append]
  congr 1
  cases h : cLarge c <;> simp [h]
theorem textsL_snoc (l : List Cel) (c : Cel) : textsL (l ++ [c]) = textsL l ++ (if cLarge c = true then [c.v.t] else []) := by
  unfold textsL
  rw [List.filter_append, List.map_append]
  congr 1
  cases h : cLarge c <;> simp [h]
theorem holesL_take {l : List Cel} {k : Nat} (h : k < l.length) : holesL (l.take (k + 1)) = holesL (l.take k) ++ (if cLarge l[k] = true then [⟨(k : Int), (l[k].v.t.length : Int)⟩] else []) := by
  rw [List.take_succ_eq_append_getElem h, holesL_snoc, List.length_take, Nat.min_eq_left (by omega)]
theorem textsL_take {l : List Cel} {k : Nat} (h : k < l.length) : textsL (l.take (k + 1)) = textsL (l.take k) ++ (if cLarge l[k] = true then [l[k].v.t] else []) := by
  rw [List.take_succ_eq_append_getElem h, textsL_snoc]
theorem holesL_length (l : List Cel) : (holesL l).length ≤ l.length := by
  unfold holesL
  rw [List.length_map]
  exact Nat.le_trans (List.length_filter_le _ _) (by simp)
theorem textsL_length (l : List Cel) : (textsL l).length ≤ l.length := by
  unfold textsL
  rw [List.length_map]
  exact List.length_filter_le _ _
theorem oneTxR (w : World) (A : ByteArray) : (Instr.buildSlice 82 1 #[(0, .string A)]).run Try.prog w = .ok (.slice (some ⟨w.heap.size, 0, none⟩) 1 1) (w.alloc (.cells #[.string A] 9)) := by kernel_rfl
theorem oneHoR (w : World) (c s : Int) : (Instr.buildSlice 81 1 #[(0, .agg #[.int .i64 c, .int .i64 s])]).run Try.prog w = .ok (.slice (some ⟨w.heap.size, 0, none⟩) 1 1) (w.alloc (.cells #[.int .i64 c, .int .i64 s] 92)) := by kernel_rfl
theorem bldHoR (w : World) (c s : Int) : (Instr.build 92 #[(0, .int .i64 c), (1, .int .i64 s)]).run Try.prog w = .ok (.agg #[.int .i64 c, .int .i64 s]) w := by kernel_rfl
/-- Lists of one's own whose cells have different types lie apart. -/
theorem own_apart {w : World} {b1 b2 : Nat} {E1 E2 : TypeId} {s1 s2 n1 n2 : Nat} {v1 v2 : Value} {xs1 xs2 : List Value} (hE : E1 ≠ E2) (h1 : w.ownsRow b1 E1 s1 v1 n1 xs1) (h2 : w.ownsRow b2 E2 s2 v2 n2 xs2) :
    v2.ownBlock = none ∨ v2.ownBlock ≠ v1.ownBlock := by
  obtain ⟨_, ⟨rfl, _⟩ | ⟨g2, c2, cur2, rfl, _, e2, _⟩⟩ := h2
  · left; rfl
  · obtain ⟨_, ⟨rfl, _⟩ | ⟨g1, c1, cur1, rfl, _, e1, _⟩⟩ := h1
    · right; simp [Value.ownBlock]
    · right
      intro h
      simp [Value.ownBlock] at h
      subst h
      rw [e1] at e2
      simp at e2
      exact hE e2.2
def OwnHoR (base : Nat) (w : World) (v : Value) (l : List Ho) : Prop := w.ownsRow base 92 2 v l.length (HoC l)
def OwnTxR (base : Nat) (w : World) (v : Value) (l : List (List UInt8)) : Prop := w.ownsRow base 9 1 v l.length (l.map strV)
theorem OwnHoR.ext {base : Nat} {w w' : World} {v : Value} {l : List Ho} (h : OwnHoR base w v l) (k : Ext w w') : OwnHoR base w' v l := World.ownsRow.ext h k
theorem OwnTxR.ext {base : Nat} {w w' : World} {v : Value} {l : List (List UInt8)} (h : OwnTxR base w v l) (k : Ext w w') : OwnTxR base w' v l := World.ownsRow.ext h k
/-- 'append(l, h)', l one's own, a list of texts kept. -/
theorem wpList_hoR {ops : Array Oper} {rest : List Oper} {o : Oper} {a : Act} {Q : Exit → Act → World → Prop} (hgd : o.guard = none) (s x : Operand)
    (ho : o.op = .call { callee := .builtin .append, args := #[s, x], argTypes := #[81, 81] }) {w0 w : World} {v vb : Value} {l : List Ho} {m : List (List UInt8)} {c z : Int} (hx0 : Ext w0 w)
    (hown : OwnHoR w0.heap.size w v l) (hb : OwnTxR w0.heap.size w vb m) (hs : a.eval s = v) (hx : a.eval x = .slice (some ⟨w.heap.size, 0, none⟩) 1 1) (hl : l.length ≤ 200000000)
    (h : ∀ g cap w', Ext w0 w' → OwnHoR w0.heap.size w' (.slice (some ⟨g, 0, none⟩) (l.length + 1) cap) (l ++ [⟨c, z⟩]) → OwnTxR w0.heap.size w' vb m → wpList Try.prog ops Q rest (a.put o.dst (.slice (some ⟨g, 0, none⟩) (l.length + 1) cap)) w') :
    wpList Try.prog ops Q (o :: rest) a (w.alloc (.cells #[.int .i64 c, .int .i64 z] 92)) := by
  obtain ⟨ci, chi, chz, chs, chb⟩ := info_parts infoHoR
  have hown2 : (w.alloc (.cells #[.int .i64 c, .int .i64 z] 92)).ownsRow w0.heap.size 92 2 v l.length (HoC l) := World.ownsRow.alloc hown _
  have hb2 : (w.alloc (.cells #[.int .i64 c, .int .i64 z] 92)).ownsRow w0.heap.size 9 1 vb m.length (m.map strV) := World.ownsRow.alloc hb _
  have hsl : Sl (w.alloc (.cells #[.int .i64 c, .int .i64 z] 92)) (.slice (some ⟨w.heap.size, 0, none⟩) 1 1) 1 [.int .i64 c, .int .i64 z] := Sl.ofOwns (base := 0) (e := 92) (size := 2) (World.ownsRow_lit w #[.int .i64 c, .int .i64 z] 1 (Nat.zero_le _) (by decide) rfl)
  refine wpList_append_sl _ hgd s x 81 ho w0.heap.size 92 ci (.agg #[.int .i64 0, .int .i64 0]) 2 16 Try.underlying81 chi chz chs chb rfl (by decide) v _ _ hs hown2 _ 1 _ hx hsl rfl (by intro u hu; simp at hu; rcases hu with rfl | rfl <;> rfl) (by omega) (by unfold maxLen; omega) (by have := hx0.size; simp; omega) ?_
  intro v2 w3 hown' hgrow
  obtain ⟨g2, cap2, rfl⟩ := ownsRow_succ hown'
  refine h g2 cap2 w3 ((hx0.alloc _).grown hgrow fun k hk => .inr (hown2.lt k hk).1) ?_ (World.ownsRow.kept hb2 hgrow (own_apart (by decide) hown2 hb2))
  unfold OwnHoR
  rw [List.length_append, HoC_append]
  exact hown'
/-- 'append(l, t)', l one's own, a list of holes kept. -/
theorem wpList_txR {ops : Array Oper} {rest : List Oper} {o : Oper} {a : Act} {Q : Exit → Act → World → Prop} (hgd : o.guard = none) (s x : Operand)
    (ho : o.op = .call { callee := .builtin .append, args := #[s, x], argTypes := #[82, 82] }) {w0 w : World} {v vb : Value} {l : List (List UInt8)} {m : List Ho} {q : List UInt8} {sB : ByteArray} (hsB : sB = ⟨q.toArray⟩) (hx0 : Ext w0 w)
    (hown : OwnTxR w0.heap.size w v l) (hb : OwnHoR w0.heap.size w vb m) (hs : a.eval s = v) (hx : a.eval x = .slice (some ⟨w.heap.size, 0, none⟩) 1 1) (hl : l.length ≤ 200000000)
    (h : ∀ g cap w', Ext w0 w' → OwnTxR w0.heap.size w' (.slice (some ⟨g, 0, none⟩) (l.length + 1) cap) (l ++ [q]) → OwnHoR w0.heap.size w' vb m → wpList Try.prog ops Q rest (a.put o.dst (.slice (some ⟨g, 0, none⟩) (l.length + 1) cap)) w') :
    wpList Try.prog ops Q (o :: rest) a (w.alloc (.cells #[.string sB] 9)) := by
  subst hsB
  obtain ⟨ci, chi, chz, chs, chb⟩ := info_parts infoStrR
  have hown2 : (w.alloc (.cells #[.string ⟨q.toArray⟩] 9)).ownsRow w0.heap.size 9 1 v l.length (l.map strV) := World.ownsRow.alloc hown _
  have hb2 : (w.alloc (.cells #[.string ⟨q.toArray⟩] 9)).ownsRow w0.heap.size 92 2 vb m.length (HoC m) := World.ownsRow.alloc hb _
  have hsl : Sl (w.alloc (.cells #[.string ⟨q.toArray⟩] 9)) (.slice (some ⟨w.heap.size, 0, none⟩) 1 1) 1 [.string ⟨q.toArray⟩] := Sl.ofOwns (base := 0) (e := 9) (size := 1) (World.ownsRow_lit w #[.string ⟨q.toArray⟩] 1 (Nat.zero_le _) (by decide) rfl)
  refine wpList_append_sl _ hgd s x 82 ho w0.heap.size 9 ci (.string ⟨#[]⟩) 1 16 Try.underlying82 chi chz chs chb rfl (by decide) v _ _ hs hown2 _ 1 _ hx hsl rfl (by intro u hu; simp at hu; subst hu; rfl) (by omega) (by unfold maxLen; omega) (by have := hx0.size; simp; omega) ?_
  intro v2 w3 hown' hgrow
  obtain ⟨g2, cap2, rfl⟩ := ownsRow_succ hown'
  refine h g2 cap2 w3 ((hx0.alloc _).grown hgrow fun k hk => .inr (hown2.lt k hk).1) ?_ (World.ownsRow.kept hb2 hgrow (own_apart (by decide) hown2 hb2))
  unfold OwnTxR
  rw [List.length_append, List.map_append]
  exact hown'
end Go.Proofs.Ytegclfpmgilnpaa
