/-
  Rows: which of the cells are null. MADE BY mkRowA.py
-/
import Derived.Test.YtegclfpmgilnpaaImgE
namespace Go.Proofs.Ytegclfpmgilnpaa
open Go.RowKit Go.Lac
theorem run_store_complexA {P : Program} {w : World} {a : Addr} {m : Mode} (k : FloatKind) (re im : Nat) : (store a (.complex k re im) m).run P w = stored P w a (.complex k re im) m := run_store P w a _ m rfl
attribute [local go_sem] run_store_complexA

def nullV (c : Cel) : Value := .bool (decide (c.k = 0))
theorem infoBo : (Try.prog.info? 4).map (fun i => (i.zero, i.size, i.bytes)) = some (some (.bool false), 1, 1) := by kernel_rfl
theorem oneBo (w : World) (b : Bool) : (Instr.buildSlice 133 1 #[(0, .bool b)]).run Try.prog w = .ok (.slice (some ⟨w.heap.size, 0, none⟩) 1 1) (w.alloc (.cells #[.bool b] 4)) := by cases b <;> kernel_rfl
def OwnBo (base : Nat) (w : World) (v : Value) (l : List Cel) : Prop := w.ownsRow base 4 1 v l.length (l.map nullV)
theorem OwnBo.ext {base : Nat} {w w' : World} {v : Value} {l : List Cel} (h : OwnBo base w v l) (k : Ext w w') : OwnBo base w' v l := World.ownsRow.ext h k
theorem OwnBo.nil (base : Nat) (w : World) : OwnBo base w (.slice none 0 0) [] := World.ownsRow_nil _ _ _ _
theorem wpList_bo {ops : Array Oper} {rest : List Oper} {o : Oper} {a : Act} {Q : Exit → Act → World → Prop} (hgd : o.guard = none) (s x : Operand)
    (ho : o.op = .call { callee := .builtin .append, args := #[s, x], argTypes := #[133, 133] }) {w0 w : World} {v : Value} {l : List Cel} {c : Cel} {b : Bool} (hb : b = decide (c.k = 0)) (hx0 : Ext w0 w)
    (hown : OwnBo w0.heap.size w v l) (hs : a.eval s = v) {g0 : Nat} (hx : a.eval x = .slice (some ⟨g0, 0, none⟩) 1 1) (hg0 : w.heap.size = g0) (hl : l.length ≤ 200000000)
    (h : ∀ g cap w', Ext w0 w' → OwnBo w0.heap.size w' (.slice (some ⟨g, 0, none⟩) (l.length + 1) cap) (l ++ [c]) → wpList Try.prog ops Q rest (a.put o.dst (.slice (some ⟨g, 0, none⟩) (l.length + 1) cap)) w') :
    wpList Try.prog ops Q (o :: rest) a (w.alloc (.cells #[.bool b] 4)) := by
  subst hb; subst hg0
  obtain ⟨ci, chi, chz, chs, chb⟩ := info_parts infoBo
  have hown2 : (w.alloc (.cells #[.bool (decide (c.k = 0))] 4)).ownsRow w0.heap.size 4 1 v l.length (l.map nullV) := World.ownsRow.alloc hown _
  refine wpList_append_own_at _ hgd s x 133 ho w0.heap.size 4 ci (.bool false) 1 1 Try.underlying133 chi chz chs chb rfl (by decide) v _ _ hs hown2 ⟨w.heap.size, 0, none⟩ 1 1 [nullV c] hx rfl (cell_one_new _ _ _) (by simp [nullV, Value.oneCell']) (by unfold maxLen; omega) (by omega) (by have := hx0.size; simp; omega) ?_
  intro v2 w3 hown' hgrow _ _
  obtain ⟨g2, cap2, rfl⟩ := ownsRow_succ hown'
  refine h g2 cap2 w3 ((hx0.alloc _).grown hgrow fun k hk => .inr (hown2.lt k hk).1) ?_
  unfold OwnBo
  rw [List.length_append, List.map_append]
  exact hown'
set_option maxRecDepth 20000 in
set_option maxHeartbeats 4000000 in
theorem nulls_any (v : Value) (l : List Cel) (w : World) (h : PcS w v l) (hl : l.length ≤ 100000) :
    Calls Try.prog 62 #[v] w fun e w' => ∃ y, e = .returned y ∧ Ext w w' ∧ OwnBo w.heap.size w' y l := by
  have HT := Lib.hid h; have HLL := Lib.hid hl
  obtain ⟨ao, cap, rfl, h1, h2⟩ := h.shape
  obtain ⟨ci, chi, chz, chs, chb⟩ := info_parts infoPrZ
  have CHI := Lib.hid chi; have CHS := Lib.hid chs
  have hm1 : l.length ≤ 9223372036854775807 := by omega
  clear h h1 h2 chi chz chs chb hl
  generalize hn : l.length = n at *
  have HN := Lib.hid hn; clear hn
  go_enter Try.func62, Try.ntmps62
  go_wp2
  go_loopw [3, 8] (fun vb ix wr => ∃ k : Nat, k ≤ n ∧ ix = .int .i64 k ∧ Hid (Ext w wr) ∧ Hid (OwnBo w.heap.size wr vb (l.take k))) (fun _ ix _ => n - (intOf ix).toNat)
  case atStart => exact ⟨0, Nat.zero_le _, rfl, Lib.hid (Ch.refl _ _), Lib.hid (OwnBo.nil _ _)⟩
  case round =>
    obtain ⟨k, hk, rfl, HX, HO⟩ := hrel
    obtain ⟨vo, vc, rfl⟩ := owns_shape HO.out
    by_cases hlt : k < n
    · have hkl : k < l.length := by have := HN.out; omega
      obtain ⟨b, o, rfl, hra0⟩ := HT.out.at hkl
      have hra := rangeAt_ext hra0 HX.out
      have hidx := run_indexSl wr Try.underlying74 CHI.out CHS.out b o n cap k hlt
      have HTK : Hid (l.take (k + 1) = l.take k ++ [l[k]]) := Lib.hid (List.take_succ_eq_append_getElem hkl)
      have HLQ : Hid ((l.take k).length ≤ 200000000) := Lib.hid (by have := HLL.out; rw [List.length_take]; omega)
      generalize l[k] = x at *
      generalize l.take k = S0 at *
      have q0 : wr.cell? ⟨b, o + k * 5, none⟩ = some (.int .u8 (x.k : Nat)) := by have := hra 0 _ rfl; simpa using this
      have q1 : wr.cell? ⟨b, o + k * 5 + 1, none⟩ = some (.int .u8 (x.v.ty : Nat)) := hra 1 _ rfl
      have q2 : wr.cell? ⟨b, o + k * 5 + 2, none⟩ = some (.int .i64 x.v.i) := hra 2 _ rfl
      have q3 : wr.cell? ⟨b, o + k * 5 + 3, none⟩ = some (.complex .f64 x.v.re x.v.im) := hra 3 _ rfl
      have q4 : wr.cell? ⟨b, o + k * 5 + 4, none⟩ = some (.string ⟨x.v.t.toArray⟩) := hra 4 _ rfl
      have HLT := Lib.hid hlt
      clear hra0 hra hkl
      by_cases h0 : x.k = 0
      · have q0' : wr.cell? ⟨b, o + k * 5, none⟩ = some (.int .u8 0) := by rw [q0, h0]; rfl
        have HD : Hid (true = decide (x.k = 0)) := Lib.hid (decide_eq_true h0).symm
        have HXA : Hid (Ext w (wr.alloc (.cells #[.int .u8 0, .int .u8 (x.v.ty : Nat), .int .i64 x.v.i, .complex .f64 x.v.re x.v.im, .string ⟨x.v.t.toArray⟩] 129))) := Lib.hid (HX.out.alloc _)
        have HOA : Hid (OwnBo w.heap.size (wr.alloc (.cells #[.int .u8 0, .int .u8 (x.v.ty : Nat), .int .i64 x.v.i, .complex .f64 x.v.re x.v.im, .string ⟨x.v.t.toArray⟩] 129)) (.slice vo S0.length vc) S0) := Lib.hid (HO.out.ext ((Ch.refl _ _).alloc _))
        have hone := fun w => oneBo w true
        clear q0 h0
        go_wp2_with (at_builtin; go_must (refine wpList_bo rfl _ _ rfl HD.out HXA.out HOA.out rfl rfl (by simp) HLQ.out ?_))
        intro g3 cap3 w3 hx3 ho3
        have HX3 := Lib.hid hx3; have HO3 : Hid (OwnBo w.heap.size w3 (.slice (some ⟨g3, 0, none⟩) (S0.length + 1) cap3) (l.take (k + 1))) := Lib.hid (by rw [HTK.out]; exact ho3)
        clear hx3 ho3 hone
        generalize S0.length + 1 = n3 at *
        go_wp2
        go_roundw
        case rel => exact ⟨k + 1, HLT.out, by simp, HX3, HO3⟩
        case measure => simp [intOf]; have := HLT.out; omega
      · have e0 : (((x.k : Nat) : Int) == 0) = false := beq_eq_false_iff_ne.2 (by omega)
        have HD : Hid (false = decide (x.k = 0)) := Lib.hid (decide_eq_false h0).symm
        have HXA : Hid (Ext w (wr.alloc (.cells #[.int .u8 (x.k : Nat), .int .u8 (x.v.ty : Nat), .int .i64 x.v.i, .complex .f64 x.v.re x.v.im, .string ⟨x.v.t.toArray⟩] 129))) := Lib.hid (HX.out.alloc _)
        have HOA : Hid (OwnBo w.heap.size (wr.alloc (.cells #[.int .u8 (x.k : Nat), .int .u8 (x.v.ty : Nat), .int .i64 x.v.i, .complex .f64 x.v.re x.v.im, .string ⟨x.v.t.toArray⟩] 129)) (.slice vo S0.length vc) S0) := Lib.hid (HO.out.ext ((Ch.refl _ _).alloc _))
        have hone := fun w => oneBo w false
        clear h0
        go_wp2_with (at_builtin; go_must (refine wpList_bo rfl _ _ rfl HD.out HXA.out HOA.out rfl rfl (by simp) HLQ.out ?_))
        intro g3 cap3 w3 hx3 ho3
        have HX3 := Lib.hid hx3; have HO3 : Hid (OwnBo w.heap.size w3 (.slice (some ⟨g3, 0, none⟩) (S0.length + 1) cap3) (l.take (k + 1))) := Lib.hid (by rw [HTK.out]; exact ho3)
        clear hx3 ho3 hone
        generalize S0.length + 1 = n3 at *
        go_wp2
        go_roundw
        case rel => exact ⟨k + 1, HLT.out, by simp, HX3, HO3⟩
        case measure => simp [intOf]; have := HLT.out; omega
    · obtain rfl : k = n := by omega
      have HS : Hid (l.take k = l) := Lib.hid (by rw [← HN.out, List.take_length])
      have HF : Hid (OwnBo w.heap.size wr (.slice vo (l.take k).length vc) l) := Lib.hid (by have := HO.out; rw [HS.out] at this ⊢; exact this)
      go_wp2
      go_ret
      exact ⟨_, rfl, HX.out, HF.out⟩
end Go.Proofs.Ytegclfpmgilnpaa
