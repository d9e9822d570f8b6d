/-
  chunk: the document's Split, Lengths; Count.
-/
import Derived.Test.YtolelgbkohccbaaChkA
import Derived.Maps.AppendAt
import Derived.RangeFuncBox
import Derived.Deep.DeepMust
namespace Go.Proofs.Ytolelgbkohccbaa
open Go.RowKit Go.Lac

theorem run_strtake {P : Program} {t : TypeId} (h : P.underlying t = some .string) (b : List UInt8) (j : Nat) (hj : j ≤ b.length) (w : World) :
    (Instr.sliceAt t (.string ⟨b.toArray⟩) none (some (.int .i64 (j : Nat))) none).run P w = .ok (.string ⟨(b.take j).toArray⟩) w := by
  rw [run_sliceAt_string (h := h), run_slice_string_h w t _ h _ _ (by omega) (by simp [ByteArray.size]; omega), ByteArray.extract_mk]
  simp
theorem run_strdrop {P : Program} {t : TypeId} (h : P.underlying t = some .string) (b : List UInt8) (j : Nat) (hj : j ≤ b.length) (w : World) :
    (Instr.sliceAt t (.string ⟨b.toArray⟩) (some (.int .i64 (j : Nat))) none none).run P w = .ok (.string ⟨(b.drop j).toArray⟩) w := by
  rw [run_sliceAt_string (h := h), run_slice_string_l w t _ h _ _ (by omega) (by simp [ByteArray.size]; omega), ByteArray.extract_mk, List.take_of_length_le (by simp [ByteArray.size])]
  simp
theorem ext_take (b : List UInt8) (j : Nat) : (⟨b.toArray⟩ : ByteArray).extract 0 j = ⟨(b.take j).toArray⟩ := by rw [ByteArray.extract_mk]; simp
theorem ext_drop (b : List UInt8) (j : Nat) : (⟨b.toArray⟩ : ByteArray).extract j (⟨b.toArray⟩ : ByteArray).size = ⟨(b.drop j).toArray⟩ := by rw [ByteArray.extract_mk, List.take_of_length_le (by simp [ByteArray.size])]
def OwnTx (base : Nat) (w : World) (v : Value) (l : List (List UInt8)) : Prop := w.ownsRow base 9 1 v l.length (l.map strV)
theorem OwnTx.ext {base : Nat} {w w' : World} {v : Value} {l : List (List UInt8)} (h : OwnTx base w v l) (k : Ext w w') : OwnTx base w' v l := World.ownsRow.ext h k
theorem OwnTx.tx {base : Nat} {w : World} {v : Value} {l : List (List UInt8)} (h : OwnTx base w v l) : TxS w v l := Sl.ofOwns h
theorem OwnTx.nil (base : Nat) (w : World) : OwnTx base w (.slice none 0 0) [] := World.ownsRow_nil _ _ _ _
def TxPost (l : List (List UInt8)) (w : World) (e : Ending) (w' : World) : Prop := ∃ v, e = .returned v ∧ Ext w w' ∧ OwnTx w.heap.size w' v l
/-- A slice of numbers. -/
def InS (w : World) (v : Value) (l : List Int) : Prop := Sl w v l.length (l.map fun n => .int .i64 n)
theorem InS.ext {w w' : World} {v : Value} {l : List Int} (h : InS w v l) (k : Ext w w') : InS w' v l := Sl.ext h k
theorem InS.shape {w : World} {v : Value} {l : List Int} (h : InS w v l) : ∃ ao cap, v = .slice ao l.length cap ∧ l.length ≤ cap ∧ cap ≤ maxLen := by
  obtain ⟨ao, cap, e, h1, h2, _⟩ := h; exact ⟨ao, cap, e, h1, h2⟩
theorem InS.at {w : World} {ao : Option Addr} {n cap : Nat} {l : List Int} (h : InS w (.slice ao n cap) l) {j : Nat} (hj : j < l.length) :
    ∃ b o, ao = some ⟨b, o, none⟩ ∧ w.cell? ⟨b, o + j, none⟩ = some (.int .i64 l[j]) := by
  obtain ⟨ao', cap', e0, g1, g2, g3, g5⟩ := h
  cases e0
  have hu : (l.map fun n => Value.int .i64 n)[j]? = some (.int .i64 l[j]) := by simp [hj]
  cases ao with
  | none => have := g3 rfl; omega
  | some x => obtain ⟨b, o, rfl, c0⟩ := g5 x rfl _ _ hu; exact ⟨b, o, rfl, c0⟩
def OwnIn (base : Nat) (w : World) (v : Value) (l : List Int) : Prop := w.ownsRow base 3 1 v l.length (l.map fun n => .int .i64 n)
theorem OwnIn.ext {base : Nat} {w w' : World} {v : Value} {l : List Int} (h : OwnIn base w v l) (k : Ext w w') : OwnIn base w' v l := World.ownsRow.ext h k
theorem OwnIn.ins {base : Nat} {w : World} {v : Value} {l : List Int} (h : OwnIn base w v l) : InS w v l := Sl.ofOwns h
def InPost (l : List Int) (w : World) (e : Ending) (w' : World) : Prop := ∃ v, e = .returned v ∧ Ext w w' ∧ OwnIn w.heap.size w' v l

/-- 'append(l, s)', l one's own. -/
theorem wpList_tx {ops : Array Oper} {rest : List Oper} {o : Oper} {a : Act} {Q : Exit → Act → World → Prop} (hgd : o.guard = none) (s x : Operand)
    (ho : o.op = .call { callee := .builtin .append, args := #[s, x], argTypes := #[22, 22] }) {w0 w : World} {v : Value} {l : List (List UInt8)} {q : List UInt8} {sB : ByteArray} (hsB : sB = ⟨q.toArray⟩) (hx0 : Ext w0 w)
    (hown : OwnTx w0.heap.size w v l) (hs : a.eval s = v) (hx : a.eval x = .slice (some ⟨w.heap.size, 0, none⟩) 1 1) (hl : l.length ≤ 200000000)
    (h : ∀ g cap w', Ext w0 w' → OwnTx w0.heap.size w' (.slice (some ⟨g, 0, none⟩) (l.length + 1) cap) (l ++ [q]) → wpList Try.prog ops Q rest (a.put o.dst (.slice (some ⟨g, 0, none⟩) (l.length + 1) cap)) w') :
    wpList Try.prog ops Q (o :: rest) a (w.alloc (.cells #[.string sB] 9)) := by
  subst hsB
  obtain ⟨ci, chi, chz, chs, chb⟩ := info_parts infoStr
  have hown2 : (w.alloc (.cells #[.string ⟨q.toArray⟩] 9)).ownsRow w0.heap.size 9 1 v l.length (l.map strV) := World.ownsRow.alloc hown _
  refine wpList_append_own_at _ hgd s x 22 ho w0.heap.size 9 ci (.string ⟨#[]⟩) 1 16 Try.underlying22 chi chz chs chb rfl (by decide) v _ _ hs hown2 ⟨w.heap.size, 0, none⟩ 1 1 [.string ⟨q.toArray⟩] hx rfl (cell_one_new _ _ _) (by simp [Value.oneCell']) (by unfold maxLen; omega) (by omega) (by have := hx0.size; simp; omega) ?_
  intro v2 w3 hown' hgrow _ _
  obtain ⟨g2, cap2, rfl⟩ := ownsRow_succ hown'
  refine h g2 cap2 w3 ((hx0.alloc _).grown hgrow fun k hk => .inr (hown2.lt k hk).1) ?_
  unfold OwnTx
  rw [List.length_append, List.map_append]
  exact hown'
theorem wpList_in {ops : Array Oper} {rest : List Oper} {o : Oper} {a : Act} {Q : Exit → Act → World → Prop} (hgd : o.guard = none) (s x : Operand)
    (ho : o.op = .call { callee := .builtin .append, args := #[s, x], argTypes := #[32, 32] }) {w0 w : World} {v : Value} {l : List Int} {q : Int} (hx0 : Ext w0 w)
    (hown : OwnIn w0.heap.size w v l) (hs : a.eval s = v) (hx : a.eval x = .slice (some ⟨w.heap.size, 0, none⟩) 1 1) (hl : l.length ≤ 200000000)
    (h : ∀ g cap w', Ext w0 w' → OwnIn w0.heap.size w' (.slice (some ⟨g, 0, none⟩) (l.length + 1) cap) (l ++ [q]) → wpList Try.prog ops Q rest (a.put o.dst (.slice (some ⟨g, 0, none⟩) (l.length + 1) cap)) w') :
    wpList Try.prog ops Q (o :: rest) a (w.alloc (.cells #[.int .i64 q] 3)) := by
  obtain ⟨ci, chi, chz, chs, chb⟩ := info_parts infoInt
  have hown2 : (w.alloc (.cells #[.int .i64 q] 3)).ownsRow w0.heap.size 3 1 v l.length (l.map fun n => .int .i64 n) := World.ownsRow.alloc hown _
  refine wpList_append_own_at _ hgd s x 32 ho w0.heap.size 3 ci (.int .i64 0) 1 8 Try.underlying32 chi chz chs chb rfl (by decide) v _ _ hs hown2 ⟨w.heap.size, 0, none⟩ 1 1 [.int .i64 q] hx rfl (cell_one_new _ _ _) (by simp [Value.oneCell']) (by unfold maxLen; omega) (by omega) (by have := hx0.size; simp; omega) ?_
  intro v2 w3 hown' hgrow _ _
  obtain ⟨g2, cap2, rfl⟩ := ownsRow_succ hown'
  refine h g2 cap2 w3 ((hx0.alloc _).grown hgrow fun k hk => .inr (hown2.lt k hk).1) ?_
  unfold OwnIn
  rw [List.length_append, List.map_append]
  exact hown'

set_option maxRecDepth 20000 in
set_option maxHeartbeats 2000000 in
theorem rSplit_any (v : Value) (l : List (List UInt8)) (w : World) (h : TxS w v l) (hl : l.length ≤ 1000) (hb : ∀ b ∈ l, b.length ≤ 100000) :
    Calls Try.prog 10 #[v] w (TxPost (splitL l) w) := by
  have HT := Lib.hid h; have HB := Lib.hid hb
  obtain ⟨ao, cap, rfl, h1, h2⟩ := h.shape
  obtain ⟨ci, chi, chz, chs, chb⟩ := info_parts infoStr
  have CHI := Lib.hid chi; have CHS := Lib.hid chs; have CHZ := Lib.hid chz; have CHB := Lib.hid chb
  clear h h1 h2 chi chs chz chb hb
  generalize hn : l.length = n at *
  have HN := Lib.hid hn; clear hn
  go_enter Try.func10, Try.ntmps10
  go_wp2
  go_loopw [3, 4] (fun vb ix wr => ∃ k : Nat, k ≤ n ∧ ix = .int .i64 k ∧ Hid (Ext w wr) ∧ Hid (OwnTx w.heap.size wr vb (splitL (l.take k)))) (fun _ ix _ => n - (intOf ix).toNat)
  case atStart => exact ⟨0, Nat.zero_le _, rfl, Lib.hid (Ch.refl _ _), Lib.hid (OwnTx.nil _ _)⟩
  case round =>
    obtain ⟨k, hk, rfl, HX, HO⟩ := hrel
    obtain ⟨vo, vc, rfl⟩ := owns_shape HO.out
    by_cases hlt : k < n
    · have hkl : k < l.length := by have := HN.out; omega
      obtain ⟨b, o, rfl, hc0⟩ := HT.out.at hkl
      have hc := HX.out.cell (p := ⟨b, o + k, none⟩) (fun f => f) _ hc0
      have hidx := run_indexSl wr Try.underlying22 CHI.out CHS.out b o n cap k hlt
      rw [Nat.mul_one] at hidx
      have HTK := Lib.hid (splitL_take_succ l k hkl)
      have HLX := Lib.hid (HB.out l[k] (List.getElem_mem hkl))
      have HLEN : Hid ((splitL (l.take k)).length ≤ 100000000) := Lib.hid (by
        have h1 := splitL_len_le (l := l.take k) (M := 100000) fun b hb => HB.out b (List.mem_of_mem_take hb)
        have h2 : (l.take k).length ≤ 1000 := by rw [List.length_take]; omega
        have := Nat.mul_le_mul_right 100000 h2
        omega)
      generalize l[k] = x at *
      have HLT := Lib.hid hlt
      clear hc0 hkl
      unfold strV at hc
      generalize splitL (l.take k) = S0 at *
      go_wp2
      go_loopw [3, 5] (fun vb vs w2 => ∃ (j : Nat) (y : List UInt8) (s : ByteArray), vs = .string s ∧ Hid (s = ⟨y.toArray⟩) ∧ Hid (y = x.drop (j * 256)) ∧ Hid (j = 0 ∨ j * 256 < x.length) ∧ Hid (Ext w w2) ∧ Hid (OwnTx w.heap.size w2 vb (S0 ++ (pcs x).take j))) (fun _ vs _ => match vs with | .string s => s.size | _ => 0)
      case atStart => exact ⟨0, x, _, rfl, Lib.hid rfl, Lib.hid (by simp), Lib.hid (.inl rfl), HX, Lib.hid (by simpa using HO.out)⟩
      case round =>
        obtain ⟨j, y, s, rfl, HS, HY, HJ, HX2, HO2⟩ := hrel
        obtain ⟨vo2, vc2, rfl⟩ := owns_shape HO2.out
        have HSZ : Hid (s.size = y.length) := Lib.hid (by rw [HS.out]; simp [ByteArray.size])
        have HLQ : Hid ((S0 ++ (pcs x).take j).length ≤ 200000000) := Lib.hid (by have h1 := HLEN.out; have h2 := HLX.out; have := pcs_take_le x j; rw [List.length_append]; omega)
        by_cases hy : 256 < y.length
        · have hy2 : ((s.size : Nat) : Int) > 256 := by have := HSZ.out; omega
          have HMO : Hid ((pcs x).take (j + 1) = (pcs x).take j ++ [y.take 256]) := Lib.hid (by rw [HY.out]; exact pcs_more (by have := congrArg List.length HY.out; simp at this; omega))
          have HYD : Hid (y.drop 256 = x.drop ((j + 1) * 256)) := Lib.hid (by rw [HY.out, List.drop_drop]; congr 1; omega)
          have HJ2 : Hid ((j + 1) * 256 < x.length) := Lib.hid (by have := congrArg List.length HY.out; simp at this; omega)
          have HC1 : Hid (s.extract 0 256 = ⟨(y.take 256).toArray⟩) := Lib.hid (by rw [HS.out, ext_take])
          have HC2 : Hid (s.extract 256 s.size = ⟨(y.drop 256).toArray⟩) := Lib.hid (by rw [HS.out, ext_drop])
          have HMS : Hid (S0 ++ (pcs x).take (j + 1) = S0 ++ (pcs x).take j ++ [y.take 256]) := Lib.hid (by rw [HMO.out, List.append_assoc])
          have HYL := Lib.hid hy
          generalize (S0 ++ (pcs x).take j) = S1 at *
          have hone := fun w => oneTx w (s.extract 0 256)
          clear HMO
          go_wp2_with (at_builtin; go_must (refine wpList_tx rfl _ _ rfl HC1.out HX2.out HO2.out rfl rfl HLQ.out ?_))
          intro g3 cap3 w3 hx3 ho3
          have HX3 := Lib.hid hx3; have HO3 : Hid (OwnTx w.heap.size w3 (.slice (some ⟨g3, 0, none⟩) (S1.length + 1) cap3) (S0 ++ (pcs x).take (j + 1))) := Lib.hid (by rw [HMS.out]; exact ho3)
          clear hx3 ho3 hone
          generalize S1.length + 1 = n3 at *
          go_wp2
          go_roundw
          case rel => exact ⟨j + 1, y.drop 256, _, rfl, HC2, HYD, Lib.hid (.inr HJ2.out), HX3, HO3⟩
          case measure => have h1 := HYL.out; have h2 := HSZ.out; simp; omega
        · have hy2 : ¬ ((s.size : Nat) : Int) > 256 := by have := HSZ.out; omega
          have HFIN : Hid (S0 ++ pcs x = S0 ++ (pcs x).take j ++ (if y = [] then [] else [y])) := Lib.hid (by
            rw [List.append_assoc, HY.out, pcs_last HJ.out (by have := congrArg List.length HY.out; simp at this; omega)])
          generalize (S0 ++ (pcs x).take j) = S1 at *
          by_cases hye : y = []
          · have hne : (s.toList == []) = true := by rw [HS.out, ByteArray.toList_mk, hye]; rfl
            have HO3 : Hid (OwnTx w.heap.size wr (.slice vo2 S1.length vc2) (splitL (l.take (k + 1)))) := Lib.hid (by rw [HTK.out, HFIN.out, if_pos hye, List.append_nil]; exact HO2.out)
            clear hy hye
            go_wp2
            go_roundw
            case rel => exact ⟨k + 1, HLT.out, by simp, HX2, HO3⟩
            case measure => simp [intOf]; have := HLT.out; omega
          · have HO4 : Hid (splitL (l.take (k + 1)) = S1 ++ [y]) := Lib.hid (by rw [HTK.out, HFIN.out, if_neg hye])
            have hne : (s.toList == []) = false := by rw [HS.out, ByteArray.toList_mk]; simpa using hye
            have hone := fun w => oneTx w s
            clear hye hy
            go_wp2_with (at_builtin; go_must (refine wpList_tx rfl _ _ rfl HS.out HX2.out HO2.out rfl rfl HLQ.out ?_))
            intro g3 cap3 w3 hx3 ho3
            have HX3 := Lib.hid hx3; have HO3 : Hid (OwnTx w.heap.size w3 (.slice (some ⟨g3, 0, none⟩) (S1.length + 1) cap3) (splitL (l.take (k + 1)))) := Lib.hid (by rw [HO4.out]; exact ho3)
            clear hx3 ho3 hone
            generalize S1.length + 1 = n3 at *
            go_wp2
            go_roundw
            case rel => exact ⟨k + 1, HLT.out, by simp, HX3, HO3⟩
            case measure => simp [intOf]; have := HLT.out; omega
    · obtain rfl : k = n := by omega
      have HS : Hid (splitL (l.take k) = splitL l) := Lib.hid (by rw [← HN.out, List.take_length])
      go_wp2
      go_ret
      exact ⟨_, rfl, HX.out, by rw [← HS.out]; exact HO.out⟩
end Go.Proofs.Ytolelgbkohccbaa
