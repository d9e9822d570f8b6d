import Derived.Test.YtegclfpmgilnpaaGreatImgA
import Derived.BigQuiet
import Derived.Deep.QuietTactic
namespace Go.Proofs.YtegclfpmgilnpaaGreat
open Go.RowKit Go.Lac
theorem mixedR : Tryz.prog.follows .mixedOrders = true := by kernel_rfl
def two (f : Cel → Col → Nat) (w : List Cel) (cs : List Col) (j : Nat) : Nat := match w[j]?, cs[j]? with | some c, some q => f c q | _, _ => 0
theorem two_at (f : Cel → Col → Nat) {w : List Cel} {cs : List Col} {j : Nat} (h : j < w.length) (h' : j < cs.length) : two f w cs j = f w[j] cs[j] := by
  unfold two; rw [List.getElem?_eq_getElem h, List.getElem?_eq_getElem h']
def fitC (c : Cel) (q : Col) : Nat := cErr c q.ty
def keyC (c : Cel) (q : Col) : Nat := if q.key = true then (if c.k = 0 then 12 else if c.k = 1 then 13 else 0) else 0
def isKeyC (c : Cel) (q : Col) : Nat := if q.key = false ∧ c.k ≠ 0 then 14 else 0
def isFullC (c : Cel) (_ : Col) : Nat := if c.k = 1 then 14 else 0
def fitsE (r : Rl) (w : List Cel) : Nat := if rlErr r ≠ 0 then rlErr r else if w.length ≠ r.cols.length then 17 else firstN (two fitC w r.cols) w.length
def keyedE (r : Rl) (w : List Cel) : Nat := if fitsE r w ≠ 0 then fitsE r w else firstN (two keyC w r.cols) w.length
def isKeyE (r : Rl) (w : List Cel) : Nat := if keyedE r w ≠ 0 then keyedE r w else firstN (two isKeyC w r.cols) w.length
def isFullE (r : Rl) (w : List Cel) : Nat := if keyedE r w ≠ 0 then keyedE r w else firstN (two isFullC w r.cols) w.length
def isKeyAt (cs : List Col) (j : Nat) : Bool := match cs[j]? with | some q => q.key | none => false
def kc (cs : List Col) (w : List Cel) (j : Nat) : Cel := if isKeyAt cs j = true then w.getD j Cel.zero else Cel.zero
def keyOf (cs : List Col) (w : List Cel) : List Cel := (List.range w.length).map (kc cs w)
def mc (b a : List Cel) (j : Nat) : Cel := if (a.getD j Cel.zero).k = 1 ∧ j < b.length then b.getD j Cel.zero else a.getD j Cel.zero
def mergeL (b a : List Cel) : List Cel := (List.range a.length).map (mc b a)
set_option maxRecDepth 20000 in
set_option maxHeartbeats 2000000 in
theorem own10_any (v : Value) (l : List Cel) (w : World) (h : RcS w v l) (hl : l.length ≤ 100000) :
    Calls Tryz.prog 19 #[v] w (PrPost l w) := by
  have HT := Lib.hid h; have HLL := Lib.hid hl
  obtain ⟨ao, cap, rfl, h1, h2⟩ := h.shape
  obtain ⟨ci, chi, chz, chs, chb⟩ := info_parts infoRrZ
  have CHI := Lib.hid chi; have CHS := Lib.hid chs
  have hm1 : l.length ≤ 9223372036854775807 := by omega
  clear h h1 h2 chi chz chs chb hl
  generalize hn : l.length = n at *
  have HN := Lib.hid hn; clear hn
  go_enter Tryz.func19, Tryz.ntmps19
  go_wp2
  go_loopw [3, 4] (fun vb ix wr => ∃ k : Nat, k ≤ n ∧ ix = .int .i64 k ∧ Hid (Ext w wr) ∧ Hid (OwnPr w.heap.size wr vb (l.take k))) (fun _ ix _ => n - (intOf ix).toNat)
  case atStart => exact ⟨0, Nat.zero_le _, rfl, Lib.hid (Ch.refl _ _), Lib.hid (OwnPr.nil _ _)⟩
  case round =>
    obtain ⟨k, hk, rfl, HX, HO⟩ := hrel
    obtain ⟨vo, vc, rfl⟩ := owns_shape HO.out
    by_cases hlt : k < n
    · have hkl : k < l.length := by have := HN.out; omega
      obtain ⟨b, o, rfl, hra0⟩ := HT.out.at hkl
      have hra : wr.rangeAt b (o + k * 6) (rcv l[k]).toList := fun j u hu => HX.out.cell (p := ⟨b, o + k * 6 + j, none⟩) (fun f => f) _ (hra0 j u hu)
      have hidx := run_indexSl wr Tryz.underlying45 CHI.out CHS.out b o n cap k hlt
      have HTK : Hid (l.take (k + 1) = l.take k ++ [l[k]]) := Lib.hid (List.take_succ_eq_append_getElem hkl)
      have HLQ : Hid ((l.take k).length ≤ 200000000) := Lib.hid (by have := HLL.out; rw [List.length_take]; omega)
      generalize l[k] = x at *
      generalize l.take k = S0 at *
      have q0 : wr.cell? ⟨b, o + k * 6, none⟩ = some (.int .u8 (x.k : Nat)) := by have := hra 0 _ rfl; simpa using this
      have q1 : wr.cell? ⟨b, o + k * 6 + 1, none⟩ = some (.int .u8 (x.v.ty : Nat)) := hra 1 _ rfl
      have q2 : wr.cell? ⟨b, o + k * 6 + 2, none⟩ = some (.int .i64 x.v.i) := hra 2 _ rfl
      have q3 : wr.cell? ⟨b, o + k * 6 + 3, none⟩ = some (.int .u64 (x.v.re : Nat)) := hra 3 _ rfl
      have q4 : wr.cell? ⟨b, o + k * 6 + 4, none⟩ = some (.int .u64 (x.v.im : Nat)) := hra 4 _ rfl
      have q5 : wr.cell? ⟨b, o + k * 6 + 5, none⟩ = some (.string ⟨x.v.t.toArray⟩) := hra 5 _ rfl
      have HOX := Lib.hid (own7_any x wr)
      have HLT := Lib.hid hlt
      clear hra0 hra hkl
      unfold rc rcv strV at HOX
      go_wp2_with fail
      refine HOX.out.mono ?_
      rintro e w2 ⟨rfl, hx2⟩
      have HX2 := Lib.hid (HX.out.trans hx2); have HO2 := Lib.hid (HO.out.ext hx2)
      have hone := fun w => onePr w x
      clear hx2 HOX q0 q1 q2 q3 q4 q5 hidx
      unfold pc pcv strV at *
      go_wp2_with (at_builtin; go_must (refine wpList_apPr rfl _ _ rfl rfl HX2.out HO2.out rfl rfl HLQ.out ?_))
      intro g3 cap3 w3 hx3 ho3
      have HX3 := Lib.hid hx3; have HO3 : Hid (OwnPr w.heap.size w3 (.slice (some ⟨g3, 0, none⟩) (S0.length + 1) cap3) (l.take (k + 1))) := Lib.hid (by rw [HTK.out]; exact ho3)
      clear hx3 ho3 hone
      generalize S0.length + 1 = n3 at *
      go_wp2
      go_roundw
      case rel => exact ⟨k + 1, HLT.out, by simp, HX3, HO3⟩
      case measure => simp [intOf]; have := HLT.out; omega
    · obtain rfl : k = n := by omega
      have HS : Hid (l.take k = l) := Lib.hid (by rw [← HN.out, List.take_length])
      have HF : Hid (OwnPr w.heap.size wr (.slice vo (l.take k).length vc) l) := Lib.hid (by have := HO.out; rw [HS.out] at this ⊢; exact this)
      go_wp2
      go_ret
      exact ⟨_, rfl, HX.out, HF.out⟩
set_option maxRecDepth 20000 in
set_option maxHeartbeats 2000000 in
theorem back10_any (v : Value) (l : List Cel) (w : World) (h : PcS w v l) (hl : l.length ≤ 100000) :
    Calls Tryz.prog 12 #[v] w (RrPost l w) := by
  have HT := Lib.hid h; have HLL := Lib.hid hl
  obtain ⟨ao, cap, rfl, h1, h2⟩ := h.shape
  obtain ⟨ci, chi, chz, chs, chb⟩ := info_parts infoPrZ
  have CHI := Lib.hid chi; have CHS := Lib.hid chs
  have hm1 : l.length ≤ 9223372036854775807 := by omega
  clear h h1 h2 chi chz chs chb hl
  generalize hn : l.length = n at *
  have HN := Lib.hid hn; clear hn
  go_enter Tryz.func12, Tryz.ntmps12
  go_wp2
  go_loopw [3, 4] (fun vb ix wr => ∃ k : Nat, k ≤ n ∧ ix = .int .i64 k ∧ Hid (Ext w wr) ∧ Hid (OwnRr w.heap.size wr vb (l.take k))) (fun _ ix _ => n - (intOf ix).toNat)
  case atStart => exact ⟨0, Nat.zero_le _, rfl, Lib.hid (Ch.refl _ _), Lib.hid (OwnRr.nil _ _)⟩
  case round =>
    obtain ⟨k, hk, rfl, HX, HO⟩ := hrel
    obtain ⟨vo, vc, rfl⟩ := owns_shape HO.out
    by_cases hlt : k < n
    · have hkl : k < l.length := by have := HN.out; omega
      obtain ⟨b, o, rfl, hra0⟩ := HT.out.at hkl
      have hra : wr.rangeAt b (o + k * 5) (pcv l[k]).toList := fun j u hu => HX.out.cell (p := ⟨b, o + k * 5 + j, none⟩) (fun f => f) _ (hra0 j u hu)
      have hidx := run_indexSl wr Tryz.underlying36 CHI.out CHS.out b o n cap k hlt
      have HTK : Hid (l.take (k + 1) = l.take k ++ [l[k]]) := Lib.hid (List.take_succ_eq_append_getElem hkl)
      have HLQ : Hid ((l.take k).length ≤ 200000000) := Lib.hid (by have := HLL.out; rw [List.length_take]; omega)
      generalize l[k] = x at *
      generalize l.take k = S0 at *
      have q0 : wr.cell? ⟨b, o + k * 5, none⟩ = some (.int .u8 (x.k : Nat)) := by have := hra 0 _ rfl; simpa using this
      have q1 : wr.cell? ⟨b, o + k * 5 + 1, none⟩ = some (.int .u8 (x.v.ty : Nat)) := hra 1 _ rfl
      have q2 : wr.cell? ⟨b, o + k * 5 + 2, none⟩ = some (.int .i64 x.v.i) := hra 2 _ rfl
      have q3 : wr.cell? ⟨b, o + k * 5 + 3, none⟩ = some (.complex .f64 x.v.re x.v.im) := hra 3 _ rfl
      have q4 : wr.cell? ⟨b, o + k * 5 + 4, none⟩ = some (.string ⟨x.v.t.toArray⟩) := hra 4 _ rfl
      have HOX := Lib.hid (back7_any x wr)
      have HLT := Lib.hid hlt
      clear hra0 hra hkl
      unfold pc pcv strV at HOX
      go_wp2_with fail
      refine HOX.out.mono ?_
      rintro e w2 ⟨rfl, hx2⟩
      have HX2 := Lib.hid (HX.out.trans hx2); have HO2 := Lib.hid (HO.out.ext hx2)
      have hone := fun w => oneRr w x
      clear hx2 HOX q0 q1 q2 q3 q4 hidx
      unfold rc rcv strV at *
      go_wp2_with (at_builtin; go_must (refine wpList_apRr rfl _ _ rfl rfl HX2.out HO2.out rfl rfl HLQ.out ?_))
      intro g3 cap3 w3 hx3 ho3
      have HX3 := Lib.hid hx3; have HO3 : Hid (OwnRr w.heap.size w3 (.slice (some ⟨g3, 0, none⟩) (S0.length + 1) cap3) (l.take (k + 1))) := Lib.hid (by rw [HTK.out]; exact ho3)
      clear hx3 ho3 hone
      generalize S0.length + 1 = n3 at *
      go_wp2
      go_roundw
      case rel => exact ⟨k + 1, HLT.out, by simp, HX3, HO3⟩
      case measure => simp [intOf]; have := HLT.out; omega
    · obtain rfl : k = n := by omega
      have HS : Hid (l.take k = l) := Lib.hid (by rw [← HN.out, List.take_length])
      have HF : Hid (OwnRr w.heap.size wr (.slice vo (l.take k).length vc) l) := Lib.hid (by have := HO.out; rw [HS.out] at this ⊢; exact this)
      go_wp2
      go_ret
      exact ⟨_, rfl, HX.out, HF.out⟩
end Go.Proofs.YtegclfpmgilnpaaGreat
