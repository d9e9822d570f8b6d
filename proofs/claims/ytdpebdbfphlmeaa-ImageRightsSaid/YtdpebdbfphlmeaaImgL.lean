/-
  Images: Merge; the document's KeyOf and Merge. MADE BY mkImgL.py
-/
import Derived.Test.YtdpebdbfphlmeaaImgG
namespace Go.Proofs.Ytdpebdbfphlmeaa
open Go.RowKit Go.Lac

theorem kc_key {cs : List Col} {w : List Cel} {j : Nat} (h : j < cs.length) (hw : j < w.length) (hk : cs[j].key = true) : kc cs w j = w[j] := by
  unfold kc isKeyAt; rw [List.getElem?_eq_getElem h, if_pos hk, getD_at hw]
theorem kc_not {cs : List Col} {w : List Cel} {j : Nat} (h : j < cs.length) (hk : cs[j].key = false) : kc cs w j = Cel.zero := by
  unfold kc isKeyAt; rw [List.getElem?_eq_getElem h, if_neg (by simp [hk])]
theorem kc_far {cs : List Col} {w : List Cel} {j : Nat} (h : cs.length ≤ j) : kc cs w j = Cel.zero := by
  unfold kc isKeyAt; rw [List.getElem?_eq_none h, if_neg (by decide)]
theorem mc_same {b a : List Cel} {j : Nat} (ha : j < a.length) (hb : j < b.length) (h : a[j].k = 1) : mc b a j = b[j] := by
  unfold mc; rw [getD_at ha, if_pos ⟨h, hb⟩, getD_at hb]
theorem mc_far {b a : List Cel} {j : Nat} (ha : j < a.length) (hb : ¬ j < b.length) : mc b a j = a[j] := by
  unfold mc; rw [getD_at ha, if_neg (fun h => hb h.2)]
theorem mc_not {b a : List Cel} {j : Nat} (ha : j < a.length) (h : ¬ a[j].k = 1) : mc b a j = a[j] := by
  unfold mc; rw [getD_at ha, if_neg (fun h' => h h'.1)]
theorem map_succ (f : Nat → Cel) (k : Nat) : (List.range (k + 1)).map f = (List.range k).map f ++ [f k] := by rw [List.range_succ, List.map_append]; rfl
theorem buildRc0 (w : World) : (Instr.build 65 #[]).run Try.prog w = .ok (.agg #[.int .u8 0, .int .u8 0, .int .i64 0, .int .u64 0, .int .u64 0, .string ⟨#[]⟩]) w := by kernel_rfl
theorem oneRc0 (w : World) : (Instr.buildSlice 28 1 #[(0, .agg #[.int .u8 0, .int .u8 0, .int .i64 0, .int .u64 0, .int .u64 0, .string ⟨#[]⟩])]).run Try.prog w = .ok (.slice (some ⟨w.heap.size, 0, none⟩) 1 1) (w.alloc (.cells #[.int .u8 0, .int .u8 0, .int .i64 0, .int .u64 0, .int .u64 0, .string ⟨#[]⟩] 65)) := by kernel_rfl
theorem u8_tL {a : Nat} {z : Int} (h : (a : Int) = z) : (((a : Nat) : Int) == z) = true := by rw [h]; simp
theorem u8_fL {a : Nat} {z : Int} (h : (a : Int) ≠ z) : (((a : Nat) : Int) == z) = false := beq_eq_false_iff_ne.2 h
set_option maxRecDepth 20000 in
set_option maxHeartbeats 4000000 in
theorem rmerge_any (vb va : Value) (b a : List Cel) (w : World) (hb : RcS w vb b) (ha : RcS w va a) (hl : a.length ≤ 100000) :
    Calls Try.prog 23 #[vb, va] w (RrPost (mergeL b a) w) := by
  have HB := Lib.hid hb; have HA := Lib.hid ha; have HLL := Lib.hid hl
  obtain ⟨bo, bcap, rfl, k1, k2⟩ := hb.shape
  obtain ⟨ao, acap, rfl, k3, k4⟩ := ha.shape
  obtain ⟨ci, chi, _, chs, _⟩ := info_parts infoRrZ
  have CHI := Lib.hid chi; have CHS := Lib.hid chs
  have hm1 : a.length ≤ 9223372036854775807 := by omega
  have hm2 : b.length ≤ 9223372036854775807 := by unfold maxLen at k2; omega
  clear hb ha k1 k2 k3 k4 chi chs hl
  generalize hn : a.length = n at *
  generalize hm : b.length = m at *
  have HN := Lib.hid hn; have HM := Lib.hid hm; clear hn hm
  go_enter Try.func23, Try.ntmps23
  go_wp2
  go_loopw [5, 6] (fun vr ix wr => ∃ k : Nat, k ≤ n ∧ ix = .int .i64 k ∧ Hid (Ext w wr) ∧ Hid (OwnRr w.heap.size wr vr ((List.range k).map (mc b a)))) (fun _ ix _ => n - (intOf ix).toNat)
  case atStart => exact ⟨0, Nat.zero_le _, rfl, Lib.hid (Ch.refl _ _), Lib.hid (OwnRr.nil _ _)⟩
  case round =>
    obtain ⟨k, hk, rfl, HX, HO⟩ := hrel
    obtain ⟨vo, vc, rfl⟩ := owns_shape HO.out
    by_cases hlt : k < n
    · have hkl : k < a.length := by have := HN.out; omega
      obtain ⟨c, o, rfl, hra0⟩ := HA.out.at hkl
      have hra := rangeAt_ext hra0 HX.out
      have hidx := run_indexSl wr Try.underlying28 CHI.out CHS.out c o n acap k hlt
      have HLQ : Hid (((List.range k).map (mc b a)).length ≤ 200000000) := Lib.hid (by have := HLL.out; simp; omega)
      have HLT := Lib.hid hlt
      have HCASE : Hid ((k < m → a[k].k = 1 → ∃ h : k < b.length, mc b a k = b[k]) ∧ (¬ k < m → mc b a k = a[k]) ∧ (¬ a[k].k = 1 → mc b a k = a[k])) := Lib.hid ⟨fun h h' => ⟨by have := HM.out; omega, mc_same hkl (by have := HM.out; omega) h'⟩, fun h => mc_far hkl (by have := HM.out; omega), fun h => mc_not hkl h⟩
      have HS0 : Hid ((List.range k).map (mc b a) = (List.range k).map (mc b a)) := Lib.hid rfl
      obtain ⟨S0, hS0⟩ : ∃ S0, S0 = (List.range k).map (mc b a) := ⟨_, rfl⟩
      rw [← hS0] at HO HLQ
      have HS0 : Hid ((List.range k).map (mc b a) = S0) := Lib.hid hS0.symm
      rw [← hS0]
      generalize a[k] = x at *
      have q0 : wr.cell? ⟨c, o + k * 6, none⟩ = some (.int .u8 (x.k : Nat)) := by have := hra 0 _ rfl; simpa using this
      have q1 : wr.cell? ⟨c, o + k * 6 + 1, none⟩ = some (.int .u8 (x.v.ty : Nat)) := hra 1 _ rfl
      have q2 : wr.cell? ⟨c, o + k * 6 + 2, none⟩ = some (.int .i64 x.v.i) := hra 2 _ rfl
      have q3 : wr.cell? ⟨c, o + k * 6 + 3, none⟩ = some (.int .u64 (x.v.re : Nat)) := hra 3 _ rfl
      have q4 : wr.cell? ⟨c, o + k * 6 + 4, none⟩ = some (.int .u64 (x.v.im : Nat)) := hra 4 _ rfl
      have q5 : wr.cell? ⟨c, o + k * 6 + 5, none⟩ = some (.string ⟨x.v.t.toArray⟩) := hra 5 _ rfl
      clear hra0 hra hkl hS0
      by_cases h1 : x.k = 1
      · have e1 := u8_tL (a := x.k) (z := 1) (by omega)
        by_cases hkm : k < m
        · obtain ⟨hkb, hmc⟩ := HCASE.out.1 hkm h1
          obtain ⟨d, p, rfl, hrb0⟩ := HB.out.at hkb
          have hrb := rangeAt_ext hrb0 HX.out
          have hidy := run_indexSl wr Try.underlying28 CHI.out CHS.out d p m bcap k hkm
          have HMC := Lib.hid hmc
          generalize b[k] = y at *
          have r0 : wr.cell? ⟨d, p + k * 6, none⟩ = some (.int .u8 (y.k : Nat)) := by have := hrb 0 _ rfl; simpa using this
          have r1 : wr.cell? ⟨d, p + k * 6 + 1, none⟩ = some (.int .u8 (y.v.ty : Nat)) := hrb 1 _ rfl
          have r2 : wr.cell? ⟨d, p + k * 6 + 2, none⟩ = some (.int .i64 y.v.i) := hrb 2 _ rfl
          have r3 : wr.cell? ⟨d, p + k * 6 + 3, none⟩ = some (.int .u64 (y.v.re : Nat)) := hrb 3 _ rfl
          have r4 : wr.cell? ⟨d, p + k * 6 + 4, none⟩ = some (.int .u64 (y.v.im : Nat)) := hrb 4 _ rfl
          have r5 : wr.cell? ⟨d, p + k * 6 + 5, none⟩ = some (.string ⟨y.v.t.toArray⟩) := hrb 5 _ rfl
          clear hrb0 hrb hkb hmc h1
          have hone := fun w => oneRr w y
          unfold rc rcv strV at hone
          have HF2 : Hid ((List.range (k + 1)).map (mc b a) = S0 ++ [y]) := Lib.hid (by rw [map_succ, HS0.out, HMC.out])
          clear HCASE
          go_wp2_with (at_builtin; go_must (refine wpList_apRr rfl _ _ rfl (c := y) rfl HX.out HO.out rfl rfl HLQ.out ?_))
          intro g3 cap3 w3 hx3 ho3
          have HX3 := Lib.hid hx3; have HO3 : Hid (OwnRr w.heap.size w3 (.slice (some ⟨g3, 0, none⟩) (S0.length + 1) cap3) ((List.range (k + 1)).map (mc b a))) := Lib.hid (by rw [HF2.out]; exact ho3)
          clear hx3 ho3 hone
          generalize S0.length + 1 = n3 at *
          go_wp2
          go_roundw
          case rel => exact ⟨k + 1, HLT.out, by simp, HX3, HO3⟩
          case measure => simp [intOf]; have := HLT.out; omega
        · have HMC := Lib.hid (HCASE.out.2.1 hkm)
          have e2 : ¬ ((k : Nat) : Int) < ((m : Nat) : Int) := by omega
          clear h1 hkm
          have hone := fun w => oneRr w x
          unfold rc rcv strV at hone
          have HF2 : Hid ((List.range (k + 1)).map (mc b a) = S0 ++ [x]) := Lib.hid (by rw [map_succ, HS0.out, HMC.out])
          clear HCASE
          go_wp2_with (at_builtin; go_must (refine wpList_apRr rfl _ _ rfl (c := x) rfl HX.out HO.out rfl rfl HLQ.out ?_))
          intro g3 cap3 w3 hx3 ho3
          have HX3 := Lib.hid hx3; have HO3 : Hid (OwnRr w.heap.size w3 (.slice (some ⟨g3, 0, none⟩) (S0.length + 1) cap3) ((List.range (k + 1)).map (mc b a))) := Lib.hid (by rw [HF2.out]; exact ho3)
          clear hx3 ho3 hone
          generalize S0.length + 1 = n3 at *
          go_wp2
          go_roundw
          case rel => exact ⟨k + 1, HLT.out, by simp, HX3, HO3⟩
          case measure => simp [intOf]; have := HLT.out; omega
      · have e1 := u8_fL (a := x.k) (z := 1) (by omega)
        have HMC := Lib.hid (HCASE.out.2.2 h1)
        clear h1
        have hone := fun w => oneRr w x
        unfold rc rcv strV at hone
        have HF2 : Hid ((List.range (k + 1)).map (mc b a) = S0 ++ [x]) := Lib.hid (by rw [map_succ, HS0.out, HMC.out])
        clear HCASE
        go_wp2_with (at_builtin; go_must (refine wpList_apRr rfl _ _ rfl (c := x) rfl HX.out HO.out rfl rfl HLQ.out ?_))
        intro g3 cap3 w3 hx3 ho3
        have HX3 := Lib.hid hx3; have HO3 : Hid (OwnRr w.heap.size w3 (.slice (some ⟨g3, 0, none⟩) (S0.length + 1) cap3) ((List.range (k + 1)).map (mc b a))) := Lib.hid (by rw [HF2.out]; exact ho3)
        clear hx3 ho3 hone
        generalize S0.length + 1 = n3 at *
        go_wp2
        go_roundw
        case rel => exact ⟨k + 1, HLT.out, by simp, HX3, HO3⟩
        case measure => simp [intOf]; have := HLT.out; omega
    · obtain rfl : k = n := by omega
      have HF : Hid (OwnRr w.heap.size wr (.slice vo ((List.range k).map (mc b a)).length vc) (mergeL b a)) := Lib.hid (by
        have := HO.out
        unfold mergeL; rw [HN.out]; exact this)
      go_wp2
      go_ret
      exact ⟨_, rfl, HX.out, HF.out⟩
set_option maxRecDepth 20000 in
set_option maxHeartbeats 4000000 in
theorem rkeyOf_any (r : Rl) (cv va : Value) (a : List Cel) (w : World) (hb : ColS w cv r.cols) (ha : RcS w va a) (hl : a.length ≤ 100000) :
    Calls Try.prog 14 #[.agg (relv r cv), va] w (RrPost (keyOf r.cols a) w) := by
  have h1 := heap_alloc_new w (.cells (relv r cv) 27)
  obtain ⟨W, hW⟩ : ∃ W, W = w.alloc (.cells (relv r cv) 27) := ⟨_, rfl⟩
  have hx : Ext w W := by rw [hW]; exact (Ch.refl _ _).alloc _
  rw [← hW] at h1
  have HB := Lib.hid (ColS.ext hb hx); have HA := Lib.hid (RcS.ext ha hx); have HLL := Lib.hid hl
  obtain ⟨bo, bcap, rfl, k1, k2, _⟩ := id hb
  obtain ⟨ao, acap, rfl, k3, k4⟩ := ha.shape
  have HC4 : Hid (W.cell? ⟨w.heap.size, 4, none⟩ = some (.slice bo r.cols.length bcap)) := Lib.hid (by rw [cell_of_row _ _ _ _ _ _ h1]; rfl)
  obtain ⟨ci, chi, _, chs, _⟩ := info_parts infoRrZ
  have CHI := Lib.hid chi; have CHS := Lib.hid chs
  obtain ⟨qi, qhi, _, qhs, _⟩ := info_parts infoRCZ
  have CHQ := Lib.hid qhi; have CSQ := Lib.hid qhs
  have hm1 : a.length ≤ 9223372036854775807 := by omega
  have hm2 : r.cols.length ≤ 9223372036854775807 := by unfold maxLen at k2; omega
  have HX := Lib.hid hx; have HW := Lib.hid hW
  clear hb ha k1 k2 k3 k4 chi chs hl qhi qhs h1 hx hW
  generalize hn : a.length = n at *
  generalize hm : r.cols.length = m at *
  have HN := Lib.hid hn; have HM := Lib.hid hm; clear hn hm
  generalize r.cols = qs at *
  unfold relv strV at *
  generalize (⟨r.name.toArray⟩ : ByteArray) = A1 at *
  generalize r.oid = o1 at *
  generalize r.ver = o2 at *
  generalize r.ident = o3 at *
  have HXW : Hid (Ext w (w.alloc (.cells #[.int .u32 (o1 : Nat), .int .u32 (o2 : Nat), .string A1, .int .u8 (o3 : Nat), .slice bo m bcap] 27))) := Lib.hid ((Ch.refl _ _).alloc _)
  go_enter Try.func14, Try.ntmps14
  go_wp2
  go_loopw [5, 6] (fun vr ix wr => ∃ k : Nat, k ≤ n ∧ ix = .int .i64 k ∧ Hid (Ext W wr) ∧ Hid (OwnRr W.heap.size wr vr ((List.range k).map (kc qs a)))) (fun _ ix _ => n - (intOf ix).toNat)
  case atStart => exact ⟨0, Nat.zero_le _, rfl, Lib.hid (by rw [HW.out]; exact Ch.refl _ _), Lib.hid (OwnRr.nil _ _)⟩
  case round =>
    obtain ⟨k, hk, rfl, HXR, HO⟩ := hrel
    have HX0 := HX; have HX := HXR
    obtain ⟨vo, vc, rfl⟩ := owns_shape HO.out
    by_cases hlt : k < n
    · have hkl : k < a.length := by have := HN.out; omega
      obtain ⟨c, o, rfl, hra0⟩ := HA.out.at hkl
      have hra := rangeAt_ext hra0 HXR.out
      have hidx := run_indexSl wr Try.underlying28 CHI.out CHS.out c o n acap k hlt
      have c4 := HXR.out.cell (p := ⟨w.heap.size, 4, none⟩) (fun f => f) _ HC4.out
      have HLQ : Hid (((List.range k).map (kc qs a)).length ≤ 200000000) := Lib.hid (by have := HLL.out; simp; omega)
      have HLT := Lib.hid hlt
      have HCASE : Hid ((∀ h : k < qs.length, (qs[k].key = true → kc qs a k = a[k]) ∧ (qs[k].key = false → kc qs a k = Cel.zero)) ∧ (¬ k < m → kc qs a k = Cel.zero)) := Lib.hid ⟨fun h => ⟨fun h' => kc_key h hkl h', fun h' => kc_not h h'⟩, fun h => kc_far (by have := HM.out; omega)⟩
      obtain ⟨S0, hS0⟩ : ∃ S0, S0 = (List.range k).map (kc qs a) := ⟨_, rfl⟩
      rw [← hS0] at HO HLQ
      have HS0 : Hid ((List.range k).map (kc qs a) = S0) := Lib.hid hS0.symm
      rw [← hS0]
      generalize a[k] = x at *
      have q0 : wr.cell? ⟨c, o + k * 6, none⟩ = some (.int .u8 (x.k : Nat)) := by have := hra 0 _ rfl; simpa using this
      have q1 : wr.cell? ⟨c, o + k * 6 + 1, none⟩ = some (.int .u8 (x.v.ty : Nat)) := hra 1 _ rfl
      have q2 : wr.cell? ⟨c, o + k * 6 + 2, none⟩ = some (.int .i64 x.v.i) := hra 2 _ rfl
      have q3 : wr.cell? ⟨c, o + k * 6 + 3, none⟩ = some (.int .u64 (x.v.re : Nat)) := hra 3 _ rfl
      have q4 : wr.cell? ⟨c, o + k * 6 + 4, none⟩ = some (.int .u64 (x.v.im : Nat)) := hra 4 _ rfl
      have q5 : wr.cell? ⟨c, o + k * 6 + 5, none⟩ = some (.string ⟨x.v.t.toArray⟩) := hra 5 _ rfl
      clear hra0 hra hkl hS0
      by_cases hkm : k < m
      · have hkq : k < qs.length := by have := HM.out; omega
        obtain ⟨cb, co, rfl, hrq⟩ := colS_at (ColS.ext HB.out HXR.out) hkq
        have hidq := run_indexSl wr Try.underlying25 CHQ.out CSQ.out cb co m bcap k hkm
        have p2 : wr.cell? ⟨cb, co + k * 3 + 2, none⟩ = some (.bool qs[k].key) := hrq 2 _ rfl
        have HC2 := Lib.hid (HCASE.out.1 hkq)
        generalize qs[k] = q at *
        clear hrq hkq
        cases hq : q.key with
        | true =>
          rw [hq] at p2
          have HMC := Lib.hid (HC2.out.1 hq)
          clear hq HC2
          have hone := fun w => oneRr w x
          unfold rc rcv strV at hone
          have HF2 : Hid ((List.range (k + 1)).map (kc qs a) = S0 ++ [x]) := Lib.hid (by rw [map_succ, HS0.out, HMC.out])
          clear HCASE
          go_wp2_with (at_builtin; go_must (refine wpList_apRr rfl _ _ rfl (c := x) rfl HX.out HO.out rfl rfl HLQ.out ?_))
          intro g3 cap3 w3 hx3 ho3
          have HX3 := Lib.hid hx3; have HO3 : Hid (OwnRr W.heap.size w3 (.slice (some ⟨g3, 0, none⟩) (S0.length + 1) cap3) ((List.range (k + 1)).map (kc qs a))) := Lib.hid (by rw [HF2.out]; exact ho3)
          clear hx3 ho3 hone
          generalize S0.length + 1 = n3 at *
          go_wp2
          go_roundw
          case rel => exact ⟨k + 1, HLT.out, by simp, HX3, HO3⟩
          case measure => simp [intOf]; have := HLT.out; omega
        | false =>
          rw [hq] at p2
          have HMC := Lib.hid (HC2.out.2 hq)
          clear hq HC2
          have hone := fun w => oneRc0 w; have hb0 := buildRc0
          have HF2 : Hid ((List.range (k + 1)).map (kc qs a) = S0 ++ [Cel.zero]) := Lib.hid (by rw [map_succ, HS0.out, HMC.out])
          clear HCASE
          go_wp2_with (at_builtin; go_must (refine wpList_apRr rfl _ _ rfl (c := Cel.zero) rfl HX.out HO.out rfl rfl HLQ.out ?_))
          intro g3 cap3 w3 hx3 ho3
          have HX3 := Lib.hid hx3; have HO3 : Hid (OwnRr W.heap.size w3 (.slice (some ⟨g3, 0, none⟩) (S0.length + 1) cap3) ((List.range (k + 1)).map (kc qs a))) := Lib.hid (by rw [HF2.out]; exact ho3)
          clear hx3 ho3 hone
          generalize S0.length + 1 = n3 at *
          go_wp2
          go_roundw
          case rel => exact ⟨k + 1, HLT.out, by simp, HX3, HO3⟩
          case measure => simp [intOf]; have := HLT.out; omega
      · have HMC := Lib.hid (HCASE.out.2 hkm)
        have e2 : ¬ ((k : Nat) : Int) < ((m : Nat) : Int) := by omega
        clear hkm
        have hone := fun w => oneRc0 w; have hb0 := buildRc0
        have HF2 : Hid ((List.range (k + 1)).map (kc qs a) = S0 ++ [Cel.zero]) := Lib.hid (by rw [map_succ, HS0.out, HMC.out])
        clear HCASE
        go_wp2_with (at_builtin; go_must (refine wpList_apRr rfl _ _ rfl (c := Cel.zero) rfl HX.out HO.out rfl rfl HLQ.out ?_))
        intro g3 cap3 w3 hx3 ho3
        have HX3 := Lib.hid hx3; have HO3 : Hid (OwnRr W.heap.size w3 (.slice (some ⟨g3, 0, none⟩) (S0.length + 1) cap3) ((List.range (k + 1)).map (kc qs a))) := Lib.hid (by rw [HF2.out]; exact ho3)
        clear hx3 ho3 hone
        generalize S0.length + 1 = n3 at *
        go_wp2
        go_roundw
        case rel => exact ⟨k + 1, HLT.out, by simp, HX3, HO3⟩
        case measure => simp [intOf]; have := HLT.out; omega
    · obtain rfl : k = n := by omega
      have HF : Hid (OwnRr W.heap.size wr (.slice vo ((List.range k).map (kc qs a)).length vc) (keyOf qs a)) := Lib.hid (by
        have := HO.out
        unfold keyOf; rw [HN.out]; exact this)
      go_wp2
      go_ret
      exact ⟨_, rfl, HX0.out.trans HXR.out, ownsRow_down HF.out HX0.out.size⟩
end Go.Proofs.Ytdpebdbfphlmeaa
