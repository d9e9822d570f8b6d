/-
  Images: Merge (the program's). MADE BY mkImgN.py
-/
import Derived.Test.YtdpebdbfphlmeaaImgL
namespace Go.Proofs.Ytdpebdbfphlmeaa
open Go.RowKit Go.Lac
theorem run_store_complexN {P : Program} {w : World} {a : Addr} {m : Mode} (k : FloatKind) (re im : Nat) : (store a (.complex k re im) m).run P w = stored P w a (.complex k re im) m := run_store P w a _ m rfl
attribute [local go_sem] run_store_complexN

def mk (b a : List Cel) (k j : Nat) : Cel := if j < k then mc b a j else a.getD j Cel.zero
theorem mk_zero (b a : List Cel) : (List.range a.length).map (mk b a 0) = a := by
  have : (List.range a.length).map (mk b a 0) = (List.range a.length).map (fun j => a.getD j Cel.zero) := List.map_congr_left fun j _ => by unfold mk; rw [if_neg (by omega)]
  rw [this, range_all]
theorem mk_all (b a : List Cel) {n : Nat} (h : n = a.length) : (List.range n).map (mk b a n) = mergeL b a := by
  unfold mergeL; rw [h]
  exact List.map_congr_left fun j hj => by unfold mk; rw [if_pos (List.mem_range.1 hj)]
theorem mk_set {b a : List Cel} {n k : Nat} {c : Cel} (hk : k < n) (h : mc b a k = c) : ((List.range n).map (mk b a k)).set k c = (List.range n).map (mk b a (k + 1)) :=
  map_range_set hk (by unfold mk; rw [if_pos (by omega), h]) fun j _ hne => by
    unfold mk
    by_cases h1 : j < k
    · rw [if_pos h1, if_pos (by omega)]
    · rw [if_neg h1, if_neg (by omega)]
theorem mk_same {b a : List Cel} {n k : Nat} (hk : k < n) (hn : n = a.length) (h : mc b a k = a[k]) : (List.range n).map (mk b a k) = (List.range n).map (mk b a (k + 1)) :=
  List.map_congr_left fun j _ => by
    unfold mk
    by_cases h1 : j < k
    · rw [if_pos h1, if_pos (by omega)]
    · by_cases h2 : j = k
      · subst h2; rw [if_neg (by omega), if_pos (by omega), h, getD_at (by omega)]
      · rw [if_neg h1, if_neg (by omega)]
set_option maxRecDepth 20000 in
set_option maxHeartbeats 4000000 in
theorem merge_any (vb va : Value) (b a : List Cel) (w : World) (hb : PcS w vb b) (ha : PcS w va a) (hl : a.length ≤ 100000) :
    Calls Try.prog 22 #[vb, va] w (PrPost (mergeL b a) w) := by
  have HB := Lib.hid hb; have HLL := Lib.hid hl
  have HCL := Lib.hid (clonePr_any va a w ha (by omega))
  obtain ⟨bo, bcap, rfl, k1, k2⟩ := hb.shape
  obtain ⟨ci, chi, _, chs, _⟩ := info_parts infoPrZ
  have CHI := Lib.hid chi; have CHS := Lib.hid chs
  have hm1 : a.length ≤ 9223372036854775807 := by omega
  have hm2 : b.length ≤ 9223372036854775807 := by unfold maxLen at k2; omega
  obtain ⟨ao0, acap0, rfl, k3, k4⟩ := ha.shape
  clear hb ha k1 k2 k3 k4 chi chs hl
  go_enter Try.func22, Try.ntmps22
  go_wp2_with fail
  refine HCL.out.mono ?_
  rintro e w2 ⟨v, rfl, hx2, ho2⟩
  obtain ⟨ao, acap, rfl⟩ := owns_shape ho2
  have HX2 := Lib.hid hx2
  have HO2 : Hid (OwnPr w.heap.size w2 (.slice ao a.length acap) ((List.range a.length).map (mk b a 0))) := Lib.hid (by rw [mk_zero]; exact ho2)
  clear hx2 ho2 HCL
  generalize hn : a.length = n at *
  generalize hm : b.length = m at *
  have HN := Lib.hid hn; have HM := Lib.hid hm; clear hn hm
  go_wp2
  go_loopw [12] (fun ix wr => ∃ k : Nat, k ≤ n ∧ ix = .int .i64 k ∧ Hid (Ext w wr) ∧ Hid (OwnPr w.heap.size wr (.slice ao n acap) ((List.range n).map (mk b a k)))) (fun ix _ => n - (intOf ix).toNat)
  case atStart => exact ⟨0, Nat.zero_le _, rfl, HX2, HO2⟩
  case round =>
    obtain ⟨k, hk, rfl, HX, HO⟩ := hrel
    by_cases hlt : k < n
    · have hkl : k < a.length := by have := HN.out; omega
      have hkr : k < ((List.range n).map (mk b a k)).length := by simpa using hlt
      have hrow := HO.out.s
      obtain ⟨go, o, rfl, hra⟩ := hrow.at hkr
      have hget : ((List.range n).map (mk b a k))[k] = a[k] := by simp [mk, hkl]
      rw [hget] at hra
      obtain ⟨g', cp', e', _⟩ := own_setPr Cel.zero HO.out hkr
      simp only [Value.slice.injEq, Option.some.injEq, Addr.mk.injEq] at e'
      obtain ⟨⟨rfl, rfl, -⟩, -, -⟩ := e'
      rw [Nat.zero_add] at hra
      have hidx := run_indexSl wr Try.underlying36 CHI.out CHS.out go 0 n acap k hlt
      rw [Nat.zero_add] at hidx
      have HLT := Lib.hid hlt
      have HCASE : Hid ((k < m → a[k].k = 1 → ∃ h : k < b.length, mc b a k = b[k]) ∧ (¬ k < m → mc b a k = a[k]) ∧ (¬ a[k].k = 1 → mc b a k = a[k])) := Lib.hid ⟨fun h h' => ⟨by have := HM.out; omega, mc_same hkl (by have := HM.out; omega) h'⟩, fun h => mc_far hkl (by have := HM.out; omega), fun h => mc_not hkl h⟩
      have HSAME : Hid (mc b a k = a[k] → (List.range n).map (mk b a k) = (List.range n).map (mk b a (k + 1))) := Lib.hid (mk_same hlt HN.out.symm)
      have HKR := Lib.hid hkr
      generalize a[k] = x at *
      have q0 : wr.cell? ⟨go, k * 5, none⟩ = some (.int .u8 (x.k : Nat)) := by have := hra 0 _ rfl; simpa using this
      have q1 : wr.cell? ⟨go, k * 5 + 1, none⟩ = some (.int .u8 (x.v.ty : Nat)) := hra 1 _ rfl
      have q2 : wr.cell? ⟨go, k * 5 + 2, none⟩ = some (.int .i64 x.v.i) := hra 2 _ rfl
      have q3 : wr.cell? ⟨go, k * 5 + 3, none⟩ = some (.complex .f64 x.v.re x.v.im) := hra 3 _ rfl
      have q4 : wr.cell? ⟨go, k * 5 + 4, none⟩ = some (.string ⟨x.v.t.toArray⟩) := hra 4 _ rfl
      have HXX : Hid (Ext w (wr.alloc (.cells #[.int .u8 (x.k : Nat), .int .u8 (x.v.ty : Nat), .int .i64 x.v.i, .complex .f64 x.v.re x.v.im, .string ⟨x.v.t.toArray⟩] 59))) := Lib.hid (HX.out.alloc _)
      have HOX : Hid (OwnPr w.heap.size (wr.alloc (.cells #[.int .u8 (x.k : Nat), .int .u8 (x.v.ty : Nat), .int .i64 x.v.i, .complex .f64 x.v.re x.v.im, .string ⟨x.v.t.toArray⟩] 59)) (.slice (some ⟨go, 0, none⟩) n acap) ((List.range n).map (mk b a k))) := Lib.hid (HO.out.ext ((Ch.refl _ _).alloc _))
      clear hra hkl hkr hrow hget
      by_cases h1 : x.k = 1
      · have q0' : wr.cell? ⟨go, k * 5, none⟩ = some (.int .u8 1) := by rw [q0, h1]; rfl
        have HXX : Hid (Ext w (wr.alloc (.cells #[.int .u8 1, .int .u8 (x.v.ty : Nat), .int .i64 x.v.i, .complex .f64 x.v.re x.v.im, .string ⟨x.v.t.toArray⟩] 59))) := Lib.hid (HX.out.alloc _)
        have HOX : Hid (OwnPr w.heap.size (wr.alloc (.cells #[.int .u8 1, .int .u8 (x.v.ty : Nat), .int .i64 x.v.i, .complex .f64 x.v.re x.v.im, .string ⟨x.v.t.toArray⟩] 59)) (.slice (some ⟨go, 0, none⟩) n acap) ((List.range n).map (mk b a k))) := Lib.hid (HO.out.ext ((Ch.refl _ _).alloc _))
        clear q0
        by_cases hkm : k < m
        · obtain ⟨hkb, hmc⟩ := HCASE.out.1 hkm h1
          obtain ⟨d, p, rfl, hrb0⟩ := HB.out.at hkb
          have hrb := rangeAt_ext hrb0 HXX.out
          have hidy := run_indexSl (wr.alloc (.cells #[.int .u8 1, .int .u8 (x.v.ty : Nat), .int .i64 x.v.i, .complex .f64 x.v.re x.v.im, .string ⟨x.v.t.toArray⟩] 59)) Try.underlying36 CHI.out CHS.out d p m bcap k hkm
          have hidz := run_indexSl (wr.alloc (.cells #[.int .u8 1, .int .u8 (x.v.ty : Nat), .int .i64 x.v.i, .complex .f64 x.v.re x.v.im, .string ⟨x.v.t.toArray⟩] 59)) Try.underlying36 CHI.out CHS.out go 0 n acap k hlt
          rw [Nat.zero_add] at hidz
          have HST := Lib.hid (mk_set (b := b) (a := a) hlt hmc)
          generalize b[k] = y at *
          have r0 : (wr.alloc (.cells #[.int .u8 1, .int .u8 (x.v.ty : Nat), .int .i64 x.v.i, .complex .f64 x.v.re x.v.im, .string ⟨x.v.t.toArray⟩] 59)).cell? ⟨d, p + k * 5, none⟩ = some (.int .u8 (y.k : Nat)) := by have := hrb 0 _ rfl; simpa using this
          have r1 : (wr.alloc (.cells #[.int .u8 1, .int .u8 (x.v.ty : Nat), .int .i64 x.v.i, .complex .f64 x.v.re x.v.im, .string ⟨x.v.t.toArray⟩] 59)).cell? ⟨d, p + k * 5 + 1, none⟩ = some (.int .u8 (y.v.ty : Nat)) := hrb 1 _ rfl
          have r2 : (wr.alloc (.cells #[.int .u8 1, .int .u8 (x.v.ty : Nat), .int .i64 x.v.i, .complex .f64 x.v.re x.v.im, .string ⟨x.v.t.toArray⟩] 59)).cell? ⟨d, p + k * 5 + 2, none⟩ = some (.int .i64 y.v.i) := hrb 2 _ rfl
          have r3 : (wr.alloc (.cells #[.int .u8 1, .int .u8 (x.v.ty : Nat), .int .i64 x.v.i, .complex .f64 x.v.re x.v.im, .string ⟨x.v.t.toArray⟩] 59)).cell? ⟨d, p + k * 5 + 3, none⟩ = some (.complex .f64 y.v.re y.v.im) := hrb 3 _ rfl
          have r4 : (wr.alloc (.cells #[.int .u8 1, .int .u8 (x.v.ty : Nat), .int .i64 x.v.i, .complex .f64 x.v.re x.v.im, .string ⟨x.v.t.toArray⟩] 59)).cell? ⟨d, p + k * 5 + 4, none⟩ = some (.string ⟨y.v.t.toArray⟩) := hrb 4 _ rfl
          obtain ⟨g', cp', e', hbg, hos, hth⟩ := own_setPr y HOX.out HKR.out
          simp only [Value.slice.injEq, Option.some.injEq, Addr.mk.injEq] at e'
          obtain ⟨⟨rfl, -⟩, -, -⟩ := e'
          rw [HST.out] at hos
          have HTH := Lib.hid hth
          obtain ⟨W5, hW5⟩ : ∃ W5, W5 = (wr.alloc (.cells #[.int .u8 1, .int .u8 (x.v.ty : Nat), .int .i64 x.v.i, .complex .f64 x.v.re x.v.im, .string ⟨x.v.t.toArray⟩] 59)).setCells go (k * 5) (pcv y).toList := ⟨_, rfl⟩
          have HX5 : Hid (Ext w W5) := Lib.hid (by rw [hW5]; exact Ch.setCells (.inr hbg) _ _ _ HXX.out)
          rw [← hW5] at hos
          have HO5 := Lib.hid hos
          have HW5 := Lib.hid hW5
          clear hW5
          clear hrb0 hrb hkb hmc h1 hos hth HCASE HSAME
          go_wp2_with (refine wpList_store_mid rfl 59 (.tmp 32) (.tmp 31) rfl go (k * 5) (pcv y) rfl rfl HTH.out infoSPr (by simp [pcv, strV, Value.oneCell']) ?_; rw [← HW5.out])
          go_roundw
          case rel => exact ⟨k + 1, HLT.out, by simp, HX5, HO5⟩
          case measure => simp [intOf]; have := HLT.out; omega
        · have HO5 : Hid (OwnPr w.heap.size (wr.alloc (.cells #[.int .u8 1, .int .u8 (x.v.ty : Nat), .int .i64 x.v.i, .complex .f64 x.v.re x.v.im, .string ⟨x.v.t.toArray⟩] 59)) (.slice (some ⟨go, 0, none⟩) n acap) ((List.range n).map (mk b a (k + 1)))) := Lib.hid (by rw [← HSAME.out (HCASE.out.2.1 hkm)]; exact HOX.out)
          have e2 : ¬ ((k : Nat) : Int) < ((m : Nat) : Int) := by omega
          clear h1 hkm HCASE HSAME
          go_wp2
          go_roundw
          case rel => exact ⟨k + 1, HLT.out, by simp, HXX, HO5⟩
          case measure => simp [intOf]; have := HLT.out; omega
      · have e1 := u8_fL (a := x.k) (z := 1) (by omega)
        have HO5 : Hid (OwnPr w.heap.size (wr.alloc (.cells #[.int .u8 (x.k : Nat), .int .u8 (x.v.ty : Nat), .int .i64 x.v.i, .complex .f64 x.v.re x.v.im, .string ⟨x.v.t.toArray⟩] 59)) (.slice (some ⟨go, 0, none⟩) n acap) ((List.range n).map (mk b a (k + 1)))) := Lib.hid (by rw [← HSAME.out (HCASE.out.2.2 h1)]; exact HOX.out)
        clear h1 HCASE HSAME
        go_wp2
        go_roundw
        case rel => exact ⟨k + 1, HLT.out, by simp, HXX, HO5⟩
        case measure => simp [intOf]; have := HLT.out; omega
    · obtain rfl : k = n := by omega
      have HF : Hid (OwnPr w.heap.size wr (.slice ao k acap) (mergeL b a)) := Lib.hid (by
        have := HO.out
        rwa [mk_all b a HN.out.symm] at this)
      go_wp2
      go_ret
      exact ⟨_, rfl, HX.out, HF.out⟩
end Go.Proofs.Ytdpebdbfphlmeaa
