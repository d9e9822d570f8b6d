/-
  chunk: count, size; the law's great; the document's Same; Walk.
-/
import Derived.Test.YtolelgbkohccbaaChkF
import Derived.Test.YtolelgbkohccbaaLibI
import Derived.WalkKit
import Derived.Outline
import Derived.Great.BuildSlice
namespace Go.Proofs.Ytolelgbkohccbaa
open Go.RowKit Go.Lac

theorem mixedV : Try.prog.follows .mixedOrders = true := by kernel_rfl
theorem infoStr : (Try.prog.info? 9).map (fun i => (i.zero, i.size, i.bytes)) = some (some (.string ⟨#[]⟩), 1, 16) := by kernel_rfl
theorem infoInt : (Try.prog.info? 3).map (fun i => (i.zero, i.size, i.bytes)) = some (some (.int .i64 0), 1, 8) := by kernel_rfl
theorem info_parts {t : TypeId} {z : Option Value} {s b : Nat} (h : (Try.prog.info? t).map (fun i => (i.zero, i.size, i.bytes)) = some (z, s, b)) : ∃ i, Try.prog.info? t = some i ∧ i.zero = z ∧ i.size = s ∧ i.bytes = b := by
  cases hi : Try.prog.info? t with
  | none => rw [hi] at h; cases h
  | some i => rw [hi] at h; simp at h; exact ⟨i, rfl, h.1, h.2.1, h.2.2⟩
theorem sl_row {w : World} {g : Nat} {cs : Array Value} {T : TypeId} (h : w.heap[g]? = some (.cells cs T (0, 0))) (hs : cs.size ≤ maxLen) : Sl w (.slice (some ⟨g, 0, none⟩) cs.size cs.size) cs.size cs.toList :=
  ⟨_, _, rfl, Nat.le_refl _, hs, (fun h => by cases h), fun x hx j u hu => by
    cases hx
    refine ⟨g, 0, rfl, ?_⟩
    rw [Nat.zero_add, cell_of_row _ _ _ _ _ _ h]
    simpa using hu⟩
theorem oneTx (w : World) (A : ByteArray) : (Instr.buildSlice 22 1 #[(0, .string A)]).run Try.prog w = .ok (.slice (some ⟨w.heap.size, 0, none⟩) 1 1) (w.alloc (.cells #[.string A] 9)) := by kernel_rfl
theorem oneIn (w : World) (n : Int) : (Instr.buildSlice 32 1 #[(0, .int .i64 n)]).run Try.prog w = .ok (.slice (some ⟨w.heap.size, 0, none⟩) 1 1) (w.alloc (.cells #[.int .i64 n] 3)) := by kernel_rfl
theorem ret_nat {a b : Nat} (h : a = b) : Ending.returned (.int .i64 (a : Nat)) = .returned (.int .i64 (b : Nat)) := by rw [h]

theorem count_any (n : Int) (w : World) (hn : n ≤ 9223372036854775807) : Calls Try.prog 18 #[.int .i64 n] w fun e w' => e = .returned (.int .i64 (cnt n.toNat : Nat)) ∧ w = w' := by
  by_cases h : n ≤ 0
  · go_enter Try.func18, Try.ntmps18
    go_wp2
    go_ret
    have : n.toNat = 0 := by omega
    exact ⟨by rw [this]; rfl, rfl⟩
  · have h1 : 1 ≤ n := by omega
    go_enter Try.func18, Try.ntmps18
    go_wp2
    go_ret
    exact ⟨ret_int (by unfold cnt; omega), rfl⟩
theorem size_any (n k : Nat) (w : World) (hn : n ≤ 1000000) (hk : k * 256 ≤ n) : Calls Try.prog 19 #[.int .i64 (n : Nat), .int .i64 (k : Nat)] w fun e w' => e = .returned (.int .i64 (min (n - k * 256) 256 : Nat)) ∧ w = w' := by
  by_cases h : (n : Int) - (k : Int) * 256 ≤ 256
  all_goals
    go_enter Try.func19, Try.ntmps19
    go_wp2
    go_ret
    exact ⟨ret_int (by omega), rfl⟩

def GreatL (l : List (List UInt8)) (most : Int) : Prop := (∃ b ∈ l, 3000 < b.length) ∨ most < l.length
instance (l : List (List UInt8)) (most : Int) : Decidable (GreatL l most) := inferInstanceAs (Decidable ((∃ b ∈ l, 3000 < b.length) ∨ most < l.length))
set_option maxRecDepth 20000 in
theorem great_any (v : Value) (l : List (List UInt8)) (most : Int) (w : World) (h : TxS w v l) : Calls Try.prog 7 #[v, .int .i64 most] w fun e w' => e = .returned (.bool (decide (GreatL l most))) ∧ w = w' := by
  have HT := Lib.hid h
  obtain ⟨ao, cap, rfl, h1, h2⟩ := h.shape
  obtain ⟨ci, chi, _, chs, _⟩ := info_parts infoStr
  have CHI := Lib.hid chi; have CHS := Lib.hid chs
  have hm1 : l.length ≤ 9223372036854775807 := by unfold maxLen at h2; omega
  clear h h1 h2 chi chs
  generalize hn : l.length = n at *
  have HN := Lib.hid hn; clear hn
  go_enter Try.func7, Try.ntmps7
  go_wp2
  go_loop [5] (fun ix => ∃ k : Nat, k ≤ n ∧ ix = .int .i64 k ∧ Hid (∀ b ∈ l.take k, ¬ 3000 < b.length)) (fun ix => n - (intOf ix).toNat)
  case atStart => exact ⟨0, Nat.zero_le _, rfl, Lib.hid (by simp)⟩
  case round =>
    obtain ⟨k, hk, rfl, HP⟩ := hrel
    by_cases hlt : k < n
    · have hkl : k < l.length := by have := HN.out; omega
      obtain ⟨b, o, rfl, hc⟩ := HT.out.at hkl
      have hidx := run_indexSl w Try.underlying22 CHI.out CHS.out b o n cap k hlt
      rw [Nat.mul_one] at hidx
      have HTK : Hid (l.take (k + 1) = l.take k ++ [l[k]]) := Lib.hid (List.take_succ_eq_append_getElem hkl)
      have HM := Lib.hid (List.getElem_mem hkl)
      generalize l[k] = x at *
      unfold strV at hc
      by_cases hx : 3000 < x.length
      · have HG : Hid (decide (GreatL l most) = true) := Lib.hid (decide_eq_true (.inl ⟨x, HM.out, hx⟩))
        have hx2 : ((x.length : Nat) : Int) > 3000 := by omega
        go_wp2
        go_ret
        exact ⟨by rw [HG.out]; rfl, rfl⟩
      · have HP2 : Hid (∀ b ∈ l.take (k + 1), ¬ 3000 < b.length) := Lib.hid (by
          rw [HTK.out]
          intro b hb
          rcases List.mem_append.1 hb with hb | hb
          · exact HP.out b hb
          · simp only [List.mem_cons, List.not_mem_nil, or_false] at hb; subst hb; exact hx)
        have hx2 : ¬ ((x.length : Nat) : Int) > 3000 := by omega
        go_wp2
        go_round
        case rel => exact ⟨k + 1, hlt, by simp, HP2⟩
        case measure => simp [intOf]; omega
    · obtain rfl : k = n := by omega
      have HG : Hid (decide (GreatL l most) = decide (most < ((k : Nat) : Int))) := Lib.hid (by
        have := HP.out
        rw [← HN.out, List.take_length] at this
        rw [Bool.eq_iff_iff]
        simp only [decide_eq_true_eq]
        unfold GreatL
        rw [HN.out]
        exact ⟨fun h => h.resolve_left fun ⟨b, hb, h⟩ => this b hb h, .inr⟩)
      go_wp2
      go_ret
      exact ⟨by rw [HG.out]; rfl, rfl⟩

def smT (b1 o1 b2 o2 n ac bc k : Nat) (x y : List UInt8) : Tmp → Kn
  | 17 => .is (.slice (some ⟨b1, o1, none⟩) n ac)
  | 18 => .is (.int .i64 (k : Nat))
  | 19 => .is (.pointer (some ⟨b1, o1 + k * 1, none⟩))
  | 20 => .is (strV x)
  | 21 => .is (.slice (some ⟨b2, o2, none⟩) n bc)
  | 22 => .is (.int .i64 (k : Nat))
  | 23 => .is (.pointer (some ⟨b2, o2 + k * 1, none⟩))
  | 24 => .is (strV y)
  | 25 => .is (.bool (!decide (x = y)))
  | _ => .any
set_option maxRecDepth 20000 in
set_option maxHeartbeats 2000000 in
theorem same_any (v1 v2 : Value) (a b : List (List UInt8)) (w : World) (h1 : TxS w v1 a) (h2 : TxS w v2 b) :
    Calls Try.prog 8 #[v1, v2] w fun e w' => e = .returned (.bool (decide (a = b))) ∧ Ext w w' := by
  have HA := Lib.hid h1; have HB := Lib.hid h2
  obtain ⟨ao, ac, rfl, k1, k2⟩ := h1.shape
  obtain ⟨bo, bc, rfl, k3, k4⟩ := h2.shape
  obtain ⟨ci, chi, _, chs, _⟩ := info_parts infoStr
  have CHI := Lib.hid chi; have CHS := Lib.hid chs
  have hm1 : a.length ≤ 9223372036854775807 := by unfold maxLen at k2; omega
  have hm2 : b.length ≤ 9223372036854775807 := by unfold maxLen at k4; omega
  clear h1 h2 k1 k2 k3 k4 chi chs
  by_cases hl : a.length = b.length
  case neg =>
    have HD : Hid (decide (a = b) = false) := Lib.hid (decide_eq_false fun e => hl (by rw [e]))
    have hle : (((a.length : Nat) : Int) == ((b.length : Nat) : Int)) = false := beq_eq_false_iff_ne.2 (by omega)
    have hle2 : (((a.length : Nat) : Int) != ((b.length : Nat) : Int)) = true := by rw [bne, hle]; rfl
    clear hl
    generalize a.length = n1 at *
    generalize b.length = n2 at *
    go_enter Try.func8, Try.ntmps8
    go_wp2
    go_ret
    exact ⟨by rw [HD.out]; rfl, Ch.refl _ _⟩
  generalize hn : b.length = n at *
  rw [hl] at HA hm1 ⊢
  have HN1 := Lib.hid hl; have HN2 := Lib.hid hn
  clear hl hn hm1
  go_enter Try.func8, Try.ntmps8
  go_wp2
  go_loopw [5] (fun ix wr => ∃ k : Nat, k ≤ n ∧ ix = .int .i64 k ∧ Hid (Ext w wr) ∧ Hid (∀ j (h : j < a.length) (h' : j < b.length), j < k → a[j] = b[j])) (fun ix _ => n - (intOf ix).toNat)
  case atStart => exact ⟨0, Nat.zero_le _, rfl, Lib.hid (Ch.refl _ _), Lib.hid fun j h h' hj => absurd hj (Nat.not_lt_zero _)⟩
  case round =>
    obtain ⟨k, hk, rfl, HX, HP⟩ := hrel
    by_cases hlt : k < n
    · have ha : k < a.length := by have := HN1.out; omega
      have hb : k < b.length := by have := HN2.out; omega
      obtain ⟨b1, o1, rfl, hra⟩ := HA.out.at ha
      obtain ⟨b2, o2, rfl, hrb⟩ := HB.out.at hb
      have HNE : Hid (a[k] ≠ b[k] → decide (a = b) = false) := Lib.hid fun h => decide_eq_false fun e => h (by subst e; rfl)
      have HEQ : Hid (a[k] = b[k] → ∀ j (h : j < a.length) (h' : j < b.length), j < k + 1 → a[j] = b[j]) := Lib.hid fun e j h h' hj => by
        by_cases hjk : j < k
        · exact HP.out j h h' hjk
        · have : j = k := by omega
          subst this
          exact e
      generalize a[k] = x at *
      generalize b[k] = y at *
      have RA : Hid (wr.cell? ⟨b1, o1 + k, none⟩ = some (strV x)) := Lib.hid (HX.out.cell (p := ⟨b1, o1 + k, none⟩) (fun f => f) _ hra)
      have RB : Hid (wr.cell? ⟨b2, o2 + k, none⟩ = some (strV y)) := Lib.hid (HX.out.cell (p := ⟨b2, o2 + k, none⟩) (fun f => f) _ hrb)
      have HLT := Lib.hid hlt
      clear hra hrb ha hb
      go_wp2
      refine wp_region_ext (smT b1 o1 b2 o2 n ac bc k x y) mixedV (by rfl) (by rfl) ?all ?fin
      case all =>
          refine ⟨?_, ?_, ?_, ?_, ?_, ?_, ?_, ?_, ?_, trivial⟩
          · refine StepOK.plain (kn_stable _) rfl fun ρ w hρ hw hf => ?_
            have h0 : ρ (.tmp 0) = (.slice (some ⟨b1, o1, none⟩) n ac) := (hf 0).2 rfl rfl
            exact Exec.kmove rfl rfl h0
          · refine StepOK.plain (kn_stable _) rfl fun ρ w hρ hw hf => ?_
            have h5 : ρ (.tmp 5) = (.int .i64 (k : Nat)) := (hf 5).2 rfl rfl
            exact Exec.kmove rfl rfl h5
          · refine StepOK.plain (kn_stable _) rfl fun ρ w hρ hw hf => ?_
            have h17 : ρ (.tmp 17) = (.slice (some ⟨b1, o1, none⟩) n ac) := (hf 17).1 rfl
            have h18 : ρ (.tmp 18) = (.int .i64 (k : Nat)) := (hf 18).1 rfl
            exact Exec.kindex rfl rfl Try.underlying22 CHI.out CHS.out h17 h18 HLT.out rfl
          · refine StepOK.plain (kn_stable _) rfl fun ρ w hρ hw hf => ?_
            have h19 : ρ (.tmp 19) = (.pointer (some ⟨b1, o1 + k * 1, none⟩)) := (hf 19).1 rfl
            have hc := hw.cell (p := ⟨b1, o1 + k, none⟩) (fun f => f) _ RA.out
            exact Exec.same (v := strV x) rfl (by simp [go_sem, hρ.const, h19, hc]) rfl
          · refine StepOK.plain (kn_stable _) rfl fun ρ w hρ hw hf => ?_
            have h1 : ρ (.tmp 1) = (.slice (some ⟨b2, o2, none⟩) n bc) := (hf 1).2 rfl rfl
            exact Exec.kmove rfl rfl h1
          · refine StepOK.plain (kn_stable _) rfl fun ρ w hρ hw hf => ?_
            have h5 : ρ (.tmp 5) = (.int .i64 (k : Nat)) := (hf 5).2 rfl rfl
            exact Exec.kmove rfl rfl h5
          · refine StepOK.plain (kn_stable _) rfl fun ρ w hρ hw hf => ?_
            have h21 : ρ (.tmp 21) = (.slice (some ⟨b2, o2, none⟩) n bc) := (hf 21).1 rfl
            have h22 : ρ (.tmp 22) = (.int .i64 (k : Nat)) := (hf 22).1 rfl
            exact Exec.kindex rfl rfl Try.underlying22 CHI.out CHS.out h21 h22 HLT.out rfl
          · refine StepOK.plain (kn_stable _) rfl fun ρ w hρ hw hf => ?_
            have h23 : ρ (.tmp 23) = (.pointer (some ⟨b2, o2 + k * 1, none⟩)) := (hf 23).1 rfl
            have hc := hw.cell (p := ⟨b2, o2 + k, none⟩) (fun f => f) _ RB.out
            exact Exec.same (v := strV y) rfl (by simp [go_sem, hρ.const, h23, hc]) rfl
          · refine StepOK.plain (kn_stable _) rfl fun ρ w hρ hw hf => ?_
            have h20 : ρ (.tmp 20) = (strV x) := (hf 20).1 rfl
            have h24 : ρ (.tmp 24) = (strV y) := (hf 24).1 rfl
            exact Exec.kstrne rfl rfl Try.underlying9 h20 h24 rfl
      case fin =>
        intro ν w9 hfin hx9
        have e0 : ν 25 = .bool (!decide (x = y)) := hfin 8 25 rfl
        simp only [Exit.then, ended, List.foldl_cons, List.foldl_nil, List.setIfInBounds_toArray, List.set_cons_succ, List.set_cons_zero, e0]
        have HX9 := Lib.hid (HX.out.trans hx9)
        clear hfin hx9 e0
        by_cases hxy : x = y
        · have HPK := Lib.hid (HEQ.out hxy)
          rw [decide_eq_true hxy]
          clear hxy HEQ HNE
          go_wp2
          go_roundw
          case rel => exact ⟨k + 1, HLT.out, by simp, HX9, HPK⟩
          case measure => simp [intOf]; have := HLT.out; omega
        · have HD := Lib.hid (HNE.out hxy)
          rw [decide_eq_false hxy]
          clear hxy HEQ HNE
          go_wp2
          go_ret
          exact ⟨by rw [HD.out]; rfl, HX9.out⟩
    · obtain rfl : k = n := by omega
      have HD : Hid (decide (a = b) = true) := Lib.hid (decide_eq_true (List.ext_getElem (by rw [HN1.out, HN2.out]) fun j h h' => HP.out j h h' (by have := HN1.out; omega)))
      go_wp2
      go_ret
      exact ⟨by rw [HD.out]; rfl, HX.out⟩

/-- The walk: what it has captured. -/
theorem walk_any (b : List UInt8) (w : World) : Calls Try.prog 11 #[strV b] w fun e w' => ∃ g, e = .returned (.func (.func 17) #[] #[.pointer (some ⟨g, 0, none⟩)]) ∧ Ext w w' ∧ w.heap.size ≤ g ∧ w'.heap[g]? = some (.cells #[strV b] 9 (0, 0)) := by
  unfold strV
  go_enter Try.func11, Try.ntmps11
  go_wp2
  go_ret
  exact ⟨w.heap.size, rfl, (Ch.refl _ _).alloc _, Nat.le_refl _, heap_alloc_new w _⟩
end Go.Proofs.Ytolelgbkohccbaa
