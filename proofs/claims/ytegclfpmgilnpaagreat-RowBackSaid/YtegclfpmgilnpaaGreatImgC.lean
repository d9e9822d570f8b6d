import Derived.Test.YtegclfpmgilnpaaGreatImgB
import Derived.Great.BuildSlice
import Derived.Deep.WholeRow
namespace Go.Proofs.YtegclfpmgilnpaaGreat
open Go.RowKit Go.Lac
theorem run_rcneq (a b : Cel) (w : World) : (binOp .neq 76 (rc a) (rc b)).run Tryz.prog w = .ok (.bool (!decide (a = b))) w := by
  have h := run_rceq a b w
  unfold rc at *
  rw [run_eql_struct] at h
  rw [run_neq_struct]
  cases hX : (Op.equalIn 10000 76 (.agg (rcv a)) (.agg (rcv b))).run Tryz.prog w with
  | ok b' w' =>
    rw [hX] at h
    simp only [Result.andThen_ok] at h ⊢
    cases h
    rfl
  | _ =>
    rw [hX] at h
    simp [Result.andThen] at h
theorem load_R {w : World} {b o : Nat} {c : Cel} (h : w.rangeAt b o (rcv c).toList) : (Instr.loadAt 76 (.pointer (some ⟨b, o, none⟩))).run Tryz.prog w = .ok (rc c) w :=
  run_loadAt_mid w b o _ _ _ h Tryz.underlying76 rfl infoSRr
theorem wpList_newP {ops : Array Oper} {rest : List Oper} {o : Oper} {a : Act} {w : World} {Q : Exit → Act → World → Prop} (hgd : o.guard = none) (x y : Operand) (ho : o.op = .store 90 x y) (hd : o.dst = none) (c : Cel) {cs : Array Value} (hcs : cs = pcv c)
    {g : Nat} (hx : a.eval x = .pointer (some ⟨g, 0, none⟩)) (hg : w.heap.size = g) (hy : a.eval y = .agg cs) (h : wpList Tryz.prog ops Q rest a (w.alloc (.cells cs 90))) :
    wpList Tryz.prog ops Q (o :: rest) a (w.alloc (.cells #[.int .u8 0, .int .u8 0, .int .i64 0, .complex .f64 0 0, .string ⟨#[]⟩] 90)) := by
  subst hcs; subst hg
  refine wpList_store_rowTo hgd _ x y ho hd w.heap.size (pcv c) hx hy 90 _ (heap_alloc_new w _) infoSPr rfl (by simp [pcv, strV, Value.oneCell']) ?_
  rw [World.setRow_alloc_new]
  exact h
theorem rangeAt_ext {w w' : World} {b o : Nat} {cs : List Value} (h : w.rangeAt b o cs) (k : Ext w w') : w'.rangeAt b o cs := fun j u hu => k.cell (p := ⟨b, o + j, none⟩) (fun f => f) _ (h j u hu)
def smR (b1 o1 b2 o2 n ac bc k : Nat) (x y : Cel) : Tmp → Kn
  | 17 => .is (.slice (some ⟨b1, o1, none⟩) n ac)
  | 18 => .is (.int .i64 (k : Nat))
  | 19 => .is (.pointer (some ⟨b1, o1 + k * 6, none⟩))
  | 20 => .is (rc x)
  | 21 => .is (.slice (some ⟨b2, o2, none⟩) n bc)
  | 22 => .is (.int .i64 (k : Nat))
  | 23 => .is (.pointer (some ⟨b2, o2 + k * 6, none⟩))
  | 24 => .is (rc y)
  | 25 => .is (.bool (!decide (x = y)))
  | _ => .any
set_option maxRecDepth 20000 in
set_option maxHeartbeats 2000000 in
theorem sameR_any (v1 v2 : Value) (a b : List Cel) (w : World) (h1 : RcS w v1 a) (h2 : RcS w v2 b) :
    Calls Tryz.prog 11 #[v1, v2] w fun e w' => e = .returned (.bool (decide (a = b))) ∧ Ext w w' := by
  have HA := Lib.hid h1; have HB := Lib.hid h2
  obtain ⟨ao, ac, rfl, k1, k2⟩ := h1.shape
  obtain ⟨bo, bc, rfl, k3, k4⟩ := h2.shape
  obtain ⟨ci, chi, _, chs, _⟩ := info_parts infoRrZ
  have CHI := Lib.hid chi; have CHS := Lib.hid chs
  have hm1 : a.length ≤ 9223372036854775807 := by unfold maxLen at k2; omega
  have hm2 : b.length ≤ 9223372036854775807 := by unfold maxLen at k4; omega
  clear h1 h2 k1 k2 k3 k4 chi chs
  by_cases hl : a.length = b.length
  case neg =>
    have HD : Hid (decide (a = b) = false) := Lib.hid (decide_eq_false fun e => hl (by rw [e]))
    have hle : (((a.length : Nat) : Int) == ((b.length : Nat) : Int)) = false := beq_eq_false_iff_ne.2 (by omega)
    have hle2 : (((a.length : Nat) : Int) != ((b.length : Nat) : Int)) = true := by rw [bne, hle]; rfl
    clear hl
    generalize a.length = n1 at *
    generalize b.length = n2 at *
    go_enter Tryz.func11, Tryz.ntmps11
    go_wp2
    go_ret
    exact ⟨by rw [HD.out]; rfl, Ch.refl _ _⟩
  generalize hn : b.length = n at *
  rw [hl] at HA hm1 ⊢
  have HN1 := Lib.hid hl; have HN2 := Lib.hid hn
  clear hl hn hm1
  go_enter Tryz.func11, Tryz.ntmps11
  go_wp2
  go_loopw [5] (fun ix wr => ∃ k : Nat, k ≤ n ∧ ix = .int .i64 k ∧ Hid (Ext w wr) ∧ Hid (∀ j (h : j < a.length) (h' : j < b.length), j < k → a[j] = b[j])) (fun ix _ => n - (intOf ix).toNat)
  case atStart => exact ⟨0, Nat.zero_le _, rfl, Lib.hid (Ch.refl _ _), Lib.hid fun j h h' hj => absurd hj (Nat.not_lt_zero _)⟩
  case round =>
    obtain ⟨k, hk, rfl, HX, HP⟩ := hrel
    by_cases hlt : k < n
    · have ha : k < a.length := by have := HN1.out; omega
      have hb : k < b.length := by have := HN2.out; omega
      obtain ⟨b1, o1, rfl, hra⟩ := HA.out.at ha
      obtain ⟨b2, o2, rfl, hrb⟩ := HB.out.at hb
      have HNE : Hid (a[k] ≠ b[k] → decide (a = b) = false) := Lib.hid fun h => decide_eq_false fun e => h (by subst e; rfl)
      have HEQ : Hid (a[k] = b[k] → ∀ j (h : j < a.length) (h' : j < b.length), j < k + 1 → a[j] = b[j]) := Lib.hid fun e j h h' hj => by
        by_cases hjk : j < k
        · exact HP.out j h h' hjk
        · have : j = k := by omega
          subst this
          exact e
      generalize a[k] = x at *
      generalize b[k] = y at *
      have RA := Lib.hid (rangeAt_ext hra HX.out)
      have RB := Lib.hid (rangeAt_ext hrb HX.out)
      have HLT := Lib.hid hlt
      clear hra hrb ha hb
      go_wp2
      refine wp_region_ext (smR b1 o1 b2 o2 n ac bc k x y) mixedR (by rfl) (by rfl) ?all ?fin
      case all =>
        refine ⟨?_, ?_, ?_, ?_, ?_, ?_, ?_, ?_, ?_, trivial⟩
        · refine StepOK.plain (kn_stable _) rfl fun ρ w' hρ hw hf => ?_
          have h0 : ρ (.tmp 0) = (.slice (some ⟨b1, o1, none⟩) n ac) := (hf 0).2 rfl rfl
          exact Exec.kmove rfl rfl h0
        · refine StepOK.plain (kn_stable _) rfl fun ρ w' hρ hw hf => ?_
          have h5 : ρ (.tmp 5) = (.int .i64 (k : Nat)) := (hf 5).2 rfl rfl
          exact Exec.kmove rfl rfl h5
        · refine StepOK.plain (kn_stable _) rfl fun ρ w' hρ hw hf => ?_
          have h17 : ρ (.tmp 17) = (.slice (some ⟨b1, o1, none⟩) n ac) := (hf 17).1 rfl
          have h18 : ρ (.tmp 18) = (.int .i64 (k : Nat)) := (hf 18).1 rfl
          exact Exec.kindex rfl rfl Tryz.underlying45 CHI.out CHS.out h17 h18 HLT.out rfl
        · refine StepOK.plain (kn_stable _) rfl fun ρ w' hρ hw hf => ?_
          have h19 : ρ (.tmp 19) = (.pointer (some ⟨b1, o1 + k * 6, none⟩)) := (hf 19).1 rfl
          exact Exec.kloadmid rfl rfl h19 (load_R (rangeAt_ext RA.out hw)) rfl
        · refine StepOK.plain (kn_stable _) rfl fun ρ w' hρ hw hf => ?_
          have h1 : ρ (.tmp 1) = (.slice (some ⟨b2, o2, none⟩) n bc) := (hf 1).2 rfl rfl
          exact Exec.kmove rfl rfl h1
        · refine StepOK.plain (kn_stable _) rfl fun ρ w' hρ hw hf => ?_
          have h5 : ρ (.tmp 5) = (.int .i64 (k : Nat)) := (hf 5).2 rfl rfl
          exact Exec.kmove rfl rfl h5
        · refine StepOK.plain (kn_stable _) rfl fun ρ w' hρ hw hf => ?_
          have h21 : ρ (.tmp 21) = (.slice (some ⟨b2, o2, none⟩) n bc) := (hf 21).1 rfl
          have h22 : ρ (.tmp 22) = (.int .i64 (k : Nat)) := (hf 22).1 rfl
          exact Exec.kindex rfl rfl Tryz.underlying45 CHI.out CHS.out h21 h22 HLT.out rfl
        · refine StepOK.plain (kn_stable _) rfl fun ρ w' hρ hw hf => ?_
          have h23 : ρ (.tmp 23) = (.pointer (some ⟨b2, o2 + k * 6, none⟩)) := (hf 23).1 rfl
          exact Exec.kloadmid rfl rfl h23 (load_R (rangeAt_ext RB.out hw)) rfl
        · refine StepOK.plain (kn_stable _) rfl fun ρ w' hρ hw hf => ?_
          have h20 : ρ (.tmp 20) = (rc x) := (hf 20).1 rfl
          have h24 : ρ (.tmp 24) = (rc y) := (hf 24).1 rfl
          exact Exec.same (v := .bool (!decide (x = y))) rfl (by
                have hg : (eqGuard .neq 76 (.tmp 20) (.tmp 24) (rc x) (rc y)).run Tryz.prog w' = .ok () w' := run_eqGuard_agg w' _ _ _ _ _ _ (by kernel_rfl)
                unfold execOp
                simp only [h20, h24, Sem.run_bind, hg, Result.andThen_ok, run_rcneq, Sem.run_pure]) rfl
      case fin =>
        intro ν w9 hfin hx9
        have e0 : ν 25 = .bool (!decide (x = y)) := hfin 8 25 rfl
        simp only [Exit.then, ended, List.foldl_cons, List.foldl_nil, List.setIfInBounds_toArray, List.set_cons_succ, List.set_cons_zero, e0]
        have HX9 := Lib.hid (HX.out.trans hx9)
        clear hfin hx9 e0
        by_cases hxy : x = y
        · have HPK := Lib.hid (HEQ.out hxy)
          rw [decide_eq_true hxy]
          clear hxy HEQ HNE
          go_wp2
          go_roundw
          case rel => exact ⟨k + 1, HLT.out, by simp, HX9, HPK⟩
          case measure => simp [intOf]; have := HLT.out; omega
        · have HD := Lib.hid (HNE.out hxy)
          rw [decide_eq_false hxy]
          clear hxy HEQ HNE
          go_wp2
          go_ret
          exact ⟨by rw [HD.out]; rfl, HX9.out⟩
    · obtain rfl : k = n := by omega
      have HD : Hid (decide (a = b) = true) := Lib.hid (decide_eq_true (List.ext_getElem (by rw [HN1.out, HN2.out]) fun j h h' => HP.out j h h' (by have := HN1.out; omega)))
      go_wp2
      go_ret
      exact ⟨by rw [HD.out]; rfl, HX.out⟩
theorem emptyPr (w : World) : (Instr.buildSlice 36 0 #[]).run Tryz.prog w = .ok (.slice (some ⟨w.heap.size, 0, none⟩) 0 0) (w.alloc (.cells #[] 90)) := by kernel_rfl
set_option maxRecDepth 20000 in
set_option maxHeartbeats 1600000 in
theorem clonePr_any (v : Value) (l : List Cel) (w : World) (hb : PcS w v l) (hl : l.length ≤ 1000000) :
    Calls Tryz.prog 44 #[v] w (PrPost l w) := by
  obtain ⟨i, hi, hz, hs, hby⟩ := info_parts infoPrZ
  have HB := Lib.hid hb
  obtain ⟨ao, cap, hv, h1, h2, h3, h4⟩ := hb
  subst hv
  cases ao with
  | none =>
    obtain rfl : cap = 0 := h3 rfl
    have hbs : l = [] := List.eq_nil_of_length_eq_zero (by omega)
    subst hbs
    clear h1 h2 h3 h4
    have hnil := Lib.run_eql_slice_nil (P := Tryz.prog) w 36 90 none 0 0 0 0 Tryz.underlying36
    go_enter Tryz.func44, Tryz.ntmps44
    go_wp2
    go_ret
    exact ⟨_, rfl, Ch.refl _ _, World.ownsRow_nil _ _ _ _⟩
  | some x =>
    clear h3 h4 h1 h2
    have hx : Ext w (w.alloc (.cells #[] 90)) := (Ch.refl _ _).alloc _
    have HO := Lib.hid (World.ownsRow_lit (base := w.heap.size) (e := 90) (size := 5) w #[] 0 (Nat.le_refl _) (Nat.zero_le _) rfl)
    have HX := Lib.hid hx
    have HL := Lib.hid hl
    have HE := Lib.hid emptyPr
    clear hx hl
    have hnil := Lib.run_eql_slice_nil (P := Tryz.prog) w 36 90 (some x) l.length cap 0 0 Tryz.underlying36
    have hempty := emptyPr w
    go_enter Tryz.func44, Tryz.ntmps44
    go_wp2_with (at_builtin; refine wpList_append_sl _ rfl _ _ 36 rfl w.heap.size 90 i (.agg #[.int .u8 0, .int .u8 0, .int .i64 0, .complex .f64 0 0, .string ⟨#[]⟩]) 5 56 Tryz.underlying36 hi hz hs hby rfl (by decide) _ _ _ rfl HO.out _ _ _ rfl (HB.out.ext HX.out) (PcC_length l) (PcC_one l) (by have := HL.out; omega) (by have := HL.out; unfold maxLen; omega) (by simp) ?_)
    intro v' w' hown hgrow
    have hfin : PrPost l w (.returned v') w' := ⟨v', rfl, HX.out.grown hgrow (fun k hk => by simp [Value.ownBlock] at hk; omega), by unfold OwnPr; simpa using hown⟩
    have HF := Lib.hid hfin; clear hfin hown hgrow
    go_wp2
    go_ret
    exact HF.out
set_option maxRecDepth 20000 in
set_option maxHeartbeats 2000000 in
theorem equalF_any (v1 v2 : Value) (a b : List Cel) (w : World) (h1 : PcS w v1 a) (h2 : PcS w v2 b) :
    Calls Tryz.prog 46 #[v1, v2, .func (.func 47) #[] #[]] w fun e w' => e = .returned (.bool (decide (a = b))) ∧ Ext w w' := by
  have HA := Lib.hid h1; have HB := Lib.hid h2
  obtain ⟨ao, ac, rfl, k1, k2⟩ := h1.shape
  obtain ⟨bo, bc, rfl, k3, k4⟩ := h2.shape
  obtain ⟨ci, chi, _, chs, _⟩ := info_parts infoPrZ
  have CHI := Lib.hid chi; have CHS := Lib.hid chs
  have hm1 : a.length ≤ 9223372036854775807 := by unfold maxLen at k2; omega
  have hm2 : b.length ≤ 9223372036854775807 := by unfold maxLen at k4; omega
  clear h1 h2 k1 k2 k3 k4 chi chs
  by_cases hl : a.length = b.length
  case neg =>
    have HD : Hid (decide (a = b) = false) := Lib.hid (decide_eq_false fun e => hl (by rw [e]))
    have hle : (((a.length : Nat) : Int) == ((b.length : Nat) : Int)) = false := beq_eq_false_iff_ne.2 (by omega)
    have hle2 : (((a.length : Nat) : Int) != ((b.length : Nat) : Int)) = true := by rw [bne, hle]; rfl
    clear hl
    generalize a.length = n1 at *
    generalize b.length = n2 at *
    go_enter Tryz.func46, Tryz.ntmps46
    go_wp2
    go_ret
    exact ⟨by rw [HD.out]; rfl, Ch.refl _ _⟩
  generalize hn : b.length = n at *
  rw [hl] at HA hm1 ⊢
  have HN1 := Lib.hid hl; have HN2 := Lib.hid hn
  clear hl hn hm1
  go_enter Tryz.func46, Tryz.ntmps46
  go_wp2
  go_loopw [17] (fun ix wr => ∃ k : Nat, k ≤ n ∧ ix = .int .i64 k ∧ Hid (Ext w wr) ∧ Hid (∀ j (h : j < a.length) (h' : j < b.length), j < k → a[j] = b[j])) (fun ix _ => n - (intOf ix).toNat)
  case atStart => exact ⟨0, Nat.zero_le _, rfl, Lib.hid (Ch.refl _ _), Lib.hid fun j h h' hj => absurd hj (Nat.not_lt_zero _)⟩
  case round =>
    obtain ⟨k, hk, rfl, HX, HP⟩ := hrel
    by_cases hlt : k < n
    · have ha : k < a.length := by have := HN1.out; omega
      have hb : k < b.length := by have := HN2.out; omega
      obtain ⟨b1, o1, rfl, hra0⟩ := HA.out.at ha
      obtain ⟨b2, o2, rfl, hrb0⟩ := HB.out.at hb
      have HNE : Hid (a[k] ≠ b[k] → decide (a = b) = false) := Lib.hid fun h => decide_eq_false fun e => h (by subst e; rfl)
      have HEQ : Hid (a[k] = b[k] → ∀ j (h : j < a.length) (h' : j < b.length), j < k + 1 → a[j] = b[j]) := Lib.hid fun e j h h' hj => by
        by_cases hjk : j < k
        · exact HP.out j h h' hjk
        · have : j = k := by omega
          subst this
          exact e
      generalize a[k] = x at *
      generalize b[k] = y at *
      have hra := rangeAt_ext hra0 HX.out
      have hidxa := run_indexSl wr Tryz.underlying36 CHI.out CHS.out b1 o1 n ac k hlt
      obtain ⟨W1, hW1⟩ : ∃ W1, W1 = wr.alloc (.cells (pcv x) 90) := ⟨_, rfl⟩
      have hx1 : Ext wr W1 := by rw [hW1]; exact (Ch.refl _ _).alloc _
      have hrb := rangeAt_ext hrb0 (HX.out.trans hx1)
      have hidxb := run_indexSl W1 Tryz.underlying36 CHI.out CHS.out b2 o2 n bc k hlt
      have q0 : wr.cell? ⟨b1, o1 + k * 5, none⟩ = some (.int .u8 (x.k : Nat)) := by have := hra 0 _ rfl; simpa using this
      have q1 : wr.cell? ⟨b1, o1 + k * 5 + 1, none⟩ = some (.int .u8 (x.v.ty : Nat)) := hra 1 _ rfl
      have q2 : wr.cell? ⟨b1, o1 + k * 5 + 2, none⟩ = some (.int .i64 x.v.i) := hra 2 _ rfl
      have q3 : wr.cell? ⟨b1, o1 + k * 5 + 3, none⟩ = some (.complex .f64 x.v.re x.v.im) := hra 3 _ rfl
      have q4 : wr.cell? ⟨b1, o1 + k * 5 + 4, none⟩ = some (.string ⟨x.v.t.toArray⟩) := hra 4 _ rfl
      have r0 : W1.cell? ⟨b2, o2 + k * 5, none⟩ = some (.int .u8 (y.k : Nat)) := by have := hrb 0 _ rfl; simpa using this
      have r1 : W1.cell? ⟨b2, o2 + k * 5 + 1, none⟩ = some (.int .u8 (y.v.ty : Nat)) := hrb 1 _ rfl
      have r2 : W1.cell? ⟨b2, o2 + k * 5 + 2, none⟩ = some (.int .i64 y.v.i) := hrb 2 _ rfl
      have r3 : W1.cell? ⟨b2, o2 + k * 5 + 3, none⟩ = some (.complex .f64 y.v.re y.v.im) := hrb 3 _ rfl
      have r4 : W1.cell? ⟨b2, o2 + k * 5 + 4, none⟩ = some (.string ⟨y.v.t.toArray⟩) := hrb 4 _ rfl
      have HXX : Hid (Ext w ((wr.alloc (.cells (pcv x) 90)).alloc (.cells (pcv y) 90))) := Lib.hid ((HX.out.alloc _).alloc _)
      have HAL := Lib.hid (fun w => calike_any x y w)
      have HLT := Lib.hid hlt
      rw [hW1] at r0 r1 r2 r3 r4 hidxb
      clear hra0 hrb0 hra hrb ha hb hW1 hx1
      unfold pc pcv strV at HAL
      unfold pcv strV at HXX r0 r1 r2 r3 r4 hidxb
      go_wp2_with (first | (refine wpList_newP (cs := #[.int .u8 (x.k : Nat), .int .u8 (x.v.ty : Nat), .int .i64 x.v.i, .complex .f64 x.v.re x.v.im, .string ⟨x.v.t.toArray⟩]) rfl _ _ rfl rfl x rfl rfl (by simp) rfl ?_) | (refine wpList_newP (cs := #[.int .u8 (y.k : Nat), .int .u8 (y.v.ty : Nat), .int .i64 y.v.i, .complex .f64 y.v.re y.v.im, .string ⟨y.v.t.toArray⟩]) rfl _ _ rfl rfl y rfl rfl (by simp) rfl ?_))
      refine (HAL.out _).mono ?_
      rintro e w2 ⟨rfl, hx2⟩
      have HX2 := Lib.hid (HXX.out.trans hx2)
      clear hx2 HAL HXX q0 q1 q2 q3 q4 r0 r1 r2 r3 r4 hidxa hidxb
      by_cases hxy : x = y
      · have HPK := Lib.hid (HEQ.out hxy)
        rw [decide_eq_true hxy]
        clear hxy HEQ HNE
        go_wp2
        go_roundw
        case rel => exact ⟨k + 1, HLT.out, by simp, HX2, HPK⟩
        case measure => simp [intOf]; have := HLT.out; omega
      · have HD := Lib.hid (HNE.out hxy)
        rw [decide_eq_false hxy]
        clear hxy HEQ HNE
        go_wp2
        go_ret
        exact ⟨by rw [HD.out]; rfl, HX2.out⟩
    · obtain rfl : k = n := by omega
      have HD : Hid (decide (a = b) = true) := Lib.hid (decide_eq_true (List.ext_getElem (by rw [HN1.out, HN2.out]) fun j h h' => HP.out j h h' (by have := HN1.out; omega)))
      go_wp2
      go_ret
      exact ⟨by rw [HD.out]; rfl, HX.out⟩
theorem alikeRow_any (v1 v2 : Value) (a b : List Cel) (w : World) (h1 : PcS w v1 a) (h2 : PcS w v2 b) :
    Calls Tryz.prog 24 #[v1, v2] w fun e w' => e = .returned (.bool (decide (a = b))) ∧ Ext w w' := by
  have HE := Lib.hid (equalF_any v1 v2 a b w h1 h2)
  generalize decide (a = b) = D at *
  clear h1 h2
  go_enter Tryz.func24, Tryz.ntmps24
  go_wp2_with fail
  refine HE.out.mono ?_
  rintro e w2 ⟨rfl, hx2⟩
  have HX := Lib.hid hx2; clear hx2
  go_wp2
  go_ret
  exact ⟨rfl, HX.out⟩
end Go.Proofs.YtegclfpmgilnpaaGreat
