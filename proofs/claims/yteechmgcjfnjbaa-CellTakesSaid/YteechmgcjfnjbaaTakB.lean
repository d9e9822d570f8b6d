/-
  Values taken: the program's Take.
-/
import Derived.Test.YteechmgcjfnjbaaTakA
import Derived.Test.YteechmgcjfnjbaaValC
namespace Go.Proofs.Yteechmgcjfnjbaa
open Go.RowKit Go.Lac

/-- What is known of a reader at the end: how many bytes are left, the error. -/
def IsW (w : World) (r : Nat) (s : RS) : Prop :=
  ∃ ao cap, w.heap[r]? = some (.cells #[.slice ao s.1.length cap, .int .i64 s.2] 111 (0, 0))
theorem IsR.weak {w : World} {r : Nat} {s : RS} (h : IsR w r s) : IsW w r s := by
  obtain ⟨lv, h1, ⟨h2, _⟩, _⟩ := h
  obtain ⟨ao, cap, rfl⟩ := h2.shape
  exact ⟨ao, cap, h1⟩
theorem IsW.lt {w : World} {r : Nat} {s : RS} (h : IsW w r s) : r < w.heap.size := by
  obtain ⟨_, _, h1⟩ := h
  exact (Array.getElem?_eq_some_iff.1 h1).1
theorem IsW.ext {w w' : World} {r : Nat} {s : RS} (h : IsW w r s) (k : Ext w w') : IsW w' r s := by
  have hlt := h.lt
  obtain ⟨ao, cap, h1⟩ := h
  exact ⟨ao, cap, by rw [k.block r hlt (fun f => f)]; exact h1⟩
theorem IsW.same {w w' : World} {r : Nat} {s : RS} (h : IsW w r s) (k : w'.heap[r]? = w.heap[r]?) : IsW w' r s := by
  obtain ⟨ao, cap, h1⟩ := h
  exact ⟨ao, cap, by rw [k]; exact h1⟩

set_option maxRecDepth 20000 in
set_option maxHeartbeats 1000000 in
theorem left_w (r : Nat) (s : RS) (w : World) (h : IsW w r s) :
    Calls Try.prog 27 #[RPtr r] w fun e w' => e = .returned (.int .i64 s.1.length) ∧ w = w' := by
  obtain ⟨ao, cap, h1⟩ := h
  have c0 := cell_of_row w r 0 _ _ _ h1
  simp only [List.getElem?_toArray, List.getElem?_cons_zero] at c0
  clear h1
  unfold RPtr
  go_enter Try.func27, Try.ntmps27
  go_wp2
  go_ret
  exact ⟨rfl, rfl⟩

set_option maxRecDepth 20000 in
set_option maxHeartbeats 1000000 in
theorem err_w (r : Nat) (s : RS) (w : World) (h : IsW w r s) :
    Calls Try.prog 26 #[RPtr r] w fun e w' => e = .returned (.int .i64 s.2) ∧ w = w' := by
  obtain ⟨ao, cap, h1⟩ := h
  have c1 : w.cell? ⟨r, 1, none⟩ = some (.int .i64 s.2) := by rw [cell_of_row w r 1 _ _ _ h1]; rfl
  clear h1
  unfold RPtr
  go_enter Try.func26, Try.ntmps26
  go_wp2
  go_ret
  exact ⟨rfl, rfl⟩

set_option maxRecDepth 20000 in
set_option maxHeartbeats 1000000 in
theorem end_w (r : Nat) (s : RS) (w : World) (h : IsW w r s) :
    Calls Try.prog 29 #[RPtr r] w fun e w' => e = .returned (.int .i64 (endR s)) ∧ w = w' := by
  obtain ⟨ao, cap, h1⟩ := h
  have c0 : w.cell? ⟨r, 0, none⟩ = some (.slice ao s.1.length cap) := by rw [cell_of_row w r 0 _ _ _ h1]; rfl
  have c1 : w.cell? ⟨r, 1, none⟩ = some (.int .i64 s.2) := by rw [cell_of_row w r 1 _ _ _ h1]; rfl
  clear h1
  unfold RPtr
  by_cases h1 : s.2 = 0
  · have e1 : (s.2 == 0) = true := by simp [h1]
    by_cases h2 : 0 < s.1.length
    · have hE : endR s = 2 := by unfold endR; rw [if_pos ⟨h1, h2⟩]
      rw [hE]
      have H1 := Lib.hid h1; clear h1 hE
      go_enter Try.func29, Try.ntmps29
      go_wp2
      go_ret
      exact ⟨rfl, rfl⟩
    · have hE : endR s = s.2 := by unfold endR; rw [if_neg (fun h => h2 h.2)]
      rw [hE]
      have H1 := Lib.hid h1; clear h1 hE
      go_enter Try.func29, Try.ntmps29
      go_wp2
      go_ret
      exact ⟨rfl, rfl⟩
  · have e1 : (s.2 == 0) = false := by simp [h1]
    have hE : endR s = s.2 := by unfold endR; rw [if_neg (fun h => h1 h.1)]
    rw [hE]
    clear h1 hE
    go_enter Try.func29, Try.ntmps29
    go_wp2
    go_ret
    exact ⟨rfl, rfl⟩

/-- What is done to newer blocks than the reader's is not seen. -/
theorem IsR.above {w w' : World} {r : Nat} {s : RS} (h : IsR w r s) (k : Ch (fun i => r < i) w w') : IsR w' r s := by
  have hlt := h.lt
  obtain ⟨lv, h1, ⟨h2, h4⟩, h3⟩ := h
  refine ⟨lv, by rw [k.block r hlt (fun f => by omega)]; exact h1, ⟨?_, h4⟩, h3⟩
  obtain ⟨ao, cap, g1, g2, g3, g4, g5⟩ := h2
  refine ⟨ao, cap, g1, g2, g3, g4, fun x hx j c hc => ?_⟩
  obtain ⟨b, off, rfl, g6⟩ := g5 x hx j c hc
  have hne : s.1 ≠ [] := by rintro e; rw [e] at hc; simp [cellsB] at hc
  have hb : b < r := h4.2 hne ⟨b, off, none⟩ _ _ (by rw [g1, hx])
  exact ⟨b, off, rfl, k.cell (p := ⟨b, off + j, none⟩) (fun (f : r < b) => by omega) c g6⟩
/-- A value is taken. -/
def TkPost (r : Nat) (v : Val) (s : RS) (w : World) (e : Ending) (w' : World) : Prop := e = .returned (pv v) ∧ Only r w w' ∧ IsR w' r s

/-- What a kind's reading makes of a reader: the value, as the fields hold it. -/
def tRaw (ver k : Nat) (s : RS) : Val × RS :=
  if k = 1 then (⟨k, ((tByte 1 s).1 : Int), 0, 0, []⟩, (tByte 1 s).2)
  else if k = 2 then (⟨k, (tInt ver s).1, 0, 0, []⟩, (tInt ver s).2)
  else if k = 3 then (⟨k, 0, (fltR ver s).1, 0, []⟩, (fltR ver s).2)
  else if k = 4 then (⟨k, 0, (tCplx ver s).1.1, (tCplx ver s).1.2, []⟩, (tCplx ver s).2)
  else if k = 5 then (⟨k, 0, 0, 0, (tText s).1⟩, (tText s).2)
  else if k = 6 then (⟨k, 0, 0, 0, (textR 2048 s).1⟩, (textR 2048 s).2)
  else (⟨k, 0, 0, 0, []⟩, s)
/-- What the program does: the checks, the reading, the answer. -/
def tPre (ver k : Nat) (s : RS) : RS :=
  let s1 := if ver = 1 ∨ ver = 2 then s else failR s 18
  if 1 ≤ k ∧ k ≤ 6 then s1 else failR s1 11
def tTake (ver k : Nat) (s : RS) : Val × RS :=
  (if (tRaw ver k (tPre ver k s)).2.2 ≠ 0 then .zero else (tRaw ver k (tPre ver k s)).1, (tRaw ver k (tPre ver k s)).2)

theorem heap_of_ext {w w' : World} {g : Nat} {o : Obj} (k : Ext w w') (h : w.heap[g]? = some o) : w'.heap[g]? = some o := by
  rw [k.block g (Array.getElem?_eq_some_iff.1 h).1 (fun f => f)]; exact h
theorem heap_of_only {w w' : World} {r g : Nat} {o : Obj} (k : Only r w w') (hg : g ≠ r) (h : w.heap[g]? = some o) : w'.heap[g]? = some o := by
  rw [k.block g (Array.getElem?_eq_some_iff.1 h).1 hg]; exact h

set_option maxRecDepth 20000 in
set_option maxHeartbeats 2000000 in
theorem take_ok_1 (r : Nat) (s : RS) (ver k : Nat) (w : World) (h : IsR w r s) (hv : ver = 1 ∨ ver = 2) (hk : k = 1) :
    Calls Try.prog 97 #[RPtr r, .int .u8 (k : Nat), .int .u8 (ver : Nat)] w (TkPost r (tTake ver k s).1 (tTake ver k s).2 w) := by
  have hiv := isVersion_any ver
  have hit := isType_any k
  rw [decide_eq_true hv] at hiv
  rw [decide_eq_true (show 1 ≤ k ∧ k ≤ 6 by omega)] at hit
  have hpre : tPre ver k s = s := by unfold tPre; simp only; rw [if_pos (show 1 ≤ k ∧ k ≤ 6 by omega), if_pos hv]
  have htt : tTake ver k s = (if (tRaw ver k s).2.2 ≠ 0 then .zero else (tRaw ver k s).1, (tRaw ver k s).2) := by unfold tTake; rw [hpre]
  rw [htt]
  have HIV := Lib.hid hiv; have HIT := Lib.hid hit
  clear hiv hit hpre htt
  have HRL := Lib.hid h.lt
  obtain ⟨S0, hS0⟩ : ∃ S0, S0 = s := ⟨_, rfl⟩
  rw [← hS0]
  have HS0 := Lib.hid hS0
  have hraw : tRaw ver k S0 = (⟨k, ((tByte 1 S0).1 : Int), 0, 0, []⟩, (tByte 1 S0).2) := by unfold tRaw;  rw [if_pos hk]
  rw [hraw]
  simp only
  clear hraw hS0
  have hrd := fun w h => takeByte_any r S0 1 w h
  have HRD := Lib.hid hrd
  clear hrd
  have hbl : (tByte 1 S0).1 < 256 := byteR_lt S0
  generalize (tByte 1 S0).1 = u at *
  generalize (tByte 1 S0).2 = s3 at *
  have hwr : IntKind.i64.wrap (u : Int) = (u : Int) := by rw [IntKind.wrap_i64]; omega
  obtain ⟨PO, hPO⟩ : ∃ PO, PO = TkPost r (if s3.2 ≠ 0 then Val.zero else ⟨k, (u : Int), 0, 0, []⟩) s3 w := ⟨_, rfl⟩
  have HPO : Hid (∀ v w', (if s3.2 ≠ 0 then Val.zero else ⟨k, (u : Int), 0, 0, []⟩) = v → Only r w w' → IsR w' r s3 → PO (.returned (pv v)) w') := Lib.hid fun v w' h1 h2 h3 => by
    rw [hPO, h1]
    exact ⟨rfl, h2, h3⟩
  rw [← hPO]
  clear hPO
  have H := Lib.hid h
  clear h
  have e1 : (((k : Nat) : Int) == 1) = true := by rw [hk]; rfl
  clear hk hv
  unfold RPtr at *
  have hg6 := heap_alloc_new w (.cells #[.int .u8 0, .int .i64 0, .complex .f64 0 0, .string ⟨#[]⟩] 29)
  have hx0 : Ext w (w.alloc (.cells #[.int .u8 0, .int .i64 0, .complex .f64 0 0, .string ⟨#[]⟩] 29)) := (Ch.refl _ _).alloc _
  have HX0 : Hid (Only r w (w.alloc (.cells #[.int .u8 0, .int .i64 0, .complex .f64 0 0, .string ⟨#[]⟩] 29))) := Lib.hid hx0.ch
  have HG0 := Lib.hid hg6
  have H0 := Lib.hid (H.out.ext hx0)
  clear hg6 hx0
  go_enter Try.func97, Try.ntmps97
  have HSW : Hid ((w.alloc (.cells #[.int .u8 0, .int .i64 0, .complex .f64 0 0, .string ⟨#[]⟩] 29)).heap.size = w.heap.size + 1) := Lib.hid (by simp)
  have HS0' := HS0.out
  subst HS0'
  have hq : ((w.alloc (.cells #[.int .u8 0, .int .i64 0, .complex .f64 0 0, .string ⟨#[]⟩] 29)).alloc (.cells #[.int .u8 0, .int .i64 0, .complex .f64 0 0, .string ⟨#[]⟩] 29)).heap[(w.heap.size + 1)]? = some (.cells #[.int .u8 0, .int .i64 0, .complex .f64 0 0, .string ⟨#[]⟩] 29 (0, 0)) := by have := heap_alloc2_new w (.cells #[.int .u8 0, .int .i64 0, .complex .f64 0 0, .string ⟨#[]⟩] 29) (.cells #[.int .u8 0, .int .i64 0, .complex .f64 0 0, .string ⟨#[]⟩] 29); exact this
  have HQ := Lib.hid hq
  obtain ⟨W3, hW3⟩ : ∃ W3, W3 = ((w.alloc (.cells #[.int .u8 0, .int .i64 0, .complex .f64 0 0, .string ⟨#[]⟩] 29)).alloc (.cells #[.int .u8 0, .int .i64 0, .complex .f64 0 0, .string ⟨#[]⟩] 29)).setRow (w.heap.size + 1) #[.int .u8 (k : Nat), .int .i64 0, .complex .f64 0 0, .string ⟨#[]⟩] := ⟨_, rfl⟩
  have hx3 : Ext (w.alloc (.cells #[.int .u8 0, .int .i64 0, .complex .f64 0 0, .string ⟨#[]⟩] 29)) W3 := by rw [hW3]; exact ((Ch.refl _ _).alloc _).setRow (.inr (by rw [HSW.out]; exact Nat.le_refl _)) _
  have HG3 : Hid (W3.heap[w.heap.size]? = some (.cells #[.int .u8 0, .int .i64 0, .complex .f64 0 0, .string ⟨#[]⟩] 29 (0, 0))) := Lib.hid (heap_of_ext hx3 HG0.out)
  have hg7 : W3.heap[(w.heap.size + 1)]? = some (.cells #[.int .u8 (k : Nat), .int .i64 0, .complex .f64 0 0, .string ⟨#[]⟩] 29 (0, 0)) := by rw [hW3]; exact setRow_heap _ _ _ _ _ _ hq
  have HG7 := Lib.hid hg7
  have HX3 : Hid (Only r w W3) := Lib.hid (HX0.out.trans hx3.ch)
  have H3 := Lib.hid (H0.out.ext hx3)
  have HLT : Hid (r < (w.heap.size + 1) ∧ w.heap.size < (w.heap.size + 1)) := Lib.hid (by have := HRL.out; omega)
  have HW3 := Lib.hid hW3
  clear hq hx3 hg7 hW3
  go_wp2_with (first
    | (go_at_call 123; refine (HIV.out _).mono ?_; rintro e w' ⟨rfl, rfl⟩)
    | (go_at_call 114; refine (HIT.out _).mono ?_; rintro e w' ⟨rfl, rfl⟩)
    | (refine wpList_store_rowTo rfl _ _ _ rfl rfl (w.heap.size + 1) #[.int .u8 (k : Nat), .int .i64 0, .complex .f64 0 0, .string ⟨#[]⟩] rfl rfl _ _ HQ.out info61 rfl (prow_one _ _ _ _ _) ?_; rw [← HW3.out])
    | (go_at_call 128; refine (HRD.out _ H3.out).mono ?_))
  rintro e w4 ⟨rfl, k1, k2⟩
  have HX4 := Lib.hid (HX3.out.trans k1); have H4 := Lib.hid k2
  have HG4 : Hid (w4.heap[w.heap.size]? = some (.cells #[.int .u8 0, .int .i64 0, .complex .f64 0 0, .string ⟨#[]⟩] 29 (0, 0))) := Lib.hid (heap_of_only k1 (by have := HRL.out; omega) HG3.out)
  have HG5 : Hid (w4.heap[(w.heap.size + 1)]? = some (.cells #[.int .u8 (k : Nat), .int .i64 0, .complex .f64 0 0, .string ⟨#[]⟩] 29 (0, 0))) := Lib.hid (heap_of_only k1 (by have := HLT.out; omega) HG7.out)
  clear k1 k2
  have d : w4.cell? ⟨(w.heap.size + 1), 1, none⟩ = some (.int .i64 0) := by rw [cell_of_row _ _ _ _ _ _ HG5.out]; rfl
  have f := frozen_of_row w4 (w.heap.size + 1) 1 _ _ HG5.out
  have hst : (store ⟨(w.heap.size + 1), 1, none⟩ (.int .i64 (u : Nat))).run Try.prog w4 = .ok () (w4.setCell ⟨(w.heap.size + 1), 1, none⟩ (.int .i64 (u : Nat))) := by
    rw [run_store Try.prog w4 _ _ _ rfl, d]; simp [f]
  obtain ⟨W5, hW5⟩ : ∃ W5, W5 = w4.setCell ⟨(w.heap.size + 1), 1, none⟩ (.int .i64 (u : Nat)) := ⟨_, rfl⟩
  have HG6 : Hid (W5.heap[(w.heap.size + 1)]? = some (.cells #[.int .u8 (k : Nat), .int .i64 (u : Nat), .complex .f64 0 0, .string ⟨#[]⟩] 29 (0, 0))) := Lib.hid (by rw [hW5]; exact heap_setCell_same w4 (w.heap.size + 1) 1 _ _ _ HG5.out)
  have HG8 : Hid (W5.heap[w.heap.size]? = some (.cells #[.int .u8 0, .int .i64 0, .complex .f64 0 0, .string ⟨#[]⟩] 29 (0, 0))) := Lib.hid (by rw [hW5, heap_setCell_other w4 ⟨(w.heap.size + 1), 1, none⟩ w.heap.size (.int .i64 (u : Nat)) (by have := HLT.out; simp <;> omega)]; exact HG4.out)
  have H5 : Hid (IsR W5 r s3) := Lib.hid (by rw [hW5]; exact H4.out.above (Ch.setCell (p := ⟨(w.heap.size + 1), 1, none⟩) (Ch.refl _ _) (.inl (by have := HLT.out; simp <;> omega)) (.int .i64 (u : Nat))))
  have HX5 : Hid (Only r w W5) := Lib.hid (by rw [hW5]; exact HX4.out.setCell (.inr (by have := HLT.out; simp <;> omega)) _)
  have HER := Lib.hid (err_w r s3 W5 H5.out.weak)
  have HW5 := Lib.hid hW5
  clear hW5
  unfold RPtr at HER
  by_cases he : s3.2 ≠ 0
  · have HE := Lib.hid he
    have eb : (s3.2 != 0) = true := by simpa using he
    clear he
    go_wp2_with (first
      | (go_at_call 26; rw [← HW5.out]; refine (HER.out).mono ?_; rintro e w' ⟨rfl, rfl⟩)
      | (refine wpList_store_rowTo rfl _ _ _ rfl rfl w.heap.size #[.int .u8 0, .int .i64 0, .complex .f64 0 0, .string ⟨#[]⟩] rfl rfl _ _ HG8.out info61 rfl (prow_one _ _ _ _ _) ?_))
    refine bodyPost_ret (results_cell_row rfl _ _ w.heap.size _ #[.int .u8 0, .int .i64 0, .complex .f64 0 0, .string ⟨#[]⟩] _ _ rfl (setRow_heap _ _ _ _ _ _ HG8.out) Try.underlying29 rfl info61) rfl ?_
    exact HPO.out Val.zero _ (by rw [if_pos HE.out]) (HX5.out.setRow (.inr (Nat.le_refl _)) _) (H5.out.above ((Ch.refl _ _).setRow (.inl (by have := HRL.out; omega)) _))
  · have HE := Lib.hid he
    have eb : (s3.2 != 0) = false := by simpa using he
    clear he
    go_wp2_with (first
      | (go_at_call 26; rw [← HW5.out]; refine (HER.out).mono ?_; rintro e w' ⟨rfl, rfl⟩)
      | (refine wpList_load_row rfl _ _ rfl (w.heap.size + 1) rfl _ _ _ _ HG6.out Try.underlying29 rfl info61 ?_)
      | (refine wpList_store_rowTo rfl _ _ _ rfl rfl w.heap.size #[.int .u8 (k : Nat), .int .i64 (u : Nat), .complex .f64 0 0, .string ⟨#[]⟩] rfl rfl _ _ HG8.out info61 rfl (prow_one _ _ _ _ _) ?_))
    refine bodyPost_ret (results_cell_row rfl _ _ w.heap.size _ #[.int .u8 (k : Nat), .int .i64 (u : Nat), .complex .f64 0 0, .string ⟨#[]⟩] _ _ rfl (setRow_heap _ _ _ _ _ _ HG8.out) Try.underlying29 rfl info61) rfl ?_
    exact HPO.out ⟨k, (u : Int), 0, 0, []⟩ _ (by rw [if_neg HE.out]) (HX5.out.setRow (.inr (Nat.le_refl _)) _) (H5.out.above ((Ch.refl _ _).setRow (.inl (by have := HRL.out; omega)) _))

set_option maxRecDepth 20000 in
set_option maxHeartbeats 2000000 in
theorem take_ok_2 (r : Nat) (s : RS) (ver k : Nat) (w : World) (h : IsR w r s) (hv : ver = 1 ∨ ver = 2) (hk : k = 2) :
    Calls Try.prog 97 #[RPtr r, .int .u8 (k : Nat), .int .u8 (ver : Nat)] w (TkPost r (tTake ver k s).1 (tTake ver k s).2 w) := by
  have hiv := isVersion_any ver
  have hit := isType_any k
  rw [decide_eq_true hv] at hiv
  rw [decide_eq_true (show 1 ≤ k ∧ k ≤ 6 by omega)] at hit
  have hpre : tPre ver k s = s := by unfold tPre; simp only; rw [if_pos (show 1 ≤ k ∧ k ≤ 6 by omega), if_pos hv]
  have htt : tTake ver k s = (if (tRaw ver k s).2.2 ≠ 0 then .zero else (tRaw ver k s).1, (tRaw ver k s).2) := by unfold tTake; rw [hpre]
  rw [htt]
  have HIV := Lib.hid hiv; have HIT := Lib.hid hit
  clear hiv hit hpre htt
  have HRL := Lib.hid h.lt
  obtain ⟨S0, hS0⟩ : ∃ S0, S0 = s := ⟨_, rfl⟩
  rw [← hS0]
  have HS0 := Lib.hid hS0
  have hraw : tRaw ver k S0 = (⟨k, (tInt ver S0).1, 0, 0, []⟩, (tInt ver S0).2) := by unfold tRaw; rw [if_neg (by omega)]; rw [if_pos hk]
  rw [hraw]
  simp only
  clear hraw hS0
  have hrd := fun w h => takeInt_any r S0 ver w h
  have HRD := Lib.hid hrd
  clear hrd
  generalize (tInt ver S0).1 = u at *
  generalize (tInt ver S0).2 = s3 at *
  obtain ⟨PO, hPO⟩ : ∃ PO, PO = TkPost r (if s3.2 ≠ 0 then Val.zero else ⟨k, u, 0, 0, []⟩) s3 w := ⟨_, rfl⟩
  have HPO : Hid (∀ v w', (if s3.2 ≠ 0 then Val.zero else ⟨k, u, 0, 0, []⟩) = v → Only r w w' → IsR w' r s3 → PO (.returned (pv v)) w') := Lib.hid fun v w' h1 h2 h3 => by
    rw [hPO, h1]
    exact ⟨rfl, h2, h3⟩
  rw [← hPO]
  clear hPO
  have H := Lib.hid h
  clear h
  have e1 : (((k : Nat) : Int) == 1) = false := by rw [hk]; rfl
  have e2 : (((k : Nat) : Int) == 2) = true := by rw [hk]; rfl
  clear hk hv
  unfold RPtr at *
  have hg6 := heap_alloc_new w (.cells #[.int .u8 0, .int .i64 0, .complex .f64 0 0, .string ⟨#[]⟩] 29)
  have hx0 : Ext w (w.alloc (.cells #[.int .u8 0, .int .i64 0, .complex .f64 0 0, .string ⟨#[]⟩] 29)) := (Ch.refl _ _).alloc _
  have HX0 : Hid (Only r w (w.alloc (.cells #[.int .u8 0, .int .i64 0, .complex .f64 0 0, .string ⟨#[]⟩] 29))) := Lib.hid hx0.ch
  have HG0 := Lib.hid hg6
  have H0 := Lib.hid (H.out.ext hx0)
  clear hg6 hx0
  go_enter Try.func97, Try.ntmps97
  have HSW : Hid ((w.alloc (.cells #[.int .u8 0, .int .i64 0, .complex .f64 0 0, .string ⟨#[]⟩] 29)).heap.size = w.heap.size + 1) := Lib.hid (by simp)
  have HS0' := HS0.out
  subst HS0'
  have hq : ((w.alloc (.cells #[.int .u8 0, .int .i64 0, .complex .f64 0 0, .string ⟨#[]⟩] 29)).alloc (.cells #[.int .u8 0, .int .i64 0, .complex .f64 0 0, .string ⟨#[]⟩] 29)).heap[(w.heap.size + 1)]? = some (.cells #[.int .u8 0, .int .i64 0, .complex .f64 0 0, .string ⟨#[]⟩] 29 (0, 0)) := by have := heap_alloc2_new w (.cells #[.int .u8 0, .int .i64 0, .complex .f64 0 0, .string ⟨#[]⟩] 29) (.cells #[.int .u8 0, .int .i64 0, .complex .f64 0 0, .string ⟨#[]⟩] 29); exact this
  have HQ := Lib.hid hq
  obtain ⟨W3, hW3⟩ : ∃ W3, W3 = ((w.alloc (.cells #[.int .u8 0, .int .i64 0, .complex .f64 0 0, .string ⟨#[]⟩] 29)).alloc (.cells #[.int .u8 0, .int .i64 0, .complex .f64 0 0, .string ⟨#[]⟩] 29)).setRow (w.heap.size + 1) #[.int .u8 (k : Nat), .int .i64 0, .complex .f64 0 0, .string ⟨#[]⟩] := ⟨_, rfl⟩
  have hx3 : Ext (w.alloc (.cells #[.int .u8 0, .int .i64 0, .complex .f64 0 0, .string ⟨#[]⟩] 29)) W3 := by rw [hW3]; exact ((Ch.refl _ _).alloc _).setRow (.inr (by rw [HSW.out]; exact Nat.le_refl _)) _
  have HG3 : Hid (W3.heap[w.heap.size]? = some (.cells #[.int .u8 0, .int .i64 0, .complex .f64 0 0, .string ⟨#[]⟩] 29 (0, 0))) := Lib.hid (heap_of_ext hx3 HG0.out)
  have hg7 : W3.heap[(w.heap.size + 1)]? = some (.cells #[.int .u8 (k : Nat), .int .i64 0, .complex .f64 0 0, .string ⟨#[]⟩] 29 (0, 0)) := by rw [hW3]; exact setRow_heap _ _ _ _ _ _ hq
  have HG7 := Lib.hid hg7
  have HX3 : Hid (Only r w W3) := Lib.hid (HX0.out.trans hx3.ch)
  have H3 := Lib.hid (H0.out.ext hx3)
  have HLT : Hid (r < (w.heap.size + 1) ∧ w.heap.size < (w.heap.size + 1)) := Lib.hid (by have := HRL.out; omega)
  have HW3 := Lib.hid hW3
  clear hq hx3 hg7 hW3
  go_wp2_with (first
    | (go_at_call 123; refine (HIV.out _).mono ?_; rintro e w' ⟨rfl, rfl⟩)
    | (go_at_call 114; refine (HIT.out _).mono ?_; rintro e w' ⟨rfl, rfl⟩)
    | (refine wpList_store_rowTo rfl _ _ _ rfl rfl (w.heap.size + 1) #[.int .u8 (k : Nat), .int .i64 0, .complex .f64 0 0, .string ⟨#[]⟩] rfl rfl _ _ HQ.out info61 rfl (prow_one _ _ _ _ _) ?_; rw [← HW3.out])
    | (go_at_call 129; refine (HRD.out _ H3.out).mono ?_))
  rintro e w4 ⟨rfl, k1, k2⟩
  have HX4 := Lib.hid (HX3.out.trans k1); have H4 := Lib.hid k2
  have HG4 : Hid (w4.heap[w.heap.size]? = some (.cells #[.int .u8 0, .int .i64 0, .complex .f64 0 0, .string ⟨#[]⟩] 29 (0, 0))) := Lib.hid (heap_of_only k1 (by have := HRL.out; omega) HG3.out)
  have HG5 : Hid (w4.heap[(w.heap.size + 1)]? = some (.cells #[.int .u8 (k : Nat), .int .i64 0, .complex .f64 0 0, .string ⟨#[]⟩] 29 (0, 0))) := Lib.hid (heap_of_only k1 (by have := HLT.out; omega) HG7.out)
  clear k1 k2
  have d : w4.cell? ⟨(w.heap.size + 1), 1, none⟩ = some (.int .i64 0) := by rw [cell_of_row _ _ _ _ _ _ HG5.out]; rfl
  have f := frozen_of_row w4 (w.heap.size + 1) 1 _ _ HG5.out
  have hst : (store ⟨(w.heap.size + 1), 1, none⟩ (.int .i64 u)).run Try.prog w4 = .ok () (w4.setCell ⟨(w.heap.size + 1), 1, none⟩ (.int .i64 u)) := by
    rw [run_store Try.prog w4 _ _ _ rfl, d]; simp [f]
  obtain ⟨W5, hW5⟩ : ∃ W5, W5 = w4.setCell ⟨(w.heap.size + 1), 1, none⟩ (.int .i64 u) := ⟨_, rfl⟩
  have HG6 : Hid (W5.heap[(w.heap.size + 1)]? = some (.cells #[.int .u8 (k : Nat), .int .i64 u, .complex .f64 0 0, .string ⟨#[]⟩] 29 (0, 0))) := Lib.hid (by rw [hW5]; exact heap_setCell_same w4 (w.heap.size + 1) 1 _ _ _ HG5.out)
  have HG8 : Hid (W5.heap[w.heap.size]? = some (.cells #[.int .u8 0, .int .i64 0, .complex .f64 0 0, .string ⟨#[]⟩] 29 (0, 0))) := Lib.hid (by rw [hW5, heap_setCell_other w4 ⟨(w.heap.size + 1), 1, none⟩ w.heap.size (.int .i64 u) (by have := HLT.out; simp <;> omega)]; exact HG4.out)
  have H5 : Hid (IsR W5 r s3) := Lib.hid (by rw [hW5]; exact H4.out.above (Ch.setCell (p := ⟨(w.heap.size + 1), 1, none⟩) (Ch.refl _ _) (.inl (by have := HLT.out; simp <;> omega)) (.int .i64 u)))
  have HX5 : Hid (Only r w W5) := Lib.hid (by rw [hW5]; exact HX4.out.setCell (.inr (by have := HLT.out; simp <;> omega)) _)
  have HER := Lib.hid (err_w r s3 W5 H5.out.weak)
  have HW5 := Lib.hid hW5
  clear hW5
  unfold RPtr at HER
  by_cases he : s3.2 ≠ 0
  · have HE := Lib.hid he
    have eb : (s3.2 != 0) = true := by simpa using he
    clear he
    go_wp2_with (first
      | (go_at_call 26; rw [← HW5.out]; refine (HER.out).mono ?_; rintro e w' ⟨rfl, rfl⟩)
      | (refine wpList_store_rowTo rfl _ _ _ rfl rfl w.heap.size #[.int .u8 0, .int .i64 0, .complex .f64 0 0, .string ⟨#[]⟩] rfl rfl _ _ HG8.out info61 rfl (prow_one _ _ _ _ _) ?_))
    refine bodyPost_ret (results_cell_row rfl _ _ w.heap.size _ #[.int .u8 0, .int .i64 0, .complex .f64 0 0, .string ⟨#[]⟩] _ _ rfl (setRow_heap _ _ _ _ _ _ HG8.out) Try.underlying29 rfl info61) rfl ?_
    exact HPO.out Val.zero _ (by rw [if_pos HE.out]) (HX5.out.setRow (.inr (Nat.le_refl _)) _) (H5.out.above ((Ch.refl _ _).setRow (.inl (by have := HRL.out; omega)) _))
  · have HE := Lib.hid he
    have eb : (s3.2 != 0) = false := by simpa using he
    clear he
    go_wp2_with (first
      | (go_at_call 26; rw [← HW5.out]; refine (HER.out).mono ?_; rintro e w' ⟨rfl, rfl⟩)
      | (refine wpList_load_row rfl _ _ rfl (w.heap.size + 1) rfl _ _ _ _ HG6.out Try.underlying29 rfl info61 ?_)
      | (refine wpList_store_rowTo rfl _ _ _ rfl rfl w.heap.size #[.int .u8 (k : Nat), .int .i64 u, .complex .f64 0 0, .string ⟨#[]⟩] rfl rfl _ _ HG8.out info61 rfl (prow_one _ _ _ _ _) ?_))
    refine bodyPost_ret (results_cell_row rfl _ _ w.heap.size _ #[.int .u8 (k : Nat), .int .i64 u, .complex .f64 0 0, .string ⟨#[]⟩] _ _ rfl (setRow_heap _ _ _ _ _ _ HG8.out) Try.underlying29 rfl info61) rfl ?_
    exact HPO.out ⟨k, u, 0, 0, []⟩ _ (by rw [if_neg HE.out]) (HX5.out.setRow (.inr (Nat.le_refl _)) _) (H5.out.above ((Ch.refl _ _).setRow (.inl (by have := HRL.out; omega)) _))

set_option maxRecDepth 20000 in
set_option maxHeartbeats 2000000 in
theorem take_ok_3 (r : Nat) (s : RS) (ver k : Nat) (w : World) (h : IsR w r s) (hv : ver = 1 ∨ ver = 2) (hk : k = 3) :
    Calls Try.prog 97 #[RPtr r, .int .u8 (k : Nat), .int .u8 (ver : Nat)] w (TkPost r (tTake ver k s).1 (tTake ver k s).2 w) := by
  have hiv := isVersion_any ver
  have hit := isType_any k
  rw [decide_eq_true hv] at hiv
  rw [decide_eq_true (show 1 ≤ k ∧ k ≤ 6 by omega)] at hit
  have hpre : tPre ver k s = s := by unfold tPre; simp only; rw [if_pos (show 1 ≤ k ∧ k ≤ 6 by omega), if_pos hv]
  have htt : tTake ver k s = (if (tRaw ver k s).2.2 ≠ 0 then .zero else (tRaw ver k s).1, (tRaw ver k s).2) := by unfold tTake; rw [hpre]
  rw [htt]
  have HIV := Lib.hid hiv; have HIT := Lib.hid hit
  clear hiv hit hpre htt
  have HRL := Lib.hid h.lt
  obtain ⟨S0, hS0⟩ : ∃ S0, S0 = s := ⟨_, rfl⟩
  rw [← hS0]
  have HS0 := Lib.hid hS0
  have hraw : tRaw ver k S0 = (⟨k, 0, (fltR ver S0).1, 0, []⟩, (fltR ver S0).2) := by unfold tRaw; rw [if_neg (by omega)]; rw [if_neg (by omega)]; rw [if_pos hk]
  rw [hraw]
  simp only
  clear hraw hS0
  have hrd := fun w h => takeFloat_any r S0 ver w h
  have HRD := Lib.hid hrd
  clear hrd
  have hbl : (fltR ver S0).1 < 18446744073709551616 := fltR_lt ver S0
  generalize (fltR ver S0).1 = u at *
  generalize (fltR ver S0).2 = s3 at *
  obtain ⟨PO, hPO⟩ : ∃ PO, PO = TkPost r (if s3.2 ≠ 0 then Val.zero else ⟨k, 0, u, 0, []⟩) s3 w := ⟨_, rfl⟩
  have HPO : Hid (∀ v w', (if s3.2 ≠ 0 then Val.zero else ⟨k, 0, u, 0, []⟩) = v → Only r w w' → IsR w' r s3 → PO (.returned (pv v)) w') := Lib.hid fun v w' h1 h2 h3 => by
    rw [hPO, h1]
    exact ⟨rfl, h2, h3⟩
  rw [← hPO]
  clear hPO
  have H := Lib.hid h
  clear h
  have e1 : (((k : Nat) : Int) == 1) = false := by rw [hk]; rfl
  have e2 : (((k : Nat) : Int) == 2) = false := by rw [hk]; rfl
  have e3 : (((k : Nat) : Int) == 3) = true := by rw [hk]; rfl
  clear hk hv
  unfold RPtr at *
  have hg6 := heap_alloc_new w (.cells #[.int .u8 0, .int .i64 0, .complex .f64 0 0, .string ⟨#[]⟩] 29)
  have hx0 : Ext w (w.alloc (.cells #[.int .u8 0, .int .i64 0, .complex .f64 0 0, .string ⟨#[]⟩] 29)) := (Ch.refl _ _).alloc _
  have HX0 : Hid (Only r w (w.alloc (.cells #[.int .u8 0, .int .i64 0, .complex .f64 0 0, .string ⟨#[]⟩] 29))) := Lib.hid hx0.ch
  have HG0 := Lib.hid hg6
  have H0 := Lib.hid (H.out.ext hx0)
  clear hg6 hx0
  go_enter Try.func97, Try.ntmps97
  have HSW : Hid ((w.alloc (.cells #[.int .u8 0, .int .i64 0, .complex .f64 0 0, .string ⟨#[]⟩] 29)).heap.size = w.heap.size + 1) := Lib.hid (by simp)
  have HS0' := HS0.out
  subst HS0'
  have hq : ((w.alloc (.cells #[.int .u8 0, .int .i64 0, .complex .f64 0 0, .string ⟨#[]⟩] 29)).alloc (.cells #[.int .u8 0, .int .i64 0, .complex .f64 0 0, .string ⟨#[]⟩] 29)).heap[(w.heap.size + 1)]? = some (.cells #[.int .u8 0, .int .i64 0, .complex .f64 0 0, .string ⟨#[]⟩] 29 (0, 0)) := by have := heap_alloc2_new w (.cells #[.int .u8 0, .int .i64 0, .complex .f64 0 0, .string ⟨#[]⟩] 29) (.cells #[.int .u8 0, .int .i64 0, .complex .f64 0 0, .string ⟨#[]⟩] 29); exact this
  have HQ := Lib.hid hq
  obtain ⟨W3, hW3⟩ : ∃ W3, W3 = ((w.alloc (.cells #[.int .u8 0, .int .i64 0, .complex .f64 0 0, .string ⟨#[]⟩] 29)).alloc (.cells #[.int .u8 0, .int .i64 0, .complex .f64 0 0, .string ⟨#[]⟩] 29)).setRow (w.heap.size + 1) #[.int .u8 (k : Nat), .int .i64 0, .complex .f64 0 0, .string ⟨#[]⟩] := ⟨_, rfl⟩
  have hx3 : Ext (w.alloc (.cells #[.int .u8 0, .int .i64 0, .complex .f64 0 0, .string ⟨#[]⟩] 29)) W3 := by rw [hW3]; exact ((Ch.refl _ _).alloc _).setRow (.inr (by rw [HSW.out]; exact Nat.le_refl _)) _
  have HG3 : Hid (W3.heap[w.heap.size]? = some (.cells #[.int .u8 0, .int .i64 0, .complex .f64 0 0, .string ⟨#[]⟩] 29 (0, 0))) := Lib.hid (heap_of_ext hx3 HG0.out)
  have hg7 : W3.heap[(w.heap.size + 1)]? = some (.cells #[.int .u8 (k : Nat), .int .i64 0, .complex .f64 0 0, .string ⟨#[]⟩] 29 (0, 0)) := by rw [hW3]; exact setRow_heap _ _ _ _ _ _ hq
  have HG7 := Lib.hid hg7
  have HX3 : Hid (Only r w W3) := Lib.hid (HX0.out.trans hx3.ch)
  have H3 := Lib.hid (H0.out.ext hx3)
  have HLT : Hid (r < (w.heap.size + 1) ∧ w.heap.size < (w.heap.size + 1)) := Lib.hid (by have := HRL.out; omega)
  have HW3 := Lib.hid hW3
  clear hq hx3 hg7 hW3
  go_wp2_with (first
    | (go_at_call 123; refine (HIV.out _).mono ?_; rintro e w' ⟨rfl, rfl⟩)
    | (go_at_call 114; refine (HIT.out _).mono ?_; rintro e w' ⟨rfl, rfl⟩)
    | (refine wpList_store_rowTo rfl _ _ _ rfl rfl (w.heap.size + 1) #[.int .u8 (k : Nat), .int .i64 0, .complex .f64 0 0, .string ⟨#[]⟩] rfl rfl _ _ HQ.out info61 rfl (prow_one _ _ _ _ _) ?_; rw [← HW3.out])
    | (go_at_call 130; refine (HRD.out _ H3.out).mono ?_))
  rintro e w4 ⟨rfl, k1, k2⟩
  have HX4 := Lib.hid (HX3.out.trans k1); have H4 := Lib.hid k2
  have HG4 : Hid (w4.heap[w.heap.size]? = some (.cells #[.int .u8 0, .int .i64 0, .complex .f64 0 0, .string ⟨#[]⟩] 29 (0, 0))) := Lib.hid (heap_of_only k1 (by have := HRL.out; omega) HG3.out)
  have HG5 : Hid (w4.heap[(w.heap.size + 1)]? = some (.cells #[.int .u8 (k : Nat), .int .i64 0, .complex .f64 0 0, .string ⟨#[]⟩] 29 (0, 0))) := Lib.hid (heap_of_only k1 (by have := HLT.out; omega) HG7.out)
  clear k1 k2
  have d : w4.cell? ⟨(w.heap.size + 1), 2, none⟩ = some (.complex .f64 0 0) := by rw [cell_of_row _ _ _ _ _ _ HG5.out]; rfl
  have f := frozen_of_row w4 (w.heap.size + 1) 2 _ _ HG5.out
  have hst : (store ⟨(w.heap.size + 1), 2, none⟩ (.complex .f64 u 0)).run Try.prog w4 = .ok () (w4.setCell ⟨(w.heap.size + 1), 2, none⟩ (.complex .f64 u 0)) := by
    rw [run_store Try.prog w4 _ _ _ rfl, d]; simp [f]
  obtain ⟨W5, hW5⟩ : ∃ W5, W5 = w4.setCell ⟨(w.heap.size + 1), 2, none⟩ (.complex .f64 u 0) := ⟨_, rfl⟩
  have HG6 : Hid (W5.heap[(w.heap.size + 1)]? = some (.cells #[.int .u8 (k : Nat), .int .i64 0, .complex .f64 u 0, .string ⟨#[]⟩] 29 (0, 0))) := Lib.hid (by rw [hW5]; exact heap_setCell_same w4 (w.heap.size + 1) 2 _ _ _ HG5.out)
  have HG8 : Hid (W5.heap[w.heap.size]? = some (.cells #[.int .u8 0, .int .i64 0, .complex .f64 0 0, .string ⟨#[]⟩] 29 (0, 0))) := Lib.hid (by rw [hW5, heap_setCell_other w4 ⟨(w.heap.size + 1), 2, none⟩ w.heap.size (.complex .f64 u 0) (by have := HLT.out; simp <;> omega)]; exact HG4.out)
  have H5 : Hid (IsR W5 r s3) := Lib.hid (by rw [hW5]; exact H4.out.above (Ch.setCell (p := ⟨(w.heap.size + 1), 2, none⟩) (Ch.refl _ _) (.inl (by have := HLT.out; simp <;> omega)) (.complex .f64 u 0)))
  have HX5 : Hid (Only r w W5) := Lib.hid (by rw [hW5]; exact HX4.out.setCell (.inr (by have := HLT.out; simp <;> omega)) _)
  have HER := Lib.hid (err_w r s3 W5 H5.out.weak)
  have HW5 := Lib.hid hW5
  clear hW5
  unfold RPtr at HER
  by_cases he : s3.2 ≠ 0
  · have HE := Lib.hid he
    have eb : (s3.2 != 0) = true := by simpa using he
    clear he
    go_wp2_with (first
      | (go_at_call 80; refine (of_any _ 0 _).mono ?_; rintro e w' ⟨rfl, rfl⟩)
      | (go_at_call 26; rw [← HW5.out]; refine (HER.out).mono ?_; rintro e w' ⟨rfl, rfl⟩)
      | (refine wpList_store_rowTo rfl _ _ _ rfl rfl w.heap.size #[.int .u8 0, .int .i64 0, .complex .f64 0 0, .string ⟨#[]⟩] rfl rfl _ _ HG8.out info61 rfl (prow_one _ _ _ _ _) ?_))
    refine bodyPost_ret (results_cell_row rfl _ _ w.heap.size _ #[.int .u8 0, .int .i64 0, .complex .f64 0 0, .string ⟨#[]⟩] _ _ rfl (setRow_heap _ _ _ _ _ _ HG8.out) Try.underlying29 rfl info61) rfl ?_
    exact HPO.out Val.zero _ (by rw [if_pos HE.out]) (HX5.out.setRow (.inr (Nat.le_refl _)) _) (H5.out.above ((Ch.refl _ _).setRow (.inl (by have := HRL.out; omega)) _))
  · have HE := Lib.hid he
    have eb : (s3.2 != 0) = false := by simpa using he
    clear he
    go_wp2_with (first
      | (go_at_call 80; refine (of_any _ 0 _).mono ?_; rintro e w' ⟨rfl, rfl⟩)
      | (go_at_call 26; rw [← HW5.out]; refine (HER.out).mono ?_; rintro e w' ⟨rfl, rfl⟩)
      | (refine wpList_load_row rfl _ _ rfl (w.heap.size + 1) rfl _ _ _ _ HG6.out Try.underlying29 rfl info61 ?_)
      | (refine wpList_store_rowTo rfl _ _ _ rfl rfl w.heap.size #[.int .u8 (k : Nat), .int .i64 0, .complex .f64 u 0, .string ⟨#[]⟩] rfl rfl _ _ HG8.out info61 rfl (prow_one _ _ _ _ _) ?_))
    refine bodyPost_ret (results_cell_row rfl _ _ w.heap.size _ #[.int .u8 (k : Nat), .int .i64 0, .complex .f64 u 0, .string ⟨#[]⟩] _ _ rfl (setRow_heap _ _ _ _ _ _ HG8.out) Try.underlying29 rfl info61) rfl ?_
    exact HPO.out ⟨k, 0, u, 0, []⟩ _ (by rw [if_neg HE.out]) (HX5.out.setRow (.inr (Nat.le_refl _)) _) (H5.out.above ((Ch.refl _ _).setRow (.inl (by have := HRL.out; omega)) _))

set_option maxRecDepth 20000 in
set_option maxHeartbeats 2000000 in
theorem take_ok_4 (r : Nat) (s : RS) (ver k : Nat) (w : World) (h : IsR w r s) (hv : ver = 1 ∨ ver = 2) (hk : k = 4) :
    Calls Try.prog 97 #[RPtr r, .int .u8 (k : Nat), .int .u8 (ver : Nat)] w (TkPost r (tTake ver k s).1 (tTake ver k s).2 w) := by
  have hiv := isVersion_any ver
  have hit := isType_any k
  rw [decide_eq_true hv] at hiv
  rw [decide_eq_true (show 1 ≤ k ∧ k ≤ 6 by omega)] at hit
  have hpre : tPre ver k s = s := by unfold tPre; simp only; rw [if_pos (show 1 ≤ k ∧ k ≤ 6 by omega), if_pos hv]
  have htt : tTake ver k s = (if (tRaw ver k s).2.2 ≠ 0 then .zero else (tRaw ver k s).1, (tRaw ver k s).2) := by unfold tTake; rw [hpre]
  rw [htt]
  have HIV := Lib.hid hiv; have HIT := Lib.hid hit
  clear hiv hit hpre htt
  have HRL := Lib.hid h.lt
  obtain ⟨S0, hS0⟩ : ∃ S0, S0 = s := ⟨_, rfl⟩
  rw [← hS0]
  have HS0 := Lib.hid hS0
  have hraw : tRaw ver k S0 = (⟨k, 0, (tCplx ver S0).1.1, (tCplx ver S0).1.2, []⟩, (tCplx ver S0).2) := by unfold tRaw; rw [if_neg (by omega)]; rw [if_neg (by omega)]; rw [if_neg (by omega)]; rw [if_pos hk]
  rw [hraw]
  simp only
  clear hraw hS0
  have hrd := fun w h => takeComplex_any r S0 ver w h
  have HRD := Lib.hid hrd
  clear hrd
  generalize (tCplx ver S0).1.1 = u1 at *
  generalize (tCplx ver S0).1.2 = u2 at *
  generalize (tCplx ver S0).2 = s3 at *
  obtain ⟨PO, hPO⟩ : ∃ PO, PO = TkPost r (if s3.2 ≠ 0 then Val.zero else ⟨k, 0, u1, u2, []⟩) s3 w := ⟨_, rfl⟩
  have HPO : Hid (∀ v w', (if s3.2 ≠ 0 then Val.zero else ⟨k, 0, u1, u2, []⟩) = v → Only r w w' → IsR w' r s3 → PO (.returned (pv v)) w') := Lib.hid fun v w' h1 h2 h3 => by
    rw [hPO, h1]
    exact ⟨rfl, h2, h3⟩
  rw [← hPO]
  clear hPO
  have H := Lib.hid h
  clear h
  have e1 : (((k : Nat) : Int) == 1) = false := by rw [hk]; rfl
  have e2 : (((k : Nat) : Int) == 2) = false := by rw [hk]; rfl
  have e3 : (((k : Nat) : Int) == 3) = false := by rw [hk]; rfl
  have e4 : (((k : Nat) : Int) == 4) = true := by rw [hk]; rfl
  clear hk hv
  unfold RPtr at *
  have hg6 := heap_alloc_new w (.cells #[.int .u8 0, .int .i64 0, .complex .f64 0 0, .string ⟨#[]⟩] 29)
  have hx0 : Ext w (w.alloc (.cells #[.int .u8 0, .int .i64 0, .complex .f64 0 0, .string ⟨#[]⟩] 29)) := (Ch.refl _ _).alloc _
  have HX0 : Hid (Only r w (w.alloc (.cells #[.int .u8 0, .int .i64 0, .complex .f64 0 0, .string ⟨#[]⟩] 29))) := Lib.hid hx0.ch
  have HG0 := Lib.hid hg6
  have H0 := Lib.hid (H.out.ext hx0)
  clear hg6 hx0
  go_enter Try.func97, Try.ntmps97
  have HSW : Hid ((w.alloc (.cells #[.int .u8 0, .int .i64 0, .complex .f64 0 0, .string ⟨#[]⟩] 29)).heap.size = w.heap.size + 1) := Lib.hid (by simp)
  have HS0' := HS0.out
  subst HS0'
  have hq : ((w.alloc (.cells #[.int .u8 0, .int .i64 0, .complex .f64 0 0, .string ⟨#[]⟩] 29)).alloc (.cells #[.int .u8 0, .int .i64 0, .complex .f64 0 0, .string ⟨#[]⟩] 29)).heap[(w.heap.size + 1)]? = some (.cells #[.int .u8 0, .int .i64 0, .complex .f64 0 0, .string ⟨#[]⟩] 29 (0, 0)) := by have := heap_alloc2_new w (.cells #[.int .u8 0, .int .i64 0, .complex .f64 0 0, .string ⟨#[]⟩] 29) (.cells #[.int .u8 0, .int .i64 0, .complex .f64 0 0, .string ⟨#[]⟩] 29); exact this
  have HQ := Lib.hid hq
  obtain ⟨W3, hW3⟩ : ∃ W3, W3 = ((w.alloc (.cells #[.int .u8 0, .int .i64 0, .complex .f64 0 0, .string ⟨#[]⟩] 29)).alloc (.cells #[.int .u8 0, .int .i64 0, .complex .f64 0 0, .string ⟨#[]⟩] 29)).setRow (w.heap.size + 1) #[.int .u8 (k : Nat), .int .i64 0, .complex .f64 0 0, .string ⟨#[]⟩] := ⟨_, rfl⟩
  have hx3 : Ext (w.alloc (.cells #[.int .u8 0, .int .i64 0, .complex .f64 0 0, .string ⟨#[]⟩] 29)) W3 := by rw [hW3]; exact ((Ch.refl _ _).alloc _).setRow (.inr (by rw [HSW.out]; exact Nat.le_refl _)) _
  have HG3 : Hid (W3.heap[w.heap.size]? = some (.cells #[.int .u8 0, .int .i64 0, .complex .f64 0 0, .string ⟨#[]⟩] 29 (0, 0))) := Lib.hid (heap_of_ext hx3 HG0.out)
  have hg7 : W3.heap[(w.heap.size + 1)]? = some (.cells #[.int .u8 (k : Nat), .int .i64 0, .complex .f64 0 0, .string ⟨#[]⟩] 29 (0, 0)) := by rw [hW3]; exact setRow_heap _ _ _ _ _ _ hq
  have HG7 := Lib.hid hg7
  have HX3 : Hid (Only r w W3) := Lib.hid (HX0.out.trans hx3.ch)
  have H3 := Lib.hid (H0.out.ext hx3)
  have HLT : Hid (r < (w.heap.size + 1) ∧ w.heap.size < (w.heap.size + 1)) := Lib.hid (by have := HRL.out; omega)
  have HW3 := Lib.hid hW3
  clear hq hx3 hg7 hW3
  go_wp2_with (first
    | (go_at_call 123; refine (HIV.out _).mono ?_; rintro e w' ⟨rfl, rfl⟩)
    | (go_at_call 114; refine (HIT.out _).mono ?_; rintro e w' ⟨rfl, rfl⟩)
    | (refine wpList_store_rowTo rfl _ _ _ rfl rfl (w.heap.size + 1) #[.int .u8 (k : Nat), .int .i64 0, .complex .f64 0 0, .string ⟨#[]⟩] rfl rfl _ _ HQ.out info61 rfl (prow_one _ _ _ _ _) ?_; rw [← HW3.out])
    | (go_at_call 131; refine (HRD.out _ H3.out).mono ?_))
  rintro e w4 ⟨rfl, k1, k2⟩
  have HX4 := Lib.hid (HX3.out.trans k1); have H4 := Lib.hid k2
  have HG4 : Hid (w4.heap[w.heap.size]? = some (.cells #[.int .u8 0, .int .i64 0, .complex .f64 0 0, .string ⟨#[]⟩] 29 (0, 0))) := Lib.hid (heap_of_only k1 (by have := HRL.out; omega) HG3.out)
  have HG5 : Hid (w4.heap[(w.heap.size + 1)]? = some (.cells #[.int .u8 (k : Nat), .int .i64 0, .complex .f64 0 0, .string ⟨#[]⟩] 29 (0, 0))) := Lib.hid (heap_of_only k1 (by have := HLT.out; omega) HG7.out)
  clear k1 k2
  have d : w4.cell? ⟨(w.heap.size + 1), 2, none⟩ = some (.complex .f64 0 0) := by rw [cell_of_row _ _ _ _ _ _ HG5.out]; rfl
  have f := frozen_of_row w4 (w.heap.size + 1) 2 _ _ HG5.out
  have hst : (store ⟨(w.heap.size + 1), 2, none⟩ (.complex .f64 u1 u2)).run Try.prog w4 = .ok () (w4.setCell ⟨(w.heap.size + 1), 2, none⟩ (.complex .f64 u1 u2)) := by
    rw [run_store Try.prog w4 _ _ _ rfl, d]; simp [f]
  obtain ⟨W5, hW5⟩ : ∃ W5, W5 = w4.setCell ⟨(w.heap.size + 1), 2, none⟩ (.complex .f64 u1 u2) := ⟨_, rfl⟩
  have HG6 : Hid (W5.heap[(w.heap.size + 1)]? = some (.cells #[.int .u8 (k : Nat), .int .i64 0, .complex .f64 u1 u2, .string ⟨#[]⟩] 29 (0, 0))) := Lib.hid (by rw [hW5]; exact heap_setCell_same w4 (w.heap.size + 1) 2 _ _ _ HG5.out)
  have HG8 : Hid (W5.heap[w.heap.size]? = some (.cells #[.int .u8 0, .int .i64 0, .complex .f64 0 0, .string ⟨#[]⟩] 29 (0, 0))) := Lib.hid (by rw [hW5, heap_setCell_other w4 ⟨(w.heap.size + 1), 2, none⟩ w.heap.size (.complex .f64 u1 u2) (by have := HLT.out; simp <;> omega)]; exact HG4.out)
  have H5 : Hid (IsR W5 r s3) := Lib.hid (by rw [hW5]; exact H4.out.above (Ch.setCell (p := ⟨(w.heap.size + 1), 2, none⟩) (Ch.refl _ _) (.inl (by have := HLT.out; simp <;> omega)) (.complex .f64 u1 u2)))
  have HX5 : Hid (Only r w W5) := Lib.hid (by rw [hW5]; exact HX4.out.setCell (.inr (by have := HLT.out; simp <;> omega)) _)
  have HER := Lib.hid (err_w r s3 W5 H5.out.weak)
  have HW5 := Lib.hid hW5
  clear hW5
  unfold RPtr at HER
  by_cases he : s3.2 ≠ 0
  · have HE := Lib.hid he
    have eb : (s3.2 != 0) = true := by simpa using he
    clear he
    go_wp2_with (first
      | (go_at_call 26; rw [← HW5.out]; refine (HER.out).mono ?_; rintro e w' ⟨rfl, rfl⟩)
      | (refine wpList_store_rowTo rfl _ _ _ rfl rfl w.heap.size #[.int .u8 0, .int .i64 0, .complex .f64 0 0, .string ⟨#[]⟩] rfl rfl _ _ HG8.out info61 rfl (prow_one _ _ _ _ _) ?_))
    refine bodyPost_ret (results_cell_row rfl _ _ w.heap.size _ #[.int .u8 0, .int .i64 0, .complex .f64 0 0, .string ⟨#[]⟩] _ _ rfl (setRow_heap _ _ _ _ _ _ HG8.out) Try.underlying29 rfl info61) rfl ?_
    exact HPO.out Val.zero _ (by rw [if_pos HE.out]) (HX5.out.setRow (.inr (Nat.le_refl _)) _) (H5.out.above ((Ch.refl _ _).setRow (.inl (by have := HRL.out; omega)) _))
  · have HE := Lib.hid he
    have eb : (s3.2 != 0) = false := by simpa using he
    clear he
    go_wp2_with (first
      | (go_at_call 26; rw [← HW5.out]; refine (HER.out).mono ?_; rintro e w' ⟨rfl, rfl⟩)
      | (refine wpList_load_row rfl _ _ rfl (w.heap.size + 1) rfl _ _ _ _ HG6.out Try.underlying29 rfl info61 ?_)
      | (refine wpList_store_rowTo rfl _ _ _ rfl rfl w.heap.size #[.int .u8 (k : Nat), .int .i64 0, .complex .f64 u1 u2, .string ⟨#[]⟩] rfl rfl _ _ HG8.out info61 rfl (prow_one _ _ _ _ _) ?_))
    refine bodyPost_ret (results_cell_row rfl _ _ w.heap.size _ #[.int .u8 (k : Nat), .int .i64 0, .complex .f64 u1 u2, .string ⟨#[]⟩] _ _ rfl (setRow_heap _ _ _ _ _ _ HG8.out) Try.underlying29 rfl info61) rfl ?_
    exact HPO.out ⟨k, 0, u1, u2, []⟩ _ (by rw [if_neg HE.out]) (HX5.out.setRow (.inr (Nat.le_refl _)) _) (H5.out.above ((Ch.refl _ _).setRow (.inl (by have := HRL.out; omega)) _))

set_option maxRecDepth 20000 in
set_option maxHeartbeats 2000000 in
theorem take_ok_5 (r : Nat) (s : RS) (ver k : Nat) (w : World) (h : IsR w r s) (hv : ver = 1 ∨ ver = 2) (hk : k = 5) :
    Calls Try.prog 97 #[RPtr r, .int .u8 (k : Nat), .int .u8 (ver : Nat)] w (TkPost r (tTake ver k s).1 (tTake ver k s).2 w) := by
  have hiv := isVersion_any ver
  have hit := isType_any k
  rw [decide_eq_true hv] at hiv
  rw [decide_eq_true (show 1 ≤ k ∧ k ≤ 6 by omega)] at hit
  have hpre : tPre ver k s = s := by unfold tPre; simp only; rw [if_pos (show 1 ≤ k ∧ k ≤ 6 by omega), if_pos hv]
  have htt : tTake ver k s = (if (tRaw ver k s).2.2 ≠ 0 then .zero else (tRaw ver k s).1, (tRaw ver k s).2) := by unfold tTake; rw [hpre]
  rw [htt]
  have HIV := Lib.hid hiv; have HIT := Lib.hid hit
  clear hiv hit hpre htt
  have HRL := Lib.hid h.lt
  obtain ⟨S0, hS0⟩ : ∃ S0, S0 = s := ⟨_, rfl⟩
  rw [← hS0]
  have HS0 := Lib.hid hS0
  have hraw : tRaw ver k S0 = (⟨k, 0, 0, 0, (tText S0).1⟩, (tText S0).2) := by unfold tRaw; rw [if_neg (by omega)]; rw [if_neg (by omega)]; rw [if_neg (by omega)]; rw [if_neg (by omega)]; rw [if_pos hk]
  rw [hraw]
  simp only
  clear hraw hS0
  have hrd := fun w h => takeText_any r S0 w h
  unfold strV at hrd
  have HRD := Lib.hid hrd
  clear hrd
  generalize (tText S0).1 = u at *
  generalize (tText S0).2 = s3 at *
  obtain ⟨PO, hPO⟩ : ∃ PO, PO = TkPost r (if s3.2 ≠ 0 then Val.zero else ⟨k, 0, 0, 0, u⟩) s3 w := ⟨_, rfl⟩
  have HPO : Hid (∀ v w', (if s3.2 ≠ 0 then Val.zero else ⟨k, 0, 0, 0, u⟩) = v → Only r w w' → IsR w' r s3 → PO (.returned (pv v)) w') := Lib.hid fun v w' h1 h2 h3 => by
    rw [hPO, h1]
    exact ⟨rfl, h2, h3⟩
  rw [← hPO]
  clear hPO
  have H := Lib.hid h
  clear h
  have e1 : (((k : Nat) : Int) == 1) = false := by rw [hk]; rfl
  have e2 : (((k : Nat) : Int) == 2) = false := by rw [hk]; rfl
  have e3 : (((k : Nat) : Int) == 3) = false := by rw [hk]; rfl
  have e4 : (((k : Nat) : Int) == 4) = false := by rw [hk]; rfl
  have e5 : (((k : Nat) : Int) == 5) = true := by rw [hk]; rfl
  clear hk hv
  unfold RPtr at *
  have hg6 := heap_alloc_new w (.cells #[.int .u8 0, .int .i64 0, .complex .f64 0 0, .string ⟨#[]⟩] 29)
  have hx0 : Ext w (w.alloc (.cells #[.int .u8 0, .int .i64 0, .complex .f64 0 0, .string ⟨#[]⟩] 29)) := (Ch.refl _ _).alloc _
  have HX0 : Hid (Only r w (w.alloc (.cells #[.int .u8 0, .int .i64 0, .complex .f64 0 0, .string ⟨#[]⟩] 29))) := Lib.hid hx0.ch
  have HG0 := Lib.hid hg6
  have H0 := Lib.hid (H.out.ext hx0)
  clear hg6 hx0
  go_enter Try.func97, Try.ntmps97
  have HSW : Hid ((w.alloc (.cells #[.int .u8 0, .int .i64 0, .complex .f64 0 0, .string ⟨#[]⟩] 29)).heap.size = w.heap.size + 1) := Lib.hid (by simp)
  have HS0' := HS0.out
  subst HS0'
  have hq : ((w.alloc (.cells #[.int .u8 0, .int .i64 0, .complex .f64 0 0, .string ⟨#[]⟩] 29)).alloc (.cells #[.int .u8 0, .int .i64 0, .complex .f64 0 0, .string ⟨#[]⟩] 29)).heap[(w.heap.size + 1)]? = some (.cells #[.int .u8 0, .int .i64 0, .complex .f64 0 0, .string ⟨#[]⟩] 29 (0, 0)) := by have := heap_alloc2_new w (.cells #[.int .u8 0, .int .i64 0, .complex .f64 0 0, .string ⟨#[]⟩] 29) (.cells #[.int .u8 0, .int .i64 0, .complex .f64 0 0, .string ⟨#[]⟩] 29); exact this
  have HQ := Lib.hid hq
  obtain ⟨W3, hW3⟩ : ∃ W3, W3 = ((w.alloc (.cells #[.int .u8 0, .int .i64 0, .complex .f64 0 0, .string ⟨#[]⟩] 29)).alloc (.cells #[.int .u8 0, .int .i64 0, .complex .f64 0 0, .string ⟨#[]⟩] 29)).setRow (w.heap.size + 1) #[.int .u8 (k : Nat), .int .i64 0, .complex .f64 0 0, .string ⟨#[]⟩] := ⟨_, rfl⟩
  have hx3 : Ext (w.alloc (.cells #[.int .u8 0, .int .i64 0, .complex .f64 0 0, .string ⟨#[]⟩] 29)) W3 := by rw [hW3]; exact ((Ch.refl _ _).alloc _).setRow (.inr (by rw [HSW.out]; exact Nat.le_refl _)) _
  have HG3 : Hid (W3.heap[w.heap.size]? = some (.cells #[.int .u8 0, .int .i64 0, .complex .f64 0 0, .string ⟨#[]⟩] 29 (0, 0))) := Lib.hid (heap_of_ext hx3 HG0.out)
  have hg7 : W3.heap[(w.heap.size + 1)]? = some (.cells #[.int .u8 (k : Nat), .int .i64 0, .complex .f64 0 0, .string ⟨#[]⟩] 29 (0, 0)) := by rw [hW3]; exact setRow_heap _ _ _ _ _ _ hq
  have HG7 := Lib.hid hg7
  have HX3 : Hid (Only r w W3) := Lib.hid (HX0.out.trans hx3.ch)
  have H3 := Lib.hid (H0.out.ext hx3)
  have HLT : Hid (r < (w.heap.size + 1) ∧ w.heap.size < (w.heap.size + 1)) := Lib.hid (by have := HRL.out; omega)
  have HW3 := Lib.hid hW3
  clear hq hx3 hg7 hW3
  go_wp2_with (first
    | (go_at_call 123; refine (HIV.out _).mono ?_; rintro e w' ⟨rfl, rfl⟩)
    | (go_at_call 114; refine (HIT.out _).mono ?_; rintro e w' ⟨rfl, rfl⟩)
    | (refine wpList_store_rowTo rfl _ _ _ rfl rfl (w.heap.size + 1) #[.int .u8 (k : Nat), .int .i64 0, .complex .f64 0 0, .string ⟨#[]⟩] rfl rfl _ _ HQ.out info61 rfl (prow_one _ _ _ _ _) ?_; rw [← HW3.out])
    | (go_at_call 132; refine (HRD.out _ H3.out).mono ?_))
  rintro e w4 ⟨rfl, k1, k2⟩
  have HX4 := Lib.hid (HX3.out.trans k1); have H4 := Lib.hid k2
  have HG4 : Hid (w4.heap[w.heap.size]? = some (.cells #[.int .u8 0, .int .i64 0, .complex .f64 0 0, .string ⟨#[]⟩] 29 (0, 0))) := Lib.hid (heap_of_only k1 (by have := HRL.out; omega) HG3.out)
  have HG5 : Hid (w4.heap[(w.heap.size + 1)]? = some (.cells #[.int .u8 (k : Nat), .int .i64 0, .complex .f64 0 0, .string ⟨#[]⟩] 29 (0, 0))) := Lib.hid (heap_of_only k1 (by have := HLT.out; omega) HG7.out)
  clear k1 k2
  have d : w4.cell? ⟨(w.heap.size + 1), 3, none⟩ = some (.string ⟨#[]⟩) := by rw [cell_of_row _ _ _ _ _ _ HG5.out]; rfl
  have f := frozen_of_row w4 (w.heap.size + 1) 3 _ _ HG5.out
  have hst : (store ⟨(w.heap.size + 1), 3, none⟩ (.string ⟨u.toArray⟩)).run Try.prog w4 = .ok () (w4.setCell ⟨(w.heap.size + 1), 3, none⟩ (.string ⟨u.toArray⟩)) := by
    rw [run_store Try.prog w4 _ _ _ rfl, d]; simp [f]
  obtain ⟨W5, hW5⟩ : ∃ W5, W5 = w4.setCell ⟨(w.heap.size + 1), 3, none⟩ (.string ⟨u.toArray⟩) := ⟨_, rfl⟩
  have HG6 : Hid (W5.heap[(w.heap.size + 1)]? = some (.cells #[.int .u8 (k : Nat), .int .i64 0, .complex .f64 0 0, .string ⟨u.toArray⟩] 29 (0, 0))) := Lib.hid (by rw [hW5]; exact heap_setCell_same w4 (w.heap.size + 1) 3 _ _ _ HG5.out)
  have HG8 : Hid (W5.heap[w.heap.size]? = some (.cells #[.int .u8 0, .int .i64 0, .complex .f64 0 0, .string ⟨#[]⟩] 29 (0, 0))) := Lib.hid (by rw [hW5, heap_setCell_other w4 ⟨(w.heap.size + 1), 3, none⟩ w.heap.size (.string ⟨u.toArray⟩) (by have := HLT.out; simp <;> omega)]; exact HG4.out)
  have H5 : Hid (IsR W5 r s3) := Lib.hid (by rw [hW5]; exact H4.out.above (Ch.setCell (p := ⟨(w.heap.size + 1), 3, none⟩) (Ch.refl _ _) (.inl (by have := HLT.out; simp <;> omega)) (.string ⟨u.toArray⟩)))
  have HX5 : Hid (Only r w W5) := Lib.hid (by rw [hW5]; exact HX4.out.setCell (.inr (by have := HLT.out; simp <;> omega)) _)
  have HER := Lib.hid (err_w r s3 W5 H5.out.weak)
  have HW5 := Lib.hid hW5
  clear hW5
  unfold RPtr at HER
  by_cases he : s3.2 ≠ 0
  · have HE := Lib.hid he
    have eb : (s3.2 != 0) = true := by simpa using he
    clear he
    go_wp2_with (first
      | (go_at_call 26; rw [← HW5.out]; refine (HER.out).mono ?_; rintro e w' ⟨rfl, rfl⟩)
      | (refine wpList_store_rowTo rfl _ _ _ rfl rfl w.heap.size #[.int .u8 0, .int .i64 0, .complex .f64 0 0, .string ⟨#[]⟩] rfl rfl _ _ HG8.out info61 rfl (prow_one _ _ _ _ _) ?_))
    refine bodyPost_ret (results_cell_row rfl _ _ w.heap.size _ #[.int .u8 0, .int .i64 0, .complex .f64 0 0, .string ⟨#[]⟩] _ _ rfl (setRow_heap _ _ _ _ _ _ HG8.out) Try.underlying29 rfl info61) rfl ?_
    exact HPO.out Val.zero _ (by rw [if_pos HE.out]) (HX5.out.setRow (.inr (Nat.le_refl _)) _) (H5.out.above ((Ch.refl _ _).setRow (.inl (by have := HRL.out; omega)) _))
  · have HE := Lib.hid he
    have eb : (s3.2 != 0) = false := by simpa using he
    clear he
    go_wp2_with (first
      | (go_at_call 26; rw [← HW5.out]; refine (HER.out).mono ?_; rintro e w' ⟨rfl, rfl⟩)
      | (refine wpList_load_row rfl _ _ rfl (w.heap.size + 1) rfl _ _ _ _ HG6.out Try.underlying29 rfl info61 ?_)
      | (refine wpList_store_rowTo rfl _ _ _ rfl rfl w.heap.size #[.int .u8 (k : Nat), .int .i64 0, .complex .f64 0 0, .string ⟨u.toArray⟩] rfl rfl _ _ HG8.out info61 rfl (prow_one _ _ _ _ _) ?_))
    refine bodyPost_ret (results_cell_row rfl _ _ w.heap.size _ #[.int .u8 (k : Nat), .int .i64 0, .complex .f64 0 0, .string ⟨u.toArray⟩] _ _ rfl (setRow_heap _ _ _ _ _ _ HG8.out) Try.underlying29 rfl info61) rfl ?_
    exact HPO.out ⟨k, 0, 0, 0, u⟩ _ (by rw [if_neg HE.out]) (HX5.out.setRow (.inr (Nat.le_refl _)) _) (H5.out.above ((Ch.refl _ _).setRow (.inl (by have := HRL.out; omega)) _))

set_option maxRecDepth 20000 in
set_option maxHeartbeats 2000000 in
theorem take_ok_6 (r : Nat) (s : RS) (ver k : Nat) (w : World) (h : IsR w r s) (hv : ver = 1 ∨ ver = 2) (hk : k = 6) :
    Calls Try.prog 97 #[RPtr r, .int .u8 (k : Nat), .int .u8 (ver : Nat)] w (TkPost r (tTake ver k s).1 (tTake ver k s).2 w) := by
  have hiv := isVersion_any ver
  have hit := isType_any k
  rw [decide_eq_true hv] at hiv
  rw [decide_eq_true (show 1 ≤ k ∧ k ≤ 6 by omega)] at hit
  have hpre : tPre ver k s = s := by unfold tPre; simp only; rw [if_pos (show 1 ≤ k ∧ k ≤ 6 by omega), if_pos hv]
  have htt : tTake ver k s = (if (tRaw ver k s).2.2 ≠ 0 then .zero else (tRaw ver k s).1, (tRaw ver k s).2) := by unfold tTake; rw [hpre]
  rw [htt]
  have HIV := Lib.hid hiv; have HIT := Lib.hid hit
  clear hiv hit hpre htt
  have HRL := Lib.hid h.lt
  obtain ⟨S0, hS0⟩ : ∃ S0, S0 = s := ⟨_, rfl⟩
  rw [← hS0]
  have HS0 := Lib.hid hS0
  have hraw : tRaw ver k S0 = (⟨k, 0, 0, 0, (textR 2048 S0).1⟩, (textR 2048 S0).2) := by unfold tRaw; rw [if_neg (by omega)]; rw [if_neg (by omega)]; rw [if_neg (by omega)]; rw [if_neg (by omega)]; rw [if_neg (by omega)]; rw [if_pos hk]
  rw [hraw]
  simp only
  clear hraw hS0
  have hrd := fun w h => text_any r S0 2048 w h (by omega)
  rw [show (2048 : Int).toNat = 2048 by rfl] at hrd
  unfold strV at hrd
  have HRD := Lib.hid hrd
  clear hrd
  generalize (textR 2048 S0).1 = u at *
  generalize (textR 2048 S0).2 = s3 at *
  obtain ⟨PO, hPO⟩ : ∃ PO, PO = TkPost r (if s3.2 ≠ 0 then Val.zero else ⟨k, 0, 0, 0, u⟩) s3 w := ⟨_, rfl⟩
  have HPO : Hid (∀ v w', (if s3.2 ≠ 0 then Val.zero else ⟨k, 0, 0, 0, u⟩) = v → Only r w w' → IsR w' r s3 → PO (.returned (pv v)) w') := Lib.hid fun v w' h1 h2 h3 => by
    rw [hPO, h1]
    exact ⟨rfl, h2, h3⟩
  rw [← hPO]
  clear hPO
  have H := Lib.hid h
  clear h
  have e1 : (((k : Nat) : Int) == 1) = false := by rw [hk]; rfl
  have e2 : (((k : Nat) : Int) == 2) = false := by rw [hk]; rfl
  have e3 : (((k : Nat) : Int) == 3) = false := by rw [hk]; rfl
  have e4 : (((k : Nat) : Int) == 4) = false := by rw [hk]; rfl
  have e5 : (((k : Nat) : Int) == 5) = false := by rw [hk]; rfl
  have e6 : (((k : Nat) : Int) == 6) = true := by rw [hk]; rfl
  clear hk hv
  unfold RPtr at *
  have hg6 := heap_alloc_new w (.cells #[.int .u8 0, .int .i64 0, .complex .f64 0 0, .string ⟨#[]⟩] 29)
  have hx0 : Ext w (w.alloc (.cells #[.int .u8 0, .int .i64 0, .complex .f64 0 0, .string ⟨#[]⟩] 29)) := (Ch.refl _ _).alloc _
  have HX0 : Hid (Only r w (w.alloc (.cells #[.int .u8 0, .int .i64 0, .complex .f64 0 0, .string ⟨#[]⟩] 29))) := Lib.hid hx0.ch
  have HG0 := Lib.hid hg6
  have H0 := Lib.hid (H.out.ext hx0)
  clear hg6 hx0
  go_enter Try.func97, Try.ntmps97
  have HSW : Hid ((w.alloc (.cells #[.int .u8 0, .int .i64 0, .complex .f64 0 0, .string ⟨#[]⟩] 29)).heap.size = w.heap.size + 1) := Lib.hid (by simp)
  have HS0' := HS0.out
  subst HS0'
  have hq : ((w.alloc (.cells #[.int .u8 0, .int .i64 0, .complex .f64 0 0, .string ⟨#[]⟩] 29)).alloc (.cells #[.int .u8 0, .int .i64 0, .complex .f64 0 0, .string ⟨#[]⟩] 29)).heap[(w.heap.size + 1)]? = some (.cells #[.int .u8 0, .int .i64 0, .complex .f64 0 0, .string ⟨#[]⟩] 29 (0, 0)) := by have := heap_alloc2_new w (.cells #[.int .u8 0, .int .i64 0, .complex .f64 0 0, .string ⟨#[]⟩] 29) (.cells #[.int .u8 0, .int .i64 0, .complex .f64 0 0, .string ⟨#[]⟩] 29); exact this
  have HQ := Lib.hid hq
  obtain ⟨W3, hW3⟩ : ∃ W3, W3 = ((w.alloc (.cells #[.int .u8 0, .int .i64 0, .complex .f64 0 0, .string ⟨#[]⟩] 29)).alloc (.cells #[.int .u8 0, .int .i64 0, .complex .f64 0 0, .string ⟨#[]⟩] 29)).setRow (w.heap.size + 1) #[.int .u8 (k : Nat), .int .i64 0, .complex .f64 0 0, .string ⟨#[]⟩] := ⟨_, rfl⟩
  have hx3 : Ext (w.alloc (.cells #[.int .u8 0, .int .i64 0, .complex .f64 0 0, .string ⟨#[]⟩] 29)) W3 := by rw [hW3]; exact ((Ch.refl _ _).alloc _).setRow (.inr (by rw [HSW.out]; exact Nat.le_refl _)) _
  have HG3 : Hid (W3.heap[w.heap.size]? = some (.cells #[.int .u8 0, .int .i64 0, .complex .f64 0 0, .string ⟨#[]⟩] 29 (0, 0))) := Lib.hid (heap_of_ext hx3 HG0.out)
  have hg7 : W3.heap[(w.heap.size + 1)]? = some (.cells #[.int .u8 (k : Nat), .int .i64 0, .complex .f64 0 0, .string ⟨#[]⟩] 29 (0, 0)) := by rw [hW3]; exact setRow_heap _ _ _ _ _ _ hq
  have HG7 := Lib.hid hg7
  have HX3 : Hid (Only r w W3) := Lib.hid (HX0.out.trans hx3.ch)
  have H3 := Lib.hid (H0.out.ext hx3)
  have HLT : Hid (r < (w.heap.size + 1) ∧ w.heap.size < (w.heap.size + 1)) := Lib.hid (by have := HRL.out; omega)
  have HW3 := Lib.hid hW3
  clear hq hx3 hg7 hW3
  go_wp2_with (first
    | (go_at_call 123; refine (HIV.out _).mono ?_; rintro e w' ⟨rfl, rfl⟩)
    | (go_at_call 114; refine (HIT.out _).mono ?_; rintro e w' ⟨rfl, rfl⟩)
    | (refine wpList_store_rowTo rfl _ _ _ rfl rfl (w.heap.size + 1) #[.int .u8 (k : Nat), .int .i64 0, .complex .f64 0 0, .string ⟨#[]⟩] rfl rfl _ _ HQ.out info61 rfl (prow_one _ _ _ _ _) ?_; rw [← HW3.out])
    | (go_at_call 110; refine (HRD.out _ H3.out).mono ?_))
  rintro e w4 ⟨rfl, k1, k2⟩
  have HX4 := Lib.hid (HX3.out.trans k1); have H4 := Lib.hid k2
  have HG4 : Hid (w4.heap[w.heap.size]? = some (.cells #[.int .u8 0, .int .i64 0, .complex .f64 0 0, .string ⟨#[]⟩] 29 (0, 0))) := Lib.hid (heap_of_only k1 (by have := HRL.out; omega) HG3.out)
  have HG5 : Hid (w4.heap[(w.heap.size + 1)]? = some (.cells #[.int .u8 (k : Nat), .int .i64 0, .complex .f64 0 0, .string ⟨#[]⟩] 29 (0, 0))) := Lib.hid (heap_of_only k1 (by have := HLT.out; omega) HG7.out)
  clear k1 k2
  have d : w4.cell? ⟨(w.heap.size + 1), 3, none⟩ = some (.string ⟨#[]⟩) := by rw [cell_of_row _ _ _ _ _ _ HG5.out]; rfl
  have f := frozen_of_row w4 (w.heap.size + 1) 3 _ _ HG5.out
  have hst : (store ⟨(w.heap.size + 1), 3, none⟩ (.string ⟨u.toArray⟩)).run Try.prog w4 = .ok () (w4.setCell ⟨(w.heap.size + 1), 3, none⟩ (.string ⟨u.toArray⟩)) := by
    rw [run_store Try.prog w4 _ _ _ rfl, d]; simp [f]
  obtain ⟨W5, hW5⟩ : ∃ W5, W5 = w4.setCell ⟨(w.heap.size + 1), 3, none⟩ (.string ⟨u.toArray⟩) := ⟨_, rfl⟩
  have HG6 : Hid (W5.heap[(w.heap.size + 1)]? = some (.cells #[.int .u8 (k : Nat), .int .i64 0, .complex .f64 0 0, .string ⟨u.toArray⟩] 29 (0, 0))) := Lib.hid (by rw [hW5]; exact heap_setCell_same w4 (w.heap.size + 1) 3 _ _ _ HG5.out)
  have HG8 : Hid (W5.heap[w.heap.size]? = some (.cells #[.int .u8 0, .int .i64 0, .complex .f64 0 0, .string ⟨#[]⟩] 29 (0, 0))) := Lib.hid (by rw [hW5, heap_setCell_other w4 ⟨(w.heap.size + 1), 3, none⟩ w.heap.size (.string ⟨u.toArray⟩) (by have := HLT.out; simp <;> omega)]; exact HG4.out)
  have H5 : Hid (IsR W5 r s3) := Lib.hid (by rw [hW5]; exact H4.out.above (Ch.setCell (p := ⟨(w.heap.size + 1), 3, none⟩) (Ch.refl _ _) (.inl (by have := HLT.out; simp <;> omega)) (.string ⟨u.toArray⟩)))
  have HX5 : Hid (Only r w W5) := Lib.hid (by rw [hW5]; exact HX4.out.setCell (.inr (by have := HLT.out; simp <;> omega)) _)
  have HER := Lib.hid (err_w r s3 W5 H5.out.weak)
  have HW5 := Lib.hid hW5
  clear hW5
  unfold RPtr at HER
  by_cases he : s3.2 ≠ 0
  · have HE := Lib.hid he
    have eb : (s3.2 != 0) = true := by simpa using he
    clear he
    go_wp2_with (first
      | (go_at_call 26; rw [← HW5.out]; refine (HER.out).mono ?_; rintro e w' ⟨rfl, rfl⟩)
      | (refine wpList_store_rowTo rfl _ _ _ rfl rfl w.heap.size #[.int .u8 0, .int .i64 0, .complex .f64 0 0, .string ⟨#[]⟩] rfl rfl _ _ HG8.out info61 rfl (prow_one _ _ _ _ _) ?_))
    refine bodyPost_ret (results_cell_row rfl _ _ w.heap.size _ #[.int .u8 0, .int .i64 0, .complex .f64 0 0, .string ⟨#[]⟩] _ _ rfl (setRow_heap _ _ _ _ _ _ HG8.out) Try.underlying29 rfl info61) rfl ?_
    exact HPO.out Val.zero _ (by rw [if_pos HE.out]) (HX5.out.setRow (.inr (Nat.le_refl _)) _) (H5.out.above ((Ch.refl _ _).setRow (.inl (by have := HRL.out; omega)) _))
  · have HE := Lib.hid he
    have eb : (s3.2 != 0) = false := by simpa using he
    clear he
    go_wp2_with (first
      | (go_at_call 26; rw [← HW5.out]; refine (HER.out).mono ?_; rintro e w' ⟨rfl, rfl⟩)
      | (refine wpList_load_row rfl _ _ rfl (w.heap.size + 1) rfl _ _ _ _ HG6.out Try.underlying29 rfl info61 ?_)
      | (refine wpList_store_rowTo rfl _ _ _ rfl rfl w.heap.size #[.int .u8 (k : Nat), .int .i64 0, .complex .f64 0 0, .string ⟨u.toArray⟩] rfl rfl _ _ HG8.out info61 rfl (prow_one _ _ _ _ _) ?_))
    refine bodyPost_ret (results_cell_row rfl _ _ w.heap.size _ #[.int .u8 (k : Nat), .int .i64 0, .complex .f64 0 0, .string ⟨u.toArray⟩] _ _ rfl (setRow_heap _ _ _ _ _ _ HG8.out) Try.underlying29 rfl info61) rfl ?_
    exact HPO.out ⟨k, 0, 0, 0, u⟩ _ (by rw [if_neg HE.out]) (HX5.out.setRow (.inr (Nat.le_refl _)) _) (H5.out.above ((Ch.refl _ _).setRow (.inl (by have := HRL.out; omega)) _))

set_option maxRecDepth 20000 in
set_option maxHeartbeats 2000000 in
theorem take_ok_bt (r : Nat) (s : RS) (ver k : Nat) (w : World) (h : IsR w r s) (hv : ver = 1 ∨ ver = 2) (hk : k < 1 ∨ 6 < k) :
    Calls Try.prog 97 #[RPtr r, .int .u8 (k : Nat), .int .u8 (ver : Nat)] w (TkPost r (tTake ver k s).1 (tTake ver k s).2 w) := by
  have hiv := isVersion_any ver
  have hit := isType_any k
  rw [decide_eq_true hv] at hiv
  rw [decide_eq_false (show ¬ (1 ≤ k ∧ k ≤ 6) by omega)] at hit
  have hpre : tPre ver k s = (failR s 11) := by unfold tPre; simp only; rw [if_neg (show ¬ (1 ≤ k ∧ k ≤ 6) by omega), if_pos hv]
  have htt : tTake ver k s = (if (tRaw ver k (failR s 11)).2.2 ≠ 0 then .zero else (tRaw ver k (failR s 11)).1, (tRaw ver k (failR s 11)).2) := by unfold tTake; rw [hpre]
  rw [htt]
  have HIV := Lib.hid hiv; have HIT := Lib.hid hit
  clear hiv hit hpre htt
  have HF2 := Lib.hid (fun w h => fail_any r s 11 w h)
  have HRL := Lib.hid h.lt
  obtain ⟨S0, hS0⟩ : ∃ S0, S0 = (failR s 11) := ⟨_, rfl⟩
  rw [← hS0]
  have HS0 := Lib.hid hS0
  have hraw : tRaw ver k S0 = (⟨k, 0, 0, 0, []⟩, S0) := by unfold tRaw; rw [if_neg (by omega), if_neg (by omega), if_neg (by omega), if_neg (by omega), if_neg (by omega), if_neg (by omega)]
  rw [hraw]
  simp only
  clear hraw hS0
  obtain ⟨PO, hPO⟩ : ∃ PO, PO = TkPost r (if S0.2 ≠ 0 then Val.zero else ⟨k, 0, 0, 0, []⟩) S0 w := ⟨_, rfl⟩
  have HPO : Hid (∀ v w', (if S0.2 ≠ 0 then Val.zero else ⟨k, 0, 0, 0, []⟩) = v → Only r w w' → IsR w' r S0 → PO (.returned (pv v)) w') := Lib.hid fun v w' h1 h2 h3 => by
    rw [hPO, h1]
    exact ⟨rfl, h2, h3⟩
  rw [← hPO]
  clear hPO
  have H := Lib.hid h
  clear h
  have e1 : (((k : Nat) : Int) == 1) = false := by simp; omega
  have e2 : (((k : Nat) : Int) == 2) = false := by simp; omega
  have e3 : (((k : Nat) : Int) == 3) = false := by simp; omega
  have e4 : (((k : Nat) : Int) == 4) = false := by simp; omega
  have e5 : (((k : Nat) : Int) == 5) = false := by simp; omega
  have e6 : (((k : Nat) : Int) == 6) = false := by simp; omega
  clear hk hv
  unfold RPtr at *
  have hg6 := heap_alloc_new w (.cells #[.int .u8 0, .int .i64 0, .complex .f64 0 0, .string ⟨#[]⟩] 29)
  have hx0 : Ext w (w.alloc (.cells #[.int .u8 0, .int .i64 0, .complex .f64 0 0, .string ⟨#[]⟩] 29)) := (Ch.refl _ _).alloc _
  have HX0 : Hid (Only r w (w.alloc (.cells #[.int .u8 0, .int .i64 0, .complex .f64 0 0, .string ⟨#[]⟩] 29))) := Lib.hid hx0.ch
  have HG0 := Lib.hid hg6
  have H0 := Lib.hid (H.out.ext hx0)
  clear hg6 hx0
  go_enter Try.func97, Try.ntmps97
  go_wp2_with (first
    | (go_at_call 123; refine (HIV.out _).mono ?_; rintro e w' ⟨rfl, rfl⟩)
    | (go_at_call 114; refine (HIT.out _).mono ?_; rintro e w' ⟨rfl, rfl⟩)
    | (go_at_call 59; refine (HF2.out _ H0.out).mono ?_))
  rintro e wB ⟨rfl, k1, k2⟩
  have HXB := Lib.hid (HX0.out.trans k1); have HB := Lib.hid k2
  have HGB : Hid (wB.heap[w.heap.size]? = some (.cells #[.int .u8 0, .int .i64 0, .complex .f64 0 0, .string ⟨#[]⟩] 29 (0, 0))) := Lib.hid (heap_of_only k1 (by have := HRL.out; omega) HG0.out)
  clear k1 k2
  rw [← HS0.out] at HB
  have hq : (wB.alloc (.cells #[.int .u8 0, .int .i64 0, .complex .f64 0 0, .string ⟨#[]⟩] 29)).heap[wB.heap.size]? = some (.cells #[.int .u8 0, .int .i64 0, .complex .f64 0 0, .string ⟨#[]⟩] 29 (0, 0)) := heap_alloc_new _ _
  have HQ := Lib.hid hq
  obtain ⟨W3, hW3⟩ : ∃ W3, W3 = (wB.alloc (.cells #[.int .u8 0, .int .i64 0, .complex .f64 0 0, .string ⟨#[]⟩] 29)).setRow wB.heap.size #[.int .u8 (k : Nat), .int .i64 0, .complex .f64 0 0, .string ⟨#[]⟩] := ⟨_, rfl⟩
  have hx3 : Ext wB W3 := by rw [hW3]; exact ((Ch.refl _ _).alloc _).setRow (.inr (Nat.le_refl _)) _
  have HG3 : Hid (W3.heap[w.heap.size]? = some (.cells #[.int .u8 0, .int .i64 0, .complex .f64 0 0, .string ⟨#[]⟩] 29 (0, 0))) := Lib.hid (heap_of_ext hx3 HGB.out)
  have hg7 : W3.heap[wB.heap.size]? = some (.cells #[.int .u8 (k : Nat), .int .i64 0, .complex .f64 0 0, .string ⟨#[]⟩] 29 (0, 0)) := by rw [hW3]; exact setRow_heap _ _ _ _ _ _ hq
  have HG7 := Lib.hid hg7
  have HX3 : Hid (Only r w W3) := Lib.hid (HXB.out.trans hx3.ch)
  have H3 := Lib.hid (HB.out.ext hx3)
  have HLT : Hid (r < wB.heap.size ∧ w.heap.size < wB.heap.size) := Lib.hid (by have h1 := (Array.getElem?_eq_some_iff.1 HGB.out).1; have := HRL.out; omega)
  have HW3 := Lib.hid hW3
  clear hq hx3 hg7 hW3
  have HSZ : Hid (wB.heap.size = wB.heap.size) := Lib.hid rfl
  have HER := Lib.hid (err_w r S0 W3 H3.out.weak)
  have H5 := Lib.hid H3.out
  have HG6 := Lib.hid HG7.out; have HG8 := Lib.hid HG3.out; have HX5 := Lib.hid HX3.out
  unfold RPtr at HER
  by_cases he : S0.2 ≠ 0
  · have HE := Lib.hid he
    have eb : (S0.2 != 0) = true := by simpa using he
    clear he
    go_wp2_with (first
      | (refine wpList_store_rowTo rfl _ _ _ rfl rfl wB.heap.size #[.int .u8 (k : Nat), .int .i64 0, .complex .f64 0 0, .string ⟨#[]⟩] rfl rfl _ _ HQ.out info61 rfl (prow_one _ _ _ _ _) ?_; rw [← HW3.out])
      | (go_at_call 123; refine (HIV.out _).mono ?_; rintro e w' ⟨rfl, rfl⟩)
      | (go_at_call 114; refine (HIT.out _).mono ?_; rintro e w' ⟨rfl, rfl⟩)
      | (go_at_call 26; refine (HER.out).mono ?_; rintro e w' ⟨rfl, rfl⟩)
      | (refine wpList_store_rowTo rfl _ _ _ rfl rfl w.heap.size #[.int .u8 0, .int .i64 0, .complex .f64 0 0, .string ⟨#[]⟩] rfl rfl _ _ HG8.out info61 rfl (prow_one _ _ _ _ _) ?_))
    refine bodyPost_ret (results_cell_row rfl _ _ w.heap.size _ #[.int .u8 0, .int .i64 0, .complex .f64 0 0, .string ⟨#[]⟩] _ _ rfl (setRow_heap _ _ _ _ _ _ HG8.out) Try.underlying29 rfl info61) rfl ?_
    exact HPO.out Val.zero _ (by rw [if_pos HE.out]) (HX5.out.setRow (.inr (Nat.le_refl _)) _) (H5.out.above ((Ch.refl _ _).setRow (.inl (by have := HRL.out; omega)) _))
  · have HE := Lib.hid he
    have eb : (S0.2 != 0) = false := by simpa using he
    clear he
    go_wp2_with (first
      | (refine wpList_store_rowTo rfl _ _ _ rfl rfl wB.heap.size #[.int .u8 (k : Nat), .int .i64 0, .complex .f64 0 0, .string ⟨#[]⟩] rfl rfl _ _ HQ.out info61 rfl (prow_one _ _ _ _ _) ?_; rw [← HW3.out])
      | (go_at_call 123; refine (HIV.out _).mono ?_; rintro e w' ⟨rfl, rfl⟩)
      | (go_at_call 114; refine (HIT.out _).mono ?_; rintro e w' ⟨rfl, rfl⟩)
      | (go_at_call 26; refine (HER.out).mono ?_; rintro e w' ⟨rfl, rfl⟩)
      | (refine wpList_load_row rfl _ _ rfl wB.heap.size rfl _ _ _ _ HG6.out Try.underlying29 rfl info61 ?_)
      | (refine wpList_store_rowTo rfl _ _ _ rfl rfl w.heap.size #[.int .u8 (k : Nat), .int .i64 0, .complex .f64 0 0, .string ⟨#[]⟩] rfl rfl _ _ HG8.out info61 rfl (prow_one _ _ _ _ _) ?_))
    refine bodyPost_ret (results_cell_row rfl _ _ w.heap.size _ #[.int .u8 (k : Nat), .int .i64 0, .complex .f64 0 0, .string ⟨#[]⟩] _ _ rfl (setRow_heap _ _ _ _ _ _ HG8.out) Try.underlying29 rfl info61) rfl ?_
    exact HPO.out ⟨k, 0, 0, 0, []⟩ _ (by rw [if_neg HE.out]) (HX5.out.setRow (.inr (Nat.le_refl _)) _) (H5.out.above ((Ch.refl _ _).setRow (.inl (by have := HRL.out; omega)) _))

set_option maxRecDepth 20000 in
set_option maxHeartbeats 2000000 in
theorem take_bv_1 (r : Nat) (s : RS) (ver k : Nat) (w : World) (h : IsR w r s) (hv : ver ≠ 1 ∧ ver ≠ 2) (hk : k = 1) :
    Calls Try.prog 97 #[RPtr r, .int .u8 (k : Nat), .int .u8 (ver : Nat)] w (TkPost r (tTake ver k s).1 (tTake ver k s).2 w) := by
  have hiv := isVersion_any ver
  have hit := isType_any k
  rw [decide_eq_false (show ¬ (ver = 1 ∨ ver = 2) by omega)] at hiv
  rw [decide_eq_true (show 1 ≤ k ∧ k ≤ 6 by omega)] at hit
  have hpre : tPre ver k s = (failR s 18) := by unfold tPre; simp only; rw [if_pos (show 1 ≤ k ∧ k ≤ 6 by omega), if_neg (show ¬ (ver = 1 ∨ ver = 2) by omega)]
  have htt : tTake ver k s = (if (tRaw ver k (failR s 18)).2.2 ≠ 0 then .zero else (tRaw ver k (failR s 18)).1, (tRaw ver k (failR s 18)).2) := by unfold tTake; rw [hpre]
  rw [htt]
  have HIV := Lib.hid hiv; have HIT := Lib.hid hit
  clear hiv hit hpre htt
  have HF1 := Lib.hid (fun w h => fail_any r s 18 w h)
  have HRL := Lib.hid h.lt
  obtain ⟨S0, hS0⟩ : ∃ S0, S0 = (failR s 18) := ⟨_, rfl⟩
  rw [← hS0]
  have HS0 := Lib.hid hS0
  have hraw : tRaw ver k S0 = (⟨k, ((tByte 1 S0).1 : Int), 0, 0, []⟩, (tByte 1 S0).2) := by unfold tRaw;  rw [if_pos hk]
  rw [hraw]
  simp only
  clear hraw hS0
  have hrd := fun w h => takeByte_any r S0 1 w h
  have HRD := Lib.hid hrd
  clear hrd
  have hbl : (tByte 1 S0).1 < 256 := byteR_lt S0
  generalize (tByte 1 S0).1 = u at *
  generalize (tByte 1 S0).2 = s3 at *
  have hwr : IntKind.i64.wrap (u : Int) = (u : Int) := by rw [IntKind.wrap_i64]; omega
  obtain ⟨PO, hPO⟩ : ∃ PO, PO = TkPost r (if s3.2 ≠ 0 then Val.zero else ⟨k, (u : Int), 0, 0, []⟩) s3 w := ⟨_, rfl⟩
  have HPO : Hid (∀ v w', (if s3.2 ≠ 0 then Val.zero else ⟨k, (u : Int), 0, 0, []⟩) = v → Only r w w' → IsR w' r s3 → PO (.returned (pv v)) w') := Lib.hid fun v w' h1 h2 h3 => by
    rw [hPO, h1]
    exact ⟨rfl, h2, h3⟩
  rw [← hPO]
  clear hPO
  have H := Lib.hid h
  clear h
  have e1 : (((k : Nat) : Int) == 1) = true := by rw [hk]; rfl
  clear hk hv
  unfold RPtr at *
  have hg6 := heap_alloc_new w (.cells #[.int .u8 0, .int .i64 0, .complex .f64 0 0, .string ⟨#[]⟩] 29)
  have hx0 : Ext w (w.alloc (.cells #[.int .u8 0, .int .i64 0, .complex .f64 0 0, .string ⟨#[]⟩] 29)) := (Ch.refl _ _).alloc _
  have HX0 : Hid (Only r w (w.alloc (.cells #[.int .u8 0, .int .i64 0, .complex .f64 0 0, .string ⟨#[]⟩] 29))) := Lib.hid hx0.ch
  have HG0 := Lib.hid hg6
  have H0 := Lib.hid (H.out.ext hx0)
  clear hg6 hx0
  go_enter Try.func97, Try.ntmps97
  go_wp2_with (first
    | (go_at_call 123; refine (HIV.out _).mono ?_; rintro e w' ⟨rfl, rfl⟩)
    | (go_at_call 59; refine (HF1.out _ H0.out).mono ?_))
  rintro e wA ⟨rfl, k1, k2⟩
  have HXA := Lib.hid (HX0.out.trans k1); have HA := Lib.hid k2
  have HGA : Hid (wA.heap[w.heap.size]? = some (.cells #[.int .u8 0, .int .i64 0, .complex .f64 0 0, .string ⟨#[]⟩] 29 (0, 0))) := Lib.hid (heap_of_only k1 (by have := HRL.out; omega) HG0.out)
  clear k1 k2
  rw [← HS0.out] at HA
  have hq : (wA.alloc (.cells #[.int .u8 0, .int .i64 0, .complex .f64 0 0, .string ⟨#[]⟩] 29)).heap[wA.heap.size]? = some (.cells #[.int .u8 0, .int .i64 0, .complex .f64 0 0, .string ⟨#[]⟩] 29 (0, 0)) := heap_alloc_new _ _
  have HQ := Lib.hid hq
  obtain ⟨W3, hW3⟩ : ∃ W3, W3 = (wA.alloc (.cells #[.int .u8 0, .int .i64 0, .complex .f64 0 0, .string ⟨#[]⟩] 29)).setRow wA.heap.size #[.int .u8 (k : Nat), .int .i64 0, .complex .f64 0 0, .string ⟨#[]⟩] := ⟨_, rfl⟩
  have hx3 : Ext wA W3 := by rw [hW3]; exact ((Ch.refl _ _).alloc _).setRow (.inr (Nat.le_refl _)) _
  have HG3 : Hid (W3.heap[w.heap.size]? = some (.cells #[.int .u8 0, .int .i64 0, .complex .f64 0 0, .string ⟨#[]⟩] 29 (0, 0))) := Lib.hid (heap_of_ext hx3 HGA.out)
  have hg7 : W3.heap[wA.heap.size]? = some (.cells #[.int .u8 (k : Nat), .int .i64 0, .complex .f64 0 0, .string ⟨#[]⟩] 29 (0, 0)) := by rw [hW3]; exact setRow_heap _ _ _ _ _ _ hq
  have HG7 := Lib.hid hg7
  have HX3 : Hid (Only r w W3) := Lib.hid (HXA.out.trans hx3.ch)
  have H3 := Lib.hid (HA.out.ext hx3)
  have HLT : Hid (r < wA.heap.size ∧ w.heap.size < wA.heap.size) := Lib.hid (by have h1 := (Array.getElem?_eq_some_iff.1 HGA.out).1; have := HRL.out; omega)
  have HW3 := Lib.hid hW3
  clear hq hx3 hg7 hW3
  have HSZ : Hid (wA.heap.size = wA.heap.size) := Lib.hid rfl
  go_wp2_with (first
    | (go_at_call 123; refine (HIV.out _).mono ?_; rintro e w' ⟨rfl, rfl⟩)
    | (go_at_call 114; refine (HIT.out _).mono ?_; rintro e w' ⟨rfl, rfl⟩)
    | (refine wpList_store_rowTo rfl _ _ _ rfl rfl wA.heap.size #[.int .u8 (k : Nat), .int .i64 0, .complex .f64 0 0, .string ⟨#[]⟩] rfl rfl _ _ HQ.out info61 rfl (prow_one _ _ _ _ _) ?_; rw [← HW3.out])
    | (go_at_call 128; refine (HRD.out _ H3.out).mono ?_))
  rintro e w4 ⟨rfl, k1, k2⟩
  have HX4 := Lib.hid (HX3.out.trans k1); have H4 := Lib.hid k2
  have HG4 : Hid (w4.heap[w.heap.size]? = some (.cells #[.int .u8 0, .int .i64 0, .complex .f64 0 0, .string ⟨#[]⟩] 29 (0, 0))) := Lib.hid (heap_of_only k1 (by have := HRL.out; omega) HG3.out)
  have HG5 : Hid (w4.heap[wA.heap.size]? = some (.cells #[.int .u8 (k : Nat), .int .i64 0, .complex .f64 0 0, .string ⟨#[]⟩] 29 (0, 0))) := Lib.hid (heap_of_only k1 (by have := HLT.out; omega) HG7.out)
  clear k1 k2
  have d : w4.cell? ⟨wA.heap.size, 1, none⟩ = some (.int .i64 0) := by rw [cell_of_row _ _ _ _ _ _ HG5.out]; rfl
  have f := frozen_of_row w4 wA.heap.size 1 _ _ HG5.out
  have hst : (store ⟨wA.heap.size, 1, none⟩ (.int .i64 (u : Nat))).run Try.prog w4 = .ok () (w4.setCell ⟨wA.heap.size, 1, none⟩ (.int .i64 (u : Nat))) := by
    rw [run_store Try.prog w4 _ _ _ rfl, d]; simp [f]
  obtain ⟨W5, hW5⟩ : ∃ W5, W5 = w4.setCell ⟨wA.heap.size, 1, none⟩ (.int .i64 (u : Nat)) := ⟨_, rfl⟩
  have HG6 : Hid (W5.heap[wA.heap.size]? = some (.cells #[.int .u8 (k : Nat), .int .i64 (u : Nat), .complex .f64 0 0, .string ⟨#[]⟩] 29 (0, 0))) := Lib.hid (by rw [hW5]; exact heap_setCell_same w4 wA.heap.size 1 _ _ _ HG5.out)
  have HG8 : Hid (W5.heap[w.heap.size]? = some (.cells #[.int .u8 0, .int .i64 0, .complex .f64 0 0, .string ⟨#[]⟩] 29 (0, 0))) := Lib.hid (by rw [hW5, heap_setCell_other w4 ⟨wA.heap.size, 1, none⟩ w.heap.size (.int .i64 (u : Nat)) (by have := HLT.out; simp <;> omega)]; exact HG4.out)
  have H5 : Hid (IsR W5 r s3) := Lib.hid (by rw [hW5]; exact H4.out.above (Ch.setCell (p := ⟨wA.heap.size, 1, none⟩) (Ch.refl _ _) (.inl (by have := HLT.out; simp <;> omega)) (.int .i64 (u : Nat))))
  have HX5 : Hid (Only r w W5) := Lib.hid (by rw [hW5]; exact HX4.out.setCell (.inr (by have := HLT.out; simp <;> omega)) _)
  have HER := Lib.hid (err_w r s3 W5 H5.out.weak)
  have HW5 := Lib.hid hW5
  clear hW5
  unfold RPtr at HER
  by_cases he : s3.2 ≠ 0
  · have HE := Lib.hid he
    have eb : (s3.2 != 0) = true := by simpa using he
    clear he
    go_wp2_with (first
      | (go_at_call 26; rw [← HW5.out]; refine (HER.out).mono ?_; rintro e w' ⟨rfl, rfl⟩)
      | (refine wpList_store_rowTo rfl _ _ _ rfl rfl w.heap.size #[.int .u8 0, .int .i64 0, .complex .f64 0 0, .string ⟨#[]⟩] rfl rfl _ _ HG8.out info61 rfl (prow_one _ _ _ _ _) ?_))
    refine bodyPost_ret (results_cell_row rfl _ _ w.heap.size _ #[.int .u8 0, .int .i64 0, .complex .f64 0 0, .string ⟨#[]⟩] _ _ rfl (setRow_heap _ _ _ _ _ _ HG8.out) Try.underlying29 rfl info61) rfl ?_
    exact HPO.out Val.zero _ (by rw [if_pos HE.out]) (HX5.out.setRow (.inr (Nat.le_refl _)) _) (H5.out.above ((Ch.refl _ _).setRow (.inl (by have := HRL.out; omega)) _))
  · have HE := Lib.hid he
    have eb : (s3.2 != 0) = false := by simpa using he
    clear he
    go_wp2_with (first
      | (go_at_call 26; rw [← HW5.out]; refine (HER.out).mono ?_; rintro e w' ⟨rfl, rfl⟩)
      | (refine wpList_load_row rfl _ _ rfl wA.heap.size rfl _ _ _ _ HG6.out Try.underlying29 rfl info61 ?_)
      | (refine wpList_store_rowTo rfl _ _ _ rfl rfl w.heap.size #[.int .u8 (k : Nat), .int .i64 (u : Nat), .complex .f64 0 0, .string ⟨#[]⟩] rfl rfl _ _ HG8.out info61 rfl (prow_one _ _ _ _ _) ?_))
    refine bodyPost_ret (results_cell_row rfl _ _ w.heap.size _ #[.int .u8 (k : Nat), .int .i64 (u : Nat), .complex .f64 0 0, .string ⟨#[]⟩] _ _ rfl (setRow_heap _ _ _ _ _ _ HG8.out) Try.underlying29 rfl info61) rfl ?_
    exact HPO.out ⟨k, (u : Int), 0, 0, []⟩ _ (by rw [if_neg HE.out]) (HX5.out.setRow (.inr (Nat.le_refl _)) _) (H5.out.above ((Ch.refl _ _).setRow (.inl (by have := HRL.out; omega)) _))

set_option maxRecDepth 20000 in
set_option maxHeartbeats 2000000 in
theorem take_bv_2 (r : Nat) (s : RS) (ver k : Nat) (w : World) (h : IsR w r s) (hv : ver ≠ 1 ∧ ver ≠ 2) (hk : k = 2) :
    Calls Try.prog 97 #[RPtr r, .int .u8 (k : Nat), .int .u8 (ver : Nat)] w (TkPost r (tTake ver k s).1 (tTake ver k s).2 w) := by
  have hiv := isVersion_any ver
  have hit := isType_any k
  rw [decide_eq_false (show ¬ (ver = 1 ∨ ver = 2) by omega)] at hiv
  rw [decide_eq_true (show 1 ≤ k ∧ k ≤ 6 by omega)] at hit
  have hpre : tPre ver k s = (failR s 18) := by unfold tPre; simp only; rw [if_pos (show 1 ≤ k ∧ k ≤ 6 by omega), if_neg (show ¬ (ver = 1 ∨ ver = 2) by omega)]
  have htt : tTake ver k s = (if (tRaw ver k (failR s 18)).2.2 ≠ 0 then .zero else (tRaw ver k (failR s 18)).1, (tRaw ver k (failR s 18)).2) := by unfold tTake; rw [hpre]
  rw [htt]
  have HIV := Lib.hid hiv; have HIT := Lib.hid hit
  clear hiv hit hpre htt
  have HF1 := Lib.hid (fun w h => fail_any r s 18 w h)
  have HRL := Lib.hid h.lt
  obtain ⟨S0, hS0⟩ : ∃ S0, S0 = (failR s 18) := ⟨_, rfl⟩
  rw [← hS0]
  have HS0 := Lib.hid hS0
  have hraw : tRaw ver k S0 = (⟨k, (tInt ver S0).1, 0, 0, []⟩, (tInt ver S0).2) := by unfold tRaw; rw [if_neg (by omega)]; rw [if_pos hk]
  rw [hraw]
  simp only
  clear hraw hS0
  have hrd := fun w h => takeInt_any r S0 ver w h
  have HRD := Lib.hid hrd
  clear hrd
  generalize (tInt ver S0).1 = u at *
  generalize (tInt ver S0).2 = s3 at *
  obtain ⟨PO, hPO⟩ : ∃ PO, PO = TkPost r (if s3.2 ≠ 0 then Val.zero else ⟨k, u, 0, 0, []⟩) s3 w := ⟨_, rfl⟩
  have HPO : Hid (∀ v w', (if s3.2 ≠ 0 then Val.zero else ⟨k, u, 0, 0, []⟩) = v → Only r w w' → IsR w' r s3 → PO (.returned (pv v)) w') := Lib.hid fun v w' h1 h2 h3 => by
    rw [hPO, h1]
    exact ⟨rfl, h2, h3⟩
  rw [← hPO]
  clear hPO
  have H := Lib.hid h
  clear h
  have e1 : (((k : Nat) : Int) == 1) = false := by rw [hk]; rfl
  have e2 : (((k : Nat) : Int) == 2) = true := by rw [hk]; rfl
  clear hk hv
  unfold RPtr at *
  have hg6 := heap_alloc_new w (.cells #[.int .u8 0, .int .i64 0, .complex .f64 0 0, .string ⟨#[]⟩] 29)
  have hx0 : Ext w (w.alloc (.cells #[.int .u8 0, .int .i64 0, .complex .f64 0 0, .string ⟨#[]⟩] 29)) := (Ch.refl _ _).alloc _
  have HX0 : Hid (Only r w (w.alloc (.cells #[.int .u8 0, .int .i64 0, .complex .f64 0 0, .string ⟨#[]⟩] 29))) := Lib.hid hx0.ch
  have HG0 := Lib.hid hg6
  have H0 := Lib.hid (H.out.ext hx0)
  clear hg6 hx0
  go_enter Try.func97, Try.ntmps97
  go_wp2_with (first
    | (go_at_call 123; refine (HIV.out _).mono ?_; rintro e w' ⟨rfl, rfl⟩)
    | (go_at_call 59; refine (HF1.out _ H0.out).mono ?_))
  rintro e wA ⟨rfl, k1, k2⟩
  have HXA := Lib.hid (HX0.out.trans k1); have HA := Lib.hid k2
  have HGA : Hid (wA.heap[w.heap.size]? = some (.cells #[.int .u8 0, .int .i64 0, .complex .f64 0 0, .string ⟨#[]⟩] 29 (0, 0))) := Lib.hid (heap_of_only k1 (by have := HRL.out; omega) HG0.out)
  clear k1 k2
  rw [← HS0.out] at HA
  have hq : (wA.alloc (.cells #[.int .u8 0, .int .i64 0, .complex .f64 0 0, .string ⟨#[]⟩] 29)).heap[wA.heap.size]? = some (.cells #[.int .u8 0, .int .i64 0, .complex .f64 0 0, .string ⟨#[]⟩] 29 (0, 0)) := heap_alloc_new _ _
  have HQ := Lib.hid hq
  obtain ⟨W3, hW3⟩ : ∃ W3, W3 = (wA.alloc (.cells #[.int .u8 0, .int .i64 0, .complex .f64 0 0, .string ⟨#[]⟩] 29)).setRow wA.heap.size #[.int .u8 (k : Nat), .int .i64 0, .complex .f64 0 0, .string ⟨#[]⟩] := ⟨_, rfl⟩
  have hx3 : Ext wA W3 := by rw [hW3]; exact ((Ch.refl _ _).alloc _).setRow (.inr (Nat.le_refl _)) _
  have HG3 : Hid (W3.heap[w.heap.size]? = some (.cells #[.int .u8 0, .int .i64 0, .complex .f64 0 0, .string ⟨#[]⟩] 29 (0, 0))) := Lib.hid (heap_of_ext hx3 HGA.out)
  have hg7 : W3.heap[wA.heap.size]? = some (.cells #[.int .u8 (k : Nat), .int .i64 0, .complex .f64 0 0, .string ⟨#[]⟩] 29 (0, 0)) := by rw [hW3]; exact setRow_heap _ _ _ _ _ _ hq
  have HG7 := Lib.hid hg7
  have HX3 : Hid (Only r w W3) := Lib.hid (HXA.out.trans hx3.ch)
  have H3 := Lib.hid (HA.out.ext hx3)
  have HLT : Hid (r < wA.heap.size ∧ w.heap.size < wA.heap.size) := Lib.hid (by have h1 := (Array.getElem?_eq_some_iff.1 HGA.out).1; have := HRL.out; omega)
  have HW3 := Lib.hid hW3
  clear hq hx3 hg7 hW3
  have HSZ : Hid (wA.heap.size = wA.heap.size) := Lib.hid rfl
  go_wp2_with (first
    | (go_at_call 123; refine (HIV.out _).mono ?_; rintro e w' ⟨rfl, rfl⟩)
    | (go_at_call 114; refine (HIT.out _).mono ?_; rintro e w' ⟨rfl, rfl⟩)
    | (refine wpList_store_rowTo rfl _ _ _ rfl rfl wA.heap.size #[.int .u8 (k : Nat), .int .i64 0, .complex .f64 0 0, .string ⟨#[]⟩] rfl rfl _ _ HQ.out info61 rfl (prow_one _ _ _ _ _) ?_; rw [← HW3.out])
    | (go_at_call 129; refine (HRD.out _ H3.out).mono ?_))
  rintro e w4 ⟨rfl, k1, k2⟩
  have HX4 := Lib.hid (HX3.out.trans k1); have H4 := Lib.hid k2
  have HG4 : Hid (w4.heap[w.heap.size]? = some (.cells #[.int .u8 0, .int .i64 0, .complex .f64 0 0, .string ⟨#[]⟩] 29 (0, 0))) := Lib.hid (heap_of_only k1 (by have := HRL.out; omega) HG3.out)
  have HG5 : Hid (w4.heap[wA.heap.size]? = some (.cells #[.int .u8 (k : Nat), .int .i64 0, .complex .f64 0 0, .string ⟨#[]⟩] 29 (0, 0))) := Lib.hid (heap_of_only k1 (by have := HLT.out; omega) HG7.out)
  clear k1 k2
  have d : w4.cell? ⟨wA.heap.size, 1, none⟩ = some (.int .i64 0) := by rw [cell_of_row _ _ _ _ _ _ HG5.out]; rfl
  have f := frozen_of_row w4 wA.heap.size 1 _ _ HG5.out
  have hst : (store ⟨wA.heap.size, 1, none⟩ (.int .i64 u)).run Try.prog w4 = .ok () (w4.setCell ⟨wA.heap.size, 1, none⟩ (.int .i64 u)) := by
    rw [run_store Try.prog w4 _ _ _ rfl, d]; simp [f]
  obtain ⟨W5, hW5⟩ : ∃ W5, W5 = w4.setCell ⟨wA.heap.size, 1, none⟩ (.int .i64 u) := ⟨_, rfl⟩
  have HG6 : Hid (W5.heap[wA.heap.size]? = some (.cells #[.int .u8 (k : Nat), .int .i64 u, .complex .f64 0 0, .string ⟨#[]⟩] 29 (0, 0))) := Lib.hid (by rw [hW5]; exact heap_setCell_same w4 wA.heap.size 1 _ _ _ HG5.out)
  have HG8 : Hid (W5.heap[w.heap.size]? = some (.cells #[.int .u8 0, .int .i64 0, .complex .f64 0 0, .string ⟨#[]⟩] 29 (0, 0))) := Lib.hid (by rw [hW5, heap_setCell_other w4 ⟨wA.heap.size, 1, none⟩ w.heap.size (.int .i64 u) (by have := HLT.out; simp <;> omega)]; exact HG4.out)
  have H5 : Hid (IsR W5 r s3) := Lib.hid (by rw [hW5]; exact H4.out.above (Ch.setCell (p := ⟨wA.heap.size, 1, none⟩) (Ch.refl _ _) (.inl (by have := HLT.out; simp <;> omega)) (.int .i64 u)))
  have HX5 : Hid (Only r w W5) := Lib.hid (by rw [hW5]; exact HX4.out.setCell (.inr (by have := HLT.out; simp <;> omega)) _)
  have HER := Lib.hid (err_w r s3 W5 H5.out.weak)
  have HW5 := Lib.hid hW5
  clear hW5
  unfold RPtr at HER
  by_cases he : s3.2 ≠ 0
  · have HE := Lib.hid he
    have eb : (s3.2 != 0) = true := by simpa using he
    clear he
    go_wp2_with (first
      | (go_at_call 26; rw [← HW5.out]; refine (HER.out).mono ?_; rintro e w' ⟨rfl, rfl⟩)
      | (refine wpList_store_rowTo rfl _ _ _ rfl rfl w.heap.size #[.int .u8 0, .int .i64 0, .complex .f64 0 0, .string ⟨#[]⟩] rfl rfl _ _ HG8.out info61 rfl (prow_one _ _ _ _ _) ?_))
    refine bodyPost_ret (results_cell_row rfl _ _ w.heap.size _ #[.int .u8 0, .int .i64 0, .complex .f64 0 0, .string ⟨#[]⟩] _ _ rfl (setRow_heap _ _ _ _ _ _ HG8.out) Try.underlying29 rfl info61) rfl ?_
    exact HPO.out Val.zero _ (by rw [if_pos HE.out]) (HX5.out.setRow (.inr (Nat.le_refl _)) _) (H5.out.above ((Ch.refl _ _).setRow (.inl (by have := HRL.out; omega)) _))
  · have HE := Lib.hid he
    have eb : (s3.2 != 0) = false := by simpa using he
    clear he
    go_wp2_with (first
      | (go_at_call 26; rw [← HW5.out]; refine (HER.out).mono ?_; rintro e w' ⟨rfl, rfl⟩)
      | (refine wpList_load_row rfl _ _ rfl wA.heap.size rfl _ _ _ _ HG6.out Try.underlying29 rfl info61 ?_)
      | (refine wpList_store_rowTo rfl _ _ _ rfl rfl w.heap.size #[.int .u8 (k : Nat), .int .i64 u, .complex .f64 0 0, .string ⟨#[]⟩] rfl rfl _ _ HG8.out info61 rfl (prow_one _ _ _ _ _) ?_))
    refine bodyPost_ret (results_cell_row rfl _ _ w.heap.size _ #[.int .u8 (k : Nat), .int .i64 u, .complex .f64 0 0, .string ⟨#[]⟩] _ _ rfl (setRow_heap _ _ _ _ _ _ HG8.out) Try.underlying29 rfl info61) rfl ?_
    exact HPO.out ⟨k, u, 0, 0, []⟩ _ (by rw [if_neg HE.out]) (HX5.out.setRow (.inr (Nat.le_refl _)) _) (H5.out.above ((Ch.refl _ _).setRow (.inl (by have := HRL.out; omega)) _))

set_option maxRecDepth 20000 in
set_option maxHeartbeats 2000000 in
theorem take_bv_3 (r : Nat) (s : RS) (ver k : Nat) (w : World) (h : IsR w r s) (hv : ver ≠ 1 ∧ ver ≠ 2) (hk : k = 3) :
    Calls Try.prog 97 #[RPtr r, .int .u8 (k : Nat), .int .u8 (ver : Nat)] w (TkPost r (tTake ver k s).1 (tTake ver k s).2 w) := by
  have hiv := isVersion_any ver
  have hit := isType_any k
  rw [decide_eq_false (show ¬ (ver = 1 ∨ ver = 2) by omega)] at hiv
  rw [decide_eq_true (show 1 ≤ k ∧ k ≤ 6 by omega)] at hit
  have hpre : tPre ver k s = (failR s 18) := by unfold tPre; simp only; rw [if_pos (show 1 ≤ k ∧ k ≤ 6 by omega), if_neg (show ¬ (ver = 1 ∨ ver = 2) by omega)]
  have htt : tTake ver k s = (if (tRaw ver k (failR s 18)).2.2 ≠ 0 then .zero else (tRaw ver k (failR s 18)).1, (tRaw ver k (failR s 18)).2) := by unfold tTake; rw [hpre]
  rw [htt]
  have HIV := Lib.hid hiv; have HIT := Lib.hid hit
  clear hiv hit hpre htt
  have HF1 := Lib.hid (fun w h => fail_any r s 18 w h)
  have HRL := Lib.hid h.lt
  obtain ⟨S0, hS0⟩ : ∃ S0, S0 = (failR s 18) := ⟨_, rfl⟩
  rw [← hS0]
  have HS0 := Lib.hid hS0
  have hraw : tRaw ver k S0 = (⟨k, 0, (fltR ver S0).1, 0, []⟩, (fltR ver S0).2) := by unfold tRaw; rw [if_neg (by omega)]; rw [if_neg (by omega)]; rw [if_pos hk]
  rw [hraw]
  simp only
  clear hraw hS0
  have hrd := fun w h => takeFloat_any r S0 ver w h
  have HRD := Lib.hid hrd
  clear hrd
  have hbl : (fltR ver S0).1 < 18446744073709551616 := fltR_lt ver S0
  generalize (fltR ver S0).1 = u at *
  generalize (fltR ver S0).2 = s3 at *
  obtain ⟨PO, hPO⟩ : ∃ PO, PO = TkPost r (if s3.2 ≠ 0 then Val.zero else ⟨k, 0, u, 0, []⟩) s3 w := ⟨_, rfl⟩
  have HPO : Hid (∀ v w', (if s3.2 ≠ 0 then Val.zero else ⟨k, 0, u, 0, []⟩) = v → Only r w w' → IsR w' r s3 → PO (.returned (pv v)) w') := Lib.hid fun v w' h1 h2 h3 => by
    rw [hPO, h1]
    exact ⟨rfl, h2, h3⟩
  rw [← hPO]
  clear hPO
  have H := Lib.hid h
  clear h
  have e1 : (((k : Nat) : Int) == 1) = false := by rw [hk]; rfl
  have e2 : (((k : Nat) : Int) == 2) = false := by rw [hk]; rfl
  have e3 : (((k : Nat) : Int) == 3) = true := by rw [hk]; rfl
  clear hk hv
  unfold RPtr at *
  have hg6 := heap_alloc_new w (.cells #[.int .u8 0, .int .i64 0, .complex .f64 0 0, .string ⟨#[]⟩] 29)
  have hx0 : Ext w (w.alloc (.cells #[.int .u8 0, .int .i64 0, .complex .f64 0 0, .string ⟨#[]⟩] 29)) := (Ch.refl _ _).alloc _
  have HX0 : Hid (Only r w (w.alloc (.cells #[.int .u8 0, .int .i64 0, .complex .f64 0 0, .string ⟨#[]⟩] 29))) := Lib.hid hx0.ch
  have HG0 := Lib.hid hg6
  have H0 := Lib.hid (H.out.ext hx0)
  clear hg6 hx0
  go_enter Try.func97, Try.ntmps97
  go_wp2_with (first
    | (go_at_call 123; refine (HIV.out _).mono ?_; rintro e w' ⟨rfl, rfl⟩)
    | (go_at_call 59; refine (HF1.out _ H0.out).mono ?_))
  rintro e wA ⟨rfl, k1, k2⟩
  have HXA := Lib.hid (HX0.out.trans k1); have HA := Lib.hid k2
  have HGA : Hid (wA.heap[w.heap.size]? = some (.cells #[.int .u8 0, .int .i64 0, .complex .f64 0 0, .string ⟨#[]⟩] 29 (0, 0))) := Lib.hid (heap_of_only k1 (by have := HRL.out; omega) HG0.out)
  clear k1 k2
  rw [← HS0.out] at HA
  have hq : (wA.alloc (.cells #[.int .u8 0, .int .i64 0, .complex .f64 0 0, .string ⟨#[]⟩] 29)).heap[wA.heap.size]? = some (.cells #[.int .u8 0, .int .i64 0, .complex .f64 0 0, .string ⟨#[]⟩] 29 (0, 0)) := heap_alloc_new _ _
  have HQ := Lib.hid hq
  obtain ⟨W3, hW3⟩ : ∃ W3, W3 = (wA.alloc (.cells #[.int .u8 0, .int .i64 0, .complex .f64 0 0, .string ⟨#[]⟩] 29)).setRow wA.heap.size #[.int .u8 (k : Nat), .int .i64 0, .complex .f64 0 0, .string ⟨#[]⟩] := ⟨_, rfl⟩
  have hx3 : Ext wA W3 := by rw [hW3]; exact ((Ch.refl _ _).alloc _).setRow (.inr (Nat.le_refl _)) _
  have HG3 : Hid (W3.heap[w.heap.size]? = some (.cells #[.int .u8 0, .int .i64 0, .complex .f64 0 0, .string ⟨#[]⟩] 29 (0, 0))) := Lib.hid (heap_of_ext hx3 HGA.out)
  have hg7 : W3.heap[wA.heap.size]? = some (.cells #[.int .u8 (k : Nat), .int .i64 0, .complex .f64 0 0, .string ⟨#[]⟩] 29 (0, 0)) := by rw [hW3]; exact setRow_heap _ _ _ _ _ _ hq
  have HG7 := Lib.hid hg7
  have HX3 : Hid (Only r w W3) := Lib.hid (HXA.out.trans hx3.ch)
  have H3 := Lib.hid (HA.out.ext hx3)
  have HLT : Hid (r < wA.heap.size ∧ w.heap.size < wA.heap.size) := Lib.hid (by have h1 := (Array.getElem?_eq_some_iff.1 HGA.out).1; have := HRL.out; omega)
  have HW3 := Lib.hid hW3
  clear hq hx3 hg7 hW3
  have HSZ : Hid (wA.heap.size = wA.heap.size) := Lib.hid rfl
  go_wp2_with (first
    | (go_at_call 123; refine (HIV.out _).mono ?_; rintro e w' ⟨rfl, rfl⟩)
    | (go_at_call 114; refine (HIT.out _).mono ?_; rintro e w' ⟨rfl, rfl⟩)
    | (refine wpList_store_rowTo rfl _ _ _ rfl rfl wA.heap.size #[.int .u8 (k : Nat), .int .i64 0, .complex .f64 0 0, .string ⟨#[]⟩] rfl rfl _ _ HQ.out info61 rfl (prow_one _ _ _ _ _) ?_; rw [← HW3.out])
    | (go_at_call 130; refine (HRD.out _ H3.out).mono ?_))
  rintro e w4 ⟨rfl, k1, k2⟩
  have HX4 := Lib.hid (HX3.out.trans k1); have H4 := Lib.hid k2
  have HG4 : Hid (w4.heap[w.heap.size]? = some (.cells #[.int .u8 0, .int .i64 0, .complex .f64 0 0, .string ⟨#[]⟩] 29 (0, 0))) := Lib.hid (heap_of_only k1 (by have := HRL.out; omega) HG3.out)
  have HG5 : Hid (w4.heap[wA.heap.size]? = some (.cells #[.int .u8 (k : Nat), .int .i64 0, .complex .f64 0 0, .string ⟨#[]⟩] 29 (0, 0))) := Lib.hid (heap_of_only k1 (by have := HLT.out; omega) HG7.out)
  clear k1 k2
  have d : w4.cell? ⟨wA.heap.size, 2, none⟩ = some (.complex .f64 0 0) := by rw [cell_of_row _ _ _ _ _ _ HG5.out]; rfl
  have f := frozen_of_row w4 wA.heap.size 2 _ _ HG5.out
  have hst : (store ⟨wA.heap.size, 2, none⟩ (.complex .f64 u 0)).run Try.prog w4 = .ok () (w4.setCell ⟨wA.heap.size, 2, none⟩ (.complex .f64 u 0)) := by
    rw [run_store Try.prog w4 _ _ _ rfl, d]; simp [f]
  obtain ⟨W5, hW5⟩ : ∃ W5, W5 = w4.setCell ⟨wA.heap.size, 2, none⟩ (.complex .f64 u 0) := ⟨_, rfl⟩
  have HG6 : Hid (W5.heap[wA.heap.size]? = some (.cells #[.int .u8 (k : Nat), .int .i64 0, .complex .f64 u 0, .string ⟨#[]⟩] 29 (0, 0))) := Lib.hid (by rw [hW5]; exact heap_setCell_same w4 wA.heap.size 2 _ _ _ HG5.out)
  have HG8 : Hid (W5.heap[w.heap.size]? = some (.cells #[.int .u8 0, .int .i64 0, .complex .f64 0 0, .string ⟨#[]⟩] 29 (0, 0))) := Lib.hid (by rw [hW5, heap_setCell_other w4 ⟨wA.heap.size, 2, none⟩ w.heap.size (.complex .f64 u 0) (by have := HLT.out; simp <;> omega)]; exact HG4.out)
  have H5 : Hid (IsR W5 r s3) := Lib.hid (by rw [hW5]; exact H4.out.above (Ch.setCell (p := ⟨wA.heap.size, 2, none⟩) (Ch.refl _ _) (.inl (by have := HLT.out; simp <;> omega)) (.complex .f64 u 0)))
  have HX5 : Hid (Only r w W5) := Lib.hid (by rw [hW5]; exact HX4.out.setCell (.inr (by have := HLT.out; simp <;> omega)) _)
  have HER := Lib.hid (err_w r s3 W5 H5.out.weak)
  have HW5 := Lib.hid hW5
  clear hW5
  unfold RPtr at HER
  by_cases he : s3.2 ≠ 0
  · have HE := Lib.hid he
    have eb : (s3.2 != 0) = true := by simpa using he
    clear he
    go_wp2_with (first
      | (go_at_call 80; refine (of_any _ 0 _).mono ?_; rintro e w' ⟨rfl, rfl⟩)
      | (go_at_call 26; rw [← HW5.out]; refine (HER.out).mono ?_; rintro e w' ⟨rfl, rfl⟩)
      | (refine wpList_store_rowTo rfl _ _ _ rfl rfl w.heap.size #[.int .u8 0, .int .i64 0, .complex .f64 0 0, .string ⟨#[]⟩] rfl rfl _ _ HG8.out info61 rfl (prow_one _ _ _ _ _) ?_))
    refine bodyPost_ret (results_cell_row rfl _ _ w.heap.size _ #[.int .u8 0, .int .i64 0, .complex .f64 0 0, .string ⟨#[]⟩] _ _ rfl (setRow_heap _ _ _ _ _ _ HG8.out) Try.underlying29 rfl info61) rfl ?_
    exact HPO.out Val.zero _ (by rw [if_pos HE.out]) (HX5.out.setRow (.inr (Nat.le_refl _)) _) (H5.out.above ((Ch.refl _ _).setRow (.inl (by have := HRL.out; omega)) _))
  · have HE := Lib.hid he
    have eb : (s3.2 != 0) = false := by simpa using he
    clear he
    go_wp2_with (first
      | (go_at_call 80; refine (of_any _ 0 _).mono ?_; rintro e w' ⟨rfl, rfl⟩)
      | (go_at_call 26; rw [← HW5.out]; refine (HER.out).mono ?_; rintro e w' ⟨rfl, rfl⟩)
      | (refine wpList_load_row rfl _ _ rfl wA.heap.size rfl _ _ _ _ HG6.out Try.underlying29 rfl info61 ?_)
      | (refine wpList_store_rowTo rfl _ _ _ rfl rfl w.heap.size #[.int .u8 (k : Nat), .int .i64 0, .complex .f64 u 0, .string ⟨#[]⟩] rfl rfl _ _ HG8.out info61 rfl (prow_one _ _ _ _ _) ?_))
    refine bodyPost_ret (results_cell_row rfl _ _ w.heap.size _ #[.int .u8 (k : Nat), .int .i64 0, .complex .f64 u 0, .string ⟨#[]⟩] _ _ rfl (setRow_heap _ _ _ _ _ _ HG8.out) Try.underlying29 rfl info61) rfl ?_
    exact HPO.out ⟨k, 0, u, 0, []⟩ _ (by rw [if_neg HE.out]) (HX5.out.setRow (.inr (Nat.le_refl _)) _) (H5.out.above ((Ch.refl _ _).setRow (.inl (by have := HRL.out; omega)) _))

set_option maxRecDepth 20000 in
set_option maxHeartbeats 2000000 in
theorem take_bv_4 (r : Nat) (s : RS) (ver k : Nat) (w : World) (h : IsR w r s) (hv : ver ≠ 1 ∧ ver ≠ 2) (hk : k = 4) :
    Calls Try.prog 97 #[RPtr r, .int .u8 (k : Nat), .int .u8 (ver : Nat)] w (TkPost r (tTake ver k s).1 (tTake ver k s).2 w) := by
  have hiv := isVersion_any ver
  have hit := isType_any k
  rw [decide_eq_false (show ¬ (ver = 1 ∨ ver = 2) by omega)] at hiv
  rw [decide_eq_true (show 1 ≤ k ∧ k ≤ 6 by omega)] at hit
  have hpre : tPre ver k s = (failR s 18) := by unfold tPre; simp only; rw [if_pos (show 1 ≤ k ∧ k ≤ 6 by omega), if_neg (show ¬ (ver = 1 ∨ ver = 2) by omega)]
  have htt : tTake ver k s = (if (tRaw ver k (failR s 18)).2.2 ≠ 0 then .zero else (tRaw ver k (failR s 18)).1, (tRaw ver k (failR s 18)).2) := by unfold tTake; rw [hpre]
  rw [htt]
  have HIV := Lib.hid hiv; have HIT := Lib.hid hit
  clear hiv hit hpre htt
  have HF1 := Lib.hid (fun w h => fail_any r s 18 w h)
  have HRL := Lib.hid h.lt
  obtain ⟨S0, hS0⟩ : ∃ S0, S0 = (failR s 18) := ⟨_, rfl⟩
  rw [← hS0]
  have HS0 := Lib.hid hS0
  have hraw : tRaw ver k S0 = (⟨k, 0, (tCplx ver S0).1.1, (tCplx ver S0).1.2, []⟩, (tCplx ver S0).2) := by unfold tRaw; rw [if_neg (by omega)]; rw [if_neg (by omega)]; rw [if_neg (by omega)]; rw [if_pos hk]
  rw [hraw]
  simp only
  clear hraw hS0
  have hrd := fun w h => takeComplex_any r S0 ver w h
  have HRD := Lib.hid hrd
  clear hrd
  generalize (tCplx ver S0).1.1 = u1 at *
  generalize (tCplx ver S0).1.2 = u2 at *
  generalize (tCplx ver S0).2 = s3 at *
  obtain ⟨PO, hPO⟩ : ∃ PO, PO = TkPost r (if s3.2 ≠ 0 then Val.zero else ⟨k, 0, u1, u2, []⟩) s3 w := ⟨_, rfl⟩
  have HPO : Hid (∀ v w', (if s3.2 ≠ 0 then Val.zero else ⟨k, 0, u1, u2, []⟩) = v → Only r w w' → IsR w' r s3 → PO (.returned (pv v)) w') := Lib.hid fun v w' h1 h2 h3 => by
    rw [hPO, h1]
    exact ⟨rfl, h2, h3⟩
  rw [← hPO]
  clear hPO
  have H := Lib.hid h
  clear h
  have e1 : (((k : Nat) : Int) == 1) = false := by rw [hk]; rfl
  have e2 : (((k : Nat) : Int) == 2) = false := by rw [hk]; rfl
  have e3 : (((k : Nat) : Int) == 3) = false := by rw [hk]; rfl
  have e4 : (((k : Nat) : Int) == 4) = true := by rw [hk]; rfl
  clear hk hv
  unfold RPtr at *
  have hg6 := heap_alloc_new w (.cells #[.int .u8 0, .int .i64 0, .complex .f64 0 0, .string ⟨#[]⟩] 29)
  have hx0 : Ext w (w.alloc (.cells #[.int .u8 0, .int .i64 0, .complex .f64 0 0, .string ⟨#[]⟩] 29)) := (Ch.refl _ _).alloc _
  have HX0 : Hid (Only r w (w.alloc (.cells #[.int .u8 0, .int .i64 0, .complex .f64 0 0, .string ⟨#[]⟩] 29))) := Lib.hid hx0.ch
  have HG0 := Lib.hid hg6
  have H0 := Lib.hid (H.out.ext hx0)
  clear hg6 hx0
  go_enter Try.func97, Try.ntmps97
  go_wp2_with (first
    | (go_at_call 123; refine (HIV.out _).mono ?_; rintro e w' ⟨rfl, rfl⟩)
    | (go_at_call 59; refine (HF1.out _ H0.out).mono ?_))
  rintro e wA ⟨rfl, k1, k2⟩
  have HXA := Lib.hid (HX0.out.trans k1); have HA := Lib.hid k2
  have HGA : Hid (wA.heap[w.heap.size]? = some (.cells #[.int .u8 0, .int .i64 0, .complex .f64 0 0, .string ⟨#[]⟩] 29 (0, 0))) := Lib.hid (heap_of_only k1 (by have := HRL.out; omega) HG0.out)
  clear k1 k2
  rw [← HS0.out] at HA
  have hq : (wA.alloc (.cells #[.int .u8 0, .int .i64 0, .complex .f64 0 0, .string ⟨#[]⟩] 29)).heap[wA.heap.size]? = some (.cells #[.int .u8 0, .int .i64 0, .complex .f64 0 0, .string ⟨#[]⟩] 29 (0, 0)) := heap_alloc_new _ _
  have HQ := Lib.hid hq
  obtain ⟨W3, hW3⟩ : ∃ W3, W3 = (wA.alloc (.cells #[.int .u8 0, .int .i64 0, .complex .f64 0 0, .string ⟨#[]⟩] 29)).setRow wA.heap.size #[.int .u8 (k : Nat), .int .i64 0, .complex .f64 0 0, .string ⟨#[]⟩] := ⟨_, rfl⟩
  have hx3 : Ext wA W3 := by rw [hW3]; exact ((Ch.refl _ _).alloc _).setRow (.inr (Nat.le_refl _)) _
  have HG3 : Hid (W3.heap[w.heap.size]? = some (.cells #[.int .u8 0, .int .i64 0, .complex .f64 0 0, .string ⟨#[]⟩] 29 (0, 0))) := Lib.hid (heap_of_ext hx3 HGA.out)
  have hg7 : W3.heap[wA.heap.size]? = some (.cells #[.int .u8 (k : Nat), .int .i64 0, .complex .f64 0 0, .string ⟨#[]⟩] 29 (0, 0)) := by rw [hW3]; exact setRow_heap _ _ _ _ _ _ hq
  have HG7 := Lib.hid hg7
  have HX3 : Hid (Only r w W3) := Lib.hid (HXA.out.trans hx3.ch)
  have H3 := Lib.hid (HA.out.ext hx3)
  have HLT : Hid (r < wA.heap.size ∧ w.heap.size < wA.heap.size) := Lib.hid (by have h1 := (Array.getElem?_eq_some_iff.1 HGA.out).1; have := HRL.out; omega)
  have HW3 := Lib.hid hW3
  clear hq hx3 hg7 hW3
  have HSZ : Hid (wA.heap.size = wA.heap.size) := Lib.hid rfl
  go_wp2_with (first
    | (go_at_call 123; refine (HIV.out _).mono ?_; rintro e w' ⟨rfl, rfl⟩)
    | (go_at_call 114; refine (HIT.out _).mono ?_; rintro e w' ⟨rfl, rfl⟩)
    | (refine wpList_store_rowTo rfl _ _ _ rfl rfl wA.heap.size #[.int .u8 (k : Nat), .int .i64 0, .complex .f64 0 0, .string ⟨#[]⟩] rfl rfl _ _ HQ.out info61 rfl (prow_one _ _ _ _ _) ?_; rw [← HW3.out])
    | (go_at_call 131; refine (HRD.out _ H3.out).mono ?_))
  rintro e w4 ⟨rfl, k1, k2⟩
  have HX4 := Lib.hid (HX3.out.trans k1); have H4 := Lib.hid k2
  have HG4 : Hid (w4.heap[w.heap.size]? = some (.cells #[.int .u8 0, .int .i64 0, .complex .f64 0 0, .string ⟨#[]⟩] 29 (0, 0))) := Lib.hid (heap_of_only k1 (by have := HRL.out; omega) HG3.out)
  have HG5 : Hid (w4.heap[wA.heap.size]? = some (.cells #[.int .u8 (k : Nat), .int .i64 0, .complex .f64 0 0, .string ⟨#[]⟩] 29 (0, 0))) := Lib.hid (heap_of_only k1 (by have := HLT.out; omega) HG7.out)
  clear k1 k2
  have d : w4.cell? ⟨wA.heap.size, 2, none⟩ = some (.complex .f64 0 0) := by rw [cell_of_row _ _ _ _ _ _ HG5.out]; rfl
  have f := frozen_of_row w4 wA.heap.size 2 _ _ HG5.out
  have hst : (store ⟨wA.heap.size, 2, none⟩ (.complex .f64 u1 u2)).run Try.prog w4 = .ok () (w4.setCell ⟨wA.heap.size, 2, none⟩ (.complex .f64 u1 u2)) := by
    rw [run_store Try.prog w4 _ _ _ rfl, d]; simp [f]
  obtain ⟨W5, hW5⟩ : ∃ W5, W5 = w4.setCell ⟨wA.heap.size, 2, none⟩ (.complex .f64 u1 u2) := ⟨_, rfl⟩
  have HG6 : Hid (W5.heap[wA.heap.size]? = some (.cells #[.int .u8 (k : Nat), .int .i64 0, .complex .f64 u1 u2, .string ⟨#[]⟩] 29 (0, 0))) := Lib.hid (by rw [hW5]; exact heap_setCell_same w4 wA.heap.size 2 _ _ _ HG5.out)
  have HG8 : Hid (W5.heap[w.heap.size]? = some (.cells #[.int .u8 0, .int .i64 0, .complex .f64 0 0, .string ⟨#[]⟩] 29 (0, 0))) := Lib.hid (by rw [hW5, heap_setCell_other w4 ⟨wA.heap.size, 2, none⟩ w.heap.size (.complex .f64 u1 u2) (by have := HLT.out; simp <;> omega)]; exact HG4.out)
  have H5 : Hid (IsR W5 r s3) := Lib.hid (by rw [hW5]; exact H4.out.above (Ch.setCell (p := ⟨wA.heap.size, 2, none⟩) (Ch.refl _ _) (.inl (by have := HLT.out; simp <;> omega)) (.complex .f64 u1 u2)))
  have HX5 : Hid (Only r w W5) := Lib.hid (by rw [hW5]; exact HX4.out.setCell (.inr (by have := HLT.out; simp <;> omega)) _)
  have HER := Lib.hid (err_w r s3 W5 H5.out.weak)
  have HW5 := Lib.hid hW5
  clear hW5
  unfold RPtr at HER
  by_cases he : s3.2 ≠ 0
  · have HE := Lib.hid he
    have eb : (s3.2 != 0) = true := by simpa using he
    clear he
    go_wp2_with (first
      | (go_at_call 26; rw [← HW5.out]; refine (HER.out).mono ?_; rintro e w' ⟨rfl, rfl⟩)
      | (refine wpList_store_rowTo rfl _ _ _ rfl rfl w.heap.size #[.int .u8 0, .int .i64 0, .complex .f64 0 0, .string ⟨#[]⟩] rfl rfl _ _ HG8.out info61 rfl (prow_one _ _ _ _ _) ?_))
    refine bodyPost_ret (results_cell_row rfl _ _ w.heap.size _ #[.int .u8 0, .int .i64 0, .complex .f64 0 0, .string ⟨#[]⟩] _ _ rfl (setRow_heap _ _ _ _ _ _ HG8.out) Try.underlying29 rfl info61) rfl ?_
    exact HPO.out Val.zero _ (by rw [if_pos HE.out]) (HX5.out.setRow (.inr (Nat.le_refl _)) _) (H5.out.above ((Ch.refl _ _).setRow (.inl (by have := HRL.out; omega)) _))
  · have HE := Lib.hid he
    have eb : (s3.2 != 0) = false := by simpa using he
    clear he
    go_wp2_with (first
      | (go_at_call 26; rw [← HW5.out]; refine (HER.out).mono ?_; rintro e w' ⟨rfl, rfl⟩)
      | (refine wpList_load_row rfl _ _ rfl wA.heap.size rfl _ _ _ _ HG6.out Try.underlying29 rfl info61 ?_)
      | (refine wpList_store_rowTo rfl _ _ _ rfl rfl w.heap.size #[.int .u8 (k : Nat), .int .i64 0, .complex .f64 u1 u2, .string ⟨#[]⟩] rfl rfl _ _ HG8.out info61 rfl (prow_one _ _ _ _ _) ?_))
    refine bodyPost_ret (results_cell_row rfl _ _ w.heap.size _ #[.int .u8 (k : Nat), .int .i64 0, .complex .f64 u1 u2, .string ⟨#[]⟩] _ _ rfl (setRow_heap _ _ _ _ _ _ HG8.out) Try.underlying29 rfl info61) rfl ?_
    exact HPO.out ⟨k, 0, u1, u2, []⟩ _ (by rw [if_neg HE.out]) (HX5.out.setRow (.inr (Nat.le_refl _)) _) (H5.out.above ((Ch.refl _ _).setRow (.inl (by have := HRL.out; omega)) _))

set_option maxRecDepth 20000 in
set_option maxHeartbeats 2000000 in
theorem take_bv_5 (r : Nat) (s : RS) (ver k : Nat) (w : World) (h : IsR w r s) (hv : ver ≠ 1 ∧ ver ≠ 2) (hk : k = 5) :
    Calls Try.prog 97 #[RPtr r, .int .u8 (k : Nat), .int .u8 (ver : Nat)] w (TkPost r (tTake ver k s).1 (tTake ver k s).2 w) := by
  have hiv := isVersion_any ver
  have hit := isType_any k
  rw [decide_eq_false (show ¬ (ver = 1 ∨ ver = 2) by omega)] at hiv
  rw [decide_eq_true (show 1 ≤ k ∧ k ≤ 6 by omega)] at hit
  have hpre : tPre ver k s = (failR s 18) := by unfold tPre; simp only; rw [if_pos (show 1 ≤ k ∧ k ≤ 6 by omega), if_neg (show ¬ (ver = 1 ∨ ver = 2) by omega)]
  have htt : tTake ver k s = (if (tRaw ver k (failR s 18)).2.2 ≠ 0 then .zero else (tRaw ver k (failR s 18)).1, (tRaw ver k (failR s 18)).2) := by unfold tTake; rw [hpre]
  rw [htt]
  have HIV := Lib.hid hiv; have HIT := Lib.hid hit
  clear hiv hit hpre htt
  have HF1 := Lib.hid (fun w h => fail_any r s 18 w h)
  have HRL := Lib.hid h.lt
  obtain ⟨S0, hS0⟩ : ∃ S0, S0 = (failR s 18) := ⟨_, rfl⟩
  rw [← hS0]
  have HS0 := Lib.hid hS0
  have hraw : tRaw ver k S0 = (⟨k, 0, 0, 0, (tText S0).1⟩, (tText S0).2) := by unfold tRaw; rw [if_neg (by omega)]; rw [if_neg (by omega)]; rw [if_neg (by omega)]; rw [if_neg (by omega)]; rw [if_pos hk]
  rw [hraw]
  simp only
  clear hraw hS0
  have hrd := fun w h => takeText_any r S0 w h
  unfold strV at hrd
  have HRD := Lib.hid hrd
  clear hrd
  generalize (tText S0).1 = u at *
  generalize (tText S0).2 = s3 at *
  obtain ⟨PO, hPO⟩ : ∃ PO, PO = TkPost r (if s3.2 ≠ 0 then Val.zero else ⟨k, 0, 0, 0, u⟩) s3 w := ⟨_, rfl⟩
  have HPO : Hid (∀ v w', (if s3.2 ≠ 0 then Val.zero else ⟨k, 0, 0, 0, u⟩) = v → Only r w w' → IsR w' r s3 → PO (.returned (pv v)) w') := Lib.hid fun v w' h1 h2 h3 => by
    rw [hPO, h1]
    exact ⟨rfl, h2, h3⟩
  rw [← hPO]
  clear hPO
  have H := Lib.hid h
  clear h
  have e1 : (((k : Nat) : Int) == 1) = false := by rw [hk]; rfl
  have e2 : (((k : Nat) : Int) == 2) = false := by rw [hk]; rfl
  have e3 : (((k : Nat) : Int) == 3) = false := by rw [hk]; rfl
  have e4 : (((k : Nat) : Int) == 4) = false := by rw [hk]; rfl
  have e5 : (((k : Nat) : Int) == 5) = true := by rw [hk]; rfl
  clear hk hv
  unfold RPtr at *
  have hg6 := heap_alloc_new w (.cells #[.int .u8 0, .int .i64 0, .complex .f64 0 0, .string ⟨#[]⟩] 29)
  have hx0 : Ext w (w.alloc (.cells #[.int .u8 0, .int .i64 0, .complex .f64 0 0, .string ⟨#[]⟩] 29)) := (Ch.refl _ _).alloc _
  have HX0 : Hid (Only r w (w.alloc (.cells #[.int .u8 0, .int .i64 0, .complex .f64 0 0, .string ⟨#[]⟩] 29))) := Lib.hid hx0.ch
  have HG0 := Lib.hid hg6
  have H0 := Lib.hid (H.out.ext hx0)
  clear hg6 hx0
  go_enter Try.func97, Try.ntmps97
  go_wp2_with (first
    | (go_at_call 123; refine (HIV.out _).mono ?_; rintro e w' ⟨rfl, rfl⟩)
    | (go_at_call 59; refine (HF1.out _ H0.out).mono ?_))
  rintro e wA ⟨rfl, k1, k2⟩
  have HXA := Lib.hid (HX0.out.trans k1); have HA := Lib.hid k2
  have HGA : Hid (wA.heap[w.heap.size]? = some (.cells #[.int .u8 0, .int .i64 0, .complex .f64 0 0, .string ⟨#[]⟩] 29 (0, 0))) := Lib.hid (heap_of_only k1 (by have := HRL.out; omega) HG0.out)
  clear k1 k2
  rw [← HS0.out] at HA
  have hq : (wA.alloc (.cells #[.int .u8 0, .int .i64 0, .complex .f64 0 0, .string ⟨#[]⟩] 29)).heap[wA.heap.size]? = some (.cells #[.int .u8 0, .int .i64 0, .complex .f64 0 0, .string ⟨#[]⟩] 29 (0, 0)) := heap_alloc_new _ _
  have HQ := Lib.hid hq
  obtain ⟨W3, hW3⟩ : ∃ W3, W3 = (wA.alloc (.cells #[.int .u8 0, .int .i64 0, .complex .f64 0 0, .string ⟨#[]⟩] 29)).setRow wA.heap.size #[.int .u8 (k : Nat), .int .i64 0, .complex .f64 0 0, .string ⟨#[]⟩] := ⟨_, rfl⟩
  have hx3 : Ext wA W3 := by rw [hW3]; exact ((Ch.refl _ _).alloc _).setRow (.inr (Nat.le_refl _)) _
  have HG3 : Hid (W3.heap[w.heap.size]? = some (.cells #[.int .u8 0, .int .i64 0, .complex .f64 0 0, .string ⟨#[]⟩] 29 (0, 0))) := Lib.hid (heap_of_ext hx3 HGA.out)
  have hg7 : W3.heap[wA.heap.size]? = some (.cells #[.int .u8 (k : Nat), .int .i64 0, .complex .f64 0 0, .string ⟨#[]⟩] 29 (0, 0)) := by rw [hW3]; exact setRow_heap _ _ _ _ _ _ hq
  have HG7 := Lib.hid hg7
  have HX3 : Hid (Only r w W3) := Lib.hid (HXA.out.trans hx3.ch)
  have H3 := Lib.hid (HA.out.ext hx3)
  have HLT : Hid (r < wA.heap.size ∧ w.heap.size < wA.heap.size) := Lib.hid (by have h1 := (Array.getElem?_eq_some_iff.1 HGA.out).1; have := HRL.out; omega)
  have HW3 := Lib.hid hW3
  clear hq hx3 hg7 hW3
  have HSZ : Hid (wA.heap.size = wA.heap.size) := Lib.hid rfl
  go_wp2_with (first
    | (go_at_call 123; refine (HIV.out _).mono ?_; rintro e w' ⟨rfl, rfl⟩)
    | (go_at_call 114; refine (HIT.out _).mono ?_; rintro e w' ⟨rfl, rfl⟩)
    | (refine wpList_store_rowTo rfl _ _ _ rfl rfl wA.heap.size #[.int .u8 (k : Nat), .int .i64 0, .complex .f64 0 0, .string ⟨#[]⟩] rfl rfl _ _ HQ.out info61 rfl (prow_one _ _ _ _ _) ?_; rw [← HW3.out])
    | (go_at_call 132; refine (HRD.out _ H3.out).mono ?_))
  rintro e w4 ⟨rfl, k1, k2⟩
  have HX4 := Lib.hid (HX3.out.trans k1); have H4 := Lib.hid k2
  have HG4 : Hid (w4.heap[w.heap.size]? = some (.cells #[.int .u8 0, .int .i64 0, .complex .f64 0 0, .string ⟨#[]⟩] 29 (0, 0))) := Lib.hid (heap_of_only k1 (by have := HRL.out; omega) HG3.out)
  have HG5 : Hid (w4.heap[wA.heap.size]? = some (.cells #[.int .u8 (k : Nat), .int .i64 0, .complex .f64 0 0, .string ⟨#[]⟩] 29 (0, 0))) := Lib.hid (heap_of_only k1 (by have := HLT.out; omega) HG7.out)
  clear k1 k2
  have d : w4.cell? ⟨wA.heap.size, 3, none⟩ = some (.string ⟨#[]⟩) := by rw [cell_of_row _ _ _ _ _ _ HG5.out]; rfl
  have f := frozen_of_row w4 wA.heap.size 3 _ _ HG5.out
  have hst : (store ⟨wA.heap.size, 3, none⟩ (.string ⟨u.toArray⟩)).run Try.prog w4 = .ok () (w4.setCell ⟨wA.heap.size, 3, none⟩ (.string ⟨u.toArray⟩)) := by
    rw [run_store Try.prog w4 _ _ _ rfl, d]; simp [f]
  obtain ⟨W5, hW5⟩ : ∃ W5, W5 = w4.setCell ⟨wA.heap.size, 3, none⟩ (.string ⟨u.toArray⟩) := ⟨_, rfl⟩
  have HG6 : Hid (W5.heap[wA.heap.size]? = some (.cells #[.int .u8 (k : Nat), .int .i64 0, .complex .f64 0 0, .string ⟨u.toArray⟩] 29 (0, 0))) := Lib.hid (by rw [hW5]; exact heap_setCell_same w4 wA.heap.size 3 _ _ _ HG5.out)
  have HG8 : Hid (W5.heap[w.heap.size]? = some (.cells #[.int .u8 0, .int .i64 0, .complex .f64 0 0, .string ⟨#[]⟩] 29 (0, 0))) := Lib.hid (by rw [hW5, heap_setCell_other w4 ⟨wA.heap.size, 3, none⟩ w.heap.size (.string ⟨u.toArray⟩) (by have := HLT.out; simp <;> omega)]; exact HG4.out)
  have H5 : Hid (IsR W5 r s3) := Lib.hid (by rw [hW5]; exact H4.out.above (Ch.setCell (p := ⟨wA.heap.size, 3, none⟩) (Ch.refl _ _) (.inl (by have := HLT.out; simp <;> omega)) (.string ⟨u.toArray⟩)))
  have HX5 : Hid (Only r w W5) := Lib.hid (by rw [hW5]; exact HX4.out.setCell (.inr (by have := HLT.out; simp <;> omega)) _)
  have HER := Lib.hid (err_w r s3 W5 H5.out.weak)
  have HW5 := Lib.hid hW5
  clear hW5
  unfold RPtr at HER
  by_cases he : s3.2 ≠ 0
  · have HE := Lib.hid he
    have eb : (s3.2 != 0) = true := by simpa using he
    clear he
    go_wp2_with (first
      | (go_at_call 26; rw [← HW5.out]; refine (HER.out).mono ?_; rintro e w' ⟨rfl, rfl⟩)
      | (refine wpList_store_rowTo rfl _ _ _ rfl rfl w.heap.size #[.int .u8 0, .int .i64 0, .complex .f64 0 0, .string ⟨#[]⟩] rfl rfl _ _ HG8.out info61 rfl (prow_one _ _ _ _ _) ?_))
    refine bodyPost_ret (results_cell_row rfl _ _ w.heap.size _ #[.int .u8 0, .int .i64 0, .complex .f64 0 0, .string ⟨#[]⟩] _ _ rfl (setRow_heap _ _ _ _ _ _ HG8.out) Try.underlying29 rfl info61) rfl ?_
    exact HPO.out Val.zero _ (by rw [if_pos HE.out]) (HX5.out.setRow (.inr (Nat.le_refl _)) _) (H5.out.above ((Ch.refl _ _).setRow (.inl (by have := HRL.out; omega)) _))
  · have HE := Lib.hid he
    have eb : (s3.2 != 0) = false := by simpa using he
    clear he
    go_wp2_with (first
      | (go_at_call 26; rw [← HW5.out]; refine (HER.out).mono ?_; rintro e w' ⟨rfl, rfl⟩)
      | (refine wpList_load_row rfl _ _ rfl wA.heap.size rfl _ _ _ _ HG6.out Try.underlying29 rfl info61 ?_)
      | (refine wpList_store_rowTo rfl _ _ _ rfl rfl w.heap.size #[.int .u8 (k : Nat), .int .i64 0, .complex .f64 0 0, .string ⟨u.toArray⟩] rfl rfl _ _ HG8.out info61 rfl (prow_one _ _ _ _ _) ?_))
    refine bodyPost_ret (results_cell_row rfl _ _ w.heap.size _ #[.int .u8 (k : Nat), .int .i64 0, .complex .f64 0 0, .string ⟨u.toArray⟩] _ _ rfl (setRow_heap _ _ _ _ _ _ HG8.out) Try.underlying29 rfl info61) rfl ?_
    exact HPO.out ⟨k, 0, 0, 0, u⟩ _ (by rw [if_neg HE.out]) (HX5.out.setRow (.inr (Nat.le_refl _)) _) (H5.out.above ((Ch.refl _ _).setRow (.inl (by have := HRL.out; omega)) _))

set_option maxRecDepth 20000 in
set_option maxHeartbeats 2000000 in
theorem take_bv_6 (r : Nat) (s : RS) (ver k : Nat) (w : World) (h : IsR w r s) (hv : ver ≠ 1 ∧ ver ≠ 2) (hk : k = 6) :
    Calls Try.prog 97 #[RPtr r, .int .u8 (k : Nat), .int .u8 (ver : Nat)] w (TkPost r (tTake ver k s).1 (tTake ver k s).2 w) := by
  have hiv := isVersion_any ver
  have hit := isType_any k
  rw [decide_eq_false (show ¬ (ver = 1 ∨ ver = 2) by omega)] at hiv
  rw [decide_eq_true (show 1 ≤ k ∧ k ≤ 6 by omega)] at hit
  have hpre : tPre ver k s = (failR s 18) := by unfold tPre; simp only; rw [if_pos (show 1 ≤ k ∧ k ≤ 6 by omega), if_neg (show ¬ (ver = 1 ∨ ver = 2) by omega)]
  have htt : tTake ver k s = (if (tRaw ver k (failR s 18)).2.2 ≠ 0 then .zero else (tRaw ver k (failR s 18)).1, (tRaw ver k (failR s 18)).2) := by unfold tTake; rw [hpre]
  rw [htt]
  have HIV := Lib.hid hiv; have HIT := Lib.hid hit
  clear hiv hit hpre htt
  have HF1 := Lib.hid (fun w h => fail_any r s 18 w h)
  have HRL := Lib.hid h.lt
  obtain ⟨S0, hS0⟩ : ∃ S0, S0 = (failR s 18) := ⟨_, rfl⟩
  rw [← hS0]
  have HS0 := Lib.hid hS0
  have hraw : tRaw ver k S0 = (⟨k, 0, 0, 0, (textR 2048 S0).1⟩, (textR 2048 S0).2) := by unfold tRaw; rw [if_neg (by omega)]; rw [if_neg (by omega)]; rw [if_neg (by omega)]; rw [if_neg (by omega)]; rw [if_neg (by omega)]; rw [if_pos hk]
  rw [hraw]
  simp only
  clear hraw hS0
  have hrd := fun w h => text_any r S0 2048 w h (by omega)
  rw [show (2048 : Int).toNat = 2048 by rfl] at hrd
  unfold strV at hrd
  have HRD := Lib.hid hrd
  clear hrd
  generalize (textR 2048 S0).1 = u at *
  generalize (textR 2048 S0).2 = s3 at *
  obtain ⟨PO, hPO⟩ : ∃ PO, PO = TkPost r (if s3.2 ≠ 0 then Val.zero else ⟨k, 0, 0, 0, u⟩) s3 w := ⟨_, rfl⟩
  have HPO : Hid (∀ v w', (if s3.2 ≠ 0 then Val.zero else ⟨k, 0, 0, 0, u⟩) = v → Only r w w' → IsR w' r s3 → PO (.returned (pv v)) w') := Lib.hid fun v w' h1 h2 h3 => by
    rw [hPO, h1]
    exact ⟨rfl, h2, h3⟩
  rw [← hPO]
  clear hPO
  have H := Lib.hid h
  clear h
  have e1 : (((k : Nat) : Int) == 1) = false := by rw [hk]; rfl
  have e2 : (((k : Nat) : Int) == 2) = false := by rw [hk]; rfl
  have e3 : (((k : Nat) : Int) == 3) = false := by rw [hk]; rfl
  have e4 : (((k : Nat) : Int) == 4) = false := by rw [hk]; rfl
  have e5 : (((k : Nat) : Int) == 5) = false := by rw [hk]; rfl
  have e6 : (((k : Nat) : Int) == 6) = true := by rw [hk]; rfl
  clear hk hv
  unfold RPtr at *
  have hg6 := heap_alloc_new w (.cells #[.int .u8 0, .int .i64 0, .complex .f64 0 0, .string ⟨#[]⟩] 29)
  have hx0 : Ext w (w.alloc (.cells #[.int .u8 0, .int .i64 0, .complex .f64 0 0, .string ⟨#[]⟩] 29)) := (Ch.refl _ _).alloc _
  have HX0 : Hid (Only r w (w.alloc (.cells #[.int .u8 0, .int .i64 0, .complex .f64 0 0, .string ⟨#[]⟩] 29))) := Lib.hid hx0.ch
  have HG0 := Lib.hid hg6
  have H0 := Lib.hid (H.out.ext hx0)
  clear hg6 hx0
  go_enter Try.func97, Try.ntmps97
  go_wp2_with (first
    | (go_at_call 123; refine (HIV.out _).mono ?_; rintro e w' ⟨rfl, rfl⟩)
    | (go_at_call 59; refine (HF1.out _ H0.out).mono ?_))
  rintro e wA ⟨rfl, k1, k2⟩
  have HXA := Lib.hid (HX0.out.trans k1); have HA := Lib.hid k2
  have HGA : Hid (wA.heap[w.heap.size]? = some (.cells #[.int .u8 0, .int .i64 0, .complex .f64 0 0, .string ⟨#[]⟩] 29 (0, 0))) := Lib.hid (heap_of_only k1 (by have := HRL.out; omega) HG0.out)
  clear k1 k2
  rw [← HS0.out] at HA
  have hq : (wA.alloc (.cells #[.int .u8 0, .int .i64 0, .complex .f64 0 0, .string ⟨#[]⟩] 29)).heap[wA.heap.size]? = some (.cells #[.int .u8 0, .int .i64 0, .complex .f64 0 0, .string ⟨#[]⟩] 29 (0, 0)) := heap_alloc_new _ _
  have HQ := Lib.hid hq
  obtain ⟨W3, hW3⟩ : ∃ W3, W3 = (wA.alloc (.cells #[.int .u8 0, .int .i64 0, .complex .f64 0 0, .string ⟨#[]⟩] 29)).setRow wA.heap.size #[.int .u8 (k : Nat), .int .i64 0, .complex .f64 0 0, .string ⟨#[]⟩] := ⟨_, rfl⟩
  have hx3 : Ext wA W3 := by rw [hW3]; exact ((Ch.refl _ _).alloc _).setRow (.inr (Nat.le_refl _)) _
  have HG3 : Hid (W3.heap[w.heap.size]? = some (.cells #[.int .u8 0, .int .i64 0, .complex .f64 0 0, .string ⟨#[]⟩] 29 (0, 0))) := Lib.hid (heap_of_ext hx3 HGA.out)
  have hg7 : W3.heap[wA.heap.size]? = some (.cells #[.int .u8 (k : Nat), .int .i64 0, .complex .f64 0 0, .string ⟨#[]⟩] 29 (0, 0)) := by rw [hW3]; exact setRow_heap _ _ _ _ _ _ hq
  have HG7 := Lib.hid hg7
  have HX3 : Hid (Only r w W3) := Lib.hid (HXA.out.trans hx3.ch)
  have H3 := Lib.hid (HA.out.ext hx3)
  have HLT : Hid (r < wA.heap.size ∧ w.heap.size < wA.heap.size) := Lib.hid (by have h1 := (Array.getElem?_eq_some_iff.1 HGA.out).1; have := HRL.out; omega)
  have HW3 := Lib.hid hW3
  clear hq hx3 hg7 hW3
  have HSZ : Hid (wA.heap.size = wA.heap.size) := Lib.hid rfl
  go_wp2_with (first
    | (go_at_call 123; refine (HIV.out _).mono ?_; rintro e w' ⟨rfl, rfl⟩)
    | (go_at_call 114; refine (HIT.out _).mono ?_; rintro e w' ⟨rfl, rfl⟩)
    | (refine wpList_store_rowTo rfl _ _ _ rfl rfl wA.heap.size #[.int .u8 (k : Nat), .int .i64 0, .complex .f64 0 0, .string ⟨#[]⟩] rfl rfl _ _ HQ.out info61 rfl (prow_one _ _ _ _ _) ?_; rw [← HW3.out])
    | (go_at_call 110; refine (HRD.out _ H3.out).mono ?_))
  rintro e w4 ⟨rfl, k1, k2⟩
  have HX4 := Lib.hid (HX3.out.trans k1); have H4 := Lib.hid k2
  have HG4 : Hid (w4.heap[w.heap.size]? = some (.cells #[.int .u8 0, .int .i64 0, .complex .f64 0 0, .string ⟨#[]⟩] 29 (0, 0))) := Lib.hid (heap_of_only k1 (by have := HRL.out; omega) HG3.out)
  have HG5 : Hid (w4.heap[wA.heap.size]? = some (.cells #[.int .u8 (k : Nat), .int .i64 0, .complex .f64 0 0, .string ⟨#[]⟩] 29 (0, 0))) := Lib.hid (heap_of_only k1 (by have := HLT.out; omega) HG7.out)
  clear k1 k2
  have d : w4.cell? ⟨wA.heap.size, 3, none⟩ = some (.string ⟨#[]⟩) := by rw [cell_of_row _ _ _ _ _ _ HG5.out]; rfl
  have f := frozen_of_row w4 wA.heap.size 3 _ _ HG5.out
  have hst : (store ⟨wA.heap.size, 3, none⟩ (.string ⟨u.toArray⟩)).run Try.prog w4 = .ok () (w4.setCell ⟨wA.heap.size, 3, none⟩ (.string ⟨u.toArray⟩)) := by
    rw [run_store Try.prog w4 _ _ _ rfl, d]; simp [f]
  obtain ⟨W5, hW5⟩ : ∃ W5, W5 = w4.setCell ⟨wA.heap.size, 3, none⟩ (.string ⟨u.toArray⟩) := ⟨_, rfl⟩
  have HG6 : Hid (W5.heap[wA.heap.size]? = some (.cells #[.int .u8 (k : Nat), .int .i64 0, .complex .f64 0 0, .string ⟨u.toArray⟩] 29 (0, 0))) := Lib.hid (by rw [hW5]; exact heap_setCell_same w4 wA.heap.size 3 _ _ _ HG5.out)
  have HG8 : Hid (W5.heap[w.heap.size]? = some (.cells #[.int .u8 0, .int .i64 0, .complex .f64 0 0, .string ⟨#[]⟩] 29 (0, 0))) := Lib.hid (by rw [hW5, heap_setCell_other w4 ⟨wA.heap.size, 3, none⟩ w.heap.size (.string ⟨u.toArray⟩) (by have := HLT.out; simp <;> omega)]; exact HG4.out)
  have H5 : Hid (IsR W5 r s3) := Lib.hid (by rw [hW5]; exact H4.out.above (Ch.setCell (p := ⟨wA.heap.size, 3, none⟩) (Ch.refl _ _) (.inl (by have := HLT.out; simp <;> omega)) (.string ⟨u.toArray⟩)))
  have HX5 : Hid (Only r w W5) := Lib.hid (by rw [hW5]; exact HX4.out.setCell (.inr (by have := HLT.out; simp <;> omega)) _)
  have HER := Lib.hid (err_w r s3 W5 H5.out.weak)
  have HW5 := Lib.hid hW5
  clear hW5
  unfold RPtr at HER
  by_cases he : s3.2 ≠ 0
  · have HE := Lib.hid he
    have eb : (s3.2 != 0) = true := by simpa using he
    clear he
    go_wp2_with (first
      | (go_at_call 26; rw [← HW5.out]; refine (HER.out).mono ?_; rintro e w' ⟨rfl, rfl⟩)
      | (refine wpList_store_rowTo rfl _ _ _ rfl rfl w.heap.size #[.int .u8 0, .int .i64 0, .complex .f64 0 0, .string ⟨#[]⟩] rfl rfl _ _ HG8.out info61 rfl (prow_one _ _ _ _ _) ?_))
    refine bodyPost_ret (results_cell_row rfl _ _ w.heap.size _ #[.int .u8 0, .int .i64 0, .complex .f64 0 0, .string ⟨#[]⟩] _ _ rfl (setRow_heap _ _ _ _ _ _ HG8.out) Try.underlying29 rfl info61) rfl ?_
    exact HPO.out Val.zero _ (by rw [if_pos HE.out]) (HX5.out.setRow (.inr (Nat.le_refl _)) _) (H5.out.above ((Ch.refl _ _).setRow (.inl (by have := HRL.out; omega)) _))
  · have HE := Lib.hid he
    have eb : (s3.2 != 0) = false := by simpa using he
    clear he
    go_wp2_with (first
      | (go_at_call 26; rw [← HW5.out]; refine (HER.out).mono ?_; rintro e w' ⟨rfl, rfl⟩)
      | (refine wpList_load_row rfl _ _ rfl wA.heap.size rfl _ _ _ _ HG6.out Try.underlying29 rfl info61 ?_)
      | (refine wpList_store_rowTo rfl _ _ _ rfl rfl w.heap.size #[.int .u8 (k : Nat), .int .i64 0, .complex .f64 0 0, .string ⟨u.toArray⟩] rfl rfl _ _ HG8.out info61 rfl (prow_one _ _ _ _ _) ?_))
    refine bodyPost_ret (results_cell_row rfl _ _ w.heap.size _ #[.int .u8 (k : Nat), .int .i64 0, .complex .f64 0 0, .string ⟨u.toArray⟩] _ _ rfl (setRow_heap _ _ _ _ _ _ HG8.out) Try.underlying29 rfl info61) rfl ?_
    exact HPO.out ⟨k, 0, 0, 0, u⟩ _ (by rw [if_neg HE.out]) (HX5.out.setRow (.inr (Nat.le_refl _)) _) (H5.out.above ((Ch.refl _ _).setRow (.inl (by have := HRL.out; omega)) _))

set_option maxRecDepth 20000 in
set_option maxHeartbeats 2000000 in
theorem take_bv_bt (r : Nat) (s : RS) (ver k : Nat) (w : World) (h : IsR w r s) (hv : ver ≠ 1 ∧ ver ≠ 2) (hk : k < 1 ∨ 6 < k) :
    Calls Try.prog 97 #[RPtr r, .int .u8 (k : Nat), .int .u8 (ver : Nat)] w (TkPost r (tTake ver k s).1 (tTake ver k s).2 w) := by
  have hiv := isVersion_any ver
  have hit := isType_any k
  rw [decide_eq_false (show ¬ (ver = 1 ∨ ver = 2) by omega)] at hiv
  rw [decide_eq_false (show ¬ (1 ≤ k ∧ k ≤ 6) by omega)] at hit
  have hpre : tPre ver k s = (failR (failR s 18) 11) := by unfold tPre; simp only; rw [if_neg (show ¬ (1 ≤ k ∧ k ≤ 6) by omega), if_neg (show ¬ (ver = 1 ∨ ver = 2) by omega)]
  have htt : tTake ver k s = (if (tRaw ver k (failR (failR s 18) 11)).2.2 ≠ 0 then .zero else (tRaw ver k (failR (failR s 18) 11)).1, (tRaw ver k (failR (failR s 18) 11)).2) := by unfold tTake; rw [hpre]
  rw [htt]
  have HIV := Lib.hid hiv; have HIT := Lib.hid hit
  clear hiv hit hpre htt
  have HF1 := Lib.hid (fun w h => fail_any r s 18 w h)
  have HF2 := Lib.hid (fun w h => fail_any r (failR s 18) 11 w h)
  have HRL := Lib.hid h.lt
  obtain ⟨S0, hS0⟩ : ∃ S0, S0 = (failR (failR s 18) 11) := ⟨_, rfl⟩
  rw [← hS0]
  have HS0 := Lib.hid hS0
  have hraw : tRaw ver k S0 = (⟨k, 0, 0, 0, []⟩, S0) := by unfold tRaw; rw [if_neg (by omega), if_neg (by omega), if_neg (by omega), if_neg (by omega), if_neg (by omega), if_neg (by omega)]
  rw [hraw]
  simp only
  clear hraw hS0
  obtain ⟨PO, hPO⟩ : ∃ PO, PO = TkPost r (if S0.2 ≠ 0 then Val.zero else ⟨k, 0, 0, 0, []⟩) S0 w := ⟨_, rfl⟩
  have HPO : Hid (∀ v w', (if S0.2 ≠ 0 then Val.zero else ⟨k, 0, 0, 0, []⟩) = v → Only r w w' → IsR w' r S0 → PO (.returned (pv v)) w') := Lib.hid fun v w' h1 h2 h3 => by
    rw [hPO, h1]
    exact ⟨rfl, h2, h3⟩
  rw [← hPO]
  clear hPO
  have H := Lib.hid h
  clear h
  have e1 : (((k : Nat) : Int) == 1) = false := by simp; omega
  have e2 : (((k : Nat) : Int) == 2) = false := by simp; omega
  have e3 : (((k : Nat) : Int) == 3) = false := by simp; omega
  have e4 : (((k : Nat) : Int) == 4) = false := by simp; omega
  have e5 : (((k : Nat) : Int) == 5) = false := by simp; omega
  have e6 : (((k : Nat) : Int) == 6) = false := by simp; omega
  clear hk hv
  unfold RPtr at *
  have hg6 := heap_alloc_new w (.cells #[.int .u8 0, .int .i64 0, .complex .f64 0 0, .string ⟨#[]⟩] 29)
  have hx0 : Ext w (w.alloc (.cells #[.int .u8 0, .int .i64 0, .complex .f64 0 0, .string ⟨#[]⟩] 29)) := (Ch.refl _ _).alloc _
  have HX0 : Hid (Only r w (w.alloc (.cells #[.int .u8 0, .int .i64 0, .complex .f64 0 0, .string ⟨#[]⟩] 29))) := Lib.hid hx0.ch
  have HG0 := Lib.hid hg6
  have H0 := Lib.hid (H.out.ext hx0)
  clear hg6 hx0
  go_enter Try.func97, Try.ntmps97
  go_wp2_with (first
    | (go_at_call 123; refine (HIV.out _).mono ?_; rintro e w' ⟨rfl, rfl⟩)
    | (go_at_call 59; refine (HF1.out _ H0.out).mono ?_))
  rintro e wA ⟨rfl, k1, k2⟩
  have HXA := Lib.hid (HX0.out.trans k1); have HA := Lib.hid k2
  have HGA : Hid (wA.heap[w.heap.size]? = some (.cells #[.int .u8 0, .int .i64 0, .complex .f64 0 0, .string ⟨#[]⟩] 29 (0, 0))) := Lib.hid (heap_of_only k1 (by have := HRL.out; omega) HG0.out)
  clear k1 k2
  go_wp2_with (first
    | (go_at_call 123; refine (HIV.out _).mono ?_; rintro e w' ⟨rfl, rfl⟩)
    | (go_at_call 114; refine (HIT.out _).mono ?_; rintro e w' ⟨rfl, rfl⟩)
    | (go_at_call 59; refine (HF2.out _ HA.out).mono ?_))
  rintro e wB ⟨rfl, k1, k2⟩
  have HXB := Lib.hid (HXA.out.trans k1); have HB := Lib.hid k2
  have HGB : Hid (wB.heap[w.heap.size]? = some (.cells #[.int .u8 0, .int .i64 0, .complex .f64 0 0, .string ⟨#[]⟩] 29 (0, 0))) := Lib.hid (heap_of_only k1 (by have := HRL.out; omega) HGA.out)
  clear k1 k2
  rw [← HS0.out] at HB
  have hq : (wB.alloc (.cells #[.int .u8 0, .int .i64 0, .complex .f64 0 0, .string ⟨#[]⟩] 29)).heap[wB.heap.size]? = some (.cells #[.int .u8 0, .int .i64 0, .complex .f64 0 0, .string ⟨#[]⟩] 29 (0, 0)) := heap_alloc_new _ _
  have HQ := Lib.hid hq
  obtain ⟨W3, hW3⟩ : ∃ W3, W3 = (wB.alloc (.cells #[.int .u8 0, .int .i64 0, .complex .f64 0 0, .string ⟨#[]⟩] 29)).setRow wB.heap.size #[.int .u8 (k : Nat), .int .i64 0, .complex .f64 0 0, .string ⟨#[]⟩] := ⟨_, rfl⟩
  have hx3 : Ext wB W3 := by rw [hW3]; exact ((Ch.refl _ _).alloc _).setRow (.inr (Nat.le_refl _)) _
  have HG3 : Hid (W3.heap[w.heap.size]? = some (.cells #[.int .u8 0, .int .i64 0, .complex .f64 0 0, .string ⟨#[]⟩] 29 (0, 0))) := Lib.hid (heap_of_ext hx3 HGB.out)
  have hg7 : W3.heap[wB.heap.size]? = some (.cells #[.int .u8 (k : Nat), .int .i64 0, .complex .f64 0 0, .string ⟨#[]⟩] 29 (0, 0)) := by rw [hW3]; exact setRow_heap _ _ _ _ _ _ hq
  have HG7 := Lib.hid hg7
  have HX3 : Hid (Only r w W3) := Lib.hid (HXB.out.trans hx3.ch)
  have H3 := Lib.hid (HB.out.ext hx3)
  have HLT : Hid (r < wB.heap.size ∧ w.heap.size < wB.heap.size) := Lib.hid (by have h1 := (Array.getElem?_eq_some_iff.1 HGB.out).1; have := HRL.out; omega)
  have HW3 := Lib.hid hW3
  clear hq hx3 hg7 hW3
  have HSZ : Hid (wB.heap.size = wB.heap.size) := Lib.hid rfl
  have HER := Lib.hid (err_w r S0 W3 H3.out.weak)
  have H5 := Lib.hid H3.out
  have HG6 := Lib.hid HG7.out; have HG8 := Lib.hid HG3.out; have HX5 := Lib.hid HX3.out
  unfold RPtr at HER
  by_cases he : S0.2 ≠ 0
  · have HE := Lib.hid he
    have eb : (S0.2 != 0) = true := by simpa using he
    clear he
    go_wp2_with (first
      | (refine wpList_store_rowTo rfl _ _ _ rfl rfl wB.heap.size #[.int .u8 (k : Nat), .int .i64 0, .complex .f64 0 0, .string ⟨#[]⟩] rfl rfl _ _ HQ.out info61 rfl (prow_one _ _ _ _ _) ?_; rw [← HW3.out])
      | (go_at_call 123; refine (HIV.out _).mono ?_; rintro e w' ⟨rfl, rfl⟩)
      | (go_at_call 114; refine (HIT.out _).mono ?_; rintro e w' ⟨rfl, rfl⟩)
      | (go_at_call 26; refine (HER.out).mono ?_; rintro e w' ⟨rfl, rfl⟩)
      | (refine wpList_store_rowTo rfl _ _ _ rfl rfl w.heap.size #[.int .u8 0, .int .i64 0, .complex .f64 0 0, .string ⟨#[]⟩] rfl rfl _ _ HG8.out info61 rfl (prow_one _ _ _ _ _) ?_))
    refine bodyPost_ret (results_cell_row rfl _ _ w.heap.size _ #[.int .u8 0, .int .i64 0, .complex .f64 0 0, .string ⟨#[]⟩] _ _ rfl (setRow_heap _ _ _ _ _ _ HG8.out) Try.underlying29 rfl info61) rfl ?_
    exact HPO.out Val.zero _ (by rw [if_pos HE.out]) (HX5.out.setRow (.inr (Nat.le_refl _)) _) (H5.out.above ((Ch.refl _ _).setRow (.inl (by have := HRL.out; omega)) _))
  · have HE := Lib.hid he
    have eb : (S0.2 != 0) = false := by simpa using he
    clear he
    go_wp2_with (first
      | (refine wpList_store_rowTo rfl _ _ _ rfl rfl wB.heap.size #[.int .u8 (k : Nat), .int .i64 0, .complex .f64 0 0, .string ⟨#[]⟩] rfl rfl _ _ HQ.out info61 rfl (prow_one _ _ _ _ _) ?_; rw [← HW3.out])
      | (go_at_call 123; refine (HIV.out _).mono ?_; rintro e w' ⟨rfl, rfl⟩)
      | (go_at_call 114; refine (HIT.out _).mono ?_; rintro e w' ⟨rfl, rfl⟩)
      | (go_at_call 26; refine (HER.out).mono ?_; rintro e w' ⟨rfl, rfl⟩)
      | (refine wpList_load_row rfl _ _ rfl wB.heap.size rfl _ _ _ _ HG6.out Try.underlying29 rfl info61 ?_)
      | (refine wpList_store_rowTo rfl _ _ _ rfl rfl w.heap.size #[.int .u8 (k : Nat), .int .i64 0, .complex .f64 0 0, .string ⟨#[]⟩] rfl rfl _ _ HG8.out info61 rfl (prow_one _ _ _ _ _) ?_))
    refine bodyPost_ret (results_cell_row rfl _ _ w.heap.size _ #[.int .u8 (k : Nat), .int .i64 0, .complex .f64 0 0, .string ⟨#[]⟩] _ _ rfl (setRow_heap _ _ _ _ _ _ HG8.out) Try.underlying29 rfl info61) rfl ?_
    exact HPO.out ⟨k, 0, 0, 0, []⟩ _ (by rw [if_neg HE.out]) (HX5.out.setRow (.inr (Nat.le_refl _)) _) (H5.out.above ((Ch.refl _ _).setRow (.inl (by have := HRL.out; omega)) _))
end Go.Proofs.Yteechmgcjfnjbaa
