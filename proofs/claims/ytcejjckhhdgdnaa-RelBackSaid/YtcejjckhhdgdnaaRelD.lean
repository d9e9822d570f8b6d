/-
  Relations: the document's Ahead; slices.Clone of columns.
-/
import Derived.Test.YtcejjckhhdgdnaaRelC
namespace Go.Proofs.Ytcejjckhhdgdnaa
open Go.RowKit Go.Lac

set_option maxRecDepth 20000 in
set_option maxHeartbeats 1600000 in
theorem ahead_any (a1 a2 b1 b2 : Nat) (w : World) :
    Calls Try.prog 16 #[.agg #[.int .u32 (a1 : Nat), .int .u32 (a2 : Nat)], .agg #[.int .u32 (b1 : Nat), .int .u32 (b2 : Nat)]] w fun e w' => e = .returned (.bool (decide (a1 < b1 ∨ a1 = b1 ∧ a2 < b2))) ∧ Ext w w' := by
  have h1 := heap_alloc2_old w (.cells #[.int .u32 (a1 : Nat), .int .u32 (a2 : Nat)] 24) (.cells #[.int .u32 (b1 : Nat), .int .u32 (b2 : Nat)] 24)
  have h2 := heap_alloc2_new w (.cells #[.int .u32 (a1 : Nat), .int .u32 (a2 : Nat)] 24) (.cells #[.int .u32 (b1 : Nat), .int .u32 (b2 : Nat)] 24)
  obtain ⟨W, hW⟩ : ∃ W, W = (w.alloc (.cells #[.int .u32 (a1 : Nat), .int .u32 (a2 : Nat)] 24)).alloc (.cells #[.int .u32 (b1 : Nat), .int .u32 (b2 : Nat)] 24) := ⟨_, rfl⟩
  have hx : Ext w W := by rw [hW]; exact ((Ch.refl _ _).alloc _).alloc _
  have HX := Lib.hid hx; have HW := Lib.hid hW
  clear hx hW
  have c0 : ((w.alloc (.cells #[.int .u32 (a1 : Nat), .int .u32 (a2 : Nat)] 24)).alloc (.cells #[.int .u32 (b1 : Nat), .int .u32 (b2 : Nat)] 24)).cell? ⟨w.heap.size, 0, none⟩ = some (.int .u32 (a1 : Nat)) := by rw [cell_of_row _ _ _ _ _ _ h1]; rfl
  have c1 : ((w.alloc (.cells #[.int .u32 (a1 : Nat), .int .u32 (a2 : Nat)] 24)).alloc (.cells #[.int .u32 (b1 : Nat), .int .u32 (b2 : Nat)] 24)).cell? ⟨w.heap.size, 1, none⟩ = some (.int .u32 (a2 : Nat)) := by rw [cell_of_row _ _ _ _ _ _ h1]; rfl
  have d0 : ((w.alloc (.cells #[.int .u32 (a1 : Nat), .int .u32 (a2 : Nat)] 24)).alloc (.cells #[.int .u32 (b1 : Nat), .int .u32 (b2 : Nat)] 24)).cell? ⟨w.heap.size + 1, 0, none⟩ = some (.int .u32 (b1 : Nat)) := by rw [cell_of_row _ _ _ _ _ _ h2]; rfl
  have d1 : ((w.alloc (.cells #[.int .u32 (a1 : Nat), .int .u32 (a2 : Nat)] 24)).alloc (.cells #[.int .u32 (b1 : Nat), .int .u32 (b2 : Nat)] 24)).cell? ⟨w.heap.size + 1, 1, none⟩ = some (.int .u32 (b2 : Nat)) := by rw [cell_of_row _ _ _ _ _ _ h2]; rfl
  clear h1 h2
  by_cases k1 : a1 < b1
  · rw [decide_eq_true (.inl k1)]
    go_enter Try.func16, Try.ntmps16
    go_wp2
    go_ret
    rw [← HW.out]
    exact ⟨by simp; try omega, HX.out⟩
  by_cases k2 : a1 = b1
  · subst k2
    by_cases k3 : a2 < b2
    · rw [decide_eq_true (.inr ⟨rfl, k3⟩)]
      clear k1
      go_enter Try.func16, Try.ntmps16
      go_wp2
      go_ret
      rw [← HW.out]
      exact ⟨by simp; try omega, HX.out⟩
    · rw [decide_eq_false (by omega)]
      clear k1
      go_enter Try.func16, Try.ntmps16
      go_wp2
      go_ret
      rw [← HW.out]
      exact ⟨by simp; try omega, HX.out⟩
  · rw [decide_eq_false (by omega)]
    have e1 : (((a1 : Nat) : Int) == ((b1 : Nat) : Int)) = false := by simp; omega
    have k4 : b1 ≤ a1 := by omega
    clear k1 k2
    go_enter Try.func16, Try.ntmps16
    go_wp2
    go_ret
    rw [← HW.out]
    exact ⟨by simp; try omega, HX.out⟩

/-- A slice of columns. -/
def colC (l : List Col) : List Value := l.flatMap fun c => (colv c).toList
def ColS (w : World) (v : Value) (l : List Col) : Prop := Sl w v l.length (colC l)
theorem colC_length : ∀ l : List Col, (colC l).length = l.length * 3
  | [] => rfl
  | c :: l => by
    have := colC_length l
    unfold colC at *
    rw [List.flatMap_cons, List.length_append, this]
    simp [colv]; omega
theorem colC_one (l : List Col) : ∀ u ∈ colC l, u.oneCell' = true := by
  intro u hu
  obtain ⟨c, _, hc⟩ := List.mem_flatMap.1 hu
  simp [colv, strV] at hc
  rcases hc with rfl | rfl | rfl <;> rfl
theorem infoCoZ : (Try.prog.info? 49).map (fun i => (i.zero, i.size, i.bytes)) = some (some (.agg #[.string ⟨#[]⟩, .int .u8 0, .bool false]), 3, 24) := by kernel_rfl
theorem emptyCo (w : World) : (Instr.buildSlice 30 0 #[]).run Try.prog w = .ok (.slice (some ⟨w.heap.size, 0, none⟩) 0 0) (w.alloc (.cells #[] 49)) := by kernel_rfl
def CloPost (l : List Col) (w : World) (e : Ending) (w' : World) : Prop := ∃ v, e = .returned v ∧ Ext w w' ∧ w'.ownsRow w.heap.size 49 3 v l.length (colC l)
set_option maxRecDepth 20000 in
set_option maxHeartbeats 1600000 in
theorem cloneCo_any (v : Value) (l : List Col) (w : World) (hb : ColS w v l) (hl : l.length ≤ 1000000) :
    Calls Try.prog 56 #[v] w (CloPost l w) := by
  obtain ⟨i, hi, hz, hs, hby⟩ := info_parts infoCoZ
  have HB := Lib.hid hb
  obtain ⟨ao, cap, hv, h1, h2, h3, h4⟩ := hb
  subst hv
  cases ao with
  | none =>
    obtain rfl : cap = 0 := h3 rfl
    have hbs : l = [] := List.eq_nil_of_length_eq_zero (by omega)
    subst hbs
    clear h1 h2 h3 h4
    have hnil := Lib.run_eql_slice_nil (P := Try.prog) w 30 49 none 0 0 0 0 Try.underlying30
    go_enter Try.func56, Try.ntmps56
    go_wp2
    go_ret
    exact ⟨_, rfl, Ch.refl _ _, World.ownsRow_nil _ _ _ _⟩
  | some x =>
    clear h3 h4 h1 h2
    have hx : Ext w (w.alloc (.cells #[] 49)) := (Ch.refl _ _).alloc _
    have HO := Lib.hid (World.ownsRow_lit (base := w.heap.size) (e := 49) (size := 3) w #[] 0 (Nat.le_refl _) (Nat.zero_le _) rfl)
    have HX := Lib.hid hx
    have HL := Lib.hid hl
    have HE := Lib.hid emptyCo
    clear hx hl
    have hnil := Lib.run_eql_slice_nil (P := Try.prog) w 30 49 (some x) l.length cap 0 0 Try.underlying30
    have hempty := emptyCo w
    go_enter Try.func56, Try.ntmps56
    go_wp2_with (at_builtin; refine wpList_append_sl _ rfl _ _ 30 rfl w.heap.size 49 i (.agg #[.string ⟨#[]⟩, .int .u8 0, .bool false]) 3 24 Try.underlying30 hi hz hs hby rfl (by decide) _ _ _ rfl HO.out _ _ _ rfl (HB.out.ext HX.out) (colC_length l) (colC_one l) (by have := HL.out; omega) (by have := HL.out; unfold maxLen; omega) (by simp) ?_)
    intro v' w' hown hgrow
    have hfin : CloPost l w (.returned v') w' := ⟨v', rfl, HX.out.grown hgrow (fun k hk => by simp [Value.ownBlock] at hk; omega), by simpa using hown⟩
    have HF := Lib.hid hfin; clear hfin hown hgrow
    go_wp2
    go_ret
    exact HF.out
end Go.Proofs.Ytcejjckhhdgdnaa
