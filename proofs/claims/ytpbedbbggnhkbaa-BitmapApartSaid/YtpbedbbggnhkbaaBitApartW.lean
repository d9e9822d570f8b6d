/-
  BitmapApart: the walk.
-/
import Derived.Test.YtpbedbbggnhkbaaProg
import Derived.Test.YtpbedbbggnhkbaaLib
import Derived.Test.YtpbedbbggnhkbaaBitF
import Derived.Test.YtpbedbbggnhkbaaBitG
import Derived.Test.YtpbedbbggnhkbaaBitH
import Derived.WalkKit
import Derived.Lib.Hide
namespace Go.Proofs.Ytpbedbbggnhkbaa
open Go.RowKit Go.Lac

theorem bools_oneCell (l : List Bool) : ∀ u ∈ boolsV l, u.oneCell' = true := by
  intro u hu
  obtain ⟨b, _, rfl⟩ := List.mem_map.1 hu
  rfl

theorem owns_none (w : World) (E : TypeId) : (w.alloc (.cells #[] E)).ownsRow w.heap.size E 1 (.slice (some ⟨w.heap.size, 0, none⟩) 0 0) 0 [] :=
  ⟨rfl, .inr ⟨w.heap.size, 0, #[], rfl, Nat.le_refl _, heap_alloc_new w _, Nat.le_refl _, by unfold maxLen; omega, rfl, rfl⟩⟩

theorem owns_set {w1 : World} {base : Nat} {E : TypeId} {v' : Value} {l : List Bool} {i : Nat} (h : w1.ownsRow base E 1 v' l.length (boolsV l)) (hi : i < l.length) (b : Bool) :
    ∃ g cap', v' = .slice (some ⟨g, 0, none⟩) l.length cap' ∧ base ≤ g ∧ (∃ cur, w1.heap[g]? = some (.cells cur E)) ∧ l.length ≤ cap' ∧ cap' ≤ maxLen ∧ w1.cell? ⟨g, i, none⟩ = some (.bool l[i]) ∧ RdBools (w1.setCell ⟨g, i, none⟩ (.bool b)) v' (l.set i b) ∧ (w1.setCell ⟨g, i, none⟩ (.bool b)).cell? ⟨g, i, none⟩ = some (.bool b) := by
  obtain ⟨_, h | ⟨g, cap, cur, rfl, h1, h2, h3, h4, h5, h6⟩⟩ := h
  · omega
  have hget : ∀ j, j < l.length → cur[j]? = (boolsV l)[j]? := fun j hj => by
    rw [← h6, List.getElem?_take, if_pos (by omega)]; simp
  refine ⟨g, cap, rfl, h1, ⟨cur, h2⟩, h3, h4, ?_, ?_, by rw [cell_of_row _ g i _ _ _ (heap_setCell_same w1 g i _ _ _ h2), Array.getElem?_setIfInBounds, if_pos rfl, if_pos (by omega)]⟩
  · rw [cell_of_row w1 g i _ _ _ h2, hget i hi]; simp [boolsV, hi]
  · refine ⟨some ⟨g, 0, none⟩, cap, by rw [List.length_set], by simpa using h3, h4, (fun h => by cases h), fun x hx j u hu => ?_⟩
    cases hx
    refine ⟨g, 0, rfl, ?_⟩
    have hj : j < l.length := by
      have := (List.getElem?_eq_some_iff.1 hu).1
      simpa [boolsV] using this
    rw [Nat.zero_add, cell_of_row _ g j _ _ _ (heap_setCell_same w1 g i _ _ _ h2)]
    rw [Array.getElem?_setIfInBounds]
    by_cases hij : i = j
    · subst hij
      rw [if_pos rfl, if_pos (by omega)]
      simpa [boolsV, hi] using hu
    · rw [if_neg hij, hget j hj]
      simpa [boolsV, hij] using hu

theorem apart_facts {l : List Bool} {i : Nat} (hil : i < l.length) (h16 : l.length ≤ 16) : ∃ b l2, l[i] = b ∧ l2 = l.set i (!b) ∧ l2.length = l.length ∧
    ((countT l2 : Nat) : Int) - (countT l : Nat) = (if b then -1 else 1) ∧ countT l ≤ 16 ∧ countT l2 ≤ 16 ∧ mapB l ≠ mapB l2 ∧ (mapB l).length = sizeN l.length ∧ (mapB l2).length = sizeN l.length := by
  have hlen : (l.set i (!l[i])).length = l.length := List.length_set
  refine ⟨l[i], l.set i (!l[i]), rfl, rfl, hlen, countT_set l i hil, Nat.le_trans List.count_le_length (by omega), Nat.le_trans List.count_le_length (by omega), fun e => ?_, mapB_length l (by omega), by rw [mapB_length _ (by omega), hlen]⟩
  have h1 := mapB_inj (by omega) hlen e
  have h2 : l[i]? = (l.set i (!l[i]))[i]? := by rw [← h1]
  rw [List.getElem?_set_self hil, List.getElem?_eq_getElem hil] at h2
  cases hb : l[i] <;> rw [hb] at h2 <;> cases h2

set_option maxRecDepth 20000 in
set_option maxHeartbeats 2000000 in
theorem bitmapApart_walk (v : Value) (l : List Bool) (c : Nat) (w : World) (h : RdBools w v l) (hc : c < 256) :
    Calls Try.prog 12 #[v, .int .u8 c] w fun e w' => e = .returned (.bool true) ∧ Ext w w' := by
  obtain ⟨i2, hi2, hz2, hs2, hby2⟩ := info_parts infoBool
  obtain ⟨ao, cap, rfl⟩ := h.shape
  have hlen : l.length ≤ maxLen := by obtain ⟨_, _, _, g1, g2, _⟩ := h; omega
  unfold maxLen at hlen
  have H := Lib.hid h; clear h
  by_cases h16 : 16 < l.length
  · go_enter Try.func12, Try.ntmps12
    go_wp2
    go_ret
    exact ⟨rfl, Ch.refl _ _⟩
  by_cases h0 : l.length = 0
  · go_enter Try.func12, Try.ntmps12
    go_wp2
    go_ret
    exact ⟨rfl, Ch.refl _ _⟩
  have h0' : ((l.length : Int) == 0) = false := by rw [beq_eq_false_iff_ne]; omega
  obtain ⟨i, hi⟩ : ∃ i, i = c % l.length := ⟨_, rfl⟩
  have hil : i < l.length := by rw [hi]; exact Nat.mod_lt _ (by omega)
  obtain ⟨b, l2, hb, hl2, hlen2, hdiff, hc16, hc16', hne, hm1, hm2⟩ := apart_facts hil (by omega)
  have HB := Lib.hid hb; have HL2 := Lib.hid hl2; have HLEN := Lib.hid hlen2; have HD := Lib.hid hdiff; have H16 := Lib.hid hc16; have H16' := Lib.hid hc16'; have HNE := Lib.hid hne; have HM1 := Lib.hid hm1; have HM2 := Lib.hid hm2
  clear hb hl2 hlen2 hdiff hc16 hc16' hne hm1 hm2
  have hmod : (c : Int) % (l.length : Int) = (i : Nat) := by rw [hi]; simp
  clear hi
  go_enter Try.func12, Try.ntmps12
  go_wp2_with (at_builtin; refine wpList_append_sl (P := Try.prog) _ rfl _ _ 57 rfl (w.heap.size) 4 i2 (.bool false) 1 1 Try.underlying57 hi2 hz2 hs2 hby2 rfl (by decide) _ 0 [] rfl ?c0 _ l.length (boolsV l) rfl ?c1 ?c2 ?c3 ?c4 ?c5 ?c6 ?_)
  case c0 => exact owns_none w _
  case c1 => exact Sl.ext H.out ((Ch.refl _ _).alloc _)
  case c2 => simp [boolsV]
  case c3 => exact bools_oneCell l
  case c4 => omega
  case c5 => unfold maxLen; omega
  case c6 => simp
  intro v' w1 hown hgrow
  have hx := ((Ch.refl (fun _ => False) w).alloc (.cells #[] 4)).grown hgrow fun k hk => .inr ((owns_none w 4).lt k hk).1
  obtain ⟨g, cap', rfl, g1, ⟨cur, g2⟩, g3, g4, g5, g6, g7⟩ := owns_set hown hil (!b)
  have hfr := frozen_of_row w1 g i _ _ g2
  have X1 := Lib.hid (hx.setCell (p := ⟨g, i, none⟩) (.inr g1) (.bool (!b)))
  rw [HB.out] at g5
  rw [← HL2.out] at g6
  have HL' := Lib.hid g6; have HCell := Lib.hid g7
  clear hown hgrow hx g7 g6 g2 g1 HL2
  unfold maxLen at g4
  have hpk := fun w h => pack_any (.slice ao l.length cap) l w h
  have hpk' := fun w h => pack_any (.slice (some ⟨g, 0, none⟩) l.length cap') l2 w h
  have HPK := Lib.hid hpk; have HPK' := Lib.hid hpk'; clear hpk hpk'
  have hct := fun w h => count_any (.slice ao l.length cap) l w h
  have hct' := fun w h => count_any (.slice (some ⟨g, 0, none⟩) l.length cap') l2 w h
  have HCT := Lib.hid hct; have HCT' := Lib.hid hct'; clear hct hct'
  have HGE := Lib.hid g3
  go_wp2_with fail
  generalize w1.setCell ⟨g, i, none⟩ (.bool (!b)) = w2 at *
  clear hfr g5
  have H2 := Lib.hid (Sl.ext H.out X1.out)
  refine (HPK.out _ H2.out).mono ?_
  intro e w3 hp
  unfold PackPost at hp
  rw [if_pos (by omega)] at hp
  obtain ⟨s1, rfl, x1, r1, _⟩ := hp
  have X3 := Lib.hid (X1.out.trans x1); have R1 := Lib.hid r1; have HL3 := Lib.hid (Sl.ext HL'.out x1); have H3 := Lib.hid (Sl.ext H2.out x1)
  have HC3 := Lib.hid (x1.cell (p := ⟨g, i, none⟩) (fun f => f) _ HCell.out)
  clear x1 r1
  go_wp2_with fail
  refine (HPK'.out _ HL3.out).mono ?_
  intro e w4 hp
  unfold PackPost at hp
  rw [if_pos (by rw [HLEN.out]; omega)] at hp
  obtain ⟨s2, rfl, x2, r2, _⟩ := hp
  have X4 := Lib.hid (X3.out.trans x2); have HL4 := Lib.hid (Sl.ext HL3.out x2); have H4 := Lib.hid (Sl.ext H3.out x2)
  have hcell := x2.cell (p := ⟨g, i, none⟩) (fun f => f) _ HC3.out
  have hs1 := run_toString (P := Try.prog) (Rd.ext R1.out x2) (src := 22) (dst := 9) Try.underlying22 Try.underlying5 Try.underlying9
  have hs2 := run_toString (P := Try.prog) r2 (src := 22) (dst := 9) Try.underlying22 Try.underlying5 Try.underlying9
  unfold strV at hs1 hs2
  obtain ⟨a1, c1, rfl⟩ := R1.out.shape
  obtain ⟨a2, c2, rfl⟩ := r2.shape
  have hq := toList_beq (mapB l) (mapB l2)
  rw [decide_eq_false HNE.out] at hq
  rw [HM1.out] at *
  rw [HM2.out] at *
  obtain ⟨b1, off, rfl, _, _, k3⟩ := bools_cell H4.out rfl (by omega)
  have hcell1 := k3 i hil
  rw [HB.out] at hcell1
  have C1 := Lib.hid (HCT.out w4 H4.out); have C2 := Lib.hid (HCT'.out w4 HL4.out)
  clear x2 r2 k3 HPK HPK' HCT HCT' HB HNE HM1 HM2 R1 HL3 H3 HC3 X3 H2 HL' HCell
  generalize (mapB l).toArray = A1 at *
  generalize (mapB l2).toArray = A2 at *
  generalize sizeN l.length = sz at *
  have hd := HD.out
  have h16a := H16.out
  have h16b := H16'.out
  clear HD H16 H16'
  generalize countT l = n1 at *
  generalize countT l2 = n2 at *
  cases b with
  | true =>
    simp only [if_true] at hd
    go_wp2_with fail
    refine C2.out.mono ?_
    rintro e w' ⟨rfl, rfl⟩
    go_wp2_with fail
    refine C1.out.mono ?_
    rintro e w' ⟨rfl, rfl⟩
    go_wp2_with fail
    refine (awake2_any _).mono ?_
    rintro e w' ⟨rfl, hx⟩
    have HX := Lib.hid (X4.out.trans hx); clear hx
    go_wp2
    go_ret
    exact ⟨rfl, HX.out⟩
  | false =>
    simp only [Bool.false_eq_true, if_false] at hd
    go_wp2_with fail
    refine C2.out.mono ?_
    rintro e w' ⟨rfl, rfl⟩
    go_wp2_with fail
    refine C1.out.mono ?_
    rintro e w' ⟨rfl, rfl⟩
    go_wp2_with fail
    refine (awake2_any _).mono ?_
    rintro e w' ⟨rfl, hx⟩
    have HX := Lib.hid (X4.out.trans hx); clear hx
    go_wp2
    go_ret
    exact ⟨rfl, HX.out⟩
end Go.Proofs.Ytpbedbbggnhkbaa
