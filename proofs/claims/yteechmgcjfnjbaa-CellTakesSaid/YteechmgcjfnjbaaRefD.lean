/-
  The reference's reader: Uint.
-/
import Derived.Test.YteechmgcjfnjbaaProg
import Derived.Test.YteechmgcjfnjbaaLib
import Derived.Test.YteechmgcjfnjbaaPrimH
import Derived.Test.YteechmgcjfnjbaaRefB
import Derived.WalkKit
import Derived.Deep.QuietTactic
import Derived.BigQuiet
import Derived.Lib.Hide
namespace Go.Proofs.Yteechmgcjfnjbaa
open Go.RowKit Go.Lac

def dig : List UInt8 → Nat
  | [] => 0
  | b :: l => b.toNat % 128 + 128 * dig l

theorem dig_take (l : List UInt8) : ∀ (k : Nat) (h : k < l.length), dig (l.take (k + 1)) = dig (l.take k) + l[k].toNat % 128 * 128 ^ k := by
  induction l with
  | nil => intro k h; simp at h
  | cons b l ih =>
    intro k h
    cases k with
    | zero => simp [dig]
    | succ k =>
      have := ih k (by simpa using h)
      simp only [List.take_succ_cons, dig, List.getElem_cons_succ, this, Nat.pow_succ]
      rw [Nat.mul_add]
      have e : ∀ x, 128 * (x * 128 ^ k) = x * (128 ^ k * 128) := fun x => by
        rw [Nat.mul_comm (128 ^ k), ← Nat.mul_assoc, ← Nat.mul_assoc, Nat.mul_comm 128]
      rw [e]; omega

theorem dig_drop (l : List UInt8) (j : Nat) (h : j < l.length) : dig (l.drop j) = l[j].toNat % 128 + 128 * dig (l.drop (j + 1)) := by
  rw [List.drop_eq_getElem_cons h]; rfl

theorem dig_drop_le : ∀ (l : List UInt8) (j : Nat), dig (l.drop j) ≤ dig l
  | l, 0 => Nat.le_refl _
  | [], j + 1 => Nat.le_refl _
  | b :: l, j + 1 => by
    have := dig_drop_le l j
    simp only [List.drop_succ_cons, dig]; omega

theorem numAt_go (l : List UInt8) : ∀ n, n ≤ 9 → (hn : n ≤ l.length) → (∀ j (hj : j < n), 127 < (l[j]'(by omega)).toNat) → num l = numAt n (dig (l.take n)) (l.drop n) := by
  intro n
  induction n with
  | zero => intro _ _ _; rfl
  | succ n ih =>
    intro h9 hn hb
    rw [ih (by omega) (by omega) (fun j hj => hb j (by omega)), List.drop_eq_getElem_cons (show n < l.length by omega), numAt]
    have := hb n (by omega)
    rw [if_neg (by omega), if_pos (by omega), dig_take l n (by omega)]

theorem num_ten {l : List UInt8} (hn : 10 ≤ l.length) (hb : ∀ j (hj : j < 10), 127 < (l[j]'(by omega)).toNat) : num l = (0, 0, 5) := by
  rw [numAt_go l 9 (by omega) (by omega) (fun j hj => hb j (by omega)), List.drop_eq_getElem_cons (show 9 < l.length by omega), numAt]
  have := hb 9 (by omega)
  rw [if_pos ⟨rfl, by omega⟩]
theorem num_end {l : List UInt8} (hn : l.length ≤ 9) (hb : ∀ j (hj : j < l.length), 127 < (l[j]'hj).toNat) : num l = (0, 0, 1) := by
  rw [numAt_go l l.length hn (Nat.le_refl _) hb, List.drop_length, numAt]
theorem num_at {l : List UInt8} {n : Nat} (h9 : n ≤ 9) (hn : n < l.length) (hb : ∀ j (hj : j < n), 127 < (l[j]'(by omega)).toNat) (hd : l[n].toNat ≤ 127) :
    num l = if n = 9 ∧ 1 < l[n].toNat then (0, 0, 5) else if l[n].toNat = 0 ∧ 0 < n then (0, 0, 5) else (dig (l.take (n + 1)), n + 1, 0) := by
  rw [numAt_go l n h9 (by omega) hb, List.drop_eq_getElem_cons hn, numAt]
  by_cases h1 : n = 9 ∧ 1 < l[n].toNat
  · rw [if_pos h1, if_pos h1]
  rw [if_neg h1, if_neg h1, if_neg (by omega)]
  by_cases h2 : l[n].toNat = 0 ∧ 0 < n
  · rw [if_pos h2, if_pos h2]
  · rw [if_neg h2, if_neg h2, dig_take l n hn]

theorem uintR_five {s : RS} {m : Nat} (h : num s.1 = (0, 0, 5)) : uintR m s = (0, failR s 5) := by unfold uintR; rw [h]; simp
theorem uintR_one {s : RS} {m : Nat} (h : num s.1 = (0, 0, 1)) : uintR m s = (0, failR s 1) := by unfold uintR; rw [h]; simp
theorem uintR_four {s : RS} {m v n : Nat} (h : num s.1 = (v, n, 0)) (hv : m < v) : uintR m s = (0, failR s 4) := by unfold uintR; rw [h]; simp [hv]
theorem uintR_ok {s : RS} {m v n : Nat} (h : num s.1 = (v, n, 0)) (hv : ¬ m < v) : uintR m s = (v, (s.1.drop n, s.2)) := by unfold uintR; rw [h]; simp [hv]

set_option maxRecDepth 100000 in
set_option maxHeartbeats 4000000 in
theorem quint_any (q : Nat) (s : RS) (most : Nat) (w : World) (h : IsQ w q s) (hmost : most < 2 ^ 64) :
    Calls Try.prog 76 #[QPtr q, .int .u64 most] w (QPost q (.int .u64 (uintR most s).1) (uintR most s).2 w) := by
  have hl : ∀ k n, Calls Try.prog 28 #[QPtr q] (w.drewN (k + n)) fun e w'' => e = .returned (.int .i64 s.1.length) ∧ ∃ m, w'' = w.drewN (k + m) := fun k n => (qleft_any q s (w.drewN (k + n)) (h.ext (ext_drewN w _))).mono fun e w' ⟨h1, j, h2⟩ => ⟨h1, n + j, by rw [h2, World.drewN_drewN, Nat.add_assoc]⟩
  have hl0 := fun k => (qleft_any q s (w.drewN k) (h.ext (ext_drewN w k)))
  have hg := fun k e => giveUp_any q s e (w.drewN k) (h.ext (ext_drewN w k))
  have HL := Lib.hid hl; have HL0 := Lib.hid hl0; have HG := Lib.hid hg; clear hl hl0 hg
  have HPOST : Hid (∀ (e : Int) (k : Nat) (w1 : World), uintR most s = (0, failR s e) → Only q (w.drewN k) w1 → IsQ w1 q (failR s e) → QPost q (.int .u64 (uintR most s).1) (uintR most s).2 w (.returned (.int .u64 0)) w1) :=
    Lib.hid fun e k w1 hu k1 k2 => by rw [hu]; exact ⟨rfl, (ext_drewN w k).ch.trans k1, k2⟩
  have HPOST5 := HPOST
  generalize hQP : QPost q (.int .u64 (uintR most s).1) (uintR most s).2 w = QP at HPOST
  have HQP := Lib.hid hQP; clear hQP HPOST5
  obtain ⟨bs, a, ao, cap, c0, c1, c2, f1, f2, hrd, hle, hm, hs, hrow, hst⟩ := h.cells
  have H := Lib.hid h; have HS0 := Lib.hid hs; have C0 := Lib.hid c0; have C1 := Lib.hid c1; have C2 := Lib.hid c2; have F1 := Lib.hid f1; have HROW := Lib.hid hrow; have HRD := Lib.hid hrd; have HST := Lib.hid hst
  have hll : s.1.length ≤ bs.length := by rw [hs]; split <;> simp
  clear h hs hrow hrd hst c0 c1 c2 f1 f2
  unfold QPtr at *
  go_enter Try.func76, Try.ntmps76
  go_wp2
  go_loopw [5] (fun ix wr => ∃ n k : Nat, n ≤ 10 ∧ ix = .int .i64 n ∧ wr = w.drewN k ∧ ∃ hn : n ≤ s.1.length, ∀ j (hj : j < n), 127 < (s.1[j]'(by omega)).toNat) (fun ix _ => 10 - (intOf ix).toNat)
  case atStart => exact ⟨0, 0, by omega, rfl, rfl, Nat.zero_le _, fun j hj => absurd hj (Nat.not_lt_zero _)⟩
  case round =>
    obtain ⟨n, k, h10, rfl, rfl, hn, hb⟩ := hrel
    have HB := Lib.hid hb; clear hb
    by_cases hn10 : n = 10
    · subst hn10
      have hnum := uintR_five (m := most) (num_ten hn HB.out)
      have HN := Lib.hid hnum; clear hnum
      go_wp2
      go_quiet (first | (go_at_call 28; exact HL.out _ _))
      go_wp2
      go_quiet (first | (go_at_call 28; exact HL.out _ _))
      go_wp2_with fail
      refine (HG.out _ 5).mono ?_
      rintro e w1 ⟨rfl, k1, k2⟩
      have K1 := Lib.hid k1; have K2 := Lib.hid k2; clear k1 k2
      go_wp2
      try go_ret
      exact HPOST.out _ _ _ HN.out K1.out K2.out
    have hn10' : n < 10 := by omega
    have e10 : decide ((n : Int) < 10) = true := decide_eq_true (by omega)
    have f10 : ((n : Int) == 10) = false := beq_eq_false_iff_ne.2 (by omega)
    by_cases hnl : n = s.1.length
    · have el : decide (n < s.1.length) = false := decide_eq_false (by omega)
      have HN := Lib.hid (uintR_one (m := most) (num_end (l := s.1) (by omega) (fun j hj => HB.out j (by omega))))
      clear hn10 HB
      by_cases h9 : n = 9
      · have e9 : ((n : Int) == 9) = true := by simp; omega
        have el9 : decide ((9 : Int) < (s.1.length : Int)) = false := decide_eq_false (by omega)
        have hnl' : (s.1.length : Int) ≤ (n : Int) := by omega
        clear h9 hnl
        go_wp2
        go_quiet (first | (go_at_call 28; exact HL.out _ _))
        go_wp2
        go_quiet (first | (go_at_call 28; exact HL.out _ _))
        go_wp2_with (go_at_call 28; refine (HL0.out _).mono ?_; rintro e w' ⟨rfl, kk, rfl⟩)
        refine (HG.out _ 1).mono ?_
        rintro e w1 ⟨rfl, k1, k2⟩
        have K1 := Lib.hid k1; have K2 := Lib.hid k2; clear k1 k2
        go_wp2
        try go_ret
        exact HPOST.out _ _ _ HN.out K1.out K2.out
      · have e9 : ((n : Int) == 9) = false := beq_eq_false_iff_ne.2 (by omega)
        have hnl' : (s.1.length : Int) ≤ (n : Int) := by omega
        clear h9 hnl
        go_wp2
        go_quiet (first | (go_at_call 28; exact HL.out _ _))
        go_wp2
        go_quiet (first | (go_at_call 28; exact HL.out _ _))
        go_wp2_with (go_at_call 28; refine (HL0.out _).mono ?_; rintro e w' ⟨rfl, kk, rfl⟩)
        refine (HG.out _ 1).mono ?_
        rintro e w1 ⟨rfl, k1, k2⟩
        have K1 := Lib.hid k1; have K2 := Lib.hid k2; clear k1 k2
        go_wp2
        try go_ret
        exact HPOST.out _ _ _ HN.out K1.out K2.out
    · have hnl' : n < s.1.length := by omega
      have el : decide (n < s.1.length) = true := decide_eq_true (by omega)
      have hz : s.2 = 0 := by
        rcases Decidable.em (s.2 = 0) with g | g
        · exact g
        · have := HS0.out; rw [if_neg g] at this; rw [this] at hnl'; simp at hnl'
      have HZ := Lib.hid hz; clear hz
      have hbs : s.1 = bs.drop a := by have := HS0.out; rwa [if_pos HZ.out] at this
      have hlen : s.1.length = bs.length - a := by rw [hbs, List.length_drop]
      obtain ⟨b, off, hao, hcap1, hcap2, hcells⟩ := cell_of_rd HRD.out rfl (by omega)
      subst hao
      have hcell : ∀ j (hj : j < s.1.length), w.cell? ⟨b, off + (a + j), none⟩ = some (.int .u8 ((s.1[j]).toNat : Int)) := fun j hj => by
        have := hcells (a + j) (by omega)
        rw [this]
        simp only [hbs, List.getElem_drop]
      have HCELL := Lib.hid hcell; clear hcell hcells
      unfold maxLen at hcap2
      have hcn := HCELL.out n hnl'
      have han : a + n < bs.length := by omega
      have c0 := C0.out; have c1 := C1.out; have c2 := C2.out; have f1 := F1.out
      have hd256 := (s.1[n]).toNat_lt
      have h9n : n ≤ 9 := Nat.le_of_lt_succ hn10'
      have hnumat := fun hd => num_at (l := s.1) (n := n) h9n hnl' (fun j hj => HB.out j hj) hd
      have hbn := fun (hd : 127 < (s.1[n]).toNat) => (show ∀ j (hj : j < n + 1), 127 < (s.1[j]'(Nat.lt_of_lt_of_le hj hnl')).toNat from fun j hj => by
        by_cases hjn : j = n
        · subst hjn; exact hd
        · exact HB.out j (by omega))
      have HBN := Lib.hid hbn; have HNA := Lib.hid hnumat; clear hbn hnumat hbs hn10 hnl
      generalize hd0 : (s.1[n]).toNat = d at *
      clear hd0
      have HLEN := Lib.hid hlen; clear hlen
      by_cases hd : 127 < d
      · have ed : decide ((127 : Int) < (d : Int)) = true := decide_eq_true (by omega)
        have HBN' := Lib.hid (HBN.out hd)
        clear HNA HBN
        go_wp2
        go_quiet (first | (go_at_call 28; exact HL.out _ _))
        go_wp2
        go_roundw
        case rel => exact ⟨n + 1, _, by omega, by go_num, rfl, by omega, HBN'.out⟩
        case measure => simp [intOf] <;> omega
      · have ed : decide ((127 : Int) < (d : Int)) = false := decide_eq_false (by omega)
        have hna := HNA.out (by omega)
        clear HBN HNA
        by_cases h9 : n = 9
        · have e9 : ((n : Int) == 9) = true := by simp; omega
          have el9 : decide ((9 : Int) < (s.1.length : Int)) = true := decide_eq_true (by omega)
          subst h9
          have h9 : (9 : Nat) = 9 := rfl
          by_cases h1 : 1 < d
          · have e1 : decide ((1 : Int) < (d : Int)) = true := decide_eq_true (by omega)
            rw [if_pos ⟨h9, h1⟩] at hna
            have HN := Lib.hid (uintR_five (m := most) hna); clear hna
            go_wp2
            go_quiet (first | (go_at_call 28; exact HL.out _ _))
            go_wp2
            go_quiet (first | (go_at_call 28; exact HL.out _ _))
            go_wp2_with fail
            refine (HG.out _ 5).mono ?_
            rintro e w1 ⟨rfl, k1, k2⟩
            have K1 := Lib.hid k1; have K2 := Lib.hid k2; clear k1 k2
            go_wp2
            try go_ret
            exact HPOST.out _ _ _ HN.out K1.out K2.out
          · have e1 : decide ((1 : Int) < (d : Int)) = false := decide_eq_false (by omega)
            rw [if_neg (by omega)] at hna
            by_cases hd0 : d = 0
            · have ez : ((d : Int) == 0) = true := by simp; omega
              rw [if_pos ⟨hd0, by omega⟩] at hna
              have HN := Lib.hid (uintR_five (m := most) hna); clear hna
              clear hd0
              go_wp2
              go_quiet (first | (go_at_call 28; exact HL.out _ _))
              go_wp2
              go_quiet (first | (go_at_call 28; exact HL.out _ _))
              go_wp2_with (go_at_call 28; refine (HL0.out _).mono ?_; rintro e w' ⟨rfl, kk, rfl⟩)
              go_quiet (fail)
              go_wp2_with fail
              refine (HG.out _ 5).mono ?_
              rintro e w1 ⟨rfl, k1, k2⟩
              have K1 := Lib.hid k1; have K2 := Lib.hid k2; clear k1 k2
              go_wp2
              try go_ret
              exact HPOST.out _ _ _ HN.out K1.out K2.out
            · have ez : ((d : Int) == 0) = false := beq_eq_false_iff_ne.2 (by omega)
              rw [if_neg (by omega)] at hna
              have HNUM := Lib.hid hna; have HV := Lib.hid (num_ok hna).2.2; clear hna
              go_wp2
              go_quiet (first | (go_at_call 28; exact HL.out _ _))
              go_wp2
              go_quiet (first | (go_at_call 28; exact HL.out _ _))
              go_wp2_with (go_at_call 28; refine (HL0.out _).mono ?_; rintro e w' ⟨rfl, kk, rfl⟩)
              go_quiet (fail)
              go_wp2
              go_loopw [6, 7] (fun v ix wr => ∃ j kk : Nat, j ≤ 9 + 1 ∧ ix = .int .i64 ((j : Int) - 1) ∧ v = .int .u64 (dig ((s.1.take (9 + 1)).drop j) : Nat) ∧ wr = w.drewN kk) (fun _ ix _ => (intOf ix + 1).toNat)
              case atStart => exact ⟨9 + 1, _, Nat.le_refl _, by first | rfl | (congr 1; omega), by rw [List.drop_of_length_le (List.length_take_le _ _)]; rfl, by first | rfl | exact World.drewN_drewN _ _ _⟩
              case round =>
                obtain ⟨j, kk, hj, rfl, rfl, rfl⟩ := hrel
                cases j with
                | succ i =>
                  have e : ((i + 1 : Nat) : Int) - 1 = (i : Int) := by omega
                  rw [e]; clear e
                  have hil : i < (s.1.take (9 + 1)).length := by rw [List.length_take]; omega
                  have hs1 := dig_drop (s.1.take (9 + 1)) i hil
                  have hs2 := Nat.lt_of_le_of_lt (dig_drop_le (s.1.take (9 + 1)) i) HV.out
                  rw [hs1, List.getElem_take] at hs2
                  rw [List.getElem_take] at hs1
                  have HS1 := Lib.hid hs1; clear hs1
                  have hci := HCELL.out i (by omega)
                  have hx := (s.1[i]'(by omega)).toNat_lt
                  have hai : a + i < bs.length := by omega
                  generalize (s.1[i]'(by omega)).toNat = x at *
                  generalize dig ((s.1.take (9 + 1)).drop (i + 1)) = y at *
                  clear hil
                  go_wp2
                  go_quiet (fail)
                  go_wp2
                  go_roundw
                  case rel => exact ⟨i, _, by omega, rfl, by rw [HS1.out]; congr 1; omega, by first | rfl | exact World.drewN_drewN _ _ _⟩
                  case measure => simp [intOf] <;> omega
                | zero =>
                  have e : ((0 : Nat) : Int) - 1 = -1 := rfl
                  rw [e, List.drop_zero]; clear e
                  have hv := HV.out
                  by_cases hm1 : most < dig (s.1.take (9 + 1))
                  · have HN := Lib.hid (uintR_four (m := most) HNUM.out hm1)
                    generalize dig (s.1.take (9 + 1)) = y at *
                    go_wp2_with fail
                    refine (HG.out _ 4).mono ?_
                    rintro e w1 ⟨rfl, k1, k2⟩
                    have K1 := Lib.hid k1; have K2 := Lib.hid k2; clear k1 k2
                    go_wp2
                    try go_ret
                    exact HPOST.out _ _ _ HN.out K1.out K2.out
                  · have hok : ∀ kk : Nat, QP (.returned (.int .u64 (dig (s.1.take (9 + 1)) : Nat))) ((w.drewN kk).setCell ⟨q, 1, none⟩ (.int .i64 ((a : Int) + 9 + 1))) := fun kk => by
                      rw [← HQP.out, uintR_ok HNUM.out hm1]
                      refine ⟨rfl, (ext_drewN w kk).ch.trans (Ch.setCell (M := fun b => b = q) (Ch.refl _ _) (.inl rfl) _), ?_⟩
                      refine ⟨_, bs, a + 9 + 1, heap_setCell_same (w.drewN kk) q 1 _ _ _ HROW.out, ⟨(HRD.out.ext (ext_drewN w kk)).setCell (p := ⟨q, 1, none⟩) (u0 := .int .i64 (a : Nat)) (by simpa using C1.out) (noByte_i64 _) _, fun x l c hx => by cases hx; exact HST.out _ rfl⟩, by omega, ?_⟩
                      show s.1.drop (9 + 1) = if s.2 = 0 then bs.drop (a + 9 + 1) else []
                      rw [if_pos HZ.out, HS0.out, if_pos HZ.out, List.drop_drop] <;> rfl
                    have HOK := Lib.hid hok; clear hok
                    generalize dig (s.1.take (9 + 1)) = y at *
                    go_wp2
                    try go_ret
                    exact HOK.out _
        · have e9 : ((n : Int) == 9) = false := beq_eq_false_iff_ne.2 (by omega)
          rw [if_neg (by omega)] at hna
          by_cases hn0 : n = 0
          · have e0 : decide (0 < n) = false := decide_eq_false (by omega)
            rw [if_neg (by omega)] at hna
            have HNUM := Lib.hid hna; have HV := Lib.hid (num_ok hna).2.2; clear hna hn0
            go_wp2
            go_quiet (first | (go_at_call 28; exact HL.out _ _))
            go_wp2
            go_quiet (first | (go_at_call 28; exact HL.out _ _))
            go_wp2_with (go_at_call 28; refine (HL0.out _).mono ?_; rintro e w' ⟨rfl, kk, rfl⟩)
            go_quiet (fail)
            go_wp2
            go_loopw [6, 7] (fun v ix wr => ∃ j kk : Nat, j ≤ n + 1 ∧ ix = .int .i64 ((j : Int) - 1) ∧ v = .int .u64 (dig ((s.1.take (n + 1)).drop j) : Nat) ∧ wr = w.drewN kk) (fun _ ix _ => (intOf ix + 1).toNat)
            case atStart => exact ⟨n + 1, _, Nat.le_refl _, by first | rfl | (congr 1; omega), by rw [List.drop_of_length_le (List.length_take_le _ _)]; rfl, by first | rfl | exact World.drewN_drewN _ _ _⟩
            case round =>
              obtain ⟨j, kk, hj, rfl, rfl, rfl⟩ := hrel
              cases j with
              | succ i =>
                have e : ((i + 1 : Nat) : Int) - 1 = (i : Int) := by omega
                rw [e]; clear e
                have hil : i < (s.1.take (n + 1)).length := by rw [List.length_take]; omega
                have hs1 := dig_drop (s.1.take (n + 1)) i hil
                have hs2 := Nat.lt_of_le_of_lt (dig_drop_le (s.1.take (n + 1)) i) HV.out
                rw [hs1, List.getElem_take] at hs2
                rw [List.getElem_take] at hs1
                have HS1 := Lib.hid hs1; clear hs1
                have hci := HCELL.out i (by omega)
                have hx := (s.1[i]'(by omega)).toNat_lt
                have hai : a + i < bs.length := by omega
                generalize (s.1[i]'(by omega)).toNat = x at *
                generalize dig ((s.1.take (n + 1)).drop (i + 1)) = y at *
                clear hil
                go_wp2
                go_quiet (fail)
                go_wp2
                go_roundw
                case rel => exact ⟨i, _, by omega, rfl, by rw [HS1.out]; congr 1; omega, by first | rfl | exact World.drewN_drewN _ _ _⟩
                case measure => simp [intOf] <;> omega
              | zero =>
                have e : ((0 : Nat) : Int) - 1 = -1 := rfl
                rw [e, List.drop_zero]; clear e
                have hv := HV.out
                by_cases hm1 : most < dig (s.1.take (n + 1))
                · have HN := Lib.hid (uintR_four (m := most) HNUM.out hm1)
                  generalize dig (s.1.take (n + 1)) = y at *
                  go_wp2_with fail
                  refine (HG.out _ 4).mono ?_
                  rintro e w1 ⟨rfl, k1, k2⟩
                  have K1 := Lib.hid k1; have K2 := Lib.hid k2; clear k1 k2
                  go_wp2
                  try go_ret
                  exact HPOST.out _ _ _ HN.out K1.out K2.out
                · have hok : ∀ kk : Nat, QP (.returned (.int .u64 (dig (s.1.take (n + 1)) : Nat))) ((w.drewN kk).setCell ⟨q, 1, none⟩ (.int .i64 ((a : Int) + n + 1))) := fun kk => by
                    rw [← HQP.out, uintR_ok HNUM.out hm1]
                    refine ⟨rfl, (ext_drewN w kk).ch.trans (Ch.setCell (M := fun b => b = q) (Ch.refl _ _) (.inl rfl) _), ?_⟩
                    refine ⟨_, bs, a + n + 1, heap_setCell_same (w.drewN kk) q 1 _ _ _ HROW.out, ⟨(HRD.out.ext (ext_drewN w kk)).setCell (p := ⟨q, 1, none⟩) (u0 := .int .i64 (a : Nat)) (by simpa using C1.out) (noByte_i64 _) _, fun x l c hx => by cases hx; exact HST.out _ rfl⟩, by omega, ?_⟩
                    show s.1.drop (n + 1) = if s.2 = 0 then bs.drop (a + n + 1) else []
                    rw [if_pos HZ.out, HS0.out, if_pos HZ.out, List.drop_drop] <;> rfl
                  have HOK := Lib.hid hok; clear hok
                  generalize dig (s.1.take (n + 1)) = y at *
                  go_wp2
                  try go_ret
                  exact HOK.out _
          · have e0 : decide (0 < n) = true := decide_eq_true (by omega)
            by_cases hd0 : d = 0
            · have ez : ((d : Int) == 0) = true := by simp; omega
              rw [if_pos ⟨hd0, by omega⟩] at hna
              have HN := Lib.hid (uintR_five (m := most) hna); clear hna
              clear hd0
              go_wp2
              go_quiet (first | (go_at_call 28; exact HL.out _ _))
              go_wp2
              go_quiet (first | (go_at_call 28; exact HL.out _ _))
              go_wp2_with (go_at_call 28; refine (HL0.out _).mono ?_; rintro e w' ⟨rfl, kk, rfl⟩)
              go_quiet (fail)
              go_wp2_with fail
              refine (HG.out _ 5).mono ?_
              rintro e w1 ⟨rfl, k1, k2⟩
              have K1 := Lib.hid k1; have K2 := Lib.hid k2; clear k1 k2
              go_wp2
              try go_ret
              exact HPOST.out _ _ _ HN.out K1.out K2.out
            · have ez : ((d : Int) == 0) = false := beq_eq_false_iff_ne.2 (by omega)
              rw [if_neg (by omega)] at hna
              have HNUM := Lib.hid hna; have HV := Lib.hid (num_ok hna).2.2; clear hna
              go_wp2
              go_quiet (first | (go_at_call 28; exact HL.out _ _))
              go_wp2
              go_quiet (first | (go_at_call 28; exact HL.out _ _))
              go_wp2_with (go_at_call 28; refine (HL0.out _).mono ?_; rintro e w' ⟨rfl, kk, rfl⟩)
              go_quiet (fail)
              go_wp2
              go_loopw [6, 7] (fun v ix wr => ∃ j kk : Nat, j ≤ n + 1 ∧ ix = .int .i64 ((j : Int) - 1) ∧ v = .int .u64 (dig ((s.1.take (n + 1)).drop j) : Nat) ∧ wr = w.drewN kk) (fun _ ix _ => (intOf ix + 1).toNat)
              case atStart => exact ⟨n + 1, _, Nat.le_refl _, by first | rfl | (congr 1; omega), by rw [List.drop_of_length_le (List.length_take_le _ _)]; rfl, by first | rfl | exact World.drewN_drewN _ _ _⟩
              case round =>
                obtain ⟨j, kk, hj, rfl, rfl, rfl⟩ := hrel
                cases j with
                | succ i =>
                  have e : ((i + 1 : Nat) : Int) - 1 = (i : Int) := by omega
                  rw [e]; clear e
                  have hil : i < (s.1.take (n + 1)).length := by rw [List.length_take]; omega
                  have hs1 := dig_drop (s.1.take (n + 1)) i hil
                  have hs2 := Nat.lt_of_le_of_lt (dig_drop_le (s.1.take (n + 1)) i) HV.out
                  rw [hs1, List.getElem_take] at hs2
                  rw [List.getElem_take] at hs1
                  have HS1 := Lib.hid hs1; clear hs1
                  have hci := HCELL.out i (by omega)
                  have hx := (s.1[i]'(by omega)).toNat_lt
                  have hai : a + i < bs.length := by omega
                  generalize (s.1[i]'(by omega)).toNat = x at *
                  generalize dig ((s.1.take (n + 1)).drop (i + 1)) = y at *
                  clear hil
                  go_wp2
                  go_quiet (fail)
                  go_wp2
                  go_roundw
                  case rel => exact ⟨i, _, by omega, rfl, by rw [HS1.out]; congr 1; omega, by first | rfl | exact World.drewN_drewN _ _ _⟩
                  case measure => simp [intOf] <;> omega
                | zero =>
                  have e : ((0 : Nat) : Int) - 1 = -1 := rfl
                  rw [e, List.drop_zero]; clear e
                  have hv := HV.out
                  by_cases hm1 : most < dig (s.1.take (n + 1))
                  · have HN := Lib.hid (uintR_four (m := most) HNUM.out hm1)
                    generalize dig (s.1.take (n + 1)) = y at *
                    go_wp2_with fail
                    refine (HG.out _ 4).mono ?_
                    rintro e w1 ⟨rfl, k1, k2⟩
                    have K1 := Lib.hid k1; have K2 := Lib.hid k2; clear k1 k2
                    go_wp2
                    try go_ret
                    exact HPOST.out _ _ _ HN.out K1.out K2.out
                  · have hok : ∀ kk : Nat, QP (.returned (.int .u64 (dig (s.1.take (n + 1)) : Nat))) ((w.drewN kk).setCell ⟨q, 1, none⟩ (.int .i64 ((a : Int) + n + 1))) := fun kk => by
                      rw [← HQP.out, uintR_ok HNUM.out hm1]
                      refine ⟨rfl, (ext_drewN w kk).ch.trans (Ch.setCell (M := fun b => b = q) (Ch.refl _ _) (.inl rfl) _), ?_⟩
                      refine ⟨_, bs, a + n + 1, heap_setCell_same (w.drewN kk) q 1 _ _ _ HROW.out, ⟨(HRD.out.ext (ext_drewN w kk)).setCell (p := ⟨q, 1, none⟩) (u0 := .int .i64 (a : Nat)) (by simpa using C1.out) (noByte_i64 _) _, fun x l c hx => by cases hx; exact HST.out _ rfl⟩, by omega, ?_⟩
                      show s.1.drop (n + 1) = if s.2 = 0 then bs.drop (a + n + 1) else []
                      rw [if_pos HZ.out, HS0.out, if_pos HZ.out, List.drop_drop] <;> rfl
                    have HOK := Lib.hid hok; clear hok
                    generalize dig (s.1.take (n + 1)) = y at *
                    go_wp2
                    try go_ret
                    exact HOK.out _
end Go.Proofs.Yteechmgcjfnjbaa
