/-
  Relations: letters, digits, names; numbers compared.
-/
import Derived.Test.YtcejjckhhdgdnaaLib
import Derived.Test.YtcejjckhhdgdnaaValA
namespace Go.Proofs.Ytcejjckhhdgdnaa
open Go.RowKit Go.Lac

def okN (k c : Nat) : Prop := (97 ≤ c ∧ c ≤ 122) ∨ (0 < k ∧ ((48 ≤ c ∧ c ≤ 57) ∨ c = 95))
instance (k c : Nat) : Decidable (okN k c) := by unfold okN; exact inferInstance
/-- A name. -/
def NameOk (t : List UInt8) : Prop := 1 ≤ t.length ∧ t.length ≤ 31 ∧ ∀ k (h : k < t.length), okN k t[k].toNat
instance (t : List UInt8) : Decidable (NameOk t) := by unfold NameOk; exact inferInstance

set_option maxRecDepth 20000 in
theorem isLetter_any (b : Nat) (w : World) :
    Calls Try.prog 76 #[.int .u8 (b : Nat)] w fun e w' => e = .returned (.bool (decide (97 ≤ b ∧ b ≤ 122))) ∧ w = w' := by
  by_cases h1 : 97 ≤ b
  · by_cases h2 : b ≤ 122
    · rw [decide_eq_true ⟨h1, h2⟩]
      go_enter Try.func76, Try.ntmps76
      go_wp2
      go_ret
      exact ⟨by simp; omega, rfl⟩
    · rw [decide_eq_false (fun h => h2 h.2)]
      have h3 : 122 < b := by omega
      clear h2
      go_enter Try.func76, Try.ntmps76
      go_wp2
      go_ret
      exact ⟨by simp; omega, rfl⟩
  · rw [decide_eq_false (fun h => h1 h.1)]
    have h3 : b < 97 := by omega
    clear h1
    go_enter Try.func76, Try.ntmps76
    go_wp2
    go_ret
    exact ⟨rfl, rfl⟩
set_option maxRecDepth 20000 in
theorem isDigit_any (b : Nat) (w : World) :
    Calls Try.prog 77 #[.int .u8 (b : Nat)] w fun e w' => e = .returned (.bool (decide (48 ≤ b ∧ b ≤ 57))) ∧ w = w' := by
  by_cases h1 : 48 ≤ b
  · by_cases h2 : b ≤ 57
    · rw [decide_eq_true ⟨h1, h2⟩]
      go_enter Try.func77, Try.ntmps77
      go_wp2
      go_ret
      exact ⟨by simp; omega, rfl⟩
    · rw [decide_eq_false (fun h => h2 h.2)]
      have h3 : 57 < b := by omega
      clear h2
      go_enter Try.func77, Try.ntmps77
      go_wp2
      go_ret
      exact ⟨by simp; omega, rfl⟩
  · rw [decide_eq_false (fun h => h1 h.1)]
    have h3 : b < 48 := by omega
    clear h1
    go_enter Try.func77, Try.ntmps77
    go_wp2
    go_ret
    exact ⟨rfl, rfl⟩
set_option maxRecDepth 20000 in
theorem isNaN_any (a : Int) (w : World) :
    Calls Try.prog 81 #[.int .u32 a] w fun e w' => e = .returned (.bool false) ∧ w = w' := by
  go_enter Try.func81, Try.ntmps81
  go_wp2
  go_ret
  exact ⟨by simp, rfl⟩
/-- -1, 0, 1. -/
def cmpN (a b : Nat) : Int := if a < b then -1 else if b < a then 1 else 0
set_option maxRecDepth 20000 in
theorem compare32_any (a b : Nat) (w : World) :
    Calls Try.prog 55 #[.int .u32 (a : Nat), .int .u32 (b : Nat)] w fun e w' => e = .returned (.int .i64 (cmpN a b)) ∧ w = w' := by
  have HN := Lib.hid isNaN_any
  unfold cmpN
  by_cases h1 : a < b
  · rw [if_pos h1]
    go_enter Try.func55, Try.ntmps55
    go_wp2_with (go_at_call 81; refine (HN.out _ _).mono ?_; rintro e w' ⟨rfl, rfl⟩)
    go_ret
    exact ⟨rfl, rfl⟩
  · rw [if_neg h1]
    by_cases h2 : b < a
    · rw [if_pos h2]
      have h3 : b ≤ a := by omega
      clear h1
      go_enter Try.func55, Try.ntmps55
      go_wp2_with (go_at_call 81; refine (HN.out _ _).mono ?_; rintro e w' ⟨rfl, rfl⟩)
      go_ret
      exact ⟨rfl, rfl⟩
    · rw [if_neg h2]
      have h3 : a = b := by omega
      subst h3
      clear h1 h2
      go_enter Try.func55, Try.ntmps55
      go_wp2_with (go_at_call 81; refine (HN.out _ _).mono ?_; rintro e w' ⟨rfl, rfl⟩)
      go_ret
      exact ⟨rfl, rfl⟩

theorem NameOk.bad {t : List UInt8} {k : Nat} (h : k < t.length) (hb : ¬ okN k t[k].toNat) : ¬ NameOk t := fun ⟨_, _, g⟩ => hb (g k h)
set_option maxRecDepth 20000 in
set_option maxHeartbeats 1600000 in
/-- The document's named. -/
theorem named_any (t : List UInt8) (w : World) (hl : t.length ≤ 9223372036854775807) :
    Calls Try.prog 75 #[strV t] w fun e w' => e = .returned (.bool (decide (NameOk t))) ∧ w = w' := by
  have hidx : Hid (∀ k (h : k < t.length), (Instr.index 9 (.string ⟨t.toArray⟩) (.int .i64 (k : Nat))).run Try.prog w = .ok (.int .u8 (t[k].toNat : Nat)) w) := Lib.hid fun k h => run_strAt t k h w
  have hs : (⟨t.toArray⟩ : ByteArray).size = t.length := by simp [ByteArray.size]
  have HT : Hid ((NameOk t → decide (NameOk t) = true) ∧ (¬ NameOk t → decide (NameOk t) = false)) := Lib.hid ⟨decide_eq_true, decide_eq_false⟩
  have HB : Hid (∀ k (h : k < t.length), ¬ okN k t[k].toNat → ¬ NameOk t) := Lib.hid fun k h hb => NameOk.bad h hb
  have HL : Hid (NameOk t ↔ 1 ≤ t.length ∧ t.length ≤ 31 ∧ ∀ k (h : k < t.length), okN k t[k].toNat) := Lib.hid Iff.rfl
  generalize decide (NameOk t) = D at *
  unfold strV
  generalize (⟨t.toArray⟩ : ByteArray) = A at *
  by_cases h0 : t.length < 1
  · have hD : D = false := HT.out.2 (fun h => by have := (HL.out.1 h).1; omega)
    rw [hD]
    clear HB HL HT hidx
    generalize t.length = n at *
    go_enter Try.func75, Try.ntmps75
    go_wp2
    go_ret
    exact ⟨rfl, rfl⟩
  by_cases h1 : 31 < t.length
  · have hD : D = false := HT.out.2 (fun h => by have := (HL.out.1 h).2.1; omega)
    rw [hD]
    clear HB HL HT hidx
    generalize t.length = n at *
    go_enter Try.func75, Try.ntmps75
    go_wp2
    go_ret
    exact ⟨rfl, rfl⟩
  have h0' : 1 ≤ t.length := by omega
  have h1' : t.length ≤ 31 := by omega
  clear h0 h1
  go_enter Try.func75, Try.ntmps75
  go_wp2
  go_loop [3] (fun ix => ∃ k : Nat, k ≤ t.length ∧ ix = .int .i64 k ∧ Hid (∀ j (h : j < t.length), j < k → okN j t[j].toNat)) (fun ix => t.length - (intOf ix).toNat)
  case atStart => exact ⟨0, Nat.zero_le _, rfl, Lib.hid fun j h hj => absurd hj (Nat.not_lt_zero _)⟩
  case round =>
    obtain ⟨k, hk, rfl, HP⟩ := hrel
    by_cases hlt : k < t.length
    · have hi := hidx.out k hlt
      have HBk := Lib.hid (HB.out k hlt)
      have HN : Hid (okN k t[k].toNat → ∀ j (h : j < t.length), j < k + 1 → okN j t[j].toNat) := Lib.hid fun hok j h hj => by
        by_cases hjk : j < k
        · exact HP.out j h hjk
        · have : j = k := by omega
          subst this
          exact hok
      generalize t[k].toNat = c at *
      by_cases hok : okN k c
      · have HF := Lib.hid (HN.out hok)
        clear HN HBk
        unfold okN at hok
        rcases hok with ⟨a1, a2⟩ | ⟨hk0, ⟨a1, a2⟩ | a1⟩
        · go_wp2
          go_round
          case rel => exact ⟨k + 1, by omega, by simp, HF.out⟩
          case measure => simp [intOf]; omega
        · have a3 : c < 97 := by omega
          go_wp2
          go_round
          case rel => exact ⟨k + 1, by omega, by simp, HF.out⟩
          case measure => simp [intOf]; omega
        · subst a1
          go_wp2
          go_round
          case rel => exact ⟨k + 1, by omega, by simp, HF.out⟩
          case measure => simp [intOf]; omega
      · have hD : D = false := HT.out.2 (HBk.out hok)
        have HD := Lib.hid hD
        clear HN HBk hD
        have h97 : c < 97 ∨ 122 < c := by unfold okN at hok; omega
        by_cases hk0 : 0 < k
        · have hx : ¬ (48 ≤ c ∧ c ≤ 57) ∧ c ≠ 95 := by unfold okN at hok; omega
          have e95 : (((c : Nat) : Int) == 95) = false := by simp; omega
          have hy : c < 48 ∨ 57 < c := by omega
          clear hok
          rcases h97 with h97 | h97 <;> rcases hy with hy | hy <;> first
            | (exfalso; omega)
            | (clear hx
               go_wp2
               go_ret
               exact ⟨by rw [HD.out]; rfl, rfl⟩)
        · have ek : decide ((0 : Int) < (k : Int)) = false := decide_eq_false (by omega)
          clear hok
          rcases h97 with h97 | h97
          · go_wp2
            go_ret
            exact ⟨by rw [HD.out]; rfl, rfl⟩
          · go_wp2
            go_ret
            exact ⟨by rw [HD.out]; rfl, rfl⟩
    · obtain rfl : k = t.length := by omega
      have hD : D = true := HT.out.1 (HL.out.2 ⟨h0', h1', fun j h => HP.out j h h⟩)
      have HD := Lib.hid hD
      clear hD
      go_wp2
      go_ret
      exact ⟨by rw [HD.out]; rfl, rfl⟩

set_option maxRecDepth 20000 in
set_option maxHeartbeats 1600000 in
/-- isName. -/
theorem isName_any (t : List UInt8) (w : World) (hl : t.length ≤ 9223372036854775807) :
    Calls Try.prog 50 #[strV t] w fun e w' => e = .returned (.bool (decide (NameOk t))) ∧ w = w' := by
  have hidx : Hid (∀ k (h : k < t.length), (Instr.index 9 (.string ⟨t.toArray⟩) (.int .i64 (k : Nat))).run Try.prog w = .ok (.int .u8 (t[k].toNat : Nat)) w) := Lib.hid fun k h => run_strAt t k h w
  have hs : (⟨t.toArray⟩ : ByteArray).size = t.length := by simp [ByteArray.size]
  have HT : Hid ((NameOk t → decide (NameOk t) = true) ∧ (¬ NameOk t → decide (NameOk t) = false)) := Lib.hid ⟨decide_eq_true, decide_eq_false⟩
  have HB : Hid (∀ k (h : k < t.length), ¬ okN k t[k].toNat → ¬ NameOk t) := Lib.hid fun k h hb => NameOk.bad h hb
  have HL : Hid (NameOk t ↔ 1 ≤ t.length ∧ t.length ≤ 31 ∧ ∀ k (h : k < t.length), okN k t[k].toNat) := Lib.hid Iff.rfl
  have HLE := Lib.hid isLetter_any; have HDI := Lib.hid isDigit_any
  generalize decide (NameOk t) = D at *
  by_cases h0 : t = []
  · have hD : D = false := HT.out.2 (fun h => by have := (HL.out.1 h).1; rw [h0] at this; simp at this)
    rw [hD, h0]
    clear HB HL HT hidx hs h0
    unfold strV
    go_enter Try.func50, Try.ntmps50
    go_wp2
    go_ret
    exact ⟨rfl, rfl⟩
  have hq : (⟨t.toArray⟩ : ByteArray).toList.isEmpty = false := by
    have := toList_beq t []
    rw [decide_eq_false h0] at this
    simpa using this
  have h0' : 0 < t.length := List.length_pos_iff.2 h0
  unfold strV
  clear h0
  generalize (⟨t.toArray⟩ : ByteArray) = A at *
  by_cases h1 : 31 < t.length
  · have hD : D = false := HT.out.2 (fun h => by have := (HL.out.1 h).2.1; omega)
    rw [hD]
    clear HB HL HT hidx
    generalize t.length = n at *
    go_enter Try.func50, Try.ntmps50
    go_wp2
    go_ret
    exact ⟨rfl, rfl⟩
  have h1' : t.length ≤ 31 := by omega
  clear h1
  have hi0 : (Instr.index 9 (.string A) (.int .i64 0)).run Try.prog w = .ok (.int .u8 (t[0].toNat : Nat)) w := hidx.out 0 h0'
  by_cases hf : 97 ≤ t[0].toNat ∧ t[0].toNat ≤ 122
  case neg =>
    have hD : D = false := HT.out.2 (HB.out 0 h0' (by unfold okN; omega))
    rw [hD]
    have HL0 : Hid (∀ w, Calls Try.prog 76 #[.int .u8 (t[0].toNat : Nat)] w fun e w' => e = .returned (.bool false) ∧ w = w') := Lib.hid fun w => by have := isLetter_any t[0].toNat w; rwa [decide_eq_false hf] at this
    clear hf HT HB HL hidx
    generalize t[0].toNat = c0 at *
    generalize t.length = n at *
    go_enter Try.func50, Try.ntmps50
    go_wp2_with (go_at_call 76; refine (HL0.out _).mono ?_; rintro e w' ⟨rfl, rfl⟩)
    go_ret
    exact ⟨rfl, rfl⟩
  have HL0 : Hid (∀ w, Calls Try.prog 76 #[.int .u8 (t[0].toNat : Nat)] w fun e w' => e = .returned (.bool true) ∧ w = w') := Lib.hid fun w => by have := isLetter_any t[0].toNat w; rwa [decide_eq_true hf] at this
  have HF0 : Hid (∀ k (h : k < t.length), ¬ 0 < k → 97 ≤ t[k].toNat ∧ t[k].toNat ≤ 122) := Lib.hid fun k h hk => by
    have : k = 0 := by omega
    subst this
    exact hf
  clear hf
  generalize t[0].toNat = c0 at *
  go_enter Try.func50, Try.ntmps50
  go_wp2_with (go_at_call 76; refine (HL0.out _).mono ?_; rintro e w' ⟨rfl, rfl⟩)
  clear hi0 HL0 hq
  go_loop [19] (fun ix => ∃ k : Nat, k ≤ t.length ∧ ix = .int .i64 k ∧ Hid (∀ j (h : j < t.length), j < k → okN j t[j].toNat)) (fun ix => t.length - (intOf ix).toNat)
  case atStart => exact ⟨0, Nat.zero_le _, rfl, Lib.hid fun j h hj => absurd hj (Nat.not_lt_zero _)⟩
  case round =>
    obtain ⟨k, hk, rfl, HP⟩ := hrel
    by_cases hlt : k < t.length
    · have hi := hidx.out k hlt
      have HBk := Lib.hid (HB.out k hlt)
      have HFk := Lib.hid (HF0.out k hlt)
      have HN : Hid (okN k t[k].toNat → ∀ j (h : j < t.length), j < k + 1 → okN j t[j].toNat) := Lib.hid fun hok j h hj => by
        by_cases hjk : j < k
        · exact HP.out j h hjk
        · have : j = k := by omega
          subst this
          exact hok
      generalize t[k].toNat = c at *
      have HLk := Lib.hid (fun w => isLetter_any c w)
      have HDk := Lib.hid (fun w => isDigit_any c w)
      by_cases h97 : 97 ≤ c ∧ c ≤ 122
      · have HF := Lib.hid (HN.out (.inl h97))
        rw [decide_eq_true h97] at HLk
        clear HN HBk HFk h97
        go_wp2_with (go_at_call 76; refine (HLk.out _).mono ?_; rintro e w' ⟨rfl, rfl⟩)
        go_round
        case rel => exact ⟨k + 1, by omega, by simp, HF.out⟩
        case measure => simp [intOf]; omega
      rw [decide_eq_false h97] at HLk
      have hk0 : 0 < k := Decidable.byContradiction fun h => h97 (HFk.out h)
      by_cases h48 : 48 ≤ c ∧ c ≤ 57
      · have HF := Lib.hid (HN.out (.inr ⟨hk0, .inl h48⟩))
        rw [decide_eq_true h48] at HDk
        clear HN HBk HFk h97 h48
        go_wp2_with (first
          | (go_at_call 76; refine (HLk.out _).mono ?_; rintro e w' ⟨rfl, rfl⟩)
          | (go_at_call 77; refine (HDk.out _).mono ?_; rintro e w' ⟨rfl, rfl⟩))
        go_round
        case rel => exact ⟨k + 1, by omega, by simp, HF.out⟩
        case measure => simp [intOf]; omega
      rw [decide_eq_false h48] at HDk
      by_cases h95 : c = 95
      · have HF := Lib.hid (HN.out (.inr ⟨hk0, .inr h95⟩))
        have e95 : (((c : Nat) : Int) != 95) = false := by rw [h95]; rfl
        clear HN HBk HFk h97 h48 h95
        go_wp2_with (first
          | (go_at_call 76; refine (HLk.out _).mono ?_; rintro e w' ⟨rfl, rfl⟩)
          | (go_at_call 77; refine (HDk.out _).mono ?_; rintro e w' ⟨rfl, rfl⟩))
        go_round
        case rel => exact ⟨k + 1, by omega, by simp, HF.out⟩
        case measure => simp [intOf]; omega
      · have hD : D = false := HT.out.2 (HBk.out (by unfold okN; omega))
        have HD := Lib.hid hD
        have e95 : (((c : Nat) : Int) != 95) = true := by simp; omega
        clear HN HBk HFk h97 h48 h95 hD
        go_wp2_with (first
          | (go_at_call 76; refine (HLk.out _).mono ?_; rintro e w' ⟨rfl, rfl⟩)
          | (go_at_call 77; refine (HDk.out _).mono ?_; rintro e w' ⟨rfl, rfl⟩))
        go_ret
        exact ⟨by rw [HD.out]; rfl, rfl⟩
    · obtain rfl : k = t.length := by omega
      have hD : D = true := HT.out.1 (HL.out.2 ⟨h0', h1', fun j h => HP.out j h h⟩)
      have HD := Lib.hid hD
      clear hD
      go_wp2
      go_ret
      exact ⟨by rw [HD.out]; rfl, rfl⟩
end Go.Proofs.Ytcejjckhhdgdnaa
