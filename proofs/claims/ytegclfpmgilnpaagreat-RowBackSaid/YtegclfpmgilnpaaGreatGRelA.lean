import Derived.Test.YtegclfpmgilnpaaGreatGLib
import Derived.Test.YtegclfpmgilnpaaGreatGVal
import Derived.Deep.MidRow
import Derived.RangeFuncNested
import Derived.RangeFuncBound
import Derived.RangeFuncCalls
import Derived.RangeFuncLeaves
import Derived.Shelf.Abstract
import Derived.Shelf.RegionOpen
import Derived.WalkKit
import Derived.OwnWalkIn
import Derived.TacticsInMore
import Derived.LoopNIn
import Derived.LoopIn
import Derived.RangeFuncBox
namespace Go.Proofs.YtegclfpmgilnpaaGreat
open Go.RowKit Go.Lac
def okN (k c : Nat) : Prop := (97 ≤ c ∧ c ≤ 122) ∨ (0 < k ∧ ((48 ≤ c ∧ c ≤ 57) ∨ c = 95))
instance (k c : Nat) : Decidable (okN k c) := by unfold okN; exact inferInstance
def NameOk (t : List UInt8) : Prop := 1 ≤ t.length ∧ t.length ≤ 31 ∧ ∀ k (h : k < t.length), okN k t[k].toNat
instance (t : List UInt8) : Decidable (NameOk t) := by unfold NameOk; exact inferInstance
set_option maxRecDepth 20000 in
theorem isLetter_any (b : Nat) (w : World) :
    Calls Tryz.prog 71 #[.int .u8 (b : Nat)] w fun e w' => e = .returned (.bool (decide (97 ≤ b ∧ b ≤ 122))) ∧ w = w' := by
  by_cases h1 : 97 ≤ b
  · by_cases h2 : b ≤ 122
    · rw [decide_eq_true ⟨h1, h2⟩]
      go_enter Tryz.func71, Tryz.ntmps71
      go_wp2
      go_ret
      exact ⟨by simp; omega, rfl⟩
    · rw [decide_eq_false (fun h => h2 h.2)]
      have h3 : 122 < b := by omega
      clear h2
      go_enter Tryz.func71, Tryz.ntmps71
      go_wp2
      go_ret
      exact ⟨by simp; omega, rfl⟩
  · rw [decide_eq_false (fun h => h1 h.1)]
    have h3 : b < 97 := by omega
    clear h1
    go_enter Tryz.func71, Tryz.ntmps71
    go_wp2
    go_ret
    exact ⟨rfl, rfl⟩
set_option maxRecDepth 20000 in
theorem isDigit_any (b : Nat) (w : World) :
    Calls Tryz.prog 72 #[.int .u8 (b : Nat)] w fun e w' => e = .returned (.bool (decide (48 ≤ b ∧ b ≤ 57))) ∧ w = w' := by
  by_cases h1 : 48 ≤ b
  · by_cases h2 : b ≤ 57
    · rw [decide_eq_true ⟨h1, h2⟩]
      go_enter Tryz.func72, Tryz.ntmps72
      go_wp2
      go_ret
      exact ⟨by simp; omega, rfl⟩
    · rw [decide_eq_false (fun h => h2 h.2)]
      have h3 : 57 < b := by omega
      clear h2
      go_enter Tryz.func72, Tryz.ntmps72
      go_wp2
      go_ret
      exact ⟨by simp; omega, rfl⟩
  · rw [decide_eq_false (fun h => h1 h.1)]
    have h3 : b < 48 := by omega
    clear h1
    go_enter Tryz.func72, Tryz.ntmps72
    go_wp2
    go_ret
    exact ⟨rfl, rfl⟩
def cmpN (a b : Nat) : Int := if a < b then -1 else if b < a then 1 else 0
theorem NameOk.bad {t : List UInt8} {k : Nat} (h : k < t.length) (hb : ¬ okN k t[k].toNat) : ¬ NameOk t := fun ⟨_, _, g⟩ => hb (g k h)
set_option maxRecDepth 20000 in
set_option maxHeartbeats 1600000 in
theorem named_any (t : List UInt8) (w : World) (hl : t.length ≤ 9223372036854775807) :
    Calls Tryz.prog 57 #[strV t] w fun e w' => e = .returned (.bool (decide (NameOk t))) ∧ w = w' := by
  have hidx : Hid (∀ k (h : k < t.length), (Instr.index 9 (.string ⟨t.toArray⟩) (.int .i64 (k : Nat))).run Tryz.prog w = .ok (.int .u8 (t[k].toNat : Nat)) w) := Lib.hid fun k h => run_strAt t k h w
  have hs : (⟨t.toArray⟩ : ByteArray).size = t.length := by simp [ByteArray.size]
  have HT : Hid ((NameOk t → decide (NameOk t) = true) ∧ (¬ NameOk t → decide (NameOk t) = false)) := Lib.hid ⟨decide_eq_true, decide_eq_false⟩
  have HB : Hid (∀ k (h : k < t.length), ¬ okN k t[k].toNat → ¬ NameOk t) := Lib.hid fun k h hb => NameOk.bad h hb
  have HL : Hid (NameOk t ↔ 1 ≤ t.length ∧ t.length ≤ 31 ∧ ∀ k (h : k < t.length), okN k t[k].toNat) := Lib.hid Iff.rfl
  generalize decide (NameOk t) = D at *
  unfold strV
  generalize (⟨t.toArray⟩ : ByteArray) = A at *
  by_cases h0 : t.length < 1
  · have hD : D = false := HT.out.2 (fun h => by have := (HL.out.1 h).1; omega)
    rw [hD]
    clear HB HL HT hidx
    generalize t.length = n at *
    go_enter Tryz.func57, Tryz.ntmps57
    go_wp2
    go_ret
    exact ⟨rfl, rfl⟩
  by_cases h1 : 31 < t.length
  · have hD : D = false := HT.out.2 (fun h => by have := (HL.out.1 h).2.1; omega)
    rw [hD]
    clear HB HL HT hidx
    generalize t.length = n at *
    go_enter Tryz.func57, Tryz.ntmps57
    go_wp2
    go_ret
    exact ⟨rfl, rfl⟩
  have h0' : 1 ≤ t.length := by omega
  have h1' : t.length ≤ 31 := by omega
  clear h0 h1
  go_enter Tryz.func57, Tryz.ntmps57
  go_wp2
  go_loop [3] (fun ix => ∃ k : Nat, k ≤ t.length ∧ ix = .int .i64 k ∧ Hid (∀ j (h : j < t.length), j < k → okN j t[j].toNat)) (fun ix => t.length - (intOf ix).toNat)
  case atStart => exact ⟨0, Nat.zero_le _, rfl, Lib.hid fun j h hj => absurd hj (Nat.not_lt_zero _)⟩
  case round =>
    obtain ⟨k, hk, rfl, HP⟩ := hrel
    by_cases hlt : k < t.length
    · have hi := hidx.out k hlt
      have HBk := Lib.hid (HB.out k hlt)
      have HN : Hid (okN k t[k].toNat → ∀ j (h : j < t.length), j < k + 1 → okN j t[j].toNat) := Lib.hid fun hok j h hj => by
        by_cases hjk : j < k
        · exact HP.out j h hjk
        · have : j = k := by omega
          subst this
          exact hok
      generalize t[k].toNat = c at *
      by_cases hok : okN k c
      · have HF := Lib.hid (HN.out hok)
        clear HN HBk
        unfold okN at hok
        rcases hok with ⟨a1, a2⟩ | ⟨hk0, ⟨a1, a2⟩ | a1⟩
        · go_wp2
          go_round
          case rel => exact ⟨k + 1, by omega, by simp, HF.out⟩
          case measure => simp [intOf]; omega
        · have a3 : c < 97 := by omega
          go_wp2
          go_round
          case rel => exact ⟨k + 1, by omega, by simp, HF.out⟩
          case measure => simp [intOf]; omega
        · subst a1
          go_wp2
          go_round
          case rel => exact ⟨k + 1, by omega, by simp, HF.out⟩
          case measure => simp [intOf]; omega
      · have hD : D = false := HT.out.2 (HBk.out hok)
        have HD := Lib.hid hD
        clear HN HBk hD
        have h97 : c < 97 ∨ 122 < c := by unfold okN at hok; omega
        by_cases hk0 : 0 < k
        · have hx : ¬ (48 ≤ c ∧ c ≤ 57) ∧ c ≠ 95 := by unfold okN at hok; omega
          have e95 : (((c : Nat) : Int) == 95) = false := by simp; omega
          have hy : c < 48 ∨ 57 < c := by omega
          clear hok
          rcases h97 with h97 | h97 <;> rcases hy with hy | hy <;> first
            | (exfalso; omega)
            | (clear hx
               go_wp2
               go_ret
               exact ⟨by rw [HD.out]; rfl, rfl⟩)
        · have ek : decide ((0 : Int) < (k : Int)) = false := decide_eq_false (by omega)
          clear hok
          rcases h97 with h97 | h97
          · go_wp2
            go_ret
            exact ⟨by rw [HD.out]; rfl, rfl⟩
          · go_wp2
            go_ret
            exact ⟨by rw [HD.out]; rfl, rfl⟩
    · obtain rfl : k = t.length := by omega
      have hD : D = true := HT.out.1 (HL.out.2 ⟨h0', h1', fun j h => HP.out j h h⟩)
      have HD := Lib.hid hD
      clear hD
      go_wp2
      go_ret
      exact ⟨by rw [HD.out]; rfl, rfl⟩
set_option maxRecDepth 20000 in
set_option maxHeartbeats 1600000 in
theorem isName_any (t : List UInt8) (w : World) (hl : t.length ≤ 9223372036854775807) :
    Calls Tryz.prog 48 #[strV t] w fun e w' => e = .returned (.bool (decide (NameOk t))) ∧ w = w' := by
  have hidx : Hid (∀ k (h : k < t.length), (Instr.index 9 (.string ⟨t.toArray⟩) (.int .i64 (k : Nat))).run Tryz.prog w = .ok (.int .u8 (t[k].toNat : Nat)) w) := Lib.hid fun k h => run_strAt t k h w
  have hs : (⟨t.toArray⟩ : ByteArray).size = t.length := by simp [ByteArray.size]
  have HT : Hid ((NameOk t → decide (NameOk t) = true) ∧ (¬ NameOk t → decide (NameOk t) = false)) := Lib.hid ⟨decide_eq_true, decide_eq_false⟩
  have HB : Hid (∀ k (h : k < t.length), ¬ okN k t[k].toNat → ¬ NameOk t) := Lib.hid fun k h hb => NameOk.bad h hb
  have HL : Hid (NameOk t ↔ 1 ≤ t.length ∧ t.length ≤ 31 ∧ ∀ k (h : k < t.length), okN k t[k].toNat) := Lib.hid Iff.rfl
  have HLE := Lib.hid isLetter_any; have HDI := Lib.hid isDigit_any
  generalize decide (NameOk t) = D at *
  by_cases h0 : t = []
  · have hD : D = false := HT.out.2 (fun h => by have := (HL.out.1 h).1; rw [h0] at this; simp at this)
    rw [hD, h0]
    clear HB HL HT hidx hs h0
    unfold strV
    go_enter Tryz.func48, Tryz.ntmps48
    go_wp2
    go_ret
    exact ⟨rfl, rfl⟩
  have hq : (⟨t.toArray⟩ : ByteArray).toList.isEmpty = false := by
    have := toList_beq t []
    rw [decide_eq_false h0] at this
    simpa using this
  have h0' : 0 < t.length := List.length_pos_iff.2 h0
  unfold strV
  clear h0
  generalize (⟨t.toArray⟩ : ByteArray) = A at *
  by_cases h1 : 31 < t.length
  · have hD : D = false := HT.out.2 (fun h => by have := (HL.out.1 h).2.1; omega)
    rw [hD]
    clear HB HL HT hidx
    generalize t.length = n at *
    go_enter Tryz.func48, Tryz.ntmps48
    go_wp2
    go_ret
    exact ⟨rfl, rfl⟩
  have h1' : t.length ≤ 31 := by omega
  clear h1
  have hi0 : (Instr.index 9 (.string A) (.int .i64 0)).run Tryz.prog w = .ok (.int .u8 (t[0].toNat : Nat)) w := hidx.out 0 h0'
  by_cases hf : 97 ≤ t[0].toNat ∧ t[0].toNat ≤ 122
  case neg =>
    have hD : D = false := HT.out.2 (HB.out 0 h0' (by unfold okN; omega))
    rw [hD]
    have HL0 : Hid (∀ w, Calls Tryz.prog 71 #[.int .u8 (t[0].toNat : Nat)] w fun e w' => e = .returned (.bool false) ∧ w = w') := Lib.hid fun w => by have := isLetter_any t[0].toNat w; rwa [decide_eq_false hf] at this
    clear hf HT HB HL hidx
    generalize t[0].toNat = c0 at *
    generalize t.length = n at *
    go_enter Tryz.func48, Tryz.ntmps48
    go_wp2_with (go_at_call 71; refine (HL0.out _).mono ?_; rintro e w' ⟨rfl, rfl⟩)
    go_ret
    exact ⟨rfl, rfl⟩
  have HL0 : Hid (∀ w, Calls Tryz.prog 71 #[.int .u8 (t[0].toNat : Nat)] w fun e w' => e = .returned (.bool true) ∧ w = w') := Lib.hid fun w => by have := isLetter_any t[0].toNat w; rwa [decide_eq_true hf] at this
  have HF0 : Hid (∀ k (h : k < t.length), ¬ 0 < k → 97 ≤ t[k].toNat ∧ t[k].toNat ≤ 122) := Lib.hid fun k h hk => by
    have : k = 0 := by omega
    subst this
    exact hf
  clear hf
  generalize t[0].toNat = c0 at *
  go_enter Tryz.func48, Tryz.ntmps48
  go_wp2_with (go_at_call 71; refine (HL0.out _).mono ?_; rintro e w' ⟨rfl, rfl⟩)
  clear hi0 HL0 hq
  go_loop [19] (fun ix => ∃ k : Nat, k ≤ t.length ∧ ix = .int .i64 k ∧ Hid (∀ j (h : j < t.length), j < k → okN j t[j].toNat)) (fun ix => t.length - (intOf ix).toNat)
  case atStart => exact ⟨0, Nat.zero_le _, rfl, Lib.hid fun j h hj => absurd hj (Nat.not_lt_zero _)⟩
  case round =>
    obtain ⟨k, hk, rfl, HP⟩ := hrel
    by_cases hlt : k < t.length
    · have hi := hidx.out k hlt
      have HBk := Lib.hid (HB.out k hlt)
      have HFk := Lib.hid (HF0.out k hlt)
      have HN : Hid (okN k t[k].toNat → ∀ j (h : j < t.length), j < k + 1 → okN j t[j].toNat) := Lib.hid fun hok j h hj => by
        by_cases hjk : j < k
        · exact HP.out j h hjk
        · have : j = k := by omega
          subst this
          exact hok
      generalize t[k].toNat = c at *
      have HLk := Lib.hid (fun w => isLetter_any c w)
      have HDk := Lib.hid (fun w => isDigit_any c w)
      by_cases h97 : 97 ≤ c ∧ c ≤ 122
      · have HF := Lib.hid (HN.out (.inl h97))
        rw [decide_eq_true h97] at HLk
        clear HN HBk HFk h97
        go_wp2_with (go_at_call 71; refine (HLk.out _).mono ?_; rintro e w' ⟨rfl, rfl⟩)
        go_round
        case rel => exact ⟨k + 1, by omega, by simp, HF.out⟩
        case measure => simp [intOf]; omega
      rw [decide_eq_false h97] at HLk
      have hk0 : 0 < k := Decidable.byContradiction fun h => h97 (HFk.out h)
      by_cases h48 : 48 ≤ c ∧ c ≤ 57
      · have HF := Lib.hid (HN.out (.inr ⟨hk0, .inl h48⟩))
        rw [decide_eq_true h48] at HDk
        clear HN HBk HFk h97 h48
        go_wp2_with (first
          | (go_at_call 71; refine (HLk.out _).mono ?_; rintro e w' ⟨rfl, rfl⟩)
          | (go_at_call 72; refine (HDk.out _).mono ?_; rintro e w' ⟨rfl, rfl⟩))
        go_round
        case rel => exact ⟨k + 1, by omega, by simp, HF.out⟩
        case measure => simp [intOf]; omega
      rw [decide_eq_false h48] at HDk
      by_cases h95 : c = 95
      · have HF := Lib.hid (HN.out (.inr ⟨hk0, .inr h95⟩))
        have e95 : (((c : Nat) : Int) != 95) = false := by rw [h95]; rfl
        clear HN HBk HFk h97 h48 h95
        go_wp2_with (first
          | (go_at_call 71; refine (HLk.out _).mono ?_; rintro e w' ⟨rfl, rfl⟩)
          | (go_at_call 72; refine (HDk.out _).mono ?_; rintro e w' ⟨rfl, rfl⟩))
        go_round
        case rel => exact ⟨k + 1, by omega, by simp, HF.out⟩
        case measure => simp [intOf]; omega
      · have hD : D = false := HT.out.2 (HBk.out (by unfold okN; omega))
        have HD := Lib.hid hD
        have e95 : (((c : Nat) : Int) != 95) = true := by simp; omega
        clear HN HBk HFk h97 h48 h95 hD
        go_wp2_with (first
          | (go_at_call 71; refine (HLk.out _).mono ?_; rintro e w' ⟨rfl, rfl⟩)
          | (go_at_call 72; refine (HDk.out _).mono ?_; rintro e w' ⟨rfl, rfl⟩))
        go_ret
        exact ⟨by rw [HD.out]; rfl, rfl⟩
    · obtain rfl : k = t.length := by omega
      have hD : D = true := HT.out.1 (HL.out.2 ⟨h0', h1', fun j h => HP.out j h h⟩)
      have HD := Lib.hid hD
      clear hD
      go_wp2
      go_ret
      exact ⟨by rw [HD.out]; rfl, rfl⟩
end Go.Proofs.YtegclfpmgilnpaaGreat
namespace Go.Proofs.YtegclfpmgilnpaaGreat
open Go.RowKit Go.Lac
structure Col where
  name : List UInt8
  ty : Nat
  key : Bool
deriving DecidableEq
structure Rl where
  oid : Nat
  ver : Nat
  name : List UInt8
  ident : Nat
  cols : List Col
deriving DecidableEq
def Rl.zero : Rl := ⟨0, 0, [], 0, []⟩
def Col.ok (c : Col) : Prop := c.ty < 256
def Rl.ok (r : Rl) : Prop := r.oid < 4294967296 ∧ r.ver < 4294967296 ∧ r.ident < 256 ∧ ∀ c ∈ r.cols, c.ok
def colErr (ahead : List Col) (c : Col) : Nat :=
  if ¬ NameOk c.name then 3 else if ∃ o ∈ ahead, o.name = c.name then 9 else if c.ty < 1 ∨ 6 < c.ty then 11 else 0
def colsErr (ahead : List Col) : List Col → Nat
  | [] => 0
  | c :: l => if colErr ahead c ≠ 0 then colErr ahead c else colsErr (ahead ++ [c]) l
def rlErr (r : Rl) : Nat :=
  if r.oid = 0 ∨ r.ver = 0 then 4 else if ¬ NameOk r.name then 3 else if 2 < r.ident then 7
  else if r.cols.length = 0 ∨ 16 < r.cols.length then 17 else if colsErr [] r.cols ≠ 0 then colsErr [] r.cols
  else if r.ident = 1 ∧ ¬ (∃ c ∈ r.cols, c.key = true) then 13 else 0
def colForm (c : Col) : Nat := if c.key = true then c.ty + 128 else c.ty
def colB (c : Col) : List UInt8 := txt c.name ++ [UInt8.ofNat (colForm c)]
def rlBytes (r : Rl) : List UInt8 := sev r.oid ++ sev r.ver ++ txt r.name ++ [UInt8.ofNat r.ident] ++ sev r.cols.length ++ r.cols.flatMap colB
def colR (s : RS) : Col × RS := (⟨(textR 31 s).1, (byteR (textR 31 s).2).1 % 128, decide (128 ≤ (byteR (textR 31 s).2).1)⟩, (byteR (textR 31 s).2).2)
def colsR : Nat → RS → List Col × RS
  | 0, s => ([], s)
  | n + 1, s => ((colR s).1 :: (colsR n (colR s).2).1, (colsR n (colR s).2).2)
def rl1 (s : RS) : Nat × RS := uintR 4294967295 s
def rlR (s : RS) : Rl × RS :=
  (⟨(rl1 s).1, (rl1 (rl1 s).2).1, (textR 31 (rl1 (rl1 s).2).2).1, (byteR (textR 31 (rl1 (rl1 s).2).2).2).1,
    (colsR (uintR 16 (byteR (textR 31 (rl1 (rl1 s).2).2).2).2).1 (uintR 16 (byteR (textR 31 (rl1 (rl1 s).2).2).2).2).2).1⟩,
    (colsR (uintR 16 (byteR (textR 31 (rl1 (rl1 s).2).2).2).2).1 (uintR 16 (byteR (textR 31 (rl1 (rl1 s).2).2).2).2).2).2)
def rlDec (b : List UInt8) : Rl × Int :=
  if endR (rlR (b, 0)).2 ≠ 0 then (.zero, endR (rlR (b, 0)).2) else if rlErr (rlR (b, 0)).1 ≠ 0 then (.zero, (rlErr (rlR (b, 0)).1 : Nat)) else ((rlR (b, 0)).1, 0)
theorem colErr_zero {ahead : List Col} {c : Col} (h : colErr ahead c = 0) : NameOk c.name ∧ 1 ≤ c.ty ∧ c.ty ≤ 6 := by
  unfold colErr at h
  split at h
  · cases h
  rename_i h1
  split at h
  · cases h
  split at h
  · cases h
  rename_i h3
  exact ⟨Decidable.byContradiction h1, by omega, by omega⟩
theorem colsErr_zero : ∀ (l ahead : List Col), colsErr ahead l = 0 → ∀ c ∈ l, NameOk c.name ∧ 1 ≤ c.ty ∧ c.ty ≤ 6
  | [], _, _, c, hc => by cases hc
  | x :: l, ahead, h, c, hc => by
    unfold colsErr at h
    split at h
    · rename_i h1; exact absurd h h1
    · rename_i h1
      rcases List.mem_cons.1 hc with rfl | hc
      · exact colErr_zero (ahead := ahead) (by omega)
      · exact colsErr_zero l _ h c hc
theorem rlErr_zero {r : Rl} (h : rlErr r = 0) : r.oid ≠ 0 ∧ r.ver ≠ 0 ∧ NameOk r.name ∧ r.ident ≤ 2 ∧ 1 ≤ r.cols.length ∧ r.cols.length ≤ 16 ∧ colsErr [] r.cols = 0 ∧ (r.ident = 1 → ∃ c ∈ r.cols, c.key = true) := by
  unfold rlErr at h
  split at h
  · cases h
  rename_i h1
  split at h
  · cases h
  rename_i h2
  split at h
  · cases h
  rename_i h3
  split at h
  · cases h
  rename_i h4
  split at h
  · rename_i h5; exact absurd h h5
  rename_i h5
  split at h
  · cases h
  rename_i h6
  exact ⟨fun e => h1 (.inl e), fun e => h1 (.inr e), Decidable.byContradiction h2, by omega, by omega, by omega, by omega, fun e => Decidable.byContradiction fun g => h6 ⟨e, g⟩⟩
end Go.Proofs.YtegclfpmgilnpaaGreat
namespace Go.Proofs.YtegclfpmgilnpaaGreat
open Go.RowKit Go.Lac
def colv (c : Col) : Array Value := #[strV c.name, .int .u8 (c.ty : Nat), .bool c.key]
def pcol (c : Col) : Value := .agg (colv c)
theorem infoCo : (Tryz.prog.info? 93).map (·.size) = some 3 := by kernel_rfl
theorem bits_128 : ∀ b : Fin 256, bits BinOp.andNot IntKind.u8 ((b.val : Nat) : Int) 128 = ((b.val % 128 : Nat) : Int) ∧ bits BinOp.and IntKind.u8 ((b.val : Nat) : Int) 128 = ((if 128 ≤ b.val then 128 else 0 : Nat) : Int) ∧ (b.val < 128 → bits BinOp.or IntKind.u8 ((b.val : Nat) : Int) 128 = ((b.val + 128 : Nat) : Int)) := by decide +kernel
theorem or128 {b : Nat} (h : b < 128) : bits BinOp.or IntKind.u8 (b : Int) 128 = ((b + 128 : Nat) : Int) := (bits_128 ⟨b, by omega⟩).2.2 h
end Go.Proofs.YtegclfpmgilnpaaGreat
namespace Go.Proofs.YtegclfpmgilnpaaGreat
open Go.RowKit Go.Lac
def orN (a b : Int) : Int := if a ≠ 0 then a else b
def Kn.two (x y : Int) : Kn := ⟨fun v w => ∃ g, v = .slice (some ⟨g, 0, none⟩) 2 2 ∧ w.heap[g]? = some (.cells #[.int .i64 x, .int .i64 y] 3 (0, 0)), fun _ _ _ k ⟨g, h1, h2⟩ => ⟨g, h1, heap_of_ext k h2⟩⟩
def cmpT (g1 g2 a1 a2 b1 b2 : Nat) : Tmp → Kn
  | 5 => .is (.pointer (some ⟨g1, 0, none⟩))
  | 6 => .is (.int .u32 (a1 : Nat))
  | 7 => .is (.pointer (some ⟨g2, 0, none⟩))
  | 8 => .is (.int .u32 (b1 : Nat))
  | 9 => .is (.int .i64 (cmpN a1 b1))
  | 10 => .is (.pointer (some ⟨g1, 1, none⟩))
  | 11 => .is (.int .u32 (a2 : Nat))
  | 12 => .is (.pointer (some ⟨g2, 1, none⟩))
  | 13 => .is (.int .u32 (b2 : Nat))
  | 14 => .is (.int .i64 (cmpN a2 b2))
  | 15 => Kn.two (cmpN a1 b1) (cmpN a2 b2)
  | 16 => .is (.int .i64 (orN (cmpN a1 b1) (cmpN a2 b2)))
  | 4 => .is (.int .i64 (orN (cmpN a1 b1) (cmpN a2 b2)))
  | _ => .any
end Go.Proofs.YtegclfpmgilnpaaGreat
namespace Go.Proofs.YtegclfpmgilnpaaGreat
open Go.RowKit Go.Lac
def colC (l : List Col) : List Value := l.flatMap fun c => (colv c).toList
def ColS (w : World) (v : Value) (l : List Col) : Prop := Sl w v l.length (colC l)
theorem colC_length : ∀ l : List Col, (colC l).length = l.length * 3
  | [] => rfl
  | c :: l => by
    have := colC_length l
    unfold colC at *
    rw [List.flatMap_cons, List.length_append, this]
    simp [colv]; omega
theorem colC_one (l : List Col) : ∀ u ∈ colC l, u.oneCell' = true := by
  intro u hu
  obtain ⟨c, _, hc⟩ := List.mem_flatMap.1 hu
  simp [colv, strV] at hc
  rcases hc with rfl | rfl | rfl <;> rfl
theorem infoCoZ : (Tryz.prog.info? 93).map (fun i => (i.zero, i.size, i.bytes)) = some (some (.agg #[.string ⟨#[]⟩, .int .u8 0, .bool false]), 3, 24) := by kernel_rfl
theorem emptyCo (w : World) : (Instr.buildSlice 41 0 #[]).run Tryz.prog w = .ok (.slice (some ⟨w.heap.size, 0, none⟩) 0 0) (w.alloc (.cells #[] 93)) := by kernel_rfl
def CloPost (l : List Col) (w : World) (e : Ending) (w' : World) : Prop := ∃ v, e = .returned v ∧ Ext w w' ∧ w'.ownsRow w.heap.size 93 3 v l.length (colC l)
set_option maxRecDepth 20000 in
set_option maxHeartbeats 1600000 in
theorem cloneCo_any (v : Value) (l : List Col) (w : World) (hb : ColS w v l) (hl : l.length ≤ 1000000) :
    Calls Tryz.prog 99 #[v] w (CloPost l w) := by
  obtain ⟨i, hi, hz, hs, hby⟩ := info_parts infoCoZ
  have HB := Lib.hid hb
  obtain ⟨ao, cap, hv, h1, h2, h3, h4⟩ := hb
  subst hv
  cases ao with
  | none =>
    obtain rfl : cap = 0 := h3 rfl
    have hbs : l = [] := List.eq_nil_of_length_eq_zero (by omega)
    subst hbs
    clear h1 h2 h3 h4
    have hnil := Lib.run_eql_slice_nil (P := Tryz.prog) w 41 93 none 0 0 0 0 Tryz.underlying41
    go_enter Tryz.func99, Tryz.ntmps99
    go_wp2
    go_ret
    exact ⟨_, rfl, Ch.refl _ _, World.ownsRow_nil _ _ _ _⟩
  | some x =>
    clear h3 h4 h1 h2
    have hx : Ext w (w.alloc (.cells #[] 93)) := (Ch.refl _ _).alloc _
    have HO := Lib.hid (World.ownsRow_lit (base := w.heap.size) (e := 93) (size := 3) w #[] 0 (Nat.le_refl _) (Nat.zero_le _) rfl)
    have HX := Lib.hid hx
    have HL := Lib.hid hl
    have HE := Lib.hid emptyCo
    clear hx hl
    have hnil := Lib.run_eql_slice_nil (P := Tryz.prog) w 41 93 (some x) l.length cap 0 0 Tryz.underlying41
    have hempty := emptyCo w
    go_enter Tryz.func99, Tryz.ntmps99
    go_wp2_with (at_builtin; refine wpList_append_sl _ rfl _ _ 41 rfl w.heap.size 93 i (.agg #[.string ⟨#[]⟩, .int .u8 0, .bool false]) 3 24 Tryz.underlying41 hi hz hs hby rfl (by decide) _ _ _ rfl HO.out _ _ _ rfl (HB.out.ext HX.out) (colC_length l) (colC_one l) (by have := HL.out; omega) (by have := HL.out; unfold maxLen; omega) (by simp) ?_)
    intro v' w' hown hgrow
    have hfin : CloPost l w (.returned v') w' := ⟨v', rfl, HX.out.grown hgrow (fun k hk => by simp [Value.ownBlock] at hk; omega), by simpa using hown⟩
    have HF := Lib.hid hfin; clear hfin hown hgrow
    go_wp2
    go_ret
    exact HF.out
end Go.Proofs.YtegclfpmgilnpaaGreat
namespace Go.Proofs.YtegclfpmgilnpaaGreat
open Go.RowKit Go.Lac
theorem colS_at {w : World} {ao : Option Addr} {n cap : Nat} {l : List Col} (h : ColS w (.slice ao n cap) l) {j : Nat} (hj : j < l.length) :
    ∃ b o, ao = some ⟨b, o, none⟩ ∧ w.rangeAt b (o + j * 3) (colv l[j]).toList := by
  obtain ⟨ao', cap', e0, g1, g2, g3, g5⟩ := h
  cases e0
  have key : ∀ (l : List Col) (j : Nat) (hj : j < l.length) (q : Nat) (u : Value), (colv l[j]).toList[q]? = some u → (colC l)[j * 3 + q]? = some u := by
    intro l
    induction l with
    | nil => intro j hj; simp at hj
    | cons c l ih =>
      intro j hj q u hu
      cases j with
      | zero =>
        have hq : q < 3 := (List.getElem?_eq_some_iff.1 hu).1
        unfold colC
        rw [List.flatMap_cons, Nat.zero_mul, Nat.zero_add, List.getElem?_append_left (by simpa [colv] using hq)]
        exact hu
      | succ j =>
        have := ih j (by simpa using hj) q u (by simpa using hu)
        unfold colC at *
        rw [List.flatMap_cons, List.getElem?_append_right (by simp [colv]; omega)]
        rw [show (j + 1) * 3 + q - (colv c).toList.length = j * 3 + q by simp [colv]; omega]
        exact this
  cases ao with
  | none =>
    exfalso
    have := g3 rfl
    omega
  | some x =>
    obtain ⟨b, o, rfl, c0⟩ := g5 x rfl _ _ (key l j hj 0 _ rfl)
    refine ⟨b, o, rfl, fun q u hq => ?_⟩
    obtain ⟨b', o', e, c1⟩ := g5 ⟨b, o, none⟩ rfl _ _ (key l j hj q u hq)
    cases e
    rw [show o + j * 3 + q = o + (j * 3 + q) by omega]
    exact c1
set_option maxRecDepth 20000 in
set_option maxHeartbeats 800000 in
theorem sameName_any (x c : Col) (g : Nat) (w : World) (hg : w.heap[g]? = some (.cells (colv c) 93 (0, 0))) :
    Calls Tryz.prog 74 #[pcol x, .pointer (some ⟨g, 0, none⟩)] w fun e w' => e = .returned (.bool (decide (x.name = c.name))) ∧ Ext w w' := by
  have h1 := heap_alloc_new w (.cells (colv x) 93)
  obtain ⟨W, hW⟩ : ∃ W, W = w.alloc (.cells (colv x) 93) := ⟨_, rfl⟩
  have hx : Ext w W := by rw [hW]; exact (Ch.refl _ _).alloc _
  have d0 : W.cell? ⟨w.heap.size, 0, none⟩ = some (.string ⟨x.name.toArray⟩) := by rw [hW, cell_of_row _ _ _ _ _ _ h1]; rfl
  have d1 : W.cell? ⟨g, 0, none⟩ = some (.string ⟨c.name.toArray⟩) := by rw [cell_of_row _ _ _ _ _ _ (heap_of_ext hx hg)]; rfl
  have hq := toList_beq x.name c.name
  have HX := Lib.hid hx; have HW := Lib.hid hW
  rw [hW] at d0 d1
  clear h1 hx hW hg
  unfold pcol
  generalize colv x = cv at *
  generalize decide (x.name = c.name) = D at *
  generalize (⟨x.name.toArray⟩ : ByteArray) = A at *
  generalize (⟨c.name.toArray⟩ : ByteArray) = B at *
  go_enter Tryz.func74, Tryz.ntmps74
  go_wp2
  go_ret
  rw [← HW.out]
  exact ⟨by first | rfl | simp [hq], HX.out⟩
def closV (g : Nat) : Value := .func (.func 74) #[] #[.pointer (some ⟨g, 0, none⟩)]
set_option maxRecDepth 20000 in
set_option maxHeartbeats 1600000 in
theorem indexFunc_any (v : Value) (l : List Col) (g : Nat) (c : Col) (w : World) (hb : ColS w v l) (hg : w.heap[g]? = some (.cells (colv c) 93 (0, 0))) :
    Calls Tryz.prog 95 #[v, closV g] w fun e w' => (∃ n : Int, e = .returned (.int .i64 n) ∧ (0 ≤ n ↔ ∃ o ∈ l, o.name = c.name)) ∧ Ext w w' := by
  obtain ⟨ao, cap, rfl, hb'⟩ := id hb
  have HB := Lib.hid hb; have HG := Lib.hid hg
  have infoC := infoCoZ
  have hfs : ∃ i, Tryz.prog.info? 93 = some i ∧ i.size = 3 := by
    obtain ⟨i, h1, _, h3, _⟩ := info_parts infoCoZ
    exact ⟨i, h1, h3⟩
  obtain ⟨ci, chi, chs⟩ := hfs
  have CHI := Lib.hid chi; have CHS := Lib.hid chs
  obtain ⟨n, hn⟩ : ∃ n, n = l.length := ⟨_, rfl⟩
  rw [← hn] at HB ⊢
  have HN := Lib.hid hn
  have hn63 : n ≤ 9223372036854775807 := by have := hb'.1; have h2 := hb'.2.1; unfold maxLen at h2; omega
  clear hb hg hb' infoC chi chs hn
  unfold closV
  go_enter Tryz.func95, Tryz.ntmps95
  go_wp2
  go_loopw [8] (fun ix wr => ∃ k : Nat, k ≤ n ∧ ix = .int .i64 k ∧ Ext w wr ∧ Hid (∀ j (h : j < l.length), j < k → l[j].name ≠ c.name)) (fun ix _ => n - (intOf ix).toNat)
  case atStart => exact ⟨0, Nat.zero_le _, rfl, Ch.refl _ _, Lib.hid fun j h hj => absurd hj (Nat.not_lt_zero _)⟩
  case round =>
    obtain ⟨k, hk, rfl, hext, HP⟩ := hrel
    have HEXT := Lib.hid hext; clear hext
    by_cases hlt : k < n
    · have hkl : k < l.length := by have := HN.out; omega
      obtain ⟨b, o, rfl, hra⟩ := colS_at (HB.out.ext HEXT.out) hkl
      have hidx := run_indexSl wr Tryz.underlying41 CHI.out CHS.out b o n cap k hlt
      have c0 : wr.cell? ⟨b, o + k * 3, none⟩ = some (.string ⟨l[k].name.toArray⟩) := by have := hra 0 _ rfl; simpa [strV] using this
      have c1 : wr.cell? ⟨b, o + k * 3 + 1, none⟩ = some (.int .u8 (l[k].ty : Nat)) := hra 1 _ rfl
      have c2 : wr.cell? ⟨b, o + k * 3 + 2, none⟩ = some (.bool l[k].key) := hra 2 _ rfl
      clear hra
      obtain ⟨x, hx0⟩ : ∃ x, x = l[k] := ⟨_, rfl⟩
      have HXX : Hid (∀ h : k < l.length, l[k] = x) := Lib.hid fun _ => hx0.symm
      rw [← hx0] at c0 c1 c2
      clear hx0
      have HRN := Lib.hid (sameName_any x c g wr (heap_of_ext HEXT.out HG.out))
      have HPK : Hid (x.name ≠ c.name → ∀ j (h : j < l.length), j < k + 1 → l[j].name ≠ c.name) := Lib.hid fun hne j h hj => by
        by_cases hjk : j < k
        · exact HP.out j h hjk
        · have : j = k := by omega
          subst this
          rw [HXX.out h]
          exact hne
      have HIN : Hid (x.name = c.name → ∃ o ∈ l, o.name = c.name) := Lib.hid fun h => ⟨x, by rw [← HXX.out hkl]; exact List.getElem_mem hkl, h⟩
      have HLT := Lib.hid hlt
      have hn2 := HN.out
      by_cases hnm : x.name = c.name
      · rw [decide_eq_true hnm] at HRN
        have HI := Lib.hid (HIN.out hnm)
        clear hnm HPK HIN hn2
        go_wp2_with fail
        refine HRN.out.mono ?_
        rintro e w2 ⟨rfl, hx⟩
        have HX2 := Lib.hid (HEXT.out.trans hx)
        clear hx
        go_wp2
        go_ret
        exact ⟨⟨(k : Int), rfl, ⟨fun _ => HI.out, fun _ => by omega⟩⟩, HX2.out⟩
      · rw [decide_eq_false hnm] at HRN
        have HK := Lib.hid (HPK.out hnm)
        clear hnm HPK HIN hn2
        go_wp2_with fail
        refine HRN.out.mono ?_
        rintro e w2 ⟨rfl, hx⟩
        have HX2 := Lib.hid (HEXT.out.trans hx)
        clear hx
        go_wp2
        exact ⟨⟨k + 1, HLT.out, rfl, HX2.out, Lib.hid HK.out⟩, by simp only [intOf]; have := HLT.out; omega⟩
    · have hkn : k = n := by omega
      subst hkn
      have HNO : Hid (¬ ∃ o ∈ l, o.name = c.name) := Lib.hid fun ⟨o, ho, he⟩ => by
        obtain ⟨j, hj, rfl⟩ := List.mem_iff_getElem.1 ho
        exact HP.out j hj (by have := HN.out; omega) he
      go_wp2
      go_ret
      exact ⟨⟨-1, rfl, ⟨fun h => absurd h (by decide), fun h => absurd h HNO.out⟩⟩, HEXT.out⟩
set_option maxRecDepth 20000 in
set_option maxHeartbeats 800000 in
theorem contains_any (v : Value) (l : List Col) (g : Nat) (c : Col) (w : World) (hb : ColS w v l) (hg : w.heap[g]? = some (.cells (colv c) 93 (0, 0))) :
    Calls Tryz.prog 73 #[v, closV g] w fun e w' => e = .returned (.bool (decide (∃ o ∈ l, o.name = c.name))) ∧ Ext w w' := by
  have HI := Lib.hid (indexFunc_any v l g c w hb hg)
  obtain ⟨ao, cap, rfl, _⟩ := id hb
  have HP : Hid ((∃ o ∈ l, o.name = c.name) → decide (∃ o ∈ l, o.name = c.name) = true) := Lib.hid decide_eq_true
  have HN : Hid (¬ (∃ o ∈ l, o.name = c.name) → decide (∃ o ∈ l, o.name = c.name) = false) := Lib.hid decide_eq_false
  generalize decide (∃ o ∈ l, o.name = c.name) = D at *
  generalize l.length = n at *
  clear hb hg
  unfold closV at *
  go_enter Tryz.func73, Tryz.ntmps73
  go_wp2_with fail
  refine HI.out.mono ?_
  rintro e w2 ⟨⟨m, rfl, hm⟩, hx⟩
  have HX := Lib.hid hx; have HM := Lib.hid hm
  clear hx hm HI
  by_cases h0 : 0 ≤ m
  · have HD := Lib.hid (HP.out (HM.out.1 h0))
    go_wp2
    go_ret
    exact ⟨by rw [HD.out]; simp [h0], HX.out⟩
  · have HD := Lib.hid (HN.out (fun h => h0 (HM.out.2 h)))
    go_wp2
    go_ret
    exact ⟨by rw [HD.out]; simp [h0]; try omega, HX.out⟩
set_option maxRecDepth 20000 in
set_option maxHeartbeats 1600000 in
theorem colRight_any (c : Col) (v : Value) (l : List Col) (w : World) (hb : ColS w v l) (hn : c.name.length ≤ 9223372036854775807) :
    Calls Tryz.prog 49 #[pcol c, v] w fun e w' => e = .returned (.int .i64 (colErr l c : Nat)) ∧ Ext w w' := by
  have h1 := heap_alloc_new w (.cells (colv c) 93)
  obtain ⟨W, hW⟩ : ∃ W, W = w.alloc (.cells (colv c) 93) := ⟨_, rfl⟩
  have hx : Ext w W := by rw [hW]; exact (Ch.refl _ _).alloc _
  rw [← hW] at h1
  have HG := Lib.hid h1; have HX := Lib.hid hx; have HW := Lib.hid hW; have HB := Lib.hid (hb.ext hx)
  obtain ⟨ao, cap, rfl, _⟩ := id hb
  have d0 : W.cell? ⟨w.heap.size, 0, none⟩ = some (.string ⟨c.name.toArray⟩) := by rw [cell_of_row _ _ _ _ _ _ h1]; rfl
  have d1 : W.cell? ⟨w.heap.size, 1, none⟩ = some (.int .u8 (c.ty : Nat)) := by rw [cell_of_row _ _ _ _ _ _ h1]; rfl
  have HIN := Lib.hid (isName_any c.name W hn)
  have HCO := Lib.hid (contains_any (.slice ao l.length cap) l w.heap.size c W HB.out h1)
  have HVR := Lib.hid (fun w => vright_any ⟨c.ty, 0, 0, 0, []⟩ w)
  have HE : Hid ((¬ NameOk c.name → colErr l c = 3) ∧ (NameOk c.name → (∃ o ∈ l, o.name = c.name) → colErr l c = 9) ∧ (NameOk c.name → ¬ (∃ o ∈ l, o.name = c.name) → colErr l c = vErr ⟨c.ty, 0, 0, 0, []⟩)) := Lib.hid ⟨fun h => by unfold colErr; rw [if_pos h], fun h h' => by unfold colErr; rw [if_neg (by simpa using h), if_pos h'], fun h h' => by unfold colErr; rw [if_neg (by simpa using h), if_neg h', vErr_only]⟩
  rw [hW] at d0 d1
  generalize colErr l c = E at *
  generalize vErr ⟨c.ty, 0, 0, 0, []⟩ = V at *
  clear h1 hx hW hb hn
  have hbd := fun w => build61_1 w c.ty
  unfold pcol
  unfold strV at HIN
  unfold closV at HCO
  generalize (⟨c.name.toArray⟩ : ByteArray) = A at *
  generalize l.length = n at *
  generalize hcv : colv c = cv at *
  clear hcv
  by_cases hnm : NameOk c.name
  · rw [decide_eq_true hnm] at HIN
    by_cases hex : ∃ o ∈ l, o.name = c.name
    · rw [decide_eq_true hex] at HCO
      have HF := Lib.hid (HE.out.2.1 hnm hex)
      clear hnm hex HE
      go_enter Tryz.func49, Tryz.ntmps49
      go_wp2_with fail
      rw [← HW.out]
      refine HIN.out.mono ?_
      rintro e w' ⟨rfl, rfl⟩
      go_wp2_with fail
      refine HCO.out.mono ?_
      rintro e w2 ⟨rfl, hx⟩
      have HX2 := Lib.hid (HX.out.trans hx)
      clear hx
      go_wp2
      go_ret
      exact ⟨by rw [HF.out]; rfl, HX2.out⟩
    · rw [decide_eq_false hex] at HCO
      have HF := Lib.hid (HE.out.2.2 hnm hex)
      clear hnm hex HE
      go_enter Tryz.func49, Tryz.ntmps49
      go_wp2_with fail
      rw [← HW.out]
      refine HIN.out.mono ?_
      rintro e w' ⟨rfl, rfl⟩
      rw [← HW.out] at d0 d1
      go_wp2_with fail
      refine HCO.out.mono ?_
      rintro e w2 ⟨rfl, hx⟩
      have HX2 := Lib.hid (HX.out.trans hx)
      have d1 := hx.cell (p := ⟨w.heap.size, 1, none⟩) (fun f => f) _ d1
      clear hx d0
      go_wp2_with fail
      refine (HVR.out _).mono ?_
      rintro e w3 ⟨rfl, hx⟩
      have HX3 := Lib.hid (HX2.out.trans hx)
      clear hx
      go_wp2
      go_ret
      exact ⟨by rw [HF.out]; rfl, HX3.out⟩
  · rw [decide_eq_false hnm] at HIN
    have HF := Lib.hid (HE.out.1 hnm)
    clear hnm HE
    go_enter Tryz.func49, Tryz.ntmps49
    go_wp2_with fail
    rw [← HW.out]
    refine HIN.out.mono ?_
    rintro e w' ⟨rfl, rfl⟩
    go_wp2
    go_ret
    exact ⟨by rw [HF.out]; rfl, HX.out⟩
end Go.Proofs.YtegclfpmgilnpaaGreat
namespace Go.Proofs.YtegclfpmgilnpaaGreat
open Go.RowKit Go.Lac
def relv (r : Rl) (cv : Value) : Array Value := #[.int .u32 (r.oid : Nat), .int .u32 (r.ver : Nat), strV r.name, .int .u8 (r.ident : Nat), cv]
def KeysPost (l : List Col) (w : World) (e : Ending) (w' : World) : Prop :=
  ∃ g v, e = .returned (.func (.func 100) #[] #[.pointer (some ⟨g, 0, none⟩)]) ∧ Ext w w' ∧ w.heap.size ≤ g ∧ w'.heap[g]? = some (.cells #[v] 41 (0, 0)) ∧ ColS w' v l
theorem ColS.ext {w w' : World} {v : Value} {l : List Col} (h : ColS w v l) (k : Ext w w') : ColS w' v l := Sl.ext h k
set_option maxRecDepth 20000 in
set_option maxHeartbeats 1600000 in
theorem keys_any (r : Rl) (cv : Value) (w : World) (hb : ColS w cv r.cols) (hl : r.cols.length ≤ 1000000) :
    Calls Tryz.prog 76 #[.agg (relv r cv)] w (KeysPost r.cols w) := by
  have h1 := heap_alloc_new w (.cells (relv r cv) 43)
  obtain ⟨W, hW⟩ : ∃ W, W = w.alloc (.cells (relv r cv) 43) := ⟨_, rfl⟩
  have hx : Ext w W := by rw [hW]; exact (Ch.refl _ _).alloc _
  rw [← hW] at h1
  have HX := Lib.hid hx; have HW := Lib.hid hW; have HC := Lib.hid (hb.ext hx)
  have d4 : W.cell? ⟨w.heap.size, 4, none⟩ = some cv := by rw [cell_of_row _ _ _ _ _ _ h1]; rfl
  have HK := Lib.hid (cloneCo_any cv r.cols W HC.out hl)
  rw [hW] at d4
  obtain ⟨ao, cap, rfl, _⟩ := id hb
  clear h1 hx hW hb
  generalize relv r (.slice ao r.cols.length cap) = rv at *
  generalize r.cols = l at *
  go_enter Tryz.func76, Tryz.ntmps76
  go_wp2_with fail
  rw [← HW.out]
  refine HK.out.mono ?_
  rintro e w2 ⟨v, rfl, hx, ho⟩
  obtain ⟨vo, vc, rfl⟩ := owns_shape ho
  have HX2 := Lib.hid (HX.out.trans hx); have HO := Lib.hid (Sl.ofOwns ho)
  clear hx ho d4
  go_wp2
  go_ret
  exact ⟨w2.heap.size, _, rfl, HX2.out.alloc _, HX2.out.size, heap_alloc_new w2 _, ColS.ext HO.out ((Ch.refl _ _).alloc _)⟩
end Go.Proofs.YtegclfpmgilnpaaGreat
namespace Go.Proofs.YtegclfpmgilnpaaGreat
open Go.RowKit Go.Lac Go.Shelf
attribute [local go_sem] Oper.semAt_some
def kd : Nat → List Col → List (Nat × Col)
  | _, [] => []
  | k, c :: l => if c.key = true then (k, c) :: kd (k + 1) l else kd (k + 1) l
theorem kd_append : ∀ (a b : List Col) (k : Nat), kd k (a ++ b) = kd k a ++ kd (k + a.length) b
  | [], b, k => by simp [kd]
  | c :: a, b, k => by
    have := kd_append a b (k + 1)
    rw [List.cons_append, kd, kd, this, List.length_cons, show k + 1 + a.length = k + (a.length + 1) by omega]
    split <;> simp
theorem kd_take_succ (l : List Col) (j : Nat) (hj : j < l.length) : kd 0 (l.take (j + 1)) = kd 0 (l.take j) ++ (if l[j].key = true then [(j, l[j])] else []) := by
  rw [List.take_succ_eq_append_getElem hj, kd_append]
  congr 1
  simp only [List.length_take, Nat.zero_add, kd]
  rw [show min j l.length = j by omega]
theorem kd_length : ∀ (l : List Col) (k : Nat), (kd k l).length ≤ l.length
  | [], _ => Nat.le_refl _
  | c :: l, k => by
    have := kd_length l (k + 1)
    rw [kd]
    split <;> simp <;> omega
theorem kd_prefix (l : List Col) (j : Nat) : kd 0 (l.take j) <+: kd 0 l := by
  have := kd_append (l.take j) (l.drop j) 0
  rw [List.take_append_drop] at this
  exact ⟨_, this.symm⟩
theorem kd_mem {c : Col} : ∀ {l : List Col} (k : Nat), c ∈ l → c.key = true → ∃ j, (j, c) ∈ kd k l
  | x :: l, k, h, hk => by
    rw [kd]
    rcases List.mem_cons.1 h with rfl | h
    · exact ⟨k, by rw [if_pos hk]; exact List.mem_cons_self⟩
    · obtain ⟨j, hj⟩ := kd_mem (k + 1) h hk
      refine ⟨j, ?_⟩
      split
      · exact List.mem_cons_of_mem _ hj
      · exact hj
theorem mem_kd {x : Nat × Col} : ∀ {l : List Col} (k : Nat), x ∈ kd k l → x.2 ∈ l ∧ x.2.key = true
  | c :: l, k, h => by
    rw [kd] at h
    split at h
    · rename_i hc
      rcases List.mem_cons.1 h with rfl | h
      · exact ⟨List.mem_cons_self, hc⟩
      · have := mem_kd _ h; exact ⟨List.mem_cons_of_mem _ this.1, this.2⟩
    · have := mem_kd _ h; exact ⟨List.mem_cons_of_mem _ this.1, this.2⟩
def encK (x : Nat × Col) : Array Value := #[.int .i64 (x.1 : Int), pcol x.2]
def KeyG (g : Nat) : Array Value := #[.pointer (some ⟨g, 0, none⟩)]
set_option maxRecDepth 100000 in
set_option maxHeartbeats 2000000 in
theorem keysWalk_in (F : Fence) (n : Nat) (hF : F.fn 100) (hro : F.round = none) (hn : 1 ≤ n) (l g : Nat) (v : Value) (cs : List Col) (N : Nat → Prop) (J Jx : List (Nat × Col) → World → Prop) (W : World)
    (hg : W.heap[g]? = some (.cells #[v] 41 (0, 0))) (hS : ∀ W', Ch N W W' → ColS W' v cs) (hNb : ∀ k, W.heap.size ≤ k → N k)
    (hJ : AbidesFrom W.heap.size J)
    (hY : ∀ pre x W1, J pre W1 → pre.length < cs.length → YieldAt F (n - 1) Tryz.prog l (encK x) W1 fun e W' =>
      (e = .returned (.bool true) ∧ J (pre ++ [x]) W' ∧ Ch N W1 W') ∨ (e = .returned (.bool false) ∧ Jx (pre ++ [x]) W'))
    (h0 : J [] W) :
    CallsIn F n Tryz.prog 100 #[.func (.yield l) #[] #[], .pointer (some ⟨g, 0, none⟩)] W fun e W' => (∃ v, e = .returned v) ∧
      ((∃ ys, ys = kd 0 cs ∧ J ys W') ∨ (∃ pre, pre <+: kd 0 cs ∧ Jx pre W')) := by
  obtain ⟨ao, cap, rfl, hb'⟩ := hS W (Ch.refl _ _)
  have hcl : W.cell? ⟨g, 0, none⟩ = some (.slice ao cs.length cap) := by rw [cell_of_row _ _ _ _ _ _ hg]; rfl
  obtain ⟨ci, chi, _, chs, _⟩ := info_parts infoCoZ
  have CHI := Lib.hid chi; have CHS := Lib.hid chs
  have HS := Lib.hid hS; have HJ := Lib.hid hJ; have HY := Lib.hid hY; have H0 := Lib.hid h0; have HNB := Lib.hid hNb
  obtain ⟨m, hm⟩ : ∃ m, m = cs.length := ⟨_, rfl⟩
  have HM := Lib.hid hm
  have hm63 : m ≤ 9223372036854775807 := by have := hb'.1; have h2 := hb'.2.1; unfold maxLen at h2; omega
  rw [← hm] at hcl
  clear hg hS hJ hY h0 hb' chi chs hNb
  refine callsIn_of_wp Tryz.func100 rfl hF ?_ hro
  simp only [Tryz.ntmps100, List.size_toArray, List.length_cons, List.length_nil, Nat.reduceAdd, Nat.reduceSub, Array.replicate_succ, Array.replicate_zero, List.push_toArray, List.append_toArray, List.nil_append, List.cons_append]
  gi_wp2
  gi_loopw [7] (fun ix wr => ∃ k : Nat, k ≤ m ∧ ix = .int .i64 k ∧ Hid (J (kd 0 (cs.take k)) wr) ∧ Hid (Ch N W wr)) (fun ix _ => m - (intOf ix).toNat)
  case atStart => exact ⟨0, Nat.zero_le _, rfl, Lib.hid (by simpa [kd] using H0.out), Lib.hid (Ch.refl _ _)⟩
  case round =>
    obtain ⟨k, hk, rfl, HJs, HX⟩ := hrel
    by_cases hlt : k < m
    · have hkl : k < cs.length := by have := HM.out; omega
      have hcs := HS.out wr HX.out
      obtain ⟨b, o, rfl, hra⟩ := colS_at hcs hkl
      have hidx := run_indexSl wr Tryz.underlying41 CHI.out CHS.out b o m cap k hlt
      have c0 : wr.cell? ⟨b, o + k * 3, none⟩ = some (.string ⟨cs[k].name.toArray⟩) := by have := hra 0 _ rfl; simpa [strV] using this
      have c1 : wr.cell? ⟨b, o + k * 3 + 1, none⟩ = some (.int .u8 (cs[k].ty : Nat)) := hra 1 _ rfl
      have c2 : wr.cell? ⟨b, o + k * 3 + 2, none⟩ = some (.bool cs[k].key) := hra 2 _ rfl
      obtain ⟨x, hx⟩ : ∃ x, x = cs[k] := ⟨_, rfl⟩
      have hT := kd_take_succ cs k hkl
      rw [← hx] at c0 c1 c2 hT
      have HT := Lib.hid hT
      have hlen : (kd 0 (cs.take k)).length < cs.length := by have := kd_length (cs.take k) 0; rw [List.length_take] at this; omega
      have HL := Lib.hid hlen
      have hW1 : AbidesFrom W.heap.size J := HJ.out
      obtain ⟨W1, hW1⟩ : ∃ W1, W1 = wr.alloc (.cells (colv x) 93) := ⟨_, rfl⟩
      have HX1 : Hid (Ch N W W1) := Lib.hid (by rw [hW1]; exact HX.out.alloc _)
      have HJ1 : Hid (J (kd 0 (cs.take k)) W1) := Lib.hid (HJ.out _ _ _ none HJs.out (by rw [hW1]; exact World.grownBy_alloc _ _ _) (fun r e => by cases e))
      have HW1 := Lib.hid hW1
      have hrow := heap_alloc_new wr (.cells (colv x) 93)
      rw [← hW1] at hrow
      have HROW := Lib.hid hrow
      clear hra hT hlen hcs hx hW1 hrow
      cases hkey : x.key with
      | true =>
        rw [hkey] at c2
        have HN : Hid (kd 0 (cs.take (k + 1)) = kd 0 (cs.take k) ++ [(k, x)]) := Lib.hid (by rw [HT.out, if_pos hkey])
        obtain ⟨fn, tmps, assign, body, hy, hR⟩ := HY.out _ (k, x) W1 HJ1.out HL.out
        rw [HW1.out] at hy hR
        unfold encK pcol colv strV at hy
        unfold colv strV at hR
        dsimp only at hy hR
        rw [hkey] at hy hR
        have hxx := HX1.out
        rw [HW1.out] at hxx
        unfold colv strV at hxx
        rw [hkey] at hxx
        have HXX := Lib.hid hxx; clear hxx
        gi_wp2
        refine hR.mono ?_
        rintro e W3 (⟨rfl, hJ3, hk3⟩ | ⟨rfl, hJx3⟩)
        · have HJ3 := Lib.hid hJ3; have HK3 := Lib.hid (HXX.out.trans hk3)
          clear hJ3 hk3 hy hR
          gi_wp2
          go_roundw
          case rel => exact ⟨k + 1, by omega, by simp, Lib.hid (by rw [HN.out]; exact HJ3.out), HK3⟩
          case measure => simp [intOf]; omega
        · have HJ3 := Lib.hid hJx3
          clear hJx3 hy hR
          gi_wp2
          refine bodyPost_ret (results_none rfl _ _ _) rfl ?_
          exact ⟨⟨_, rfl⟩, .inr ⟨_, by have := kd_prefix cs (k + 1); rwa [HN.out] at this, HJ3.out⟩⟩
      | false =>
        rw [hkey] at c2
        have HN : Hid (kd 0 (cs.take (k + 1)) = kd 0 (cs.take k)) := Lib.hid (by rw [HT.out, if_neg (by rw [hkey]; decide), List.append_nil])
        gi_wp2
        refine ⟨fun _ h => (by cases h), ?_⟩
        gi_wp2
        go_roundw
        case rel => exact ⟨k + 1, by omega, by simp, Lib.hid (by have := HJ1.out; rw [HW1.out] at this; unfold colv strV at this; rw [hkey] at this; rw [HN.out]; exact this), Lib.hid (by have := HX1.out; rw [HW1.out] at this; unfold colv strV at this; rw [hkey] at this; exact this)⟩
        case measure => simp [intOf]; omega
    · obtain rfl : k = m := by omega
      gi_wp2
      go_end0
      exact ⟨⟨_, rfl⟩, .inl ⟨_, rfl, by have := HJs.out; rwa [HM.out, List.take_length] at this⟩⟩
theorem keys_stops (F : Fence) (n : Nat) (hF : F.fn 100) (hro : F.round = none) (hn : 1 ≤ n) (g : Nat) (v : Value) (cs : List Col) (N : Nat → Prop) (w : World)
    (hg : w.heap[g]? = some (.cells #[v] 41 (0, 0))) (hgN : ¬ N g) (hS : ∀ W', Ch N w W' → ColS W' v cs) (hNb : ∀ k, w.heap.size ≤ k → N k) :
    SeqStopsK F n Tryz.prog 100 #[.pointer (some ⟨g, 0, none⟩)] encK (Ch N) (fun ys => ys = kd 0 cs) (fun pre => pre <+: kd 0 cs) cs.length w := fun l J Jx W hW hJ hJx hY h0 => by
  have hx : Ext w W := Ext.ofBelow hW
  exact keysWalk_in F n hF hro hn l g v cs N J Jx W (heap_of_ext hx hg) (fun W' h => hS W' (hx.ch.trans h)) (fun k hk => hNb k (Nat.le_trans hx.size hk)) hJ hY h0
theorem chK_b {N : Nat → Prop} {w : World} (hN : ∀ k, w.heap.size ≤ k → N k) (W : World) (l : Nat) (o o' : Obj) (hl : w.heap.size ≤ l) (h : W.heap[l]? = some o) (_ : o.isCells = false) (_ : o.isWalk = false) : Ch N W (W.putObj l o') :=
  (Ch.refl N W).grown (grownBy_putObj' W l o') (fun k e => by cases e; exact .inl (hN _ hl))
set_option maxRecDepth 100000 in
set_option maxHeartbeats 2000000 in
theorem hasKey_any (r : Rl) (cv : Value) (w : World) (hb : ColS w cv r.cols) (hl : r.cols.length ≤ 1000000) :
    Calls Tryz.prog 50 #[.agg (relv r cv)] w fun e w' => e = .returned (.bool (decide (∃ c ∈ r.cols, c.key = true))) ∧ Ext w w' := by
  refine (callsIn_wide (n := 3)).1 ?_
  have hrow := heap_alloc2_old w (.cells (relv r cv) 43) (.cells #[.bool false] 4)
  have hres := heap_alloc2_new w (.cells (relv r cv) 43) (.cells #[.bool false] 4)
  obtain ⟨W0, hW0⟩ : ∃ W0, W0 = (w.alloc (.cells (relv r cv) 43)).alloc (.cells #[.bool false] 4) := ⟨_, rfl⟩
  have hx0 : Ext w W0 := by rw [hW0]; exact ((Ch.refl _ _).alloc _).alloc _
  rw [← hW0] at hrow hres
  have HK := Lib.hid (keys_any r cv W0 (ColS.ext hb hx0) hl)
  have HX0 := Lib.hid hx0; have HW0 := Lib.hid hW0; have HRES := Lib.hid hres
  obtain ⟨ao, cap, rfl, _⟩ := id hb
  refine callsIn_of_wp_marks Tryz.func50 rfl trivial ?_ rfl
  simp only [Tryz.ntmps50, List.size_toArray, List.length_cons, List.length_nil, Nat.reduceAdd, Nat.reduceSub, Array.replicate_succ, Array.replicate_zero, List.push_toArray, List.append_toArray, List.nil_append, List.cons_append]
  clear hrow hres hW0 hx0 hb
  unfold relv strV at *
  generalize (⟨r.name.toArray⟩ : ByteArray) = A1 at *
  generalize r.oid = o1 at *
  generalize r.ver = o2 at *
  generalize r.ident = o3 at *
  gi_wp2_with fail
  refine ⟨trivial, ?_⟩
  rw [← HW0.out]
  refine (callsIn_wide.2 HK.out).mono ?_
  rintro e w1 ⟨g, v, rfl, hx1, hg, hr, hc⟩
  have hB1 : Below w.heap.size w w1 := Ext.below (HX0.out.trans hx1)
  have hres : w1.cell? ⟨w.heap.size + 1, 0, none⟩ = some (.bool false) := by rw [cell_of_row w1 (w.heap.size + 1) 0 _ _ _ (heap_of_ext hx1 HRES.out)]; rfl
  have hfz := frozen_of_row w1 (w.heap.size + 1) 0 _ _ (heap_of_ext hx1 HRES.out)
  have hsz : w.heap.size + 2 ≤ w1.heap.size := by
    have := hx1.size
    have h2 := (Array.getElem?_eq_some_iff.1 HRES.out).1
    omega
  gi_wp2_with fail
  refine wpIn_rangeFunc_ownF rfl (by decide) (gf := 100) (lb := #[.pointer (some ⟨g, 0, none⟩)]) rfl trivial (enters_of Tryz.func100 (by kernel_rfl) rfl)
    (keys_stops Fence.wide (3 - 1) trivial rfl (by decide) g v r.cols (fun k => w1.heap.size ≤ k) w1 hr (by have := (Array.getElem?_eq_some_iff.1 hr).1; omega) (fun W' h => ColS.ext hc (h.mono fun k hk h => absurd h (by omega))) (fun k hk => hk)) (fun h k => h.trans k) (chK_b (fun k hk => hk)) (Below.refl _ _) (fun _ => rfl)
    (fun pre W => (pre = [] ∧ W.cell? ⟨w.heap.size + 1, 0, none⟩ = some (.bool false) ∧ W.frozen? ⟨w.heap.size + 1, 0, none⟩ = false) ∧ Below w.heap.size w W)
    (fun c pre W => (c = .ret ∧ pre ≠ [] ∧ W.cell? ⟨w.heap.size + 1, 0, none⟩ = some (.bool true)) ∧ Below w.heap.size w W)
    (OwnFrom.and (Own.from (fun s A B row hs hg hr => ⟨hs.1, cell_kept hs.2.1 hg hr, (frozen_kept hs.2.1 hg hr).trans hs.2.2⟩) _) (ownFrom_below (Nat.le_refl _) (by omega)))
    (fun c => OwnFrom.and (Own.from (fun s A B row hs hg hr => ⟨hs.1, hs.2.1, cell_kept hs.2.2 hg hr⟩) _) (ownFrom_below (Nat.le_refl _) (by omega)))
    ⟨⟨rfl, hres, hfz⟩, hB1⟩
    (fun x => { tmps := #[.agg #[.int .u32 (o1 : Nat), .int .u32 (o2 : Nat), .string A1, .int .u8 (o3 : Nat), .slice ao r.cols.length cap], .pointer (some ⟨w.heap.size, 0, none⟩), .pointer (some ⟨w.heap.size + 1, 0, none⟩), .agg #[.int .u32 (o1 : Nat), .int .u32 (o2 : Nat), .string A1, .int .u8 (o3 : Nat), .slice ao r.cols.length cap], .func (.func 100) #[] #[.pointer (some ⟨g, 0, none⟩)], .int .i64 (x.1 : Int), pcol x.2], defers := [] }) ?assign ?body ?done ?stop
  case assign =>
    intro l x W K hK
    unfold encK
    gi_wp2
    simpa using hK
  case body =>
    rintro l pre x W ⟨⟨hp, hc, hf⟩, hB⟩ _
    gi_wp2
    exact ⟨KeepsOthers.setCell _ _ _, ⟨rfl, by simp, World.cell?_setCell_same' _ _ _ (by rw [hc]; rfl)⟩, hB.setCell (p := ⟨w.heap.size + 1, 0, none⟩) (by simp) _⟩
  case done =>
    rintro D ys W hD rfl ⟨⟨hp, hc, hf⟩, hB⟩ hK
    have hno : decide (∃ c ∈ r.cols, c.key = true) = false := decide_eq_false fun ⟨c, h1, h2⟩ => by
      obtain ⟨j, hj⟩ := kd_mem 0 h1 h2
      rw [hp] at hj; cases hj
    gi_wp2
    have hK' := (KeepsOthers.setCell W ⟨w.heap.size + 1, 0, none⟩ (.bool false)).same D _ hK rfl
    refine ⟨by simp, .inl ⟨_, _, rfl, run_takeDeferred hK', ?_⟩⟩
    have hc5 := cell_kept (World.cell?_setCell_same' W ⟨w.heap.size + 1, 0, none⟩ (.bool false) (by rw [hc]; rfl)) (grownBy_putObj' _ D (.deferred none)) (fun r e => by cases e; exact ⟨_, hK', rfl⟩)
    refine ⟨.bool false, ?_, by rw [hno], ?_⟩
    · simp [results, Tryz.f50, go_sem, hc5]
    · exact Ext.ofBelow ((hB.setCell (p := ⟨w.heap.size + 1, 0, none⟩) (by simp) _).trans (belowK_b (w := w) (Nat.le_refl _) _ D _ _ (by omega) hK' rfl rfl))
  case stop =>
    rintro D c pre W hD hSp ⟨⟨rfl, hne, hc⟩, hB⟩ hK
    have hyes : decide (∃ c ∈ r.cols, c.key = true) = true := decide_eq_true (by
      obtain ⟨t, ht⟩ := hSp
      match pre, hne with
      | x :: pre, _ =>
        have := mem_kd (l := r.cols) (x := x) 0 (by rw [← ht]; simp)
        exact ⟨_, this⟩)
    gi_wp2
    refine ⟨by simp, .inl ⟨_, _, rfl, run_takeDeferred hK, ?_⟩⟩
    have hc5 := cell_kept hc (grownBy_putObj' _ D (.deferred none)) (fun r e => by cases e; exact ⟨_, hK, rfl⟩)
    refine ⟨.bool true, ?_, by rw [hyes], ?_⟩
    · simp [results, Tryz.f50, go_sem, hc5]
    · exact Ext.ofBelow (hB.trans (belowK_b (w := w) (Nat.le_refl _) _ D _ _ (by omega) hK rfl rfl))
end Go.Proofs.YtegclfpmgilnpaaGreat
namespace Go.Proofs.YtegclfpmgilnpaaGreat
open Go.RowKit Go.Lac
def CutAt (q : RS → RS) (e : List UInt8) : Prop := (∀ k, k < e.length → q (e.take k, 0) = ([], 1)) ∧ q ([], 1) = ([], 1)
theorem cut_seq {p q : RS → RS} {e1 e2 : List UInt8} (h1 : ∀ rest, p (e1 ++ rest, 0) = (rest, 0)) (c1 : CutAt p e1) (c2 : CutAt q e2) : CutAt (fun s => q (p s)) (e1 ++ e2) := by
  refine ⟨fun k hk => ?_, by show q (p ([], 1)) = _; rw [c1.2, c2.2]⟩
  show q (p ((e1 ++ e2).take k, 0)) = _
  by_cases h : k < e1.length
  · rw [List.take_append_of_le_length (by omega), c1.1 k h, c2.2]
  · rw [List.take_append, List.take_of_length_le (by omega), h1]
    rw [List.length_append] at hk
    exact c2.1 _ (by omega)
def lastR (s : RS) : RS := (colsR (uintR 16 s).1 (uintR 16 s).2).2
end Go.Proofs.YtegclfpmgilnpaaGreat
