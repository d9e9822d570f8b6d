/-
  Values: the program's and the document's; bits; texts that are plain.
-/
import Derived.Test.YtcejjckhhdgdnaaProg
import Derived.Test.YtcejjckhhdgdnaaLib
import Derived.Test.YtcejjckhhdgdnaaLibC
import Derived.Test.YtcejjckhhdgdnaaInfo
import Derived.Test.YtcejjckhhdgdnaaLibD
import Derived.Test.YtcejjckhhdgdnaaValM
import Derived.WalkKit
import Derived.WalkLawsBesides
import Derived.Lib.Hide
import Derived.Outline
namespace Go.Proofs.Ytcejjckhhdgdnaa
open Go.RowKit Go.Lac

/-- A value of the program; a value of the document. -/
def pvals (v : Val) : Array Value := #[.int .u8 (v.ty : Nat), .int .i64 v.i, .complex .f64 v.re v.im, strV v.t]
def pv (v : Val) : Value := .agg (pvals v)
def rvals (v : Val) : Array Value := #[.int .u8 (v.ty : Nat), .int .i64 v.i, .int .u64 (v.re : Nat), .int .u64 (v.im : Nat), strV v.t]
def rv (v : Val) : Value := .agg (rvals v)

theorem run_bits (b : Nat) (w : World) : (callFunc 106 #[.float .f64 b]).run Try.prog w = .ok (.value (.int .u64 (b : Nat))) w :=
  run_callFunc_extern Try.func106 (by kernel_rfl) (by kernel_rfl) (by kernel_rfl) (e := Extern.MathFloatBits.float64bits) (by kernel_rfl) _ w
set_option maxRecDepth 20000 in
set_option maxHeartbeats 400000 in
theorem bits_any (re im : Nat) (w : World) :
    Calls Try.prog 105 #[.complex .f64 re im] w fun e w' => e = .returned (.tuple #[.int .u64 (re : Nat), .int .u64 (im : Nat)]) ∧ w = w' := by
  have h1 := fun b => run_bits b w
  go_enter Try.func105, Try.ntmps105
  go_wp2
  refine bodyPost_ret (results_tmp2 rfl _ _ _) rfl ?_
  exact ⟨rfl, rfl⟩

set_option maxRecDepth 20000 in
set_option maxHeartbeats 400000 in
theorem isType_any (k : Nat) (w : World) :
    Calls Try.prog 98 #[.int .u8 (k : Nat)] w fun e w' => e = .returned (.bool (decide (1 ≤ k ∧ k ≤ 6))) ∧ w = w' := by
  by_cases h1 : k < 1
  · go_enter Try.func98, Try.ntmps98
    go_wp2
    go_ret
    refine ⟨?_, rfl⟩; simp; omega
  · have e : decide (1 ≤ k ∧ k ≤ 6) = decide ((k : Int) ≤ 6) := by rw [Bool.eq_iff_iff]; simp; omega
    rw [e]
    clear e
    go_enter Try.func98, Try.ntmps98
    go_wp2
    go_ret
    exact ⟨rfl, rfl⟩

/-! ### texts -/
def plainC (b : UInt8) : Bool := decide (32 ≤ b.toNat) && decide (b.toNat ≤ 126)
theorem plainB_all (t : List UInt8) : plainB t = t.all plainC := rfl
theorem plainB_bad {t : List UInt8} {k : Nat} (h : k < t.length) (hb : plainC t[k] = false) : plainB t = false := by
  rw [plainB_all, List.all_eq_false]
  exact ⟨t[k], List.getElem_mem _, by simp [hb]⟩
theorem plainB_next {t : List UInt8} {k : Nat} (h : k < t.length) (hp : (t.take k).all plainC = true) (hb : plainC t[k] = true) : (t.take (k + 1)).all plainC = true := by
  rw [List.take_succ_eq_append_getElem h, List.all_append, hp]
  simp [hb]
theorem run_strAt (t : List UInt8) (k : Nat) (h : k < t.length) (w : World) :
    (Instr.index 9 (.string ⟨t.toArray⟩) (.int .i64 (k : Nat))).run Try.prog w = .ok (.int .u8 (t[k].toNat : Nat)) w := by
  have hs : (⟨t.toArray⟩ : ByteArray).size = t.length := by simp [ByteArray.size]
  rw [run_index_string w _ _ _ _ Try.underlying9, dif_pos ⟨by omega, by rw [hs]; omega⟩]
  rfl

set_option maxRecDepth 20000 in
set_option maxHeartbeats 800000 in
theorem isText_any (t : List UInt8) (w : World) (hl : t.length ≤ 1099511627776) :
    Calls Try.prog 101 #[strV t] w fun e w' => e = .returned (.bool (plainB t)) ∧ w = w' := by
  have hidx : Hid (∀ k (h : k < t.length), (Instr.index 9 (.string ⟨t.toArray⟩) (.int .i64 (k : Nat))).run Try.prog w = .ok (.int .u8 (t[k].toNat : Nat)) w) := Lib.hid fun k h => run_strAt t k h w
  have hs : (⟨t.toArray⟩ : ByteArray).size = t.length := by simp [ByteArray.size]
  unfold strV
  generalize (⟨t.toArray⟩ : ByteArray) = A at *
  go_enter Try.func101, Try.ntmps101
  go_wp2
  go_loop [6] (fun ix => ∃ k : Nat, k ≤ t.length ∧ ix = .int .i64 k ∧ (t.take k).all plainC = true) (fun ix => t.length - (intOf ix).toNat)
  case atStart => exact ⟨0, Nat.zero_le _, rfl, rfl⟩
  case round =>
    obtain ⟨k, hk, rfl, hp⟩ := hrel
    have HP := Lib.hid hp; clear hp
    by_cases hlt : k < t.length
    · have hi := hidx.out k hlt
      have HB : Hid (plainC t[k] = false → plainB t = false) := Lib.hid (plainB_bad hlt)
      have HN : Hid (plainC t[k] = true → (t.take (k + 1)).all plainC = true) := Lib.hid (plainB_next hlt HP.out)
      have HC : Hid (plainC t[k] = (decide (32 ≤ t[k].toNat) && decide (t[k].toNat ≤ 126))) := Lib.hid rfl
      generalize t[k].toNat = c at *
      generalize plainC t[k] = pc at *
      by_cases h1 : c < 32
      · have HF : Hid (plainB t = false) := Lib.hid (HB.out (by rw [HC.out, decide_eq_false (by omega)]; rfl))
        clear HB HN HC
        go_wp2
        go_ret
        exact ⟨by rw [HF.out]; rfl, rfl⟩
      · by_cases h2 : 126 < c
        · have HF : Hid (plainB t = false) := Lib.hid (HB.out (by rw [HC.out, decide_eq_false (show ¬ c ≤ 126 by omega), Bool.and_false]))
          clear HB HN HC
          go_wp2
          go_ret
          exact ⟨by rw [HF.out]; rfl, rfl⟩
        · have HF := Lib.hid (HN.out (by rw [HC.out, decide_eq_true (by omega), decide_eq_true (by omega)]; rfl))
          have h3 : c ≤ 126 := by omega
          clear HB HN HC h2
          go_wp2
          go_round
          case rel => exact ⟨k + 1, by omega, by simp, HF.out⟩
          case measure => simp [intOf]; omega
    · obtain rfl : k = t.length := by omega
      have HF : Hid (plainB t = true) := Lib.hid (by have := HP.out; rwa [List.take_length] at this)
      go_wp2
      go_ret
      exact ⟨by rw [HF.out]; rfl, rfl⟩

end Go.Proofs.Ytcejjckhhdgdnaa
