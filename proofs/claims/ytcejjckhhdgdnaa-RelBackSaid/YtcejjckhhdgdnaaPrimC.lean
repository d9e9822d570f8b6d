/-
  The number that bytes begin with (prim.number).
-/
import Derived.Test.YtcejjckhhdgdnaaProg
import Derived.Test.YtcejjckhhdgdnaaLib
import Derived.Test.YtcejjckhhdgdnaaPrimA
import Derived.WalkKit
import Derived.Lib.Hide
namespace Go.Proofs.Ytcejjckhhdgdnaa
open Go.RowKit Go.Lac

/-- The number that 'l' goes on with, n digits and v being there. -/
def numAt : Nat → Nat → List UInt8 → Nat × Nat × Int
  | _, _, [] => (0, 0, 1)
  | n, v, d :: l =>
    if n = 9 ∧ 1 < d.toNat then (0, 0, 5)
    else if 128 ≤ d.toNat then numAt (n + 1) (v + d.toNat % 128 * 128 ^ n) l
    else if d.toNat = 0 ∧ 0 < n then (0, 0, 5)
    else (v + d.toNat % 128 * 128 ^ n, n + 1, 0)

/-- The number that bytes begin with, how many sevens it has; an error's number. -/
def num (l : List UInt8) : Nat × Nat × Int := numAt 0 0 l

def NumPost (l : List UInt8) (w : World) (e : Ending) (w' : World) : Prop :=
  e = .returned (.tuple #[.int .u64 (num l).1, .int .i64 (num l).2.1, .int .i64 (num l).2.2]) ∧ w = w'

theorem cell_of_rd {w : World} {v : Value} {bs : List UInt8} (h : Rd w v bs) {ao : Option Addr} {cap : Nat} (hv : v = .slice ao bs.length cap) (h0 : 0 < bs.length) :
    ∃ b off, ao = some ⟨b, off, none⟩ ∧ bs.length ≤ cap ∧ cap ≤ maxLen ∧ ∀ j (hj : j < bs.length), w.cell? ⟨b, off + j, none⟩ = some (.int .u8 (bs[j].toNat : Int)) := by
  obtain ⟨ao', cap', e, h1, h2, h3, h4⟩ := h
  rw [hv] at e
  simp only [Value.slice.injEq, true_and] at e
  obtain ⟨rfl, rfl⟩ := e
  cases ao with
  | none => have := h3 rfl; omega
  | some x =>
    obtain ⟨b, off, rfl, _⟩ := h4 x rfl 0 (cellB bs[0]) (by simp [cellsB, h0])
    refine ⟨b, off, rfl, h1, h2, fun j hj => ?_⟩
    obtain ⟨b', off', e', h5⟩ := h4 _ rfl j (cellB bs[j]) (by simp [cellsB, hj])
    cases e'
    exact h5

theorem and127 (d : Nat) (h : d < 256) : bits .and .u8 (d : Int) 127 = ((d % 128 : Nat) : Int) := by
  have := u8_and_nat d 127 h (by omega)
  rw [show (127 : Int) = ((127 : Nat) : Int) from rfl, this]
  congr 1
  exact Nat.and_two_pow_sub_one_eq_mod d 7

theorem digit_eq {v d n : Nat} (hd : d < 256) (h1 : v < 128 ^ n) (h : v + d % 128 * 128 ^ n < 2 ^ 64) :
    bits .or .u64 (v : Int) (IntKind.u64.wrap (IntKind.u64.wrap (bits .and .u8 (d : Int) 127) * 2 ^ (7 * n))) = ((v + d % 128 * 128 ^ n : Nat) : Int) := by
  have hp : (128 : Nat) ^ n = 2 ^ (7 * n) := by rw [Nat.pow_mul]
  have e1 : ((d % 128 : Nat) : Int) * 2 ^ (7 * n) = ((d % 128 * 128 ^ n : Nat) : Int) := by
    rw [hp, Int.natCast_mul, Int.natCast_pow]; rfl
  rw [and127 d hd, wrap_u64_of (n := ((d % 128 : Nat) : Int)) (by omega) (by omega), e1, wrap_u64_of (n := ((d % 128 * 128 ^ n : Nat) : Int)) (by omega) (by omega), u64_or_nat _ _ (by omega) (by omega), Nat.or_comm, nat_join (7 * n) _ _ (by rw [hp]; exact Nat.mul_mod_left _ _) (by rw [← hp]; exact h1), Nat.add_comm]

set_option maxRecDepth 20000 in
set_option maxHeartbeats 1000000 in
theorem number_any (vb : Value) (l : List UInt8) (w : World) (hb : Rd w vb l) :
    Calls Try.prog 102 #[vb] w (NumPost l w) := by
  have HB := Lib.hid hb
  obtain ⟨ao, cap, rfl⟩ := hb.shape
  have hlen : l.length ≤ maxLen := by obtain ⟨ao', cap', e, h1, h2, _⟩ := hb; omega
  unfold maxLen at hlen
  clear hb
  go_enter Try.func102, Try.ntmps102
  refine wp_seq_k (fun K hK => ?_); have HK := Lib.hid hK; clear hK
  go_wp2
  refine HK.out _ _ ?_; clear HK K
  refine wp_scope_label 0 (fun a' w' => w = w' ∧ ∃ (n v : Nat), v < 128 ^ n ∧ n ≤ 9 ∧ n ≤ l.length ∧ num l = numAt n v (l.drop n) ∧
     a'.defers = [] ∧ ∃ u7 u8 u9 u10 u11 u12 u13 u14 u15 u16 u17 u18 u19 u20 u21 u22 u23 u24 u25 u26 u27 u28 u29 u30 u31 u32 u33 u34 u35 u36 u37 u38 u39 u40 u41 : Value, a'.tmps = #[.slice ao l.length cap, undef, .int .u64 0, .int .i64 0, .int .i64 0, .int .u64 v, .int .i64 n, u7, u8, u9, u10, u11, u12, u13, u14, u15, u16, u17, u18, u19, u20, u21, u22, u23, u24, u25, u26, u27, u28, u29, u30, u31, u32, u33, u34, u35, u36, u37, u38, u39, u40, u41])
     (fun a' _ => l.length - (intOf (a'.tmps.getD 6 undef)).toNat) rfl ?_ ?_
  · rintro ⟨tmps, defers⟩ w' ⟨rfl, n, v, h1, h2, h3, h4, rfl, u7, u8, u9, u10, u11, u12, u13, u14, u15, u16, u17, u18, u19, u20, u21, u22, u23, u24, u25, u26, u27, u28, u29, u30, u31, u32, u33, u34, u35, u36, u37, u38, u39, u40, u41, rfl⟩
    by_cases he : n = l.length
    · have hd : l.drop n = [] := List.drop_eq_nil_of_le (by omega)
      have hnum : num l = (0, 0, 1) := by rw [h4, hd]; rfl
      have HN := Lib.hid hnum
      have HE := Lib.hid he
      have hbe : ((n : Int) == (l.length : Int)) = true := by simp; omega
      clear hnum hd h4 he h1
      go_wp2
      simp only [Exit.jump]
      refine bodyPost_ret (results_tmp3 rfl _ _ _) rfl ?_
      exact ⟨by rw [HN.out]; rfl, rfl⟩
    · have hlt : n < l.length := by omega
      obtain ⟨b, off, rfl, h5, h6, h7⟩ := cell_of_rd HB.out rfl (by omega)
      have hc := h7 n hlt
      have hd : l.drop n = l[n] :: l.drop (n + 1) := List.drop_eq_getElem_cons hlt
      have HD := Lib.hid hd
      have H4 := Lib.hid h4
      clear h4 hd h7
      have hb256 : (l[n]'hlt).toNat < 256 := UInt8.toNat_lt _
      generalize hdd : (l[n]'hlt).toNat = d at hc hb256
      have HDD := Lib.hid hdd; clear hdd
      have hbe : ((n : Int) == (l.length : Int)) = false := by simp; omega
      have H1 := Lib.hid h1; clear h1
      by_cases h9 : n = 9
      · have h9e : ((n : Int) == 9) = true := by simp; omega
        by_cases h1d : 1 < d
        · have hnext : num l = (0, 0, 5) := by
            rw [H4.out, HD.out, numAt, HDD.out, if_pos ⟨h9, h1d⟩]
          have HN := Lib.hid hnext
          have H9 := Lib.hid h9
          clear hnext h9
          go_wp2
          simp only [Exit.jump]
          refine bodyPost_ret (results_tmp3 rfl _ _ _) rfl ?_
          exact ⟨by rw [HN.out]; rfl, rfl⟩
        · have hbd : v + d % 128 * 128 ^ n < 2 ^ 64 := by
            have := H1.out
            have h2 : d % 128 * 128 ^ n ≤ 1 * 128 ^ n := Nat.mul_le_mul_right _ (by omega)
            rw [h9] at *
            omega
          have hq := digit_eq hb256 H1.out hbd
          clear hbd
          generalize hv' : v + d % 128 * 128 ^ n = v' at hq
          have HV' := Lib.hid hv'; clear hv'
          have hnp : 0 < n := by omega
          have H9 := Lib.hid h9
          clear h9
          by_cases h0 : d = 0
          · have h0e : ((d : Int) == 0) = true := by simp; omega
            by_cases hn0 : 0 < n
            · have hn1 : decide ((1 : Int) < (n : Int) + 1) = true := by simp; omega
              have hnext : num l = (0, 0, 5) := by
                rw [H4.out, HD.out, numAt, HDD.out, if_neg (by omega), if_neg (by omega), if_pos ⟨h0, hn0⟩]
              have HN := Lib.hid hnext
              have H0 := Lib.hid h0
              clear hnext h0
              go_wp2
              simp only [Exit.jump]
              refine bodyPost_ret (results_tmp3 rfl _ _ _) rfl ?_
              exact ⟨by rw [HN.out]; rfl, rfl⟩
            · exact absurd hnp hn0
          · have h0e : ((d : Int) == 0) = false := by simp; omega
            have hnext : num l = (v', n + 1, 0) := by
              rw [H4.out, HD.out, numAt, HDD.out, if_neg (by omega), if_neg (by omega), if_neg (by omega), HV'.out]
            have HN := Lib.hid hnext
            clear hnext
            go_wp2
            simp only [Exit.jump]
            refine bodyPost_ret (results_tmp3 rfl _ _ _) rfl ?_
            exact ⟨by rw [HN.out]; rfl, rfl⟩
      · have h9e : ((n : Int) == 9) = false := by simp; omega
        by_cases h128 : 128 ≤ d
        · have hbd : v + d % 128 * 128 ^ n < 128 ^ (n + 1) := by
            have := H1.out
            have h2 : d % 128 * 128 ^ n ≤ 127 * 128 ^ n := Nat.mul_le_mul_right _ (by omega)
            rw [Nat.pow_succ]
            omega
          have hle : 128 ^ (n + 1) ≤ 128 ^ 9 := Nat.pow_le_pow_right (by omega) (by omega)
          have hq := digit_eq hb256 H1.out (Nat.lt_of_lt_of_le hbd (Nat.le_trans hle (by decide)))
          have HBD := Lib.hid hbd
          have hnext : num l = numAt (n + 1) (v + d % 128 * 128 ^ n) (l.drop (n + 1)) := by
            rw [H4.out, HD.out, numAt, HDD.out, if_neg (by omega), if_pos h128]
          have HNX := Lib.hid hnext
          clear hbd hle hnext
          generalize v + d % 128 * 128 ^ n = v' at *
          go_wp2
          refine wp_goto ?_
          simp only [Exit.then]
          change _ ∧ _ ∧ _
          refine ⟨rfl, ⟨rfl, n + 1, v', HBD.out, by omega, by omega, HNX.out, rfl, _, _, _, _, _, _, _, _, _, _, _, _, _, _, _, _, _, _, _, _, _, _, _, _, _, _, _, _, _, _, _, _, _, _, _, rfl⟩, ?_⟩
          simp [intOf]
          omega
        · have hbd : v + d % 128 * 128 ^ n < 2 ^ 64 := by
            have := H1.out
            have h2 : d % 128 * 128 ^ n ≤ 127 * 128 ^ n := Nat.mul_le_mul_right _ (by omega)
            have hle : 128 ^ (n + 1) ≤ 128 ^ 9 := Nat.pow_le_pow_right (by omega) (by omega)
            rw [Nat.pow_succ] at hle
            omega
          have hq := digit_eq hb256 H1.out hbd
          clear hbd
          generalize hv' : v + d % 128 * 128 ^ n = v' at hq
          have HV' := Lib.hid hv'; clear hv'
          by_cases h0 : d = 0
          · have h0e : ((d : Int) == 0) = true := by simp; omega
            by_cases hn0 : 0 < n
            · have hn1 : decide ((1 : Int) < (n : Int) + 1) = true := by simp; omega
              have hnext : num l = (0, 0, 5) := by
                rw [H4.out, HD.out, numAt, HDD.out, if_neg (by omega), if_neg (by omega), if_pos ⟨h0, hn0⟩]
              have HN := Lib.hid hnext
              have H0 := Lib.hid h0
              clear hnext h0
              go_wp2
              simp only [Exit.jump]
              refine bodyPost_ret (results_tmp3 rfl _ _ _) rfl ?_
              exact ⟨by rw [HN.out]; rfl, rfl⟩
            · have hn1 : decide ((1 : Int) < (n : Int) + 1) = false := by simp; omega
              have hnext : num l = (v', n + 1, 0) := by
                rw [H4.out, HD.out, numAt, HDD.out, if_neg (by omega), if_neg (by omega), if_neg (by omega), HV'.out]
              have HN := Lib.hid hnext
              have H0 := Lib.hid h0
              clear hnext h0
              go_wp2
              simp only [Exit.jump]
              refine bodyPost_ret (results_tmp3 rfl _ _ _) rfl ?_
              exact ⟨by rw [HN.out]; rfl, rfl⟩
          · have h0e : ((d : Int) == 0) = false := by simp; omega
            have hnext : num l = (v', n + 1, 0) := by
              rw [H4.out, HD.out, numAt, HDD.out, if_neg (by omega), if_neg (by omega), if_neg (by omega), HV'.out]
            have HN := Lib.hid hnext
            clear hnext
            go_wp2
            simp only [Exit.jump]
            refine bodyPost_ret (results_tmp3 rfl _ _ _) rfl ?_
            exact ⟨by rw [HN.out]; rfl, rfl⟩
  · intro hrest
    have HR := Lib.hid hrest; clear hrest
    refine wp_seq_k (fun K hK => ?_); have HK := Lib.hid hK; clear hK
    go_wp2
    refine HK.out _ _ ?_; clear HK K
    refine wp_seq_k (fun K hK => ?_); have HK := Lib.hid hK; clear hK
    go_wp2
    refine HK.out _ _ ?_; clear HK K
    refine wp_seq ?_
    refine wp_label ?_
    refine HR.out _ _ ?_
    exact ⟨rfl, 0, 0, by decide, by decide, Nat.zero_le _, rfl, rfl, _, _, _, _, _, _, _, _, _, _, _, _, _, _, _, _, _, _, _, _, _, _, _, _, _, _, _, _, _, _, _, _, _, _, _, rfl⟩
end Go.Proofs.Ytcejjckhhdgdnaa
