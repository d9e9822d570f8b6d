import Derived.Test.YtegclfpmgilnpaaGreatProg
import Derived.Test.YtegclfpmgilnpaaGreatGLib
import Derived.WalkKit
import Derived.Lib.Hide
import Derived.WalkSpells
import Derived.Lib.SliceRun
import Derived.Lib.Zigzag
import Derived.Lib.AppendZeros
import Derived.Lib.ConvBytes
namespace Go.Proofs.YtegclfpmgilnpaaGreat
open Go.RowKit Go.Lac
theorem infoU8 : (Tryz.prog.info? 5).map (fun i => (i.zero, i.size, i.bytes)) = some (some (.int .u8 0), 1, 1) := by kernel_rfl
end Go.Proofs.YtegclfpmgilnpaaGreat
namespace Go.Proofs.YtegclfpmgilnpaaGreat
open Go.RowKit Go.Lac
def sev (v : Nat) : List UInt8 := if h : v < 128 then [UInt8.ofNat v] else UInt8.ofNat (v % 128 + 128) :: sev (v / 128)
termination_by v
decreasing_by omega
theorem sev_small {v : Nat} (h : v < 128) : sev v = [UInt8.ofNat v] := by rw [sev, dif_pos h]
theorem sev_big {v : Nat} (h : ¬ v < 128) : sev v = UInt8.ofNat (v % 128 + 128) :: sev (v / 128) := by rw [sev, dif_neg h]
def SevRel (v : Nat) (w : World) (x l : Value) (wr : World) : Prop :=
  ∃ (u : Nat) (pre : List UInt8), x = .int .u64 u ∧ u * 128 ^ pre.length < 2 ^ 64 ∧ pre.length ≤ 9 ∧ sev v = pre ++ sev u ∧
    Ext w wr ∧ wr.ownsRow w.heap.size 5 1 l pre.length (cellsB pre)
theorem SevRel.next {v : Nat} {w wr w' : World} {u : Nat} {pre : List UInt8} {l v' : Value} (h128 : ¬ u < 128) (h1 : u * 128 ^ pre.length < 2 ^ 64)
    (h3 : sev v = pre ++ sev u) (h4 : Ext w wr) (h5 : wr.ownsRow w.heap.size 5 1 l pre.length (cellsB pre)) (o : Obj)
    (h6 : (wr.alloc o).grownBy w' l.ownBlock) (h7 : w'.ownsRow w.heap.size 5 1 v' (pre.length + 1) (cellsB pre ++ [.int .u8 ((u : Int) % 128 + 128)])) :
    SevRel v w (.int .u64 ((u : Int) / 128)) v' w' := by
  have hb : u % 128 + 128 < 256 := by omega
  have hlen : pre.length + 1 ≤ 9 := by
    rcases Nat.lt_or_ge pre.length 9 with h | h
    · exact h
    · exfalso
      have : 128 ^ 9 ≤ 128 ^ pre.length := Nat.pow_le_pow_right (by omega) h
      have h2 : 128 * 128 ^ 9 ≤ u * 128 ^ pre.length := Nat.mul_le_mul (by omega) this
      omega
  refine ⟨u / 128, pre ++ [UInt8.ofNat (u % 128 + 128)], by simp, ?_, by simpa using hlen, ?_, ?_, ?_⟩
  · rw [List.length_append, List.length_singleton, Nat.pow_succ, Nat.mul_comm (128 ^ pre.length), ← Nat.mul_assoc]
    exact Nat.lt_of_le_of_lt (Nat.mul_le_mul_right _ (Nat.div_mul_le_self u 128)) h1
  · rw [h3, sev_big h128, List.append_assoc]; rfl
  · refine (h4.alloc o).grown h6 fun k hk => ?_
    have := (h5.lt k hk).1
    omega
  · have e : cellsB (pre ++ [UInt8.ofNat (u % 128 + 128)]) = cellsB pre ++ [.int .u8 ((u : Int) % 128 + 128)] := by
      rw [cellsB_append]; simp only [cellsB, List.map_cons, List.map_nil, cellB_ofNat hb]; rfl
    rw [e, List.length_append]; exact h7
theorem SevRel.last {v : Nat} {w wr w' : World} {u : Nat} {pre : List UInt8} {l v' : Value} (h128 : u < 128)
    (h3 : sev v = pre ++ sev u) (h4 : Ext w wr) (h5 : wr.ownsRow w.heap.size 5 1 l pre.length (cellsB pre)) (o : Obj)
    (h6 : (wr.alloc o).grownBy w' l.ownBlock) (h7 : w'.ownsRow w.heap.size 5 1 v' (pre.length + 1) (cellsB pre ++ [.int .u8 (u : Int)])) :
    Ext w w' ∧ w'.ownsRow w.heap.size 5 1 v' (sev v).length (cellsB (sev v)) := by
  have hb : u < 256 := by omega
  refine ⟨(h4.alloc o).grown h6 fun k hk => ?_, ?_⟩
  · have := (h5.lt k hk).1
    omega
  · rw [h3, sev_small h128]
    simpa [cellsB, cellB_ofNat hb] using h7
set_option maxRecDepth 20000 in
set_option maxHeartbeats 400000 in
theorem sevens_any (v : Nat) (w : World) (hv : v < 2 ^ 64) : Calls Tryz.prog 117 #[.int .u64 v] w (Made 5 (sev v) w) := by
  obtain ⟨i, hi, hz, hs, hb⟩ := info_parts infoU8
  have hmk := fun w => run_make (P := Tryz.prog) w 22 5 i _ Tryz.underlying22 hi hz .i64 .i64 0 10 (by omega) (by omega) (by rw [hb]; omega) (by omega)
  have hmd := World.ownsRow_made (e := 5) (size := 1) w (madeCells (Value.int .u8 0).cells (10 * 1)) 10 (Nat.le_refl _) (by decide) (by rw [size_madeCells])
  rw [hs] at hmk
  have Hmd := Lib.hid hmd; clear hmd
  have HV := Lib.hid hv; clear hv
  go_enter Tryz.func117, Tryz.ntmps117
  go_wp2
  clear hmk
  go_loopw [0, 3] (fun x l wr => SevRel v w x l wr) (fun x _ _ => (intOf x).toNat)
  case atStart => exact ⟨v, [], rfl, by simpa using HV.out, by simp, rfl, (Ch.refl _ _).alloc _, Hmd.out⟩
  case round =>
    obtain ⟨u, pre, rfl, h1, h2, h3, h4, h5⟩ := hrel
    have H1 := Lib.hid h1; have H3 := Lib.hid h3; have H4 := Lib.hid h4; clear h1 h3 h4
    by_cases h128 : u < 128
    · go_wp2_with (at_builtin; refine wpList_append_own _ rfl _ _ 22 rfl (w.heap.size) 5 i (.int .u8 0) 1 1 Tryz.underlying22 hi hz hs hb rfl (by decide) _ _ _ rfl (h5.alloc _) ⟨wr.heap.size, 0, none⟩ 1 1 [.int .u8 (u:Int)] rfl rfl ?c1 ?c2 ?c3 ?c4 ?c5 ?_)
      case c1 => exact new_cells wr _ _
      case c2 => exact one_oneCell rfl
      case c3 => unfold maxLen; omega
      case c4 => omega
      case c5 => have := H4.out.size; simp; omega
      intro v' w' hown' hgrow _
      have hfin := SevRel.last h128 H3.out H4.out h5 _ hgrow hown'
      have Hf := Lib.hid hfin; clear hfin hown' hgrow
      go_wp2
      go_ret
      exact ⟨_, rfl, Hf.out.1, Hf.out.2⟩
    · have hor := or128 u
      go_wp2_with (at_builtin; refine wpList_append_own _ rfl _ _ 22 rfl (w.heap.size) 5 i (.int .u8 0) 1 1 Tryz.underlying22 hi hz hs hb rfl (by decide) _ _ _ rfl (h5.alloc _) ⟨wr.heap.size, 0, none⟩ 1 1 [.int .u8 ((u:Int) % 128 + 128)] rfl rfl ?c1 ?c2 ?c3 ?c4 ?c5 ?_)
      case c1 => exact new_cells wr _ _
      case c2 => exact one_oneCell rfl
      case c3 => unfold maxLen; omega
      case c4 => omega
      case c5 => have := H4.out.size; simp; omega
      intro v' w' hown' hgrow _
      have hfin := SevRel.next h128 H1.out H3.out H4.out h5 _ hgrow hown'
      have Hf := Lib.hid hfin; clear hfin hown' hgrow
      go_wp2
      go_roundw
      case rel => exact Hf.out
      case measure => simp [intOf]; omega
end Go.Proofs.YtegclfpmgilnpaaGreat
namespace Go.Proofs.YtegclfpmgilnpaaGreat
open Go.RowKit Go.Lac
def numAt : Nat → Nat → List UInt8 → Nat × Nat × Int
  | _, _, [] => (0, 0, 1)
  | n, v, d :: l =>
    if n = 9 ∧ 1 < d.toNat then (0, 0, 5)
    else if 128 ≤ d.toNat then numAt (n + 1) (v + d.toNat % 128 * 128 ^ n) l
    else if d.toNat = 0 ∧ 0 < n then (0, 0, 5)
    else (v + d.toNat % 128 * 128 ^ n, n + 1, 0)
def num (l : List UInt8) : Nat × Nat × Int := numAt 0 0 l
def NumPost (l : List UInt8) (w : World) (e : Ending) (w' : World) : Prop :=
  e = .returned (.tuple #[.int .u64 (num l).1, .int .i64 (num l).2.1, .int .i64 (num l).2.2]) ∧ w = w'
theorem cell_of_rd {w : World} {v : Value} {bs : List UInt8} (h : Rd w v bs) {ao : Option Addr} {cap : Nat} (hv : v = .slice ao bs.length cap) (h0 : 0 < bs.length) :
    ∃ b off, ao = some ⟨b, off, none⟩ ∧ bs.length ≤ cap ∧ cap ≤ maxLen ∧ ∀ j (hj : j < bs.length), w.cell? ⟨b, off + j, none⟩ = some (.int .u8 (bs[j].toNat : Int)) := by
  obtain ⟨ao', cap', e, h1, h2, h3, h4⟩ := h
  rw [hv] at e
  simp only [Value.slice.injEq, true_and] at e
  obtain ⟨rfl, rfl⟩ := e
  cases ao with
  | none => have := h3 rfl; omega
  | some x =>
    obtain ⟨b, off, rfl, _⟩ := h4 x rfl 0 (cellB bs[0]) (by simp [cellsB, h0])
    refine ⟨b, off, rfl, h1, h2, fun j hj => ?_⟩
    obtain ⟨b', off', e', h5⟩ := h4 _ rfl j (cellB bs[j]) (by simp [cellsB, hj])
    cases e'
    exact h5
theorem and127 (d : Nat) (h : d < 256) : bits .and .u8 (d : Int) 127 = ((d % 128 : Nat) : Int) := by
  have := u8_and_nat d 127 h (by omega)
  rw [show (127 : Int) = ((127 : Nat) : Int) from rfl, this]
  congr 1
  exact Nat.and_two_pow_sub_one_eq_mod d 7
theorem digit_eq {v d n : Nat} (hd : d < 256) (h1 : v < 128 ^ n) (h : v + d % 128 * 128 ^ n < 2 ^ 64) :
    bits .or .u64 (v : Int) (IntKind.u64.wrap (IntKind.u64.wrap (bits .and .u8 (d : Int) 127) * 2 ^ (7 * n))) = ((v + d % 128 * 128 ^ n : Nat) : Int) := by
  have hp : (128 : Nat) ^ n = 2 ^ (7 * n) := by rw [Nat.pow_mul]
  have e1 : ((d % 128 : Nat) : Int) * 2 ^ (7 * n) = ((d % 128 * 128 ^ n : Nat) : Int) := by
    rw [hp, Int.natCast_mul, Int.natCast_pow]; rfl
  rw [and127 d hd, wrap_u64_of (n := ((d % 128 : Nat) : Int)) (by omega) (by omega), e1, wrap_u64_of (n := ((d % 128 * 128 ^ n : Nat) : Int)) (by omega) (by omega), u64_or_nat _ _ (by omega) (by omega), Nat.or_comm, nat_join (7 * n) _ _ (by rw [hp]; exact Nat.mul_mod_left _ _) (by rw [← hp]; exact h1), Nat.add_comm]
set_option maxRecDepth 20000 in
set_option maxHeartbeats 1000000 in
theorem number_any (vb : Value) (l : List UInt8) (w : World) (hb : Rd w vb l) :
    Calls Tryz.prog 119 #[vb] w (NumPost l w) := by
  have HB := Lib.hid hb
  obtain ⟨ao, cap, rfl⟩ := hb.shape
  have hlen : l.length ≤ maxLen := by obtain ⟨ao', cap', e, h1, h2, _⟩ := hb; omega
  unfold maxLen at hlen
  clear hb
  go_enter Tryz.func119, Tryz.ntmps119
  refine wp_seq_k (fun K hK => ?_); have HK := Lib.hid hK; clear hK
  go_wp2
  refine HK.out _ _ ?_; clear HK K
  refine wp_scope_label 0 (fun a' w' => w = w' ∧ ∃ (n v : Nat), v < 128 ^ n ∧ n ≤ 9 ∧ n ≤ l.length ∧ num l = numAt n v (l.drop n) ∧
     a'.defers = [] ∧ ∃ u7 u8 u9 u10 u11 u12 u13 u14 u15 u16 u17 u18 u19 u20 u21 u22 u23 u24 u25 u26 u27 u28 u29 u30 u31 u32 u33 u34 u35 u36 u37 u38 u39 u40 u41 : Value, a'.tmps = #[.slice ao l.length cap, undef, .int .u64 0, .int .i64 0, .int .i64 0, .int .u64 v, .int .i64 n, u7, u8, u9, u10, u11, u12, u13, u14, u15, u16, u17, u18, u19, u20, u21, u22, u23, u24, u25, u26, u27, u28, u29, u30, u31, u32, u33, u34, u35, u36, u37, u38, u39, u40, u41])
     (fun a' _ => l.length - (intOf (a'.tmps.getD 6 undef)).toNat) rfl ?_ ?_
  · rintro ⟨tmps, defers⟩ w' ⟨rfl, n, v, h1, h2, h3, h4, rfl, u7, u8, u9, u10, u11, u12, u13, u14, u15, u16, u17, u18, u19, u20, u21, u22, u23, u24, u25, u26, u27, u28, u29, u30, u31, u32, u33, u34, u35, u36, u37, u38, u39, u40, u41, rfl⟩
    by_cases he : n = l.length
    · have hd : l.drop n = [] := List.drop_eq_nil_of_le (by omega)
      have hnum : num l = (0, 0, 1) := by rw [h4, hd]; rfl
      have HN := Lib.hid hnum
      have HE := Lib.hid he
      have hbe : ((n : Int) == (l.length : Int)) = true := by simp; omega
      clear hnum hd h4 he h1
      go_wp2
      simp only [Exit.jump]
      refine bodyPost_ret (results_tmp3 rfl _ _ _) rfl ?_
      exact ⟨by rw [HN.out]; rfl, rfl⟩
    · have hlt : n < l.length := by omega
      obtain ⟨b, off, rfl, h5, h6, h7⟩ := cell_of_rd HB.out rfl (by omega)
      have hc := h7 n hlt
      have hd : l.drop n = l[n] :: l.drop (n + 1) := List.drop_eq_getElem_cons hlt
      have HD := Lib.hid hd
      have H4 := Lib.hid h4
      clear h4 hd h7
      have hb256 : (l[n]'hlt).toNat < 256 := UInt8.toNat_lt _
      generalize hdd : (l[n]'hlt).toNat = d at hc hb256
      have HDD := Lib.hid hdd; clear hdd
      have hbe : ((n : Int) == (l.length : Int)) = false := by simp; omega
      have H1 := Lib.hid h1; clear h1
      by_cases h9 : n = 9
      · have h9e : ((n : Int) == 9) = true := by simp; omega
        by_cases h1d : 1 < d
        · have hnext : num l = (0, 0, 5) := by
            rw [H4.out, HD.out, numAt, HDD.out, if_pos ⟨h9, h1d⟩]
          have HN := Lib.hid hnext
          have H9 := Lib.hid h9
          clear hnext h9
          go_wp2
          simp only [Exit.jump]
          refine bodyPost_ret (results_tmp3 rfl _ _ _) rfl ?_
          exact ⟨by rw [HN.out]; rfl, rfl⟩
        · have hbd : v + d % 128 * 128 ^ n < 2 ^ 64 := by
            have := H1.out
            have h2 : d % 128 * 128 ^ n ≤ 1 * 128 ^ n := Nat.mul_le_mul_right _ (by omega)
            rw [h9] at *
            omega
          have hq := digit_eq hb256 H1.out hbd
          clear hbd
          generalize hv' : v + d % 128 * 128 ^ n = v' at hq
          have HV' := Lib.hid hv'; clear hv'
          have hnp : 0 < n := by omega
          have H9 := Lib.hid h9
          clear h9
          by_cases h0 : d = 0
          · have h0e : ((d : Int) == 0) = true := by simp; omega
            by_cases hn0 : 0 < n
            · have hn1 : decide ((1 : Int) < (n : Int) + 1) = true := by simp; omega
              have hnext : num l = (0, 0, 5) := by
                rw [H4.out, HD.out, numAt, HDD.out, if_neg (by omega), if_neg (by omega), if_pos ⟨h0, hn0⟩]
              have HN := Lib.hid hnext
              have H0 := Lib.hid h0
              clear hnext h0
              go_wp2
              simp only [Exit.jump]
              refine bodyPost_ret (results_tmp3 rfl _ _ _) rfl ?_
              exact ⟨by rw [HN.out]; rfl, rfl⟩
            · exact absurd hnp hn0
          · have h0e : ((d : Int) == 0) = false := by simp; omega
            have hnext : num l = (v', n + 1, 0) := by
              rw [H4.out, HD.out, numAt, HDD.out, if_neg (by omega), if_neg (by omega), if_neg (by omega), HV'.out]
            have HN := Lib.hid hnext
            clear hnext
            go_wp2
            simp only [Exit.jump]
            refine bodyPost_ret (results_tmp3 rfl _ _ _) rfl ?_
            exact ⟨by rw [HN.out]; rfl, rfl⟩
      · have h9e : ((n : Int) == 9) = false := by simp; omega
        by_cases h128 : 128 ≤ d
        · have hbd : v + d % 128 * 128 ^ n < 128 ^ (n + 1) := by
            have := H1.out
            have h2 : d % 128 * 128 ^ n ≤ 127 * 128 ^ n := Nat.mul_le_mul_right _ (by omega)
            rw [Nat.pow_succ]
            omega
          have hle : 128 ^ (n + 1) ≤ 128 ^ 9 := Nat.pow_le_pow_right (by omega) (by omega)
          have hq := digit_eq hb256 H1.out (Nat.lt_of_lt_of_le hbd (Nat.le_trans hle (by decide)))
          have HBD := Lib.hid hbd
          have hnext : num l = numAt (n + 1) (v + d % 128 * 128 ^ n) (l.drop (n + 1)) := by
            rw [H4.out, HD.out, numAt, HDD.out, if_neg (by omega), if_pos h128]
          have HNX := Lib.hid hnext
          clear hbd hle hnext
          generalize v + d % 128 * 128 ^ n = v' at *
          go_wp2
          refine wp_goto ?_
          simp only [Exit.then]
          change _ ∧ _ ∧ _
          refine ⟨rfl, ⟨rfl, n + 1, v', HBD.out, by omega, by omega, HNX.out, rfl, _, _, _, _, _, _, _, _, _, _, _, _, _, _, _, _, _, _, _, _, _, _, _, _, _, _, _, _, _, _, _, _, _, _, _, rfl⟩, ?_⟩
          simp [intOf]
          omega
        · have hbd : v + d % 128 * 128 ^ n < 2 ^ 64 := by
            have := H1.out
            have h2 : d % 128 * 128 ^ n ≤ 127 * 128 ^ n := Nat.mul_le_mul_right _ (by omega)
            have hle : 128 ^ (n + 1) ≤ 128 ^ 9 := Nat.pow_le_pow_right (by omega) (by omega)
            rw [Nat.pow_succ] at hle
            omega
          have hq := digit_eq hb256 H1.out hbd
          clear hbd
          generalize hv' : v + d % 128 * 128 ^ n = v' at hq
          have HV' := Lib.hid hv'; clear hv'
          by_cases h0 : d = 0
          · have h0e : ((d : Int) == 0) = true := by simp; omega
            by_cases hn0 : 0 < n
            · have hn1 : decide ((1 : Int) < (n : Int) + 1) = true := by simp; omega
              have hnext : num l = (0, 0, 5) := by
                rw [H4.out, HD.out, numAt, HDD.out, if_neg (by omega), if_neg (by omega), if_pos ⟨h0, hn0⟩]
              have HN := Lib.hid hnext
              have H0 := Lib.hid h0
              clear hnext h0
              go_wp2
              simp only [Exit.jump]
              refine bodyPost_ret (results_tmp3 rfl _ _ _) rfl ?_
              exact ⟨by rw [HN.out]; rfl, rfl⟩
            · have hn1 : decide ((1 : Int) < (n : Int) + 1) = false := by simp; omega
              have hnext : num l = (v', n + 1, 0) := by
                rw [H4.out, HD.out, numAt, HDD.out, if_neg (by omega), if_neg (by omega), if_neg (by omega), HV'.out]
              have HN := Lib.hid hnext
              have H0 := Lib.hid h0
              clear hnext h0
              go_wp2
              simp only [Exit.jump]
              refine bodyPost_ret (results_tmp3 rfl _ _ _) rfl ?_
              exact ⟨by rw [HN.out]; rfl, rfl⟩
          · have h0e : ((d : Int) == 0) = false := by simp; omega
            have hnext : num l = (v', n + 1, 0) := by
              rw [H4.out, HD.out, numAt, HDD.out, if_neg (by omega), if_neg (by omega), if_neg (by omega), HV'.out]
            have HN := Lib.hid hnext
            clear hnext
            go_wp2
            simp only [Exit.jump]
            refine bodyPost_ret (results_tmp3 rfl _ _ _) rfl ?_
            exact ⟨by rw [HN.out]; rfl, rfl⟩
  · intro hrest
    have HR := Lib.hid hrest; clear hrest
    refine wp_seq_k (fun K hK => ?_); have HK := Lib.hid hK; clear hK
    go_wp2
    refine HK.out _ _ ?_; clear HK K
    refine wp_seq_k (fun K hK => ?_); have HK := Lib.hid hK; clear hK
    go_wp2
    refine HK.out _ _ ?_; clear HK K
    refine wp_seq ?_
    refine wp_label ?_
    refine HR.out _ _ ?_
    exact ⟨rfl, 0, 0, by decide, by decide, Nat.zero_le _, rfl, rfl, _, _, _, _, _, _, _, _, _, _, _, _, _, _, _, _, _, _, _, _, _, _, _, _, _, _, _, _, _, _, _, _, _, _, _, rfl⟩
end Go.Proofs.YtegclfpmgilnpaaGreat
namespace Go.Proofs.YtegclfpmgilnpaaGreat
open Go.RowKit Go.Lac
abbrev RS := List UInt8 × Int
def Strict (v : Value) : Prop := ∀ x l c, v = .slice (some x) l c → x.spot = none
theorem strict_nil : Strict (.slice none 0 0) := fun _ _ _ h => by cases h
theorem strict_lit (b off l c : Nat) : Strict (.slice (some ⟨b, off, none⟩) l c) := fun _ _ _ h => by cases h; rfl
def IsR (w : World) (r : Nat) (s : RS) : Prop :=
  ∃ lv, w.heap[r]? = some (.cells #[lv, .int .i64 s.2] 81 (0, 0)) ∧ (Rd w lv s.1 ∧ (Strict lv ∧ (s.1 ≠ [] → ∀ x l c, lv = .slice (some x) l c → x.block < r))) ∧ (s.2 ≠ 0 → s.1 = [])
abbrev Only (r : Nat) (w w' : World) : Prop := Ch (fun b => b = r) w w'
def RPtr (r : Nat) : Value := .pointer (some ⟨r, 0, none⟩)
theorem IsR.cells {w : World} {r : Nat} {s : RS} (h : IsR w r s) : ∃ ao cap, w.cell? ⟨r, 0, none⟩ = some (.slice ao s.1.length cap) ∧ w.cell? ⟨r, 1, none⟩ = some (.int .i64 s.2) ∧
    w.frozen? ⟨r, 0, none⟩ = false ∧ w.frozen? ⟨r, 1, none⟩ = false ∧ Rd w (.slice ao s.1.length cap) s.1 ∧ ∀ x, ao = some x → x.spot = none := by
  obtain ⟨lv, h1, ⟨h2, h4⟩, h3⟩ := h
  obtain ⟨ao, cap, rfl⟩ := h2.shape
  exact ⟨ao, cap, cell_of_row w r 0 _ _ _ h1, cell_of_row w r 1 _ _ _ h1, frozen_of_row w r 0 _ _ h1, frozen_of_row w r 1 _ _ h1, h2, fun x hx => h4.1 x _ _ (by rw [hx])⟩
theorem IsR.low {w : World} {r : Nat} {s : RS} (h : IsR w r s) {ao : Option Addr} {n cap : Nat} (hc : w.cell? ⟨r, 0, none⟩ = some (.slice ao n cap)) (hne : s.1 ≠ []) : ∀ x, ao = some x → x.block < r := by
  obtain ⟨lv, h1, ⟨h2, h4⟩, h3⟩ := h
  rw [cell_of_row w r 0 _ _ _ h1] at hc
  cases hc
  exact fun x hx => h4.2 hne x _ _ (by rw [hx])
theorem IsR.set0 {w : World} {r : Nat} {s : RS} (h : IsR w r s) {lv : Value} {bs : List UInt8} (hl : Rd w lv bs) (hst : Strict lv) (hlow : bs ≠ [] → ∀ x l c, lv = .slice (some x) l c → x.block < r) (he : s.2 ≠ 0 → bs = []) : IsR (w.setCell ⟨r, 0, none⟩ lv) r (bs, s.2) := by
  obtain ⟨lv0, h1, ⟨h2, _⟩, h3⟩ := h
  obtain ⟨ao, cap, rfl⟩ := h2.shape
  exact ⟨lv, heap_setCell_same w r 0 _ _ _ h1, ⟨hl.setCell (cell_of_row w r 0 _ _ _ h1) (noByte_slice _ _ _) _, hst, hlow⟩, he⟩
theorem IsR.set1 {w : World} {r : Nat} {bs : List UInt8} {e0 : Int} (h : IsR w r (bs, e0)) (e : Int) (he : e ≠ 0 → bs = []) : IsR (w.setCell ⟨r, 1, none⟩ (.int .i64 e)) r (bs, e) := by
  obtain ⟨lv0, h1, ⟨h2, h4⟩, h3⟩ := h
  exact ⟨lv0, heap_setCell_same w r 1 _ _ _ h1, ⟨h2.setCell (cell_of_row w r 1 _ _ _ h1) (noByte_i64 _) _, h4⟩, he⟩
theorem IsR.lt {w : World} {r : Nat} {s : RS} (h : IsR w r s) : r < w.heap.size := by
  obtain ⟨lv, h1, _⟩ := h
  exact (Array.getElem?_eq_some_iff.1 h1).1
theorem IsR.ext {w w' : World} {r : Nat} {s : RS} (h : IsR w r s) (k : Ext w w') : IsR w' r s := by
  have hlt := h.lt
  obtain ⟨lv, h1, h2, h3⟩ := h
  exact ⟨lv, by rw [k.block r hlt (fun f => f)]; exact h1, ⟨h2.1.ext k, h2.2⟩, h3⟩
theorem IsR.other {w w' : World} {r q : Nat} {s u : RS} (h : IsR w r s) (hq : IsR w q u) (hne : r ≠ q) (k : Only q w w') : IsR w' r s := by
  have hlt := h.lt
  obtain ⟨lv, h1, ⟨h2, h4⟩, h3⟩ := h
  refine ⟨lv, by rw [k.block r hlt hne]; exact h1, ⟨?_, h4⟩, h3⟩
  obtain ⟨qv, q1, ⟨q2, _⟩, _⟩ := hq
  obtain ⟨qa, qc, rfl⟩ := q2.shape
  obtain ⟨ao, cap, g1, g2, g3, g4, g5⟩ := h2
  refine ⟨ao, cap, g1, g2, g3, g4, fun x hx j c hc => ?_⟩
  obtain ⟨b, off, rfl, g6⟩ := g5 x hx j c hc
  refine ⟨b, off, rfl, k.cell (p := ⟨b, off + j, none⟩) ?_ c g6⟩
  rintro (rfl : b = q)
  obtain ⟨y, _, rfl⟩ := List.mem_map.1 (List.mem_of_getElem? hc)
  rw [cell_of_row w b (off + j) _ _ _ q1] at g6
  have hm := Array.mem_of_getElem? g6
  simp [cellB] at hm
def failR (s : RS) (e : Int) : RS := if s.2 ≠ 0 ∨ e = 0 then s else ([], e)
def RPost (r : Nat) (v : Value) (s : RS) (w : World) (e : Ending) (w' : World) : Prop := e = .returned v ∧ Only r w w' ∧ IsR w' r s
set_option maxRecDepth 20000 in
set_option maxHeartbeats 1000000 in
theorem fail_any (r : Nat) (s : RS) (e : Int) (w : World) (h : IsR w r s) :
    Calls Tryz.prog 26 #[RPtr r, .int .i64 e] w (RPost r (.tuple #[]) (failR s e) w) := by
  obtain ⟨ao, cap, c0, c1, f0, f1, hrd, hst⟩ := h.cells
  have H := Lib.hid h; have HRD := Lib.hid hrd; clear h hrd hst
  unfold RPtr
  by_cases h1 : s.2 = 0
  · have e1 : (s.2 != 0) = false := by simp [h1]
    by_cases h2 : e = 0
    · have e2 : (e == 0) = true := by simp [h2]
      have H1 := Lib.hid h1; have H2 := Lib.hid h2; clear h1 h2
      go_enter Tryz.func26, Tryz.ntmps26
      go_wp2
      refine bodyPost_ret (results_none rfl _ _ _) rfl ?_
      exact ⟨rfl, Ch.refl _ _, by unfold failR; rw [if_pos (Or.inr H2.out)]; exact H.out⟩
    · have e2 : (e == 0) = false := by simp [h2]
      have H1 := Lib.hid h1; have H2 := Lib.hid h2; clear h1 h2
      go_enter Tryz.func26, Tryz.ntmps26
      go_wp2
      refine bodyPost_end (results_none rfl _ _ _) rfl ?_
      have h3 := (H.out.set0 (lv := .slice none 0 0) (bs := []) ⟨none, 0, rfl, Nat.le_refl _, Nat.zero_le _, fun _ => rfl, fun x hx => by cases hx⟩ strict_nil (fun h => absurd rfl h) (fun _ => rfl)).set1 e (fun _ => rfl)
      refine ⟨rfl, Ch.setCell (M := fun b => b = r) (Ch.setCell (M := fun b => b = r) (Ch.refl _ _) (.inl rfl) _) (.inl rfl) _, ?_⟩
      unfold failR
      rw [if_neg (by have := H1.out; have := H2.out; omega)]
      exact h3
  · have e1 : (s.2 != 0) = true := by simp [h1]
    have H1 := Lib.hid h1; clear h1
    go_enter Tryz.func26, Tryz.ntmps26
    go_wp2
    refine bodyPost_ret (results_none rfl _ _ _) rfl ?_
    exact ⟨rfl, Ch.refl _ _, by unfold failR; rw [if_pos (Or.inl H1.out)]; exact H.out⟩
theorem numAt_ok : ∀ (l : List UInt8) (n v v' n' : Nat), numAt n v l = (v', n', 0) → v < 128 ^ n → n ≤ 9 → n < n' ∧ n' - n ≤ l.length ∧ v' < 2 ^ 64
  | [], n, v, v', n', h, _, _ => by simp [numAt] at h
  | d :: l, n, v, v', n', h, hv, h9 => by
    have hd := UInt8.toNat_lt d
    rw [numAt] at h
    split at h
    · simp at h
    · rename_i h1
      split at h
      · rename_i h2
        have h9' : n < 9 := by omega
        have hb : v + d.toNat % 128 * 128 ^ n < 128 ^ (n + 1) := by
          have h3 : d.toNat % 128 * 128 ^ n ≤ 127 * 128 ^ n := Nat.mul_le_mul_right _ (by omega)
          rw [Nat.pow_succ]; omega
        have := numAt_ok l (n + 1) _ v' n' h hb (by omega)
        simp only [List.length_cons]
        omega
      · split at h
        · simp at h
        · simp only [Prod.mk.injEq, and_true] at h
          obtain ⟨rfl, rfl⟩ := h
          simp only [List.length_cons]
          refine ⟨by omega, by omega, ?_⟩
          by_cases h8 : n = 9
          · subst h8
            have h3 : d.toNat % 128 * 128 ^ 9 ≤ 1 * 128 ^ 9 := Nat.mul_le_mul_right _ (by omega)
            omega
          · have h3 : d.toNat % 128 * 128 ^ n ≤ 127 * 128 ^ n := Nat.mul_le_mul_right _ (by omega)
            have h4 : 128 ^ (n + 1) ≤ 128 ^ 9 := Nat.pow_le_pow_right (by omega) (by omega)
            rw [Nat.pow_succ] at h4
            omega
theorem num_ok {l : List UInt8} {v n : Nat} (h : num l = (v, n, 0)) : 0 < n ∧ n ≤ l.length ∧ v < 2 ^ 64 := by
  have := numAt_ok l 0 0 v n h (by decide) (by decide)
  omega
def uintR (most : Nat) (s : RS) : Nat × RS :=
  if (num s.1).2.2 ≠ 0 then (0, failR s (num s.1).2.2)
  else if most < (num s.1).1 then (0, failR s 4)
  else ((num s.1).1, (s.1.drop (num s.1).2.1, s.2))
theorem uintR_lt (most : Nat) (s : RS) : (uintR most s).1 < 2 ^ 64 := by
  unfold uintR
  split
  · exact Nat.two_pow_pos 64
  · rename_i h
    split
    · exact Nat.two_pow_pos 64
    · have h0 : (num s.1).2.2 = 0 := by simpa using h
      exact (num_ok (l := s.1) (v := (num s.1).1) (n := (num s.1).2.1) (by rw [← h0])).2.2
theorem uintR_le (most : Nat) (s : RS) : (uintR most s).1 ≤ most := by
  unfold uintR
  split
  · exact Nat.zero_le _
  · split
    · exact Nat.zero_le _
    · show (num s.1).1 ≤ most
      omega
theorem number_q {vb : Value} {l : List UInt8} {w : World} (hb : Rd w vb l) {v n : Nat} {er : Int} (h : num l = (v, n, er)) :
    Calls Tryz.prog 119 #[vb] w fun e w' => e = .returned (.tuple #[.int .u64 v, .int .i64 n, .int .i64 er]) ∧ w = w' :=
  (number_any vb l w hb).mono fun e w' ⟨h1, h2⟩ => by rw [h] at h1; exact ⟨h1, h2⟩
set_option maxRecDepth 20000 in
set_option maxHeartbeats 1000000 in
theorem uint_any (r : Nat) (s : RS) (most : Nat) (w : World) (h : IsR w r s) :
    Calls Tryz.prog 103 #[RPtr r, .int .u64 most] w (RPost r (.int .u64 (uintR most s).1) (uintR most s).2 w) := by
  obtain ⟨ao, cap, c0, c1, f0, f1, hrd, hst⟩ := h.cells
  have H := Lib.hid h; have HRD := Lib.hid hrd; clear h hrd hst
  have HF := Lib.hid (fun e => fail_any r s e w H.out)
  obtain ⟨⟨v, n, er⟩, hq⟩ : ∃ q, num s.1 = q := ⟨_, rfl⟩
  have HN := Lib.hid (number_q HRD.out hq)
  unfold RPtr at *
  by_cases h0 : er = 0
  · obtain ⟨n1, n2, n3⟩ := num_ok (show num s.1 = (v, n, 0) by rw [hq, h0])
    have N3 := Lib.hid n3; clear n3
    subst h0
    by_cases hm : most < v
    · have e2 : decide ((most : Int) < (v : Int)) = true := by simp; omega
      have hu : uintR most s = (0, failR s 4) := by unfold uintR; rw [hq]; simp [hm]
      have HU := Lib.hid hu
      clear hu hq
      go_enter Tryz.func103, Tryz.ntmps103
      go_wp2_with (go_at_call 119; refine HN.out.mono ?_; rintro e w' ⟨rfl, rfl⟩)
      refine (HF.out 4).mono ?_
      rintro e w1 ⟨rfl, k1, k2⟩
      have K1 := Lib.hid k1; have K2 := Lib.hid k2; clear k1 k2
      go_wp2
      go_ret
      rw [HU.out]
      exact ⟨rfl, K1.out, K2.out⟩
    · have e2 : decide ((most : Int) < (v : Int)) = false := by simp; omega
      have hu : uintR most s = (v, (s.1.drop n, s.2)) := by unfold uintR; rw [hq]; simp [hm]
      have HU := Lib.hid hu
      have hs2 : s.2 = 0 := by
        obtain ⟨lv, g1, g2, g3⟩ := H.out
        rcases Decidable.em (s.2 = 0) with g | g
        · exact g
        · have := g3 g
          rw [this] at n2; simp at n2; omega
      obtain ⟨b, off, rfl, g1, g2, g3⟩ := cell_of_rd HRD.out rfl (by omega)
      have HS2 := Lib.hid hs2
      clear hu hq hs2 g3
      unfold maxLen at g2
      by_cases hcap : cap = n
      · have hrd2 := Rd.drop HRD.out n n2 (some ⟨b, off, none⟩) (.inr ⟨by omega, _, rfl⟩)
        subst hcap
        rw [show s.1.length - cap = 0 by omega, Nat.sub_self] at hrd2
        have hfin := H.out.set0 hrd2 (strict_lit _ _ _ _) (fun hne x l c e => by cases e; exact (H.out.low c0 (fun h => hne (by rw [h]; simp)) ⟨b, off, none⟩ rfl : b < r)) (fun hne => absurd HS2.out hne)
        have HFIN := Lib.hid hfin
        clear hrd2 hfin
        go_enter Tryz.func103, Tryz.ntmps103
        go_wp2_with (go_at_call 119; refine HN.out.mono ?_; rintro e w' ⟨rfl, rfl⟩)
        go_ret
        rw [HU.out]
        exact ⟨rfl, Ch.setCell (M := fun b => b = r) (Ch.refl _ _) (.inl rfl) _, HFIN.out⟩
      · have hrd2 := Rd.drop HRD.out n n2 (some ⟨b, off + n, none⟩) (.inl rfl)
        have hfin := H.out.set0 hrd2 (strict_lit _ _ _ _) (fun hne x l c e => by cases e; exact (H.out.low c0 (fun h => hne (by rw [h]; simp)) ⟨b, off, none⟩ rfl : b < r)) (fun hne => absurd HS2.out hne)
        have HFIN := Lib.hid hfin
        clear hrd2 hfin
        go_enter Tryz.func103, Tryz.ntmps103
        go_wp2_with (go_at_call 119; refine HN.out.mono ?_; rintro e w' ⟨rfl, rfl⟩)
        go_ret
        rw [HU.out]
        exact ⟨rfl, Ch.setCell (M := fun b => b = r) (Ch.refl _ _) (.inl rfl) _, HFIN.out⟩
  · have e0 : (er == 0) = false := by simp [h0]
    have e1 : (er != 0) = true := by simp [h0]
    have hu : uintR most s = (0, failR s er) := by unfold uintR; rw [hq]; simp [h0]
    have HU := Lib.hid hu
    clear hu hq h0
    go_enter Tryz.func103, Tryz.ntmps103
    go_wp2_with (go_at_call 119; refine HN.out.mono ?_; rintro e w' ⟨rfl, rfl⟩)
    refine (HF.out er).mono ?_
    rintro e w1 ⟨rfl, k1, k2⟩
    have K1 := Lib.hid k1; have K2 := Lib.hid k2; clear k1 k2
    go_wp2
    go_ret
    rw [HU.out]
    exact ⟨rfl, K1.out, K2.out⟩
def takeR (n : Nat) (s : RS) : List UInt8 × RS :=
  if s.1.length < n then ([], failR s 1) else (s.1.take n, (s.1.drop n, s.2))
def TakePost (r : Nat) (bs : List UInt8) (s : RS) (w : World) (e : Ending) (w' : World) : Prop := ∃ v, e = .returned v ∧ Only r w w' ∧ IsR w' r s ∧ Rd w' v bs
theorem rd_nil (w : World) : Rd w (.slice none 0 0) [] := ⟨none, 0, rfl, Nat.le_refl _, Nat.zero_le _, fun _ => rfl, fun x hx => by cases hx⟩
set_option maxRecDepth 20000 in
set_option maxHeartbeats 1000000 in
theorem take_any (r : Nat) (s : RS) (n : Nat) (w : World) (h : IsR w r s) (hn : n ≤ 9223372036854775807) :
    Calls Tryz.prog 77 #[RPtr r, .int .i64 n] w (TakePost r (takeR n s).1 (takeR n s).2 w) := by
  obtain ⟨ao, cap, c0, c1, f0, f1, hrd, hst⟩ := h.cells
  have H := Lib.hid h; have HRD := Lib.hid hrd
  have HF := Lib.hid (fail_any r s 1 w h)
  unfold RPtr at *
  by_cases hlt : s.1.length < n
  · have hu : takeR n s = ([], failR s 1) := by unfold takeR; rw [if_pos hlt]
    have HU := Lib.hid hu
    clear hu h hrd
    go_enter Tryz.func77, Tryz.ntmps77
    go_wp2_with (go_at_call 26; refine HF.out.mono ?_)
    rintro e w1 ⟨rfl, k1, k2⟩
    have K1 := Lib.hid k1; have K2 := Lib.hid k2; clear k1 k2
    go_wp2
    go_ret
    rw [HU.out]
    exact ⟨_, rfl, K1.out, K2.out, rd_nil _⟩
  · have hu : takeR n s = (s.1.take n, (s.1.drop n, s.2)) := by unfold takeR; rw [if_neg hlt]
    have HU := Lib.hid hu
    obtain ⟨ao', cap', he, g2, g3, g4, g5⟩ := hrd
    cases he
    have hs2 : s.2 ≠ 0 → s.1.drop n = [] := fun hne => by
      obtain ⟨lv, g1, g2, g3⟩ := h
      rw [g3 hne]; simp
    have HS2 := Lib.hid hs2
    clear hu hs2 h
    cases ao with
    | none =>
      obtain rfl : cap = 0 := g4 rfl
      have hl0 : s.1 = [] := List.eq_nil_of_length_eq_zero (by omega)
      obtain rfl : n = 0 := by omega
      obtain ⟨bs, er⟩ := s
      simp only at hl0
      subst hl0
      clear g4 g5 hst
      have hfin := H.out.set0 (rd_nil w) strict_nil (fun h => absurd rfl h) (fun _ => rfl)
      have HFIN := Lib.hid hfin; clear hfin
      go_enter Tryz.func77, Tryz.ntmps77
      go_wp2
      go_ret
      rw [HU.out]
      exact ⟨_, rfl, Ch.setCell (M := fun b => b = r) (Ch.refl _ _) (.inl rfl) _, HFIN.out, rd_nil _⟩
    | some x =>
      have hsp := hst _ rfl
      obtain ⟨b, off, sp⟩ := x
      simp only at hsp
      subst hsp
      clear g4 g5 hst
      have hle : n ≤ s.1.length := by omega
      have ht := Rd.take HRD.out n hle
      have ht' := ht.setCell c0 (noByte_slice _ _ _)
      unfold maxLen at g3
      by_cases hcap : cap = n
      · have hrd2 := Rd.drop HRD.out n hle (some ⟨b, off, none⟩) (.inr ⟨by omega, _, rfl⟩)
        subst hcap
        rw [show s.1.length - cap = 0 by omega, Nat.sub_self] at hrd2
        have hfin := H.out.set0 hrd2 (strict_lit _ _ _ _) (fun hne x l c e => by cases e; exact (H.out.low c0 (fun h => hne (by rw [h]; simp)) ⟨b, off, none⟩ rfl : b < r)) HS2.out
        have HFIN := Lib.hid hfin; have HT := Lib.hid (ht' (.slice (some ⟨b, off, none⟩) 0 0))
        clear hrd2 hfin ht' ht
        go_enter Tryz.func77, Tryz.ntmps77
        go_wp2
        go_ret
        rw [HU.out]
        exact ⟨_, rfl, Ch.setCell (M := fun b => b = r) (Ch.refl _ _) (.inl rfl) _, HFIN.out, HT.out⟩
      · have hrd2 := Rd.drop HRD.out n hle (some ⟨b, off + n, none⟩) (.inl rfl)
        have hfin := H.out.set0 hrd2 (strict_lit _ _ _ _) (fun hne x l c e => by cases e; exact (H.out.low c0 (fun h => hne (by rw [h]; simp)) ⟨b, off, none⟩ rfl : b < r)) HS2.out
        have HFIN := Lib.hid hfin; have HT := Lib.hid (ht' (.slice (some ⟨b, off + n, none⟩) (s.1.length - n) (cap - n)))
        clear hrd2 hfin ht' ht
        go_enter Tryz.func77, Tryz.ntmps77
        go_wp2
        go_ret
        rw [HU.out]
        exact ⟨_, rfl, Ch.setCell (M := fun b => b = r) (Ch.refl _ _) (.inl rfl) _, HFIN.out, HT.out⟩
def textR (m : Nat) (s : RS) : List UInt8 × RS := takeR (uintR m s).1 (uintR m s).2
set_option maxRecDepth 20000 in
set_option maxHeartbeats 1000000 in
theorem text_any (r : Nat) (s : RS) (m : Int) (w : World) (h : IsR w r s) (hm : m ≤ 9223372036854775807) :
    Calls Tryz.prog 110 #[RPtr r, .int .i64 m] w (RPost r (strV (textR m.toNat s).1) (textR m.toNat s).2 w) := by
  have HU := Lib.hid (uint_any r s m.toNat w h)
  have hle : (uintR m.toNat s).1 ≤ 9223372036854775807 := Nat.le_trans (uintR_le _ _) (by omega)
  have HT := fun w' (h' : IsR w' r (uintR m.toNat s).2) => take_any r (uintR m.toNat s).2 (uintR m.toNat s).1 w' h' hle
  have HTX : textR m.toNat s = takeR (uintR m.toNat s).1 (uintR m.toNat s).2 := rfl
  rw [HTX]
  clear HTX
  generalize takeR (uintR m.toNat s).1 (uintR m.toNat s).2 = tk at *
  generalize hus : (uintR m.toNat s).2 = us at *
  generalize hun : (uintR m.toNat s).1 = un at *
  have HT := Lib.hid HT
  clear hus hun h
  unfold RPtr at *
  by_cases h0 : 0 ≤ m
  · obtain ⟨k, rfl⟩ := Int.eq_ofNat_of_zero_le h0
    rw [Int.toNat_natCast] at HU
    clear h0
    go_enter Tryz.func110, Tryz.ntmps110
    go_wp2_with (go_at_call 103; refine HU.out.mono ?_)
    rintro e w1 ⟨rfl, k1, k2⟩
    have K1 := Lib.hid k1; have K2 := Lib.hid k2; clear k1 k2
    go_wp2_with (go_at_call 77; refine (HT.out _ K2.out).mono ?_)
    rintro e w2 ⟨v, rfl, k3, k4, k5⟩
    have K3 := Lib.hid k3; have K4 := Lib.hid k4
    obtain ⟨ao, cap, rfl⟩ := k5.shape
    have hcv := run_toString (P := Tryz.prog) k5 (src := 22) (dst := 9) Tryz.underlying22 Tryz.underlying5 Tryz.underlying9
    clear k3 k4 k5
    go_wp2
    go_ret
    exact ⟨rfl, K1.out.trans K3.out, K4.out⟩
  · have hk : m.toNat = 0 := by omega
    rw [hk] at HU
    clear hk
    have hneg : m < 0 := by omega
    clear h0
    go_enter Tryz.func110, Tryz.ntmps110
    go_wp2_with (go_at_call 103; refine HU.out.mono ?_)
    rintro e w1 ⟨rfl, k1, k2⟩
    have K1 := Lib.hid k1; have K2 := Lib.hid k2; clear k1 k2
    go_wp2_with (go_at_call 77; refine (HT.out _ K2.out).mono ?_)
    rintro e w2 ⟨v, rfl, k3, k4, k5⟩
    have K3 := Lib.hid k3; have K4 := Lib.hid k4
    obtain ⟨ao, cap, rfl⟩ := k5.shape
    have hcv := run_toString (P := Tryz.prog) k5 (src := 22) (dst := 9) Tryz.underlying22 Tryz.underlying5 Tryz.underlying9
    clear k3 k4 k5
    go_wp2
    go_ret
    exact ⟨rfl, K1.out.trans K3.out, K4.out⟩
set_option maxRecDepth 20000 in
set_option maxHeartbeats 1000000 in
theorem err_any (r : Nat) (s : RS) (w : World) (h : IsR w r s) :
    Calls Tryz.prog 14 #[RPtr r] w fun e w' => e = .returned (.int .i64 s.2) ∧ w = w' := by
  obtain ⟨ao, cap, c0, c1, f0, f1, hrd, hst⟩ := h.cells
  clear hrd h hst
  unfold RPtr
  go_enter Tryz.func14, Tryz.ntmps14
  go_wp2
  go_ret
  exact ⟨rfl, rfl⟩
def endR (s : RS) : Int := if s.2 = 0 ∧ 0 < s.1.length then 2 else s.2
set_option maxRecDepth 20000 in
set_option maxHeartbeats 1000000 in
theorem end_any (r : Nat) (s : RS) (w : World) (h : IsR w r s) :
    Calls Tryz.prog 23 #[RPtr r] w fun e w' => e = .returned (.int .i64 (endR s)) ∧ w = w' := by
  obtain ⟨ao, cap, c0, c1, f0, f1, hrd, hst⟩ := h.cells
  clear hrd h hst
  unfold RPtr
  by_cases h1 : s.2 = 0
  · have e1 : (s.2 == 0) = true := by simp [h1]
    by_cases h2 : 0 < s.1.length
    · have hE : endR s = 2 := by unfold endR; rw [if_pos ⟨h1, h2⟩]
      rw [hE]
      have H1 := Lib.hid h1; clear h1 hE
      go_enter Tryz.func23, Tryz.ntmps23
      go_wp2
      go_ret
      exact ⟨rfl, rfl⟩
    · have hE : endR s = s.2 := by unfold endR; rw [if_neg (fun h => h2 h.2)]
      rw [hE]
      have H1 := Lib.hid h1; clear h1 hE
      go_enter Tryz.func23, Tryz.ntmps23
      go_wp2
      go_ret
      exact ⟨rfl, rfl⟩
  · have e1 : (s.2 == 0) = false := by simp [h1]
    have hE : endR s = s.2 := by unfold endR; rw [if_neg (fun h => h1 h.1)]
    rw [hE]
    clear h1 hE
    go_enter Tryz.func23, Tryz.ntmps23
    go_wp2
    go_ret
    exact ⟨rfl, rfl⟩
end Go.Proofs.YtegclfpmgilnpaaGreat
namespace Go.Proofs.YtegclfpmgilnpaaGreat
open Go.RowKit Go.Lac
set_option maxRecDepth 20000 in
set_option maxHeartbeats 1000000 in
theorem clone_any (vb : Value) (bs : List UInt8) (w : World) (hb : Rd w vb bs) (hl : bs.length ≤ 2 ^ 47) :
    Calls Tryz.prog 25 #[vb] w (Made 5 bs w) := by
  obtain ⟨i, hi, hz, hs, hby⟩ := info_parts infoU8
  have HB := Lib.hid hb
  obtain ⟨ao, cap, hv, h1, h2, h3, h4⟩ := hb
  subst hv
  cases ao with
  | none =>
    obtain rfl : cap = 0 := h3 rfl
    have hbs : bs = [] := List.eq_nil_of_length_eq_zero (by omega)
    subst hbs
    clear h1 h2 h3 h4
    have hnil := Lib.run_eql_slice_nil (P := Tryz.prog) w 22 5 none 0 0 0 0 Tryz.underlying22
    go_enter Tryz.func25, Tryz.ntmps25
    go_wp2
    go_ret
    exact ⟨_, rfl, Ch.refl _ _, World.ownsRow_nil _ _ _ _⟩
  | some x =>
    clear h3 h4 h1 h2
    have hx : Ext w (w.alloc (.cells #[] 5)) := (Ch.refl _ _).alloc _
    have HO := Lib.hid (World.ownsRow_lit (base := w.heap.size) (e := 5) (size := 1) w #[] 0 (Nat.le_refl _) (Nat.zero_le _) rfl)
    have HX := Lib.hid hx
    have HL := Lib.hid hl
    clear hx hl
    have hnil := Lib.run_eql_slice_nil (P := Tryz.prog) w 22 5 (some x) bs.length cap 0 0 Tryz.underlying22
    go_enter Tryz.func25, Tryz.ntmps25
    go_wp2_with (at_builtin; refine wpList_append_sl _ rfl _ _ 22 rfl w.heap.size 5 i (.int .u8 0) 1 1 Tryz.underlying22 hi hz hs hby rfl (by decide) _ _ _ rfl HO.out _ _ _ rfl (HB.out.ext HX.out) (by rw [cellsB_length, Nat.mul_one]) (cellsB_one _) (by have := HL.out; omega) (by have := HL.out; unfold maxLen; omega) (by simp) ?_)
    intro v' w' hown hgrow
    have hfin : Made 5 bs w (.returned v') w' := ⟨v', rfl, HX.out.grown hgrow (fun k hk => by simp [Value.ownBlock] at hk; omega), by simpa using hown⟩
    have HF := Lib.hid hfin; clear hfin hown hgrow
    go_wp2
    go_ret
    exact HF.out
theorem strict_owns {w : World} {base : Nat} {e : TypeId} {size : Nat} {v : Value} {n : Nat} {xs : List Value} (h : w.ownsRow base e size v n xs) : Strict v := by
  rcases h.2 with ⟨rfl, rfl⟩ | ⟨g, cap, cur, rfl, _⟩
  · exact strict_nil
  · exact strict_lit _ _ _ _
theorem rd_low {w : World} {v : Value} {bs : List UInt8} (h : Rd w v bs) (hne : bs ≠ []) : ∀ x l c, v = .slice (some x) l c → x.block < w.heap.size := by
  intro x l c e
  obtain ⟨ao, cap, h1, h2, h3, h4, h5⟩ := h
  rw [h1] at e
  cases e
  have hn : 0 < bs.length := List.length_pos_iff.2 hne
  obtain ⟨b, off, rfl, h6⟩ := h5 x rfl 0 _ (by rw [cellsB, List.getElem?_map, List.getElem?_eq_getElem hn]; rfl)
  unfold World.cell? at h6
  rcases hb : w.heap[b]? with _ | o
  · simp [hb] at h6
  · exact (Array.getElem?_eq_some_iff.1 hb).1
def ReadPost (bs : List UInt8) (w : World) (e : Ending) (w' : World) : Prop := ∃ r, e = .returned (RPtr r) ∧ Ext w w' ∧ IsR w' r (bs, 0) ∧ w.heap.size ≤ r
set_option maxRecDepth 20000 in
set_option maxHeartbeats 1000000 in
theorem read_any (vb : Value) (bs : List UInt8) (w : World) (hb : Rd w vb bs) (hl : bs.length ≤ 2 ^ 47) :
    Calls Tryz.prog 7 #[vb] w (ReadPost bs w) := by
  have HC := Lib.hid (clone_any vb bs w hb hl)
  obtain ⟨ao, cap, rfl⟩ := hb.shape
  clear hb hl
  go_enter Tryz.func7, Tryz.ntmps7
  go_wp2_with (go_at_call 25; refine HC.out.mono ?_)
  rintro e w1 ⟨s, rfl, hx, ho⟩
  have HX := Lib.hid hx; have HR := Lib.hid (Rd.ofOwns ho)
  have HST := Lib.hid (strict_owns ho)
  obtain ⟨ao', cap', rfl⟩ := owns_shape ho
  clear hx ho
  go_wp2
  go_ret
  refine ⟨w1.heap.size, rfl, HX.out.alloc _, ⟨_, heap_alloc_new w1 _, ⟨HR.out.ext ((Ch.refl _ _).alloc _), HST.out, rd_low HR.out⟩, fun h => absurd rfl h⟩, HX.out.size⟩
def zag (u : Nat) : Int := if u % 2 = 1 then -((u / 2 : Nat) : Int) - 1 else ((u / 2 : Nat) : Int)
theorem zag_zig (x : Int) : zag (Lib.zigzag x) = x := by
  unfold zag Lib.zigzag
  by_cases h : 0 ≤ x
  · rw [if_pos h, if_neg (by omega)]; omega
  · rw [if_neg h, if_pos (by omega)]; omega
theorem zig_zag (u : Nat) : Lib.zigzag (zag u) = u := by
  unfold zag Lib.zigzag
  by_cases h : u % 2 = 1
  · rw [if_pos h, if_neg (by omega)]; omega
  · rw [if_neg h, if_pos (by omega)]; omega
set_option maxRecDepth 20000 in
set_option maxHeartbeats 1000000 in
theorem unfold_any (u : Nat) (w : World) (hu : u < 2 ^ 64) :
    Calls Tryz.prog 130 #[.int .u64 u] w fun e w' => e = .returned (.int .i64 (zag u)) ∧ w = w' := by
  have ha := Lib.u64_and1 (u : Int) (by omega) (by omega)
  have hwr : IntKind.i64.wrap ((u : Int) / 2) = (u : Int) / 2 := by rw [IntKind.wrap_i64]; omega
  by_cases h1 : u % 2 = 1
  · have e1 : (((u : Int) % 2) == 1) = true := by simp; omega
    have hz : zag u = -((u : Int) / 2) - 1 := by unfold zag; rw [if_pos h1]; omega
    have hn := Lib.i64_not (u / 2) (by omega)
    have hc : ((u / 2 : Nat) : Int) = (u : Int) / 2 := by omega
    rw [hc] at hn
    rw [hz]
    clear hc hz h1 hu
    go_enter Tryz.func130, Tryz.ntmps130
    go_wp2
    go_ret
    exact ⟨rfl, rfl⟩
  · have e1 : (((u : Int) % 2) == 1) = false := by simp; omega
    have hz : zag u = (u : Int) / 2 := by unfold zag; rw [if_neg h1]; omega
    rw [hz]
    clear hz h1 hu
    go_enter Tryz.func130, Tryz.ntmps130
    go_wp2
    go_ret
    exact ⟨rfl, rfl⟩
def intR (s : RS) : Int × RS := (zag (uintR 18446744073709551615 s).1, (uintR 18446744073709551615 s).2)
set_option maxRecDepth 20000 in
set_option maxHeartbeats 1000000 in
theorem int_any (r : Nat) (s : RS) (w : World) (h : IsR w r s) :
    Calls Tryz.prog 121 #[RPtr r] w (RPost r (.int .i64 (intR s).1) (intR s).2 w) := by
  have HU := uint_any r s 18446744073709551615 w h
  have HZ := fun w' => unfold_any (uintR 18446744073709551615 s).1 w' (uintR_lt _ _)
  unfold intR
  generalize (uintR 18446744073709551615 s).1 = u at *
  generalize (uintR 18446744073709551615 s).2 = s' at *
  have HU := Lib.hid HU
  have HZ := Lib.hid HZ
  clear h
  unfold RPtr at *
  go_enter Tryz.func121, Tryz.ntmps121
  go_wp2_with (go_at_call 103; refine HU.out.mono ?_)
  rintro e w1 ⟨rfl, k1, k2⟩
  have K1 := Lib.hid k1; have K2 := Lib.hid k2; clear k1 k2
  go_wp2_with (go_at_call 130; refine (HZ.out _).mono ?_; rintro e w' ⟨rfl, rfl⟩)
  go_ret
  exact ⟨rfl, K1.out, K2.out⟩
def byteR (s : RS) : Nat × RS := (match (takeR 1 s).1 with | [] => 0 | b :: _ => b.toNat, (takeR 1 s).2)
set_option maxRecDepth 20000 in
set_option maxHeartbeats 1000000 in
theorem byte_any (r : Nat) (s : RS) (w : World) (h : IsR w r s) :
    Calls Tryz.prog 52 #[RPtr r] w (RPost r (.int .u8 (byteR s).1) (byteR s).2 w) := by
  have HT := take_any r s 1 w h (by omega)
  unfold byteR
  generalize (takeR 1 s).1 = bs at *
  generalize (takeR 1 s).2 = s' at *
  have HT := Lib.hid HT
  clear h
  unfold RPtr at *
  go_enter Tryz.func52, Tryz.ntmps52
  go_wp2_with (go_at_call 77; refine HT.out.mono ?_)
  rintro e w1 ⟨v, rfl, k1, k2, k3⟩
  have K1 := Lib.hid k1; have K2 := Lib.hid k2; clear k1 k2
  obtain ⟨ao, cap, rfl⟩ := k3.shape
  cases bs with
  | nil =>
    clear k3
    go_wp2
    go_ret
    exact ⟨rfl, K1.out, K2.out⟩
  | cons b l =>
    obtain ⟨blk, off, rfl, g1, g2, g3⟩ := cell_of_rd k3 rfl (by simp)
    have hc := g3 0 (by simp)
    have e1 : (((b :: l).length : Int) == 0) = false := by simp; omega
    have e2 : (0 : Int) < ((b :: l).length : Int) := by simp
    have e3 : 0 < (b :: l).length := by simp
    clear k3 g3 g1 g2
    simp only [List.getElem_cons_zero, Nat.add_zero] at hc
    generalize (b :: l).length = n at *
    go_wp2
    go_ret
    exact ⟨rfl, K1.out, K2.out⟩
end Go.Proofs.YtegclfpmgilnpaaGreat
namespace Go.Proofs.YtegclfpmgilnpaaGreat
open Go.RowKit Go.Lac
def wordV : List UInt8 → Nat
  | [] => 0
  | b :: l => b.toNat + 256 * wordV l
theorem wordV_lt : ∀ l : List UInt8, wordV l < 256 ^ l.length
  | [] => by simp [wordV]
  | b :: l => by
    have h1 := wordV_lt l
    have h2 := UInt8.toNat_lt b
    simp only [wordV, List.length_cons, Nat.pow_succ]
    omega
theorem wordV_snoc : ∀ (l : List UInt8) (b : UInt8), wordV (l ++ [b]) = wordV l + b.toNat * 256 ^ l.length
  | [], b => by simp [wordV]
  | a :: l, b => by
    simp only [List.cons_append, wordV, wordV_snoc l b, List.length_cons, Nat.pow_succ]
    rw [Nat.mul_add]
    have : 256 * (b.toNat * 256 ^ l.length) = b.toNat * (256 ^ l.length * 256) := by
      rw [Nat.mul_comm (256 ^ l.length), ← Nat.mul_assoc, ← Nat.mul_assoc, Nat.mul_comm 256]
    omega
theorem wordV_take (l : List UInt8) (k : Nat) (h : k < l.length) : wordV (l.take (k + 1)) = wordV (l.take k) + l[k].toNat * 256 ^ k := by
  rw [List.take_succ_eq_append_getElem h, wordV_snoc]
  simp [List.length_take, Nat.min_eq_left (Nat.le_of_lt h)]
theorem byte_eq {v d n : Nat} (hd : d < 256) (h1 : v < 256 ^ n) (h : v + d * 256 ^ n < 2 ^ 64) :
    bits .or .u64 (v : Int) (IntKind.u64.wrap ((d : Int) * 2 ^ (8 * n))) = ((v + d * 256 ^ n : Nat) : Int) := by
  have hp : (256 : Nat) ^ n = 2 ^ (8 * n) := by rw [Nat.pow_mul]
  have e1 : ((d : Nat) : Int) * 2 ^ (8 * n) = ((d * 256 ^ n : Nat) : Int) := by
    rw [hp, Int.natCast_mul, Int.natCast_pow]; rfl
  rw [e1, wrap_u64_of (n := ((d * 256 ^ n : Nat) : Int)) (by omega) (by omega), u64_or_nat _ _ (by omega) (by omega), Nat.or_comm, nat_join (8 * n) _ _ (by rw [hp]; exact Nat.mul_mod_left _ _) (by rw [← hp]; exact h1), Nat.add_comm]
def wordR (s : RS) : Nat × RS := (wordV (takeR 8 s).1, (takeR 8 s).2)
theorem takeR_length (n : Nat) (s : RS) : (takeR n s).1.length ≤ n := by
  unfold takeR
  split
  · exact Nat.zero_le _
  · exact List.length_take_le _ _
set_option maxRecDepth 20000 in
set_option maxHeartbeats 1000000 in
theorem word_any (r : Nat) (s : RS) (w : World) (h : IsR w r s) :
    Calls Tryz.prog 120 #[RPtr r] w (RPost r (.int .u64 (wordR s).1) (wordR s).2 w) := by
  have HT := take_any r s 8 w h (by omega)
  have hl := takeR_length 8 s
  unfold wordR
  generalize (takeR 8 s).1 = bs at *
  generalize (takeR 8 s).2 = s' at *
  have HT := Lib.hid HT
  clear h
  unfold RPtr at *
  go_enter Tryz.func120, Tryz.ntmps120
  go_wp2_with (go_at_call 77; refine HT.out.mono ?_)
  rintro e w1 ⟨v, rfl, k1, k2, k3⟩
  have K1 := Lib.hid k1; have K2 := Lib.hid k2; clear k1 k2
  obtain ⟨ao, cap, rfl⟩ := k3.shape
  have K3 := Lib.hid k3; clear k3
  go_wp2
  go_loop [3, 9] (fun x ix => ∃ k : Nat, k ≤ bs.length ∧ ix = .int .i64 k ∧ x = .int .u64 (wordV (bs.take k) : Nat)) (fun _ ix => bs.length - (intOf ix).toNat)
  case atStart => exact ⟨0, Nat.zero_le _, rfl, rfl⟩
  case round =>
    obtain ⟨k, hk, rfl, rfl⟩ := hrel
    by_cases hlt : k < bs.length
    · obtain ⟨b, off, rfl, g1, g2, g3⟩ := cell_of_rd K3.out rfl (by omega)
      have hc := g3 k hlt
      have hd := UInt8.toNat_lt bs[k]
      have hw := wordV_take bs k hlt
      have hv := wordV_lt (bs.take k)
      have hv1 := wordV_lt (bs.take (k + 1))
      rw [hw] at hv1
      rw [List.length_take, Nat.min_eq_left (by omega)] at hv hv1
      have hle : 256 ^ (k + 1) ≤ 256 ^ 8 := Nat.pow_le_pow_right (by omega) (by omega)
      have hq := byte_eq hd hv (Nat.lt_of_lt_of_le hv1 (Nat.le_trans hle (by decide)))
      have HW := Lib.hid hw
      clear hw hv hv1 hle g3
      generalize bs[k].toNat = d at *
      generalize wordV (bs.take k) = x at *
      generalize x + d * 256 ^ k = x' at *
      unfold maxLen at g2
      go_wp2
      go_round
      case rel => exact ⟨k + 1, by omega, by go_num, by rw [HW.out]⟩
      case measure => simp [intOf]; omega
    · have hkn : k = bs.length := by omega
      subst hkn
      have hfull : bs.take bs.length = bs := List.take_of_length_le (Nat.le_refl _)
      rw [hfull]
      clear hfull
      go_wp2
      go_ret
      exact ⟨rfl, K1.out, K2.out⟩
end Go.Proofs.YtegclfpmgilnpaaGreat
namespace Go.Proofs.YtegclfpmgilnpaaGreat
open Go.RowKit Go.Lac
def GrowPost (n : Nat) (w : World) (e : Ending) (w' : World) : Prop :=
  ∃ s, e = .returned s ∧ Ext w w' ∧ w'.ownsRow w.heap.size 5 1 s 0 [] ∧ ∃ ao cap, s = .slice ao 0 cap
theorem growPost_made (n : Nat) (w : World) (hm : grownCap w n 0 5 ≤ maxLen) (hn : n ≤ grownCap w n 0 5) (z : Value) (hz : z.cells.size = 1) :
    GrowPost n w (.returned (.slice (some ⟨w.heap.size, 0, none⟩) 0 (grownCap w n 0 5)))
      (w.drew.alloc (.cells (Builtin.zeroCells z.cells n ++ Builtin.zeroCells z.cells (grownCap w n 0 5 - n)) 5)) := by
  refine ⟨_, rfl, (Ch.refl _ w).drew.alloc _, ?_, _, _, rfl⟩
  exact World.ownsRow_made w.drew _ _ (Nat.le_refl _) hm (by simp [size_zeroCells, hz]; omega)
set_option maxRecDepth 20000 in
set_option maxHeartbeats 400000 in
theorem grow_nil (n : Nat) (w : World) (hn : n ≤ 2 ^ 47) : Calls Tryz.prog 94 #[.slice none 0 0, .int .i64 n] w (GrowPost n w) := by
  obtain ⟨i, hi, hz, hs, hb⟩ := info_parts infoU8
  by_cases h0 : n = 0
  · subst h0
    go_enter Tryz.func94, Tryz.ntmps94
    go_wp2
    go_ret
    exact ⟨_, rfl, Ch.refl _ _, World.ownsRow_nil _ _ _ _, _, _, rfl⟩
  · have hpos : 0 < n := by omega
    have happ := Lib.run_append_nil_zeros (P := Tryz.prog) w 22 3 22 5 i (.int .u8 0) .i64 .i64 Tryz.underlying22 Tryz.underlying3 hi hz n hpos (by omega) (by omega) (by rw [hb]; omega)
    have hfin := growPost_made n w (grownCap_le_maxLen _ _ _ _ (by unfold maxLen; omega)) (grownCap_ge _ _ _ _) (.int .u8 0) rfl
    have Hf := Lib.hid hfin; clear hfin
    have hn' : n ≤ 140737488355328 := by omega
    clear hn h0
    have hp : (0 : Int) < (n : Int) := by omega
    have hcap := grownCap_ge w n 0 5
    have hcm := grownCap_le_maxLen w n 0 5 (by unfold maxLen; omega)
    unfold maxLen at hcm
    go_enter Tryz.func94, Tryz.ntmps94
    go_wp2_with (at_builtin; refine Lib.wpList_append_run _ rfl _ _ _ _ rfl _ _ rfl rfl _ _ happ ?_)
    go_ret
    exact Hf.out
def total (bss : List (List UInt8)) : Nat := (bss.map List.length).sum
theorem total_flatten (bss : List (List UInt8)) : bss.flatten.length = total bss := by simp [total, List.length_flatten]
theorem total_take_succ (bss : List (List UInt8)) (k : Nat) (h : k < bss.length) : total (bss.take (k + 1)) = total (bss.take k) + bss[k].length := by
  unfold total
  rw [List.take_succ_eq_append_getElem h, List.map_append, List.sum_append]
  simp only [List.map_cons, List.map_nil, List.sum_cons, List.sum_nil, Nat.add_zero]
theorem flatten_take_succ (bss : List (List UInt8)) (k : Nat) (h : k < bss.length) : (bss.take (k + 1)).flatten = (bss.take k).flatten ++ bss[k] := by
  rw [List.take_succ_eq_append_getElem h, List.flatten_append]
  simp only [List.flatten_cons, List.flatten_nil, List.append_nil]
theorem total_take_le (bss : List (List UInt8)) (k : Nat) : total (bss.take k) ≤ total bss := by
  have h : total bss = total (bss.take k) + total (bss.drop k) := by
    conv => lhs; rw [← List.take_append_drop k bss]
    unfold total
    rw [List.map_append, List.sum_append]
  omega
def RdAll (w : World) (b off : Nat) (bss : List (List UInt8)) : Prop :=
  ∀ k (h : k < bss.length), ∃ v, w.cell? ⟨b, off + k, none⟩ = some v ∧ Rd w v bss[k]
theorem RdAll.ext {w w' : World} {b off : Nat} {bss : List (List UInt8)} (h : RdAll w b off bss) (k : Ext w w') : RdAll w' b off bss := fun i hi => by
  obtain ⟨v, h1, h2⟩ := h i hi
  exact ⟨v, k.cell (fun f => f) v h1, h2.ext k⟩
def CatRel (bss : List (List UInt8)) (w : World) (k : Nat) (s : Value) (wr : World) : Prop :=
  Ext w wr ∧ wr.ownsRow w.heap.size 5 1 s (total (bss.take k)) (cellsB (bss.take k).flatten)
theorem CatRel.next {bss : List (List UInt8)} {w wr w' : World} {k : Nat} {s s' : Value} (h : CatRel bss w k s wr) (hk : k < bss.length)
    (h6 : wr.grownBy w' s.ownBlock) (h7 : w'.ownsRow w.heap.size 5 1 s' (total (bss.take k) + bss[k].length) (cellsB (bss.take k).flatten ++ cellsB bss[k])) :
    CatRel bss w (k + 1) s' w' := by
  refine ⟨h.1.grown h6 fun j hj => ?_, ?_⟩
  · have := (h.2.lt j hj).1
    omega
  · rw [total_take_succ bss k hk, flatten_take_succ bss k hk, cellsB_append]
    exact h7
set_option maxRecDepth 20000 in
set_option maxHeartbeats 1000000 in
theorem concat_any (bss : List (List UInt8)) (b off cap : Nat) (w : World) (hv : RdAll w b off bss) (ht : total bss ≤ 2 ^ 47) (hl : bss.length ≤ 2 ^ 47) :
    Calls Tryz.prog 67 #[.slice (some ⟨b, off, none⟩) bss.length cap] w (Made 5 bss.flatten w) := by
  obtain ⟨i, hi, hz, hs, hb⟩ := info_parts infoU8
  have HV := Lib.hid hv; clear hv
  have ht' : total bss ≤ 140737488355328 := by omega
  have hl' : bss.length ≤ 140737488355328 := by omega
  clear ht hl
  generalize hn : bss.length = n at hl'
  have Hn := Lib.hid hn; clear hn
  go_enter Tryz.func67, Tryz.ntmps67
  go_wp2
  go_loop [3, 11] (fun sz ix => ∃ k : Nat, k ≤ n ∧ ix = .int .i64 k ∧ sz = .int .i64 (total (bss.take k) : Nat)) (fun _ ix => n - (intOf ix).toNat)
  case atStart => exact ⟨0, Nat.zero_le _, rfl, by simp [total]⟩
  case round =>
    obtain ⟨k, hk, rfl, rfl⟩ := hrel
    have htk := total_take_le bss k
    by_cases hlt : k < n
    · have hkl : k < bss.length := by rw [Hn.out]; exact hlt
      obtain ⟨v, hc, ao, cp, rfl, h1, h2, h3, h4⟩ := HV.out k hkl
      have htk1 := total_take_le bss (k + 1)
      have hsucc := total_take_succ bss k hkl
      have Hs := Lib.hid hsucc
      rw [hsucc] at htk1
      clear hsucc h1 h2 h3 h4
      generalize (bss[k]'hkl).length = lk at *
      clear hkl
      go_wp2
      go_round
      case rel => exact ⟨k + 1, by omega, by go_num, by rw [Hs.out]; go_num⟩
      case measure => simp [intOf]; omega
    · have hkn : k = n := by omega
      subst hkn
      have hfull : bss.take k = bss := List.take_of_length_le (by rw [Hn.out]; exact Nat.le_refl _)
      rw [hfull]
      clear hfull
      go_wp2_with (go_at_call 94; refine (grow_nil (total bss) _ (by omega)).mono ?_)
      rintro e w1 ⟨s, rfl, hx1, ho1, ao, cp, rfl⟩
      have HX := Lib.hid hx1; have HO := Lib.hid ho1; clear hx1 ho1
      have HV1 := Lib.hid (HV.out.ext HX.out)
      go_wp2
      go_loopw [6, 27] (fun s ix wr => ∃ j : Nat, j ≤ k ∧ ix = .int .i64 j ∧ CatRel bss w j s wr) (fun _ ix _ => k - (intOf ix).toNat)
      case atStart => exact ⟨0, Nat.zero_le _, rfl, HX.out, HO.out⟩
      case round =>
        obtain ⟨j, hj, rfl, hr⟩ := hrel
        have HR := Lib.hid hr; clear hr
        have htj := total_take_le bss j
        by_cases hlt : j < k
        · have hkl : j < bss.length := by rw [Hn.out]; exact hlt
          obtain ⟨v, hc, hrd⟩ := (HV.out.ext HR.out.1) j hkl
          have htk1 := total_take_le bss (j + 1)
          have hsucc := total_take_succ bss j hkl
          rw [hsucc] at htk1
          clear hsucc
          have Hrd := Lib.hid hrd
          obtain ⟨ao', cp', hv', h1, h2, h3, h4⟩ := hrd
          clear h1 h2
          have H4 := Lib.hid h4; have H3 := Lib.hid h3; clear h3 h4
          generalize hlk : (bss[j]'hkl).length = lk at hv' htk1
          have Hlk := Lib.hid hlk; clear hlk
          subst hv'
          go_wp2_with (at_builtin; refine wpList_append_sl _ rfl _ _ 22 rfl w.heap.size 5 i (.int .u8 0) 1 1 Tryz.underlying22 hi hz hs hb rfl (by decide) _ _ _ rfl HR.out.2 _ _ _ rfl (by have := Hrd.out; unfold Rd at this; rw [Hlk.out] at this; exact this) (by rw [cellsB_length, Hlk.out]; omega) (cellsB_one _) (by omega) (by unfold maxLen; omega) HR.out.1.size ?_)
          intro v' w' hown hgrow
          have hfin := CatRel.next HR.out hkl hgrow (by rw [Hlk.out]; exact hown)
          have Hf := Lib.hid hfin; clear hfin hown hgrow
          go_wp2
          go_roundw
          case rel => exact ⟨j + 1, by omega, by go_num, Hf.out⟩
          case measure => simp [intOf]; omega
        · have hjk : j = k := by omega
          subst hjk
          have hfull : bss.take j = bss := List.take_of_length_le (by rw [Hn.out]; exact Nat.le_refl _)
          have HR' := HR.out
          unfold CatRel at HR'
          rw [hfull] at HR'
          have HR2 := Lib.hid HR'
          clear HR' hfull
          go_wp2
          go_ret
          exact ⟨_, rfl, HR2.out.1, by rw [total_flatten]; exact HR2.out.2⟩
end Go.Proofs.YtegclfpmgilnpaaGreat
namespace Go.Proofs.YtegclfpmgilnpaaGreat
open Go.RowKit Go.Lac
theorem sev_length_le (n : Nat) : ∀ v, v < 128 ^ (n + 1) → (sev v).length ≤ n + 1 := by
  induction n with
  | zero => intro v hv; rw [sev_small (by simpa using hv)]; simp
  | succ n ih =>
    intro v hv
    by_cases h : v < 128
    · rw [sev_small h]; simp
    · rw [sev_big h]
      have := ih (v / 128) (by rw [Nat.div_lt_iff_lt_mul (by omega)]; rw [Nat.pow_succ] at hv; exact hv)
      simp only [List.length_cons]; omega
theorem sev_length_10 (v : Nat) (h : v < 2 ^ 64) : (sev v).length ≤ 10 := sev_length_le 9 v (Nat.lt_of_lt_of_le h (by decide))
theorem rdAll_two {w : World} {a b : Value} {x y : List UInt8} (ha : Rd w a x) (hb : Rd w b y) (E : TypeId) : RdAll (w.alloc (.cells #[a, b] E)) w.heap.size 0 [x, y] := by
  have hx : Ext w (w.alloc (.cells #[a, b] E)) := (Ch.refl _ _).alloc _
  intro k hk
  match k, hk with
  | 0, _ => exact ⟨a, by rw [World.cell?_alloc_new w]; rfl, ha.ext hx⟩
  | 1, _ => exact ⟨b, by rw [World.cell?_alloc_new w]; rfl, hb.ext hx⟩
theorem rdAll_three {w : World} {a b c : Value} {x y z : List UInt8} (ha : Rd w a x) (hb : Rd w b y) (hc : Rd w c z) (E : TypeId) : RdAll (w.alloc (.cells #[a, b, c] E)) w.heap.size 0 [x, y, z] := by
  have hx : Ext w (w.alloc (.cells #[a, b, c] E)) := (Ch.refl _ _).alloc _
  intro k hk
  match k, hk with
  | 0, _ => exact ⟨a, by rw [World.cell?_alloc_new w]; rfl, ha.ext hx⟩
  | 1, _ => exact ⟨b, by rw [World.cell?_alloc_new w]; rfl, hb.ext hx⟩
  | 2, _ => exact ⟨c, by rw [World.cell?_alloc_new w]; rfl, hc.ext hx⟩
set_option maxRecDepth 20000 in
set_option maxHeartbeats 400000 in
theorem putUint_any (vb : Value) (b : List UInt8) (v : Nat) (w : World) (hb : Rd w vb b) (hl : b.length ≤ 2 ^ 46) (hv : v < 2 ^ 64) :
    Calls Tryz.prog 92 #[vb, .int .u64 v] w (Made 5 (b ++ sev v) w) := by
  have HB := Lib.hid hb; have HV := Lib.hid hv; have HL := Lib.hid hl
  obtain ⟨ao, cap, rfl⟩ := hb.shape
  clear hb hv hl
  go_enter Tryz.func92, Tryz.ntmps92
  go_wp2_with (go_at_call 117; refine (sevens_any v _ HV.out).mono ?_)
  rintro e w1 ⟨s, rfl, hx1, ho1⟩
  have HX := Lib.hid hx1; have HO := Lib.hid ho1
  obtain ⟨ao', cap', rfl⟩ := owns_shape ho1
  clear hx1 ho1
  have hcat := concat_any [b, sev v] w1.heap.size 0 2 _ (rdAll_two (HB.out.ext HX.out) (Rd.ofOwns HO.out) 22) (by have := sev_length_10 v HV.out; have := HL.out; simp [total]; omega) (by simp)
  have HC := Lib.hid hcat; clear hcat
  go_wp2_with (go_at_call 67; refine HC.out.mono ?_)
  rintro e w2 ⟨s2, rfl, hx2, ho2⟩
  have hfin : Made 5 (b ++ sev v) w (.returned s2) w2 := Made.after ⟨s2, rfl, hx2, by simpa using ho2⟩ (HX.out.alloc _)
  have HF := Lib.hid hfin; clear hfin hx2 ho2
  go_wp2
  go_ret
  exact HF.out
set_option maxRecDepth 20000 in
set_option maxHeartbeats 400000 in
theorem fold_any (x : Int) (w : World) (h0 : -9223372036854775808 ≤ x) (h1 : x ≤ 9223372036854775807) :
    Calls Tryz.prog 134 #[.int .i64 x] w fun e w' => e = .returned (.int .u64 (Lib.zigzag x : Nat)) ∧ w = w' := by
  by_cases hx : x < 0
  · have hz := Lib.zigzag_neg h0 hx
    clear h0 h1
    go_enter Tryz.func134, Tryz.ntmps134
    go_wp2
    go_ret
    exact ⟨rfl, rfl⟩
  · have hz := Lib.zigzag_nonneg (x := x) (by omega)
    have HZ := Lib.hid hz; clear hz
    have hw1 : IntKind.u64.wrap x = x := wrap_u64_of (by omega) (by omega)
    have hw2 : IntKind.u64.wrap (x * 2) = x * 2 := wrap_u64_of (by omega) (by omega)
    clear h0 h1
    go_enter Tryz.func134, Tryz.ntmps134
    go_wp2
    go_ret
    exact ⟨ret_int HZ.out.symm, rfl⟩
theorem zig_lt (x : Int) (h0 : -9223372036854775808 ≤ x) (h1 : x ≤ 9223372036854775807) : Lib.zigzag x < 2 ^ 64 := Lib.zigzag_lt h0 h1
set_option maxRecDepth 20000 in
set_option maxHeartbeats 400000 in
theorem putInt_any (vb : Value) (b : List UInt8) (x : Int) (w : World) (hb : Rd w vb b) (hl : b.length ≤ 2 ^ 46) (h0 : -9223372036854775808 ≤ x) (h1 : x ≤ 9223372036854775807) :
    Calls Tryz.prog 133 #[vb, .int .i64 x] w (Made 5 (b ++ sev (Lib.zigzag x)) w) := by
  have H1 := Lib.hid (fold_any x w h0 h1)
  have H2 := Lib.hid (putUint_any vb b (Lib.zigzag x) w hb hl (zig_lt x h0 h1))
  clear hb hl h0 h1
  go_enter Tryz.func133, Tryz.ntmps133
  go_wp2_with (go_at_call 134; refine H1.out.mono ?_; rintro e w' ⟨rfl, rfl⟩)
  refine H2.out.mono ?_
  rintro e w1 ⟨s, rfl, hx, ho⟩
  have HF := Lib.hid (show Made 5 (b ++ sev (Lib.zigzag x)) w (.returned s) w1 from ⟨s, rfl, hx, ho⟩)
  clear hx ho
  go_wp2
  go_ret
  exact HF.out
def txt (s : List UInt8) : List UInt8 := sev s.length ++ s
set_option maxRecDepth 20000 in
set_option maxHeartbeats 400000 in
theorem putText_any (vb : Value) (b s : List UInt8) (w : World) (hb : Rd w vb b) (hl : b.length ≤ 2 ^ 45) (hs : s.length ≤ 2 ^ 45) :
    Calls Tryz.prog 129 #[vb, .string ⟨s.toArray⟩] w (Made 5 (b ++ txt s) w) := by
  have HB := Lib.hid hb; have HL := Lib.hid hl; have HS := Lib.hid hs
  obtain ⟨ao, cap, rfl⟩ := hb.shape
  have hs' : (s.length : Int) ≤ 35184372088832 := by omega
  clear hb hl hs
  go_enter Tryz.func129, Tryz.ntmps129
  go_wp2_with (go_at_call 117; refine (sevens_any s.length _ (by have := HS.out; omega)).mono ?_)
  rintro e w1 ⟨sv, rfl, hx1, ho1⟩
  have HX := Lib.hid hx1; have HO := Lib.hid ho1
  obtain ⟨ao', cap', rfl⟩ := owns_shape ho1
  clear hx1 ho1
  obtain ⟨cap2, w2, hr2, hx2, hrd2⟩ := run_toBytes (P := Tryz.prog) w1 s 9 22 5 Tryz.underlying9 Tryz.underlying22 Tryz.underlying5 (by have := HS.out; unfold maxLen; omega)
  have HX2 := Lib.hid hx2; have HR2 := Lib.hid hrd2; clear hx2 hrd2
  have hcat := concat_any [b, sev s.length, s] w2.heap.size 0 3 _ (rdAll_three (HB.out.ext (HX.out.trans HX2.out)) ((Rd.ofOwns HO.out).ext HX2.out) HR2.out 22) (by have := sev_length_10 s.length (by have := HS.out; omega); have := HL.out; have := HS.out; simp [total]; omega) (by simp)
  have HC := Lib.hid hcat; clear hcat
  go_wp2_with (go_at_call 67; refine HC.out.mono ?_)
  rintro e w3 ⟨s3, rfl, hx3, ho3⟩
  have hfin : Made 5 (b ++ txt s) w (.returned s3) w3 := Made.after ⟨s3, rfl, hx3, by simpa [txt] using ho3⟩ ((HX.out.trans HX2.out).alloc _)
  have HF := Lib.hid hfin; clear hfin hx3 ho3
  go_wp2
  go_ret
  exact HF.out
end Go.Proofs.YtegclfpmgilnpaaGreat
namespace Go.Proofs.YtegclfpmgilnpaaGreat
open Go.RowKit Go.Lac
theorem toNat_ofNat_lt {n : Nat} (h : n < 256) : (UInt8.ofNat n).toNat = n := by
  simp [Nat.mod_eq_of_lt h]
theorem numAt_sev (rest : List UInt8) : ∀ (v n acc : Nat), acc + v * 128 ^ n < 2 ^ 64 → n ≤ 9 → (0 < v ∨ n = 0) →
    numAt n acc (sev v ++ rest) = (acc + v * 128 ^ n, n + (sev v).length, 0) := by
  intro v
  induction v using Nat.strongRecOn with
  | _ v ih =>
    intro n acc hb hn h0
    by_cases hv : v < 128
    · rw [sev_small hv, List.singleton_append, numAt, toNat_ofNat_lt (by omega)]
      have h9 : ¬ (n = 9 ∧ 1 < v) := by
        rintro ⟨rfl, h1⟩
        have : 2 * 128 ^ 9 ≤ v * 128 ^ 9 := Nat.mul_le_mul_right _ h1
        omega
      rw [if_neg h9, if_neg (by omega), if_neg (by omega), Nat.mod_eq_of_lt hv]
      rfl
    · have hd : v % 128 + 128 < 256 := by omega
      rw [sev_big hv, List.cons_append, numAt, toNat_ofNat_lt hd]
      have h9 : ¬ (n = 9 ∧ 1 < v % 128 + 128) := by
        rintro ⟨rfl, h1⟩
        have : 128 * 128 ^ 9 ≤ v * 128 ^ 9 := Nat.mul_le_mul_right _ (by omega)
        omega
      have hn8 : n ≤ 8 := by
        rcases Nat.lt_or_ge n 9 with h | h
        · omega
        · exact absurd ⟨by omega, by omega⟩ h9
      rw [if_neg h9, if_pos (by omega), show (v % 128 + 128) % 128 = v % 128 by omega]
      have e : acc + v % 128 * 128 ^ n + v / 128 * 128 ^ (n + 1) = acc + v * 128 ^ n := by
        rw [Nat.pow_succ, Nat.mul_comm (128 ^ n) 128, ← Nat.mul_assoc, Nat.add_assoc, ← Nat.add_mul]
        congr 2
        omega
      rw [ih (v / 128) (by omega) (n + 1) _ (by rw [e]; exact hb) (by omega) (.inl (by omega)), e]
      simp only [List.length_cons, Prod.mk.injEq, and_true, true_and]
      omega
theorem num_sev (v : Nat) (rest : List UInt8) (h : v < 2 ^ 64) : num (sev v ++ rest) = (v, (sev v).length, 0) := by
  have := numAt_sev rest v 0 0 (by simpa using h) (by omega) (.inr rfl)
  simpa [num] using this
theorem uintR_sev (most v : Nat) (rest : List UInt8) (h : v < 2 ^ 64) : uintR most (sev v ++ rest, 0) = if v ≤ most then (v, (rest, 0)) else (0, ([], 4)) := by
  unfold uintR
  rw [num_sev v rest h]
  by_cases hm : v ≤ most
  · simp [hm, show ¬ most < v by omega]
  · simp [hm, show most < v by omega, failR]
theorem takeR_app (s rest : List UInt8) (e : Int) : takeR s.length (s ++ rest, e) = (s, (rest, e)) := by
  unfold takeR
  rw [if_neg (by simp)]
  simp
theorem textR_txt (m : Nat) (s rest : List UInt8) (h : s.length < 2 ^ 64) : textR m (txt s ++ rest, 0) = if s.length ≤ m then (s, (rest, 0)) else ([], ([], 4)) := by
  unfold textR txt
  rw [List.append_assoc, uintR_sev m s.length (s ++ rest) h]
  by_cases hm : s.length ≤ m
  · rw [if_pos hm, if_pos hm]
    exact takeR_app s rest 0
  · rw [if_neg hm, if_neg hm]
    rfl
theorem intR_sev (x : Int) (rest : List UInt8) (h0 : -9223372036854775808 ≤ x) (h1 : x ≤ 9223372036854775807) : intR (sev (Lib.zigzag x) ++ rest, 0) = (x, (rest, 0)) := by
  have hz := zig_lt x h0 h1
  unfold intR
  rw [uintR_sev _ _ _ hz, if_pos (by omega), zag_zig]
theorem numAt_inv : ∀ (l : List UInt8) (n acc v' n' : Nat), numAt n acc l = (v', n', 0) → n ≤ 9 →
    ∃ u, v' = acc + u * 128 ^ n ∧ (0 < u ∨ n = 0) ∧ n' = n + (sev u).length ∧ l = sev u ++ l.drop (sev u).length
  | [], n, acc, v', n', h, _ => by simp [numAt] at h
  | d :: l, n, acc, v', n', h, hn => by
    have hd := UInt8.toNat_lt d
    rw [numAt] at h
    split at h
    · simp at h
    · rename_i h9
      split at h
      · rename_i h128
        obtain ⟨u, h1, h2, h3, h4⟩ := numAt_inv l (n + 1) _ v' n' h (by omega)
        have hu : 0 < u := by omega
        have hbig : ¬ d.toNat % 128 + 128 * u < 128 := by omega
        have e1 : (d.toNat % 128 + 128 * u) % 128 + 128 = d.toNat := by omega
        have e2 : (d.toNat % 128 + 128 * u) / 128 = u := by omega
        have hs : sev (d.toNat % 128 + 128 * u) = d :: sev u := by
          rw [sev_big hbig, e1, e2, UInt8.ofNat_toNat]
        refine ⟨d.toNat % 128 + 128 * u, ?_, .inl (by omega), ?_, ?_⟩
        · rw [h1, Nat.pow_succ, Nat.add_mul, Nat.mul_comm (128 ^ n) 128, ← Nat.mul_assoc, Nat.mul_comm u 128]
          omega
        · rw [hs, h3, List.length_cons]; omega
        · rw [hs, List.length_cons, List.cons_append, List.drop_succ_cons, ← h4]
      · split at h
        · simp at h
        · rename_i h128 h0
          simp only [Prod.mk.injEq, and_true] at h
          obtain ⟨rfl, rfl⟩ := h
          have hlt : d.toNat < 128 := by omega
          refine ⟨d.toNat, by rw [Nat.mod_eq_of_lt hlt], by omega, ?_, ?_⟩
          · rw [sev_small hlt]; rfl
          · rw [sev_small hlt, UInt8.ofNat_toNat]; rfl
theorem num_inv {l : List UInt8} {v n : Nat} (h : num l = (v, n, 0)) : l = sev v ++ l.drop n ∧ n = (sev v).length := by
  obtain ⟨u, h1, h2, h3, h4⟩ := numAt_inv l 0 0 v n h (by omega)
  have hu : u = v := by simpa using h1.symm
  subst hu
  have : n = (sev u).length := by omega
  rw [this]
  exact ⟨h4, rfl⟩
theorem numAt_cut : ∀ (v n acc k : Nat), acc + v * 128 ^ n < 2 ^ 64 → n ≤ 9 → k < (sev v).length → numAt n acc ((sev v).take k) = (0, 0, 1) := by
  intro v
  induction v using Nat.strongRecOn with
  | _ v ih =>
    intro n acc k hb hn hk
    by_cases hv : v < 128
    · rw [sev_small hv] at hk ⊢
      obtain rfl : k = 0 := by simpa using hk
      rfl
    · have hd : v % 128 + 128 < 256 := by omega
      rw [sev_big hv] at hk ⊢
      cases k with
      | zero => rfl
      | succ k =>
        rw [List.take_succ_cons, numAt, toNat_ofNat_lt hd]
        have h9 : ¬ (n = 9 ∧ 1 < v % 128 + 128) := by
          rintro ⟨rfl, h1⟩
          have : 128 * 128 ^ 9 ≤ v * 128 ^ 9 := Nat.mul_le_mul_right _ (by omega)
          omega
        rw [if_neg h9, if_pos (by omega), show (v % 128 + 128) % 128 = v % 128 by omega]
        have e : acc + v % 128 * 128 ^ n + v / 128 * 128 ^ (n + 1) = acc + v * 128 ^ n := by
          rw [Nat.pow_succ, Nat.mul_comm (128 ^ n) 128, ← Nat.mul_assoc, Nat.add_assoc, ← Nat.add_mul]
          congr 2
          omega
        exact ih (v / 128) (by omega) (n + 1) _ k (by rw [e]; exact hb) (by
          rcases Nat.lt_or_ge n 9 with h | h
          · omega
          · exact absurd ⟨by omega, by omega⟩ h9) (by simpa using hk)
theorem uintR_cut (most v k : Nat) (h : v < 2 ^ 64) (hk : k < (sev v).length) : uintR most ((sev v).take k, 0) = (0, ([], 1)) := by
  have h1 : num ((sev v).take k) = (0, 0, 1) := numAt_cut v 0 0 k (by simpa using h) (by omega) hk
  unfold uintR
  rw [h1]
  simp [failR]
theorem textR_cut (m k : Nat) (s : List UInt8) (h : s.length < 2 ^ 64) (hm : s.length ≤ m) (hk : k < (txt s).length) : textR m ((txt s).take k, 0) = ([], ([], 1)) := by
  unfold textR
  by_cases h1 : k < (sev s.length).length
  · have e : (txt s).take k = (sev s.length).take k := by unfold txt; rw [List.take_append_of_le_length (by omega)]
    rw [e, uintR_cut m s.length k h h1]
    rfl
  · have e : (txt s).take k = sev s.length ++ s.take (k - (sev s.length).length) := by
      unfold txt
      rw [List.take_append, List.take_of_length_le (by omega)]
    rw [e, uintR_sev m s.length _ h, if_pos hm]
    unfold takeR
    have hl : (s.take (k - (sev s.length).length)).length < s.length := by
      unfold txt at hk
      rw [List.length_append] at hk
      rw [List.length_take]
      omega
    rw [if_pos hl]
    rfl
theorem failR_err (s : RS) (e : Int) (h : s.2 ≠ 0) : failR s e = s := by unfold failR; rw [if_pos (.inl h)]
theorem failR_ne (s : RS) (e : Int) (he : e ≠ 0) : (failR s e).2 ≠ 0 := by
  unfold failR
  split
  · rename_i h
    rcases h with h | h
    · exact h
    · exact absurd h he
  · exact he
theorem uintR_err (m : Nat) (s : RS) (h : s.2 ≠ 0) : (uintR m s).2.2 ≠ 0 := by
  unfold uintR
  split
  · rw [failR_err s _ h]; exact h
  · split
    · rw [failR_err s _ h]; exact h
    · exact h
theorem uintR_inv (m : Nat) (s : RS) (h : (uintR m s).2.2 = 0) : s.1 = sev (uintR m s).1 ++ (uintR m s).2.1 ∧ s.2 = 0 := by
  have h0 : s.2 = 0 := by
    rcases Decidable.em (s.2 = 0) with g | g
    · exact g
    · exact absurd h (uintR_err m s g)
  unfold uintR at *
  split at h
  · rename_i hn
    exact absurd h (failR_ne s _ hn)
  · rename_i hn
    split at h
    · exact absurd h (failR_ne s 4 (by decide))
    · rename_i hm
      rw [if_neg hn, if_neg hm]
      have hn' : (num s.1).2.2 = 0 := by simpa using hn
      have := num_inv (l := s.1) (v := (num s.1).1) (n := (num s.1).2.1) (by rw [← hn'])
      exact ⟨this.1, h0⟩
theorem takeR_inv (n : Nat) (s : RS) (h : (takeR n s).2.2 = 0) : s.1 = (takeR n s).1 ++ (takeR n s).2.1 ∧ (takeR n s).1.length = n ∧ s.2 = 0 := by
  unfold takeR at *
  split at h
  · exact absurd h (failR_ne s 1 (by decide))
  · rename_i hn
    rw [if_neg hn]
    exact ⟨(List.take_append_drop n s.1).symm, by rw [List.length_take]; omega, h⟩
theorem textR_inv (m : Nat) (s : RS) (h : (textR m s).2.2 = 0) : s.1 = txt (textR m s).1 ++ (textR m s).2.1 ∧ s.2 = 0 := by
  unfold textR at *
  obtain ⟨h1, h2, h3⟩ := takeR_inv _ _ h
  obtain ⟨h4, h5⟩ := uintR_inv m s h3
  refine ⟨?_, h5⟩
  unfold txt
  rw [h2, List.append_assoc, ← h1]
  exact h4
theorem endR_zero {s : RS} (h : endR s = 0) : s.1 = [] ∧ s.2 = 0 := by
  unfold endR at h
  split at h
  · cases h
  · rename_i hn
    refine ⟨List.eq_nil_of_length_eq_zero ?_, h⟩
    rcases Nat.eq_zero_or_pos s.1.length with g | g
    · exact g
    · exact absurd ⟨h, g⟩ hn
theorem textR_length (m : Nat) (s : RS) : (textR m s).1.length ≤ m := by
  unfold textR
  exact Nat.le_trans (takeR_length _ _) (uintR_le _ _)
end Go.Proofs.YtegclfpmgilnpaaGreat
