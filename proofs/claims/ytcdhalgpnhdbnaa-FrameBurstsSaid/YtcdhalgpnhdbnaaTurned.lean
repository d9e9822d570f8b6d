/-
  The reference: bits turned.
-/
import Derived.Test.YtcdhalgpnhdbnaaProg
import Derived.Test.YtcdhalgpnhdbnaaLib
import Derived.Test.YtcdhalgpnhdbnaaInfo
import Derived.Test.YtcdhalgpnhdbnaaCrcB
import Derived.Test.YtcdhalgpnhdbnaaEqual
import Derived.WalkKit
import Derived.Lib.Hide
import Derived.Laws.OwnMore
import Derived.Laws.BitsAllLaws
import Derived.Outline
namespace Go.Proofs.Ytcdhalgpnhdbnaa
open Go.RowKit Go.Lac

def turnT (g n c1 a k q x j : Nat) (y : Int) : Tmp → Kn
  | 36 => .is (.slice (some ⟨g, 0, none⟩) n c1)
  | 37 => .is (.int .i64 ((a : Int) + (k : Nat)))
  | 38 => .is (.int .i64 (q : Nat))
  | 39 => .is (.slice (some ⟨g, 0, none⟩) n c1)
  | 40 => .is (.int .i64 ((a : Int) + (k : Nat)))
  | 41 => .is (.int .i64 (q : Nat))
  | 42 => .is (.pointer (some ⟨g, q, none⟩))
  | 43 => .is (.int .u8 (x : Nat))
  | 44 => .is (.int .i64 ((a : Int) + (k : Nat)))
  | 45 => .is (.int .i64 (j : Nat))
  | 46 => .is (.int .u8 ((2 ^ j : Nat) : Int))
  | 47 => .is (.int .u8 y)
  | 48 => .is (.pointer (some ⟨g, q, none⟩))
  | _ => .any

theorem turnT_pure (g n c1 a k q x j : Nat) (y : Int) : ∀ d, (turnT g n c1 a k q x j y d).pure := by
  intro d
  unfold turnT
  split <;> first | exact Kn.is_pure _ | exact Kn.any_pure

theorem turnOne_cells (l : List UInt8) (p : Nat) (h : p / 8 < l.length) :
    (cellsB l)[p / 8]? = some (.int .u8 ((l[p / 8].toNat : Nat) : Int)) ∧ cellsB (turnOne l p) = (cellsB l).set (p / 8) (.int .u8 ((l[p / 8].toNat ^^^ 2 ^ (p % 8) : Nat) : Int)) := by
  refine ⟨by simp [cellsB, h, cellB], ?_⟩
  unfold turnOne cellsB
  rw [List.map_set]
  congr 1
  have hg : l.getD (p / 8) 0 = l[p / 8] := by simp [List.getD_eq_getElem?_getD, List.getElem?_eq_getElem h]
  have h1 : (UInt8.ofNat (2 ^ (p % 8))).toNat = 2 ^ (p % 8) := by
    have hp : 2 ^ (p % 8) ≤ 2 ^ 7 := Nat.pow_le_pow_right (by omega) (by omega)
    rw [UInt8.toNat_ofNat']
    exact Nat.mod_eq_of_lt (by omega)
  rw [hg]
  unfold cellB
  rw [UInt8.toNat_xor, h1]

theorem pow_u8 : ∀ j, j < 8 → IntKind.u8.wrap ((2 : Int) ^ j) = (2 : Int) ^ j := by decide
theorem owns_addr {w : World} {base : Nat} {e : TypeId} {size : Nat} {a : Option Addr} {n cap : Nat} {xs : List Value} (h : w.ownsRow base e size (.slice a n cap) n xs) (hn : 0 < n) :
    ∃ g, a = some ⟨g, 0, none⟩ ∧ base ≤ g := by
  rcases h.2 with ⟨h', _⟩ | ⟨g, cap', cur, h', hb, _⟩
  · cases h'; omega
  · cases h'; exact ⟨g, rfl, hb⟩

/-- The bytes so far. -/
def TurnAt (bs : List UInt8) (a pat : Nat) (v1 : Value) (w : World) (k : Nat) (wr : World) : Prop :=
  Ext w wr ∧ wr.ownsRow w.heap.size 5 1 v1 bs.length (cellsB (turned bs a pat k))

set_option maxRecDepth 20000 in
set_option maxHeartbeats 2000000 in
theorem turned_any (v : Value) (bs : List UInt8) (a pat : Nat) (w : World) (h : Rd w v bs) (hl : bs.length ≤ 1000000) (ha : a ≤ 100000000) (hp : pat < 2 ^ 32) :
    Calls Try.prog 21 #[v, .int .i64 (a : Nat), .int .u32 (pat : Nat)] w (Made 5 (turned bs a pat 32) w) := by
  obtain ⟨i, hi, hz, hs, hb⟩ := info_parts infoU8
  obtain ⟨ao, cap, rfl⟩ := h.shape
  have H := Lib.hid h; clear h
  have hown := World.ownsRow_made (e := 5) (size := 1) w #[] 0 (Nat.le_refl _) (by decide) (by simp)
  have hrd := Rd.ext H.out ((Ch.refl _ w).alloc (.cells #[] 5))
  unfold Rd at hrd
  have HOWN0 := Lib.hid hown; have HRD := Lib.hid hrd; clear hown hrd
  have HPAT := Lib.hid hp; clear hp
  have hta : ∀ v1 k wr, TurnAt bs a pat v1 w k wr ↔ Ext w wr ∧ wr.ownsRow w.heap.size 5 1 v1 bs.length (cellsB (turned bs a pat k)) := fun v1 k wr => Iff.rfl
  have HTA := Lib.hid hta; clear hta
  have hskip : ∀ k, ¬ (pat.testBit k = true ∧ a + k < 8 * bs.length) → turned bs a pat (k + 1) = turned bs a pat k := fun k h => by
    show (if pat.testBit k = true ∧ a + k < 8 * bs.length then turnOne (turned bs a pat k) (a + k) else turned bs a pat k) = _
    rw [if_neg h]
  have hdo : ∀ k, (pat.testBit k = true ∧ a + k < 8 * bs.length) → turned bs a pat (k + 1) = turnOne (turned bs a pat k) (a + k) := fun k h => by
    show (if pat.testBit k = true ∧ a + k < 8 * bs.length then turnOne (turned bs a pat k) (a + k) else turned bs a pat k) = _
    rw [if_pos h]
  have htl := turned_length bs a pat
  have HSKIP := Lib.hid hskip; have HDO := Lib.hid hdo; have HTL := Lib.hid htl; clear hskip hdo htl
  generalize hbl : bs.length = n at *
  have HBL := Lib.hid hbl; clear hbl
  go_enter Try.func21, Try.ntmps21
  go_wp2_with (at_builtin; refine wpList_append_sl _ rfl _ _ 23 rfl w.heap.size 5 i (.int .u8 0) 1 1 Try.underlying23 hi hz hs hb rfl (by decide) _ _ _ rfl HOWN0.out _ _ _ rfl HRD.out (by rw [cellsB_length, HBL.out, Nat.mul_one]) (cellsB_one _) (by omega) (by unfold maxLen; omega) (by simp) ?_)
  intro v1 w1 hown1 hgrow1
  have hx1 : Ext w w1 := ((Ch.refl _ w).alloc _).grown hgrow1 fun k hk => by have := (HOWN0.out.lt k hk).1; exact .inr this
  obtain ⟨a1, c1, rfl⟩ := owns_shape hown1
  have hst : TurnAt bs a pat (.slice a1 n c1) w 0 w1 := (HTA.out _ _ _).2 ⟨hx1, hown1⟩
  have HST := Lib.hid hst; clear hst hx1 hown1 hgrow1 HRD HOWN0
  have HI := Lib.hid hi; have HSZ := Lib.hid hs; clear hi hz hs hb
  go_wp2
  go_loopw [8] (fun ix wr => ∃ k : Nat, k ≤ 32 ∧ ix = .int .i64 (k : Nat) ∧ TurnAt bs a pat (.slice a1 n c1) w k wr) (fun ix _ => 32 - (intOf ix).toNat)
  case atStart => exact ⟨0, Nat.zero_le _, rfl, HST.out⟩
  case round =>
    obtain ⟨k, hk, rfl, hr⟩ := hrel
    have HR := Lib.hid hr; clear hr
    by_cases hlt : k < 32
    · have htb : ((pat : Int) / 2 ^ k).tmod 2 = ((pat / 2 ^ k % 2 : Nat) : Int) := by
        have e0 : (pat : Int) / 2 ^ k = ((pat / 2 ^ k : Nat) : Int) := by simp
        rw [e0, Int.tmod_eq_emod_of_nonneg (Int.natCast_nonneg _)]
        simp
      have htt : pat.testBit k = true → pat / 2 ^ k % 2 = 1 := fun h => by rw [Nat.testBit_eq_decide_div_mod_eq] at h; exact of_decide_eq_true h
      have htf : ¬ pat.testBit k = true → pat / 2 ^ k % 2 = 0 := fun h => by
        rw [Nat.testBit_eq_decide_div_mod_eq] at h
        have := of_decide_eq_false (by simpa using h : decide (pat / 2 ^ k % 2 = 1) = false)
        omega
      by_cases hcond : pat.testBit k = true ∧ a + k < 8 * n
      · have htb1 := htb
        rw [htt hcond.1] at htb1
        have hpn := hcond.2
        have hdo := HDO.out k hcond
        obtain ⟨hext, hown⟩ := (HTA.out _ _ _).1 HR.out
        obtain ⟨g, rfl, hge⟩ := owns_addr hown (by omega)
        have hl2 := HTL.out k
        have hnx : ∀ w', Ext w w' → w'.ownsRow w.heap.size 5 1 (.slice (some ⟨g, 0, none⟩) n c1) n (cellsB (turnOne (turned bs a pat k) (a + k))) → TurnAt bs a pat (.slice (some ⟨g, 0, none⟩) n c1) w (k + 1) w' := fun w' h1 h2 => (HTA.out _ _ _).2 ⟨h1, by rw [hdo]; exact h2⟩
        have HNX := Lib.hid hnx
        generalize turned bs a pat k = cur at *
        obtain ⟨p, hp⟩ : ∃ p, p = a + k := ⟨_, rfl⟩
        have HP : Hid ((a : Int) + (k : Nat) = ((p : Nat) : Int)) := Lib.hid (by omega)
        obtain ⟨hcx, hset⟩ := turnOne_cells cur p (by omega)
        rw [← hp] at HNX
        have hj8 : p % 8 < 8 := by omega
        have HWQ : Hid (IntKind.i64.wrap ((p : Int) / 8) = ((p / 8 : Nat) : Int)) := Lib.hid (by rw [IntKind.wrap_i64]; omega)
        have HWJ : Hid ((p : Int).tmod 8 = ((p % 8 : Nat) : Int)) := Lib.hid (by rw [Int.tmod_eq_emod_of_nonneg (by omega)]; omega)
        have HQP : Hid (IntKind.u8.wrap ((2 : Int) ^ (p % 8)) = (2 : Int) ^ (p % 8)) := Lib.hid (pow_u8 _ hj8)
        have HQN : Hid (p / 8 < n) := Lib.hid (by omega)
        have hx8 := (cur[p / 8]'(by omega)).toNat_lt
        have hp8 : 2 ^ (p % 8) ≤ 2 ^ 7 := Nat.pow_le_pow_right (by omega) (by omega)
        generalize (cur[p / 8]'(by omega)).toNat = x at *
        generalize p % 8 = j at *
        generalize p / 8 = q at *
        have hy : bits .xor .u8 (x : Int) ((2 : Int) ^ j) = ((x ^^^ 2 ^ j : Nat) : Int) := by
          have := u8_xor_nat x (2 ^ j) (by omega) (by omega)
          rwa [Int.natCast_pow] at this
        generalize ((x ^^^ 2 ^ j : Nat) : Int) = y at *
        have hc : wr.cell? ⟨g, q, none⟩ = some (.int .u8 ((x : Nat) : Int)) := by rw [hown.cellAt q (by have := HQN.out; omega)]; exact hcx
        have HC := Lib.hid hc; have HY := Lib.hid hy; have HSET := Lib.hid hset; have HJ8 := Lib.hid hj8; have HOWN := Lib.hid hown; have HX := Lib.hid hext; have HGE := Lib.hid hge
        clear hc hy hset hj8 hown hext hge hcx hx8 hp8 hnx hdo hl2 hp hcond htb htt htf HR HST HDO HSKIP HTL HTA
        go_wp2
        refine wp_region_last (turnT g n c1 a k q x j y) 13 (fun w' => Ext w w' ∧ w'.ownsRow w.heap.size 5 1 (.slice (some ⟨g, 0, none⟩) n c1) n (cellsB (turnOne cur p))) mixedEq (by rfl) (by rfl) (by decide) ?_ ?_
        · refine ⟨?_, ?_, ?_, ?_, ?_, ?_, ?_, ?_, ?_, ?_, ?_, ?_, ?_, ?_, trivial⟩
          · -- 0: slot 36 := Op.move t7
            refine StepOK.early (turnT_pure g n c1 a k q x j y) (by rfl) (by decide) rfl fun ρ w hρ hw hf => ?_
            have h7 : ρ (.tmp 7) = .slice (some ⟨g, 0, none⟩) n c1 := (hf 7).2 rfl rfl
            exact Exec.kmove rfl rfl h7
          · -- 1: slot 37 := Op.move t9
            refine StepOK.early (turnT_pure g n c1 a k q x j y) (by rfl) (by decide) rfl fun ρ w hρ hw hf => ?_
            have h9 : ρ (.tmp 9) = .int .i64 ((a : Int) + (k : Nat)) := (hf 9).2 rfl rfl
            exact Exec.kmove rfl rfl h9
          · -- 2: slot 38 := Op.binOp BinOp.quo 3 t37 (const (8:i64)) 3
            refine StepOK.early (turnT_pure g n c1 a k q x j y) (by rfl) (by decide) rfl fun ρ w hρ hw hf => ?_
            have h37 : ρ (.tmp 37) = (.int .i64 ((a : Int) + (k : Nat))) := (hf 37).1 rfl
            rw [HP.out] at h37
            exact Exec.same (v := .int .i64 (q : Nat)) rfl (by simp [go_sem, hρ.const, h37, HWQ.out]) rfl
          · -- 3: slot 39 := Op.move t7
            refine StepOK.early (turnT_pure g n c1 a k q x j y) (by rfl) (by decide) rfl fun ρ w hρ hw hf => ?_
            have h7 : ρ (.tmp 7) = .slice (some ⟨g, 0, none⟩) n c1 := (hf 7).2 rfl rfl
            exact Exec.kmove rfl rfl h7
          · -- 4: slot 40 := Op.move t9
            refine StepOK.early (turnT_pure g n c1 a k q x j y) (by rfl) (by decide) rfl fun ρ w hρ hw hf => ?_
            have h9 : ρ (.tmp 9) = .int .i64 ((a : Int) + (k : Nat)) := (hf 9).2 rfl rfl
            exact Exec.kmove rfl rfl h9
          · -- 5: slot 41 := Op.binOp BinOp.quo 3 t40 (const (8:i64)) 3
            refine StepOK.early (turnT_pure g n c1 a k q x j y) (by rfl) (by decide) rfl fun ρ w hρ hw hf => ?_
            have h40 : ρ (.tmp 40) = (.int .i64 ((a : Int) + (k : Nat))) := (hf 40).1 rfl
            rw [HP.out] at h40
            exact Exec.same (v := .int .i64 (q : Nat)) rfl (by simp [go_sem, hρ.const, h40, HWQ.out]) rfl
          · -- 6: slot 42 := Op.indexAddr 23 t39 t41
            refine StepOK.early (turnT_pure g n c1 a k q x j y) (by rfl) (by decide) rfl fun ρ w hρ hw hf => ?_
            have h39 : ρ (.tmp 39) = (.slice (some ⟨g, 0, none⟩) n c1) := (hf 39).1 rfl
            have h41 : ρ (.tmp 41) = (.int .i64 (q : Nat)) := (hf 41).1 rfl
            exact Exec.kindex (i := q) rfl rfl Try.underlying23 HI.out HSZ.out h39 h41 HQN.out (by rw [Nat.mul_one, Nat.zero_add]; exact rfl)
          · -- 7: slot 43 := Op.load 5 t42
            refine StepOK.early (turnT_pure g n c1 a k q x j y) (by rfl) (by decide) rfl fun ρ w hρ hw hf => ?_
            have h42 : ρ (.tmp 42) = (.pointer (some ⟨g, q, none⟩)) := (hf 42).1 rfl
            have hc := hw.cell (p := ⟨g, q, none⟩) (fun f => f) _ HC.out
            exact Exec.same (v := .int .u8 (x : Nat)) rfl (by simp [go_sem, hρ.const, h42, hc]) rfl
          · -- 8: slot 44 := Op.move t9
            refine StepOK.early (turnT_pure g n c1 a k q x j y) (by rfl) (by decide) rfl fun ρ w hρ hw hf => ?_
            have h9 : ρ (.tmp 9) = .int .i64 ((a : Int) + (k : Nat)) := (hf 9).2 rfl rfl
            exact Exec.kmove rfl rfl h9
          · -- 9: slot 45 := Op.binOp BinOp.rem 3 t44 (const (8:i64)) 3
            refine StepOK.early (turnT_pure g n c1 a k q x j y) (by rfl) (by decide) rfl fun ρ w hρ hw hf => ?_
            have h44 : ρ (.tmp 44) = (.int .i64 ((a : Int) + (k : Nat))) := (hf 44).1 rfl
            rw [HP.out] at h44
            exact Exec.same (v := .int .i64 (j : Nat)) rfl (by simp [go_sem, hρ.const, h44, HWJ.out]) rfl
          · -- 10: slot 46 := Op.binOp BinOp.shl 5 (const (1:u8)) t45 3
            refine StepOK.early (turnT_pure g n c1 a k q x j y) (by rfl) (by decide) rfl fun ρ w hρ hw hf => ?_
            have h45 : ρ (.tmp 45) = (.int .i64 (j : Nat)) := (hf 45).1 rfl
            have hj8 := HJ8.out
            exact Exec.same (v := .int .u8 ((2 ^ j : Nat) : Int)) rfl (by simp [go_sem, hρ.const, h45, HQP.out]) rfl
          · -- 11: slot 47 := Op.binOp BinOp.xor 5 t43 t46 5
            refine StepOK.early (turnT_pure g n c1 a k q x j y) (by rfl) (by decide) rfl fun ρ w hρ hw hf => ?_
            have h43 : ρ (.tmp 43) = (.int .u8 (x : Nat)) := (hf 43).1 rfl
            have h46 : ρ (.tmp 46) = (.int .u8 ((2 ^ j : Nat) : Int)) := (hf 46).1 rfl
            exact Exec.same (v := .int .u8 y) rfl (by simp [go_sem, hρ.const, h43, h46, HY.out]) rfl
          · -- 12: slot 48 := Op.indexAddr 23 t36 t38
            refine StepOK.early (turnT_pure g n c1 a k q x j y) (by rfl) (by decide) rfl fun ρ w hρ hw hf => ?_
            have h36 : ρ (.tmp 36) = (.slice (some ⟨g, 0, none⟩) n c1) := (hf 36).1 rfl
            have h38 : ρ (.tmp 38) = (.int .i64 (q : Nat)) := (hf 38).1 rfl
            exact Exec.kindex (i := q) rfl rfl Try.underlying23 HI.out HSZ.out h36 h38 HQN.out (by rw [Nat.mul_one, Nat.zero_add]; exact rfl)
          · -- 13: the store
            refine StepOK.last (turnT_pure g n c1 a k q x j y) rfl fun ρ w hρ hw hf => ?_
            have h48 : ρ (.tmp 48) = (.pointer (some ⟨g, q, none⟩)) := (hf 48).1 rfl
            have h47 : ρ (.tmp 47) = (.int .u8 y) := (hf 47).1 rfl
            have hown := HOWN.out.ext hw
            have hc := hw.cell (p := ⟨g, q, none⟩) (fun f => f) _ HC.out
            have hfr := hown.frozenAt q
            refine Exec.skip (w' := w.setCell ⟨g, q, none⟩ (.int .u8 y)) (by simp [go_sem, h48, h47, hc, hfr]) ⟨(fun d h => by cases h), ?_, ?_⟩
            · exact (HX.out.trans hw).setCell (.inr HGE.out) _
            · rw [HSET.out]; exact (hown.stored q _).1

        intro ν w2 _ hfin
        have hnx := HNX.out w2 hfin.1 hfin.2
        have HN2 := Lib.hid hnx; clear hnx hfin
        simp only [Exit.then, ended, List.foldl_cons, List.foldl_nil, List.setIfInBounds_toArray, List.set_cons_succ, List.set_cons_zero]
        go_wp2
        go_roundw
        case rel => exact ⟨k + 1, by omega, by go_num, HN2.out⟩
        case measure => simp [intOf]; omega
      · have hsk := HSKIP.out k hcond
        have hnx : TurnAt bs a pat (.slice a1 n c1) w (k + 1) wr := (HTA.out _ _ _).2 (by rw [hsk]; exact (HTA.out _ _ _).1 HR.out)
        have HNX := Lib.hid hnx; clear hnx hsk
        by_cases hb : pat.testBit k = true
        · have htb1 := htb
          rw [htt hb] at htb1
          have hge : ¬ a + k < 8 * n := fun h => hcond ⟨hb, h⟩
          clear htb htt htf hb hcond HR HST HDO HSKIP HTL HTA
          go_wp2
          go_roundw
          case rel => exact ⟨k + 1, by omega, by go_num, HNX.out⟩
          case measure => simp [intOf]; omega
        · have htb1 := htb
          rw [htf hb] at htb1
          clear htb htt htf hb hcond HR HST HDO HSKIP HTL HTA
          go_wp2
          go_roundw
          case rel => exact ⟨k + 1, by omega, by go_num, HNX.out⟩
          case measure => simp [intOf]; omega
    · have hk32 : k = 32 := by omega
      subst hk32
      obtain ⟨hext, hown⟩ := (HTA.out _ _ _).1 HR.out
      have HX := Lib.hid hext; have HOWN := Lib.hid hown
      have HTL32 := Lib.hid (HTL.out 32)
      clear hext hown HR HST HDO HSKIP HTL HTA
      go_wp2
      go_ret
      exact ⟨_, rfl, HX.out, by rw [HTL32.out]; exact HOWN.out⟩
end Go.Proofs.Ytcdhalgpnhdbnaa
