import Derived.Test.YtegclfpmgilnpaaGreatGVal
import Derived.Test.YtegclfpmgilnpaaGreatGPrim
namespace Go.Proofs.YtegclfpmgilnpaaGreat
open Go.RowKit Go.Lac
def RdPost (bs : List UInt8) (w : World) (e : Ending) (w' : World) : Prop := ∃ s, e = .returned s ∧ Ext w w' ∧ Rd w' s bs
def wordAt (u k : Nat) : List UInt8 := leN k u ++ List.replicate (8 - k) 0
theorem wordAt_len (u k : Nat) (h : k ≤ 8) : (wordAt u k).length = 8 := by simp [wordAt, leN_length]; omega
theorem wordAt_next (u k : Nat) (h : k < 8) : (cellsB (wordAt u k)).toArray.setIfInBounds k (.int .u8 (u / 256 ^ k % 256 : Nat)) = (cellsB (wordAt u (k + 1))).toArray := by
  have e : wordAt u (k + 1) = (wordAt u k).set k (UInt8.ofNat (u / 256 ^ k % 256)) := by
    unfold wordAt
    rw [leN_snoc, show 8 - k = 8 - (k + 1) + 1 by omega, List.replicate_succ, List.set_append_right _ _ (by rw [leN_length]; exact Nat.le_refl _), leN_length, Nat.sub_self, List.set_cons_zero, List.append_assoc]
    rfl
  have hb : (UInt8.ofNat (u / 256 ^ k % 256)).toNat = u / 256 ^ k % 256 := toNat_ofNat_lt (Nat.mod_lt _ (by decide))
  rw [e]
  simp only [List.setIfInBounds_toArray, cellsB, List.map_set, cellB, hb]
set_option maxRecDepth 20000 in
set_option maxHeartbeats 1600000 in
theorem word_put_any (u : Nat) (w : World) (hu : u < 18446744073709551616) :
    Calls Tryz.prog 132 #[.int .u64 (u : Nat)] w (RdPost (leN 8 u) w) := by
  obtain ⟨i, hi, hz, hs, hb⟩ := info_parts infoU8
  have hmk := fun w => run_make (P := Tryz.prog) w 22 5 i _ Tryz.underlying22 hi hz .i64 .i64 8 8 (by omega) (by omega) (by rw [hb]; omega) (by omega)
  have hc0 : madeCells (Value.int .u8 0).cells (8 * 1) = (cellsB (wordAt u 0)).toArray := by
    simp only [wordAt, leN, List.nil_append]
    kernel_rfl
  have hc1 : ∀ w, (Instr.makeSlice 22 (.int .i64 8) (.int .i64 8)).run Tryz.prog w = .ok (.slice (some ⟨w.heap.size, 0, none⟩) 8 8) (w.alloc (.cells (cellsB (wordAt u 0)).toArray 5)) := fun w => by
    have := hmk w
    rw [hs] at this
    rw [← hc0]
    exact this
  clear hmk
  have HU := Lib.hid hu; have HI := Lib.hid hi; have HS := Lib.hid hs; clear hu hc0 hi hz hs hb
  go_enter Tryz.func132, Tryz.ntmps132
  go_wp2
  clear hc1
  go_loopw [8] (fun ix wr => ∃ k : Nat, k ≤ 8 ∧ ix = .int .i64 k ∧ wr.heap[w.heap.size]? = some (.cells (cellsB (wordAt u k)).toArray 5 (0, 0)) ∧ Ext w wr) (fun ix _ => 8 - (intOf ix).toNat)
  case atStart => exact ⟨0, by omega, rfl, heap_alloc_new w _, (Ch.refl _ _).alloc _⟩
  case round =>
    obtain ⟨k, hk, rfl, hg, hx⟩ := hrel
    have HG := Lib.hid hg; have HX := Lib.hid hx; clear hg hx
    by_cases hlt : k < 8
    · have hl := wordAt_len u k hk
      have hcell : wr.cell? ⟨w.heap.size, k, none⟩ = some (.int .u8 (((wordAt u k)[k]'(by omega)).toNat : Nat)) := by
        rw [cell_of_row _ _ _ _ _ _ HG.out]
        simp [cellsB, cellB, show k < (wordAt u k).length by omega]
      have hfr := frozen_of_row wr w.heap.size k _ _ HG.out
      have hv : ((u : Int) / 2 ^ (8 * k) % 256) = ((u / 256 ^ k % 256 : Nat) : Int) := by
        rw [show (256 : Nat) ^ k = 2 ^ (8 * k) by rw [Nat.pow_mul]]; simp
      have HV := Lib.hid hv
      clear hv
      go_wp2
      refine ⟨⟨k + 1, by omega, by simp, ?_, ?_⟩, by simp [intOf]; omega⟩
      · rw [HV.out, heap_setCell_same wr w.heap.size k _ _ _ HG.out, wordAt_next u k hlt]
      · exact HX.out.setCell (.inr (Nat.le_refl _)) _
    · obtain rfl : k = 8 := by omega
      have hrd := rd_of_heap HG.out (wordAt_len u 8 (Nat.le_refl _)) (by unfold maxLen; omega)
      have e : wordAt u 8 = leN 8 u := by unfold wordAt; simp
      rw [e] at hrd
      have HR := Lib.hid hrd
      clear hrd e
      go_wp2
      go_ret
      exact ⟨_, rfl, HX.out, HR.out⟩
def WRel (v : Nat) (w : World) (x l ix : Value) (wr : World) : Prop :=
  ∃ (k : Nat), k ≤ 8 ∧ ix = .int .i64 k ∧ x = .int .u64 ((v / 256 ^ k : Nat) : Int) ∧ Ext w wr ∧ wr.ownsRow w.heap.size 5 1 l k (cellsB (leN k v))
end Go.Proofs.YtegclfpmgilnpaaGreat
