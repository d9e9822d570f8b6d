import Derived.Test.YtegclfpmgilnpaaGreatProg
import Derived.Test.YtegclfpmgilnpaaGreatGLib
import Derived.Test.YtegclfpmgilnpaaGreatBitA
import Derived.WalkKit
import Derived.Lib.Hide
namespace Go.Proofs.YtegclfpmgilnpaaGreat
open Go.RowKit Go.Lac
theorem mixed2 : Tryz.prog.follows .mixedOrders = true := by kernel_rfl
theorem infoByte : (Tryz.prog.info? 5).map (fun i => (i.zero, i.size, i.bytes)) = some (some (.int .u8 0), 1, 1) := by kernel_rfl
theorem infoBool : (Tryz.prog.info? 4).map (fun i => (i.zero, i.size, i.bytes)) = some (some (.bool false), 1, 1) := by kernel_rfl
def packT (g sz k x : Nat) : Tmp → Kn
  | 23 => .is (.slice (some ⟨g, 0, none⟩) sz sz)
  | 24 => .is (.int .i64 k)
  | 25 => .is (.int .i64 ((k : Int) / 8))
  | 26 => .is (.pointer (some ⟨g, k / 8, none⟩))
  | 27 => .is (.int .u8 (x : Nat))
  | 28 => .is (.int .i64 k)
  | 29 => .is (.int .u8 (2 ^ (k % 8) : Nat))
  | 30 => .is (.int .u8 (bits .or .u8 (x : Int) ((2 ^ (k % 8) : Nat) : Int)))
  | 31 => .is (.pointer (some ⟨g, k / 8, none⟩))
  | _ => .any
theorem packT_pure (g sz k x : Nat) : ∀ d, (packT g sz k x d).pure := by
  intro d
  unfold packT
  split <;> first | exact Kn.is_pure _ | exact Kn.any_pure
theorem made_zero (sz : Nat) (h : sz ≤ 2) : madeCells (Value.int .u8 0).cells (sz * 1) = (cellsB (twoB 0 sz)).toArray := by
  apply Array.ext'
  rw [show (Value.int .u8 0).cells = #[.int .u8 0] from rfl, toList_madeCells_one]
  match sz, h with
  | 0, _ => rfl
  | 1, _ => rfl
  | 2, _ => rfl
def PackPost (l : List Bool) (w : World) (e : Ending) (w' : World) : Prop :=
  if l.length ≤ 16 then ∃ s, e = .returned (.tuple #[s, .int .i64 0]) ∧ Ext w w' ∧ Rd w' s (mapB l) ∧ ∃ ao cap, s = .slice ao (sizeN l.length) cap
  else e = .returned (.tuple #[.slice none 0 0, .int .i64 17]) ∧ w = w'
def PackAt (l : List Bool) (w : World) (k : Nat) (wr : World) : Prop :=
  Ext w wr ∧ wr.heap[w.heap.size]? = some (.cells (cellsB (twoB (bitsV (l.take k)) (sizeN l.length))).toArray 5 (0, 0))
set_option maxRecDepth 20000 in
set_option maxHeartbeats 2000000 in
theorem pack_any (v : Value) (l : List Bool) (w : World) (h : RdBools w v l) : Calls Tryz.prog 41 #[v] w (PackPost l w) := by
  obtain ⟨i, hi, hz, hs, hby⟩ := info_parts infoByte
  obtain ⟨ao, cap, rfl⟩ := h.shape
  have hlen : l.length ≤ maxLen := by obtain ⟨_, _, _, g1, g2, _⟩ := h; omega
  unfold maxLen at hlen
  have H := Lib.hid h; clear h
  by_cases h16 : l.length ≤ 16
  · have hmp : ∀ w, Calls Tryz.prog 64 #[.int .i64 (l.length : Nat)] w fun e w' => e = .returned (.bool true) ∧ w = w' := fun w => by
      have := mapped_any (l.length : Int) w
      rwa [show decide (0 ≤ (l.length : Int) ∧ (l.length : Int) ≤ 16) = true from decide_eq_true (by omega)] at this
    have hsz : ∀ w, Calls Tryz.prog 51 #[.int .i64 (l.length : Nat)] w fun e w' => e = .returned (.int .i64 (sizeN l.length : Nat)) ∧ w = w' := fun w => by
      have := size_any (l.length : Int) w
      rwa [show sizeI (l.length : Int) = ((sizeN l.length : Nat) : Int) from by unfold sizeI; rw [if_pos (by omega), Int.toNat_natCast]] at this
    have HMP := Lib.hid hmp; have HSZF := Lib.hid hsz; clear hmp hsz
    have hle := sizeN_le h16
    have hdef : ∀ k, k < l.length → k / 8 < sizeN l.length := fun k hk => by unfold sizeN; omega
    have hpost : ∀ e w', (∃ s, e = .returned (.tuple #[s, .int .i64 0]) ∧ Ext w w' ∧ Rd w' s (mapB l) ∧ ∃ ao cap, s = .slice ao (sizeN l.length) cap) → PackPost l w e w' := fun e w' h => by unfold PackPost; rw [if_pos h16]; exact h
    have HPOST := Lib.hid hpost; have HDEF := Lib.hid hdef; clear hpost hdef
    have hmapB : mapB l = twoB (bitsV (l.take l.length)) (sizeN l.length) := by rw [List.take_of_length_le (Nat.le_refl _)]; rfl
    have HMAP := Lib.hid hmapB; clear hmapB
    have hpa : ∀ k wr, PackAt l w k wr ↔ Ext w wr ∧ wr.heap[w.heap.size]? = some (.cells (cellsB (twoB (bitsV (l.take k)) (sizeN l.length))).toArray 5 (0, 0)) := fun k wr => Iff.rfl
    have HPA := Lib.hid hpa; clear hpa
    generalize hszn : sizeN l.length = sz at *
    have HSZN := Lib.hid hszn; clear hszn
    have hmk := fun w => run_make (P := Tryz.prog) w 22 5 i _ Tryz.underlying22 hi hz .i64 .i64 (sz : Nat) (sz : Nat) (by omega) (by omega) (by rw [hby]; omega) (by omega)
    rw [hs] at hmk
    have hzero := made_zero sz hle
    simp only [Int.toNat_natCast, hzero] at hmk
    clear hzero
    have HI := Lib.hid hi; have HSZ := Lib.hid hs
    go_enter Tryz.func41, Tryz.ntmps41
    go_wp2_with (first | (go_at_call 64; refine (HMP.out _).mono ?_; rintro e w' ⟨rfl, rfl⟩) | (go_at_call 51; refine (HSZF.out _).mono ?_; rintro e w' ⟨rfl, rfl⟩))
    clear hmk
    have hst : PackAt l w 0 (w.alloc (.cells (cellsB (twoB 0 sz)).toArray 5)) := (HPA.out _ _).2 ⟨(Ch.refl _ _).alloc _, heap_alloc_new w _⟩
    have HST := Lib.hid hst; clear hst
    obtain ⟨g, hg⟩ : ∃ g, g = w.heap.size := ⟨_, rfl⟩
    rw [← hg]
    have HGW := Lib.hid hg; clear hg
    generalize w.alloc (.cells (cellsB (twoB 0 sz)).toArray 5) = w1 at *
    go_loopw [5, 16] (fun _ ix wr => ∃ k : Nat, k ≤ l.length ∧ ix = .int .i64 k ∧ PackAt l w k wr) (fun _ ix _ => l.length - (intOf ix).toNat)
    case atStart => exact ⟨0, Nat.zero_le _, rfl, HST.out⟩
    case round =>
      obtain ⟨k, hk, rfl, hr⟩ := hrel
      have HR := Lib.hid hr; clear hr
      by_cases hlt : k < l.length
      · obtain ⟨b, off, rfl, g1, g2, g3⟩ := bools_cell (Sl.ext H.out ((HPA.out k wr).1 HR.out).1) rfl (by omega)
        have hc := g3 k hlt
        have hbt := bitsV_take l k hlt
        have HBT := Lib.hid hbt
        clear hbt g3
        unfold maxLen at g2
        generalize hb : l[k] = bk at hc HBT
        clear hb
        cases bk with
        | true =>
          have HXG := Lib.hid ((HPA.out k wr).1 HR.out)
          have hks : k / 8 < sz := HDEF.out k hlt
          obtain ⟨hcx, hset⟩ := twoB_set (bitsV_take_lt l k (by omega)) hks hle
          generalize bitsV (l.take k) / 256 ^ (k / 8) % 256 = x at hcx hset
          have HX := Lib.hid HXG.out.1
          have HG : Hid (wr.heap[g]? = some (.cells (cellsB (twoB (bitsV (l.take k)) sz)).toArray 5 (0, 0))) := Lib.hid (by rw [HGW.out]; exact HXG.out.2)
          have HC := Lib.hid (show wr.cell? ⟨g, k / 8, none⟩ = some (.int .u8 (x : Nat)) by rw [cell_of_row wr g (k / 8) _ _ _ HG.out]; simpa using hcx)
          have HSET := Lib.hid hset; have HKS := Lib.hid hks; have HK := Lib.hid (show k ≤ 16 by omega); have HGE := Lib.hid (show w.heap.size ≤ g by rw [HGW.out]; exact Nat.le_refl _)
          clear hcx hset hks
          go_wp2
          refine wp_region_last (packT g sz k x) 9 (fun w' => Ext w w' ∧ w'.heap[g]? = some (.cells (cellsB (twoB (bitsV (l.take k) + 2 ^ k) sz)).toArray 5 (0, 0))) mixed2 (by rfl) (by rfl) (by decide) ?_ ?_
          · refine ⟨?_, ?_, ?_, ?_, ?_, ?_, ?_, ?_, ?_, ?_, trivial⟩
            ·
              refine StepOK.early (packT_pure g sz k x) (by rfl) (by decide) rfl fun ρ w hρ hw hf => ?_
              have h4 : ρ (.tmp 4) = .slice (some ⟨g, 0, none⟩) sz sz := (hf 4).2 rfl rfl
              exact Exec.kmove rfl rfl h4
            ·
              refine StepOK.early (packT_pure g sz k x) (by rfl) (by decide) rfl fun ρ w hρ hw hf => ?_
              have h5 : ρ (.tmp 5) = .int .i64 k := (hf 5).2 rfl rfl
              exact Exec.kmove rfl rfl h5
            ·
              refine StepOK.early (packT_pure g sz k x) (by rfl) (by decide) rfl fun ρ w hρ hw hf => ?_
              have h24 : ρ (.tmp 24) = (.int .i64 k) := (hf 24).1 rfl
              have hb : IntKind.i64.wrap ((k : Int) / 8) = (k : Int) / 8 := by rw [IntKind.wrap_i64]; have := HK.out; omega
              exact Exec.same (v := .int .i64 ((k : Int) / 8)) rfl (by simp [go_sem, hρ.const, h24, hb]) rfl
            ·
              refine StepOK.early (packT_pure g sz k x) (by rfl) (by decide) rfl fun ρ w hρ hw hf => ?_
              have h23 : ρ (.tmp 23) = (.slice (some ⟨g, 0, none⟩) sz sz) := (hf 23).1 rfl
              have h25 : ρ (.tmp 25) = (.int .i64 ((k : Int) / 8)) := (hf 25).1 rfl
              exact Exec.kindex (i := k / 8) rfl rfl Tryz.underlying22 HI.out HSZ.out h23 (h25.trans (by rw [show ((k : Int)) / 8 = ((k / 8 : Nat) : Int) from by omega])) HKS.out (by rw [Nat.mul_one, Nat.zero_add]; exact rfl)
            ·
              refine StepOK.early (packT_pure g sz k x) (by rfl) (by decide) rfl fun ρ w hρ hw hf => ?_
              have h26 : ρ (.tmp 26) = (.pointer (some ⟨g, k / 8, none⟩)) := (hf 26).1 rfl
              have hc := hw.cell (p := ⟨g, k / 8, none⟩) (fun f => f) _ HC.out
              exact Exec.same (v := .int .u8 (x : Nat)) rfl (by simp [go_sem, hρ.const, h26, hc]) rfl
            ·
              refine StepOK.early (packT_pure g sz k x) (by rfl) (by decide) rfl fun ρ w hρ hw hf => ?_
              have h5 : ρ (.tmp 5) = .int .i64 k := (hf 5).2 rfl rfl
              exact Exec.kmove rfl rfl h5
            ·
              refine StepOK.early (packT_pure g sz k x) (by rfl) (by decide) rfl fun ρ w hρ hw hf => ?_
              have h28 : ρ (.tmp 28) = (.int .i64 k) := (hf 28).1 rfl
              refine Exec.kcall #[.int .i64 k] hρ rfl rfl (by simp [hρ.const, h28]) Tryz.func65 (by rfl) rfl ?_
              refine (bit_any k w (by have := HK.out; omega)).mono ?_
              rintro e w' ⟨rfl, rfl⟩
              exact ⟨_, rfl, rfl, Ch.refl _ _⟩
            ·
              refine StepOK.early (packT_pure g sz k x) (by rfl) (by decide) rfl fun ρ w hρ hw hf => ?_
              have h27 : ρ (.tmp 27) = (.int .u8 (x : Nat)) := (hf 27).1 rfl
              have h29 : ρ (.tmp 29) = (.int .u8 (2 ^ (k % 8) : Nat)) := (hf 29).1 rfl
              exact Exec.same (v := .int .u8 (bits .or .u8 (x : Int) ((2 ^ (k % 8) : Nat) : Int))) rfl (by simp [go_sem, hρ.const, h27, h29]) rfl
            ·
              refine StepOK.early (packT_pure g sz k x) (by rfl) (by decide) rfl fun ρ w hρ hw hf => ?_
              have h23 : ρ (.tmp 23) = (.slice (some ⟨g, 0, none⟩) sz sz) := (hf 23).1 rfl
              have h25 : ρ (.tmp 25) = (.int .i64 ((k : Int) / 8)) := (hf 25).1 rfl
              exact Exec.kindex (i := k / 8) rfl rfl Tryz.underlying22 HI.out HSZ.out h23 (h25.trans (by rw [show ((k : Int)) / 8 = ((k / 8 : Nat) : Int) from by omega])) HKS.out (by rw [Nat.mul_one, Nat.zero_add]; exact rfl)
            ·
              refine StepOK.last (packT_pure g sz k x) rfl fun ρ w hρ hw hf => ?_
              have h31 : ρ (.tmp 31) = (.pointer (some ⟨g, k / 8, none⟩)) := (hf 31).1 rfl
              have h30 : ρ (.tmp 30) = (.int .u8 (bits .or .u8 (x : Int) ((2 ^ (k % 8) : Nat) : Int))) := (hf 30).1 rfl
              have hg := hw.block g (Array.getElem?_eq_some_iff.1 HG.out).1 (fun f => f)
              rw [HG.out] at hg
              have hc := hw.cell (p := ⟨g, k / 8, none⟩) (fun f => f) _ HC.out
              have hfr := frozen_of_row w g (k / 8) _ _ hg
              refine Exec.skip (w' := w.setCell ⟨g, k / 8, none⟩ (.int .u8 (bits .or .u8 (x : Int) ((2 ^ (k % 8) : Nat) : Int)))) (by simp [go_sem, h31, h30, hc, hfr]) ⟨(fun d h => by cases h), ?_, ?_⟩
              · exact (HX.out.trans hw).setCell (.inr HGE.out) _
              · rw [heap_setCell_same w g (k / 8) _ _ _ hg, HSET.out]
          intro ν w2 _ hfin
          have hnx : PackAt l w (k + 1) w2 := (HPA.out _ _).2 ⟨hfin.1, by rw [← HGW.out, HBT.out, show Bool.toNat true * 2 ^ k = 2 ^ k from Nat.one_mul _]; exact hfin.2⟩
          have HNX := Lib.hid hnx; clear hnx hfin
          simp only [Exit.then, ended, List.foldl_cons, List.foldl_nil, List.setIfInBounds_toArray, List.set_cons_succ, List.set_cons_zero]
          go_wp2
          go_roundw
          case rel => exact ⟨k + 1, by omega, by go_num, HNX.out⟩
          case measure => simp [intOf]; omega
        | false =>
          have hnx : PackAt l w (k + 1) wr := (HPA.out _ _).2 ⟨((HPA.out k wr).1 HR.out).1, by rw [HBT.out, show Bool.toNat false * 2 ^ k = 0 from Nat.zero_mul _, Nat.add_zero]; exact ((HPA.out k wr).1 HR.out).2⟩
          have HNX := Lib.hid hnx; clear hnx
          go_wp2
          go_roundw
          case rel => exact ⟨k + 1, by omega, by go_num, HNX.out⟩
          case measure => simp [intOf]; omega
      · have hkn : k = l.length := by omega
        subst hkn
        go_wp2
        refine bodyPost_ret (results_tmp2 rfl _ _ _) rfl ?_
        have hfin := (HPA.out _ _).1 HR.out
        refine HPOST.out _ _ ⟨_, rfl, hfin.1, ?_, _, _, rfl⟩
        rw [HMAP.out]
        exact rd_of_heap (by rw [HGW.out]; exact hfin.2) (twoB_length _ _ hle) (by unfold maxLen; omega)
  · have hmp : ∀ w, Calls Tryz.prog 64 #[.int .i64 (l.length : Nat)] w fun e w' => e = .returned (.bool false) ∧ w = w' := fun w => by
      have := mapped_any (l.length : Int) w
      rwa [show decide (0 ≤ (l.length : Int) ∧ (l.length : Int) ≤ 16) = false from decide_eq_false (by omega)] at this
    have HMP := Lib.hid hmp; clear hmp
    have hpost : PackPost l w (.returned (.tuple #[.slice none 0 0, .int .i64 17])) w := by unfold PackPost; rw [if_neg h16]; exact ⟨rfl, rfl⟩
    have HPOST := Lib.hid hpost; clear hpost
    go_enter Tryz.func41, Tryz.ntmps41
    go_wp2_with (go_at_call 64; refine (HMP.out _).mono ?_; rintro e w' ⟨rfl, rfl⟩)
    refine bodyPost_ret (results_tmp2 rfl _ _ _) rfl ?_
    exact HPOST.out
end Go.Proofs.YtegclfpmgilnpaaGreat
