/-
  chunk: the walk through a text's pieces, its body told what comes.
-/
import Derived.Test.YtolelgbkohccbaaChkA
import Derived.RangeFuncNested
import Derived.RangeFuncLeaves
import Derived.Shelf.Abstract
import Derived.Shelf.RegionOpen
import Derived.OwnWalkIn
import Derived.TacticsInMore
import Derived.LoopNIn
import Derived.LoopIn
import Derived.RangeFuncBox
namespace Go.Proofs.Ytolelgbkohccbaa
open Go.RowKit Go.Lac Go.Shelf
attribute [local go_sem] Oper.semAt_some

def encW (x : Nat × List UInt8) : Array Value := #[.int .i64 (x.1 : Nat), strV x.2]
theorem wl_take_succ (b : List UInt8) (k : Nat) (h : k < cnt b.length) : (wl b).take (k + 1) = (wl b).take k ++ [(k * 256, piece b k)] := by
  rw [List.take_succ_eq_append_getElem (by rw [wl_length]; exact h), wl_get]
def wkT (b : List UInt8) (l k : Nat) : Tmp → Kn
  | 13 => .is (.func (.yield l) #[] #[])
  | 14 => .is (.int .i64 (k * 256 : Nat))
  | 15 => .is (strV b)
  | 16 => .is (.int .i64 (k * 256 : Nat))
  | 17 => .is (.int .i64 (k * 256 : Nat))
  | 18 => .is (strV b)
  | 19 => .is (.int .i64 (b.length : Nat))
  | 20 => .is (.int .i64 (k : Nat))
  | 21 => .is (.int .i64 (min (b.length - k * 256) 256 : Nat))
  | 22 => .is (.int .i64 (k * 256 + min (b.length - k * 256) 256 : Nat))
  | 23 => .is (strV (piece b k))
  | _ => .any
def wkT' (A B : World → Prop) : Tmp → Value → World → Prop
  | 24, v, w => (v = .bool true ∧ A w) ∨ (v = .bool false ∧ B w)
  | 25, v, w => (v = .bool false ∧ A w) ∨ (v = .bool true ∧ B w)
  | _, _, _ => True
theorem run_substr {P : Program} {t : TypeId} (h : P.underlying t = some .string) (b : List UInt8) (i j : Nat) (hij : i ≤ j) (hj : j ≤ b.length) (w : World) :
    (Instr.sliceAt t (strV b) (some (.int .i64 (i : Nat))) (some (.int .i64 (j : Nat))) none).run P w = .ok (strV ((b.drop i).take (j - i))) w := by
  unfold strV
  rw [run_sliceAt_string (h := h), run_slice_string w t _ _ _ _ _ h (by omega) (by omega) (by simp [ByteArray.size]; omega), ByteArray.extract_mk]
  simp

theorem piece_min (b : List UInt8) (k : Nat) : (b.drop (k * 256)).take (k * 256 + min (b.length - k * 256) 256 - k * 256) = piece b k := by
  unfold piece
  rw [List.take_eq_take_iff, List.length_drop]
  omega
set_option maxRecDepth 100000 in
set_option maxHeartbeats 2000000 in
/-- The walk itself: for every loop body that changes but what is in N. -/
theorem walkW_mem (n : Nat) (hn : 1 ≤ n) (l g : Nat) (b : List UInt8) (N : Nat → Prop) (J Jx : List (Nat × List UInt8) → World → Prop) (W : World) (hl : b.length ≤ 1000000)
    (hg : ∀ W', Ch N W W' → W'.cell? ⟨g, 0, none⟩ = some (strV b)) (hNb : ∀ k, W.heap.size ≤ k → N k)
    (hJ : AbidesFrom W.heap.size J)
    (hY : ∀ pre x W1, pre ++ [x] <+: wl b → J pre W1 → pre.length < cnt b.length → YieldAt Fence.wide (n - 1) Try.prog l (encW x) W1 fun e W' =>
      (e = .returned (.bool true) ∧ J (pre ++ [x]) W' ∧ Ch N W1 W') ∨ (e = .returned (.bool false) ∧ Jx (pre ++ [x]) W'))
    (h0 : J [] W) :
    CallsIn Fence.wide n Try.prog 17 #[.func (.yield l) #[] #[], .pointer (some ⟨g, 0, none⟩)] W fun e W' => (∃ v, e = .returned v) ∧
      ((∃ ys, ys = wl b ∧ J ys W') ∨ (∃ pre, pre <+: wl b ∧ Jx pre W')) := by
  have hcl := hg W (Ch.refl _ _)
  have HG := Lib.hid hg; have HJ := Lib.hid hJ; have HY := Lib.hid hY; have H0 := Lib.hid h0; have HNB := Lib.hid hNb
  obtain ⟨m, hm⟩ : ∃ m, m = cnt b.length := ⟨_, rfl⟩
  have hm63 : m ≤ 1000000 := by have := cnt_le b.length; omega
  have HM := Lib.hid hm
  have HC := Lib.hid (count_any (b.length : Nat) W (by omega))
  rw [Int.toNat_natCast, ← hm] at HC
  clear hg hJ hY h0 hNb hm
  unfold strV at hcl
  refine callsIn_of_wp Try.func17 rfl trivial ?_ rfl
  simp only [Try.ntmps17, List.size_toArray, List.length_cons, List.length_nil, Nat.reduceAdd, Nat.reduceSub, Array.replicate_succ, Array.replicate_zero, List.push_toArray, List.append_toArray, List.nil_append, List.cons_append]
  gi_wp2_with fail
  refine ⟨trivial, ?_⟩
  refine (callsIn_wide.2 HC.out).mono ?_
  rintro e w1 ⟨rfl, rfl⟩
  clear hcl
  gi_wp2
  gi_loopw [8] (fun ix wr => ∃ k : Nat, k ≤ m ∧ ix = .int .i64 k ∧ Hid (J ((wl b).take k) wr) ∧ Hid (Ch N W wr)) (fun ix _ => m - (intOf ix).toNat)
  case atStart => exact ⟨0, Nat.zero_le _, rfl, Lib.hid (by simpa using H0.out), Lib.hid (Ch.refl _ _)⟩
  case round =>
    obtain ⟨k, hk, rfl, HJs, HX⟩ := hrel
    by_cases hlt : k < m
    · have hkc : k < cnt b.length := by have := HM.out; omega
      have hkb := cnt_lt.1 hkc
      have HT := Lib.hid (wl_take_succ b k hkc)
      have HLN : Hid (((wl b).take k).length < cnt b.length) := Lib.hid (by rw [List.length_take, wl_length]; omega)
      have HKB := Lib.hid hkb; have HLB := Lib.hid hl; have HLT := Lib.hid hlt
      have hk256 : (k : Int) * 256 = ((k * 256 : Nat) : Int) := by omega
      have HK256 := Lib.hid hk256
      clear hkc hkb hk256
      gi_wp2
      refine wpIn_region_yield (wkT b l k) (wkT' (fun w' => J ((wl b).take (k + 1)) w' ∧ Ch N W w') (fun w' => Jx ((wl b).take (k + 1)) w')) 11 Open.wide mixedV (by rfl) (by rfl) (by decide) ?all ?fin
      case all =>
        refine ⟨?_, ?_, ?_, ?_, ?_, ?_, ?_, ?_, ?_, ?_, ?_, ?_, ?_, trivial⟩
        · refine StepI.early Open.wide rfl (by rfl) (by decide) rfl fun ρ w hρ hw hf => ?_
          have h0 : ρ (.tmp 0) = .func (.yield l) #[] #[] := (hf 0).2 rfl rfl
          exact Exec.kmove rfl rfl h0
        · refine StepI.early Open.wide rfl (by rfl) (by decide) rfl fun ρ w hρ hw hf => ?_
          have h4 : ρ (.tmp 4) = .int .i64 (k * 256 : Nat) := by have h : ρ (.tmp 4) = .int .i64 ((k : Int) * 256) := (hf 4).2 rfl rfl; rw [h, HK256.out]
          exact Exec.kmove rfl rfl h4
        · refine StepI.early Open.wide rfl (by rfl) (by decide) rfl fun ρ w hρ hw hf => ?_
          have h1 : ρ (.tmp 1) = .pointer (some ⟨g, 0, none⟩) := (hf 1).2 rfl rfl
          have hc := HG.out w (HX.out.trans (Ext.ch hw))
          exact Exec.same (v := strV b) rfl (by simp [go_sem, hρ.const, h1, hc]) rfl
        · refine StepI.early Open.wide rfl (by rfl) (by decide) rfl fun ρ w hρ hw hf => ?_
          have h4 : ρ (.tmp 4) = .int .i64 (k * 256 : Nat) := by have h : ρ (.tmp 4) = .int .i64 ((k : Int) * 256) := (hf 4).2 rfl rfl; rw [h, HK256.out]
          exact Exec.kmove rfl rfl h4
        · refine StepI.early Open.wide rfl (by rfl) (by decide) rfl fun ρ w hρ hw hf => ?_
          have h4 : ρ (.tmp 4) = .int .i64 (k * 256 : Nat) := by have h : ρ (.tmp 4) = .int .i64 ((k : Int) * 256) := (hf 4).2 rfl rfl; rw [h, HK256.out]
          exact Exec.kmove rfl rfl h4
        · refine StepI.early Open.wide rfl (by rfl) (by decide) rfl fun ρ w hρ hw hf => ?_
          have h1 : ρ (.tmp 1) = .pointer (some ⟨g, 0, none⟩) := (hf 1).2 rfl rfl
          have hc := HG.out w (HX.out.trans (Ext.ch hw))
          exact Exec.same (v := strV b) rfl (by simp [go_sem, hρ.const, h1, hc]) rfl
        · refine StepI.early Open.wide rfl (by rfl) (by decide) rfl fun ρ w hρ hw hf => ?_
          have h18 : ρ (.tmp 18) = strV b := (hf 18).1 rfl
          exact Exec.same (v := .int .i64 (b.length : Nat)) rfl (by simp [go_sem, hρ.const, h18, strV, ByteArray.size]) rfl
        · refine StepI.early Open.wide rfl (by rfl) (by decide) rfl fun ρ w hρ hw hf => ?_
          have h3 : ρ (.tmp 3) = .int .i64 (k : Nat) := (hf 3).2 rfl rfl
          exact Exec.kmove rfl rfl h3
        · refine StepI.early Open.wide rfl (by rfl) (by decide) rfl fun ρ w hρ hw hf => ?_
          have h19 : ρ (.tmp 19) = .int .i64 (b.length : Nat) := (hf 19).1 rfl
          have h20 : ρ (.tmp 20) = .int .i64 (k : Nat) := (hf 20).1 rfl
          refine Exec.kcall #[.int .i64 (b.length : Nat), .int .i64 (k : Nat)] hρ rfl rfl (by simp [h19, h20]) Try.func19 (by rfl) (by rfl) ((size_any b.length k w HLB.out (Nat.le_of_lt HKB.out)).mono ?_)
          rintro e w' ⟨rfl, rfl⟩
          exact ⟨_, rfl, rfl, Ch.refl _ _⟩
        · refine StepI.early Open.wide rfl (by rfl) (by decide) rfl fun ρ w hρ hw hf => ?_
          have h17 : ρ (.tmp 17) = .int .i64 (k * 256 : Nat) := (hf 17).1 rfl
          have h21 : ρ (.tmp 21) = .int .i64 (min (b.length - k * 256) 256 : Nat) := (hf 21).1 rfl
          have hwr : IntKind.i64.wrap (((k * 256 : Nat) : Int) + ((min (b.length - k * 256) 256 : Nat) : Int)) = ((k * 256 + min (b.length - k * 256) 256 : Nat) : Int) := by have := HLB.out; have := HKB.out; rw [IntKind.wrap_i64]; omega
          exact Exec.same (v := .int .i64 (k * 256 + min (b.length - k * 256) 256 : Nat)) rfl (by generalize min (b.length - k * 256) 256 = q at *; generalize k * 256 = r at *; simp only [go_sem, execOp, hρ.const, h17, h21, hwr]; rfl) rfl
        · refine StepI.early Open.wide rfl (by rfl) (by decide) rfl fun ρ w hρ hw hf => ?_
          have h15 : ρ (.tmp 15) = strV b := (hf 15).1 rfl
          have h16 : ρ (.tmp 16) = .int .i64 (k * 256 : Nat) := (hf 16).1 rfl
          have h22 : ρ (.tmp 22) = .int .i64 (k * 256 + min (b.length - k * 256) 256 : Nat) := (hf 22).1 rfl
          have hr := run_substr (P := Try.prog) Try.underlying9 b (k * 256) (k * 256 + min (b.length - k * 256) 256) (by omega) (by have := HKB.out; omega) w
          rw [piece_min] at hr
          exact Exec.same (v := strV (piece b k)) rfl (by unfold execOp; simp only [Option.map_some, Option.map_none, h15, h16, h22, Sem.run_bind, hr, Result.andThen_ok, Sem.run_pure]) rfl
        · refine StepI.yield [24, 25] rfl rfl (fun d v w hd => ?_) (by rfl) (by rfl) fun x w hw hf => ?_
          · unfold wkT'; split <;> first | trivial | (simp at hd)
          · have h13 : x.eval (.tmp 13) = .func (.yield l) #[] #[] := (hf 13).1 rfl
            have h14 : x.eval (.tmp 14) = .int .i64 (k * 256 : Nat) := (hf 14).1 rfl
            have h23 : x.eval (.tmp 23) = strV (piece b k) := (hf 23).1 rfl
            refine ExecI.kyield (encW (k * 256, piece b k)) Open.wide rfl rfl h13 (by simp [encW, h14, h23]) (HY.out _ (k * 256, piece b k) w (by rw [← HT.out]; exact List.take_prefix _ _) (HJ.out.ext HJs.out hw) HLN.out) ?_
            rintro e w' (⟨rfl, h1, h2⟩ | ⟨rfl, h1⟩)
            · exact ⟨_, rfl, fun d hd => by cases hd; exact .inl ⟨rfl, by rw [HT.out]; exact h1, (HX.out.trans (Ext.ch hw)).trans h2⟩⟩
            · exact ⟨_, rfl, fun d hd => by cases hd; exact .inr ⟨rfl, by rw [HT.out]; exact h1⟩⟩
        · refine StepI.tail Open.wide rfl (by rfl) (by decide) rfl rfl fun ρ w hρ hf => ?_
          rcases hf 24 rfl with ⟨h24, h1⟩ | ⟨h24, h1⟩
          · exact ⟨.bool false, by simp [go_sem, hρ.const, h24], fun d hd => by cases hd; exact .inl ⟨rfl, h1⟩⟩
          · exact ⟨.bool true, by simp [go_sem, hρ.const, h24], fun d hd => by cases hd; exact .inr ⟨rfl, h1⟩⟩
      case fin =>
        intro ν w9 hfin
        have hv : wkT' (fun w' => J ((wl b).take (k + 1)) w' ∧ Ch N W w') (fun w' => Jx ((wl b).take (k + 1)) w') 25 (ν 25) w9 := hfin 12 25 rfl
        simp only [Exit.then, ended, List.foldl_cons, List.foldl_nil, List.setIfInBounds_toArray, List.set_cons_succ, List.set_cons_zero]
        clear hfin
        rcases hv with ⟨e0, h1, h2⟩ | ⟨e0, h1⟩
        · have HJ1 := Lib.hid h1; have HX1 := Lib.hid h2
          rw [e0]
          clear h1 h2 e0
          gi_wp2
          go_roundw
          case rel => exact ⟨k + 1, HLT.out, by simp, HJ1, HX1⟩
          case measure => simp [intOf]; have := HLT.out; omega
        · have HJ1 := Lib.hid h1
          rw [e0]
          clear h1 e0
          gi_wp2
          refine bodyPost_ret (results_none rfl _ _ _) rfl ?_
          exact ⟨⟨_, rfl⟩, .inr ⟨_, List.take_prefix _ _, HJ1.out⟩⟩
    · obtain rfl : k = m := by omega
      gi_wp2
      go_end0
      exact ⟨⟨_, rfl⟩, .inl ⟨_, rfl, by have := HJs.out; rwa [HM.out, ← wl_length, List.take_length] at this⟩⟩
end Go.Proofs.Ytolelgbkohccbaa
