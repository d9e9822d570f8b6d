/-
  Own: a frame of the document, as the program's; the chapter's example: the walk.
-/
import Derived.Test.YtcdhalgpnhdbnaaProg
import Derived.Test.YtcdhalgpnhdbnaaLib
import Derived.Test.YtcdhalgpnhdbnaaLibC
import Derived.Test.YtcdhalgpnhdbnaaInfo
import Derived.Test.YtcdhalgpnhdbnaaLibD
import Derived.Test.YtcdhalgpnhdbnaaEqual
import Derived.Test.YtcdhalgpnhdbnaaCrcF
import Derived.Test.YtcdhalgpnhdbnaaFrB
import Derived.WalkKit
import Derived.Lib.Hide
import Derived.Outline
import Derived.Laws.BitsAllLaws
namespace Go.Proofs.Ytcdhalgpnhdbnaa
open Go.RowKit Go.Lac

theorem field44_0 (w : World) (b : Nat) : (Instr.fieldAt 44 (.pointer (some ⟨b, 0, none⟩)) 0).run Try.prog w = .ok (.pointer (some ⟨b, 0, none⟩)) w := by kernel_rfl
theorem field44_1 (w : World) (b : Nat) : (Instr.fieldAt 44 (.pointer (some ⟨b, 0, none⟩)) 1).run Try.prog w = .ok (.pointer (some ⟨b, 1, none⟩)) w := by kernel_rfl
theorem field44_2 (w : World) (b : Nat) : (Instr.fieldAt 44 (.pointer (some ⟨b, 0, none⟩)) 2).run Try.prog w = .ok (.pointer (some ⟨b, 2, none⟩)) w := by kernel_rfl
theorem build40 (w : World) (x y : Nat) (a : Option Addr) (n c : Nat) : (Instr.build 40 #[(0, .int .u8 (x : Nat)), (1, .int .u8 (y : Nat)), (2, .slice a n c)]).run Try.prog w = .ok (.agg #[.int .u8 (x : Nat), .int .u8 (y : Nat), .slice a n c]) w := by kernel_rfl
theorem build44 (w : World) (x y : Nat) (a : Option Addr) (n c : Nat) : (Instr.build 44 #[(0, .int .u8 (x : Nat)), (1, .int .u8 (y : Nat)), (2, .slice a n c)]).run Try.prog w = .ok (.agg #[.int .u8 (x : Nat), .int .u8 (y : Nat), .slice a n c]) w := by kernel_rfl
theorem empty23 (w : World) : (Instr.buildSlice 23 0 #[]).run Try.prog w = .ok (.slice (some ⟨w.heap.size, 0, none⟩) 0 0) (w.alloc (.cells #[] 5)) := by kernel_rfl

def ownT (g1 B x y : Nat) (ao : Option Addr) (n cap : Nat) (p : List UInt8) : Tmp → Kn
  | 3 => .is (.pointer (some ⟨g1, 0, none⟩))
  | 4 => .is (.int .u8 (x : Nat))
  | 5 => .is (.pointer (some ⟨g1, 1, none⟩))
  | 6 => .is (.int .u8 (y : Nat))
  | 7 => Kn.empty B 5
  | 8 => .is (.pointer (some ⟨g1, 2, none⟩))
  | 9 => .is (.slice ao n cap)
  | 10 => .own B 5 n (cellsB p)
  | 11 => .fr B 5 x y n (cellsB p)
  | _ => .any

/-- A record of these is handed back. -/
def FrPost (x y : Nat) (p : List UInt8) (w : World) (e : Ending) (w' : World) : Prop :=
  ∃ t, e = .returned (.agg #[.int .u8 (x : Nat), .int .u8 (y : Nat), t]) ∧ Ext w w' ∧ Rd w' t p

set_option maxRecDepth 20000 in
set_option maxHeartbeats 2000000 in
theorem own_any (x y : Nat) (s : Value) (p : List UInt8) (w : World) (h : Rd w s p) (hl : p.length ≤ 1000000) :
    Calls Try.prog 29 #[.agg #[.int .u8 (x : Nat), .int .u8 (y : Nat), s]] w (FrPost x y p w) := by
  obtain ⟨i, hi, hz, hsz, hby⟩ := info_parts infoU8
  obtain ⟨ao, cap, rfl⟩ := h.shape
  have hpl : (cellsB p).length = p.length := cellsB_length p
  obtain ⟨n, hn⟩ : ∃ n, n = p.length := ⟨_, rfl⟩
  have HPL : Hid (p.length = n) := Lib.hid hn.symm
  rw [← hn] at h hl ⊢
  clear hpl
  have HL := Lib.hid hl
  have HI := Lib.hid hi; have HZ := Lib.hid hz; have HSZ := Lib.hid hsz; have HBY := Lib.hid hby
  clear hi hz hsz hby hl hn
  obtain ⟨w1, hw1⟩ : ∃ w1, w1 = (w.alloc (.cells #[.int .u8 (x : Nat), .int .u8 (y : Nat), .slice ao n cap] 44)).alloc (.cells #[.int .u8 0, .int .u8 0, .slice none 0 0] 40) := ⟨_, rfl⟩
  obtain ⟨g1, hg1⟩ : ∃ g1, g1 = w.heap.size := ⟨_, rfl⟩
  obtain ⟨g2, hg2⟩ : ∃ g2, g2 = w.heap.size + 1 := ⟨_, rfl⟩
  obtain ⟨B, hB⟩ : ∃ B, B = w.heap.size + 2 := ⟨_, rfl⟩
  have hext : Ext w w1 := by rw [hw1]; exact ((Ch.refl _ _).alloc _).alloc _
  have hgb : w1.heap[g2]? = some (.cells #[.int .u8 0, .int .u8 0, .slice none 0 0] 40 (0, 0)) := by rw [hw1, hg2]; exact heap_alloc2_new _ _ _
  have hga : w1.heap[g1]? = some (.cells #[.int .u8 (x : Nat), .int .u8 (y : Nat), .slice ao n cap] 44 (0, 0)) := by rw [hw1, hg1]; exact heap_alloc2_old _ _ _
  have HC0 := Lib.hid (show w1.cell? ⟨g1, 0, none⟩ = some (.int .u8 (x : Nat)) by rw [cell_of_row _ _ _ _ _ _ hga]; rfl)
  have HC1 := Lib.hid (show w1.cell? ⟨g1, 1, none⟩ = some (.int .u8 (y : Nat)) by rw [cell_of_row _ _ _ _ _ _ hga]; rfl)
  have HC2 := Lib.hid (show w1.cell? ⟨g1, 2, none⟩ = some (.slice ao n cap) by rw [cell_of_row _ _ _ _ _ _ hga]; rfl)
  have HSIZE : Hid (B ≤ w1.heap.size) := Lib.hid (by rw [hw1, hB]; simp)
  have HG2 : Hid (g2 < B) := Lib.hid (by omega)
  have HGE : Hid (w.heap.size ≤ g2) := Lib.hid (by omega)
  have HGB := Lib.hid hgb; have HEXT := Lib.hid hext
  have H : Hid (Rd w1 (.slice ao n cap) p) := Lib.hid (h.ext hext)
  have HW1 := Lib.hid hw1; have HG1 := Lib.hid hg1; have HG22 := Lib.hid hg2
  clear h hext hgb hga hw1 hg1 hg2 hB
  go_enter Try.func29, Try.ntmps29
  go_wp2
  rw [← HW1.out, ← HG22.out, ← HG1.out]
  refine wp_region_late (ownT g1 B x y ao n cap p) (fun _ => .any) 9 (fun w' => ∃ t, w'.heap[g2]? = some (.cells #[.int .u8 (x : Nat), .int .u8 (y : Nat), t] 40 (0, 0)) ∧ w'.ownsRow B 5 1 t n (cellsB p) ∧ Ext w w') mixedEq (by rfl) (by rfl) (by decide) ?all ?fin
  case all =>
    refine ⟨?_, ?_, ?_, ?_, ?_, ?_, ?_, ?_, ?_, ?_, trivial⟩
    · -- 0: slot 3 := Op.fieldAddr 44 t1 0
      refine StepG.early (by rfl) (by decide) rfl fun ρ w hρ hw hf => ?_
      have h1 : ρ (.tmp 1) = (.pointer (some ⟨g1, 0, none⟩)) := (hf 1).2 rfl rfl
      exact Exec.kfield rfl rfl h1 (field44_0 w g1) rfl
    · -- 1: slot 4 := Op.load 5 t3
      refine StepG.early (by rfl) (by decide) rfl fun ρ w hρ hw hf => ?_
      have h3 : ρ (.tmp 3) = (.pointer (some ⟨g1, 0, none⟩)) := (hf 3).1 rfl
      have hc := hw.cell (p := ⟨g1, 0, none⟩) (fun f => f) _ HC0.out
      exact Exec.same (v := .int .u8 (x : Nat)) rfl (by simp [go_sem, hρ.const, h3, hc]) rfl
    · -- 2: slot 5 := Op.fieldAddr 44 t1 1
      refine StepG.early (by rfl) (by decide) rfl fun ρ w hρ hw hf => ?_
      have h1 : ρ (.tmp 1) = (.pointer (some ⟨g1, 0, none⟩)) := (hf 1).2 rfl rfl
      exact Exec.kfield rfl rfl h1 (field44_1 w g1) rfl
    · -- 3: slot 6 := Op.load 5 t5
      refine StepG.early (by rfl) (by decide) rfl fun ρ w hρ hw hf => ?_
      have h5 : ρ (.tmp 5) = (.pointer (some ⟨g1, 1, none⟩)) := (hf 5).1 rfl
      have hc := hw.cell (p := ⟨g1, 1, none⟩) (fun f => f) _ HC1.out
      exact Exec.same (v := .int .u8 (y : Nat)) rfl (by simp [go_sem, hρ.const, h5, hc]) rfl
    · -- 4: slot 7 := Op.buildSlice 23 0 #[]
      refine StepG.early (by rfl) (by decide) rfl fun ρ w hρ hw hf => ?_
      exact Exec.kempty rfl rfl empty23 (by have := hw.size; have := HSIZE.out; omega) fun g w' h => ⟨g, rfl, h⟩
    · -- 5: slot 8 := Op.fieldAddr 44 t1 2
      refine StepG.early (by rfl) (by decide) rfl fun ρ w hρ hw hf => ?_
      have h1 : ρ (.tmp 1) = (.pointer (some ⟨g1, 0, none⟩)) := (hf 1).2 rfl rfl
      exact Exec.kfield rfl rfl h1 (field44_2 w g1) rfl
    · -- 6: slot 9 := Op.load 23 t8
      refine StepG.early (by rfl) (by decide) rfl fun ρ w hρ hw hf => ?_
      have h8 : ρ (.tmp 8) = (.pointer (some ⟨g1, 2, none⟩)) := (hf 8).1 rfl
      have hc := hw.cell (p := ⟨g1, 2, none⟩) (fun f => f) _ HC2.out
      exact Exec.same (v := .slice ao n cap) rfl (by simp [go_sem, hρ.const, h8, hc]) rfl
    · -- 7: slot 10 := Op.call { builtin append, args := #[t7, t9], argTypes := #[23, 23] }
      refine StepG.early (by rfl) (by decide) rfl fun ρ w hρ hw hf => ?_
      have h7 : (Kn.empty B 5).holds (ρ (.tmp 7)) w := (hf 7).1 rfl
      have h9 : ρ (.tmp 9) = (.slice ao n cap) := (hf 9).1 rfl
      refine Exec.kfresh rfl rfl Try.underlying23 HI.out HZ.out HSZ.out HBY.out rfl h7 (by rw [h9]; have := H.out.ext hw; unfold Rd at this; rw [HPL.out] at this; exact this) (by rw [cellsB_length, HPL.out]) (cellsB_one _) (by have := HL.out; omega) (by have := HL.out; unfold maxLen; omega) (by have := hw.size; have := HSIZE.out; omega) fun v w' h => h
    · -- 8: slot 11 := Op.build 40 #[(0, t4), (1, t6), (2, t10)]
      refine StepG.early (by rfl) (by decide) rfl fun ρ w hρ hw hf => ?_
      have h4 : ρ (.tmp 4) = (.int .u8 (x : Nat)) := (hf 4).1 rfl
      have h6 : ρ (.tmp 6) = (.int .u8 (y : Nat)) := (hf 6).1 rfl
      have h10 : w.ownsRow B 5 1 (ρ (.tmp 10)) n (cellsB p) := (hf 10).1 rfl
      obtain ⟨a1, c1, e1⟩ := owns_shape h10
      exact Exec.kbuild3 rfl rfl h4 h6 e1 (build40 w x y a1 n c1) ⟨_, rfl, by rw [← e1]; exact h10⟩
    · -- 9: the store
      refine StepG.write (late := []) (by rfl) rfl (fun d v w w' _ _ => trivial) fun ρ w hρ hw hf => ?_
      have h2 : ρ (.tmp 2) = .pointer (some ⟨g2, 0, none⟩) := (hf 2).2 rfl rfl
      obtain ⟨t, h11, ho⟩ : (Kn.fr B 5 x y n (cellsB p)).holds (ρ (.tmp 11)) w := (hf 11).1 rfl
      have hg := hw.block g2 (by have := HSIZE.out; have := HG2.out; omega) (fun f => f)
      rw [HGB.out] at hg
      obtain ⟨a1, c1, e1⟩ := owns_shape ho
      refine (Exec.kstorerow rfl h2 h11 hg (by kernel_rfl) rfl (by rw [e1]; simp [Value.oneCell'])).mono ?_
      rintro _ w' rfl
      refine ⟨(fun d hd => by cases hd), t, ?_, ownsRow_setRow ho _ _ HG2.out, (HEXT.out.trans hw).setRow (.inr HGE.out) _⟩
      exact setRow_heap _ _ _ _ _ _ hg

  case fin =>
    intro ν w2 _ hfin
    obtain ⟨t, k1, k2, k3⟩ := hfin
    simp only [Exit.then, ended, List.foldl_cons, List.foldl_nil, List.setIfInBounds_toArray, List.set_cons_succ, List.set_cons_zero]
    have K1 := Lib.hid k1; have K2 := Lib.hid (show Rd w2 t p from Rd.ofOwns k2); have K3 := Lib.hid k3
    clear k1 k2 k3
    go_wp2
    refine bodyPost_ret (results_cell_row rfl _ _ g2 _ #[.int .u8 (x : Nat), .int .u8 (y : Nat), t] _ _ rfl K1.out Try.underlying40 rfl (by kernel_rfl)) rfl ?_
    exact ⟨t, rfl, K3.out, K2.out⟩

end Go.Proofs.Ytcdhalgpnhdbnaa
