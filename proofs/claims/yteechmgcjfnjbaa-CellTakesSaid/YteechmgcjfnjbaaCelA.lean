/-
  Cells: the program's small answers (types, versions, what is wrong, large, alike).
-/
import Derived.Test.YteechmgcjfnjbaaCelM
import Derived.Test.YteechmgcjfnjbaaValE
import Derived.Test.YteechmgcjfnjbaaValH
import Derived.Deep.MidRow
namespace Go.Proofs.Yteechmgcjfnjbaa
open Go.RowKit Go.Lac

def pcv (c : Cel) : Array Value := #[.int .u8 (c.k : Nat), .int .u8 (c.v.ty : Nat), .int .i64 c.v.i, .complex .f64 c.v.re c.v.im, strV c.v.t]
def pc (c : Cel) : Value := .agg (pcv c)
def rcv (c : Cel) : Array Value := #[.int .u8 (c.k : Nat), .int .u8 (c.v.ty : Nat), .int .i64 c.v.i, .int .u64 (c.v.re : Nat), .int .u64 (c.v.im : Nat), strV c.v.t]
def rc (c : Cel) : Value := .agg (rcv c)
theorem infoPC : (Try.prog.info? 31).map (·.size) = some 5 := by kernel_rfl
theorem infoRC : (Try.prog.info? 26).map (·.size) = some 6 := by kernel_rfl
theorem build61_1 (w : World) (k : Nat) : (Instr.build 29 #[(0, .int .u8 (k : Nat))]).run Try.prog w = .ok (.agg #[.int .u8 (k : Nat), .int .i64 0, .complex .f64 0 0, .string ⟨#[]⟩]) w := by kernel_rfl
theorem build61_0 (w : World) : (Instr.build 29 #[]).run Try.prog w = .ok (.agg #[.int .u8 0, .int .i64 0, .complex .f64 0 0, .string ⟨#[]⟩]) w := by kernel_rfl
theorem build54_0 (w : World) : (Instr.build 24 #[]).run Try.prog w = .ok (.agg #[.int .u8 0, .int .i64 0, .int .u64 0, .int .u64 0, .string ⟨#[]⟩]) w := by kernel_rfl
theorem load_mid (w : World) (T : TypeId) (b o : Nat) (C : Array Value) (t : TypeId) (cs : Array Value) (d : TypeDesc) (hb : w.heap[b]? = some (.cells C t (0, 0))) (hc : ∀ j v, cs.toList[j]? = some v → C[o + j]? = some v)
    (hu : Try.prog.underlying T = some d) (hd : d.isRow = true) (hi : (Try.prog.info? T).map (·.size) = some cs.size) : (Instr.loadAt T (.pointer (some ⟨b, o, none⟩))).run Try.prog w = .ok (.agg cs) w := by
  have := run_loadAt_mid (P := Try.prog) w b o T cs.toList d (fun j v hv => by rw [cell_of_row w b (o + j) C t _ hb]; exact hc j v hv) hu hd (by simpa using hi)
  simpa using this

theorem vErr_only (k : Nat) : vErr ⟨k, 0, 0, 0, []⟩ = if k < 1 ∨ 6 < k then 11 else 0 := by
  unfold vErr
  by_cases h : k < 1 ∨ 6 < k
  · rw [if_pos h, if_pos h]
  · rw [if_neg h, if_neg h]; simp [plainB]

set_option maxRecDepth 20000 in
theorem cIsType_any (k : Nat) (w : World) :
    Calls Try.prog 45 #[.int .u8 (k : Nat)] w fun e w' => e = .returned (.bool (decide (1 ≤ k ∧ k ≤ 6))) ∧ Ext w w' := by
  have hb := build61_1 w k
  have hr := vright_any ⟨k, 0, 0, 0, []⟩ w
  rw [vErr_only] at hr
  unfold pv pvals strV at hr
  by_cases h : k < 1 ∨ 6 < k
  · rw [if_pos h] at hr
    rw [decide_eq_false (by omega)]
    have HR := Lib.hid hr; clear hr h
    go_enter Try.func45, Try.ntmps45
    go_wp2_with fail
    refine HR.out.mono ?_
    rintro e w1 ⟨rfl, hx⟩
    have HX := Lib.hid hx; clear hx
    go_wp2
    go_ret
    exact ⟨rfl, HX.out⟩
  · rw [if_neg h] at hr
    rw [decide_eq_true (by omega)]
    have HR := Lib.hid hr; clear hr h
    go_enter Try.func45, Try.ntmps45
    go_wp2_with fail
    refine HR.out.mono ?_
    rintro e w1 ⟨rfl, hx⟩
    have HX := Lib.hid hx; clear hx
    go_wp2
    go_ret
    exact ⟨rfl, HX.out⟩
set_option maxRecDepth 20000 in
theorem cIsText_any (k : Nat) (w : World) :
    Calls Try.prog 48 #[.int .u8 (k : Nat)] w fun e w' => e = .returned (.bool (texty k)) ∧ w = w' := by
  unfold texty
  by_cases h1 : k = 5
  · subst h1
    go_enter Try.func48, Try.ntmps48
    go_wp2
    go_ret
    exact ⟨rfl, rfl⟩
  · have e1 : (((k : Nat) : Int) == 5) = false := by simp; omega
    by_cases h2 : k = 6
    · subst h2
      go_enter Try.func48, Try.ntmps48
      go_wp2
      go_ret
      exact ⟨rfl, rfl⟩
    · have e2 : (((k : Nat) : Int) == 6) = false := by simp; omega
      rw [decide_eq_false (by omega)]
      clear h1 h2
      go_enter Try.func48, Try.ntmps48
      go_wp2
      go_ret
      exact ⟨rfl, rfl⟩
set_option maxRecDepth 20000 in
theorem rTexty_any (k : Nat) (w : World) :
    Calls Try.prog 49 #[.int .u8 (k : Nat)] w fun e w' => e = .returned (.bool (texty k)) ∧ w = w' := by
  unfold texty
  by_cases h1 : k = 5
  · subst h1
    go_enter Try.func49, Try.ntmps49
    go_wp2
    go_ret
    exact ⟨rfl, rfl⟩
  · have e1 : (((k : Nat) : Int) == 5) = false := by simp; omega
    by_cases h2 : k = 6
    · subst h2
      go_enter Try.func49, Try.ntmps49
      go_wp2
      go_ret
      exact ⟨rfl, rfl⟩
    · have e2 : (((k : Nat) : Int) == 6) = false := by simp; omega
      rw [decide_eq_false (by omega)]
      clear h1 h2
      go_enter Try.func49, Try.ntmps49
      go_wp2
      go_ret
      exact ⟨rfl, rfl⟩
set_option maxRecDepth 20000 in
theorem cIsVersion_any (k : Nat) (w : World) :
    Calls Try.prog 53 #[.int .u8 (k : Nat)] w fun e w' => e = .returned (.bool (decide (k = 1 ∨ k = 2))) ∧ w = w' := by
  by_cases h1 : k = 1
  · subst h1
    go_enter Try.func53, Try.ntmps53
    go_wp2
    go_ret
    exact ⟨rfl, rfl⟩
  · have e1 : (((k : Nat) : Int) == 1) = false := by simp; omega
    by_cases h2 : k = 2
    · subst h2
      go_enter Try.func53, Try.ntmps53
      go_wp2
      go_ret
      exact ⟨rfl, rfl⟩
    · have e2 : (((k : Nat) : Int) == 2) = false := by simp; omega
      rw [decide_eq_false (by omega)]
      clear h1 h2
      go_enter Try.func53, Try.ntmps53
      go_wp2
      go_ret
      exact ⟨rfl, rfl⟩

def fullE (v : Val) (kind : Nat) : Nat := if vErr v ≠ 0 then vErr v else if v.ty ≠ kind then 11 else 0
set_option maxRecDepth 20000 in
theorem rightFull_any (v : Val) (kind : Nat) (w : World) :
    Calls Try.prog 46 #[pv v, .int .u8 (kind : Nat)] w fun e w' => e = .returned (.int .i64 (fullE v kind : Nat)) ∧ Ext w w' := by
  have hr := fun w => vright_any v w
  unfold fullE
  generalize vErr v = E at *
  obtain ⟨k, n, re, im, t⟩ := v
  unfold pv pvals strV at *
  simp only at *
  generalize (⟨t.toArray⟩ : ByteArray) = A at *
  have HR := Lib.hid hr; clear hr
  have hg := heap_alloc_new w (.cells #[.int .u8 (k : Nat), .int .i64 n, .complex .f64 re im, .string A] 29)
  have hl := load_mid _ 29 w.heap.size 0 _ _ #[.int .u8 (k : Nat), .int .i64 n, .complex .f64 re im, .string A] _ hg (fun j v hv => by simpa using hv) Try.underlying29 rfl info61
  have hx0 : Ext w (w.alloc (.cells #[.int .u8 (k : Nat), .int .i64 n, .complex .f64 re im, .string A] 29)) := (Ch.refl _ _).alloc _
  have HX0 := Lib.hid hx0; have HG := Lib.hid hg; clear hx0 hg
  go_enter Try.func46, Try.ntmps46
  go_wp2_with fail
  refine (HR.out _).mono ?_
  rintro e w1 ⟨rfl, hx⟩
  have hc := hx.cell (p := ⟨w.heap.size, 0, none⟩) (fun f => f) _ (by rw [cell_of_row _ _ _ _ _ _ HG.out]; rfl)
  have HX := Lib.hid (HX0.out.trans hx); clear hx hl HX0 HG
  by_cases hE : E = 0
  · subst hE
    by_cases hk : k = kind
    · subst hk
      have e1 : (((k : Nat) : Int) != (k : Nat)) = false := by simp
      go_wp2
      go_ret
      exact ⟨by simp, HX.out⟩
    · have e1 : (((k : Nat) : Int) != (kind : Nat)) = true := by simp; omega
      have HK := Lib.hid hk; clear hk
      go_wp2
      go_ret
      exact ⟨by simp [HK.out], HX.out⟩
  · have e1 : (((E : Nat) : Int) != 0) = true := by simp; omega
    have HE := Lib.hid hE; clear hE
    go_wp2
    go_ret
    exact ⟨by simp [HE.out], HX.out⟩
end Go.Proofs.Yteechmgcjfnjbaa
