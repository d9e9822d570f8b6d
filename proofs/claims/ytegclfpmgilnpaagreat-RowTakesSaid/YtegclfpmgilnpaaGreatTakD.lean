import Derived.Test.YtegclfpmgilnpaaGreatValP
import Derived.Test.YtegclfpmgilnpaaGreatGRef
namespace Go.Proofs.YtegclfpmgilnpaaGreat
open Go.RowKit Go.Lac
set_option maxRecDepth 20000 in
set_option maxHeartbeats 1000000 in
theorem qtakeFloat_any (q : Nat) (s : RS) (ver : Nat) (w : World) (h : IsQ w q s) :
    Calls Tryz.prog 113 #[QPtr q, .int .u8 (ver : Nat)] w (QPost q (.int .u64 (fltR ver s).1) (fltR ver s).2 w) := by
  unfold fltR
  by_cases hv : ver = 1
  · simp only [if_pos hv]
    subst hv
    have HB := Lib.hid (qword_any q s w h)
    generalize (wordR s).1 = b at *
    generalize (wordR s).2 = s1 at *
    clear h
    unfold QPtr at *
    go_enter Tryz.func113, Tryz.ntmps113
    go_wp2_with (go_at_call 111; refine HB.out.mono ?_)
    rintro e w1 ⟨rfl, k1, k2⟩
    have K1 := Lib.hid k1; have K2 := Lib.hid k2; clear k1 k2
    go_wp2
    go_ret
    exact ⟨rfl, K1.out, K2.out⟩
  · simp only [if_neg hv]
    have e1 : (((ver : Nat) : Int) == 1) = false := by simp; omega
    have HB := Lib.hid (quint_any q s 18446744073709551615 w h (by decide))
    have HR := Lib.hid (fun w => refTurned_any (uintR 18446744073709551615 s).1 w (by have := uintR_lt 18446744073709551615 s; omega))
    generalize (uintR 18446744073709551615 s).1 = b at *
    generalize (uintR 18446744073709551615 s).2 = s1 at *
    clear h hv
    unfold QPtr at *
    go_enter Tryz.func113, Tryz.ntmps113
    go_wp2_with (go_at_call 87; refine HB.out.mono ?_)
    rintro e w1 ⟨rfl, k1, k2⟩
    have K1 := Lib.hid k1; have K2 := Lib.hid k2; clear k1 k2
    go_wp2_with (go_at_call 125; refine (HR.out _).mono ?_)
    rintro e w2 ⟨rfl, k1⟩
    have K3 : Hid (Only q w w2) := Lib.hid (K1.out.trans k1.ch); have K4 := Lib.hid (K2.out.ext k1); clear k1
    go_wp2
    go_ret
    exact ⟨rfl, K3.out, K4.out⟩
set_option maxRecDepth 20000 in
set_option maxHeartbeats 1000000 in
theorem qpart_any (q : Nat) (s : RS) (th : Bool) (w : World) (h : IsQ w q s) :
    Calls Tryz.prog 114 #[QPtr q, .bool th] w (QPost q (.int .u64 (partR th s).1) (partR th s).2 w) := by
  unfold partR
  cases th with
  | false =>
    simp only [Bool.false_eq_true, if_false]
    have H := Lib.hid h
    clear h
    unfold QPtr
    go_enter Tryz.func114, Tryz.ntmps114
    go_wp2
    go_ret
    exact ⟨rfl, Ch.refl _ _, H.out⟩
  | true =>
    simp only [if_true]
    have HB : Hid (Calls Tryz.prog 113 #[QPtr q, .int .u8 2] w (QPost q (.int .u64 (fltR 2 s).1) (fltR 2 s).2 w)) := Lib.hid (qtakeFloat_any q s 2 w h)
    generalize (fltR 2 s).1 = b at *
    generalize (fltR 2 s).2 = s1 at *
    clear h
    have HF := Lib.hid (fun w h => giveUp_any q s1 3 w h)
    unfold QPtr at *
    by_cases hb : b = 0
    · simp only [if_pos hb]
      subst hb
      go_enter Tryz.func114, Tryz.ntmps114
      go_wp2_with (go_at_call 113; refine HB.out.mono ?_)
      rintro e w1 ⟨rfl, k1, k2⟩
      have K1 := Lib.hid k1; have K2 := Lib.hid k2; clear k1 k2
      go_wp2_with (go_at_call 32; refine (HF.out _ K2.out).mono ?_)
      rintro e w2 ⟨rfl, k1, k2⟩
      have K3 := Lib.hid (K1.out.trans k1); have K4 := Lib.hid k2; clear k1 k2
      go_wp2
      go_ret
      exact ⟨rfl, K3.out, K4.out⟩
    · simp only [if_neg hb]
      have e1 : (((b : Nat) : Int) == 0) = false := by simp; omega
      clear hb
      go_enter Tryz.func114, Tryz.ntmps114
      go_wp2_with (go_at_call 113; refine HB.out.mono ?_)
      rintro e w1 ⟨rfl, k1, k2⟩
      have K1 := Lib.hid k1; have K2 := Lib.hid k2; clear k1 k2
      go_wp2
      go_ret
      exact ⟨rfl, K1.out, K2.out⟩
def IsWQ (w : World) (q : Nat) (s : RS) : Prop :=
  ∃ ao cap n a, w.heap[q]? = some (.cells #[.slice ao n cap, .int .i64 (a : Nat), .int .i64 s.2] 34 (0, 0)) ∧ a ≤ n ∧ n ≤ 9223372036854775807 ∧ s.1.length = if s.2 = 0 then n - a else 0
theorem IsQ.weak {w : World} {q : Nat} {s : RS} (h : IsQ w q s) : IsWQ w q s := by
  obtain ⟨bs, a, ao, cap, c0, c1, c2, f1, f2, hrd, hle, hm, hs, hrow, hst⟩ := h.cells
  refine ⟨ao, cap, bs.length, a, hrow, hle, hm, ?_⟩
  rw [hs]
  split
  · rw [List.length_drop]
  · rfl
theorem IsWQ.lt {w : World} {q : Nat} {s : RS} (h : IsWQ w q s) : q < w.heap.size := by
  obtain ⟨_, _, _, _, h1, _⟩ := h
  exact (Array.getElem?_eq_some_iff.1 h1).1
theorem IsWQ.ext {w w' : World} {q : Nat} {s : RS} (h : IsWQ w q s) (k : Ext w w') : IsWQ w' q s := by
  have hlt := h.lt
  obtain ⟨ao, cap, n, a, h1, h2⟩ := h
  exact ⟨ao, cap, n, a, by rw [k.block q hlt (fun f => f)]; exact h1, h2⟩
theorem IsWQ.same {w w' : World} {q : Nat} {s : RS} (h : IsWQ w q s) (k : w'.heap[q]? = w.heap[q]?) : IsWQ w' q s := by
  obtain ⟨ao, cap, n, a, h1, h2⟩ := h
  exact ⟨ao, cap, n, a, by rw [k]; exact h1, h2⟩
theorem IsQ.setElse {w : World} {q : Nat} {s : RS} (h : IsQ w q s) {p : Addr} {u0 : Value} (hp : w.cell? p = some u0) (hn : NoByte u0) (hb : q ≠ p.block) (u : Value) : IsQ (w.setCell p u) q s := by
  obtain ⟨lv, bs, a, h1, ⟨h2, h4⟩, h3⟩ := h
  exact ⟨lv, bs, a, by rw [heap_setCell_other w p q u hb]; exact h1, ⟨h2.setCell hp hn u, h4⟩, h3⟩
end Go.Proofs.YtegclfpmgilnpaaGreat
