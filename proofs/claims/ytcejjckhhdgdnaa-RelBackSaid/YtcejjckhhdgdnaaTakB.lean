/-
  Values taken: the program's Take.
-/
import Derived.Test.YtcejjckhhdgdnaaTakA
import Derived.Test.YtcejjckhhdgdnaaValC
namespace Go.Proofs.Ytcejjckhhdgdnaa
open Go.RowKit Go.Lac

/-- What is known of a reader at the end: how many bytes are left, the error. -/
def IsW (w : World) (r : Nat) (s : RS) : Prop :=
  ∃ ao cap, w.heap[r]? = some (.cells #[.slice ao s.1.length cap, .int .i64 s.2] 140 (0, 0))
theorem IsR.weak {w : World} {r : Nat} {s : RS} (h : IsR w r s) : IsW w r s := by
  obtain ⟨lv, h1, ⟨h2, _⟩, _⟩ := h
  obtain ⟨ao, cap, rfl⟩ := h2.shape
  exact ⟨ao, cap, h1⟩
theorem IsW.lt {w : World} {r : Nat} {s : RS} (h : IsW w r s) : r < w.heap.size := by
  obtain ⟨_, _, h1⟩ := h
  exact (Array.getElem?_eq_some_iff.1 h1).1
theorem IsW.ext {w w' : World} {r : Nat} {s : RS} (h : IsW w r s) (k : Ext w w') : IsW w' r s := by
  have hlt := h.lt
  obtain ⟨ao, cap, h1⟩ := h
  exact ⟨ao, cap, by rw [k.block r hlt (fun f => f)]; exact h1⟩
theorem IsW.same {w w' : World} {r : Nat} {s : RS} (h : IsW w r s) (k : w'.heap[r]? = w.heap[r]?) : IsW w' r s := by
  obtain ⟨ao, cap, h1⟩ := h
  exact ⟨ao, cap, by rw [k]; exact h1⟩

set_option maxRecDepth 20000 in
set_option maxHeartbeats 1000000 in
theorem end_w (r : Nat) (s : RS) (w : World) (h : IsW w r s) :
    Calls Try.prog 60 #[RPtr r] w fun e w' => e = .returned (.int .i64 (endR s)) ∧ w = w' := by
  obtain ⟨ao, cap, h1⟩ := h
  have c0 : w.cell? ⟨r, 0, none⟩ = some (.slice ao s.1.length cap) := by rw [cell_of_row w r 0 _ _ _ h1]; rfl
  have c1 : w.cell? ⟨r, 1, none⟩ = some (.int .i64 s.2) := by rw [cell_of_row w r 1 _ _ _ h1]; rfl
  clear h1
  unfold RPtr
  by_cases h1 : s.2 = 0
  · have e1 : (s.2 == 0) = true := by simp [h1]
    by_cases h2 : 0 < s.1.length
    · have hE : endR s = 2 := by unfold endR; rw [if_pos ⟨h1, h2⟩]
      rw [hE]
      have H1 := Lib.hid h1; clear h1 hE
      go_enter Try.func60, Try.ntmps60
      go_wp2
      go_ret
      exact ⟨rfl, rfl⟩
    · have hE : endR s = s.2 := by unfold endR; rw [if_neg (fun h => h2 h.2)]
      rw [hE]
      have H1 := Lib.hid h1; clear h1 hE
      go_enter Try.func60, Try.ntmps60
      go_wp2
      go_ret
      exact ⟨rfl, rfl⟩
  · have e1 : (s.2 == 0) = false := by simp [h1]
    have hE : endR s = s.2 := by unfold endR; rw [if_neg (fun h => h1 h.1)]
    rw [hE]
    clear h1 hE
    go_enter Try.func60, Try.ntmps60
    go_wp2
    go_ret
    exact ⟨rfl, rfl⟩

/-- What is done to newer blocks than the reader's is not seen. -/
theorem IsR.above {w w' : World} {r : Nat} {s : RS} (h : IsR w r s) (k : Ch (fun i => r < i) w w') : IsR w' r s := by
  have hlt := h.lt
  obtain ⟨lv, h1, ⟨h2, h4⟩, h3⟩ := h
  refine ⟨lv, by rw [k.block r hlt (fun f => by omega)]; exact h1, ⟨?_, h4⟩, h3⟩
  obtain ⟨ao, cap, g1, g2, g3, g4, g5⟩ := h2
  refine ⟨ao, cap, g1, g2, g3, g4, fun x hx j c hc => ?_⟩
  obtain ⟨b, off, rfl, g6⟩ := g5 x hx j c hc
  have hne : s.1 ≠ [] := by rintro e; rw [e] at hc; simp [cellsB] at hc
  have hb : b < r := h4.2 hne ⟨b, off, none⟩ _ _ (by rw [g1, hx])
  exact ⟨b, off, rfl, k.cell (p := ⟨b, off + j, none⟩) (fun (f : r < b) => by omega) c g6⟩
/-- A value is taken. -/
def TkPost (r : Nat) (v : Val) (s : RS) (w : World) (e : Ending) (w' : World) : Prop := e = .returned (pv v) ∧ Only r w w' ∧ IsR w' r s

/-- What a kind's reading makes of a reader: the value, as the fields hold it. -/
def tRaw (ver k : Nat) (s : RS) : Val × RS :=
  if k = 1 then (⟨k, ((tByte 1 s).1 : Int), 0, 0, []⟩, (tByte 1 s).2)
  else if k = 2 then (⟨k, (tInt ver s).1, 0, 0, []⟩, (tInt ver s).2)
  else if k = 3 then (⟨k, 0, (fltR ver s).1, 0, []⟩, (fltR ver s).2)
  else if k = 4 then (⟨k, 0, (tCplx ver s).1.1, (tCplx ver s).1.2, []⟩, (tCplx ver s).2)
  else if k = 5 then (⟨k, 0, 0, 0, (tText s).1⟩, (tText s).2)
  else if k = 6 then (⟨k, 0, 0, 0, (textR 2048 s).1⟩, (textR 2048 s).2)
  else (⟨k, 0, 0, 0, []⟩, s)
/-- What the program does: the checks, the reading, the answer. -/
def tPre (ver k : Nat) (s : RS) : RS :=
  let s1 := if ver = 1 ∨ ver = 2 then s else failR s 18
  if 1 ≤ k ∧ k ≤ 6 then s1 else failR s1 11
def tTake (ver k : Nat) (s : RS) : Val × RS :=
  (if (tRaw ver k (tPre ver k s)).2.2 ≠ 0 then .zero else (tRaw ver k (tPre ver k s)).1, (tRaw ver k (tPre ver k s)).2)

theorem heap_of_ext {w w' : World} {g : Nat} {o : Obj} (k : Ext w w') (h : w.heap[g]? = some o) : w'.heap[g]? = some o := by
  rw [k.block g (Array.getElem?_eq_some_iff.1 h).1 (fun f => f)]; exact h
theorem heap_of_only {w w' : World} {r g : Nat} {o : Obj} (k : Only r w w') (hg : g ≠ r) (h : w.heap[g]? = some o) : w'.heap[g]? = some o := by
  rw [k.block g (Array.getElem?_eq_some_iff.1 h).1 hg]; exact h

end Go.Proofs.Ytcejjckhhdgdnaa
