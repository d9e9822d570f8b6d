import Derived.Test.YtegclfpmgilnpaaGreatGLib
import Derived.WalkKit
import Derived.ProofKit
import Derived.OpenShut
import Derived.ShutString
import Derived.ChangeOld
import Derived.Below
import Derived.Deep.Grids
import Derived.Test.YtegclfpmgilnpaaGreatGRelB
import Derived.Deep.Slices
import Derived.Deep.MidRow
import Derived.ChangeArms
namespace Go.Lac
open Go Go.RowKit Go.ChangeShapes Go.WideShapes Go.ChangeAt
section
variable {H : Type} {enc : TypeId × Value → H} {P : Program} {w : World} {base : Nat} {spare : Nat → Bool} {held : Bool} {r : Reach} {b0 : Nat}
theorem wf_u16_bd {n : Int} (h : (Lit.int .u16 n).wf = true) : 0 ≤ n ∧ n ≤ 65535 := by
  have h' : (decide (IntKind.u16.min ≤ n) && decide (n ≤ IntKind.u16.max)) = true := h
  rw [Bool.and_eq_true, decide_eq_true_eq, decide_eq_true_eq] at h'
  exact h'
theorem wf_u32_bd {n : Int} (h : (Lit.int .u32 n).wf = true) : 0 ≤ n ∧ n ≤ 4294967295 := by
  have h' : (decide (IntKind.u32.min ≤ n) && decide (n ≤ IntKind.u32.max)) = true := h
  rw [Bool.and_eq_true, decide_eq_true_eq, decide_eq_true_eq] at h'
  exact h'
end
end Go.Lac
namespace Go.Proofs.YtegclfpmgilnpaaGreat
open Go Go.RowKit Go.Lac Go.ChangeShapes Go.WideShapes Go.ChangeAt
def refv (a : Nat × Nat) : Array Value := #[.int .u32 (a.1 : Nat), .int .u32 (a.2 : Nat)]
def refOk (a : Nat × Nat) : Prop := a.1 < 4294967296 ∧ a.2 < 4294967296
theorem choose_l {α : Type} {p : Nat → α → Prop} (n : Nat) (h : ∀ i, i < n → ∃ x, p i x) : ∃ l : List α, l.length = n ∧ ∀ i (hi : i < l.length), p i l[i] := by
  induction n with
  | zero => exact ⟨[], rfl, fun i hi => absurd hi (by simp)⟩
  | succ n ih =>
    obtain ⟨l, h1, h2⟩ := ih fun i hi => h i (by omega)
    obtain ⟨x, hx⟩ := h n (by omega)
    refine ⟨l ++ [x], by simp [h1], fun i hi => ?_⟩
    by_cases hil : i < l.length
    · rw [List.getElem_append_left hil]; exact h2 i hil
    · have : i = l.length := by simp at hi; omega
      subst this
      simp [h1, hx]
theorem cellsRR : Tryz.prog.cellsOf 25 = 2 := by kernel_rfl
theorem cellsRC : Tryz.prog.cellsOf 78 = 3 := by kernel_rfl
theorem cellsRl : Tryz.prog.cellsOf 28 = 5 := by kernel_rfl
theorem cells1_u32 : Tryz.prog.cellsOf 23 = 1 := by kernel_rfl
theorem cells1_u8 : Tryz.prog.cellsOf 5 = 1 := by kernel_rfl
theorem cells1_str : Tryz.prog.cellsOf 9 = 1 := by kernel_rfl
theorem cells1_bool : Tryz.prog.cellsOf 4 = 1 := by kernel_rfl
theorem cells1_cols : Tryz.prog.cellsOf 26 = 1 := by kernel_rfl
section
variable {H : Type} {enc : TypeId × Value → H} {w : World} {base : Nat} {held : Bool} {r : Reach} {b0 : Nat}
set_option maxRecDepth 20000 in
theorem ref_cells {spare : Nat → Bool} {fuel : Nat} {cs : List Value} {x : DataW H × List MemPlace} (h : DataW.trod enc Tryz.prog w base spare held fuel 25 cs = some x) : ∃ a : Nat × Nat, cs = (refv a).toList ∧ refOk a := by
  obtain ⟨xs, n', _, _, hl, g5, g6⟩ := DataW.trod_struct Tryz.underlying25 h
  rw [cellsRR] at hl
  match cs, hl, xs, g5 with
  | [u0, u1], _, [y0, y1], _ =>
    have k0 := g6 0 _ rfl
    have k1 := g6 1 _ rfl
    simp [cells1_u32] at k0 k1
    obtain ⟨z0, hz0, _, w0⟩ := DataW.trod_int Tryz.underlying23 k0
    obtain ⟨z1, hz1, _, w1⟩ := DataW.trod_int Tryz.underlying23 k1
    simp at hz0 hz1
    subst hz0; subst hz1
    have b0 := wf_u32_bd w0
    have b1 := wf_u32_bd w1
    obtain ⟨z0, rfl⟩ := Int.eq_ofNat_of_zero_le b0.1
    obtain ⟨z1, rfl⟩ := Int.eq_ofNat_of_zero_le b1.1
    exact ⟨(z0, z1), rfl, by unfold refOk; simp only; omega⟩
set_option maxRecDepth 20000 in
theorem agg_of {t : TypeId} {fs : Array Field} {v : Value} (hut : Tryz.prog.underlying t = some (.struct fs)) (hv : Value.okWide Tryz.prog w r b0 t v) : ∃ cs, v = .agg cs := by
  simp only [Value.okWide, hut] at hv
  obtain ⟨cs, h1, h2, _⟩ := hv
  exact ⟨cs, h1⟩
set_option maxRecDepth 20000 in
theorem col_cells {fuel : Nat} {spare : Nat → Bool} {cs : List Value} {x : DataW H × List MemPlace} (h : DataW.trod enc Tryz.prog w base spare held fuel 78 cs = some x) : ∃ c : Col, cs = (colv c).toList ∧ c.ok ∧ c.name.length ≤ 9223372036854775807 := by
  obtain ⟨xs, n', _, _, hl, g5, g6⟩ := DataW.trod_struct Tryz.underlying78 h
  rw [cellsRC] at hl
  match cs, hl, xs, g5 with
  | [u0, u1, u2], _, [y0, y1, y2], _ =>
    have k0 := g6 0 _ rfl
    have k1 := g6 1 _ rfl
    have k2 := g6 2 _ rfl
    simp [cells1_u8, cells1_str, cells1_bool] at k0 k1 k2
    obtain ⟨⟨⟨z0⟩⟩, hz0, _, w0⟩ := DataW.trod_string Tryz.underlying9 k0
    obtain ⟨z1, hz1, _, w1⟩ := DataW.trod_int Tryz.underlying5 k1
    obtain ⟨z2, hz2, _⟩ := DataW.trod_bool Tryz.underlying4 k2
    simp at hz0 hz1 hz2
    subst hz0; subst hz1; subst hz2
    have b1 := wf_u8_bd w1
    obtain ⟨z1, rfl⟩ := Int.eq_ofNat_of_zero_le b1.1
    exact ⟨⟨z0, z1, z2⟩, rfl, by unfold Col.ok; simp only; omega, by simp [ByteArray.size, maxLen] at w0; simpa using w0⟩
set_option maxRecDepth 20000 in
theorem colS_of_at {ao : Option Addr} {n cap : Nat} {l : List Col} (hn : n = l.length) (h1 : n ≤ cap) (h2 : cap ≤ maxLen) (h3 : ao = none → cap = 0) (h : ∀ i (hi : i < l.length), ∃ b o, ao = some ⟨b, o, none⟩ ∧ w.rangeAt b (o + i * 3) (colv l[i]).toList) : ColS w (.slice ao n cap) l := by
  subst hn
  refine ⟨ao, cap, rfl, h1, h2, h3, fun x hx j u hu => ?_⟩
  have hj : j < l.length * 3 := by have := (List.getElem?_eq_some_iff.1 hu).1; rwa [colC_length] at this
  obtain ⟨b, o, e, hr⟩ := h (j / 3) (by omega)
  rw [hx] at e; cases e
  refine ⟨b, o, rfl, ?_⟩
  have key : ∀ (l : List Col) (i q : Nat) (hi : i < l.length) (u : Value), q < 3 → (colC l)[i * 3 + q]? = some u → (colv l[i]).toList[q]? = some u := by
    intro l
    induction l with
    | nil => intro i q hi; simp at hi
    | cons c l ih =>
      intro i q hi u hq hu
      cases i with
      | zero =>
        unfold colC at hu
        rw [List.flatMap_cons, Nat.zero_mul, Nat.zero_add, List.getElem?_append_left (by simpa [colv] using hq)] at hu
        exact hu
      | succ i =>
        refine ih i q (by simpa using hi) u hq ?_
        unfold colC at hu ⊢
        rw [List.flatMap_cons, List.getElem?_append_right (by simp [colv]; omega)] at hu
        rwa [show (i + 1) * 3 + q - (colv c).toList.length = i * 3 + q by simp [colv]; omega] at hu
  have := hr (j % 3) u (key l (j / 3) (j % 3) (by omega) u (Nat.mod_lt _ (by decide)) (by rw [show j / 3 * 3 + j % 3 = j by omega]; exact hu))
  rwa [show o + j / 3 * 3 + j % 3 = o + j by omega] at this
set_option maxRecDepth 20000 in
theorem cols_cells {fuel : Nat} {cs : List Value} {x : DataW H × List MemPlace} (h : DataW.trod enc Tryz.prog w base (fun _ => true) held fuel 26 cs = some x) : ∃ (cv : Value) (l : List Col), cs = [cv] ∧ ColS w cv l ∧ ∀ c ∈ l, c.ok ∧ c.name.length ≤ 9223372036854775807 := by
  rcases Go.Deep.open_slice Tryz.underlying26 h with ⟨hcs, _⟩ | ⟨x, l, c, m, n, D, Pl, hcs, _, hl, hm, hmm, _, hx⟩
  · exact ⟨_, [], hcs, ⟨none, 0, rfl, Nat.le_refl _, Nat.zero_le _, fun _ => rfl, fun x hx => by cases hx⟩, fun c hc => by cases hc⟩
  · simp only [if_true] at hmm
    subst hmm
    rw [cellsRC] at hx
    have key : ∀ i, i < l → ∃ y : Col, (∃ b o, some x = some ⟨b, o, none⟩ ∧ w.rangeAt b (o + i * 3) (colv y).toList) ∧ y.ok ∧ y.name.length ≤ 9223372036854775807 := fun i hi => by
      obtain ⟨cs', g1, g2⟩ := hx i (by omega)
      obtain ⟨_, g3, g4⟩ := World.cells?_some g1
      obtain ⟨y, e1, e2, e3⟩ := col_cells g2
      subst e1
      have hsp : x.spot = none := by
        obtain ⟨cs0, q1, _⟩ := hx 0 (by omega)
        obtain ⟨_, q3, q4⟩ := World.cells?_some q1
        have q5 := q4 0 (by omega)
        rw [List.getElem?_eq_getElem (by omega)] at q5
        have := World.cell?_spot q5
        simpa [Addr.add] using this
      obtain ⟨b, o, sp⟩ := x
      cases hsp
      refine ⟨y, ⟨b, o, rfl, fun j u hj => ?_⟩, e2, e3⟩
      have hj3 : j < 3 := by have := (List.getElem?_eq_some_iff.1 hj).1; simpa [colv] using this
      have := g4 j hj3
      rw [Addr.add_lit, Addr.add_lit, hj] at this
      exact this
    obtain ⟨L, h1, h2⟩ := choose_l l key
    refine ⟨_, L, hcs, colS_of_at h1.symm hl (by omega) (fun h => by cases h) fun i hi => (h2 i hi).1, fun c hc => ?_⟩
    obtain ⟨i, hi, rfl⟩ := List.mem_iff_getElem.1 hc
    exact (h2 i hi).2
set_option maxRecDepth 20000 in
theorem rel_cells {fuel : Nat} {cs : List Value} {x : DataW H × List MemPlace} (h : DataW.trod enc Tryz.prog w base (fun _ => true) held fuel 28 cs = some x) : ∃ (q : Rl) (cv : Value), cs = (relv q cv).toList ∧ ColS w cv q.cols ∧ q.ok ∧ q.fits := by
  obtain ⟨xs, n', _, _, hl, g5, g6⟩ := DataW.trod_struct Tryz.underlying28 h
  rw [cellsRl] at hl
  match cs, hl, xs, g5 with
  | [u0, u1, u2, u3, u4], _, [y0, y1, y2, y3], _ =>
    have k0 := g6 0 _ rfl
    have k1 := g6 1 _ rfl
    have k2 := g6 2 _ rfl
    have k3 := g6 3 _ rfl
    simp [cells1_u8, cells1_str, cellsRR, cells1_cols] at k0 k1 k2 k3
    obtain ⟨a, ea, ha⟩ := ref_cells k0
    obtain ⟨⟨⟨z1⟩⟩, hz1, _, w1⟩ := DataW.trod_string Tryz.underlying9 k1
    obtain ⟨z2, hz2, _, w2⟩ := DataW.trod_int Tryz.underlying5 k2
    obtain ⟨cv, l, e3, hc, hcs⟩ := cols_cells k3
    simp [refv] at ea hz1 hz2 e3
    obtain ⟨rfl, rfl⟩ := ea
    subst hz1; subst hz2; subst e3
    have b2 := wf_u8_bd w2
    obtain ⟨z2, rfl⟩ := Int.eq_ofNat_of_zero_le b2.1
    refine ⟨⟨a.1, a.2, z1, z2, l⟩, _, rfl, hc, ⟨ha.1, ha.2, by simp only; omega, fun c hc => (hcs c hc).1⟩, by simp [ByteArray.size, maxLen] at w1; simpa using w1, fun c hc => (hcs c hc).2⟩
set_option maxRecDepth 20000 in
theorem open_rel {v : Value} {d : DataW H} {ps : List MemPlace} (hv : Value.okWide Tryz.prog w r b0 28 v) (h : DataW.Trod enc Tryz.prog w base (fun _ => true) held 28 v d ps) :
    ∃ (q : Rl) (cv : Value), v = .agg (relv q cv) ∧ ColS w cv q.cols ∧ q.ok ∧ q.fits := by
  obtain ⟨cs, rfl⟩ := agg_of Tryz.underlying28 hv
  obtain ⟨fuel, hf⟩ := h
  obtain ⟨q, cv, h1, h2⟩ := rel_cells hf
  refine ⟨q, cv, ?_, h2⟩
  simp only [Value.cells] at h1
  rw [show cs = ⟨cs.toList⟩ from rfl, h1]
end
end Go.Proofs.YtegclfpmgilnpaaGreat
