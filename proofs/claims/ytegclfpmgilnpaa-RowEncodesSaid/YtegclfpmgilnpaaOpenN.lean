/-
  Arguments opened: a row of the document, holes, texts.
-/
import Derived.Test.YtegclfpmgilnpaaGOpen
import Derived.Test.YtegclfpmgilnpaaRowD
import Derived.Test.YtegclfpmgilnpaaImgA
import Derived.Deep.Strs
namespace Go.Proofs.Ytegclfpmgilnpaa
open Go Go.RowKit Go.Lac Go.ChangeShapes Go.WideShapes Go.ChangeAt

section
variable {H : Type} {enc : TypeId × Value → H} {P : Program} {w : World} {base : Nat} {spare : Nat → Bool} {held : Bool} {r : Reach} {b0 : Nat}
theorem open_val_cells {t : TypeId} {d : DataW H} {ps : List MemPlace} {n : Nat} {a b c d' e : Value} {fs : Array Field} {f0 f1 f2 f3 f4 : Field} (ht : P.underlying t = some (.struct fs))
    (hsz : fs.size = 5) (hf0 : fs[0]? = some f0) (hf1 : fs[1]? = some f1) (hf2 : fs[2]? = some f2) (hf3 : fs[3]? = some f3) (hf4 : fs[4]? = some f4)
    (t0 : P.underlying f0.type = some (.int .u8)) (t1 : P.underlying f1.type = some (.int .i64)) (t2 : P.underlying f2.type = some (.int .u64)) (t3 : P.underlying f3.type = some (.int .u64)) (t4 : P.underlying f4.type = some .string)
    (o0 : f0.offset = 0) (o1 : f1.offset = 1) (o2 : f2.offset = 2) (o3 : f3.offset = 3) (o4 : f4.offset = 4)
    (c0 : P.cellsOf f0.type = 1) (c1 : P.cellsOf f1.type = 1) (c2 : P.cellsOf f2.type = 1) (c3 : P.cellsOf f3.type = 1) (c4 : P.cellsOf f4.type = 1)
    (hf : DataW.trod enc P w base spare held n t [a, b, c, d', e] = some (d, ps)) :
    ∃ x : Val, #[a, b, c, d', e] = rvals x ∧ x.ok ∧ x.t.length ≤ maxLen := by
  obtain ⟨xs, n', _, _, _, g5, g6⟩ := DataW.trod_struct ht hf
  match xs, g5.trans hsz with
  | [y0, y1, y2, y3, y4], _ =>
    have k0 := g6 0 f0 hf0
    have k1 := g6 1 f1 hf1
    have k2 := g6 2 f2 hf2
    have k3 := g6 3 f3 hf3
    have k4 := g6 4 f4 hf4
    simp [o0, c0] at k0
    simp [o1, c1] at k1
    simp [o2, c2] at k2
    simp [o3, c3] at k3
    simp [o4, c4] at k4
    obtain ⟨z0, hz0, _, w0⟩ := DataW.trod_int t0 k0
    obtain ⟨z1, hz1, _, w1⟩ := DataW.trod_int t1 k1
    obtain ⟨z2, hz2, _, w2⟩ := DataW.trod_int t2 k2
    obtain ⟨z3, hz3, _, w3⟩ := DataW.trod_int t3 k3
    obtain ⟨⟨⟨z4⟩⟩, hz4, _, w4⟩ := DataW.trod_string t4 k4
    cases hz0; cases hz1; cases hz2; cases hz3; cases hz4
    have b0 := wf_u8_bd w0
    have b1 := wf_i64_bd w1
    have b2 := wf_u64_bd w2
    have b3 := wf_u64_bd w3
    obtain ⟨z0, rfl⟩ := Int.eq_ofNat_of_zero_le b0.1
    obtain ⟨z2, rfl⟩ := Int.eq_ofNat_of_zero_le b2.1
    obtain ⟨z3, rfl⟩ := Int.eq_ofNat_of_zero_le b3.1
    exact ⟨⟨z0, z1, z2, z3, z4⟩, rfl, ⟨by simp only; omega, b1.1, b1.2, by simp only; omega, by simp only; omega⟩, by simpa [ByteArray.size] using w4⟩
end
section
variable {H : Type} {enc : TypeId × Value → H} {w : World} {base : Nat} {held : Bool} {r : Reach} {b0 : Nat}
theorem cellsRcc : Try.prog.cellsOf 124 = 6 := by kernel_rfl
theorem cellsRvv : Try.prog.cellsOf 122 = 5 := by kernel_rfl
theorem cells1_i64 : Try.prog.cellsOf 3 = 1 := by kernel_rfl
set_option maxRecDepth 20000 in
theorem cel_cells {fuel : Nat} {spare : Nat → Bool} {cs : List Value} {x : DataW H × List MemPlace} (h : DataW.trod enc Try.prog w base spare held fuel 124 cs = some x) : ∃ c : Cel, cs = (rcv c).toList ∧ c.v.t.length ≤ maxLen := by
  obtain ⟨xs, n', _, _, hl, g5, g6⟩ := DataW.trod_struct Try.underlying124 h
  rw [cellsRcc] at hl
  match cs, hl, xs, g5 with
  | [u0, u1, u2, u3, u4, u5], _, [y0, y1], _ =>
    have k0 := g6 0 _ rfl
    have k1 := g6 1 _ rfl
    simp [cells1_u8, cellsRvv] at k0 k1
    obtain ⟨z0, hz0, _, w0⟩ := DataW.trod_int Try.underlying5 k0
    simp at hz0
    subst hz0
    have b0 := wf_u8_bd w0
    obtain ⟨z0, rfl⟩ := Int.eq_ofNat_of_zero_le b0.1
    obtain ⟨v, e1, _, e3⟩ := open_val_cells Try.underlying122 rfl rfl rfl rfl rfl rfl Try.underlying5 Try.underlying3 Try.underlying120 Try.underlying120 Try.underlying9 rfl rfl rfl rfl rfl (by kernel_rfl) (by kernel_rfl) (by kernel_rfl) (by kernel_rfl) (by kernel_rfl) k1
    unfold rvals at e1
    simp only [Array.mk.injEq, List.cons.injEq, and_true] at e1
    obtain ⟨q1, q2, q3, q4, q5⟩ := e1
    exact ⟨⟨z0, v⟩, by rw [q1, q2, q3, q4, q5]; rfl, e3⟩
set_option maxRecDepth 20000 in
theorem rcS_of_at {ao : Option Addr} {n cap : Nat} {l : List Cel} (hn : n = l.length) (h1 : n ≤ cap) (h2 : cap ≤ maxLen) (h3 : ao = none → cap = 0) (h : ∀ i (hi : i < l.length), ∃ b o, ao = some ⟨b, o, none⟩ ∧ w.rangeAt b (o + i * 6) (rcv l[i]).toList) : RcS w (.slice ao n cap) l := by
  subst hn
  refine ⟨ao, cap, rfl, h1, h2, h3, fun x hx j u hu => ?_⟩
  have hj : j < l.length * 6 := by have := (List.getElem?_eq_some_iff.1 hu).1; rwa [RcC_length] at this
  obtain ⟨b, o, e, hr⟩ := h (j / 6) (by omega)
  rw [hx] at e; cases e
  refine ⟨b, o, rfl, ?_⟩
  have hq : j % 6 < (rcv l[j / 6]).toList.length := by have := Nat.mod_lt j (show 0 < 6 by decide); simpa [rcv] using this
  have h5 := RcC_at l (j / 6) (by omega) (j % 6) _ (List.getElem?_eq_getElem hq)
  rw [show j / 6 * 6 + j % 6 = j by omega, hu] at h5
  have := hr (j % 6) u (by rw [List.getElem?_eq_getElem hq]; exact h5.symm)
  rwa [show o + j / 6 * 6 + j % 6 = o + j by omega] at this
set_option maxRecDepth 20000 in
theorem rowc_cells {fuel : Nat} {cs : List Value} {x : DataW H × List MemPlace} (h : DataW.trod enc Try.prog w base (fun _ => true) held fuel 71 cs = some x) : ∃ (v : Value) (l : List Cel), cs = [v] ∧ RcS w v l := by
  rcases Go.Deep.open_slice Try.underlying71 h with ⟨hcs, _⟩ | ⟨x, l, c, m, n, D, Pl, hcs, _, hl, hm, hmm, _, hx⟩
  · exact ⟨_, [], hcs, none, 0, rfl, Nat.le_refl _, Nat.zero_le _, fun _ => rfl, fun x hx => by cases hx⟩
  · simp only [if_true] at hmm
    subst hmm
    rw [cellsRcc] at hx
    have key : ∀ i, i < l → ∃ y : Cel, (∃ b o, some x = some ⟨b, o, none⟩ ∧ w.rangeAt b (o + i * 6) (rcv y).toList) := fun i hi => by
      obtain ⟨cs', g1, g2⟩ := hx i (by omega)
      obtain ⟨_, g3, g4⟩ := World.cells?_some g1
      obtain ⟨y, e1, e2⟩ := cel_cells g2
      subst e1
      have hsp : x.spot = none := by
        obtain ⟨cs0, q1, _⟩ := hx 0 (by omega)
        obtain ⟨_, q3, q4⟩ := World.cells?_some q1
        have q5 := q4 0 (by omega)
        rw [List.getElem?_eq_getElem (by omega)] at q5
        have := World.cell?_spot q5
        simpa [Addr.add] using this
      obtain ⟨b, o, sp⟩ := x
      cases hsp
      refine ⟨y, b, o, rfl, fun j u hj => ?_⟩
      have hj3 : j < 6 := by have := (List.getElem?_eq_some_iff.1 hj).1; simpa [rcv] using this
      have := g4 j hj3
      rw [Addr.add_lit, Addr.add_lit, hj] at this
      exact this
    obtain ⟨L, h1, h2⟩ := choose_l l key
    exact ⟨_, L, hcs, rcS_of_at h1.symm hl (by omega) (fun h => by cases h) fun i hi => h2 i hi⟩
set_option maxRecDepth 20000 in
theorem open_row {v : Value} {d : DataW H} {ps : List MemPlace} (hv : Value.okWide Try.prog w r b0 71 v) (h : DataW.Trod enc Try.prog w base (fun _ => true) held 71 v d ps) :
    ∃ l : List Cel, RcS w v l := by
  obtain ⟨fuel, hf⟩ := h
  obtain ⟨u, l, h1, h2⟩ := rowc_cells hf
  have e : v = u := by
    obtain ⟨a, n, c, rfl⟩ := okWide_slice Try.underlying71 hv
    simpa [Value.cells] using h1
  subst e
  exact ⟨l, h2⟩
theorem cellsHo : Try.prog.cellsOf 92 = 2 := by kernel_rfl
theorem HoC_length : ∀ l : List Ho, (HoC l).length = l.length * 2
  | [] => rfl
  | c :: l => by
    have := HoC_length l
    unfold HoC at *
    rw [List.flatMap_cons, List.length_append, this]
    simp [hov]; omega
set_option maxRecDepth 20000 in
theorem ho_cells {fuel : Nat} {spare : Nat → Bool} {cs : List Value} {x : DataW H × List MemPlace} (h : DataW.trod enc Try.prog w base spare held fuel 92 cs = some x) : ∃ p : Ho, cs = (hov p).toList := by
  obtain ⟨xs, n', _, _, hl, g5, g6⟩ := DataW.trod_struct Try.underlying92 h
  rw [cellsHo] at hl
  match cs, hl, xs, g5 with
  | [u0, u1], _, [y0, y1], _ =>
    have k0 := g6 0 _ rfl
    have k1 := g6 1 _ rfl
    simp [cells1_i64] at k0 k1
    obtain ⟨z0, hz0, _, w0⟩ := DataW.trod_int Try.underlying3 k0
    obtain ⟨z1, hz1, _, w1⟩ := DataW.trod_int Try.underlying3 k1
    simp at hz0 hz1
    subst hz0; subst hz1
    exact ⟨⟨z0, z1⟩, rfl⟩
set_option maxRecDepth 20000 in
theorem open_hos {v : Value} {d : DataW H} {ps : List MemPlace} (hv : Value.okWide Try.prog w r b0 81 v) (h : DataW.Trod enc Try.prog w base (fun _ => true) held 81 v d ps) :
    ∃ l : List Ho, HoS w v l := by
  obtain ⟨a, len, cap, rfl⟩ := okWide_slice Try.underlying81 hv
  obtain ⟨fuel, hf⟩ := h
  rcases Go.Deep.open_slice Try.underlying81 hf with ⟨hcs, _⟩ | ⟨x, l, c, m, n, D, Pl, hcs, _, hl, hm, hmm, _, hx⟩
  · simp [Value.cells] at hcs
    obtain ⟨rfl, rfl, rfl⟩ := hcs
    exact ⟨[], none, 0, rfl, Nat.le_refl _, Nat.zero_le _, fun _ => rfl, fun x hx => by cases hx⟩
  · simp [Value.cells] at hcs
    obtain ⟨rfl, rfl, rfl⟩ := hcs
    simp only [if_true] at hmm
    subst hmm
    rw [cellsHo] at hx
    have key : ∀ i, i < len → ∃ y : Ho, ∃ b o, some x = some ⟨b, o, none⟩ ∧ w.rangeAt b (o + i * 2) (hov y).toList := fun i hi => by
      obtain ⟨cs', g1, g2⟩ := hx i (by omega)
      obtain ⟨_, g3, g4⟩ := World.cells?_some g1
      obtain ⟨q, e1⟩ := ho_cells g2
      subst e1
      have hsp : x.spot = none := by
        obtain ⟨cs0, q1, _⟩ := hx 0 (by omega)
        obtain ⟨_, q3, q4⟩ := World.cells?_some q1
        have q5 := q4 0 (by omega)
        rw [List.getElem?_eq_getElem (by omega)] at q5
        have := World.cell?_spot q5
        simpa [Addr.add] using this
      obtain ⟨b, o, sp⟩ := x
      cases hsp
      refine ⟨q, b, o, rfl, fun j u hj => ?_⟩
      have hj5 : j < 2 := by have := (List.getElem?_eq_some_iff.1 hj).1; simpa [hov] using this
      have := g4 j hj5
      rw [Addr.add_lit, Addr.add_lit, hj] at this
      exact this
    obtain ⟨L, h1, h2⟩ := choose_l len key
    subst h1
    refine ⟨L, some x, _, rfl, hl, by omega, (fun h => by cases h), fun y hy j u hu => ?_⟩
    have hj : j < L.length * 2 := by have := (List.getElem?_eq_some_iff.1 hu).1; rwa [HoC_length] at this
    obtain ⟨b, o, e, hr⟩ := h2 (j / 2) (by omega)
    rw [hy] at e; cases e
    refine ⟨b, o, rfl, ?_⟩
    have hq : j % 2 < (hov L[j / 2]).toList.length := by have := Nat.mod_lt j (show 0 < 2 by decide); simpa [hov] using this
    have h5 := HoC_at L (j / 2) (by omega) (j % 2) _ (List.getElem?_eq_getElem hq)
    rw [show j / 2 * 2 + j % 2 = j by omega, hu] at h5
    have := hr (j % 2) u (by rw [List.getElem?_eq_getElem hq]; exact h5.symm)
    rwa [show o + j / 2 * 2 + j % 2 = o + j by omega] at this
theorem open_textsR {P : Program} {spare : Nat → Bool} {t e : TypeId} {v : Value} {d : DataW H} {ps : List MemPlace} (ht : P.underlying t = some (.slice e)) (he : P.underlying e = some .string) (hce : P.cellsOf e = 1)
    (hv : Value.okWide P w r b0 t v) (h : DataW.Trod enc P w base spare held t v d ps) : ∃ l, TxR w v l := by
  obtain ⟨a, len, cap, rfl⟩ := okWide_slice ht hv
  obtain ⟨fuel, hf⟩ := h
  rcases Deep.open_strs ht he hce hf with ⟨hcs, _⟩ | ⟨x, l, c, m, Sx, hcs, _, hl, hm, hmm, _, hx⟩
  · simp [Value.cells] at hcs
    obtain ⟨rfl, rfl, rfl⟩ := hcs
    exact ⟨[], none, 0, rfl, Nat.zero_le _, by unfold maxLen; simp, fun _ => rfl, fun x hx => by cases hx⟩
  · simp [Value.cells] at hcs
    obtain ⟨rfl, rfl, rfl⟩ := hcs
    have hlm : len ≤ m := by rw [hmm]; split <;> omega
    have hL : ((List.range len).map fun i => (Sx i).data.toList).length = len := by simp
    refine ⟨(List.range len).map fun i => (Sx i).data.toList, some x, cap, by rw [hL], by rw [hL]; exact hl, hm, (fun h => by cases h), fun y hy j u hu => ?_⟩
    cases hy
    have hj : j < len := by have := (List.getElem?_eq_some_iff.1 hu).1; simpa using this
    have hsp : x.spot = none := by
      have := World.cell?_spot (hx 0 (by omega)).1
      simpa [Addr.add] using this
    obtain ⟨b, o, sp⟩ := x
    cases hsp
    refine ⟨b, o, rfl, ?_⟩
    have hc := (hx j (by omega)).1
    rw [Addr.add_lit] at hc
    rw [hc]
    have : u = strV (Sx j).data.toList := by
      rw [List.map_map, List.getElem?_map, List.getElem?_range hj] at hu
      simpa using hu.symm
    rw [this]
    rfl
end
end Go.Proofs.Ytegclfpmgilnpaa
