import Derived.Test.YtegclfpmgilnpaaGreatGOpen
import Derived.Test.YtegclfpmgilnpaaGreatGRowA
import Derived.Test.YtegclfpmgilnpaaGreatImgA
import Derived.Deep.Strs
namespace Go.Proofs.YtegclfpmgilnpaaGreat
open Go Go.RowKit Go.Lac Go.ChangeShapes Go.WideShapes Go.ChangeAt
section
variable {H : Type} {enc : TypeId × Value → H} {P : Program} {w : World} {base : Nat} {spare : Nat → Bool} {held : Bool} {r : Reach} {b0 : Nat}
theorem open_val_cells {t : TypeId} {d : DataW H} {ps : List MemPlace} {n : Nat} {a b c d' e : Value} {fs : Array Field} {f0 f1 f2 f3 f4 : Field} (ht : P.underlying t = some (.struct fs))
    (hsz : fs.size = 5) (hf0 : fs[0]? = some f0) (hf1 : fs[1]? = some f1) (hf2 : fs[2]? = some f2) (hf3 : fs[3]? = some f3) (hf4 : fs[4]? = some f4)
    (t0 : P.underlying f0.type = some (.int .u8)) (t1 : P.underlying f1.type = some (.int .i64)) (t2 : P.underlying f2.type = some (.int .u64)) (t3 : P.underlying f3.type = some (.int .u64)) (t4 : P.underlying f4.type = some .string)
    (o0 : f0.offset = 0) (o1 : f1.offset = 1) (o2 : f2.offset = 2) (o3 : f3.offset = 3) (o4 : f4.offset = 4)
    (c0 : P.cellsOf f0.type = 1) (c1 : P.cellsOf f1.type = 1) (c2 : P.cellsOf f2.type = 1) (c3 : P.cellsOf f3.type = 1) (c4 : P.cellsOf f4.type = 1)
    (hf : DataW.trod enc P w base spare held n t [a, b, c, d', e] = some (d, ps)) :
    ∃ x : Val, #[a, b, c, d', e] = rvals x ∧ x.ok ∧ x.t.length ≤ maxLen := by
  obtain ⟨xs, n', _, _, _, g5, g6⟩ := DataW.trod_struct ht hf
  match xs, g5.trans hsz with
  | [y0, y1, y2, y3, y4], _ =>
    have k0 := g6 0 f0 hf0
    have k1 := g6 1 f1 hf1
    have k2 := g6 2 f2 hf2
    have k3 := g6 3 f3 hf3
    have k4 := g6 4 f4 hf4
    simp [o0, c0] at k0
    simp [o1, c1] at k1
    simp [o2, c2] at k2
    simp [o3, c3] at k3
    simp [o4, c4] at k4
    obtain ⟨z0, hz0, _, w0⟩ := DataW.trod_int t0 k0
    obtain ⟨z1, hz1, _, w1⟩ := DataW.trod_int t1 k1
    obtain ⟨z2, hz2, _, w2⟩ := DataW.trod_int t2 k2
    obtain ⟨z3, hz3, _, w3⟩ := DataW.trod_int t3 k3
    obtain ⟨⟨⟨z4⟩⟩, hz4, _, w4⟩ := DataW.trod_string t4 k4
    cases hz0; cases hz1; cases hz2; cases hz3; cases hz4
    have b0 := wf_u8_bd w0
    have b1 := wf_i64_bd w1
    have b2 := wf_u64_bd w2
    have b3 := wf_u64_bd w3
    obtain ⟨z0, rfl⟩ := Int.eq_ofNat_of_zero_le b0.1
    obtain ⟨z2, rfl⟩ := Int.eq_ofNat_of_zero_le b2.1
    obtain ⟨z3, rfl⟩ := Int.eq_ofNat_of_zero_le b3.1
    exact ⟨⟨z0, z1, z2, z3, z4⟩, rfl, ⟨by simp only; omega, b1.1, b1.2, by simp only; omega, by simp only; omega⟩, by simpa [ByteArray.size] using w4⟩
end
section
variable {H : Type} {enc : TypeId × Value → H} {w : World} {base : Nat} {held : Bool} {r : Reach} {b0 : Nat}
theorem cellsRcc : Tryz.prog.cellsOf 76 = 6 := by kernel_rfl
theorem cellsRvv : Tryz.prog.cellsOf 74 = 5 := by kernel_rfl
set_option maxRecDepth 20000 in
theorem rcS_of_at {ao : Option Addr} {n cap : Nat} {l : List Cel} (hn : n = l.length) (h1 : n ≤ cap) (h2 : cap ≤ maxLen) (h3 : ao = none → cap = 0) (h : ∀ i (hi : i < l.length), ∃ b o, ao = some ⟨b, o, none⟩ ∧ w.rangeAt b (o + i * 6) (rcv l[i]).toList) : RcS w (.slice ao n cap) l := by
  subst hn
  refine ⟨ao, cap, rfl, h1, h2, h3, fun x hx j u hu => ?_⟩
  have hj : j < l.length * 6 := by have := (List.getElem?_eq_some_iff.1 hu).1; rwa [RcC_length] at this
  obtain ⟨b, o, e, hr⟩ := h (j / 6) (by omega)
  rw [hx] at e; cases e
  refine ⟨b, o, rfl, ?_⟩
  have hq : j % 6 < (rcv l[j / 6]).toList.length := by have := Nat.mod_lt j (show 0 < 6 by decide); simpa [rcv] using this
  have h5 := RcC_at l (j / 6) (by omega) (j % 6) _ (List.getElem?_eq_getElem hq)
  rw [show j / 6 * 6 + j % 6 = j by omega, hu] at h5
  have := hr (j % 6) u (by rw [List.getElem?_eq_getElem hq]; exact h5.symm)
  rwa [show o + j / 6 * 6 + j % 6 = o + j by omega] at this
end
end Go.Proofs.YtegclfpmgilnpaaGreat
