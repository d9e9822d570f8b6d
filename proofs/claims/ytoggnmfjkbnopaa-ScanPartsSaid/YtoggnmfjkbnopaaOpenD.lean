/-
  Arguments opened, fourth part: a slice of numbers of 16 bits.
-/
import Derived.Test.YtoggnmfjkbnopaaScG
import Derived.Test.YtoggnmfjkbnopaaOpen
namespace Go.Proofs.Ytoggnmfjkbnopaa
open Go Go.RowKit Go.Lac Go.ChangeShapes Go.WideShapes Go.ChangeAt
section
variable {H : Type} {enc : TypeId × Value → H} {P : Program} {w : World} {base : Nat} {spare : Nat → Bool} {held : Bool} {r : Reach} {b0 : Nat}
theorem wf_u16_bd {n : Int} (h : (Lit.int .u16 n).wf = true) : 0 ≤ n ∧ n ≤ 65535 := by
  have h' : (decide (IntKind.u16.min ≤ n) && decide (n ≤ IntKind.u16.max)) = true := h
  rw [Bool.and_eq_true, decide_eq_true_eq, decide_eq_true_eq] at h'
  exact h'
theorem open_u16s {t e : TypeId} {v : Value} {d : DataW H} {ps : List MemPlace} (ht : P.underlying t = some (.slice e)) (he : P.underlying e = some (.int .u16)) (hce : P.cellsOf e = 1)
    (hv : Value.okWide P w r b0 t v) (h : DataW.Trod enc P w base (fun _ => true) held t v d ps) : ∃ ns, Us w v ns := by
  obtain ⟨a, len, cap, rfl⟩ := okWide_slice ht hv
  obtain ⟨fuel, hf⟩ := h
  rcases open_ints ht he hce hf with ⟨hcs, _⟩ | ⟨x, l, c, zs, hcs, _, hl, hm, hz, _, hcell, hwz⟩
  · simp [Value.cells] at hcs
    obtain ⟨rfl, rfl, rfl⟩ := hcs
    exact ⟨[], none, 0, rfl, Nat.zero_le _, fun i hi => absurd hi (Nat.not_lt_zero _)⟩
  · simp [Value.cells] at hcs
    obtain ⟨rfl, rfl, rfl⟩ := hcs
    have hz' : zs.length = cap := by simpa using hz
    have hlen : ((zs.take len).map Int.toNat).length = len := by rw [List.length_map, List.length_take]; omega
    refine ⟨(zs.take len).map Int.toNat, some x, cap, by rw [hlen], by rw [hlen]; omega, fun i hi => ?_⟩
    rw [hlen] at hi
    have hil : i < zs.length := by omega
    have hc := hcell i hil
    have hsp : x.spot = none := by
      have := World.cell?_spot (hcell 0 (by omega))
      simpa [Addr.add] using this
    obtain ⟨b, o, sp⟩ := x
    cases hsp
    rw [Addr.add_lit] at hc
    have hb := wf_u16_bd (hwz _ (List.getElem_mem hil))
    have hgd : zs.getD i 0 = zs[i] := by simp [List.getD_eq_getElem?_getD, List.getElem?_eq_getElem hil]
    have hge : ((zs.take len).map Int.toNat)[i]'(by rw [hlen]; exact hi) = (zs[i]).toNat := by simp
    refine ⟨b, o, rfl, ?_, ?_⟩
    · rw [hc, hgd, hge, Int.toNat_of_nonneg hb.1]
    · rw [hge]; omega
end
end Go.Proofs.Ytoggnmfjkbnopaa
