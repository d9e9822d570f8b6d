/-
  slices.Concat at relations: one slice of all, newly made.
-/
import Derived.Test.YtegclfpmgilnpaaCatC
import Derived.Test.YtegclfpmgilnpaaGPrim
import Derived.Lib.Hide
import Derived.Lib.AppendZeros
namespace Go.Proofs.Ytegclfpmgilnpaa
open Go.RowKit Go.Lac

/-- Room for n bytes, nothing in it. -/
def GrowPostR (n : Nat) (w : World) (e : Ending) (w' : World) : Prop :=
  ∃ s, e = .returned s ∧ Ext w w' ∧ w'.ownsRow w.heap.size 39 5 s 0 [] ∧ ∃ ao cap, s = .slice ao 0 cap

theorem growPostR_made (n : Nat) (w : World) (hm : grownCap w n 0 39 ≤ maxLen) (hn : n ≤ grownCap w n 0 39) (z : Value) (hz : z.cells.size = 5) :
    GrowPostR n w (.returned (.slice (some ⟨w.heap.size, 0, none⟩) 0 (grownCap w n 0 39)))
      (w.drew.alloc (.cells (Builtin.zeroCells z.cells n ++ Builtin.zeroCells z.cells (grownCap w n 0 39 - n)) 39)) := by
  refine ⟨_, rfl, (Ch.refl _ w).drew.alloc _, ?_, _, _, rfl⟩
  exact World.ownsRow_made w.drew _ _ (Nat.le_refl _) hm (by simp [size_zeroCells, hz]; omega)

set_option maxRecDepth 20000 in
set_option maxHeartbeats 400000 in
theorem growR_nil (n : Nat) (w : World) (hn : n ≤ 2 ^ 40) : Calls Try.prog 80 #[.slice none 0 0, .int .i64 n] w (GrowPostR n w) := by
  obtain ⟨i, hi, hz, hs, hb⟩ := info_parts infoRlZ
  by_cases h0 : n = 0
  · subst h0
    go_enter Try.func80, Try.ntmps80
    go_wp2
    go_ret
    exact ⟨_, rfl, Ch.refl _ _, World.ownsRow_nil _ _ _ _, _, _, rfl⟩
  · have hpos : 0 < n := by omega
    have happ := Lib.run_append_nil_zeros (P := Try.prog) w 62 3 62 39 i (.agg #[.int .u32 0, .int .u32 0, .string ⟨#[]⟩, .int .u8 0, .slice none 0 0]) .i64 .i64 Try.underlying62 Try.underlying3 hi hz n hpos (by omega) (by omega) (by rw [hb]; omega)
    have hfin := growPostR_made n w (grownCap_le_maxLen _ _ _ _ (by unfold maxLen; omega)) (grownCap_ge _ _ _ _) (.agg #[.int .u32 0, .int .u32 0, .string ⟨#[]⟩, .int .u8 0, .slice none 0 0]) rfl
    have Hf := Lib.hid hfin; clear hfin
    have hn' : n ≤ 1099511627776 := by omega
    clear hn h0
    have hp : (0 : Int) < (n : Int) := by omega
    have hcap := grownCap_ge w n 0 39
    have hcm := grownCap_le_maxLen w n 0 39 (by unfold maxLen; omega)
    unfold maxLen at hcm
    go_enter Try.func80, Try.ntmps80
    go_wp2_with (at_builtin; refine Lib.wpList_append_run _ rfl _ _ _ _ rfl _ _ rfl rfl _ _ happ ?_)
    go_ret
    exact Hf.out

abbrev Pc := Nat × List Value
def totR (ps : List Pc) : Nat := (ps.map Prod.fst).sum
def flatR (ps : List Pc) : List Value := ps.flatMap Prod.snd
theorem totR_take_succ (ps : List Pc) (k : Nat) (h : k < ps.length) : totR (ps.take (k + 1)) = totR (ps.take k) + ps[k].1 := by
  unfold totR
  rw [List.take_succ_eq_append_getElem h, List.map_append, List.sum_append]
  simp only [List.map_cons, List.map_nil, List.sum_cons, List.sum_nil, Nat.add_zero]
theorem flatR_take_succ (ps : List Pc) (k : Nat) (h : k < ps.length) : flatR (ps.take (k + 1)) = flatR (ps.take k) ++ ps[k].2 := by
  unfold flatR
  rw [List.take_succ_eq_append_getElem h, List.flatMap_append]
  simp
theorem totR_take_le (ps : List Pc) (k : Nat) : totR (ps.take k) ≤ totR ps := by
  have h : totR ps = totR (ps.take k) + totR (ps.drop k) := by
    conv => lhs; rw [← List.take_append_drop k ps]
    unfold totR
    rw [List.map_append, List.sum_append]
  omega
/-- The k-th of the slices that lie from ⟨b, off⟩ on reads as the k-th of bss. -/
def SlAll (w : World) (b off : Nat) (bss : List Pc) : Prop :=
  ∀ k (h : k < bss.length), ∃ v, w.cell? ⟨b, off + k, none⟩ = some v ∧ Sl w v bss[k].1 bss[k].2 ∧ bss[k].2.length = bss[k].1 * 5 ∧ ∀ u ∈ bss[k].2, u.oneCell' = true

theorem SlAll.ext {w w' : World} {b off : Nat} {bss : List Pc} (h : SlAll w b off bss) (k : Ext w w') : SlAll w' b off bss := fun i hi => by
  obtain ⟨v, h1, h2⟩ := h i hi
  exact ⟨v, k.cell (fun f => f) v h1, h2.1.ext k, h2.2⟩

def CatRelR (bss : List Pc) (w : World) (k : Nat) (s : Value) (wr : World) : Prop :=
  Ext w wr ∧ wr.ownsRow w.heap.size 39 5 s (totR (bss.take k)) (flatR (bss.take k))

theorem CatRelR.next {bss : List Pc} {w wr w' : World} {k : Nat} {s s' : Value} (h : CatRelR bss w k s wr) (hk : k < bss.length)
    (h6 : wr.grownBy w' s.ownBlock) (h7 : w'.ownsRow w.heap.size 39 5 s' (totR (bss.take k) + bss[k].1) (flatR (bss.take k) ++ bss[k].2)) :
    CatRelR bss w (k + 1) s' w' := by
  refine ⟨h.1.grown h6 fun j hj => ?_, ?_⟩
  · have := (h.2.lt j hj).1
    omega
  · rw [totR_take_succ bss k hk, flatR_take_succ bss k hk]
    exact h7

set_option maxRecDepth 20000 in
set_option maxHeartbeats 1000000 in
theorem concatR_any (bss : List Pc) (b off cap : Nat) (w : World) (hv : SlAll w b off bss) (ht : totR bss ≤ 2 ^ 40) (hl : bss.length ≤ 2 ^ 47) :
    Calls Try.prog 51 #[.slice (some ⟨b, off, none⟩) bss.length cap] w (fun e w' => ∃ s, e = .returned s ∧ Ext w w' ∧ w'.ownsRow w.heap.size 39 5 s (totR bss) (flatR bss)) := by
  obtain ⟨i, hi, hz, hs, hb⟩ := info_parts infoRlZ
  have HV := Lib.hid hv; clear hv
  have ht' : totR bss ≤ 1099511627776 := by omega
  have hl' : bss.length ≤ 140737488355328 := by omega
  clear ht hl
  generalize hn : bss.length = n at hl'
  have Hn := Lib.hid hn; clear hn
  go_enter Try.func51, Try.ntmps51
  go_wp2
  go_loop [3, 11] (fun sz ix => ∃ k : Nat, k ≤ n ∧ ix = .int .i64 k ∧ sz = .int .i64 (totR (bss.take k) : Nat)) (fun _ ix => n - (intOf ix).toNat)
  case atStart => exact ⟨0, Nat.zero_le _, rfl, by simp [totR]⟩
  case round =>
    obtain ⟨k, hk, rfl, rfl⟩ := hrel
    have htk := totR_take_le bss k
    by_cases hlt : k < n
    · have hkl : k < bss.length := by rw [Hn.out]; exact hlt
      obtain ⟨v, hc, ⟨ao, cp, rfl, h1, h2, h3, h4⟩, -, -⟩ := HV.out k hkl
      have htk1 := totR_take_le bss (k + 1)
      have hsucc := totR_take_succ bss k hkl
      have Hs := Lib.hid hsucc
      rw [hsucc] at htk1
      clear hsucc h1 h2 h3 h4
      generalize (bss[k]'hkl).1 = lk at *
      clear hkl
      go_wp2
      go_round
      case rel => exact ⟨k + 1, by omega, by go_num, by rw [Hs.out]; go_num⟩
      case measure => simp [intOf]; omega
    · have hkn : k = n := by omega
      subst hkn
      have hfull : bss.take k = bss := List.take_of_length_le (by rw [Hn.out]; exact Nat.le_refl _)
      rw [hfull]
      clear hfull
      go_wp2_with (go_at_call 80; refine (growR_nil (totR bss) _ (by omega)).mono ?_)
      rintro e w1 ⟨s, rfl, hx1, ho1, ao, cp, rfl⟩
      have HX := Lib.hid hx1; have HO := Lib.hid ho1; clear hx1 ho1
      have HV1 := Lib.hid (HV.out.ext HX.out)
      go_wp2
      go_loopw [6, 27] (fun s ix wr => ∃ j : Nat, j ≤ k ∧ ix = .int .i64 j ∧ CatRelR bss w j s wr) (fun _ ix _ => k - (intOf ix).toNat)
      case atStart => exact ⟨0, Nat.zero_le _, rfl, HX.out, HO.out⟩
      case round =>
        obtain ⟨j, hj, rfl, hr⟩ := hrel
        have HR := Lib.hid hr; clear hr
        have htj := totR_take_le bss j
        by_cases hlt : j < k
        · have hkl : j < bss.length := by rw [Hn.out]; exact hlt
          obtain ⟨v, hc, hrd, hle, hon⟩ := (HV.out.ext HR.out.1) j hkl
          have HLE := Lib.hid hle; have HON := Lib.hid hon; clear hle hon
          have htk1 := totR_take_le bss (j + 1)
          have hsucc := totR_take_succ bss j hkl
          rw [hsucc] at htk1
          clear hsucc
          have Hrd := Lib.hid hrd
          obtain ⟨ao', cp', hv', h1, h2, h3, h4⟩ := hrd
          clear h1 h2
          have H4 := Lib.hid h4; have H3 := Lib.hid h3; clear h3 h4
          generalize hlk : (bss[j]'hkl).1 = lk at hv' htk1
          have Hlk := Lib.hid hlk; clear hlk
          subst hv'
          go_wp2_with (at_builtin; refine wpList_append_sl _ rfl _ _ 62 rfl w.heap.size 39 i (.agg #[.int .u32 0, .int .u32 0, .string ⟨#[]⟩, .int .u8 0, .slice none 0 0]) 5 56 Try.underlying62 hi hz hs hb rfl (by decide) _ _ _ rfl HR.out.2 _ _ _ rfl (by have := Hrd.out; rw [Hlk.out] at this; exact this) (by rw [HLE.out, Hlk.out]) HON.out (by omega) (by unfold maxLen; omega) HR.out.1.size ?_)
          intro v' w' hown hgrow
          have hfin := CatRelR.next HR.out hkl hgrow (by rw [Hlk.out]; exact hown)
          have Hf := Lib.hid hfin; clear hfin hown hgrow
          go_wp2
          go_roundw
          case rel => exact ⟨j + 1, by omega, by go_num, Hf.out⟩
          case measure => simp [intOf]; omega
        · have hjk : j = k := by omega
          subst hjk
          have hfull : bss.take j = bss := List.take_of_length_le (by rw [Hn.out]; exact Nat.le_refl _)
          have HR' := HR.out
          unfold CatRelR at HR'
          rw [hfull] at HR'
          have HR2 := Lib.hid HR'
          clear HR' hfull
          go_wp2
          go_ret
          exact ⟨_, rfl, HR2.out.1, HR2.out.2⟩
end Go.Proofs.Ytegclfpmgilnpaa
