/-
  FrameMakes holds for every input, over the variable 'names' as the program's text lays it: the law returns true, and its argument reads as before.
-/
import Derived.Test.YtcdhalgpnhdbnaaDoorRows
import Derived.Test.YtcdhalgpnhdbnaaDoorCards
import Derived.Test.YtcdhalgpnhdbnaaDoorTie
import Derived.Test.YtcdhalgpnhdbnaaDoorLib
import Derived.Test.YtcdhalgpnhdbnaaDoorOpen
import Derived.Test.YtcdhalgpnhdbnaaDoorOpenB
import Derived.Test.YtcdhalgpnhdbnaaDoorNames
import Derived.Test.YtcdhalgpnhdbnaaDoorFrMakesW
import Derived.WalkKit
import Derived.ProofKit
import Derived.LaidMore
import Derived.OpenShut
import Derived.ShutString
import Derived.ChangeOld
import Derived.Below
import Derived.Stop.Joined
import Derived.SevenTiedAt
namespace Go.Proofs.YtcdhalgpnhdbnaaDoor.frameMakes
open Go.ChangeShapes Go.WideShapes Go.ChangeAt Go.RowKit Go.Lac
set_option linter.unusedVariables false
theorem own : ownKnob Tryd.prog.godebug = none := by kernel_rfl
theorem laidOut : laidOutB Tryd.prog = true := by kernel_rfl
theorem gNames : Tryd.prog.globalNamed "lacuna/frame.names" = some 0 := by kernel_rfl
theorem tNames : (Tryd.prog.globals[0]?).map (·.type) = some 43 := by kernel_rfl
abbrev theLaid : List (String × DataW Unit) := [("lacuna/frame.names", Rows.laid_lacuna_frame_names)]

/-- The door's own heap meets the condition. -/
theorem door_met (os : Os) (args : Array Value) : laidMetH Tryd.prog theLaid ((World.doorLaid Tryd.prog 400 os).forCall (fun _ _ => 0) ⟨#[], args, []⟩).memory :=
  laidMetH_of_parts3 (fuel := 8) (laidMet_of_run' 8 (by kernel_rfl) (by kernel_rfl)) (by kernel_rfl) (by kernel_rfl)

theorem names_datum : (Rows.laid_lacuna_frame_names : DataW Unit) = .agg (nmL.map fun l => .lit (.string l)) := rfl

/-- What the condition gives the walk: the table's row. -/
theorem of_laid {W : World} (h : laidMetH Tryd.prog theLaid W) : ∃ E F, W.heap[0]? = some (.cells nmC.toArray E F) := by
  rw [MakeChecks.laidMetH_plain _ _ _ (by kernel_rfl)] at h
  obtain ⟨ps, ⟨g0, t0, cs0, f0, p0, q0, hg0, ht0, hv0, hd0, _, _⟩, _, _⟩ := h
  obtain rfl := Option.some.inj (gNames.symm.trans hg0)
  obtain rfl := Option.some.inj (tNames.symm.trans ht0)
  obtain ⟨xs, m, rfl, hx, hlen, hn, hel⟩ := DataW.trod_array Tryd.underlying43 hd0
  have c9 : Tryd.prog.cellsOf 9 = 1 := by kernel_rfl
  have c43 : Tryd.prog.cellsOf 43 = 9 := by kernel_rfl
  rw [c43] at hlen
  rw [names_datum] at hx
  simp only [Prod.mk.injEq, DataW.agg.injEq] at hx
  have hcs : cs0.toList = nmC := by
    refine List.ext_getElem? fun i => ?_
    by_cases hi : i < 9
    · have h1 := hel i hi
      rw [c9, Nat.mul_one, List.getElem?_eq_getElem (by omega)] at h1
      obtain ⟨s, e1, e2, _⟩ := DataW.trod_string Tryd.underlying9 h1
      have e3 : cs0.toList[i]? = some (.string s) := by
        have := congrArg (·[0]?) e1
        simpa using this
      have e4 : (xs.map (·.1))[i]? = some (.lit (.string s.data.toList)) := by
        rw [List.getElem?_map, List.getElem?_eq_getElem (by omega), e2]; rfl
      rw [← hx.1, List.getElem?_map] at e4
      have e5 : nmL[i]? = some s.data.toList := by
        cases hq : nmL[i]? with
        | none => rw [hq] at e4; simp at e4
        | some l => rw [hq] at e4; simpa using e4
      rw [e3]
      unfold nmC
      rw [List.getElem?_map, e5]
      rfl
    · rw [List.getElem?_eq_none (by omega), List.getElem?_eq_none (by rw [nmC_length]; omega)]
  unfold World.var? at hv0
  rw [gNames] at hv0
  simp only [Option.bind_some] at hv0
  split at hv0
  · rename_i cs E F hc
    obtain rfl := Option.some.inj hv0
    refine ⟨E, F, ?_⟩
    rw [hc, ← hcs]
  · cases hv0

set_option maxRecDepth 100000 in
theorem lifted (os : Os) (started : os.Started) (H : Type) (enc : TypeId × Value → H) :
    ReturnsInHanded {} Tryd.checked os 3 .any (fun w args => (Rows.frameMakesSpec.pre enc Tryd.prog Tryd.f3 [] false w args ∧ laidMetH Tryd.prog theLaid w) ∧ sizedMet enc Tryd.prog Tryd.f3 (OpenSpec.ofChange Rows.frameMakesSpec) false w args)
      (Rows.frameMakesSpec.post enc Tryd.prog Tryd.f3 false true false false) := by
  refine returnsInHanded_of_change_and (C := Tryd.checked) (X := fun w _ => laidMetH Tryd.prog theLaid w) (fun _ _ _ hh h => h.of_heap hh) own started (by kernel_rfl) Tryd.func3
    (ChangeSpec.witness_shaped (enc := enc) (C := Tryd.checked) (os := os) (X := fun w _ => laidMetH Tryd.prog theLaid w) false (World.doorLaid Tryd.prog 400 os) #[.agg #[.int .u8 0, .int .u8 0, .slice none 0 0]] 8 rfl (World.shaped_of_RefB (by kernel_rfl) (by kernel_rfl)) (by kernel_rfl) (by kernel_rfl) (by kernel_rfl) (door_met os _)) ?_
  intro W base args ds gs before hval0 hW _ _ hL _
  have hval : ∀ (j : Nat) t v, Tryd.f3.params[j]? = some t → args[j]? = some v → Value.okWide Tryd.prog W .any base t v := hval0
  have hW' := hW
  obtain ⟨p, q, hA0, hV, rfl, hfz, hnd⟩ := hW
  have hA : DataW.TrodAll enc Tryd.prog W 0 (fun _ => true) true Tryd.f3.params.toList args.toList ds p := hA0
  rw [Tryd.params3] at hA hval
  obtain ⟨v0, vs0, d0, ds0, p0, q0, hargs, rfl, rfl, h0, r0⟩ := trodAll_cons hA
  obtain ⟨rfl, rfl, rfl⟩ := trodAll_nil r0
  obtain rfl : args = #[v0] := by cases args; simp_all
  obtain ⟨rfl, rfl⟩ := trodVars_none hV
  have lt0 : ∀ x ∈ p0, x.block < W.heap.size := by obtain ⟨m, hm⟩ := h0; exact DataW.trod_lt m _ _ _ hm
  obtain ⟨x0, y0, s0, b0, g0, e0, f0, r0'⟩ := open_frame Tryd.underlying24 (by kernel_rfl) rfl rfl rfl rfl Tryd.underlying5 Tryd.underlying5 Tryd.underlying22 Tryd.underlying5 (by kernel_rfl) rfl rfl rfl (by kernel_rfl) (by kernel_rfl) (by kernel_rfl) (hval 0 24 v0 rfl rfl) h0
  obtain ⟨E, F, hn⟩ := of_laid hL
  clear hA0 hval0
  have hwalk : Calls Tryd.prog 3 #[v0] W fun e W' => e = .returned (.bool true) ∧ Below W.heap.size W W' := by
    rw [g0]
    exact (frameMakes_walk x0 y0 s0 b0 W e0 f0 r0' hn).mono fun e W' ⟨h1, h2⟩ => ⟨h1, h2.below⟩
  refine hwalk.mono fun e W' ⟨he, bel⟩ => ?_
  subst he
  exact ⟨_, rfl, _, _, _, [], _, [], hW', trodAll_mk1 (shut_bool Tryd.underlying4 _), (trodAll_cons_mk (Below.trod laidOut (by kernel_rfl) (of_decide_eq_true (by kernel_rfl)) h0 bel lt0) trodAll_mk0), rfl, bel.frame _, fun h => by cases h⟩

theorem over : Rows.FrameMakesSaid :=
  OpenClaim.holds_of_wide 3 Tryd.f3 rfl rfl rfl rfl rfl rfl rfl ⟨rfl, rfl, rfl, rfl, rfl⟩ rfl rfl rfl rfl rfl (by kernel_rfl) Tryd.func3 (by kernel_rfl)
    (of_decide_eq_true (by kernel_rfl)) (by unfold Func.isWrapper; first | (rw [if_pos (by decide +kernel)]; kernel_rfl) | (rw [if_neg (by decide +kernel)]; exact ⟨rfl, rfl⟩))
    (fun os started H enc _ => lifted os started H enc)

theorem proved : Rows.FrameMakesCardSaid :=
  Claim7.holds_tied_plain_at .later [] [.data] true (true, "7cd177aca8558ec75bad5a6d06553ee56bb89d53e941c9d9dc6c706327f16fd5") false
    over (fun _ h => by cases h) (by kernel_rfl) (fun _ h => by cases h) frameMakes_row_tie rfl ⟨rfl, rfl⟩ (by kernel_rfl) rfl
    (fun f fn hf hfn => by
      obtain rfl : f = 3 := Option.some.inj ((show Tryd.prog.funcNamed "lacuna/lacunalaw04.FrameMakes" = some 3 by kernel_rfl).symm.trans hf) |>.symm
      obtain rfl : fn = Tryd.f3 := (Option.some.inj (Tryd.func3.symm.trans hfn)).symm
      exact ⟨by kernel_rfl, fun j t ht => by
        rw [Tryd.params3] at ht
        have hm : t ∈ [24] := by simpa using Array.mem_of_getElem? ht
        have hall : ([24].all fun u => !Tryd.prog.wantsStandIn u) = true := by kernel_rfl
        exact (show Tryd.prog.wantsStandIn t = false by simpa using List.all_eq_true.1 hall t hm)⟩)
    (by kernel_rfl)
#print axioms proved
end Go.Proofs.YtcdhalgpnhdbnaaDoor.frameMakes
