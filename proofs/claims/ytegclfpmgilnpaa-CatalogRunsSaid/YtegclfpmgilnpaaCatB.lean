/-
  Catalogs: the closures, place, find.
-/
import Derived.Test.YtegclfpmgilnpaaCatA
import Derived.Test.YtegclfpmgilnpaaGOpen
namespace Go.Proofs.Ytegclfpmgilnpaa
open Go.RowKit Go.Lac

/-- A call of a function value that has captured these. -/
theorem Exec.kcallv {P : Program} {ρ : Operand → Value} {o : Oper} {w : World} {T : Tmp → Kn} {d : Tmp} {f : FuncId} {fn : Func} {x : Operand} {xs : Array Operand} {ats : Array TypeId} (vs caps : Array Value) (hρ : Env ρ)
    (ho : o.op = .call { callee := .value x, args := xs, argTypes := ats }) (hd : o.dst = some d) (hv : ρ x = .func (.func f) #[] caps) (hx : xs.map ρ = vs)
    (hf : P.funcs[f]? = some fn) (hn : (fn.name == "runtime.NumGoroutine") = false) (hb : fn.body.isNone = false)
    (h : Calls P f (vs ++ caps) w fun e w' => ∃ v, e = .returned v ∧ (T d).holds v w' ∧ Ext w w') :
    Exec P ρ o w fun v w' => (∀ d, o.dst = some d → knV T d v w') ∧ Ext w w' := by
  refine Exec.enter (f := f) (args := vs ++ caps) (w' := w) ?_ (h.mono fun e w' ⟨v, h1, h2, h3⟩ => ⟨v, h1, fun d' h => by rw [hd] at h; cases h; exact h2, h3⟩)
  unfold execOp
  rw [ho]
  have hn' : ¬ fn.name = "runtime.NumGoroutine" := by simpa using hn
  have hb' : ¬ fn.body = none := by intro e; rw [e] at hb; cases hb
  simp only [resolve, hx, hv, Deferred.ofValue, Sem.run_bind, Sem.run_pure, Result.andThen_ok, invoke, Array.empty_append]
  simp [callFunc, hf, hn', hb']
theorem refGeq_any (r : Rl) (cv : Value) (g : Nat) (p : Nat × Nat) (w : World) (hg : w.heap[g]? = some (.cells (refv p) 36 (0, 0))) :
    Calls Try.prog 78 #[.agg (relv r cv), .pointer (some ⟨g, 0, none⟩)] w fun e w' => e = .returned (.bool (!decide (RefLt (rf r) p))) ∧ Ext w w' := by
  have h1 := heap_alloc_new w (.cells (relv r cv) 39)
  obtain ⟨W, hW⟩ : ∃ W, W = w.alloc (.cells (relv r cv) 39) := ⟨_, rfl⟩
  have hx : Ext w W := by rw [hW]; exact (Ch.refl _ _).alloc _
  rw [← hW] at h1
  have hg' := heap_ext hx hg
  have d0 : W.cell? ⟨g, 0, none⟩ = some (.int .u32 (p.1 : Nat)) := by rw [cell_of_row _ _ _ _ _ _ hg']; rfl
  have d1 : W.cell? ⟨g, 1, none⟩ = some (.int .u32 (p.2 : Nat)) := by rw [cell_of_row _ _ _ _ _ _ hg']; rfl
  obtain ⟨c0, c1, c2, c3, c4⟩ := row_cells h1
  have HX := Lib.hid hx; have HW := Lib.hid hW
  have HC := Lib.hid (refCompare_any r.oid r.ver p.1 p.2 W)
  have HV : Hid (decide (0 ≤ orN (cmpN r.oid p.1) (cmpN r.ver p.2)) = !decide (RefLt (rf r) p)) := Lib.hid (by
    unfold RefLt rf
    simp only
    rcases Nat.lt_trichotomy r.oid p.1 with h | h | h
    · have n1 : ¬ p.1 < r.oid := by omega
      simp [orN, cmpN, h]
    · rcases Nat.lt_trichotomy r.ver p.2 with k | k | k
      · simp [orN, cmpN, h, k]
      · simp [orN, cmpN, h, k]
      · have n1 : ¬ r.ver < p.2 := by omega
        simp [orN, cmpN, h, n1, k]
    · have n1 : ¬ r.oid < p.1 := by omega
      have n2 : ¬ r.oid = p.1 := by omega
      simp [orN, cmpN, h, n1, n2])
  rw [hW] at c0 c1 c2 c3 c4 d0 d1
  clear h1 hx hW hg hg' c2 c3 c4
  unfold relv strV at *
  generalize orN (cmpN r.oid p.1) (cmpN r.ver p.2) = O at *
  go_enter Try.func78, Try.ntmps78
  go_wp2_with fail
  rw [← HW.out]
  refine HC.out.mono ?_
  rintro e w2 ⟨rfl, hx2⟩
  have HX2 := Lib.hid (HX.out.trans hx2)
  clear hx2 c0 c1 d0 d1
  go_wp2
  go_ret
  exact ⟨by rw [← HV.out]; rfl, HX2.out⟩
theorem behind_any (r : Rl) (cv : Value) (g oid : Nat) (w : World) (hg : w.heap[g]? = some (.cells #[.int .u32 (oid : Nat)] 23 (0, 0))) :
    Calls Try.prog 55 #[.agg (relv r cv), .pointer (some ⟨g, 0, none⟩)] w fun e w' => e = .returned (.bool (!decide (r.oid ≤ oid))) ∧ Ext w w' := by
  have h1 := heap_alloc_new w (.cells (relv r cv) 39)
  obtain ⟨W, hW⟩ : ∃ W, W = w.alloc (.cells (relv r cv) 39) := ⟨_, rfl⟩
  have hx : Ext w W := by rw [hW]; exact (Ch.refl _ _).alloc _
  rw [← hW] at h1
  have hg' := heap_ext hx hg
  have d0 : W.cell? ⟨g, 0, none⟩ = some (.int .u32 (oid : Nat)) := by rw [cell_of_row _ _ _ _ _ _ hg']; rfl
  obtain ⟨c0, c1, c2, c3, c4⟩ := row_cells h1
  have HX := Lib.hid hx; have HW := Lib.hid hW
  have HV : Hid ((!decide (r.oid ≤ oid)) = decide (oid < r.oid)) := Lib.hid (by by_cases h : r.oid ≤ oid <;> simp [h] <;> omega)
  rw [hW] at c0 c1 d0
  clear h1 hx hW hg hg' c2 c3 c4
  unfold relv strV at *
  go_enter Try.func55, Try.ntmps55
  go_wp2
  go_ret
  rw [← HW.out]
  exact ⟨by rw [HV.out]; simp, HX.out⟩
theorem fieldCat_0 (w : World) (b : Nat) : (Instr.fieldAt 103 (.pointer (some ⟨b, 0, none⟩)) 0).run Try.prog w = .ok (.pointer (some ⟨b, 0, none⟩)) w := by kernel_rfl
theorem infoRlZ : (Try.prog.info? 39).map (fun i => (i.zero, i.size, i.bytes)) = some (some (.agg #[.int .u32 0, .int .u32 0, .string ⟨#[]⟩, .int .u8 0, .slice none 0 0]), 5, 56) := by kernel_rfl
def plT (fid : FuncId) (caps : Array Value) (g b o n cap k : Nat) (r : Rl) (cv : Value) (D : Bool) : Tmp → Kn
  | 4 => .is (.bool D)
  | 5 => .is (.func (.func fid) #[] caps)
  | 6 => .is (.pointer (some ⟨g, 0, none⟩))
  | 7 => .is (.pointer (some ⟨g, 0, none⟩))
  | 8 => .is (.pointer (some ⟨g, 0, none⟩))
  | 9 => .is (.slice (some ⟨b, o, none⟩) n cap)
  | 10 => .is (.int .i64 (k : Nat))
  | 11 => .is (.pointer (some ⟨b, o + k * 5, none⟩))
  | 12 => .is (.agg (relv r cv))
  | 13 => .is (.bool D)
  | _ => .any
/-- What is known of place's two boxes: the function, the catalog. -/
structure PlB (base : Nat) (w : World) (gf gc : Nat) (fid : FuncId) (caps : Array Value) (p : Value) (l : List Rl) : Prop where
  far : w.cell? ⟨gf, 0, none⟩ = some (.func (.func fid) #[] caps)
  cat : w.cell? ⟨gc, 0, none⟩ = some p
  rels : CatS base w p l
theorem PlB.ext {base : Nat} {w w' : World} {gf gc : Nat} {fid : FuncId} {caps : Array Value} {p : Value} {l : List Rl} (h : PlB base w gf gc fid caps p l) (hx : Ext w w') : PlB base w' gf gc fid caps p l :=
  ⟨hx.cell (p := ⟨gf, 0, none⟩) (fun f => f) _ h.far, hx.cell (p := ⟨gc, 0, none⟩) (fun f => f) _ h.cat, h.rels.ext hx⟩
set_option maxRecDepth 20000 in
set_option maxHeartbeats 1600000 in
theorem place1_any (base gf gc : Nat) (fid : FuncId) {fn : Func} (caps : Array Value) (p : Value) (l : List Rl) (k : Nat) (D : Bool) (w : World) (h : PlB base w gf gc fid caps p l) (hk : k < l.length)
    (hf : Try.prog.funcs[fid]? = some fn) (hn : (fn.name == "runtime.NumGoroutine") = false) (hb : fn.body.isNone = false)
    (hcall : ∀ (w' : World) (cv : Value), Ext w w' → Calls Try.prog fid (#[.agg (relv l[k] cv)] ++ caps) w' fun e w'' => e = .returned (.bool D) ∧ Ext w' w'') :
    Calls Try.prog 84 #[.int .i64 (k : Nat), .pointer (some ⟨gf, 0, none⟩), .pointer (some ⟨gc, 0, none⟩)] w fun e w' => e = .returned (.bool D) ∧ Ext w w' := by
  obtain ⟨h1, h2, g, v, rfl, _, h3, cs, h4, h5⟩ := h
  have hs : RlS (OwnP base w) w v l := ⟨cs, h4, Sl.ofOwns h5⟩
  obtain ⟨ao, cap, rfl⟩ := owns_shape h5
  obtain ⟨b, o, cv, rfl, hra, -⟩ := rlS_at hs hk
  generalize l[k] = x at *
  obtain ⟨ci, chi, _, chs, _⟩ := info_parts infoRlZ
  have CHI := Lib.hid chi; have CHS := Lib.hid chs; have F0 := Lib.hid h1; have C0 := Lib.hid h2; have HRA := Lib.hid hra; have HLT := Lib.hid hk
  have V0 : Hid (w.cell? ⟨g, 0, none⟩ = some (.slice (some ⟨b, o, none⟩) l.length cap)) := Lib.hid (by rw [cell_of_row _ _ _ _ _ _ h3]; rfl)
  have HFN : Hid (Try.prog.funcs[fid]? = some fn ∧ (fn.name == "runtime.NumGoroutine") = false ∧ fn.body.isNone = false) := Lib.hid ⟨hf, hn, hb⟩
  have HCALL := Lib.hid (fun w' hx => hcall w' cv hx)
  clear chi chs h1 h2 h3 h4 h5 hs hra hf hn hb hcall
  generalize l.length = n at *
  go_enter Try.func84, Try.ntmps84
  go_wp2
  refine wp_region_ext (plT fid caps g b o n cap k x cv D) mixedV (by rfl) (by rfl) ?all ?fin
  case all =>
    refine ⟨?_, ?_, ?_, ?_, ?_, ?_, ?_, ?_, ?_, ?_, trivial⟩
    · -- 0: slot 5 := Op.load 42 t1
      refine StepOK.plain (kn_stable _) rfl fun ρ w hρ hw hf => ?_
      have h1 : ρ (.tmp 1) = (.pointer (some ⟨gf, 0, none⟩)) := (hf 1).2 rfl rfl
      have hc := hw.cell (p := ⟨gf, 0, none⟩) (fun f => f) _ F0.out
      exact Exec.same (v := (.func (.func fid) #[] caps)) rfl (by simp [go_sem, hρ.const, h1, hc]) rfl
    · -- 1: slot 6 := Op.load 63 t2
      refine StepOK.plain (kn_stable _) rfl fun ρ w hρ hw hf => ?_
      have h2 : ρ (.tmp 2) = (.pointer (some ⟨gc, 0, none⟩)) := (hf 2).2 rfl rfl
      have hc := hw.cell (p := ⟨gc, 0, none⟩) (fun f => f) _ C0.out
      exact Exec.same (v := (.pointer (some ⟨g, 0, none⟩))) rfl (by simp [go_sem, hρ.const, h2, hc]) rfl
    · -- 2: slot 7 := Op.nilCheck t6
      refine StepOK.plain (kn_stable _) rfl fun ρ w hρ hw hf => ?_
      have h6 : ρ (.tmp 6) = (.pointer (some ⟨g, 0, none⟩)) := (hf 6).1 rfl
      exact Exec.same (v := (.pointer (some ⟨g, 0, none⟩))) rfl (by simp [go_sem, hρ.const, h6]) rfl
    · -- 3: slot 8 := Op.fieldAddr 116 t7 0
      refine StepOK.plain (kn_stable _) rfl fun ρ w hρ hw hf => ?_
      have h7 : ρ (.tmp 7) = (.pointer (some ⟨g, 0, none⟩)) := (hf 7).1 rfl
      exact Exec.kfield rfl rfl h7 (fieldCat_0 w _) rfl
    · -- 4: slot 9 := Op.load 86 t8
      refine StepOK.plain (kn_stable _) rfl fun ρ w hρ hw hf => ?_
      have h8 : ρ (.tmp 8) = (.pointer (some ⟨g, 0, none⟩)) := (hf 8).1 rfl
      have hc := hw.cell (p := ⟨g, 0, none⟩) (fun f => f) _ V0.out
      exact Exec.same (v := (.slice (some ⟨b, o, none⟩) n cap)) rfl (by simp [go_sem, hρ.const, h8, hc]) rfl
    · -- 5: slot 10 := Op.move t0
      refine StepOK.plain (kn_stable _) rfl fun ρ w hρ hw hf => ?_
      have h0 : ρ (.tmp 0) = (.int .i64 (k : Nat)) := (hf 0).2 rfl rfl
      exact Exec.kmove rfl rfl h0
    · -- 6: slot 11 := Op.indexAddr 86 t9 t10
      refine StepOK.plain (kn_stable _) rfl fun ρ w hρ hw hf => ?_
      have h9 : ρ (.tmp 9) = (.slice (some ⟨b, o, none⟩) n cap) := (hf 9).1 rfl
      have h10 : ρ (.tmp 10) = (.int .i64 (k : Nat)) := (hf 10).1 rfl
      exact Exec.kindex rfl rfl Try.underlying62 CHI.out CHS.out h9 h10 HLT.out rfl
    · -- 7: slot 12 := Op.load 32 t11
      refine StepOK.plain (kn_stable _) rfl fun ρ w hρ hw hf => ?_
      have h11 : ρ (.tmp 11) = (.pointer (some ⟨b, o + k * 5, none⟩)) := (hf 11).1 rfl
      have hm : w.rangeAt b (o + k * 5) (relv x cv).toList := fun j u hu => hw.cell (p := ⟨b, o + k * 5 + j, none⟩) (fun f => f) _ (HRA.out j u hu)
      have hr := run_loadAt_mid (P := Try.prog) w b (o + k * 5) 39 (relv x cv).toList _ hm Try.underlying39 rfl infoOw
      exact Exec.same (v := .agg (relv x cv)) rfl (by unfold execOp; simp only [h11, Sem.run_bind, hr, Result.andThen_ok, Sem.run_pure]) rfl
    · -- 8: slot 13 := Op.call { value t5, args := #[t12], argTypes := #[32] }
      refine StepOK.plain (kn_stable _) rfl fun ρ w hρ hw hf => ?_
      have h5 : ρ (.tmp 5) = (.func (.func fid) #[] caps) := (hf 5).1 rfl
      have h12 : ρ (.tmp 12) = (.agg (relv x cv)) := (hf 12).1 rfl
      refine Exec.kcallv #[.agg (relv x cv)] caps hρ rfl rfl h5 (by simp [h12]) HFN.out.1 HFN.out.2.1 HFN.out.2.2 ((HCALL.out w hw).mono ?_)
      rintro e w' ⟨rfl, hx⟩
      exact ⟨_, rfl, rfl, hx⟩
    · -- 9: slot 4 := Op.assign t13
      refine StepOK.plain (kn_stable _) rfl fun ρ w hρ hw hf => ?_
      have h13 : ρ (.tmp 13) = (.bool D) := (hf 13).1 rfl
      exact Exec.kassign rfl rfl h13
  case fin =>
    intro ν w9 hfin hx9
    have h0 : ν 4 = .bool D := hfin 9 4 rfl
    simp only [Exit.then, ended, List.foldl_cons, List.foldl_nil, List.setIfInBounds_toArray, List.set_cons_succ, List.set_cons_zero, h0]
    have HX := Lib.hid hx9
    clear hfin hx9 h0
    go_wp2
    go_ret
    exact ⟨rfl, HX.out⟩
end Go.Proofs.Ytegclfpmgilnpaa
