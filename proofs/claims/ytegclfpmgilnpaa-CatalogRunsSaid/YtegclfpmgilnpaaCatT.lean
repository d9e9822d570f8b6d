/-
  Catalogs: the document's Last. MADE BY mkCatT.py
-/
import Derived.Test.YtegclfpmgilnpaaCatI
import Derived.Test.YtegclfpmgilnpaaCatH
namespace Go.Proofs.Ytegclfpmgilnpaa
open Go.RowKit Go.Lac

theorem fieldRf8_0o (w : World) (b o : Nat) : (Instr.fieldAt 25 (.pointer (some ⟨b, o, none⟩)) 0).run Try.prog w = .ok (.pointer (some ⟨b, o, none⟩)) w := by kernel_rfl
theorem fieldRf8_1o (w : World) (b o : Nat) : (Instr.fieldAt 25 (.pointer (some ⟨b, o, none⟩)) 1).run Try.prog w = .ok (.pointer (some ⟨b, o + 1, none⟩)) w := by kernel_rfl
def lsA (b o n cap k oid g6 : Nat) (x y : Rl) (D : Bool) : Tmp → Kn
  | 15 => .is (.slice (some ⟨b, o, none⟩) n cap)
  | 16 => .is (.int .i64 (k : Nat))
  | 17 => .is (.pointer (some ⟨b, o + k * 5, none⟩))
  | 18 => .is (.pointer (some ⟨b, o + k * 5, none⟩))
  | 19 => .is (.pointer (some ⟨b, o + k * 5, none⟩))
  | 20 => .is (.int .u32 (x.oid : Nat))
  | 21 => .is (.int .u32 (oid : Nat))
  | 22 => .is (.bool false)
  | 23 => .is (.bool false)
  | 24 => .is undef
  | 25 => .is undef
  | 26 => .is undef
  | 27 => .is undef
  | 28 => .is undef
  | 29 => .is undef
  | 30 => .is undef
  | 31 => .is undef
  | 32 => .is undef
  | 33 => .is undef
  | 34 => .is undef
  | 35 => .is undef
  | 36 => .is undef
  | 37 => .is undef
  | 38 => .is (.bool false)
  | _ => .any
def lsB (b o n cap k oid g6 : Nat) (x y : Rl) (D : Bool) : Tmp → Kn
  | 15 => .is (.slice (some ⟨b, o, none⟩) n cap)
  | 16 => .is (.int .i64 (k : Nat))
  | 17 => .is (.pointer (some ⟨b, o + k * 5, none⟩))
  | 18 => .is (.pointer (some ⟨b, o + k * 5, none⟩))
  | 19 => .is (.pointer (some ⟨b, o + k * 5, none⟩))
  | 20 => .is (.int .u32 (x.oid : Nat))
  | 21 => .is (.int .u32 (oid : Nat))
  | 22 => .is (.bool true)
  | 23 => .is (.bool true)
  | 24 => .is (.bool false)
  | 25 => .is (.bool true)
  | 26 => .is (.bool true)
  | 27 => .is undef
  | 28 => .is undef
  | 29 => .is undef
  | 30 => .is undef
  | 31 => .is undef
  | 32 => .is undef
  | 33 => .is undef
  | 34 => .is undef
  | 35 => .is undef
  | 36 => .is undef
  | 37 => .is (.bool true)
  | 38 => .is (.bool true)
  | _ => .any
def lsC (b o n cap k oid g6 : Nat) (x y : Rl) (D : Bool) : Tmp → Kn
  | 15 => .is (.slice (some ⟨b, o, none⟩) n cap)
  | 16 => .is (.int .i64 (k : Nat))
  | 17 => .is (.pointer (some ⟨b, o + k * 5, none⟩))
  | 18 => .is (.pointer (some ⟨b, o + k * 5, none⟩))
  | 19 => .is (.pointer (some ⟨b, o + k * 5, none⟩))
  | 20 => .is (.int .u32 (x.oid : Nat))
  | 21 => .is (.int .u32 (oid : Nat))
  | 22 => .is (.bool true)
  | 23 => .is (.bool true)
  | 24 => .is (.bool true)
  | 25 => .is (.bool false)
  | 26 => .is (.bool false)
  | 27 => .is (.slice (some ⟨b, o, none⟩) n cap)
  | 28 => .is (.int .i64 (k : Nat))
  | 29 => .is (.pointer (some ⟨b, o + k * 5, none⟩))
  | 30 => .is (.pointer (some ⟨b, o + k * 5, none⟩))
  | 31 => .is (.pointer (some ⟨b, o + k * 5 + 1, none⟩))
  | 32 => .is (.int .u32 (x.ver : Nat))
  | 33 => .is (.pointer (some ⟨g6, 0, none⟩))
  | 34 => .is (.pointer (some ⟨g6, 0 + 1, none⟩))
  | 35 => .is (.int .u32 (y.ver : Nat))
  | 36 => .is (.bool D)
  | 37 => .is (.bool D)
  | 38 => .is (.bool D)
  | _ => .any
set_option maxRecDepth 20000 in
set_option maxHeartbeats 4000000 in
theorem rLast_any (v : Value) (l : List Rl) (oid : Nat) (w : World) (h : RlS (ColS w) w v l) :
    Calls Try.prog 20 #[v, .int .u32 (oid : Nat)] w (QlPost (young oid none l) w) := by
  have h1 := heap_alloc2_old w (.cells #[.int .u32 0, .int .u32 0, .string ⟨#[]⟩, .int .u8 0, .slice none 0 0] 33) (.cells #[.int .u32 0, .int .u32 0, .string ⟨#[]⟩, .int .u8 0, .slice none 0 0] 33)
  have h2 := heap_alloc2_new w (.cells #[.int .u32 0, .int .u32 0, .string ⟨#[]⟩, .int .u8 0, .slice none 0 0] 33) (.cells #[.int .u32 0, .int .u32 0, .string ⟨#[]⟩, .int .u8 0, .slice none 0 0] 33)
  obtain ⟨W, hW⟩ : ∃ W, W = (w.alloc (.cells #[.int .u32 0, .int .u32 0, .string ⟨#[]⟩, .int .u8 0, .slice none 0 0] 33)).alloc (.cells #[.int .u32 0, .int .u32 0, .string ⟨#[]⟩, .int .u8 0, .slice none 0 0] 33) := ⟨_, rfl⟩
  have hx : Ext w W := by rw [hW]; exact ((Ch.refl _ _).alloc _).alloc _
  rw [← hW] at h1 h2
  obtain ⟨ao, cap, rfl, hlc, hcm⟩ := h.shape
  obtain ⟨ci, chi, _, chs, _⟩ := info_parts infoQlZ
  have CHI := Lib.hid chi; have CHS := Lib.hid chs
  have HR := Lib.hid h; have HXW := Lib.hid hx; have HW := Lib.hid hW
  obtain ⟨g4, hg4⟩ : ∃ g4, g4 = w.heap.size := ⟨_, rfl⟩
  obtain ⟨g6, hg6⟩ : ∃ g6, g6 = w.heap.size + 1 := ⟨_, rfl⟩
  rw [← hg4] at h1
  rw [← hg6] at h2
  have HG4 := Lib.hid h1; have HG6 := Lib.hid h2
  have HGE : Hid (w.heap.size ≤ g4 ∧ g6 = g4 + 1) := Lib.hid (by omega)
  have hm63 : l.length ≤ 9223372036854775807 := by unfold maxLen at hcm; omega
  have HG4E := Lib.hid hg4; have HG6E := Lib.hid hg6
  clear h1 h2 hx hW chi chs h hlc hcm hg4 hg6
  generalize hn : l.length = n at *
  have HN := Lib.hid hn; clear hn
  go_enter Try.func20, Try.ntmps20
  go_wp2
  rw [← HG6E.out, ← HG4E.out, ← HW.out]
  go_loopw [7, 8] (fun vi ix wr => ∃ (k : Nat) (Y : Option Rl) (yv : Value), k ≤ n ∧ ix = .int .i64 k ∧ vi = .bool Y.isSome ∧ Hid (Ext w wr) ∧ young oid none (l.take k) = Y ∧ Hid (wr.heap[g6]? = some (.cells (relv (Y.getD .zero) yv) 33 (0, 0))) ∧ Hid (wr.heap[g4]? = some (.cells #[.int .u32 0, .int .u32 0, .string ⟨#[]⟩, .int .u8 0, .slice none 0 0] 33 (0, 0))) ∧ Hid (ColS w yv (Y.getD .zero).cols)) (fun _ ix _ => n - (intOf ix).toNat)
  case atStart => exact ⟨0, none, .slice none 0 0, Nat.zero_le _, rfl, rfl, HXW, rfl, HG6, HG4, Lib.hid (colS_nil _)⟩
  case round =>
    obtain ⟨k, Y, yv, hk, rfl, rfl, HX, hY, HG6, HG4r, HC⟩ := hrel
    have HY := Lib.hid hY
    clear hY
    by_cases hlt : k < n
    · have hkl : k < l.length := by have := HN.out; omega
      obtain ⟨b, o, xv, rfl, hra0, hxv⟩ := rlS_at HR.out hkl
      have HRA : Hid (wr.rangeAt b (o + k * 5) (relv l[k] xv).toList) := Lib.hid fun j u hu => HX.out.cell (p := ⟨b, o + k * 5 + j, none⟩) (fun f => f) _ (hra0 j u hu)
      have HYS : Hid (young oid none (l.take (k + 1)) = if l[k].oid = oid ∧ (∀ y, Y = some y → y.ver < l[k].ver) then some l[k] else Y) := Lib.hid (by rw [List.take_succ_eq_append_getElem hkl, young_append, HY.out, young, young])
      have HXV := Lib.hid hxv; have HXV0 := Lib.hid hxv
      generalize l[k] = x at *
      have Q0 : Hid (wr.cell? ⟨b, o + k * 5, none⟩ = some (.int .u32 (x.oid : Nat))) := Lib.hid (by have := HRA.out 0 _ rfl; simpa using this)
      have Q1 : Hid (wr.cell? ⟨b, o + k * 5 + 1, none⟩ = some (.int .u32 (x.ver : Nat))) := Lib.hid (HRA.out 1 _ rfl)
      have HLT := Lib.hid hlt
      clear hra0 hxv hkl
      by_cases hoid : x.oid = oid
      · have EQ : Hid ((((x.oid : Nat) : Int) == ((oid : Nat) : Int)) = true) := Lib.hid (by rw [hoid]; simp)
        cases Y with
        | none =>
          have HYN : Hid (young oid none (l.take (k + 1)) = some x) := Lib.hid (by rw [HYS.out, if_pos ⟨hoid, fun y h => by cases h⟩])
          clear hoid
          rw [Option.isSome_none]
          go_wp2
          refine wp_region_ext (lsB b o n cap k oid g6 x x true) mixedV (by rfl) (by rfl) ?all ?fin
          case all =>
            refine ⟨?_, ?_, ?_, ?_, ?_, ?_, ?_, ?_, ?_, ?_, ?_, ?_, ?_, ?_, ?_, ?_, ?_, ?_, ?_, ?_, ?_, ?_, ?_, ?_, trivial⟩
            · -- 0: slot 15 := Op.move t0
              refine StepOK.plain (kn_stable _) rfl fun ρ w hρ hw hf => ?_
              have h0 : ρ (.tmp 0) = (.slice (some ⟨b, o, none⟩) n cap) := (hf 0).2 rfl rfl
              exact Exec.kmove rfl rfl h0
            · -- 1: slot 16 := Op.move t8
              refine StepOK.plain (kn_stable _) rfl fun ρ w hρ hw hf => ?_
              have h8 : ρ (.tmp 8) = (.int .i64 (k : Nat)) := (hf 8).2 rfl rfl
              exact Exec.kmove rfl rfl h8
            · -- 2: slot 17 := Op.indexAddr 22 t15 t16
              refine StepOK.plain (kn_stable _) rfl fun ρ w hρ hw hf => ?_
              have h15 : ρ (.tmp 15) = (.slice (some ⟨b, o, none⟩) n cap) := (hf 15).1 rfl
              have h16 : ρ (.tmp 16) = (.int .i64 (k : Nat)) := (hf 16).1 rfl
              exact Exec.kindex rfl rfl Try.underlying22 CHI.out CHS.out h15 h16 HLT.out rfl
            · -- 3: slot 18 := Op.fieldAddr 33 t17 0
              refine StepOK.plain (kn_stable _) rfl fun ρ w hρ hw hf => ?_
              have h17 : ρ (.tmp 17) = (.pointer (some ⟨b, o + k * 5, none⟩)) := (hf 17).1 rfl
              exact Exec.kfield rfl rfl h17 (fieldRR_0o w _ _) rfl
            · -- 4: slot 19 := Op.fieldAddr 25 t18 0
              refine StepOK.plain (kn_stable _) rfl fun ρ w hρ hw hf => ?_
              have h18 : ρ (.tmp 18) = (.pointer (some ⟨b, o + k * 5, none⟩)) := (hf 18).1 rfl
              exact Exec.kfield rfl rfl h18 (fieldRf8_0o w _ _) rfl
            · -- 5: slot 20 := Op.load 23 t19
              refine StepOK.plain (kn_stable _) rfl fun ρ w hρ hw hf => ?_
              have h19 : ρ (.tmp 19) = (.pointer (some ⟨b, o + k * 5, none⟩)) := (hf 19).1 rfl
              have hc : w.cell? ⟨b, o + k * 5, none⟩ = some (.int .u32 (x.oid : Nat)) := hw.cell (p := ⟨b, o + k * 5, none⟩) (fun f => f) _ Q0.out
              exact Exec.same (v := (.int .u32 (x.oid : Nat))) rfl (by simp [go_sem, hρ.const, h19, hc]) rfl
            · -- 6: slot 21 := Op.move t1
              refine StepOK.plain (kn_stable _) rfl fun ρ w hρ hw hf => ?_
              have h1 : ρ (.tmp 1) = (.int .u32 (oid : Nat)) := (hf 1).2 rfl rfl
              exact Exec.kmove rfl rfl h1
            · -- 7: slot 22 := Op.binOp BinOp.eql 23 t20 t21 23
              refine StepOK.plain (kn_stable _) rfl fun ρ w hρ hw hf => ?_
              have h20 : ρ (.tmp 20) = (.int .u32 (x.oid : Nat)) := (hf 20).1 rfl
              have h21 : ρ (.tmp 21) = (.int .u32 (oid : Nat)) := (hf 21).1 rfl
              exact Exec.same (v := .bool true) rfl (by simp [go_sem, hρ.const, h20, h21, EQ.out]) rfl
            · -- 8: slot 23 := Op.move t22
              refine StepOK.plain (kn_stable _) rfl fun ρ w hρ hw hf => ?_
              have h22 : ρ (.tmp 22) = (.bool true) := (hf 22).1 rfl
              exact Exec.kmove rfl rfl h22
            · -- 9: slot 24 := Op.move t7
              refine StepOK.guarded (kn_stable _) 8 true 23 rfl rfl (fun ρ w _ _ hf => (hf 23).1 rfl) fun ρ w hρ hw hf => ?_
              have h7 : ρ (.tmp 7) = (.bool false) := (hf 7).2 rfl rfl
              exact Exec.kmove rfl rfl h7
            · -- 10: slot 25 := Op.unOp UnOp.not 4 t24
              refine StepOK.guarded (kn_stable _) 8 true 23 rfl rfl (fun ρ w _ _ hf => (hf 23).1 rfl) fun ρ w hρ hw hf => ?_
              have h24 : ρ (.tmp 24) = (.bool false) := (hf 24).1 rfl
              exact Exec.same (v := .bool true) rfl (by simp [go_sem, hρ.const, h24]) rfl
            · -- 11: slot 26 := Op.move t25
              refine StepOK.guarded (kn_stable _) 8 true 23 rfl rfl (fun ρ w _ _ hf => (hf 23).1 rfl) fun ρ w hρ hw hf => ?_
              have h25 : ρ (.tmp 25) = (.bool true) := (hf 25).1 rfl
              exact Exec.kmove rfl rfl h25
            · -- 12: slot 27 := Op.move t0
              exact StepOK.skipped (kn_stable _) (fun w => Ch.refl _ w) 11 false 26 rfl rfl (fun ρ w _ _ hf => (.inl ((hf 26).1 rfl))) (fun w d h => by cases h; rfl)
            · -- 13: slot 28 := Op.move t8
              exact StepOK.skipped (kn_stable _) (fun w => Ch.refl _ w) 11 false 26 rfl rfl (fun ρ w _ _ hf => (.inl ((hf 26).1 rfl))) (fun w d h => by cases h; rfl)
            · -- 14: slot 29 := Op.indexAddr 22 t27 t28
              exact StepOK.skipped (kn_stable _) (fun w => Ch.refl _ w) 11 false 26 rfl rfl (fun ρ w _ _ hf => (.inl ((hf 26).1 rfl))) (fun w d h => by cases h; rfl)
            · -- 15: slot 30 := Op.fieldAddr 33 t29 0
              exact StepOK.skipped (kn_stable _) (fun w => Ch.refl _ w) 11 false 26 rfl rfl (fun ρ w _ _ hf => (.inl ((hf 26).1 rfl))) (fun w d h => by cases h; rfl)
            · -- 16: slot 31 := Op.fieldAddr 25 t30 1
              exact StepOK.skipped (kn_stable _) (fun w => Ch.refl _ w) 11 false 26 rfl rfl (fun ρ w _ _ hf => (.inl ((hf 26).1 rfl))) (fun w d h => by cases h; rfl)
            · -- 17: slot 32 := Op.load 23 t31
              exact StepOK.skipped (kn_stable _) (fun w => Ch.refl _ w) 11 false 26 rfl rfl (fun ρ w _ _ hf => (.inl ((hf 26).1 rfl))) (fun w d h => by cases h; rfl)
            · -- 18: slot 33 := Op.fieldAddr 33 t6 0
              exact StepOK.skipped (kn_stable _) (fun w => Ch.refl _ w) 11 false 26 rfl rfl (fun ρ w _ _ hf => (.inl ((hf 26).1 rfl))) (fun w d h => by cases h; rfl)
            · -- 19: slot 34 := Op.fieldAddr 25 t33 1
              exact StepOK.skipped (kn_stable _) (fun w => Ch.refl _ w) 11 false 26 rfl rfl (fun ρ w _ _ hf => (.inl ((hf 26).1 rfl))) (fun w d h => by cases h; rfl)
            · -- 20: slot 35 := Op.load 23 t34
              exact StepOK.skipped (kn_stable _) (fun w => Ch.refl _ w) 11 false 26 rfl rfl (fun ρ w _ _ hf => (.inl ((hf 26).1 rfl))) (fun w d h => by cases h; rfl)
            · -- 21: slot 36 := Op.binOp BinOp.gtr 23 t32 t35 23
              exact StepOK.skipped (kn_stable _) (fun w => Ch.refl _ w) 11 false 26 rfl rfl (fun ρ w _ _ hf => (.inl ((hf 26).1 rfl))) (fun w d h => by cases h; rfl)
            · -- 22: slot 37 := Op.pick t26 (const (Value.bool true)) t36
              refine StepOK.guarded (kn_stable _) 8 true 23 rfl rfl (fun ρ w _ _ hf => (hf 23).1 rfl) fun ρ w hρ hw hf => ?_
              have h26 : ρ (.tmp 26) = (.bool true) := (hf 26).1 rfl
              have h36 : ρ (.tmp 36) = (undef) := (hf 36).1 rfl
              exact Exec.kpickT rfl rfl h26 (hρ.const _)
            · -- 23: slot 38 := Op.pick t23 t37 (const (Value.bool false))
              refine StepOK.plain (kn_stable _) rfl fun ρ w hρ hw hf => ?_
              have h23 : ρ (.tmp 23) = (.bool true) := (hf 23).1 rfl
              have h37 : ρ (.tmp 37) = (.bool true) := (hf 37).1 rfl
              exact Exec.kpickT rfl rfl h23 h37
          case fin =>
            intro ν w9 hfin hx9
            have e0 : ν 38 = .bool true := hfin 23 38 rfl
            simp only [Exit.then, ended, List.foldl_cons, List.foldl_nil, List.setIfInBounds_toArray, List.set_cons_succ, List.set_cons_zero, e0]
            clear hfin
            have hidx := run_indexSl w9 Try.underlying22 CHI.out CHS.out b o n cap k HLT.out
            have hra : w9.rangeAt b (o + k * 5) (relv x xv).toList := fun i u hu => hx9.cell (p := ⟨b, o + k * 5 + i, none⟩) (fun f => f) _ (HRA.out i u hu)
            have q0 : w9.cell? ⟨b, o + k * 5, none⟩ = some (.int .u32 (x.oid : Nat)) := by have := hra 0 _ rfl; simpa using this
            have q1 : w9.cell? ⟨b, o + k * 5 + 1, none⟩ = some (.int .u32 (x.ver : Nat)) := hra 1 _ rfl
            have q2 : w9.cell? ⟨b, o + k * 5 + 2, none⟩ = some (.string ⟨x.name.toArray⟩) := hra 2 _ rfl
            have q3 : w9.cell? ⟨b, o + k * 5 + 3, none⟩ = some (.int .u8 (x.ident : Nat)) := hra 3 _ rfl
            have q4 : w9.cell? ⟨b, o + k * 5 + 4, none⟩ = some xv := hra 4 _ rfl
            obtain ⟨xo, xc, hxe, _⟩ := id HXV.out
            subst hxe
            have HG9 := Lib.hid (heap_ext hx9 HG6.out)
            have HG49 := Lib.hid (heap_ext hx9 HG4r.out)
            have HX9 := Lib.hid (HX.out.trans hx9)
            clear hra hx9 e0
            go_wp2_with (refine wpList_store_rowTo rfl _ _ _ rfl rfl g6 (relv x (.slice xo x.cols.length xc)) rfl rfl _ _ HG9.out infoQl rfl (relv_one _ _ _ _) ?_)
            obtain ⟨w10, hw10⟩ : ∃ w10, w10 = w9.setRow g6 (relv x (.slice xo x.cols.length xc)) := ⟨_, rfl⟩
            rw [← hw10]
            have HX10 : Hid (Ext w w10) := Lib.hid (by rw [hw10]; exact HX9.out.grown (gby_setRow _ _ _) (fun k e => by cases e; exact .inr (by have := HGE.out; omega)))
            have HG10 : Hid (w10.heap[g6]? = some (.cells (relv x (.slice xo x.cols.length xc)) 33 (0, 0))) := Lib.hid (by rw [hw10]; exact setRow_heap _ _ _ _ _ _ HG9.out)
            have HG410 : Hid (w10.heap[g4]? = some (.cells #[.int .u32 0, .int .u32 0, .string ⟨#[]⟩, .int .u8 0, .slice none 0 0] 33 (0, 0))) := Lib.hid (by rw [hw10]; exact gby_heap (gby_setRow _ _ _) HG49.out (by have := HGE.out; simp; omega))
            clear hw10 q0 q1 q2 q3 q4 hidx
            go_wp2
            go_roundw
            case rel => exact ⟨k + 1, some x, .slice xo x.cols.length xc, HLT.out, by simp, rfl, HX10, HYN.out, HG10, HG410, HXV0⟩
            case measure => simp [intOf]; have := HLT.out; omega
        | some y =>
          obtain ⟨D, hD⟩ : ∃ D, D = decide (y.ver < x.ver) := ⟨_, rfl⟩
          have GT : Hid (decide (y.ver < x.ver) = D) := Lib.hid hD.symm
          have HG6 : Hid (wr.heap[g6]? = some (.cells (relv y yv) 33 (0, 0))) := HG6
          rw [Option.isSome_some]
          go_wp2
          refine wp_region_ext (lsC b o n cap k oid g6 x y D) mixedV (by rfl) (by rfl) ?all ?fin
          case all =>
            refine ⟨?_, ?_, ?_, ?_, ?_, ?_, ?_, ?_, ?_, ?_, ?_, ?_, ?_, ?_, ?_, ?_, ?_, ?_, ?_, ?_, ?_, ?_, ?_, ?_, trivial⟩
            · -- 0: slot 15 := Op.move t0
              refine StepOK.plain (kn_stable _) rfl fun ρ w hρ hw hf => ?_
              have h0 : ρ (.tmp 0) = (.slice (some ⟨b, o, none⟩) n cap) := (hf 0).2 rfl rfl
              exact Exec.kmove rfl rfl h0
            · -- 1: slot 16 := Op.move t8
              refine StepOK.plain (kn_stable _) rfl fun ρ w hρ hw hf => ?_
              have h8 : ρ (.tmp 8) = (.int .i64 (k : Nat)) := (hf 8).2 rfl rfl
              exact Exec.kmove rfl rfl h8
            · -- 2: slot 17 := Op.indexAddr 22 t15 t16
              refine StepOK.plain (kn_stable _) rfl fun ρ w hρ hw hf => ?_
              have h15 : ρ (.tmp 15) = (.slice (some ⟨b, o, none⟩) n cap) := (hf 15).1 rfl
              have h16 : ρ (.tmp 16) = (.int .i64 (k : Nat)) := (hf 16).1 rfl
              exact Exec.kindex rfl rfl Try.underlying22 CHI.out CHS.out h15 h16 HLT.out rfl
            · -- 3: slot 18 := Op.fieldAddr 33 t17 0
              refine StepOK.plain (kn_stable _) rfl fun ρ w hρ hw hf => ?_
              have h17 : ρ (.tmp 17) = (.pointer (some ⟨b, o + k * 5, none⟩)) := (hf 17).1 rfl
              exact Exec.kfield rfl rfl h17 (fieldRR_0o w _ _) rfl
            · -- 4: slot 19 := Op.fieldAddr 25 t18 0
              refine StepOK.plain (kn_stable _) rfl fun ρ w hρ hw hf => ?_
              have h18 : ρ (.tmp 18) = (.pointer (some ⟨b, o + k * 5, none⟩)) := (hf 18).1 rfl
              exact Exec.kfield rfl rfl h18 (fieldRf8_0o w _ _) rfl
            · -- 5: slot 20 := Op.load 23 t19
              refine StepOK.plain (kn_stable _) rfl fun ρ w hρ hw hf => ?_
              have h19 : ρ (.tmp 19) = (.pointer (some ⟨b, o + k * 5, none⟩)) := (hf 19).1 rfl
              have hc : w.cell? ⟨b, o + k * 5, none⟩ = some (.int .u32 (x.oid : Nat)) := hw.cell (p := ⟨b, o + k * 5, none⟩) (fun f => f) _ Q0.out
              exact Exec.same (v := (.int .u32 (x.oid : Nat))) rfl (by simp [go_sem, hρ.const, h19, hc]) rfl
            · -- 6: slot 21 := Op.move t1
              refine StepOK.plain (kn_stable _) rfl fun ρ w hρ hw hf => ?_
              have h1 : ρ (.tmp 1) = (.int .u32 (oid : Nat)) := (hf 1).2 rfl rfl
              exact Exec.kmove rfl rfl h1
            · -- 7: slot 22 := Op.binOp BinOp.eql 23 t20 t21 23
              refine StepOK.plain (kn_stable _) rfl fun ρ w hρ hw hf => ?_
              have h20 : ρ (.tmp 20) = (.int .u32 (x.oid : Nat)) := (hf 20).1 rfl
              have h21 : ρ (.tmp 21) = (.int .u32 (oid : Nat)) := (hf 21).1 rfl
              exact Exec.same (v := .bool true) rfl (by simp [go_sem, hρ.const, h20, h21, EQ.out]) rfl
            · -- 8: slot 23 := Op.move t22
              refine StepOK.plain (kn_stable _) rfl fun ρ w hρ hw hf => ?_
              have h22 : ρ (.tmp 22) = (.bool true) := (hf 22).1 rfl
              exact Exec.kmove rfl rfl h22
            · -- 9: slot 24 := Op.move t7
              refine StepOK.guarded (kn_stable _) 8 true 23 rfl rfl (fun ρ w _ _ hf => (hf 23).1 rfl) fun ρ w hρ hw hf => ?_
              have h7 : ρ (.tmp 7) = (.bool true) := (hf 7).2 rfl rfl
              exact Exec.kmove rfl rfl h7
            · -- 10: slot 25 := Op.unOp UnOp.not 4 t24
              refine StepOK.guarded (kn_stable _) 8 true 23 rfl rfl (fun ρ w _ _ hf => (hf 23).1 rfl) fun ρ w hρ hw hf => ?_
              have h24 : ρ (.tmp 24) = (.bool true) := (hf 24).1 rfl
              exact Exec.same (v := .bool false) rfl (by simp [go_sem, hρ.const, h24]) rfl
            · -- 11: slot 26 := Op.move t25
              refine StepOK.guarded (kn_stable _) 8 true 23 rfl rfl (fun ρ w _ _ hf => (hf 23).1 rfl) fun ρ w hρ hw hf => ?_
              have h25 : ρ (.tmp 25) = (.bool false) := (hf 25).1 rfl
              exact Exec.kmove rfl rfl h25
            · -- 12: slot 27 := Op.move t0
              refine StepOK.guarded (kn_stable _) 11 false 26 rfl rfl (fun ρ w _ _ hf => (hf 26).1 rfl) fun ρ w hρ hw hf => ?_
              have h0 : ρ (.tmp 0) = (.slice (some ⟨b, o, none⟩) n cap) := (hf 0).2 rfl rfl
              exact Exec.kmove rfl rfl h0
            · -- 13: slot 28 := Op.move t8
              refine StepOK.guarded (kn_stable _) 11 false 26 rfl rfl (fun ρ w _ _ hf => (hf 26).1 rfl) fun ρ w hρ hw hf => ?_
              have h8 : ρ (.tmp 8) = (.int .i64 (k : Nat)) := (hf 8).2 rfl rfl
              exact Exec.kmove rfl rfl h8
            · -- 14: slot 29 := Op.indexAddr 22 t27 t28
              refine StepOK.guarded (kn_stable _) 11 false 26 rfl rfl (fun ρ w _ _ hf => (hf 26).1 rfl) fun ρ w hρ hw hf => ?_
              have h27 : ρ (.tmp 27) = (.slice (some ⟨b, o, none⟩) n cap) := (hf 27).1 rfl
              have h28 : ρ (.tmp 28) = (.int .i64 (k : Nat)) := (hf 28).1 rfl
              exact Exec.kindex rfl rfl Try.underlying22 CHI.out CHS.out h27 h28 HLT.out rfl
            · -- 15: slot 30 := Op.fieldAddr 33 t29 0
              refine StepOK.guarded (kn_stable _) 11 false 26 rfl rfl (fun ρ w _ _ hf => (hf 26).1 rfl) fun ρ w hρ hw hf => ?_
              have h29 : ρ (.tmp 29) = (.pointer (some ⟨b, o + k * 5, none⟩)) := (hf 29).1 rfl
              exact Exec.kfield rfl rfl h29 (fieldRR_0o w _ _) rfl
            · -- 16: slot 31 := Op.fieldAddr 25 t30 1
              refine StepOK.guarded (kn_stable _) 11 false 26 rfl rfl (fun ρ w _ _ hf => (hf 26).1 rfl) fun ρ w hρ hw hf => ?_
              have h30 : ρ (.tmp 30) = (.pointer (some ⟨b, o + k * 5, none⟩)) := (hf 30).1 rfl
              exact Exec.kfield rfl rfl h30 (fieldRf8_1o w _ _) rfl
            · -- 17: slot 32 := Op.load 23 t31
              refine StepOK.guarded (kn_stable _) 11 false 26 rfl rfl (fun ρ w _ _ hf => (hf 26).1 rfl) fun ρ w hρ hw hf => ?_
              have h31 : ρ (.tmp 31) = (.pointer (some ⟨b, o + k * 5 + 1, none⟩)) := (hf 31).1 rfl
              have hc : w.cell? ⟨b, o + k * 5 + 1, none⟩ = some (.int .u32 (x.ver : Nat)) := hw.cell (p := ⟨b, o + k * 5 + 1, none⟩) (fun f => f) _ Q1.out
              exact Exec.same (v := (.int .u32 (x.ver : Nat))) rfl (by simp [go_sem, hρ.const, h31, hc]) rfl
            · -- 18: slot 33 := Op.fieldAddr 33 t6 0
              refine StepOK.guarded (kn_stable _) 11 false 26 rfl rfl (fun ρ w _ _ hf => (hf 26).1 rfl) fun ρ w hρ hw hf => ?_
              have h6 : ρ (.tmp 6) = (.pointer (some ⟨g6, 0, none⟩)) := (hf 6).2 rfl rfl
              exact Exec.kfield rfl rfl h6 (fieldRR_0o w _ _) rfl
            · -- 19: slot 34 := Op.fieldAddr 25 t33 1
              refine StepOK.guarded (kn_stable _) 11 false 26 rfl rfl (fun ρ w _ _ hf => (hf 26).1 rfl) fun ρ w hρ hw hf => ?_
              have h33 : ρ (.tmp 33) = (.pointer (some ⟨g6, 0, none⟩)) := (hf 33).1 rfl
              exact Exec.kfield rfl rfl h33 (fieldRf8_1o w _ _) rfl
            · -- 20: slot 35 := Op.load 23 t34
              refine StepOK.guarded (kn_stable _) 11 false 26 rfl rfl (fun ρ w _ _ hf => (hf 26).1 rfl) fun ρ w hρ hw hf => ?_
              have h34 : ρ (.tmp 34) = (.pointer (some ⟨g6, 0 + 1, none⟩)) := (hf 34).1 rfl
              have hc : w.cell? ⟨g6, 0 + 1, none⟩ = some (.int .u32 (y.ver : Nat)) := by rw [cell_of_row _ _ _ _ _ _ (heap_ext hw HG6.out)]; rfl
              exact Exec.same (v := (.int .u32 (y.ver : Nat))) rfl (by simp only [Nat.zero_add] at h34 hc; simp [go_sem, hρ.const, h34, hc]) rfl
            · -- 21: slot 36 := Op.binOp BinOp.gtr 23 t32 t35 23
              refine StepOK.guarded (kn_stable _) 11 false 26 rfl rfl (fun ρ w _ _ hf => (hf 26).1 rfl) fun ρ w hρ hw hf => ?_
              have h32 : ρ (.tmp 32) = (.int .u32 (x.ver : Nat)) := (hf 32).1 rfl
              have h35 : ρ (.tmp 35) = (.int .u32 (y.ver : Nat)) := (hf 35).1 rfl
              exact Exec.same (v := .bool D) rfl (by simp [go_sem, hρ.const, h32, h35, GT.out]) rfl
            · -- 22: slot 37 := Op.pick t26 (const (Value.bool true)) t36
              refine StepOK.guarded (kn_stable _) 8 true 23 rfl rfl (fun ρ w _ _ hf => (hf 23).1 rfl) fun ρ w hρ hw hf => ?_
              have h26 : ρ (.tmp 26) = (.bool false) := (hf 26).1 rfl
              have h36 : ρ (.tmp 36) = (.bool D) := (hf 36).1 rfl
              exact Exec.kpickF rfl rfl h26 h36
            · -- 23: slot 38 := Op.pick t23 t37 (const (Value.bool false))
              refine StepOK.plain (kn_stable _) rfl fun ρ w hρ hw hf => ?_
              have h23 : ρ (.tmp 23) = (.bool true) := (hf 23).1 rfl
              have h37 : ρ (.tmp 37) = (.bool D) := (hf 37).1 rfl
              exact Exec.kpickT rfl rfl h23 h37
          case fin =>
            intro ν w9 hfin hx9
            have e0 : ν 38 = .bool D := hfin 23 38 rfl
            simp only [Exit.then, ended, List.foldl_cons, List.foldl_nil, List.setIfInBounds_toArray, List.set_cons_succ, List.set_cons_zero, e0]
            clear hfin
            by_cases hyx : y.ver < x.ver
            · have HYN : Hid (young oid none (l.take (k + 1)) = some x) := Lib.hid (by rw [HYS.out, if_pos ⟨hoid, fun z h => by cases h; exact hyx⟩])
              rw [show D = true by rw [hD]; exact decide_eq_true hyx]
              clear hoid hyx hD
              have hidx := run_indexSl w9 Try.underlying22 CHI.out CHS.out b o n cap k HLT.out
              have hra : w9.rangeAt b (o + k * 5) (relv x xv).toList := fun i u hu => hx9.cell (p := ⟨b, o + k * 5 + i, none⟩) (fun f => f) _ (HRA.out i u hu)
              have q0 : w9.cell? ⟨b, o + k * 5, none⟩ = some (.int .u32 (x.oid : Nat)) := by have := hra 0 _ rfl; simpa using this
              have q1 : w9.cell? ⟨b, o + k * 5 + 1, none⟩ = some (.int .u32 (x.ver : Nat)) := hra 1 _ rfl
              have q2 : w9.cell? ⟨b, o + k * 5 + 2, none⟩ = some (.string ⟨x.name.toArray⟩) := hra 2 _ rfl
              have q3 : w9.cell? ⟨b, o + k * 5 + 3, none⟩ = some (.int .u8 (x.ident : Nat)) := hra 3 _ rfl
              have q4 : w9.cell? ⟨b, o + k * 5 + 4, none⟩ = some xv := hra 4 _ rfl
              obtain ⟨xo, xc, hxe, _⟩ := id HXV.out
              subst hxe
              have HG9 := Lib.hid (heap_ext hx9 HG6.out)
              have HG49 := Lib.hid (heap_ext hx9 HG4r.out)
              have HX9 := Lib.hid (HX.out.trans hx9)
              clear hra hx9 e0
              go_wp2_with (refine wpList_store_rowTo rfl _ _ _ rfl rfl g6 (relv x (.slice xo x.cols.length xc)) rfl rfl _ _ HG9.out infoQl rfl (relv_one _ _ _ _) ?_)
              obtain ⟨w10, hw10⟩ : ∃ w10, w10 = w9.setRow g6 (relv x (.slice xo x.cols.length xc)) := ⟨_, rfl⟩
              rw [← hw10]
              have HX10 : Hid (Ext w w10) := Lib.hid (by rw [hw10]; exact HX9.out.grown (gby_setRow _ _ _) (fun k e => by cases e; exact .inr (by have := HGE.out; omega)))
              have HG10 : Hid (w10.heap[g6]? = some (.cells (relv x (.slice xo x.cols.length xc)) 33 (0, 0))) := Lib.hid (by rw [hw10]; exact setRow_heap _ _ _ _ _ _ HG9.out)
              have HG410 : Hid (w10.heap[g4]? = some (.cells #[.int .u32 0, .int .u32 0, .string ⟨#[]⟩, .int .u8 0, .slice none 0 0] 33 (0, 0))) := Lib.hid (by rw [hw10]; exact gby_heap (gby_setRow _ _ _) HG49.out (by have := HGE.out; simp; omega))
              clear hw10 q0 q1 q2 q3 q4 hidx
              go_wp2
              go_roundw
              case rel => exact ⟨k + 1, some x, .slice xo x.cols.length xc, HLT.out, by simp, rfl, HX10, HYN.out, HG10, HG410, HXV0⟩
              case measure => simp [intOf]; have := HLT.out; omega
            · have HYN : Hid (young oid none (l.take (k + 1)) = some y) := Lib.hid (by rw [HYS.out, if_neg fun h => hyx (h.2 y rfl)])
              rw [show D = false by rw [hD]; exact decide_eq_false hyx]
              clear hoid hyx hD
              have HX9 := Lib.hid (HX.out.trans hx9); have HG9 := Lib.hid (heap_ext hx9 HG6.out); have HG49 := Lib.hid (heap_ext hx9 HG4r.out)
              clear hx9 e0
              go_wp2
              go_roundw
              case rel => exact ⟨k + 1, some y, yv, HLT.out, by simp, rfl, HX9, HYN.out, HG9, HG49, HC⟩
              case measure => simp [intOf]; have := HLT.out; omega
      · have NE : Hid ((((x.oid : Nat) : Int) == ((oid : Nat) : Int)) = false) := Lib.hid (beq_eq_false_iff_ne.2 (by omega))
        have HYN : Hid (young oid none (l.take (k + 1)) = Y) := Lib.hid (by rw [HYS.out, if_neg fun h => hoid h.1])
        clear hoid
        have HYI : Hid (Y.isSome = Y.isSome) := Lib.hid rfl
        obtain ⟨S, hS⟩ : ∃ S, S = Y.isSome := ⟨_, rfl⟩
        rw [← hS]
        have HSE := Lib.hid hS
        clear hS
        go_wp2
        refine wp_region_ext (lsA b o n cap k oid g6 x x true) mixedV (by rfl) (by rfl) ?all ?fin
        case all =>
          refine ⟨?_, ?_, ?_, ?_, ?_, ?_, ?_, ?_, ?_, ?_, ?_, ?_, ?_, ?_, ?_, ?_, ?_, ?_, ?_, ?_, ?_, ?_, ?_, ?_, trivial⟩
          · -- 0: slot 15 := Op.move t0
            refine StepOK.plain (kn_stable _) rfl fun ρ w hρ hw hf => ?_
            have h0 : ρ (.tmp 0) = (.slice (some ⟨b, o, none⟩) n cap) := (hf 0).2 rfl rfl
            exact Exec.kmove rfl rfl h0
          · -- 1: slot 16 := Op.move t8
            refine StepOK.plain (kn_stable _) rfl fun ρ w hρ hw hf => ?_
            have h8 : ρ (.tmp 8) = (.int .i64 (k : Nat)) := (hf 8).2 rfl rfl
            exact Exec.kmove rfl rfl h8
          · -- 2: slot 17 := Op.indexAddr 22 t15 t16
            refine StepOK.plain (kn_stable _) rfl fun ρ w hρ hw hf => ?_
            have h15 : ρ (.tmp 15) = (.slice (some ⟨b, o, none⟩) n cap) := (hf 15).1 rfl
            have h16 : ρ (.tmp 16) = (.int .i64 (k : Nat)) := (hf 16).1 rfl
            exact Exec.kindex rfl rfl Try.underlying22 CHI.out CHS.out h15 h16 HLT.out rfl
          · -- 3: slot 18 := Op.fieldAddr 33 t17 0
            refine StepOK.plain (kn_stable _) rfl fun ρ w hρ hw hf => ?_
            have h17 : ρ (.tmp 17) = (.pointer (some ⟨b, o + k * 5, none⟩)) := (hf 17).1 rfl
            exact Exec.kfield rfl rfl h17 (fieldRR_0o w _ _) rfl
          · -- 4: slot 19 := Op.fieldAddr 25 t18 0
            refine StepOK.plain (kn_stable _) rfl fun ρ w hρ hw hf => ?_
            have h18 : ρ (.tmp 18) = (.pointer (some ⟨b, o + k * 5, none⟩)) := (hf 18).1 rfl
            exact Exec.kfield rfl rfl h18 (fieldRf8_0o w _ _) rfl
          · -- 5: slot 20 := Op.load 23 t19
            refine StepOK.plain (kn_stable _) rfl fun ρ w hρ hw hf => ?_
            have h19 : ρ (.tmp 19) = (.pointer (some ⟨b, o + k * 5, none⟩)) := (hf 19).1 rfl
            have hc : w.cell? ⟨b, o + k * 5, none⟩ = some (.int .u32 (x.oid : Nat)) := hw.cell (p := ⟨b, o + k * 5, none⟩) (fun f => f) _ Q0.out
            exact Exec.same (v := (.int .u32 (x.oid : Nat))) rfl (by simp [go_sem, hρ.const, h19, hc]) rfl
          · -- 6: slot 21 := Op.move t1
            refine StepOK.plain (kn_stable _) rfl fun ρ w hρ hw hf => ?_
            have h1 : ρ (.tmp 1) = (.int .u32 (oid : Nat)) := (hf 1).2 rfl rfl
            exact Exec.kmove rfl rfl h1
          · -- 7: slot 22 := Op.binOp BinOp.eql 23 t20 t21 23
            refine StepOK.plain (kn_stable _) rfl fun ρ w hρ hw hf => ?_
            have h20 : ρ (.tmp 20) = (.int .u32 (x.oid : Nat)) := (hf 20).1 rfl
            have h21 : ρ (.tmp 21) = (.int .u32 (oid : Nat)) := (hf 21).1 rfl
            exact Exec.same (v := .bool false) rfl (by simp [go_sem, hρ.const, h20, h21, NE.out]) rfl
          · -- 8: slot 23 := Op.move t22
            refine StepOK.plain (kn_stable _) rfl fun ρ w hρ hw hf => ?_
            have h22 : ρ (.tmp 22) = (.bool false) := (hf 22).1 rfl
            exact Exec.kmove rfl rfl h22
          · -- 9: slot 24 := Op.move t7
            exact StepOK.skipped (kn_stable _) (fun w => Ch.refl _ w) 8 true 23 rfl rfl (fun ρ w _ _ hf => (.inl ((hf 23).1 rfl))) (fun w d h => by cases h; rfl)
          · -- 10: slot 25 := Op.unOp UnOp.not 4 t24
            exact StepOK.skipped (kn_stable _) (fun w => Ch.refl _ w) 8 true 23 rfl rfl (fun ρ w _ _ hf => (.inl ((hf 23).1 rfl))) (fun w d h => by cases h; rfl)
          · -- 11: slot 26 := Op.move t25
            exact StepOK.skipped (kn_stable _) (fun w => Ch.refl _ w) 8 true 23 rfl rfl (fun ρ w _ _ hf => (.inl ((hf 23).1 rfl))) (fun w d h => by cases h; rfl)
          · -- 12: slot 27 := Op.move t0
            exact StepOK.skipped (kn_stable _) (fun w => Ch.refl _ w) 11 false 26 rfl rfl (fun ρ w _ _ hf => (.inr ((hf 26).1 rfl))) (fun w d h => by cases h; rfl)
          · -- 13: slot 28 := Op.move t8
            exact StepOK.skipped (kn_stable _) (fun w => Ch.refl _ w) 11 false 26 rfl rfl (fun ρ w _ _ hf => (.inr ((hf 26).1 rfl))) (fun w d h => by cases h; rfl)
          · -- 14: slot 29 := Op.indexAddr 22 t27 t28
            exact StepOK.skipped (kn_stable _) (fun w => Ch.refl _ w) 11 false 26 rfl rfl (fun ρ w _ _ hf => (.inr ((hf 26).1 rfl))) (fun w d h => by cases h; rfl)
          · -- 15: slot 30 := Op.fieldAddr 33 t29 0
            exact StepOK.skipped (kn_stable _) (fun w => Ch.refl _ w) 11 false 26 rfl rfl (fun ρ w _ _ hf => (.inr ((hf 26).1 rfl))) (fun w d h => by cases h; rfl)
          · -- 16: slot 31 := Op.fieldAddr 25 t30 1
            exact StepOK.skipped (kn_stable _) (fun w => Ch.refl _ w) 11 false 26 rfl rfl (fun ρ w _ _ hf => (.inr ((hf 26).1 rfl))) (fun w d h => by cases h; rfl)
          · -- 17: slot 32 := Op.load 23 t31
            exact StepOK.skipped (kn_stable _) (fun w => Ch.refl _ w) 11 false 26 rfl rfl (fun ρ w _ _ hf => (.inr ((hf 26).1 rfl))) (fun w d h => by cases h; rfl)
          · -- 18: slot 33 := Op.fieldAddr 33 t6 0
            exact StepOK.skipped (kn_stable _) (fun w => Ch.refl _ w) 11 false 26 rfl rfl (fun ρ w _ _ hf => (.inr ((hf 26).1 rfl))) (fun w d h => by cases h; rfl)
          · -- 19: slot 34 := Op.fieldAddr 25 t33 1
            exact StepOK.skipped (kn_stable _) (fun w => Ch.refl _ w) 11 false 26 rfl rfl (fun ρ w _ _ hf => (.inr ((hf 26).1 rfl))) (fun w d h => by cases h; rfl)
          · -- 20: slot 35 := Op.load 23 t34
            exact StepOK.skipped (kn_stable _) (fun w => Ch.refl _ w) 11 false 26 rfl rfl (fun ρ w _ _ hf => (.inr ((hf 26).1 rfl))) (fun w d h => by cases h; rfl)
          · -- 21: slot 36 := Op.binOp BinOp.gtr 23 t32 t35 23
            exact StepOK.skipped (kn_stable _) (fun w => Ch.refl _ w) 11 false 26 rfl rfl (fun ρ w _ _ hf => (.inr ((hf 26).1 rfl))) (fun w d h => by cases h; rfl)
          · -- 22: slot 37 := Op.pick t26 (const (Value.bool true)) t36
            exact StepOK.skipped (kn_stable _) (fun w => Ch.refl _ w) 8 true 23 rfl rfl (fun ρ w _ _ hf => (.inl ((hf 23).1 rfl))) (fun w d h => by cases h; rfl)
          · -- 23: slot 38 := Op.pick t23 t37 (const (Value.bool false))
            refine StepOK.plain (kn_stable _) rfl fun ρ w hρ hw hf => ?_
            have h23 : ρ (.tmp 23) = (.bool false) := (hf 23).1 rfl
            have h37 : ρ (.tmp 37) = (undef) := (hf 37).1 rfl
            exact Exec.kpickF rfl rfl h23 (hρ.const _)
        case fin =>
          intro ν w9 hfin hx9
          have e0 : ν 38 = .bool false := hfin 23 38 rfl
          simp only [Exit.then, ended, List.foldl_cons, List.foldl_nil, List.setIfInBounds_toArray, List.set_cons_succ, List.set_cons_zero, e0]
          clear hfin
          rw [HSE.out]
          have HX9 := Lib.hid (HX.out.trans hx9); have HG9 := Lib.hid (heap_ext hx9 HG6.out); have HG49 := Lib.hid (heap_ext hx9 HG4r.out)
          clear hx9 e0
          go_wp2
          go_roundw
          case rel => exact ⟨k + 1, Y, yv, HLT.out, by simp, rfl, HX9, HYN.out, HG9, HG49, HC⟩
          case measure => simp [intOf]; have := HLT.out; omega
    · obtain rfl : k = n := by omega
      have HYF : Hid (young oid none l = Y) := Lib.hid (by rw [← HY.out, ← HN.out, List.take_length])
      obtain ⟨yo, yc, rfl, _⟩ := id HC.out
      obtain ⟨d0, d1, d2, d3, d4⟩ := row5 HG6.out
      have HGO := Lib.hid (show w.heap.size ≤ g4 from HGE.out.1)
      go_wp2_with (refine wpList_store_rowTo rfl _ _ _ rfl rfl g4 (relv (Y.getD .zero) (.slice yo (Y.getD .zero).cols.length yc)) rfl rfl _ _ HG4r.out infoQl rfl (relv_one _ _ _ _) ?_)
      refine bodyPost_ret (results_row_tmp rfl _ _ g4 _ (relv (Y.getD .zero) (.slice yo (Y.getD .zero).cols.length yc)) _ _ rfl (setRow_heap _ _ _ _ _ _ HG4r.out) Try.underlying33 rfl infoQl) rfl ?_
      rw [HYF.out]
      have hch : Ext w (wr.setRow g4 (relv (Y.getD .zero) (.slice yo (Y.getD .zero).cols.length yc))) := HX.out.grown (gby_setRow _ _ _) (fun k e => by cases e; exact .inr HGO.out)
      exact ⟨hch, _, rfl, ColS.ext HC.out hch⟩
end Go.Proofs.Ytegclfpmgilnpaa
