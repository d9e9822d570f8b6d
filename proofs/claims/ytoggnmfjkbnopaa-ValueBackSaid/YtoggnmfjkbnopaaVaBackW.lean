/-
  ValueBack: the walk.
-/
import Derived.Test.YtoggnmfjkbnopaaValO
import Derived.Test.YtoggnmfjkbnopaaValF
import Derived.Test.YtoggnmfjkbnopaaValG
import Derived.Test.YtoggnmfjkbnopaaValH
import Derived.Test.YtoggnmfjkbnopaaAwake6
import Derived.Test.YtoggnmfjkbnopaaTakC
import Derived.Test.YtoggnmfjkbnopaaTwo
namespace Go.Proofs.Ytoggnmfjkbnopaa
open Go.RowKit Go.Lac

def backVT (a : Val) (r : Nat) : Tmp → Kn
  | 52 => .is (.pointer (some ⟨r, 0, none⟩))
  | 53 => .is (.int .i64 0)
  | 54 => .is (.bool false)
  | 55 => .is (.bool false)
  | 56 => .is (pv a)
  | 57 => .is (rv a)
  | 58 => .is (rv a)
  | 59 => .is (.bool false)
  | 60 => .is (.bool false)
  | _ => .any

theorem Exec.krvne {ρ : Operand → Value} {o : Oper} {w : World} {T : Tmp → Kn} {d : Tmp} {ty : TypeId} {x y : Operand} {a b : Val} (ho : o.op = .binOp .neq 54 x y ty) (hd : o.dst = some d)
    (hx : ρ x = rv a) (hy : ρ y = rv b) (hv : (T d).holds (.bool (!decide (a = b))) w) :
    Exec Try.prog ρ o w fun v w' => (∀ d, o.dst = some d → knV T d v w') ∧ Ext w w' :=
  Exec.same (v := .bool (!decide (a = b))) hd (by
    unfold execOp; rw [ho]
    have hg : (eqGuard .neq 54 x y (rv a) (rv b)).run Try.prog w = .ok () w := run_eqGuard_agg w _ _ _ _ _ _ (by kernel_rfl)
    have he := run_rveq a b w
    have hn : (binOp .neq 54 (rv a) (rv b)).run Try.prog w = .ok (.bool (!decide (a = b))) w := by
      unfold rv at he ⊢
      rw [run_eql_struct] at he
      rw [run_neq_struct]
      generalize (Op.equalIn 10000 54 (.agg (rvals a)) (.agg (rvals b))).run Try.prog w = res at *
      cases res with
      | ok b w' => simp only [Result.andThen_ok, Result.ok.injEq, Value.bool.injEq] at he ⊢; obtain ⟨rfl, rfl⟩ := he; exact ⟨rfl, rfl⟩
      | halt h w' => simp [Result.andThen] at he
    simp only [hx, hy, Sem.run_bind, hg, Result.andThen_ok, hn, Sem.run_pure]) hv

set_option maxRecDepth 20000 in
set_option maxHeartbeats 4000000 in
theorem valueBack_walk (a : Val) (ver : Nat) (vb : Value) (b : List UInt8) (w : World) (ha : a.ok) (hv : ver < 256) (hb : Rd w vb b) :
    Calls Try.prog 10 #[rv a, .int .u8 (ver : Nat), vb] w fun e w' => e = .returned (.bool true) ∧ Ext w w' := by
  obtain ⟨bo, bc, rfl⟩ := hb.shape
  have hbl : b.length ≤ maxLen := by obtain ⟨_, _, _, g1, g2, _⟩ := hb; omega
  unfold maxLen at hbl
  have HB0 := Lib.hid hb
  have hmod : (ver : Int).tmod 2 = ((ver % 2 : Nat) : Int) := by
    rw [Int.tmod_eq_emod_of_nonneg (by omega)]
    simp
  have hadd : IntKind.u8.wrap (1 + ((ver % 2 : Nat) : Int)) = ((1 + ver % 2 : Nat) : Int) := by rw [IntKind.wrap_u8]; omega
  have HRA : Hid (∀ w, Calls Try.prog 28 #[.agg (rvals a)] w fun e w' => e = .returned (.int .i64 (vErr a : Nat)) ∧ Ext w w') := Lib.hid (rright_any a)
  have HOA : Hid (∀ w, Calls Try.prog 27 #[.agg (rvals a)] w (PvPost a w)) := Lib.hid (lawOwn_any a)
  have hver : 1 + ver % 2 = 1 ∨ 1 + ver % 2 = 2 := by omega
  have HVER := Lib.hid hver
  have hmod2 : (ver : Int) % 2 = ((ver % 2 : Nat) : Int) := by simp
  clear hver hv
  obtain ⟨V, hV⟩ : ∃ V, V = 1 + ver % 2 := ⟨_, rfl⟩
  have hadd2 : (1 + ((ver % 2 : Nat) : Int)) = ((V : Nat) : Int) := by rw [hV]; simp
  rw [← hV] at HVER hadd
  clear hV
  generalize ver % 2 = v2 at *
  have HAOK := Lib.hid ha
  obtain ⟨W1, hW1⟩ : ∃ W1, W1 = w.alloc (.cells (rvals a) 54) := ⟨_, rfl⟩
  have hx1 : Ext w W1 := by rw [hW1]; exact (Ch.refl _ _).alloc _
  have hga : W1.heap[w.heap.size]? = some (.cells (rvals a) 54 (0, 0)) := by rw [hW1]; exact heap_alloc_new _ _
  have HGA := Lib.hid hga; have HX1 := Lib.hid hx1; have HW1 := Lib.hid hW1
  have hsa : (⟨a.t.toArray⟩ : ByteArray).size = a.t.length := by simp [ByteArray.size]
  obtain ⟨AS, hAS⟩ : ∃ AS, AS = (⟨a.t.toArray⟩ : ByteArray) := ⟨_, rfl⟩
  rw [← hAS] at hsa
  have HAS := Lib.hid hAS
  have hia : rv a = .agg (rvals a) := rfl
  rw [hia]
  clear hia hga hx1 hW1 hAS ha
  have HG1 : Hid ((w.alloc (.cells (rvals a) 54)).heap[w.heap.size]? = some (.cells (rvals a) 54 (0, 0))) := Lib.hid (heap_alloc_new _ _)
  have HB1 : Hid (Rd W1 (.slice bo b.length bc) b) := Lib.hid (hb.ext HX1.out)
  clear hb
  by_cases ea : vErr a = 0
  case neg =>
    have hne : (((vErr a : Nat) : Int) != 0) = true := by simp; omega
    generalize vErr a = e0 at *
    generalize b.length = nb at *
    clear ea
    go_enter Try.func10, Try.ntmps10
    go_wp2_with (first
      | (refine wpList_load_row rfl _ _ rfl w.heap.size rfl _ _ _ _ HG1.out Try.underlying54 rfl (infoR _) ?_)
      | (go_at_call 28; refine (HRA.out _).mono ?_))
    rintro e w2 ⟨rfl, hx⟩
    rw [← HW1.out] at hx
    have HX2 := Lib.hid (HX1.out.trans hx)
    clear hx
    go_wp2
    go_ret
    exact ⟨rfl, HX2.out⟩
  rw [ea] at HRA
  have HEA := Lib.hid ea
  clear ea
  generalize hnb : b.length = nb at *
  have HNB := Lib.hid hnb
  clear hnb
  go_enter Try.func10, Try.ntmps10
  go_wp2_with (first
    | (refine wpList_load_row rfl _ _ rfl w.heap.size rfl _ _ _ _ HG1.out Try.underlying54 rfl (infoR _) ?_)
    | (go_at_call 28; refine (HRA.out _).mono ?_))
  rintro e w2 ⟨rfl, hx⟩
  rw [← HW1.out] at hx
  have GA2 : Hid (w2.heap[w.heap.size]? = some (.cells (rvals a) 54 (0, 0))) := Lib.hid (heap_of_ext hx HGA.out)
  have HX2 := Lib.hid (HX1.out.trans hx)
  have HB2 := Lib.hid (HB1.out.ext hx)
  clear hx
  by_cases hlb : 300 < nb
  · go_wp2
    go_ret
    exact ⟨rfl, HX2.out⟩
  have hlb' : nb ≤ 300 := by omega
  have HLB := Lib.hid hlb'
  clear hlb hbl
  go_wp2_with (first
    | (refine wpList_load_row rfl _ _ rfl w.heap.size rfl _ _ _ _ GA2.out Try.underlying54 rfl (infoR _) ?_)
    | (go_at_call 27; refine (HOA.out _).mono ?_))
  rintro e w3 ⟨rfl, hx⟩
  have GA3 : Hid (w3.heap[w.heap.size]? = some (.cells (rvals a) 54 (0, 0))) := Lib.hid (heap_of_ext hx GA2.out)
  have HX3 := Lib.hid (HX2.out.trans hx)
  have HB3 := Lib.hid (HB2.out.ext hx)
  clear hx hsa hlb'
  have hp0 : putE V a = 0 := by unfold putE; rw [if_neg (by have := HVER.out; omega)]; exact HEA.out
  have hpa : ∀ w, Calls Try.prog 31 #[.slice none 0 0, pv a, .int .u8 (V : Nat)] w fun e w' => ∃ s, e = .returned (.tuple #[s, .int .i64 0]) ∧ Ext w w' ∧ Rd w' s (vBytes V a) := fun w => (put_any (.slice none 0 0) [] V a w (rd_nil w) (by simp) HAOK.out).mono fun e w' h => by
    obtain ⟨s, h1, h2, h3⟩ := h
    rw [hp0] at h1 h3
    rw [if_pos rfl] at h3
    exact ⟨s, h1, h2, h3⟩
  have HPA2 := Lib.hid hpa
  clear hp0 hpa
  have HVL := Lib.hid (vBytes_len (ver := V) HAOK.out HEA.out)
  have HTP := Lib.hid (vTake_put (ver := V) (v := a) [] HVER.out HAOK.out HEA.out)
  have HTY : Hid (a.ty < 256) := Lib.hid HAOK.out.1
  generalize vBytes V a = bs at *
  go_wp2_with fail
  refine (HPA2.out _).mono ?_
  rintro e w4 ⟨s1, rfl, hx, hr⟩
  have GA4 : Hid (w4.heap[w.heap.size]? = some (.cells (rvals a) 54 (0, 0))) := Lib.hid (heap_of_ext hx GA3.out)
  have HX4 := Lib.hid (HX3.out.trans hx)
  have HB4 := Lib.hid (HB3.out.ext hx)
  obtain ⟨ao, cap, rfl⟩ := hr.shape
  have HR4 := Lib.hid hr
  clear hx hr
  have HRD1 := Lib.hid (fun w h => read_any (.slice ao bs.length cap) bs w h (by have := HVL.out; omega))
  have HRD2 := Lib.hid (fun w h => read_any (.slice bo nb bc) b w h (by have := HNB.out; have := HLB.out; omega))
  generalize hn1 : bs.length = n1 at *
  clear hn1
  go_wp2_with fail
  refine (HRD1.out _ HR4.out).mono ?_
  rintro e w5 ⟨r, rfl, hx, hi, hrs⟩
  have GA5 : Hid (w5.heap[w.heap.size]? = some (.cells (rvals a) 54 (0, 0))) := Lib.hid (heap_of_ext hx GA4.out)
  have HX5 := Lib.hid (HX4.out.trans hx)
  have HB5 := Lib.hid (HB4.out.ext hx)
  have HI5 := Lib.hid hi
  have HRS : Hid (w.heap.size < r ∧ w4.heap.size ≤ r) := Lib.hid (by have h1 := (Array.getElem?_eq_some_iff.1 GA4.out).1; omega)
  clear hx hi hrs
  unfold RPtr
  go_wp2_with fail
  refine (HRD2.out _ HB5.out).mono ?_
  rintro e w6 ⟨q, rfl, hx, hi, hrs⟩
  have GA6 : Hid (w6.heap[w.heap.size]? = some (.cells (rvals a) 54 (0, 0))) := Lib.hid (heap_of_ext hx GA5.out)
  have HX6 := Lib.hid (HX5.out.trans hx)
  have HB6 := Lib.hid (HB5.out.ext hx)
  have HI6 := Lib.hid (HI5.out.ext hx)
  have HQ6 := Lib.hid hi
  have HQS : Hid (r < q ∧ w.heap.size < q) := Lib.hid (by have h1 := HI5.out.lt; have := HRS.out; omega)
  clear hx hi hrs
  unfold RPtr
  have HTK := Lib.hid (fun w h => take_val r bs V a.ty w h)
  rw [List.append_nil] at HTP
  rw [HTP.out] at HTK
  have ca0 : w6.cell? ⟨w.heap.size, 0, none⟩ = some (.int .u8 (a.ty : Nat)) := by rw [cell_of_row _ _ _ _ _ _ GA6.out]; rfl
  unfold RPtr at *
  go_wp2_with (go_at_call 34; refine (HTK.out _ HI6.out).mono ?_)
  rintro e w7 ⟨rfl, hx, hi⟩
  have HX7 : Hid (Ext w w7) := Lib.hid (HX6.out.transOnly hx (by have := HRS.out; omega))
  have GA7 : Hid (w7.heap[w.heap.size]? = some (.cells (rvals a) 54 (0, 0))) := Lib.hid (heap_of_only hx (by have := HRS.out; omega) GA6.out)
  have HI7 := Lib.hid hi
  have HQ7 := Lib.hid (HQ6.out.other HI6.out (by have := HQS.out; omega) hx)
  clear hx hi ca0
  have HPV : Hid (pv a = .agg (pvals a)) := Lib.hid rfl
  rw [HPV.out]
  have hg10 := heap_alloc_new w7 (.cells #[.int .u8 0, .int .i64 0, .complex .f64 0 0, .string ⟨#[]⟩] 61)
  have HG10 := Lib.hid hg10
  obtain ⟨W8, hW8⟩ : ∃ W8, W8 = (w7.alloc (.cells #[.int .u8 0, .int .i64 0, .complex .f64 0 0, .string ⟨#[]⟩] 61)).setRow w7.heap.size (pvals a) := ⟨_, rfl⟩
  have hx8 : Ext w7 W8 := by rw [hW8]; exact ((Ch.refl _ _).alloc _).setRow (.inr (Nat.le_refl _)) _
  have hg7 : W8.heap[w7.heap.size]? = some (.cells (pvals a) 61 (0, 0)) := by rw [hW8]; exact setRow_heap _ _ _ _ _ _ hg10
  have G7 := Lib.hid hg7
  have HX8 := Lib.hid (HX7.out.trans hx8)
  have GA : Hid (W8.heap[w.heap.size]? = some (.cells (rvals a) 54 (0, 0))) := Lib.hid (heap_of_ext hx8 GA7.out)
  have HI := Lib.hid (HI7.out.ext hx8)
  have HQ8 := Lib.hid (HQ7.out.ext hx8)
  have HEN := Lib.hid (fun w h => end_w r ([], 0) w h)
  have HW8 := Lib.hid hW8
  have hpo : ∀ v : Val, (pvals v).all (·.oneCell') = true := fun v => prow_one _ _ _ _ _
  have HPO := Lib.hid hpo
  unfold RPtr at HEN
  clear hg10 hW8 hx8 hg7 hpo
  go_wp2_with (refine wpList_store_rowTo rfl _ _ _ rfl rfl w7.heap.size (pvals a) rfl rfl _ _ HG10.out (infoP _) rfl (HPO.out _) ?_; rw [← HW8.out])
  generalize hg1 : w.heap.size = g1 at *
  generalize hg7 : w7.heap.size = g7 at *
  clear hg7
  refine wp_region_ext (backVT a r) mixedV (by rfl) (by rfl) ?all ?fin
  case all =>
    refine ⟨?_, ?_, ?_, ?_, ?_, ?_, ?_, ?_, ?_, trivial⟩
    · -- 0: slot 52 := Op.move t9
      refine StepOK.plain (kn_stable _) rfl fun ρ w hρ hw hf => ?_
      have h9 : ρ (.tmp 9) = (.pointer (some ⟨r, 0, none⟩)) := (hf 9).2 rfl rfl
      exact Exec.kmove rfl rfl h9
    · -- 1: slot 53 := Op.call { value (Operand.func 40), args := #[t52], argTypes := #[70] }
      refine StepOK.plain (kn_stable _) rfl fun ρ w hρ hw hf => ?_
      have h52 : ρ (.tmp 52) = (.pointer (some ⟨r, 0, none⟩)) := (hf 52).1 rfl
      refine Exec.kcall #[.pointer (some ⟨r, 0, none⟩)] hρ rfl rfl (by simp [hρ.const, h52]) Try.func40 (by rfl) rfl ?_
      refine (HEN.out w (HI.out.ext hw)).mono ?_
      rintro e w' ⟨rfl, rfl⟩
      exact ⟨_, rfl, rfl, Ch.refl _ _⟩
    · -- 2: slot 54 := Op.binOp BinOp.neq 28 t53 (const (0:i64)) 28
      refine StepOK.plain (kn_stable _) rfl fun ρ w hρ hw hf => ?_
      have h53 : ρ (.tmp 53) = (.int .i64 0) := (hf 53).1 rfl
      exact Exec.same (v := .bool false) rfl (by simp [go_sem, hρ.const, h53]) rfl
    · -- 3: slot 55 := Op.move t54
      refine StepOK.plain (kn_stable _) rfl fun ρ w hρ hw hf => ?_
      have h54 : ρ (.tmp 54) = (.bool false) := (hf 54).1 rfl
      exact Exec.kmove rfl rfl h54
    · -- 4: slot 56 := Op.load 61 t11
      refine StepOK.guarded (kn_stable _) 3 false 55 rfl rfl (fun ρ w _ _ hf => (hf 55).1 rfl) fun ρ w hρ hw hf => ?_
      have h11 : ρ (.tmp 11) = (.pointer (some ⟨g7, 0, none⟩)) := (hf 11).2 rfl rfl
      have hg := (hw.block g7 (Array.getElem?_eq_some_iff.1 G7.out).1 (fun f => f)).trans G7.out
      exact Exec.kloadrow rfl rfl h11 hg Try.underlying61 rfl (infoP _) rfl
    · -- 5: slot 57 := Op.call { value (Operand.func 36), args := #[t56], argTypes := #[61] }
      refine StepOK.guarded (kn_stable _) 3 false 55 rfl rfl (fun ρ w _ _ hf => (hf 55).1 rfl) fun ρ w hρ hw hf => ?_
      have h56 : ρ (.tmp 56) = (pv a) := (hf 56).1 rfl
      refine Exec.kcall #[pv a] hρ rfl rfl (by simp [hρ.const, h56]) Try.func36 (by rfl) rfl ?_
      refine (lawBack_any a w).mono ?_
      rintro e w' ⟨rfl, hx⟩
      exact ⟨_, rfl, rfl, hx⟩
    · -- 6: slot 58 := Op.load 54 t3
      refine StepOK.guarded (kn_stable _) 3 false 55 rfl rfl (fun ρ w _ _ hf => (hf 55).1 rfl) fun ρ w hρ hw hf => ?_
      have h3 : ρ (.tmp 3) = (.pointer (some ⟨g1, 0, none⟩)) := (hf 3).2 rfl rfl
      have hg := (hw.block g1 (Array.getElem?_eq_some_iff.1 GA.out).1 (fun f => f)).trans GA.out
      exact Exec.kloadrow rfl rfl h3 hg Try.underlying54 rfl (infoR _) rfl
    · -- 7: slot 59 := Op.binOp BinOp.neq 54 t57 t58 54
      refine StepOK.guarded (kn_stable _) 3 false 55 rfl rfl (fun ρ w _ _ hf => (hf 55).1 rfl) fun ρ w hρ hw hf => ?_
      have h57 : ρ (.tmp 57) = (rv a) := (hf 57).1 rfl
      have h58 : ρ (.tmp 58) = (rv a) := (hf 58).1 rfl
      exact Exec.krvne rfl rfl h57 h58 (by rw [decide_eq_true rfl]; exact rfl)
    · -- 8: slot 60 := Op.pick t55 (const (Value.bool true)) t59
      refine StepOK.plain (kn_stable _) rfl fun ρ w hρ hw hf => ?_
      have h55 : ρ (.tmp 55) = (.bool false) := (hf 55).1 rfl
      have h59 : ρ (.tmp 59) = (.bool false) := (hf 59).1 rfl
      exact Exec.kpickF rfl rfl h55 h59

  case fin =>
    intro ν w9 hfin hext
    have h0 : ν 60 = .bool false := hfin 8 60 rfl
    simp only [Exit.then, ended, List.foldl_cons, List.foldl_nil, List.setIfInBounds_toArray, List.set_cons_succ, List.set_cons_zero, h0]
    have HX9 := Lib.hid (HX8.out.trans hext)
    have GA9 : Hid (w9.heap[g1]? = some (.cells (rvals a) 54 (0, 0))) := Lib.hid (heap_of_ext hext GA.out)
    have HQ9 := Lib.hid (HQ8.out.ext hext)
    have ca0 : w9.cell? ⟨g1, 0, none⟩ = some (.int .u8 (a.ty : Nat)) := by rw [cell_of_row _ _ _ _ _ _ GA9.out]; rfl
    clear hext hfin h0
    have HTK2 := Lib.hid (fun w h => take_val q b V a.ty w h)
    have HINV := Lib.hid (fun h => vTake_inv (ver := V) (k := a.ty) (s := (b, 0)) HTY.out h)
    generalize (vTake V a.ty (b, 0)).1 = y at *
    generalize (vTake V a.ty (b, 0)).2 = sy at *
    unfold RPtr at *
    go_wp2_with (go_at_call 34; refine (HTK2.out _ HQ9.out).mono ?_)
    rintro e w10 ⟨rfl, hx, hi⟩
    have HX10 : Hid (Ext w w10) := Lib.hid (HX9.out.transOnly hx (by have := HQS.out; omega))
    have HPY : Hid (pv y = .agg (pvals y)) := Lib.hid rfl
    rw [HPY.out]
    have hg12 := heap_alloc_new w10 (.cells #[.int .u8 0, .int .i64 0, .complex .f64 0 0, .string ⟨#[]⟩] 61)
    have HG12 := Lib.hid hg12
    obtain ⟨W11, hW11⟩ : ∃ W11, W11 = (w10.alloc (.cells #[.int .u8 0, .int .i64 0, .complex .f64 0 0, .string ⟨#[]⟩] 61)).setRow w10.heap.size (pvals y) := ⟨_, rfl⟩
    have hx11 : Ext w10 W11 := by rw [hW11]; exact ((Ch.refl _ _).alloc _).setRow (.inr (Nat.le_refl _)) _
    have hg11 : W11.heap[w10.heap.size]? = some (.cells (pvals y) 61 (0, 0)) := by rw [hW11]; exact setRow_heap _ _ _ _ _ _ hg12
    have G11 := Lib.hid hg11
    have HX11 := Lib.hid (HX10.out.trans hx11)
    have HEN2 := Lib.hid (end_w q sy W11 (hi.ext hx11))
    have HW11 := Lib.hid hW11
    unfold RPtr at HEN2
    clear hx hi hg12 hW11 hx11 hg11 ca0
    have HBY := Lib.hid (HB0.out.ext HX11.out)
    by_cases he : endR sy = 0
    · obtain ⟨z1, z2⟩ := endR_zero he
      have hinv := HINV.out z2
      rw [z1, List.append_nil] at hinv
      obtain ⟨_, hby, _, hyt, hyo, hye⟩ := hinv
      have hby : b = vBytes V y := hby
      rw [he] at HEN2
      have hpe : putE V y = 0 := by unfold putE; rw [if_neg (by have := HVER.out; omega)]; exact hye
      have hpy : ∀ w, Calls Try.prog 31 #[.slice none 0 0, .agg (pvals y), .int .u8 (V : Nat)] w fun e w' => ∃ s, e = .returned (.tuple #[s, .int .i64 0]) ∧ Ext w w' ∧ Rd w' s b := fun w => (put_any (.slice none 0 0) [] V y w (rd_nil w) (by simp) hyo).mono fun e w' h => by
        obtain ⟨s, h1, h2, h3⟩ := h
        rw [hpe] at h1 h3
        rw [if_pos rfl, List.nil_append, ← hby] at h3
        exact ⟨s, h1, h2, h3⟩
      have hri : ∀ w, Calls Try.prog 26 #[.agg #[.int .u8 (y.ty : Nat), .int .i64 y.i, .complex .f64 y.re y.im, .string ⟨y.t.toArray⟩]] w fun e w' => e = .returned (.int .i64 0) ∧ Ext w w' := fun w => by
        have := vright_any y w
        rw [hye] at this
        exact this
      have HPY2 := Lib.hid hpy; have HRI := Lib.hid hri
      clear z1 z2 hby hyt hyo hye hpe hpy hri he HINV
      go_wp2_with (first
        | (refine wpList_store_rowTo rfl _ _ _ rfl rfl w10.heap.size (pvals y) rfl rfl _ _ HG12.out (infoP _) rfl (HPO.out _) ?_; rw [← HW11.out])
        | (go_at_call 40; refine HEN2.out.mono ?_; rintro e w' ⟨rfl, rfl⟩)
        | (refine wpList_load_row rfl _ _ rfl w10.heap.size rfl _ _ _ _ G11.out Try.underlying61 rfl (infoP _) ?_)
        | (go_at_call 31; refine (HPY2.out _).mono ?_))
      rintro e w12 ⟨s2, rfl, hx, hr⟩
      have HX12 := Lib.hid (HX11.out.trans hx)
      have hs1 := run_toString (P := Try.prog) hr (src := 22) (dst := 9) Try.underlying22 Try.underlying5 Try.underlying9
      have hs2 := run_toString (P := Try.prog) (HBY.out.ext hx) (src := 22) (dst := 9) Try.underlying22 Try.underlying5 Try.underlying9
      have hg13 := heap_of_ext hx G11.out
      have d0 : w12.cell? ⟨w10.heap.size, 0, none⟩ = some (.int .u8 (y.ty : Nat)) := by rw [cell_of_row _ _ _ _ _ _ hg13]; rfl
      have d1 : w12.cell? ⟨w10.heap.size, 1, none⟩ = some (.int .i64 y.i) := by rw [cell_of_row _ _ _ _ _ _ hg13]; rfl
      have d2 : w12.cell? ⟨w10.heap.size, 2, none⟩ = some (.complex .f64 y.re y.im) := by rw [cell_of_row _ _ _ _ _ _ hg13]; rfl
      have d3 : w12.cell? ⟨w10.heap.size, 3, none⟩ = some (.string ⟨y.t.toArray⟩) := by rw [cell_of_row _ _ _ _ _ _ hg13]; rfl
      obtain ⟨a2, c2, rfl⟩ := hr.shape
      try rw [HNB.out] at hs2
      unfold strV at hs1 hs2
      generalize (⟨b.toArray⟩ : ByteArray) = BS at *
      generalize hnb2 : b.length = nb2 at *
      clear hx hr hg13 hnb2
      go_wp2_with (go_at_call 26; refine (HRI.out _).mono ?_)
      rintro e w13 ⟨rfl, hx⟩
      have HX13 := Lib.hid (HX12.out.trans hx)
      clear hx
      go_wp2_with (go_at_call 30; refine (awake6_any _).mono ?_)
      rintro e w14 ⟨rfl, hx⟩
      have HX14 := Lib.hid (HX13.out.trans hx)
      clear hx
      go_wp2
      go_ret
      exact ⟨rfl, HX14.out⟩
    · have hne : (endR sy != 0) = true := by simpa using he
      clear he HINV
      generalize endR sy = es at *
      go_wp2_with (first
        | (refine wpList_store_rowTo rfl _ _ _ rfl rfl w10.heap.size (pvals y) rfl rfl _ _ HG12.out (infoP _) rfl (HPO.out _) ?_; rw [← HW11.out])
        | (go_at_call 40; refine HEN2.out.mono ?_; rintro e w' ⟨rfl, rfl⟩)
        | (go_at_call 30; refine (awake6_any _).mono ?_))
      rintro e w14 ⟨rfl, hx⟩
      have HX14 := Lib.hid (HX11.out.trans hx)
      clear hx
      go_wp2
      go_ret
      exact ⟨rfl, HX14.out⟩

end Go.Proofs.Ytoggnmfjkbnopaa
