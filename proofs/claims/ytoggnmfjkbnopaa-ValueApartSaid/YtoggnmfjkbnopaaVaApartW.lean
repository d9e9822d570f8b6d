/-
  ValueApart: the walk.
-/
import Derived.Test.YtoggnmfjkbnopaaValO
import Derived.Test.YtoggnmfjkbnopaaValF
import Derived.Test.YtoggnmfjkbnopaaValG
import Derived.Test.YtoggnmfjkbnopaaValH
import Derived.Test.YtoggnmfjkbnopaaAwake6
namespace Go.Proofs.Ytoggnmfjkbnopaa
open Go.RowKit Go.Lac

def apartVT (a b : Val) (xa xb : List UInt8) (z : Bool) : Tmp → Kn
  | 6 => .is (.bool true)
  | 55 => .is (.int .i64 0)
  | 56 => .is (.bool true)
  | 57 => .is (.bool true)
  | 58 => .is (.int .i64 0)
  | 59 => .is (.bool true)
  | 60 => .is (.bool true)
  | 61 => .is (.bool true)
  | 62 => .rd xa
  | 63 => .is (strV xa)
  | 64 => .rd xb
  | 65 => .is (strV xb)
  | 66 => .is (.bool z)
  | 67 => .is (rv a)
  | 68 => .is (rv b)
  | 69 => .is (.bool z)
  | 70 => .is (.bool true)
  | 71 => .is (.bool true)
  | 72 => .is (.bool true)
  | 73 => .is (.bool true)
  | 74 => .is (.bool true)
  | _ => .any

set_option maxRecDepth 20000 in
set_option maxHeartbeats 4000000 in
theorem valueApart_walk (a b : Val) (ver : Nat) (w : World) (ha : a.ok) (hb : b.ok) (hv : ver < 256) :
    Calls Try.prog 12 #[rv a, rv b, .int .u8 (ver : Nat)] w fun e w' => e = .returned (.bool true) ∧ Ext w w' := by
  have hmod : (ver : Int).tmod 2 = ((ver % 2 : Nat) : Int) := by
    rw [Int.tmod_eq_emod_of_nonneg (by omega)]
    simp
  have hadd : IntKind.u8.wrap (1 + ((ver % 2 : Nat) : Int)) = ((1 + ver % 2 : Nat) : Int) := by rw [IntKind.wrap_u8]; omega
  have HRA := Lib.hid (rright_any a); have HRB := Lib.hid (rright_any b)
  have HOA := Lib.hid (lawOwn_any a); have HOB := Lib.hid (lawOwn_any b)
  have hver : 1 + ver % 2 = 1 ∨ 1 + ver % 2 = 2 := by omega
  have HVER := Lib.hid hver
  have hmod2 : (ver : Int) % 2 = ((ver % 2 : Nat) : Int) := by simp
  clear hver hv
  obtain ⟨V, hV⟩ : ∃ V, V = 1 + ver % 2 := ⟨_, rfl⟩
  have hadd2 : (1 + ((ver % 2 : Nat) : Int)) = ((V : Nat) : Int) := by rw [hV]; simp
  rw [← hV] at HVER hadd
  clear hV
  generalize ver % 2 = v2 at *
  have HPA := Lib.hid (fun w => put_any (.slice none 0 0) [] V a w (rd_nil w) (by simp) ha)
  have HPB := Lib.hid (fun w => put_any (.slice none 0 0) [] V b w (rd_nil w) (by simp) hb)
  have HINJ := Lib.hid (fun h h' ht he => vBytes_inj (ver := V) (v := a) (u := b) HVER.out ha hb h h' ht he)
  obtain ⟨W1, hW1⟩ : ∃ W1, W1 = (w.alloc (.cells (rvals a) 54)).alloc (.cells (rvals b) 54) := ⟨_, rfl⟩
  have hga : W1.heap[w.heap.size]? = some (.cells (rvals a) 54 (0, 0)) := by rw [hW1]; exact heap_alloc2_old _ _ _
  have hgb : W1.heap[w.heap.size + 1]? = some (.cells (rvals b) 54 (0, 0)) := by rw [hW1]; exact heap_alloc2_new _ _ _
  have hx1 : Ext w W1 := by rw [hW1]; exact ((Ch.refl _ _).alloc _).alloc _
  have HGA := Lib.hid hga; have HGB := Lib.hid hgb; have HX1 := Lib.hid hx1; have HW1 := Lib.hid hW1
  have hsa : (⟨a.t.toArray⟩ : ByteArray).size = a.t.length := by simp [ByteArray.size]
  have hsb : (⟨b.t.toArray⟩ : ByteArray).size = b.t.length := by simp [ByteArray.size]
  have hia : rv a = .agg (rvals a) := rfl
  have hib : rv b = .agg (rvals b) := rfl
  by_cases ea : vErr a = 0
  case neg =>
    have hne : (((vErr a : Nat) : Int) != 0) = true := by simp; omega
    generalize vErr a = e0 at *
    clear hga hgb hx1 hW1 hsa hsb ea
    rw [hia, hib] at *
    go_enter Try.func12, Try.ntmps12
    go_wp2_with (first
      | (refine wpList_load_row rfl _ _ rfl w.heap.size rfl _ _ _ _ (show ((w.alloc (.cells (rvals a) 54)).alloc (.cells (rvals b) 54)).heap[w.heap.size]? = _ by rw [← HW1.out]; exact HGA.out) Try.underlying54 rfl (infoR _) ?_)
      | (go_at_call 28; refine (HRA.out _).mono ?_))
    rintro e w2 ⟨rfl, hx⟩
    rw [← HW1.out] at hx
    have HX2 := Lib.hid (HX1.out.trans hx)
    clear hx
    go_wp2
    go_ret
    exact ⟨rfl, HX2.out⟩

  rw [ea] at HRA
  by_cases eb : vErr b = 0
  case neg =>
    have hne : (((vErr b : Nat) : Int) != 0) = true := by simp; omega
    generalize vErr b = e0 at *
    clear hga hgb hx1 hW1 hsa hsb ea eb
    rw [hia, hib] at *
    go_enter Try.func12, Try.ntmps12
    go_wp2_with (first
      | (refine wpList_load_row rfl _ _ rfl w.heap.size rfl _ _ _ _ (show ((w.alloc (.cells (rvals a) 54)).alloc (.cells (rvals b) 54)).heap[w.heap.size]? = _ by rw [← HW1.out]; exact HGA.out) Try.underlying54 rfl (infoR _) ?_)
      | (go_at_call 28; refine (HRA.out _).mono ?_))
    rintro e w2 ⟨rfl, hx⟩
    rw [← HW1.out] at hx
    have GA2 : Hid (w2.heap[w.heap.size]? = some (.cells (rvals a) 54 (0, 0))) := Lib.hid ((hx.block _ (Array.getElem?_eq_some_iff.1 HGA.out).1 (fun f => f)).trans HGA.out)
    have GB2 : Hid (w2.heap[w.heap.size + 1]? = some (.cells (rvals b) 54 (0, 0))) := Lib.hid ((hx.block _ (Array.getElem?_eq_some_iff.1 HGB.out).1 (fun f => f)).trans HGB.out)
    have HX2 := Lib.hid (HX1.out.trans hx)
    clear hx
    have db0 : w2.cell? ⟨(w.heap.size + 1), 0, none⟩ = some (.int .u8 (b.ty : Nat)) := by rw [cell_of_row _ _ _ _ _ _ GB2.out]; rfl
    have db1 : w2.cell? ⟨(w.heap.size + 1), 1, none⟩ = some (.int .i64 b.i) := by rw [cell_of_row _ _ _ _ _ _ GB2.out]; rfl
    have db2 : w2.cell? ⟨(w.heap.size + 1), 2, none⟩ = some (.int .u64 (b.re : Nat)) := by rw [cell_of_row _ _ _ _ _ _ GB2.out]; rfl
    have db3 : w2.cell? ⟨(w.heap.size + 1), 3, none⟩ = some (.int .u64 (b.im : Nat)) := by rw [cell_of_row _ _ _ _ _ _ GB2.out]; rfl
    have db4 : w2.cell? ⟨(w.heap.size + 1), 4, none⟩ = some (.string ⟨b.t.toArray⟩) := by rw [cell_of_row _ _ _ _ _ _ GB2.out]; rfl
    have HRBX : Hid (∀ w, Calls Try.prog 28 #[.agg #[.int .u8 (b.ty : Nat), .int .i64 b.i, .int .u64 (b.re : Nat), .int .u64 (b.im : Nat), .string ⟨b.t.toArray⟩]] w _) := HRB
    go_wp2_with (go_at_call 28; refine (HRBX.out _).mono ?_)
    clear db0 db1 db2 db3 db4
    rintro e w3 ⟨rfl, hx⟩
    have HX3 := Lib.hid (HX2.out.trans hx)
    clear hx
    go_wp2
    go_ret
    exact ⟨rfl, HX3.out⟩

  rw [eb] at HRB
  have HEA := Lib.hid ea; have HEB := Lib.hid eb
  rw [hia, hib] at *
  clear hga hgb hx1 hW1 ea eb
  obtain ⟨AS, hAS⟩ : ∃ AS, AS = (⟨a.t.toArray⟩ : ByteArray) := ⟨_, rfl⟩
  obtain ⟨BS, hBS⟩ : ∃ BS, BS = (⟨b.t.toArray⟩ : ByteArray) := ⟨_, rfl⟩
  rw [← hAS] at hsa
  rw [← hBS] at hsb
  go_enter Try.func12, Try.ntmps12
  go_wp2_with (first
    | (refine wpList_load_row rfl _ _ rfl w.heap.size rfl _ _ _ _ (show ((w.alloc (.cells (rvals a) 54)).alloc (.cells (rvals b) 54)).heap[w.heap.size]? = _ by rw [← HW1.out]; exact HGA.out) Try.underlying54 rfl (infoR _) ?_)
    | (go_at_call 28; refine (HRA.out _).mono ?_))
  rintro e w2 ⟨rfl, hx⟩
  rw [← HW1.out] at hx
  have GA2 : Hid (w2.heap[w.heap.size]? = some (.cells (rvals a) 54 (0, 0))) := Lib.hid ((hx.block _ (Array.getElem?_eq_some_iff.1 HGA.out).1 (fun f => f)).trans HGA.out)
  have GB2 : Hid (w2.heap[w.heap.size + 1]? = some (.cells (rvals b) 54 (0, 0))) := Lib.hid ((hx.block _ (Array.getElem?_eq_some_iff.1 HGB.out).1 (fun f => f)).trans HGB.out)
  have HX2 := Lib.hid (HX1.out.trans hx)
  clear hx
  have db0 : w2.cell? ⟨(w.heap.size + 1), 0, none⟩ = some (.int .u8 (b.ty : Nat)) := by rw [cell_of_row _ _ _ _ _ _ GB2.out]; rfl
  have db1 : w2.cell? ⟨(w.heap.size + 1), 1, none⟩ = some (.int .i64 b.i) := by rw [cell_of_row _ _ _ _ _ _ GB2.out]; rfl
  have db2 : w2.cell? ⟨(w.heap.size + 1), 2, none⟩ = some (.int .u64 (b.re : Nat)) := by rw [cell_of_row _ _ _ _ _ _ GB2.out]; rfl
  have db3 : w2.cell? ⟨(w.heap.size + 1), 3, none⟩ = some (.int .u64 (b.im : Nat)) := by rw [cell_of_row _ _ _ _ _ _ GB2.out]; rfl
  have db4 : w2.cell? ⟨(w.heap.size + 1), 4, none⟩ = some (.string ⟨b.t.toArray⟩) := by rw [cell_of_row _ _ _ _ _ _ GB2.out]; rfl
  have HRBX : Hid (∀ w, Calls Try.prog 28 #[.agg #[.int .u8 (b.ty : Nat), .int .i64 b.i, .int .u64 (b.re : Nat), .int .u64 (b.im : Nat), .string ⟨b.t.toArray⟩]] w _) := HRB
  go_wp2_with (go_at_call 28; refine (HRBX.out _).mono ?_)
  clear db0 db1 db2 db3 db4
  rintro e w3 ⟨rfl, hx⟩
  have GA3 : Hid (w3.heap[w.heap.size]? = some (.cells (rvals a) 54 (0, 0))) := Lib.hid ((hx.block _ (Array.getElem?_eq_some_iff.1 GA2.out).1 (fun f => f)).trans GA2.out)
  have GB3 : Hid (w3.heap[w.heap.size + 1]? = some (.cells (rvals b) 54 (0, 0))) := Lib.hid ((hx.block _ (Array.getElem?_eq_some_iff.1 GB2.out).1 (fun f => f)).trans GB2.out)
  have HX3 := Lib.hid (HX2.out.trans hx)
  clear hx
  have ca0 : w3.cell? ⟨w.heap.size, 0, none⟩ = some (.int .u8 (a.ty : Nat)) := by rw [cell_of_row _ _ _ _ _ _ GA3.out]; rfl
  have ca4 : w3.cell? ⟨w.heap.size, 4, none⟩ = some (.string AS) := by rw [cell_of_row _ _ _ _ _ _ GA3.out, hAS]; rfl
  have cb0 : w3.cell? ⟨w.heap.size + 1, 0, none⟩ = some (.int .u8 (b.ty : Nat)) := by rw [cell_of_row _ _ _ _ _ _ GB3.out]; rfl
  have cb4 : w3.cell? ⟨w.heap.size + 1, 4, none⟩ = some (.string BS) := by rw [cell_of_row _ _ _ _ _ _ GB3.out, hBS]; rfl
  clear hAS hBS
  by_cases hty : a.ty = b.ty
  case neg =>
    have hne : (((a.ty : Nat) : Int) != (b.ty : Nat)) = true := by simp; omega
    go_wp2
    go_ret
    exact ⟨rfl, HX3.out⟩
  have HTY := Lib.hid hty
  rw [← hty] at cb0
  clear hty
  by_cases hla : 300 < a.t.length
  · go_wp2
    go_ret
    exact ⟨rfl, HX3.out⟩
  by_cases hlb : 300 < b.t.length
  · go_wp2
    go_ret
    exact ⟨rfl, HX3.out⟩
  have HLA := Lib.hid hla; have HLB := Lib.hid hlb
  have hla' : a.t.length ≤ 300 := by omega
  have hlb' : b.t.length ≤ 300 := by omega
  clear hla hlb
  go_wp2_with (first
    | (refine wpList_load_row rfl _ _ rfl w.heap.size rfl _ _ _ _ GA3.out Try.underlying54 rfl (infoR _) ?_)
    | (go_at_call 27; refine (HOA.out _).mono ?_))
  rintro e w4 ⟨rfl, hx⟩
  have GA4 : Hid (w4.heap[w.heap.size]? = some (.cells (rvals a) 54 (0, 0))) := Lib.hid ((hx.block _ (Array.getElem?_eq_some_iff.1 GA3.out).1 (fun f => f)).trans GA3.out)
  have GB4 : Hid (w4.heap[w.heap.size + 1]? = some (.cells (rvals b) 54 (0, 0))) := Lib.hid ((hx.block _ (Array.getElem?_eq_some_iff.1 GB3.out).1 (fun f => f)).trans GB3.out)
  have HX4 := Lib.hid (HX3.out.trans hx)
  clear hx ca0 ca4 cb0 cb4 hla' hlb' hsa hsb
  have hp0 : putE V a = 0 := by unfold putE; rw [if_neg (by have := HVER.out; omega)]; exact HEA.out
  have hp0' : putE V b = 0 := by unfold putE; rw [if_neg (by have := HVER.out; omega)]; exact HEB.out
  have hpa : ∀ w, Calls Try.prog 31 #[.slice none 0 0, pv a, .int .u8 (V : Nat)] w fun e w' => ∃ s, e = .returned (.tuple #[s, .int .i64 0]) ∧ Ext w w' ∧ Rd w' s (vBytes V a) := fun w => (HPA.out w).mono fun e w' h => by
    obtain ⟨s, h1, h2, h3⟩ := h
    rw [hp0] at h1 h3
    rw [if_pos rfl] at h3
    exact ⟨s, h1, h2, h3⟩
  have hpb : ∀ w, Calls Try.prog 31 #[.slice none 0 0, pv b, .int .u8 (V : Nat)] w fun e w' => ∃ s, e = .returned (.tuple #[s, .int .i64 0]) ∧ Ext w w' ∧ Rd w' s (vBytes V b) := fun w => (HPB.out w).mono fun e w' h => by
    obtain ⟨s, h1, h2, h3⟩ := h
    rw [hp0'] at h1 h3
    rw [if_pos rfl] at h3
    exact ⟨s, h1, h2, h3⟩
  have HPA2 := Lib.hid hpa; have HPB2 := Lib.hid hpb
  clear hp0 hp0' hpa hpb HPA HPB HRA HRB
  obtain ⟨z, hz⟩ : ∃ z, z = decide (a = b) := ⟨_, rfl⟩
  have HZ2 : Hid (decide (a = b) = z) := Lib.hid hz.symm
  have HZ1 : Hid (decide (vBytes V a = vBytes V b) = z) := Lib.hid (by
    rw [hz, Bool.eq_iff_iff]
    simp only [decide_eq_true_eq]
    exact ⟨fun h => HINJ.out HEA.out HEB.out HTY.out h, fun h => by rw [h]⟩)
  clear hz HINJ
  generalize vBytes V a = xa at *
  generalize vBytes V b = xb at *
  go_wp2_with fail
  refine (HPA2.out _).mono ?_
  rintro e w5 ⟨s1, rfl, hx, hr⟩
  have GA5 : Hid (w5.heap[w.heap.size]? = some (.cells (rvals a) 54 (0, 0))) := Lib.hid ((hx.block _ (Array.getElem?_eq_some_iff.1 GA4.out).1 (fun f => f)).trans GA4.out)
  have GB5 : Hid (w5.heap[w.heap.size + 1]? = some (.cells (rvals b) 54 (0, 0))) := Lib.hid ((hx.block _ (Array.getElem?_eq_some_iff.1 GB4.out).1 (fun f => f)).trans GB4.out)
  have HX5 := Lib.hid (HX4.out.trans hx); have HRA1 := Lib.hid hr
  obtain ⟨a1, c1, rfl⟩ := hr.shape
  clear hx hr
  go_wp2_with (first
    | (refine wpList_load_row rfl _ _ rfl (w.heap.size + 1) rfl _ _ _ _ GB5.out Try.underlying54 rfl (infoR _) ?_)
    | (go_at_call 27; refine (HOB.out _).mono ?_))
  rintro e w6 ⟨rfl, hx⟩
  have GA6 : Hid (w6.heap[w.heap.size]? = some (.cells (rvals a) 54 (0, 0))) := Lib.hid ((hx.block _ (Array.getElem?_eq_some_iff.1 GA5.out).1 (fun f => f)).trans GA5.out)
  have GB6 : Hid (w6.heap[w.heap.size + 1]? = some (.cells (rvals b) 54 (0, 0))) := Lib.hid ((hx.block _ (Array.getElem?_eq_some_iff.1 GB5.out).1 (fun f => f)).trans GB5.out)
  have HX6 := Lib.hid (HX5.out.trans hx); have HRA2 := Lib.hid (HRA1.out.ext hx)
  clear hx
  go_wp2_with fail
  refine (HPB2.out _).mono ?_
  rintro e w7 ⟨s2, rfl, hx, hr⟩
  have GA7 : Hid (w7.heap[w.heap.size]? = some (.cells (rvals a) 54 (0, 0))) := Lib.hid ((hx.block _ (Array.getElem?_eq_some_iff.1 GA6.out).1 (fun f => f)).trans GA6.out)
  have GB7 : Hid (w7.heap[w.heap.size + 1]? = some (.cells (rvals b) 54 (0, 0))) := Lib.hid ((hx.block _ (Array.getElem?_eq_some_iff.1 GB6.out).1 (fun f => f)).trans GB6.out)
  have HX7 := Lib.hid (HX6.out.trans hx); have HRA := Lib.hid (HRA2.out.ext hx); have HRB := Lib.hid hr
  obtain ⟨a2, c2, rfl⟩ := hr.shape
  clear hx hr
  generalize hn1 : xa.length = n1 at *
  generalize hn2 : xb.length = n2 at *
  clear hn1 hn2
  go_wp2
  generalize hg1 : w.heap.size = g1 at *
  clear hg1
  refine wp_region_ext (apartVT a b xa xb z) mixedV (by rfl) (by rfl) ?all ?fin
  case all =>
    refine ⟨?_, ?_, ?_, ?_, ?_, ?_, ?_, ?_, ?_, ?_, ?_, ?_, ?_, ?_, ?_, ?_, ?_, ?_, ?_, ?_, ?_, trivial⟩
    · -- 0: slot 55 := Op.move t8
      refine StepOK.plain (kn_stable _) rfl fun ρ w hρ hw hf => ?_
      have h8 : ρ (.tmp 8) = (.int .i64 0) := (hf 8).2 rfl rfl
      exact Exec.kmove rfl rfl h8
    · -- 1: slot 56 := Op.binOp BinOp.eql 28 t55 (const (0:i64)) 28
      refine StepOK.plain (kn_stable _) rfl fun ρ w hρ hw hf => ?_
      have h55 : ρ (.tmp 55) = (.int .i64 0) := (hf 55).1 rfl
      exact Exec.same (v := .bool true) rfl (by simp [go_sem, hρ.const, h55]) rfl
    · -- 2: slot 57 := Op.move t56
      refine StepOK.plain (kn_stable _) rfl fun ρ w hρ hw hf => ?_
      have h56 : ρ (.tmp 56) = (.bool true) := (hf 56).1 rfl
      exact Exec.kmove rfl rfl h56
    · -- 3: slot 58 := Op.move t10
      refine StepOK.guarded (kn_stable _) 2 true 57 rfl rfl (fun ρ w _ _ hf => (hf 57).1 rfl) fun ρ w hρ hw hf => ?_
      have h10 : ρ (.tmp 10) = (.int .i64 0) := (hf 10).2 rfl rfl
      exact Exec.kmove rfl rfl h10
    · -- 4: slot 59 := Op.binOp BinOp.eql 28 t58 (const (0:i64)) 28
      refine StepOK.guarded (kn_stable _) 2 true 57 rfl rfl (fun ρ w _ _ hf => (hf 57).1 rfl) fun ρ w hρ hw hf => ?_
      have h58 : ρ (.tmp 58) = (.int .i64 0) := (hf 58).1 rfl
      exact Exec.same (v := .bool true) rfl (by simp [go_sem, hρ.const, h58]) rfl
    · -- 5: slot 60 := Op.pick t57 t59 (const (Value.bool false))
      refine StepOK.plain (kn_stable _) rfl fun ρ w hρ hw hf => ?_
      have h57 : ρ (.tmp 57) = (.bool true) := (hf 57).1 rfl
      have h59 : ρ (.tmp 59) = (.bool true) := (hf 59).1 rfl
      exact Exec.kpickT rfl rfl h57 h59
    · -- 6: slot 61 := Op.move t60
      refine StepOK.plain (kn_stable _) rfl fun ρ w hρ hw hf => ?_
      have h60 : ρ (.tmp 60) = (.bool true) := (hf 60).1 rfl
      exact Exec.kmove rfl rfl h60
    · -- 7: slot 62 := Op.move t7
      refine StepOK.guarded (kn_stable _) 6 true 61 rfl rfl (fun ρ w _ _ hf => (hf 61).1 rfl) fun ρ w hρ hw hf => ?_
      have h7 : ρ (.tmp 7) = (.slice a1 n1 c1) := (hf 7).2 rfl rfl
      exact Exec.kmove rfl rfl (by rw [h7]; exact HRA.out.ext hw)
    · -- 8: slot 63 := Op.convert 22 9 t62
      refine StepOK.guarded (kn_stable _) 6 true 61 rfl rfl (fun ρ w _ _ hf => (hf 61).1 rfl) fun ρ w hρ hw hf => ?_
      have h62 : Rd w (ρ (.tmp 62)) (xa) := (hf 62).1 rfl
      exact Exec.kstr rfl rfl Try.underlying22 Try.underlying5 Try.underlying9 h62 rfl
    · -- 9: slot 64 := Op.move t9
      refine StepOK.guarded (kn_stable _) 6 true 61 rfl rfl (fun ρ w _ _ hf => (hf 61).1 rfl) fun ρ w hρ hw hf => ?_
      have h9 : ρ (.tmp 9) = (.slice a2 n2 c2) := (hf 9).2 rfl rfl
      exact Exec.kmove rfl rfl (by rw [h9]; exact HRB.out.ext hw)
    · -- 10: slot 65 := Op.convert 22 9 t64
      refine StepOK.guarded (kn_stable _) 6 true 61 rfl rfl (fun ρ w _ _ hf => (hf 61).1 rfl) fun ρ w hρ hw hf => ?_
      have h64 : Rd w (ρ (.tmp 64)) (xb) := (hf 64).1 rfl
      exact Exec.kstr rfl rfl Try.underlying22 Try.underlying5 Try.underlying9 h64 rfl
    · -- 11: slot 66 := Op.binOp BinOp.eql 9 t63 t65 9
      refine StepOK.guarded (kn_stable _) 6 true 61 rfl rfl (fun ρ w _ _ hf => (hf 61).1 rfl) fun ρ w hρ hw hf => ?_
      have h63 : ρ (.tmp 63) = (strV xa) := (hf 63).1 rfl
      have h65 : ρ (.tmp 65) = (strV xb) := (hf 65).1 rfl
      exact Exec.kstreq rfl rfl Try.underlying9 h63 h65 (by rw [HZ1.out]; exact rfl)
    · -- 12: slot 67 := Op.load 54 t3
      refine StepOK.guarded (kn_stable _) 6 true 61 rfl rfl (fun ρ w _ _ hf => (hf 61).1 rfl) fun ρ w hρ hw hf => ?_
      have h3 : ρ (.tmp 3) = (.pointer (some ⟨g1, 0, none⟩)) := (hf 3).2 rfl rfl
      have hg := (hw.block g1 (Array.getElem?_eq_some_iff.1 GA7.out).1 (fun f => f)).trans GA7.out
      exact Exec.kloadrow rfl rfl h3 hg Try.underlying54 rfl (infoR _) rfl
    · -- 13: slot 68 := Op.load 54 t4
      refine StepOK.guarded (kn_stable _) 6 true 61 rfl rfl (fun ρ w _ _ hf => (hf 61).1 rfl) fun ρ w hρ hw hf => ?_
      have h4 : ρ (.tmp 4) = (.pointer (some ⟨g1 + 1, 0, none⟩)) := (hf 4).2 rfl rfl
      have hg := (hw.block (g1 + 1) (Array.getElem?_eq_some_iff.1 GB7.out).1 (fun f => f)).trans GB7.out
      exact Exec.kloadrow rfl rfl h4 hg Try.underlying54 rfl (infoR _) rfl
    · -- 14: slot 69 := Op.binOp BinOp.eql 54 t67 t68 54
      refine StepOK.guarded (kn_stable _) 6 true 61 rfl rfl (fun ρ w _ _ hf => (hf 61).1 rfl) fun ρ w hρ hw hf => ?_
      have h67 : ρ (.tmp 67) = (rv a) := (hf 67).1 rfl
      have h68 : ρ (.tmp 68) = (rv b) := (hf 68).1 rfl
      exact Exec.krveq rfl rfl h67 h68 (by rw [HZ2.out]; exact rfl)
    · -- 15: slot 70 := Op.binOp BinOp.eql 4 t66 t69 4
      refine StepOK.guarded (kn_stable _) 6 true 61 rfl rfl (fun ρ w _ _ hf => (hf 61).1 rfl) fun ρ w hρ hw hf => ?_
      have h66 : ρ (.tmp 66) = (.bool z) := (hf 66).1 rfl
      have h69 : ρ (.tmp 69) = (.bool z) := (hf 69).1 rfl
      exact Exec.same (v := .bool true) rfl (by cases z <;> simp [go_sem, hρ.const, h66, h69]) rfl
    · -- 16: slot 71 := Op.pick t61 t70 (const (Value.bool false))
      refine StepOK.plain (kn_stable _) rfl fun ρ w hρ hw hf => ?_
      have h61 : ρ (.tmp 61) = (.bool true) := (hf 61).1 rfl
      have h70 : ρ (.tmp 70) = (.bool true) := (hf 70).1 rfl
      exact Exec.kpickT rfl rfl h61 h70
    · -- 17: slot 72 := Op.move t71
      refine StepOK.plain (kn_stable _) rfl fun ρ w hρ hw hf => ?_
      have h71 : ρ (.tmp 71) = (.bool true) := (hf 71).1 rfl
      exact Exec.kmove rfl rfl h71
    · -- 18: slot 73 := Op.call { value (Operand.func 30), args := #[], argTypes := #[] }
      refine StepOK.guarded (kn_stable _) 17 true 72 rfl rfl (fun ρ w _ _ hf => (hf 72).1 rfl) fun ρ w hρ hw hf => ?_
      refine Exec.kcall #[] hρ rfl rfl (by simp) Try.func30 (by rfl) rfl ?_
      refine (awake6_any w).mono ?_
      rintro e w' ⟨rfl, hx⟩
      exact ⟨_, rfl, rfl, hx⟩
    · -- 19: slot 74 := Op.pick t72 t73 (const (Value.bool false))
      refine StepOK.plain (kn_stable _) rfl fun ρ w hρ hw hf => ?_
      have h72 : ρ (.tmp 72) = (.bool true) := (hf 72).1 rfl
      have h73 : ρ (.tmp 73) = (.bool true) := (hf 73).1 rfl
      exact Exec.kpickT rfl rfl h72 h73
    · -- 20: slot 6 := Op.assign t74
      refine StepOK.plain (kn_stable _) rfl fun ρ w hρ hw hf => ?_
      have h74 : ρ (.tmp 74) = (.bool true) := (hf 74).1 rfl
      exact Exec.kassign rfl rfl h74

  case fin =>
    intro ν w8 hfin hext
    have h0 : ν 6 = .bool true := hfin 20 6 rfl
    simp only [Exit.then, ended, List.foldl_cons, List.foldl_nil, List.setIfInBounds_toArray, List.set_cons_succ, List.set_cons_zero, h0]
    have HX8 := Lib.hid (HX7.out.trans hext); clear hext hfin h0
    go_wp2
    go_ret
    exact ⟨rfl, HX8.out⟩

end Go.Proofs.Ytoggnmfjkbnopaa
