/-
  ValueCut: the walk.
-/
import Derived.Test.YtoggnmfjkbnopaaValO
import Derived.Test.YtoggnmfjkbnopaaValF
import Derived.Test.YtoggnmfjkbnopaaValG
import Derived.Test.YtoggnmfjkbnopaaValH
import Derived.Test.YtoggnmfjkbnopaaAwake6
import Derived.Test.YtoggnmfjkbnopaaTakC
namespace Go.Proofs.Ytoggnmfjkbnopaa
open Go.RowKit Go.Lac


set_option maxRecDepth 20000 in
set_option maxHeartbeats 4000000 in
theorem valueCut_walk (a : Val) (ver cut : Nat) (w : World) (ha : a.ok) (hv : ver < 256) (hc : cut < 65536) :
    Calls Try.prog 11 #[rv a, .int .u8 (ver : Nat), .int .u16 (cut : Nat)] w fun e w' => e = .returned (.bool true) ∧ Ext w w' := by
  have hmod : (ver : Int).tmod 2 = ((ver % 2 : Nat) : Int) := by
    rw [Int.tmod_eq_emod_of_nonneg (by omega)]
    simp
  have hadd : IntKind.u8.wrap (1 + ((ver % 2 : Nat) : Int)) = ((1 + ver % 2 : Nat) : Int) := by rw [IntKind.wrap_u8]; omega
  have HRA : Hid (∀ w, Calls Try.prog 28 #[.agg (rvals a)] w fun e w' => e = .returned (.int .i64 (vErr a : Nat)) ∧ Ext w w') := Lib.hid (rright_any a)
  have HOA : Hid (∀ w, Calls Try.prog 27 #[.agg (rvals a)] w (PvPost a w)) := Lib.hid (lawOwn_any a)
  have hver : 1 + ver % 2 = 1 ∨ 1 + ver % 2 = 2 := by omega
  have HVER := Lib.hid hver
  have hmod2 : (ver : Int) % 2 = ((ver % 2 : Nat) : Int) := by simp
  clear hver hv
  obtain ⟨V, hV⟩ : ∃ V, V = 1 + ver % 2 := ⟨_, rfl⟩
  have hadd2 : (1 + ((ver % 2 : Nat) : Int)) = ((V : Nat) : Int) := by rw [hV]; simp
  rw [← hV] at HVER hadd
  clear hV
  generalize ver % 2 = v2 at *
  have HAOK := Lib.hid ha
  obtain ⟨W1, hW1⟩ : ∃ W1, W1 = w.alloc (.cells (rvals a) 54) := ⟨_, rfl⟩
  have hx1 : Ext w W1 := by rw [hW1]; exact (Ch.refl _ _).alloc _
  have hga : W1.heap[w.heap.size]? = some (.cells (rvals a) 54 (0, 0)) := by rw [hW1]; exact heap_alloc_new _ _
  have HGA := Lib.hid hga; have HX1 := Lib.hid hx1; have HW1 := Lib.hid hW1
  have hsa : (⟨a.t.toArray⟩ : ByteArray).size = a.t.length := by simp [ByteArray.size]
  obtain ⟨AS, hAS⟩ : ∃ AS, AS = (⟨a.t.toArray⟩ : ByteArray) := ⟨_, rfl⟩
  rw [← hAS] at hsa
  have HAS := Lib.hid hAS
  have hia : rv a = .agg (rvals a) := rfl
  rw [hia]
  clear hia hga hx1 hW1 hAS ha
  have HG1 : Hid ((w.alloc (.cells (rvals a) 54)).heap[w.heap.size]? = some (.cells (rvals a) 54 (0, 0))) := Lib.hid (heap_alloc_new _ _)
  by_cases ea : vErr a = 0
  case neg =>
    have hne : (((vErr a : Nat) : Int) != 0) = true := by simp; omega
    generalize vErr a = e0 at *
    clear ea
    go_enter Try.func11, Try.ntmps11
    go_wp2_with (first
      | (refine wpList_load_row rfl _ _ rfl w.heap.size rfl _ _ _ _ HG1.out Try.underlying54 rfl (infoR _) ?_)
      | (go_at_call 28; refine (HRA.out _).mono ?_))
    rintro e w2 ⟨rfl, hx⟩
    rw [← HW1.out] at hx
    have HX2 := Lib.hid (HX1.out.trans hx)
    clear hx
    go_wp2
    go_ret
    exact ⟨rfl, HX2.out⟩
  rw [ea] at HRA
  have HEA := Lib.hid ea
  clear ea
  go_enter Try.func11, Try.ntmps11
  go_wp2_with (first
    | (refine wpList_load_row rfl _ _ rfl w.heap.size rfl _ _ _ _ HG1.out Try.underlying54 rfl (infoR _) ?_)
    | (go_at_call 28; refine (HRA.out _).mono ?_))
  rintro e w2 ⟨rfl, hx⟩
  rw [← HW1.out] at hx
  have GA2 : Hid (w2.heap[w.heap.size]? = some (.cells (rvals a) 54 (0, 0))) := Lib.hid (heap_of_ext hx HGA.out)
  have HX2 := Lib.hid (HX1.out.trans hx)
  clear hx
  have ca4 : w2.cell? ⟨w.heap.size, 4, none⟩ = some (.string AS) := by rw [cell_of_row _ _ _ _ _ _ GA2.out, HAS.out]; rfl
  by_cases hla : 300 < a.t.length
  · go_wp2
    go_ret
    exact ⟨rfl, HX2.out⟩
  have hla' : a.t.length ≤ 300 := by omega
  clear hla
  go_wp2_with (first
    | (refine wpList_load_row rfl _ _ rfl w.heap.size rfl _ _ _ _ GA2.out Try.underlying54 rfl (infoR _) ?_)
    | (go_at_call 27; refine (HOA.out _).mono ?_))
  rintro e w3 ⟨rfl, hx⟩
  have GA3 : Hid (w3.heap[w.heap.size]? = some (.cells (rvals a) 54 (0, 0))) := Lib.hid (heap_of_ext hx GA2.out)
  have HX3 := Lib.hid (HX2.out.trans hx)
  clear hx ca4 hla' hsa
  have hp0 : putE V a = 0 := by unfold putE; rw [if_neg (by have := HVER.out; omega)]; exact HEA.out
  have hpa : ∀ w, Calls Try.prog 31 #[.slice none 0 0, pv a, .int .u8 (V : Nat)] w fun e w' => ∃ s, e = .returned (.tuple #[s, .int .i64 0]) ∧ Ext w w' ∧ Rd w' s (vBytes V a) := fun w => (put_any (.slice none 0 0) [] V a w (rd_nil w) (by simp) HAOK.out).mono fun e w' h => by
    obtain ⟨s, h1, h2, h3⟩ := h
    rw [hp0] at h1 h3
    rw [if_pos rfl] at h3
    exact ⟨s, h1, h2, h3⟩
  have HPA2 := Lib.hid hpa
  clear hp0 hpa
  have hpos : 0 < (vBytes V a).length := vBytes_pos HEA.out
  have hvl := vBytes_len (ver := V) HAOK.out HEA.out
  have HCUT := Lib.hid (fun k hk => vTake_cut (ver := V) (v := a) (k := k) HVER.out HAOK.out HEA.out hk)
  generalize vBytes V a = bs at *
  generalize hn : bs.length = n at *
  have HN := Lib.hid hn
  clear hn
  have hn0 : ((n : Int) == 0) = false := by simp; omega
  have hmodc : (cut : Int).tmod (n : Int) = ((cut % n : Nat) : Int) := by
    rw [Int.tmod_eq_emod_of_nonneg (by omega)]
    simp
  have hmodd : (cut : Int) % (n : Int) = ((cut % n : Nat) : Int) := by simp
  have hkn : cut % n < n := Nat.mod_lt _ hpos
  go_wp2_with fail
  refine (HPA2.out _).mono ?_
  rintro e w4 ⟨s1, rfl, hx, hr⟩
  have GA4 : Hid (w4.heap[w.heap.size]? = some (.cells (rvals a) 54 (0, 0))) := Lib.hid (heap_of_ext hx GA3.out)
  have HX4 := Lib.hid (HX3.out.trans hx)
  obtain ⟨ao, cap, rfl⟩ := hr.shape
  have hcap : bs.length ≤ cap := by obtain ⟨_, _, h1, h2, _⟩ := hr; cases h1; omega
  have hrt := hr.take (cut % n) (by rw [HN.out]; omega)
  obtain ⟨gb, ob, rfl, _, _, _⟩ := cell_of_rd hr rfl (by rw [HN.out]; omega)
  rw [HN.out] at hcap ⊢
  have HRT := Lib.hid hrt
  have hkc : cut % n ≤ cap := by omega
  generalize hk : cut % n = k at *
  clear hx hr hk hrt
  have HVL := Lib.hid hvl
  have HRD : Hid (∀ w, Rd w (.slice (some ⟨gb, ob, none⟩) k cap) (bs.take k) → Calls Try.prog 33 #[.slice (some ⟨gb, ob, none⟩) k cap] w (ReadPost (bs.take k) w)) := Lib.hid fun w h => read_any _ _ w h (by rw [List.length_take]; omega)
  have HKN := Lib.hid hkn
  have HCUT2 := Lib.hid (HCUT.out k hkn)
  have hpos' : (0 : Int) < (n : Int) := by omega
  clear hvl
  go_wp2_with (go_at_call 33; refine (HRD.out _ HRT.out).mono ?_)
  rintro e w5 ⟨r, rfl, hx, hi, hrs⟩
  have GA5 : Hid (w5.heap[w.heap.size]? = some (.cells (rvals a) 54 (0, 0))) := Lib.hid (heap_of_ext hx GA4.out)
  have HX5 := Lib.hid (HX4.out.trans hx)
  have HI5 := Lib.hid hi
  have HRS : Hid (w.heap.size < r) := Lib.hid (by have h1 := (Array.getElem?_eq_some_iff.1 GA4.out).1; omega)
  have HTK := Lib.hid (fun w h => take_val r (bs.take k) V a.ty w h)
  rw [HCUT2.out] at HTK
  unfold RPtr at *
  have ca0 : w5.cell? ⟨w.heap.size, 0, none⟩ = some (.int .u8 (a.ty : Nat)) := by rw [cell_of_row _ _ _ _ _ _ GA5.out]; rfl
  clear hx hi hrs
  go_wp2_with (go_at_call 34; refine (HTK.out _ HI5.out).mono ?_)
  rintro e w6 ⟨rfl, hx, hi⟩
  have HX6 : Hid (Ext w w6) := Lib.hid (HX5.out.transOnly hx (by have := HRS.out; omega))
  have HI6 := Lib.hid hi
  have HPZ : Hid (pv Val.zero = .agg #[.int .u8 0, .int .i64 0, .complex .f64 0 0, .string ⟨#[]⟩]) := Lib.hid rfl
  rw [HPZ.out]
  have hg10 := heap_alloc_new w6 (.cells #[.int .u8 0, .int .i64 0, .complex .f64 0 0, .string ⟨#[]⟩] 61)
  have HG10 := Lib.hid hg10
  obtain ⟨W7, hW7⟩ : ∃ W7, W7 = (w6.alloc (.cells #[.int .u8 0, .int .i64 0, .complex .f64 0 0, .string ⟨#[]⟩] 61)).setRow w6.heap.size #[.int .u8 0, .int .i64 0, .complex .f64 0 0, .string ⟨#[]⟩] := ⟨_, rfl⟩
  have hx7 : Ext w6 W7 := by rw [hW7]; exact ((Ch.refl _ _).alloc _).setRow (.inr (Nat.le_refl _)) _
  have hg7 : W7.heap[w6.heap.size]? = some (.cells #[.int .u8 0, .int .i64 0, .complex .f64 0 0, .string ⟨#[]⟩] 61 (0, 0)) := by rw [hW7]; exact setRow_heap _ _ _ _ _ _ hg10
  have HX7 := Lib.hid (HX6.out.trans hx7)
  have HER := Lib.hid (err_w r ([], 1) W7 (HI6.out.ext hx7))
  have HW7 := Lib.hid hW7
  have d0 : W7.cell? ⟨w6.heap.size, 0, none⟩ = some (.int .u8 0) := by rw [cell_of_row _ _ _ _ _ _ hg7]; rfl
  have d1 : W7.cell? ⟨w6.heap.size, 1, none⟩ = some (.int .i64 0) := by rw [cell_of_row _ _ _ _ _ _ hg7]; rfl
  have d2 : W7.cell? ⟨w6.heap.size, 2, none⟩ = some (.complex .f64 0 0) := by rw [cell_of_row _ _ _ _ _ _ hg7]; rfl
  have d3 : W7.cell? ⟨w6.heap.size, 3, none⟩ = some (.string ⟨#[]⟩) := by rw [cell_of_row _ _ _ _ _ _ hg7]; rfl
  have hsame : ∀ w, Calls Try.prog 29 #[.agg #[.int .u8 0, .int .i64 0, .complex .f64 0 0, .string ⟨#[]⟩], .agg #[.int .u8 0, .int .i64 0, .complex .f64 0 0, .string ⟨#[]⟩]] w fun e w' => e = .returned (.bool true) ∧ Ext w w' := fun w => by
    have := same_any Val.zero Val.zero w
    rw [decide_eq_true rfl] at this
    exact this
  have HSM := Lib.hid hsame
  unfold RPtr at HER
  clear hx hi hg10 hW7 hx7 hg7 ca0 hsame
  go_wp2_with (first
    | (refine wpList_store_rowTo rfl _ _ _ rfl rfl w6.heap.size #[.int .u8 0, .int .i64 0, .complex .f64 0 0, .string ⟨#[]⟩] rfl rfl _ _ HG10.out info61 rfl (prow_one _ _ _ _ _) ?_; rw [← HW7.out])
    | (go_at_call 37; refine HER.out.mono ?_; rintro e w' ⟨rfl, rfl⟩)
    | (go_at_call 29; refine (HSM.out _).mono ?_))
  rintro e w8 ⟨rfl, hx⟩
  have HX8 := Lib.hid (HX7.out.trans hx)
  clear hx
  go_wp2_with (go_at_call 30; refine (awake6_any _).mono ?_)
  rintro e w9 ⟨rfl, hx⟩
  have HX9 := Lib.hid (HX8.out.trans hx)
  clear hx
  go_wp2
  go_ret
  exact ⟨rfl, HX9.out⟩

end Go.Proofs.Ytoggnmfjkbnopaa
