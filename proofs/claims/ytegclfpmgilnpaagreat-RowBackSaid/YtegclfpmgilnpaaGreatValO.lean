import Derived.Test.YtegclfpmgilnpaaGreatValN
namespace Go.Proofs.YtegclfpmgilnpaaGreat
open Go.RowKit Go.Lac
set_option maxRecDepth 20000 in
set_option maxHeartbeats 1600000 in
theorem put_any (vb : Value) (b : List UInt8) (ver : Nat) (v : Val) (w : World) (hb : Rd w vb b) (hl : b.length ≤ 100000) (hok : v.ok) :
    Calls Tryz.prog 93 #[vb, pv v, .int .u8 (ver : Nat)] w (PutPost b ver v w) := by
  obtain ⟨ao, cap, rfl⟩ := hb.shape
  have HIV := Lib.hid (isVersion_any ver)
  have HRI := Lib.hid (vright_any v)
  obtain ⟨R, hR⟩ : ∃ R, R = pvals v := ⟨_, rfl⟩
  have hpv : pv v = .agg R := by rw [hR]; rfl
  have hRs : R.size = 4 := by rw [hR]; rfl
  have hw1 := heap_alloc_new w (.cells R 88)
  have hx1 : Ext w (w.alloc (.cells R 88)) := (Ch.refl _ _).alloc _
  have HB := Lib.hid (hb.ext hx1); have HX1 := Lib.hid hx1; have HW1 := Lib.hid hw1
  have HI : Hid ((Tryz.prog.info? 88).map (·.size) = some R.size) := Lib.hid (by rw [hRs]; exact info61)
  have HFO := Lib.hid (fun w h h' => form_any v ver w hok h h')
  have HLB := Lib.hid hl
  have HVL := Lib.hid (fun h => vBytes_len (ver := ver) hok h)
  rw [hpv] at HRI HFO ⊢
  have hcell : R.toList.flatMap (fun x => x.cells.toList) = R.toList := by rw [hR]; rfl
  obtain ⟨PO, hPO⟩ : ∃ PO, PO = PutPost b ver v w := ⟨_, rfl⟩
  have HPO : Hid (∀ e w', PO e w' ↔ PutPost b ver v w e w') := Lib.hid (by rw [hPO]; exact fun _ _ => Iff.rfl)
  rw [← hPO]
  clear hPO hb hx1 hw1 hpv hRs hl hok hcell hR
  by_cases hv : ver = 1 ∨ ver = 2
  · have hiv : decide (ver = 1 ∨ ver = 2) = true := decide_eq_true hv
    rw [hiv] at HIV
    by_cases he : vErr v = 0
    · have HE := Lib.hid he
      have HF2 := Lib.hid (fun w => HFO.out w he hv)
      have HP0 : Hid (putE ver v = 0) := Lib.hid (by unfold putE; rw [if_neg (by omega)]; exact he)
      rw [he] at HRI
      have HVL2 := Lib.hid (HVL.out he)
      clear he hiv HFO hv HVL
      go_enter Tryz.func93, Tryz.ntmps93
      go_wp2_with (first
        | (go_at_call 104; refine (HIV.out _).mono ?_; rintro e w' ⟨rfl, rfl⟩)
        | (refine wpList_load_row rfl _ _ rfl w.heap.size rfl _ _ _ _ HW1.out Tryz.underlying88 rfl HI.out ?_)
        | (go_at_call 75; refine (HRI.out _).mono ?_))
      rintro e w2 ⟨rfl, h2⟩
      have HX2 := Lib.hid h2
      have hg2 := (h2.block w.heap.size (Array.getElem?_eq_some_iff.1 HW1.out).1 (fun f => f)).trans HW1.out
      have HG2 := Lib.hid hg2
      clear h2 hg2
      go_wp2_with (first
        | (refine wpList_load_row rfl _ _ rfl w.heap.size rfl _ _ _ _ HG2.out Tryz.underlying88 rfl HI.out ?_)
        | (go_at_call 118; refine (HF2.out _).mono ?_))
      rintro e w3 ⟨s, rfl, h3, h4⟩
      obtain ⟨a4, c4, rfl⟩ := h4.shape
      have hcat := concat_any [b, vBytes ver v] w3.heap.size 0 2 _ (rdAll_two (HB.out.ext (HX2.out.trans h3)) h4 22) (by have := HLB.out; have := HVL2.out; simp [total]; omega) (by simp)
      have HC := Lib.hid hcat
      have HX3 := Lib.hid (HX1.out.trans (HX2.out.trans h3))
      clear hcat h3 h4
      go_wp2_with (go_at_call 67; refine HC.out.mono ?_)
      intro e w5 hm
      obtain ⟨s5, rfl, h5, h6⟩ := hm.rd
      have HX5 := Lib.hid ((HX3.out.alloc _).trans h5); have H6 := Lib.hid h6
      clear h5 h6 hm
      go_wp2
      refine (HPO.out _ _).2 ⟨s5, by rw [HP0.out]; rfl, HX5.out, ?_⟩
      rw [if_pos HP0.out]
      simpa using H6.out
    · have HP0 : Hid (putE ver v = vErr v) := Lib.hid (by unfold putE; rw [if_neg (by omega)])
      have HE := Lib.hid he
      have hb2 : (((vErr v : Nat) : Int) != 0) = true := by simp; omega
      clear he hiv HFO hv HVL
      generalize vErr v = E at *
      go_enter Tryz.func93, Tryz.ntmps93
      go_wp2_with (first
        | (go_at_call 104; refine (HIV.out _).mono ?_; rintro e w' ⟨rfl, rfl⟩)
        | (refine wpList_load_row rfl _ _ rfl w.heap.size rfl _ _ _ _ HW1.out Tryz.underlying88 rfl HI.out ?_)
        | (go_at_call 75; refine (HRI.out _).mono ?_))
      rintro e w2 ⟨rfl, h2⟩
      have HX2 := Lib.hid (HX1.out.trans h2)
      clear h2
      go_wp2
      refine (HPO.out _ _).2 ⟨.slice none 0 0, by rw [HP0.out]; rfl, HX2.out, ?_⟩
      rw [if_neg (by rw [HP0.out]; exact HE.out)]
      exact rd_nil _
  · have hiv : decide (ver = 1 ∨ ver = 2) = false := decide_eq_false hv
    rw [hiv] at HIV
    have HP0 : Hid (putE ver v = 18) := Lib.hid (by unfold putE; rw [if_pos (by omega)])
    clear hiv HFO hv HVL
    go_enter Tryz.func93, Tryz.ntmps93
    go_wp2_with (go_at_call 104; refine (HIV.out _).mono ?_; rintro e w' ⟨rfl, rfl⟩)
    refine (HPO.out _ _).2 ⟨.slice none 0 0, by rw [HP0.out]; rfl, HX1.out, ?_⟩
    rw [if_neg (by rw [HP0.out]; decide)]
    exact rd_nil _
end Go.Proofs.YtegclfpmgilnpaaGreat
