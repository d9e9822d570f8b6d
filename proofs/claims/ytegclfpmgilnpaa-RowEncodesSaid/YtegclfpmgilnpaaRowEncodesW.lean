/-
  RowEncodes: the walk. MADE BY mkRowEnc.py
-/
import Derived.Test.YtegclfpmgilnpaaRowJ
import Derived.Test.YtegclfpmgilnpaaRowK
import Derived.Test.YtegclfpmgilnpaaRowH
import Derived.Test.YtegclfpmgilnpaaRowC
import Derived.Test.YtegclfpmgilnpaaRowF
import Derived.Test.YtegclfpmgilnpaaImgE
import Derived.Test.YtegclfpmgilnpaaRelX
namespace Go.Proofs.Ytegclfpmgilnpaa
open Go.RowKit Go.Lac

def KnT.rowE {Ts : TypeId → Prop} (hT : ¬ Ts 129) (l : List Cel) : KnT Ts :=
  ⟨fun v w => w.ownsRow 0 129 5 v l.length (PcC l), fun _ _ _ hx h => own_tyb h hT hx⟩
abbrev reTs : TypeId → Prop := fun t => t = 39
def reB : Bx := ⟨8, 4, 6, 23, 39, 5⟩
def reT (r : Rl) (cv vw : Value) (l : List Cel) : Tmp → KnT reTs
  | 20 => .is vw
  | 21 => KnT.rowE (by decide) l
  | 22 => .is (.agg (relv r cv))
  | 23 => KnT.relO (by decide) r
  | 7 => KnT.rowE (by decide) l
  | _ => .any
def Kn.hos (l : List Ho) : Kn := ⟨fun v w => HoS w v l, fun _ _ _ k h => HoS.ext h k⟩
def reA (r : Rl) (xo ao yo vo : Option Addr) (xc cap m yc vcap g8 g4 k E F : Nat) (bs : List UInt8) (hs : List Ho) (sv tv : Value) : Tmp → Kn
  | 45 => .rd bs
  | 46 => .is (strV bs)
  | 47 => .rd bs
  | 48 => .is (strV bs)
  | 49 => .is (.bool false)
  | 50 => .is (.bool false)
  | 51 => .is (.int .i64 (E : Nat))
  | 52 => .is (.int .i64 (E : Nat))
  | 53 => .is (.bool false)
  | 54 => .is (.bool false)
  | 55 => .is (.bool false)
  | 56 => .is (.slice yo m yc)
  | 57 => .is (.agg (relv r (.slice xo r.cols.length xc)))
  | 58 => .is (.int .i64 (F : Nat))
  | 59 => .is (.slice vo m vcap)
  | 60 => .is (.agg (relv r (.slice ao r.cols.length cap)))
  | 61 => .is (.int .i64 (F : Nat))
  | 62 => .is (.bool false)
  | 63 => .is (.bool false)
  | 64 => .is (.bool false)
  | 65 => .is (.slice yo m yc)
  | 66 => Kn.hos hs
  | 67 => Kn.hos hs
  | 68 => .is (.bool true)
  | 69 => .is (.bool false)
  | 70 => .is (.bool false)
  | 71 => .is (.bool false)
  | 72 => .is sv
  | 73 => .is (.int .i64 (k : Nat))
  | 74 => .is tv
  | 75 => .is (.int .i64 (k : Nat))
  | 76 => .is (.bool false)
  | 77 => .is (.bool false)
  | _ => .any
def reC (tb to1 tac ub uo1 hbc k j : Nat) (t : List UInt8) : Tmp → Kn
  | 84 => .is (.slice (some ⟨tb, to1, none⟩) k tac)
  | 85 => .is (.int .i64 (j : Nat))
  | 86 => .is (.pointer (some ⟨tb, to1 + j * 1, none⟩))
  | 87 => .is (strV t)
  | 88 => .is (.slice (some ⟨ub, uo1, none⟩) k hbc)
  | 89 => .is (.int .i64 (j : Nat))
  | 90 => .is (.pointer (some ⟨ub, uo1 + j * 1, none⟩))
  | 91 => .is (strV t)
  | 92 => .is (.bool false)
  | _ => .any

set_option maxRecDepth 20000 in
set_option maxHeartbeats 16000000 in
theorem rowEncodes_walk (v : Value) (l : List Cel) (r : Rl) (cv : Value) (ver : Nat) (w : World) (hv : RcS w v l) (hb : ColS w cv r.cols) (hf : r.fits) (hok : ∀ c ∈ l, c.ok) :
    Calls Try.prog 8 #[v, .agg (relv r cv), .int .u8 (ver : Nat)] w fun e w' => e = .returned (.bool true) ∧ Ext w w' := by
  obtain ⟨W, hW⟩ : ∃ W, W = w.alloc (.cells (relv r cv) 33) := ⟨_, rfl⟩
  have hx : Ext w W := by rw [hW]; exact (Ch.refl _ _).alloc _
  have HBOX : Hid (W.heap[w.heap.size]? = some (.cells (relv r cv) 33 (0, 0))) := Lib.hid (by rw [hW]; exact heap_alloc_new _ _)
  have HGR := Lib.hid (great10_any r v cv l W (RcS.ext hv hx) (ColS.ext hb hx))
  have HX := Lib.hid hx; have HW := Lib.hid hW
  obtain ⟨ao, cap, hcv, _⟩ := id hb
  obtain ⟨vo, vcap, hve, _⟩ := hv.shape
  subst hcv; subst hve
  by_cases hG : GreatR l r
  · rw [decide_eq_true hG] at HGR
    clear hb hv hf hok hx hW hG
    generalize r.cols.length = n at *
    generalize l.length = m at *
    unfold relv strV at *
    generalize (⟨r.name.toArray⟩ : ByteArray) = A1 at *
    generalize r.oid = o1 at *
    generalize r.ver = o2 at *
    generalize r.ident = o3 at *
    go_enter Try.func8, Try.ntmps8
    go_wp2_with fail
    rw [← HW.out]
    refine HGR.out.mono ?_
    rintro e w2 ⟨rfl, hx2⟩
    have HX2 := Lib.hid (HX.out.trans hx2); clear hx2
    go_wp2
    go_ret
    exact ⟨rfl, HX2.out⟩
  rw [decide_eq_false hG] at HGR
  have hl20 : l.length ≤ 20 := Nat.le_of_not_lt fun h => hG (.inr (.inr (.inl h)))
  have hc20 : r.cols.length ≤ 20 := Nat.le_of_not_lt fun h => hG (.inr (.inr (.inr (.inl h))))
  have HB := Lib.hid hb; have HV := Lib.hid hv; have HF := Lib.hid hf; have HL20 := Lib.hid hl20; have HC20 := Lib.hid hc20; have HOK := Lib.hid hok
  clear hb hv hf hok hx hW hG hl20 hc20
  unfold relv strV at HGR HW HBOX ⊢
  go_enter Try.func8, Try.ntmps8
  go_wp2_with fail
  rw [← HW.out]
  refine HGR.out.mono ?_
  rintro e w3 ⟨rfl, hx3⟩
  have HX3 := Lib.hid (HX.out.trans hx3)
  have HBOX3 := Lib.hid (heap_ext hx3 HBOX.out)
  clear hx3 HGR HBOX
  go_wp2
  refine wp_region_boxes (reT r (.slice ao r.cols.length cap) (.slice vo l.length vcap) l) [reB] mixedR (by rfl) (by rfl) ?all ?fin
  case all =>
    refine ⟨?_, ?_, ?_, ?_, ?_, ?_, ?_, trivial⟩
    · refine StepA.bplain (by rfl) (by rfl) rfl fun ρ w4 L hρ hw hf => ?_
      have h : ρ (.tmp 0) = .slice vo l.length vcap := (hf 0).2 rfl rfl
      exact Exec.kmove (T := fun d => (reT r (.slice ao r.cols.length cap) (.slice vo l.length vcap) l d).kn) rfl rfl h
    · refine StepA.bplain (by rfl) (by rfl) rfl fun ρ w4 L hρ hw hf => ?_
      have h : ρ (.tmp 20) = .slice vo l.length vcap := (hf 20).1 rfl
      refine Exec.kcall #[.slice vo l.length vcap] hρ rfl rfl (by simp [h]) Try.func32 (by rfl) (by rfl) ((own10_any _ l w4 (RcS.ext HV.out (HX3.out.trans hw)) (by have := HL20.out; omega)).mono ?_)
      rintro e w' ⟨y, rfl, h1, h2⟩
      exact ⟨_, rfl, ownsRow_down h2 (Nat.zero_le _), h1⟩
    · refine StepA.bplain (by rfl) (by rfl) rfl fun ρ w4 L hρ hw hf => ?_
      have h : ρ (.tmp 4) = .pointer (some ⟨w.heap.size, 0, none⟩) := (hf 4).2 rfl rfl
      exact Exec.kloadrow (T := fun d => (reT r (.slice ao r.cols.length cap) (.slice vo l.length vcap) l d).kn) rfl rfl h (heap_of_ext hw HBOX3.out) Try.underlying33 rfl infoBk rfl
    · refine StepA.bplain (by rfl) (by rfl) rfl fun ρ w4 L hρ hw hf => ?_
      have h : ρ (.tmp 22) = .agg (relv r (.slice ao r.cols.length cap)) := (hf 22).1 rfl
      refine Exec.kcall #[.agg (relv r (.slice ao r.cols.length cap))] hρ rfl rfl (by simp [h]) Try.func13 (by rfl) (by rfl) ((relOwn_any r (.slice ao r.cols.length cap) w4 (ColS.ext HB.out (HX3.out.trans hw)) (by have := HC20.out; omega)).mono ?_)
      rintro e w' ⟨cc, rfl, h1, h2⟩
      exact ⟨_, rfl, ⟨cc, rfl, ownsRow_down h2 (Nat.zero_le _)⟩, h1⟩
    · exact StepA.balloc (b := reB) (by rfl) (by simp) (show 8 < 94 by decide) rfl (by rfl) rfl rfl (relv .zero (.slice none 0 0)) rfl (fun x w => by unfold execOp; simp [go_sem, reB, relv, Rl.zero, strV])
    · refine StepA.bplain (by rfl) (by rfl) rfl fun ρ w4 L hρ hw hf => ?_
      have h := (hf 21).1 rfl
      exact Exec.kassign (T := fun d => (reT r (.slice ao r.cols.length cap) (.slice vo l.length vcap) l d).kn) rfl rfl h
    · exact StepA.bstore (by rfl) (by rfl) (b := reB) (by simp) rfl (by rfl) (by decide) rfl rfl rfl (by rfl) (by rfl) (by rfl) rfl infoOw (fun v w h => by obtain ⟨c, rfl, ho⟩ := h; obtain ⟨ao, cap, rfl⟩ := owns_shape ho; exact ⟨_, rfl, rfl, relv_one _ _ _ _⟩)
  case fin =>
    intro ν w4 hV hx4
    obtain ⟨g5, c5, e5, s5, k5, _, q5⟩ := hV 4 8 rfl
    obtain ⟨cx, ec5, hcx⟩ : ∃ c, Value.agg c5 = .agg (relv r c) ∧ w4.ownsRow 0 69 3 c r.cols.length (colC r.cols) := q5 (by rfl)
    cases ec5
    have hy : w4.ownsRow 0 129 5 (ν 7) l.length (PcC l) := hV 5 7 rfl
    obtain ⟨xo, xc, rfl⟩ := owns_shape hcx
    obtain ⟨yo, yc, hye⟩ := owns_shape hy
    rw [hye] at hy
    simp only [Exit.then, ended, List.foldl_cons, List.foldl_nil, List.setIfInBounds_toArray, List.set_cons_succ, List.set_cons_zero, e5, hye]
    have HX4 := Lib.hid (HX3.out.trans hx4)
    have HG5 : Hid (w4.heap[g5]? = some (.cells (relv r (.slice xo r.cols.length xc)) 39 (0, 0))) := Lib.hid k5
    have HB4 : Hid (w4.heap[w.heap.size]? = some (.cells (relv r (.slice ao r.cols.length cap)) 33 (0, 0))) := Lib.hid (heap_ext hx4 HBOX3.out)
    have HCX : Hid (ColS w4 (.slice xo r.cols.length xc) r.cols) := Lib.hid (Sl.ofOwns hcx)
    have HY : Hid (PcS w4 (.slice yo l.length yc) l) := Lib.hid (Sl.ofOwns hy)
    clear hV hx4 e5 k5 q5 s5 hcx hy hye HBOX3
    generalize ν 20 = v20 at *
    generalize ν 21 = v21 at *
    generalize ν 22 = v22 at *
    generalize ν 23 = v23 at *
    have HEN := Lib.hid (rowEncode_any r (.slice xo r.cols.length xc) (.slice yo l.length yc) l ver w4 HCX.out HF.out HY.out HOK.out)
    obtain ⟨d0, d1, d2, d3, d4⟩ := row5 HG5.out
    unfold relv strV at HEN
    go_wp2_with fail
    refine HEN.out.mono ?_
    rintro e w5 ⟨hx5, s, rfl, hs⟩
    have HX5 := Lib.hid (HX4.out.trans hx5)
    have HG55 := Lib.hid (heap_ext hx5 HG5.out); have HB5 := Lib.hid (heap_ext hx5 HB4.out); have HC5 := Lib.hid (ColS.ext HCX.out hx5); have HY5 := Lib.hid (PcS.ext HY.out hx5)
    have HRE := Lib.hid (refEncode_any r (.slice ao r.cols.length cap) (.slice vo l.length vcap) l ver w5 (ColS.ext HB.out HX5.out) HF.out (RcS.ext HV.out HX5.out) HOK.out)
    unfold RowEncPost at HRE
    obtain ⟨E, hE⟩ : ∃ E, E = encE ver r l := ⟨_, rfl⟩
    obtain ⟨bs, hbs⟩ : ∃ bs, bs = (if encE ver r l = 0 then encB ver l else []) := ⟨_, rfl⟩
    rw [← hbs, ← hE] at HRE
    rw [← hbs] at hs
    rw [← hE]
    have HBB5 := Lib.hid hs
    obtain ⟨so5, sc5, hse, -⟩ := id hs
    subst hse
    clear d0 d1 d2 d3 d4 hx5 hs hE hbs HEN HG5 HB4 HCX HY
    obtain ⟨d0, d1, d2, d3, d4⟩ := row5 HB5.out
    unfold relv strV at HRE
    go_wp2_with fail
    refine HRE.out.mono ?_
    rintro e w6 ⟨hx6, s2, rfl, hs6⟩
    have HX6 := Lib.hid (HX5.out.trans hx6)
    have HG6 := Lib.hid (heap_ext hx6 HG55.out); have HB6 := Lib.hid (heap_ext hx6 HB5.out); have HC6 := Lib.hid (ColS.ext HC5.out hx6); have HY6 := Lib.hid (PcS.ext HY5.out hx6); have HBB6 := Lib.hid (HBB5.out.ext hx6)
    have HCB6 := Lib.hid hs6
    obtain ⟨so6, sc6, hse, -⟩ := id hs6
    subst hse
    have HRH := Lib.hid (rHoles_any (.slice vo l.length vcap) l w6 (RcS.ext HV.out HX6.out) (by have := HL20.out; omega))
    clear d0 d1 d2 d3 d4 hx6 hs6 HRE HG55 HB5 HC5 HY5 HBB5
    go_wp2_with fail
    refine HRH.out.mono ?_
    rintro e w7 ⟨ha, hb', rfl, hx7, hoa, hob⟩
    have HX7 := Lib.hid (HX6.out.trans hx7)
    have HG7 := Lib.hid (heap_ext hx7 HG6.out); have HB7 := Lib.hid (heap_ext hx7 HB6.out); have HC7 := Lib.hid (ColS.ext HC6.out hx7); have HY7 := Lib.hid (PcS.ext HY6.out hx7); have HBB7 := Lib.hid (HBB6.out.ext hx7); have HCB7 := Lib.hid (HCB6.out.ext hx7)
    obtain ⟨hao, hac, rfl⟩ := owns_shape hoa
    obtain ⟨hbo, hbc, rfl⟩ := owns_shape hob
    have HHB7 : Hid (HoS w7 (.slice hao (holesL l).length hac) (holesL l)) := Lib.hid (Sl.ofOwns hoa)
    have HTB7 : Hid (TxR w7 (.slice hbo (textsL l).length hbc) (textsL l)) := Lib.hid (Sl.ofOwns hob)
    have HTE := Lib.hid (texts_any (.slice yo l.length yc) l w7 HY7.out (by have := HL20.out; omega))
    clear hx7 hoa hob HRH HG6 HB6 HC6 HY6 HBB6 HCB6
    go_wp2_with fail
    refine HTE.out.mono ?_
    rintro e w8 ⟨tv, rfl, hx8, hot⟩
    have HX8 := Lib.hid (HX7.out.trans hx8)
    have HGX := Lib.hid (heap_ext hx8 HG7.out); have HBX := Lib.hid (heap_ext hx8 HB7.out); have HC8 := Lib.hid (ColS.ext HC7.out hx8); have HY8 := Lib.hid (PcS.ext HY7.out hx8); have HBB := Lib.hid (HBB7.out.ext hx8); have HCB := Lib.hid (HCB7.out.ext hx8); have HHB := Lib.hid (HoS.ext HHB7.out hx8); have HTB := Lib.hid (HTB7.out.ext hx8)
    obtain ⟨tao, tac, rfl⟩ := owns_shape hot
    have HTX : Hid (TxR w8 (.slice tao (textsL l).length tac) (textsL l)) := Lib.hid (Sl.ofOwns hot)
    have HF1 : Hid (∀ W', Ext w8 W' → Calls Try.prog 37 #[.slice yo l.length yc, .agg (relv r (.slice xo r.cols.length xc))] W' fun e w'' => e = .returned (.int .i64 (fitsE r l : Nat)) ∧ Ext W' w'') := Lib.hid (fun W' h => fits_any r _ _ l W' (ColS.ext HC8.out h) HF.out (PcS.ext HY8.out h))
    have HF2 : Hid (∀ W', Ext w8 W' → Calls Try.prog 38 #[.slice vo l.length vcap, .agg (relv r (.slice ao r.cols.length cap))] W' fun e w'' => e = .returned (.int .i64 (fitsE r l : Nat)) ∧ Ext W' w'') := Lib.hid (fun W' h => rfits_any r _ _ l W' (ColS.ext HB.out (HX8.out.trans h)) HF.out (RcS.ext HV.out (HX8.out.trans h)))
    have HHO : Hid (∀ W', Ext w8 W' → Calls Try.prog 40 #[.slice yo l.length yc] W' fun e w'' => ∃ y, e = .returned y ∧ Ext W' w'' ∧ (Kn.hos (holesL l)).holds y w'') := Lib.hid (fun W' h => (holes_any _ l W' (PcS.ext HY8.out h) (by have := HL20.out; omega)).mono (by
      rintro e w'' ⟨y, rfl, k1, k2⟩
      exact ⟨y, rfl, k1, Sl.ofOwns k2⟩))
    have HTL : Hid ((textsL l).length ≤ 100000) := Lib.hid (Nat.le_trans (textsL_length l) (by have := HL20.out; omega))
    clear hx8 hot HTE HG7 HB7 HC7 HY7 HBB7 HCB7 HHB7 HTB7 HC8 HY8
    generalize fitsE r l = F at *
    generalize holesL l = hs at *
    generalize textsL l = ts at *
    generalize hK : ts.length = k at *
    have HK := Lib.hid hK; clear hK
    generalize hm : l.length = m at *
    clear hm
    have hrx : ∀ c, (#[.int .u32 (r.oid : Nat), .int .u32 (r.ver : Nat), .string ⟨r.name.toArray⟩, .int .u8 (r.ident : Nat), c] : Array Value) = relv r c := fun c => rfl
    go_wp2
    refine wp_region_ext (reA r xo ao yo vo xc cap m yc vcap g5 w.heap.size k E F bs hs (.slice tao k tac) (.slice hbo k hbc)) mixedR (by rfl) (by rfl) ?all ?fin
    case all =>
      refine ⟨?_, ?_, ?_, ?_, ?_, ?_, ?_, ?_, ?_, ?_, ?_, ?_, ?_, ?_, ?_, ?_, ?_, ?_, ?_, ?_, ?_, ?_, ?_, ?_, ?_, ?_, ?_, ?_, ?_, ?_, ?_, ?_, ?_, trivial⟩
      · refine StepOK.plain (kn_stable _) rfl fun ρ w' hρ hw hf => ?_
        have h9 : Rd w' (ρ (.tmp 9)) bs := by rw [(hf 9).2 rfl rfl]; exact HBB.out.ext hw
        exact Exec.kmove rfl rfl h9
      · refine StepOK.plain (kn_stable _) rfl fun ρ w' hρ hw hf => ?_
        have h45 : Rd w' (ρ (.tmp 45)) bs := (hf 45).1 rfl
        exact Exec.kstr rfl rfl Try.underlying76 Try.underlying5 Try.underlying9 h45 rfl
      · refine StepOK.plain (kn_stable _) rfl fun ρ w' hρ hw hf => ?_
        have h11 : Rd w' (ρ (.tmp 11)) bs := by rw [(hf 11).2 rfl rfl]; exact HCB.out.ext hw
        exact Exec.kmove rfl rfl h11
      · refine StepOK.plain (kn_stable _) rfl fun ρ w' hρ hw hf => ?_
        have h47 : Rd w' (ρ (.tmp 47)) bs := (hf 47).1 rfl
        exact Exec.kstr rfl rfl Try.underlying76 Try.underlying5 Try.underlying9 h47 rfl
      · refine StepOK.plain (kn_stable _) rfl fun ρ w' hρ hw hf => ?_
        have h46 : ρ (.tmp 46) = (strV bs) := (hf 46).1 rfl
        have h48 : ρ (.tmp 48) = (strV bs) := (hf 48).1 rfl
        exact Exec.kstrne rfl rfl Try.underlying9 h46 h48 (by simp [reA, Kn.is])
      · refine StepOK.plain (kn_stable _) rfl fun ρ w' hρ hw hf => ?_
        have h49 : ρ (.tmp 49) = (.bool false) := (hf 49).1 rfl
        exact Exec.kmove rfl rfl h49
      · refine StepOK.guarded (kn_stable _) 5 false 50 rfl rfl (fun ρ w _ _ hf => (hf 50).1 rfl) fun ρ w' hρ hw hf => ?_
        have h10 : ρ (.tmp 10) = (.int .i64 (E : Nat)) := (hf 10).2 rfl rfl
        exact Exec.kmove rfl rfl h10
      · refine StepOK.guarded (kn_stable _) 5 false 50 rfl rfl (fun ρ w _ _ hf => (hf 50).1 rfl) fun ρ w' hρ hw hf => ?_
        have h12 : ρ (.tmp 12) = (.int .i64 (E : Nat)) := (hf 12).2 rfl rfl
        exact Exec.kmove rfl rfl h12
      · refine StepOK.guarded (kn_stable _) 5 false 50 rfl rfl (fun ρ w _ _ hf => (hf 50).1 rfl) fun ρ w' hρ hw hf => ?_
        have h51 : ρ (.tmp 51) = (.int .i64 (E : Nat)) := (hf 51).1 rfl
        have h52 : ρ (.tmp 52) = (.int .i64 (E : Nat)) := (hf 52).1 rfl
        exact Exec.same (v := (.bool false)) rfl (by simp [go_sem, hρ.const, h51, h52]) rfl
      · refine StepOK.plain (kn_stable _) rfl fun ρ w' hρ hw hf => ?_
        have h50 : ρ (.tmp 50) = (.bool false) := (hf 50).1 rfl
        have h53 : ρ (.tmp 53) = (.bool false) := (hf 53).1 rfl
        exact Exec.kpickF rfl rfl h50 h53
      · refine StepOK.plain (kn_stable _) rfl fun ρ w' hρ hw hf => ?_
        have h54 : ρ (.tmp 54) = (.bool false) := (hf 54).1 rfl
        exact Exec.kmove rfl rfl h54
      · refine StepOK.guarded (kn_stable _) 10 false 55 rfl rfl (fun ρ w _ _ hf => (hf 55).1 rfl) fun ρ w' hρ hw hf => ?_
        have h7 : ρ (.tmp 7) = (.slice yo m yc) := (hf 7).2 rfl rfl
        exact Exec.kmove rfl rfl h7
      · refine StepOK.guarded (kn_stable _) 10 false 55 rfl rfl (fun ρ w _ _ hf => (hf 55).1 rfl) fun ρ w' hρ hw hf => ?_
        have h8 : ρ (.tmp 8) = (.pointer (some ⟨g5, 0, none⟩)) := (hf 8).2 rfl rfl
        exact Exec.kloadrow rfl rfl h8 (heap_ext hw HGX.out) Try.underlying39 rfl infoOw rfl
      · refine StepOK.guarded (kn_stable _) 10 false 55 rfl rfl (fun ρ w _ _ hf => (hf 55).1 rfl) fun ρ w' hρ hw hf => ?_
        have h56 : ρ (.tmp 56) = (.slice yo m yc) := (hf 56).1 rfl
        have h57 : ρ (.tmp 57) = (.agg (relv r (.slice xo r.cols.length xc))) := (hf 57).1 rfl
        exact Exec.kcall #[(.slice yo m yc), (.agg (relv r (.slice xo r.cols.length xc)))] hρ rfl rfl (by simp [h56, h57]) Try.func37 (by rfl) (by rfl) ((HF1.out w' hw).mono fun e w'' h => ⟨_, h.1, rfl, h.2⟩)
      · refine StepOK.guarded (kn_stable _) 10 false 55 rfl rfl (fun ρ w _ _ hf => (hf 55).1 rfl) fun ρ w' hρ hw hf => ?_
        have h0 : ρ (.tmp 0) = (.slice vo m vcap) := (hf 0).2 rfl rfl
        exact Exec.kmove rfl rfl h0
      · refine StepOK.guarded (kn_stable _) 10 false 55 rfl rfl (fun ρ w _ _ hf => (hf 55).1 rfl) fun ρ w' hρ hw hf => ?_
        have h4 : ρ (.tmp 4) = (.pointer (some ⟨w.heap.size, 0, none⟩)) := (hf 4).2 rfl rfl
        exact Exec.kloadrow rfl rfl h4 (heap_ext hw HBX.out) Try.underlying33 rfl infoBk rfl
      · refine StepOK.guarded (kn_stable _) 10 false 55 rfl rfl (fun ρ w _ _ hf => (hf 55).1 rfl) fun ρ w' hρ hw hf => ?_
        have h59 : ρ (.tmp 59) = (.slice vo m vcap) := (hf 59).1 rfl
        have h60 : ρ (.tmp 60) = (.agg (relv r (.slice ao r.cols.length cap))) := (hf 60).1 rfl
        exact Exec.kcall #[(.slice vo m vcap), (.agg (relv r (.slice ao r.cols.length cap)))] hρ rfl rfl (by simp [h59, h60]) Try.func38 (by rfl) (by rfl) ((HF2.out w' hw).mono fun e w'' h => ⟨_, h.1, rfl, h.2⟩)
      · refine StepOK.guarded (kn_stable _) 10 false 55 rfl rfl (fun ρ w _ _ hf => (hf 55).1 rfl) fun ρ w' hρ hw hf => ?_
        have h58 : ρ (.tmp 58) = (.int .i64 (F : Nat)) := (hf 58).1 rfl
        have h61 : ρ (.tmp 61) = (.int .i64 (F : Nat)) := (hf 61).1 rfl
        exact Exec.same (v := (.bool false)) rfl (by simp [go_sem, hρ.const, h58, h61]) rfl
      · refine StepOK.plain (kn_stable _) rfl fun ρ w' hρ hw hf => ?_
        have h55 : ρ (.tmp 55) = (.bool false) := (hf 55).1 rfl
        have h62 : ρ (.tmp 62) = (.bool false) := (hf 62).1 rfl
        exact Exec.kpickF rfl rfl h55 h62
      · refine StepOK.plain (kn_stable _) rfl fun ρ w' hρ hw hf => ?_
        have h63 : ρ (.tmp 63) = (.bool false) := (hf 63).1 rfl
        exact Exec.kmove rfl rfl h63
      · refine StepOK.guarded (kn_stable _) 19 false 64 rfl rfl (fun ρ w _ _ hf => (hf 64).1 rfl) fun ρ w' hρ hw hf => ?_
        have h7 : ρ (.tmp 7) = (.slice yo m yc) := (hf 7).2 rfl rfl
        exact Exec.kmove rfl rfl h7
      · refine StepOK.guarded (kn_stable _) 19 false 64 rfl rfl (fun ρ w _ _ hf => (hf 64).1 rfl) fun ρ w' hρ hw hf => ?_
        have h65 : ρ (.tmp 65) = (.slice yo m yc) := (hf 65).1 rfl
        exact Exec.kcall #[(.slice yo m yc)] hρ rfl rfl (by simp [h65]) Try.func40 (by rfl) (by rfl) ((HHO.out w' hw).mono fun e w'' ⟨y, h1, h2, h3⟩ => ⟨y, h1, h3, h2⟩)
      · refine StepOK.guarded (kn_stable _) 19 false 64 rfl rfl (fun ρ w _ _ hf => (hf 64).1 rfl) fun ρ w' hρ hw hf => ?_
        have h13 : (Kn.hos hs).holds (ρ (.tmp 13)) w' := by rw [(hf 13).2 rfl rfl]; exact HoS.ext HHB.out hw
        exact Exec.kmove rfl rfl h13
      · refine StepOK.guarded (kn_stable _) 19 false 64 rfl rfl (fun ρ w _ _ hf => (hf 64).1 rfl) fun ρ w' hρ hw hf => ?_
        have h66 : (Kn.hos hs).holds (ρ (.tmp 66)) w' := (hf 66).1 rfl
        have h67 : (Kn.hos hs).holds (ρ (.tmp 67)) w' := (hf 67).1 rfl
        exact Exec.kcall #[ρ (.tmp 66), ρ (.tmp 67)] hρ rfl rfl (by simp []) Try.func39 (by rfl) (by rfl) ((holesEq_any _ _ hs w' h66 h67).mono fun e w'' h => ⟨_, h.1, rfl, h.2⟩)
      · refine StepOK.guarded (kn_stable _) 19 false 64 rfl rfl (fun ρ w _ _ hf => (hf 64).1 rfl) fun ρ w' hρ hw hf => ?_
        have h68 : ρ (.tmp 68) = (.bool true) := (hf 68).1 rfl
        exact Exec.same (v := (.bool false)) rfl (by simp [go_sem, hρ.const, h68]) rfl
      · refine StepOK.plain (kn_stable _) rfl fun ρ w' hρ hw hf => ?_
        have h64 : ρ (.tmp 64) = (.bool false) := (hf 64).1 rfl
        have h69 : ρ (.tmp 69) = (.bool false) := (hf 69).1 rfl
        exact Exec.kpickF rfl rfl h64 h69
      · refine StepOK.plain (kn_stable _) rfl fun ρ w' hρ hw hf => ?_
        have h70 : ρ (.tmp 70) = (.bool false) := (hf 70).1 rfl
        exact Exec.kmove rfl rfl h70
      · refine StepOK.guarded (kn_stable _) 26 false 71 rfl rfl (fun ρ w _ _ hf => (hf 71).1 rfl) fun ρ w' hρ hw hf => ?_
        have h15 : ρ (.tmp 15) = (.slice tao k tac) := (hf 15).2 rfl rfl
        exact Exec.kmove rfl rfl h15
      · refine StepOK.guarded (kn_stable _) 26 false 71 rfl rfl (fun ρ w _ _ hf => (hf 71).1 rfl) fun ρ w' hρ hw hf => ?_
        have h72 : ρ (.tmp 72) = (.slice tao k tac) := (hf 72).1 rfl
        exact Exec.same (v := (.int .i64 (k : Nat))) rfl (by simp [go_sem, hρ.const, h72]) rfl
      · refine StepOK.guarded (kn_stable _) 26 false 71 rfl rfl (fun ρ w _ _ hf => (hf 71).1 rfl) fun ρ w' hρ hw hf => ?_
        have h14 : ρ (.tmp 14) = (.slice hbo k hbc) := (hf 14).2 rfl rfl
        exact Exec.kmove rfl rfl h14
      · refine StepOK.guarded (kn_stable _) 26 false 71 rfl rfl (fun ρ w _ _ hf => (hf 71).1 rfl) fun ρ w' hρ hw hf => ?_
        have h74 : ρ (.tmp 74) = (.slice hbo k hbc) := (hf 74).1 rfl
        exact Exec.same (v := (.int .i64 (k : Nat))) rfl (by simp [go_sem, hρ.const, h74]) rfl
      · refine StepOK.guarded (kn_stable _) 26 false 71 rfl rfl (fun ρ w _ _ hf => (hf 71).1 rfl) fun ρ w' hρ hw hf => ?_
        have h73 : ρ (.tmp 73) = (.int .i64 (k : Nat)) := (hf 73).1 rfl
        have h75 : ρ (.tmp 75) = (.int .i64 (k : Nat)) := (hf 75).1 rfl
        exact Exec.same (v := (.bool false)) rfl (by simp [go_sem, hρ.const, h73, h75]) rfl
      · refine StepOK.plain (kn_stable _) rfl fun ρ w' hρ hw hf => ?_
        have h71 : ρ (.tmp 71) = (.bool false) := (hf 71).1 rfl
        have h76 : ρ (.tmp 76) = (.bool false) := (hf 76).1 rfl
        exact Exec.kpickF rfl rfl h71 h76
    case fin =>
      intro ν w9 hfin hx9
      have e0 : ν 77 = .bool false := hfin 32 77 rfl
      simp only [Exit.then, ended, List.foldl_cons, List.foldl_nil, List.setIfInBounds_toArray, List.set_cons_succ, List.set_cons_zero, e0]
      have HX9 := Lib.hid (HX8.out.trans hx9); have HTX9 := Lib.hid (HTX.out.ext hx9); have HTB9 := Lib.hid (HTB.out.ext hx9)
      clear hfin hx9 e0
      clear HB HV HF HOK HGX HBX HBB HCB HHB HTX HTB HF1 HF2 HHO HC20 HL20 hrx
      have hk63 : k ≤ 9223372036854775807 := by have := HTL.out; omega
      obtain ⟨ci, chi, _, chs, _⟩ := info_parts infoStrR
      have CHI := Lib.hid chi; have CHS := Lib.hid chs
      clear chi chs
      go_wp2
      go_loopw [16] (fun ix wr => ∃ j : Nat, j ≤ k ∧ ix = .int .i64 j ∧ Hid (Ext w9 wr)) (fun ix _ => k - (intOf ix).toNat)
      case atStart => exact ⟨0, Nat.zero_le _, rfl, Lib.hid (Ch.refl _ _)⟩
      case round =>
        obtain ⟨j, hj, rfl, HXr⟩ := hrel
        by_cases hlt : j < k
        · have hjl : j < ts.length := by have := HK.out; omega
          obtain ⟨tb, to1, rfl, r0⟩ := (HTX9.out.ext HXr.out).at hjl
          obtain ⟨ub, uo1, rfl, u0⟩ := (HTB9.out.ext HXr.out).at hjl
          generalize ts[j] = t at *
          have HR0 := Lib.hid r0; have HU0 := Lib.hid u0; have HLT := Lib.hid hlt
          clear r0 u0 hjl
          go_wp2
          refine wp_region_ext (reC tb to1 tac ub uo1 hbc k j t) mixedR (by rfl) (by rfl) ?all ?fin
          case all =>
            refine ⟨?_, ?_, ?_, ?_, ?_, ?_, ?_, ?_, ?_, trivial⟩
            · refine StepOK.plain (kn_stable _) rfl fun ρ w' hρ hw hf => ?_
              have h15 : ρ (.tmp 15) = (.slice (some ⟨tb, to1, none⟩) k tac) := (hf 15).2 rfl rfl
              exact Exec.kmove rfl rfl h15
            · refine StepOK.plain (kn_stable _) rfl fun ρ w' hρ hw hf => ?_
              have h16 : ρ (.tmp 16) = (.int .i64 (j : Nat)) := (hf 16).2 rfl rfl
              exact Exec.kmove rfl rfl h16
            · refine StepOK.plain (kn_stable _) rfl fun ρ w' hρ hw hf => ?_
              have h84 : ρ (.tmp 84) = (.slice (some ⟨tb, to1, none⟩) k tac) := (hf 84).1 rfl
              have h85 : ρ (.tmp 85) = (.int .i64 (j : Nat)) := (hf 85).1 rfl
              exact Exec.kindex rfl rfl Try.underlying82 CHI.out CHS.out h84 h85 HLT.out rfl
            · refine StepOK.plain (kn_stable _) rfl fun ρ w' hρ hw hf => ?_
              have h86 : ρ (.tmp 86) = (.pointer (some ⟨tb, to1 + j * 1, none⟩)) := (hf 86).1 rfl
              have hc : w'.cell? ⟨tb, to1 + j, none⟩ = some (strV t) := hw.cell (p := ⟨tb, to1 + j, none⟩) (fun f => f) _ (HR0.out)
              exact Exec.same (v := (strV t)) rfl (by simp [go_sem, hρ.const, h86, hc, strV]) rfl
            · refine StepOK.plain (kn_stable _) rfl fun ρ w' hρ hw hf => ?_
              have h14 : ρ (.tmp 14) = (.slice (some ⟨ub, uo1, none⟩) k hbc) := (hf 14).2 rfl rfl
              exact Exec.kmove rfl rfl h14
            · refine StepOK.plain (kn_stable _) rfl fun ρ w' hρ hw hf => ?_
              have h16 : ρ (.tmp 16) = (.int .i64 (j : Nat)) := (hf 16).2 rfl rfl
              exact Exec.kmove rfl rfl h16
            · refine StepOK.plain (kn_stable _) rfl fun ρ w' hρ hw hf => ?_
              have h88 : ρ (.tmp 88) = (.slice (some ⟨ub, uo1, none⟩) k hbc) := (hf 88).1 rfl
              have h89 : ρ (.tmp 89) = (.int .i64 (j : Nat)) := (hf 89).1 rfl
              exact Exec.kindex rfl rfl Try.underlying82 CHI.out CHS.out h88 h89 HLT.out rfl
            · refine StepOK.plain (kn_stable _) rfl fun ρ w' hρ hw hf => ?_
              have h90 : ρ (.tmp 90) = (.pointer (some ⟨ub, uo1 + j * 1, none⟩)) := (hf 90).1 rfl
              have hc : w'.cell? ⟨ub, uo1 + j, none⟩ = some (strV t) := hw.cell (p := ⟨ub, uo1 + j, none⟩) (fun f => f) _ (HU0.out)
              exact Exec.same (v := (strV t)) rfl (by simp [go_sem, hρ.const, h90, hc, strV]) rfl
            · refine StepOK.plain (kn_stable _) rfl fun ρ w' hρ hw hf => ?_
              have h87 : ρ (.tmp 87) = (strV t) := (hf 87).1 rfl
              have h91 : ρ (.tmp 91) = (strV t) := (hf 91).1 rfl
              exact Exec.kstrne rfl rfl Try.underlying9 h87 h91 (by simp [reC, Kn.is])
          case fin =>
            intro ν' w10 hfin hx10
            have e0 : ν' 92 = .bool false := hfin 8 92 rfl
            simp only [Exit.then, ended, List.foldl_cons, List.foldl_nil, List.setIfInBounds_toArray, List.set_cons_succ, List.set_cons_zero, e0]
            have HX10 := Lib.hid (HXr.out.trans hx10)
            clear hfin hx10 e0
            go_wp2
            go_roundw
            case rel => exact ⟨j + 1, HLT.out, by simp, HX10⟩
            case measure => simp [intOf]; have := HLT.out; omega
        · obtain rfl : k = j := by omega
          have HXF := Lib.hid (HX9.out.trans HXr.out)
          have HAW := Lib.hid (awake10_any wr)
          go_wp2_with fail
          refine HAW.out.mono ?_
          rintro e w11 ⟨rfl, hx11⟩
          have HX11 := Lib.hid (HXF.out.trans hx11)
          clear hx11 HAW
          go_wp2
          go_ret
          exact ⟨rfl, HX11.out⟩
end Go.Proofs.Ytegclfpmgilnpaa
