import Derived.Test.YtegclfpmgilnpaaGreatGRowC
import Derived.Test.YtegclfpmgilnpaaGreatGRowA
import Derived.Test.YtegclfpmgilnpaaGreatRowV
import Derived.Test.YtegclfpmgilnpaaGreatLibL
import Derived.Test.YtegclfpmgilnpaaGreatImgC
import Derived.Test.YtegclfpmgilnpaaGreatImgE
import Derived.Test.YtegclfpmgilnpaaGreatRelX
import Derived.Test.YtegclfpmgilnpaaGreatGRef
namespace Go.Proofs.YtegclfpmgilnpaaGreat
open Go.RowKit Go.Lac
theorem fieldCut_0 (w : World) (b : Nat) : (Instr.fieldAt 59 (.pointer (some ⟨b, 0, none⟩)) 0).run Tryz.prog w = .ok (.pointer (some ⟨b, 0, none⟩)) w := by kernel_rfl
theorem fieldCut_1 (w : World) (b : Nat) : (Instr.fieldAt 59 (.pointer (some ⟨b, 0, none⟩)) 1).run Tryz.prog w = .ok (.pointer (some ⟨b, 1, none⟩)) w := by kernel_rfl
theorem fieldCut_2 (w : World) (b : Nat) : (Instr.fieldAt 59 (.pointer (some ⟨b, 0, none⟩)) 2).run Tryz.prog w = .ok (.pointer (some ⟨b, 2, none⟩)) w := by kernel_rfl
def KnT.rowB {Ts : TypeId → Prop} (hT : ¬ Ts 90) (l : List Cel) : KnT Ts :=
  ⟨fun v w => w.ownsRow 0 90 5 v l.length (PcC l), fun _ _ _ hx h => own_tyb h hT hx⟩
abbrev rwkTs : TypeId → Prop := fun t => t = 43
def rwkB : Bx := ⟨9, 4, 6, 43, 43, 5⟩
def rwkT (r : Rl) (cv vw : Value) (l : List Cel) : Tmp → KnT rwkTs
  | 40 => .is vw
  | 41 => KnT.rowB (by decide) l
  | 42 => .is (.agg (relv r cv))
  | 43 => KnT.relO (by decide) r
  | 8 => KnT.rowB (by decide) l
  | _ => .any
theorem encB_lenB {ver : Nat} {r : Rl} {l : List Cel} (hver : ver = 1 ∨ ver = 2) (hok : ∀ c ∈ l, c.ok) (hf : fitsE r l = 0) : (encB ver l).length ≤ 100000 := by
  obtain ⟨h1, h2, h3⟩ := fits_zero hf
  have := encLen hver (fits_len16 hf) hok (fun j a b => h3 j a b) h2 l.length
  rwa [List.take_length] at this
theorem encB_pos {ver : Nat} {r : Rl} {l : List Cel} (hok : ∀ c ∈ l, c.ok) (hf : fitsE r l = 0) : 0 < (encB ver l).length := by
  obtain ⟨h1, h2, h3⟩ := fits_zero hf
  have hz := rlErr_zero h1
  have h16 := fits_len16 hf
  unfold encB
  rw [List.length_append, mapB_length _ (by simp [nullsOf]; omega)]
  have : 1 ≤ r.cols.length := by have := hz.2.2.2.2.1; omega
  have h4 : (nullsOf l).length = r.cols.length := by simp [nullsOf, h2]
  rw [h4]
  have : 0 < sizeN r.cols.length := by unfold sizeN; omega
  omega
theorem encode_okB {ver : Nat} (r : Rl) (cv vw : Value) (l : List Cel) (w : World) (hver : ver = 1 ∨ ver = 2) (hb : ColS w cv r.cols) (hf : r.fits) (hv : PcS w vw l) (hok : ∀ c ∈ l, c.ok) (h0 : fitsE r l = 0) :
    Calls Tryz.prog 20 #[vw, .agg (relv r cv), .int .u8 (ver : Nat)] w fun e w' => ∃ s, e = .returned (.tuple #[s, .int .i64 0]) ∧ Ext w w' ∧ Rd w' s (encB ver l) := by
  refine (rowEncode_any r cv vw l ver w hb hf hv hok).mono ?_
  rintro e w' ⟨hx, s, rfl, hs⟩
  have hE : encE ver r l = 0 := by unfold encE; rw [if_neg (by omega)]; exact h0
  rw [hE] at hs ⊢
  exact ⟨s, rfl, hx, by rwa [if_pos rfl] at hs⟩
theorem take_okB {ver : Nat} (r : Rl) (cv : Value) (u : Nat) (l : List Cel) (rest : List UInt8) (w : World) (hver : ver = 1 ∨ ver = 2) (hb : ColS w cv r.cols) (hf : r.fits) (hok : ∀ c ∈ l, c.ok) (h0 : fitsE r l = 0) (h : IsR w u (encB ver l ++ rest, 0)) :
    Calls Tryz.prog 8 #[RPtr u, .agg (relv r cv), .int .u8 (ver : Nat)] w fun e w' => ∃ a b, e = .returned (.tuple #[a, b]) ∧ Only u w w' ∧ IsR w' u (rest, 0) ∧ OwnPr w.heap.size w' a (l.map cOut) ∧ OwnHt w.heap.size w' b (holesL l) := by
  refine (rowTake_any r cv u _ ver w hb hf h).mono ?_
  rintro e w' ⟨a, b, rfl, k1, k2, k3, k4⟩
  rw [rowTake_put rest hver hok h0] at k2 k3 k4
  exact ⟨a, b, rfl, k1, k2, k3, k4⟩
theorem take_lackB {ver m : Nat} (r : Rl) (cv : Value) (u : Nat) (l : List Cel) (w : World) (hver : ver = 1 ∨ ver = 2) (hb : ColS w cv r.cols) (hf : r.fits) (hok : ∀ c ∈ l, c.ok) (h0 : fitsE r l = 0) (hm : m < (encB ver l).length) (h : IsR w u ((encB ver l).take m, 0)) :
    Calls Tryz.prog 8 #[RPtr u, .agg (relv r cv), .int .u8 (ver : Nat)] w fun e w' => ∃ a b, e = .returned (.tuple #[a, b]) ∧ Only u w w' ∧ IsR w' u ([], 1) ∧ w'.ownsRow w.heap.size 90 5 a 0 [] ∧ w'.ownsRow w.heap.size 70 2 b 0 [] := by
  refine (rowTake_any r cv u _ ver w hb hf h).mono ?_
  rintro e w' ⟨a, b, rfl, k1, k2, k3, k4⟩
  rw [rowTake_cut hver hok h0 hm] at k2 k3 k4
  exact ⟨a, b, rfl, k1, k2, k3, k4⟩
theorem fill_okB {r : Rl} (v hv tv : Value) (l : List Cel) (w : World) (h0 : fitsE r l = 0) (h1 : PcS w v (l.map cOut)) (h2 : HoS w hv (holesL l)) (h3 : TxR w tv (textsL l)) :
    Calls Tryz.prog 21 #[v, hv, tv] w fun e w' => ∃ y, e = .returned (.tuple #[y, .int .i64 0]) ∧ Ext w w' ∧ OwnPr w.heap.size w' y l := by
  have h16 := fits_len16 h0
  refine (fill_any v hv tv _ _ _ w h1 h2 h3 (by simp; omega) (Nat.le_trans (holesL_length l) (by omega))).mono ?_
  rintro e w' ⟨y, rfl, hx, ho⟩
  obtain ⟨f1, f2⟩ := fill_back h0
  rw [f2] at ho; rw [f1]
  exact ⟨y, rfl, hx, ho⟩
theorem HoS.shapeB {w : World} {v : Value} {l : List Ho} (h : HoS w v l) : ∃ ao cap, v = .slice ao l.length cap ∧ l.length ≤ cap ∧ cap ≤ maxLen := h.shape
theorem b_snoc (l : List UInt8) (x : UInt8) : (⟨l.toArray⟩ : ByteArray) ++ ⟨#[x]⟩ = ⟨(l ++ [x]).toArray⟩ := by
  apply ByteArray.ext
  simp
theorem a_next (n : Nat) : (⟨(List.replicate n (97 : UInt8)).toArray⟩ : ByteArray) ++ ⟨#[97]⟩ = ⟨(List.replicate (n + 1) (97 : UInt8)).toArray⟩ := by
  rw [List.replicate_succ']
  exact b_snoc _ _
def strLen : Value → Nat
  | .string s => s.size
  | _ => 0
def Kn.reader (B : Nat) (s : RS) : Kn := ⟨fun v w => ∃ u, v = RPtr u ∧ IsR w u s ∧ B ≤ u, fun _ _ _ k ⟨u, h1, h2, h3⟩ => ⟨u, h1, h2.ext k, h3⟩⟩
def rdT (B g : Nat) (at' m n nb : Nat) (ao bo : Option Addr) (ac bc : Nat) (E b : List UInt8) : Tmp → Kn
  | 51 => .is (.slice ao n ac)
  | 52 => Kn.reader B (E, 0)
  | 53 => .is (.pointer (some ⟨g, 1, none⟩))
  | 54 => .is (.slice bo nb bc)
  | 55 => Kn.reader B (b, 0)
  | 56 => .is (.slice ao n ac)
  | 57 => .is (.pointer (some ⟨g, 2, none⟩))
  | 58 => .is (.int .u16 (at' : Nat))
  | 59 => .is (.int .i64 (at' : Nat))
  | 60 => .is (.slice ao n ac)
  | 61 => .is (.int .i64 (n : Nat))
  | 62 => .is (.int .i64 (n : Nat))
  | 63 => .is (.int .i64 (m : Nat))
  | 64 => .rd (E.take m)
  | 65 => Kn.reader B (E.take m, 0)
  | 12 => Kn.reader B (E, 0)
  | 13 => Kn.reader B (b, 0)
  | 14 => Kn.reader B (E.take m, 0)
  | _ => .any
set_option maxRecDepth 20000 in
set_option maxHeartbeats 16000000 in
theorem rowBack_walk (v : Value) (l : List Cel) (r : Rl) (cv : Value) (x : Nat) (bv : Value) (b : List UInt8) (at' : Nat) (w : World) (hv : RcS w v l) (hb : ColS w cv r.cols) (hf : r.fits) (hok : ∀ c ∈ l, c.ok) (hbs : Rd w bv b) (hat : at' < 65536) (hxv : x < 256) :
    Calls Tryz.prog 4 #[v, .agg (relv r cv), .agg #[.int .u8 (x : Nat), bv, .int .u16 (at' : Nat)]] w fun e w' => e = .returned (.bool true) ∧ Ext w w' := by
  obtain ⟨W, hW⟩ : ∃ W, W = (w.alloc (.cells (relv r cv) 28)).alloc (.cells #[.int .u8 (x : Nat), bv, .int .u16 (at' : Nat)] 59) := ⟨_, rfl⟩
  have hx : Ext w W := by rw [hW]; exact ((Ch.refl _ _).alloc _).alloc _
  have HBOX : Hid (W.heap[w.heap.size]? = some (.cells (relv r cv) 28 (0, 0))) := Lib.hid (by rw [hW]; exact heap_alloc2_old _ _ _)
  have HCUT : Hid (W.heap[w.heap.size + 1]? = some (.cells #[.int .u8 (x : Nat), bv, .int .u16 (at' : Nat)] 59 (0, 0))) := Lib.hid (by rw [hW]; exact heap_alloc2_new _ _ _)
  have HFT := Lib.hid (rfits_any r cv v l W (ColS.ext hb hx) hf (RcS.ext hv hx))
  have HX := Lib.hid hx; have HW := Lib.hid hW
  obtain ⟨ao, cap, hcv, _⟩ := id hb
  obtain ⟨vo, vcap, hve, _⟩ := hv.shape
  obtain ⟨bo, bcap, hbe⟩ := hbs.shape
  subst hcv; subst hve; subst hbe
  have HB := Lib.hid hb; have HV := Lib.hid hv; have HF := Lib.hid hf; have HOK := Lib.hid hok; have HBS := Lib.hid hbs
  have HFC0 := fieldCut_0; have HFC1 := fieldCut_1; have HFC2 := fieldCut_2
  obtain ⟨y, hy⟩ : ∃ y, y = x % 2 := ⟨_, rfl⟩
  obtain ⟨V, hVe⟩ : ∃ V, V = 1 + y := ⟨_, rfl⟩
  have HVER : Hid (V = 1 ∨ V = 2) := Lib.hid (by omega)
  have hmod : (x : Int).tmod 2 = (y : Int) := by rw [Int.tmod_eq_emod_of_nonneg (by omega)]; omega
  have hmod' : (x : Int) % 2 = (y : Int) := by omega
  have hw1 : IntKind.u8.wrap (y : Int) = (y : Int) := by rw [IntKind.wrap_u8]; omega
  have hw2 : IntKind.u8.wrap (1 + (y : Int)) = (V : Int) := by rw [IntKind.wrap_u8]; omega
  have k0 : W.cell? ⟨w.heap.size + 1, 0, none⟩ = some (.int .u8 (x : Nat)) := by rw [cell_of_row _ _ _ _ _ _ HCUT.out]; rfl
  have k1 : W.cell? ⟨w.heap.size + 1, 1, none⟩ = some (.slice bo b.length bcap) := by rw [cell_of_row _ _ _ _ _ _ HCUT.out]; rfl
  obtain ⟨c0, c1, c2, c3, c4⟩ := row5 HBOX.out
  rw [hW] at c0 c1 c2 c3 c4 k0 k1
  have HAT := Lib.hid hat
  clear hb hv hf hok hbs hx hW hat hVe hy
  unfold relv strV at HFT HW HBOX c0 c1 c2 c3 c4 k0 k1 ⊢
  by_cases h0 : fitsE r l = 0
  case neg =>
    have en : (((fitsE r l : Nat) : Int) != 0) = true := by simpa using h0
    clear h0
    generalize fitsE r l = E at *
    generalize r.cols.length = n at *
    generalize l.length = m at *
    go_enter Tryz.func4, Tryz.ntmps4
    go_wp2_with fail
    rw [← HW.out]
    refine HFT.out.mono ?_
    rintro e w2 ⟨rfl, hx2⟩
    have HX2 := Lib.hid (HX.out.trans hx2); clear hx2
    go_wp2
    go_ret
    exact ⟨rfl, HX2.out⟩
  have en : (((fitsE r l : Nat) : Int) != 0) = false := by rw [h0]; rfl
  have HF0 := Lib.hid h0
  have HL16 := Lib.hid (fits_len16 h0)
  have HC16 : Hid (r.cols.length ≤ 16) := Lib.hid (by have := (fits_zero h0).2.1; have := fits_len16 h0; omega)
  clear h0
  generalize hE0 : fitsE r l = E at HFT en
  clear hE0
  by_cases hbl : 2000 < b.length
  · have hbl' : (2000 : Int) < ((b.length : Nat) : Int) := by omega
    clear hbl
    generalize b.length = nb at *
    generalize r.cols.length = n at *
    generalize l.length = m at *
    go_enter Tryz.func4, Tryz.ntmps4
    go_wp2_with fail
    rw [← HW.out]
    refine HFT.out.mono ?_
    rintro e w2 ⟨rfl, hx2⟩
    have HX2 := Lib.hid (HX.out.trans hx2)
    have k1' : w2.cell? ⟨w.heap.size + 1, 1, none⟩ = some (.slice bo nb bcap) := by rw [cell_of_row _ _ _ _ _ _ (heap_ext hx2 HCUT.out)]; rfl
    clear hx2
    go_wp2
    go_ret
    exact ⟨rfl, HX2.out⟩
  have hbl' : ¬ (2000 : Int) < ((b.length : Nat) : Int) := by omega
  have HBL : Hid (b.length ≤ 2000) := Lib.hid (by omega)
  clear hbl
  go_enter Tryz.func4, Tryz.ntmps4
  go_wp2_with fail
  rw [← HW.out]
  refine HFT.out.mono ?_
  rintro e w3 ⟨rfl, hx3⟩
  have HX3 := Lib.hid (HX.out.trans hx3)
  have HBOX3 := Lib.hid (heap_ext hx3 HBOX.out)
  have HCUT3 := Lib.hid (heap_ext hx3 HCUT.out)
  have k1' : w3.cell? ⟨w.heap.size + 1, 1, none⟩ = some (.slice bo b.length bcap) := by rw [cell_of_row _ _ _ _ _ _ HCUT3.out]; rfl
  clear hx3 HFT HBOX HCUT c0 c1 c2 c3 c4 k0 k1
  go_wp2
  clear k1' hmod hmod' hw1 hw2
  refine wp_region_boxes (rwkT r (.slice ao r.cols.length cap) (.slice vo l.length vcap) l) [rwkB] mixedR (by rfl) (by rfl) ?all ?fin
  case all =>
    refine ⟨?_, ?_, ?_, ?_, ?_, ?_, ?_, trivial⟩
    · refine StepA.bplain (by rfl) (by rfl) rfl fun ρ w4 L hρ hw hf => ?_
      have h : ρ (.tmp 0) = .slice vo l.length vcap := (hf 0).2 rfl rfl
      exact Exec.kmove (T := fun d => (rwkT r (.slice ao r.cols.length cap) (.slice vo l.length vcap) l d).kn) rfl rfl h
    · refine StepA.bplain (by rfl) (by rfl) rfl fun ρ w4 L hρ hw hf => ?_
      have h : ρ (.tmp 40) = .slice vo l.length vcap := (hf 40).1 rfl
      refine Exec.kcall #[.slice vo l.length vcap] hρ rfl rfl (by simp [h]) Tryz.func19 (by rfl) (by rfl) ((own10_any _ l w4 (RcS.ext HV.out (HX3.out.trans hw)) (by have := HL16.out; omega)).mono ?_)
      rintro e w' ⟨y, rfl, h1, h2⟩
      exact ⟨_, rfl, ownsRow_down h2 (Nat.zero_le _), h1⟩
    · refine StepA.bplain (by rfl) (by rfl) rfl fun ρ w4 L hρ hw hf => ?_
      have h : ρ (.tmp 4) = .pointer (some ⟨w.heap.size, 0, none⟩) := (hf 4).2 rfl rfl
      exact Exec.kloadrow (T := fun d => (rwkT r (.slice ao r.cols.length cap) (.slice vo l.length vcap) l d).kn) rfl rfl h (heap_of_ext hw HBOX3.out) Tryz.underlying28 rfl infoBk rfl
    · refine StepA.bplain (by rfl) (by rfl) rfl fun ρ w4 L hρ hw hf => ?_
      have h : ρ (.tmp 42) = .agg (relv r (.slice ao r.cols.length cap)) := (hf 42).1 rfl
      refine Exec.kcall #[.agg (relv r (.slice ao r.cols.length cap))] hρ rfl rfl (by simp [h]) Tryz.func9 (by rfl) (by rfl) ((relOwn_any r (.slice ao r.cols.length cap) w4 (ColS.ext HB.out (HX3.out.trans hw)) (by have := HC16.out; omega)).mono ?_)
      rintro e w' ⟨cc, rfl, h1, h2⟩
      exact ⟨_, rfl, ⟨cc, rfl, ownsRow_down h2 (Nat.zero_le _)⟩, h1⟩
    · exact StepA.balloc (b := rwkB) (by rfl) (by simp) (show 9 < 192 by decide) rfl (by rfl) rfl rfl (relv .zero (.slice none 0 0)) rfl (fun x w => by unfold execOp; simp [go_sem, rwkB, relv, Rl.zero, strV])
    · refine StepA.bplain (by rfl) (by rfl) rfl fun ρ w4 L hρ hw hf => ?_
      have h := (hf 41).1 rfl
      exact Exec.kassign (T := fun d => (rwkT r (.slice ao r.cols.length cap) (.slice vo l.length vcap) l d).kn) rfl rfl h
    · exact StepA.bstore (by rfl) (by rfl) (b := rwkB) (by simp) rfl (by rfl) (by decide) rfl rfl rfl (by rfl) (by rfl) (by rfl) rfl infoOw (fun v w h => by obtain ⟨c, rfl, ho⟩ := h; obtain ⟨ao, cap, rfl⟩ := owns_shape ho; exact ⟨_, rfl, rfl, relv_one _ _ _ _⟩)
  case fin =>
    intro ν w4 hV hx4
    obtain ⟨g5, c5, e5, s5, k5, _, q5⟩ := hV 4 9 rfl
    obtain ⟨cx, ec5, hcx⟩ : ∃ c, Value.agg c5 = .agg (relv r c) ∧ w4.ownsRow 0 93 3 c r.cols.length (colC r.cols) := q5 (by rfl)
    cases ec5
    have hy : w4.ownsRow 0 90 5 (ν 8) l.length (PcC l) := hV 5 8 rfl
    obtain ⟨xo, xc, rfl⟩ := owns_shape hcx
    obtain ⟨yo, yc, hye⟩ := owns_shape hy
    rw [hye] at hy
    simp only [Exit.then, ended, List.foldl_cons, List.foldl_nil, List.setIfInBounds_toArray, List.set_cons_succ, List.set_cons_zero, e5, hye]
    have HX4 := Lib.hid (HX3.out.trans hx4)
    have HG5 : Hid (w4.heap[g5]? = some (.cells (relv r (.slice xo r.cols.length xc)) 43 (0, 0))) := Lib.hid k5
    have HCX := Lib.hid hcx; have HY := Lib.hid hy
    have HCUT4 := Lib.hid (heap_ext hx4 HCUT3.out)
    clear hV hx4 e5 k5 q5 s5 hcx hy hye HBOX3 HCUT3
    generalize ν 40 = v26 at *
    generalize ν 41 = v27 at *
    generalize ν 42 = v28 at *
    generalize ν 43 = v29 at *
    have HEN1 : Hid (Calls Tryz.prog 20 #[.slice yo l.length yc, .agg (relv r (.slice xo r.cols.length xc)), .int .u8 (V : Nat)] w4 fun e w' => ∃ s, e = .returned (.tuple #[s, .int .i64 0]) ∧ Ext w4 w' ∧ Rd w' s (encB V l)) := Lib.hid (encode_okB r _ _ l w4 HVER.out (Sl.ofOwns HCX.out) HF.out (Sl.ofOwns HY.out) HOK.out HF0.out)
    have HL1 : Hid ((encB V l).length ≤ 100000) := Lib.hid (encB_lenB HVER.out HOK.out HF0.out)
    have HMB : Hid (0 < (encB V l).length) := Lib.hid (encB_pos HOK.out HF0.out)
    obtain ⟨d0, d1, d2, d3, d4⟩ := row5 HG5.out
    unfold relv strV at HEN1
    go_wp2_with fail
    refine HEN1.out.mono ?_
    rintro e w5 ⟨s1, rfl, hx5, hs1⟩
    have HX5 := Lib.hid (HX4.out.trans hx5); have HG55 := Lib.hid (heap_ext hx5 HG5.out); have HCX5 := Lib.hid (HCX.out.ext hx5); have HY5 := Lib.hid (HY.out.ext hx5); have HS1 := Lib.hid hs1
    have HCUT5 := Lib.hid (heap_ext hx5 HCUT4.out)
    obtain ⟨so1, sc1, rfl, -⟩ := id hs1
    clear d0 d1 d2 d3 d4 hx5 hs1 HEN1 HG5 HCX HY HCUT4
    obtain ⟨E1, hE1⟩ : ∃ E, E = encB V l := ⟨_, rfl⟩
    rw [← hE1] at HL1 HS1 HMB ⊢
    have HE1 := Lib.hid hE1
    clear hE1
    generalize hn1 : E1.length = n1 at *
    have HN1 := Lib.hid hn1
    clear hn1
    go_wp2
    obtain ⟨m, hm⟩ : ∃ m, m = at' % n1 := ⟨_, rfl⟩
    have HM : Hid (m < n1) := Lib.hid (by rw [hm]; exact Nat.mod_lt _ HMB.out)
    have HMT : Hid ((at' : Int).tmod (n1 : Int) = (m : Int)) := Lib.hid (by have := HMB.out; rw [Int.tmod_eq_emod_of_nonneg (by omega), hm]; simp)
    have HNZ : Hid (((n1 : Int) == 0) = false) := Lib.hid (by have := HMB.out; simp; omega)
    have HMX : Hid (max (1 : Int) (n1 : Int) = (n1 : Int)) := Lib.hid (by have := HMB.out; omega)
    have HW64 : Hid (IntKind.i64.wrap (at' : Int) = (at' : Int)) := Lib.hid (by have := HAT.out; rw [IntKind.wrap_i64]; omega)
    have HMA : Hid (m = at' % n1) := Lib.hid hm
    clear hm
    obtain ⟨iu, hiu, hzu, hsu, hbu⟩ := info_parts infoU8
    have HIU := Lib.hid hiu; have HSU := Lib.hid hsu
    clear hiu hzu hsu hbu
    have K1 : Hid (w5.cell? ⟨w.heap.size + 1, 1, none⟩ = some (.slice bo b.length bcap)) := Lib.hid (by rw [cell_of_row _ _ _ _ _ _ HCUT5.out]; rfl)
    have K2 : Hid (w5.cell? ⟨w.heap.size + 1, 2, none⟩ = some (.int .u16 (at' : Nat))) := Lib.hid (by rw [cell_of_row _ _ _ _ _ _ HCUT5.out]; rfl)
    have hTf : ∀ b' ∈ ([⟨1, 52, 15, 12⟩, ⟨4, 55, 16, 13⟩, ⟨14, 65, 17, 14⟩] : List Fr), ∀ v wz, ((rdT w5.heap.size (w.heap.size + 1) at' m n1 b.length so1 bo sc1 bcap E1 b) b'.s).holds v wz → ∃ u, v = .pointer (some ⟨u, 0, none⟩) ∧ u < wz.heap.size := by
      intro b' hb' v wz h
      simp only [List.mem_cons, List.not_mem_nil, or_false] at hb'
      rcases hb' with rfl | rfl | rfl <;> (obtain ⟨u, rfl, h1, _⟩ := h; exact ⟨u, rfl, h1.lt⟩)
    refine wp_region_fresh [⟨1, 52, 15, 12⟩, ⟨4, 55, 16, 13⟩, ⟨14, 65, 17, 14⟩] (rdT w5.heap.size (w.heap.size + 1) at' m n1 b.length so1 bo sc1 bcap E1 b) mixedR (by rfl) (by rfl) (by rfl) ?all2 ?fin2
    case all2 =>
     refine ⟨?_, ?_, ?_, ?_, ?_, ?_, ?_, ?_, ?_, ?_, ?_, ?_, ?_, ?_, ?_, ?_, ?_, ?_, trivial⟩
     · refine StepA.fplain (by rfl) rfl fun ρ w' hρ hw hf => ?_
       have h10 : ρ (.tmp 10) = .slice so1 n1 sc1 := (hf 10).2 rfl rfl
       exact Exec.kmove rfl rfl h10
     · refine StepA.ffresh (by rfl) rfl (fun d h => by cases h; exact (show 52 < 192 by decide)) hTf fun ρ w' hρ hw hf => ?_
       have h51 : ρ (.tmp 51) = .slice so1 n1 sc1 := (hf 51).1 rfl
       exact Exec.kcallF #[.slice so1 n1 sc1] hρ rfl rfl (by simp [h51]) Tryz.func7 (by rfl) (by rfl) ((read_any _ E1 w' (HS1.out.ext hw) (by have := HL1.out; have := HN1.out; omega)).mono fun e w'' ⟨u, q1, q2, q3, q4⟩ => ⟨u, q1, ⟨u, rfl, q3, Nat.le_trans hw.size q4⟩, q2, q4⟩)
     · refine StepA.fplain (by rfl) rfl fun ρ w' hρ hw hf => ?_
       have h5 : ρ (.tmp 5) = .pointer (some ⟨w.heap.size + 1, 0, none⟩) := (hf 5).2 rfl rfl
       exact Exec.kfield rfl rfl h5 (fieldCut_1 w' _) rfl
     · refine StepA.fplain (by rfl) rfl fun ρ w' hρ hw hf => ?_
       have h53 : ρ (.tmp 53) = .pointer (some ⟨w.heap.size + 1, 1, none⟩) := (hf 53).1 rfl
       have hc := hw.cell (p := ⟨w.heap.size + 1, 1, none⟩) (fun f => f) _ K1.out
       exact Exec.same (v := .slice bo b.length bcap) rfl (by simp [go_sem, hρ.const, h53, hc]) rfl
     · refine StepA.ffresh (by rfl) rfl (fun d h => by cases h; exact (show 55 < 192 by decide)) hTf fun ρ w' hρ hw hf => ?_
       have h54 : ρ (.tmp 54) = .slice bo b.length bcap := (hf 54).1 rfl
       exact Exec.kcallF #[.slice bo b.length bcap] hρ rfl rfl (by simp [h54]) Tryz.func7 (by rfl) (by rfl) ((read_any _ b w' (HBS.out.ext (HX5.out.trans hw)) (by have := HBL.out; omega)).mono fun e w'' ⟨u, q1, q2, q3, q4⟩ => ⟨u, q1, ⟨u, rfl, q3, Nat.le_trans hw.size q4⟩, q2, q4⟩)
     · refine StepA.fplain (by rfl) rfl fun ρ w' hρ hw hf => ?_
       have h10 : ρ (.tmp 10) = .slice so1 n1 sc1 := (hf 10).2 rfl rfl
       exact Exec.kmove rfl rfl h10
     · refine StepA.fplain (by rfl) rfl fun ρ w' hρ hw hf => ?_
       have h5 : ρ (.tmp 5) = .pointer (some ⟨w.heap.size + 1, 0, none⟩) := (hf 5).2 rfl rfl
       exact Exec.kfield rfl rfl h5 (fieldCut_2 w' _) rfl
     · refine StepA.fplain (by rfl) rfl fun ρ w' hρ hw hf => ?_
       have h57 : ρ (.tmp 57) = .pointer (some ⟨w.heap.size + 1, 2, none⟩) := (hf 57).1 rfl
       have hc := hw.cell (p := ⟨w.heap.size + 1, 2, none⟩) (fun f => f) _ K2.out
       exact Exec.same (v := .int .u16 (at' : Nat)) rfl (by simp [go_sem, hρ.const, h57, hc]) rfl
     · refine StepA.fplain (by rfl) rfl fun ρ w' hρ hw hf => ?_
       have h58 : ρ (.tmp 58) = .int .u16 (at' : Nat) := (hf 58).1 rfl
       have hw64 := HW64.out
       exact Exec.same (v := .int .i64 (at' : Nat)) rfl (by simp [go_sem, hρ.const, h58, hw64]) rfl
     · refine StepA.fplain (by rfl) rfl fun ρ w' hρ hw hf => ?_
       have h10 : ρ (.tmp 10) = .slice so1 n1 sc1 := (hf 10).2 rfl rfl
       exact Exec.kmove rfl rfl h10
     · refine StepA.fplain (by rfl) rfl fun ρ w' hρ hw hf => ?_
       have h60 : ρ (.tmp 60) = .slice so1 n1 sc1 := (hf 60).1 rfl
       have hr : Rd w' (ρ (.tmp 60)) E1 := by rw [h60]; exact HS1.out.ext hw
       exact Exec.klen (ats := #[]) rfl rfl Tryz.underlying22 hr (show (Value.int .i64 (E1.length : Nat)) = .int .i64 (n1 : Nat) by rw [HN1.out])
     · refine StepA.fplain (by rfl) rfl fun ρ w' hρ hw hf => ?_
       have h61 : ρ (.tmp 61) = .int .i64 (n1 : Nat) := (hf 61).1 rfl
       have hmx := HMX.out
       exact Exec.same (v := .int .i64 (n1 : Nat)) rfl (by simp [go_sem, hρ.const, h61, hmx]; have := HMB.out; omega) rfl
     · refine StepA.fplain (by rfl) rfl fun ρ w' hρ hw hf => ?_
       have h59 : ρ (.tmp 59) = .int .i64 (at' : Nat) := (hf 59).1 rfl
       have h62 : ρ (.tmp 62) = .int .i64 (n1 : Nat) := (hf 62).1 rfl
       have hmt := HMT.out; have hn0 := HNZ.out
       exact Exec.same (v := .int .i64 (m : Nat)) rfl (by simp [go_sem, hρ.const, h59, h62, hmt, hn0]; have := HMB.out; omega) rfl
     · refine StepA.fplain (by rfl) rfl fun ρ w' hρ hw hf => ?_
       have h56 : ρ (.tmp 56) = .slice so1 n1 sc1 := (hf 56).1 rfl
       have h63 : ρ (.tmp 63) = .int .i64 (m : Nat) := (hf 63).1 rfl
       have hr : Rd w' (ρ (.tmp 56)) E1 := by rw [h56]; exact HS1.out.ext hw
       exact Exec.ktake rfl rfl Tryz.underlying22 HIU.out HSU.out hr h63 (by have := HM.out; have := HN1.out; omega) (fun v h => h)
     · refine StepA.ffresh (by rfl) rfl (fun d h => by cases h; exact (show 65 < 192 by decide)) hTf fun ρ w' hρ hw hf => ?_
       have h64 : Rd w' (ρ (.tmp 64)) (E1.take m) := (hf 64).1 rfl
       exact Exec.kcallF #[ρ (.tmp 64)] hρ rfl rfl (by simp []) Tryz.func7 (by rfl) (by rfl) ((read_any _ (E1.take m) w' h64 (by have := HL1.out; have := HN1.out; rw [List.length_take]; omega)).mono fun e w'' ⟨u, q1, q2, q3, q4⟩ => ⟨u, q1, ⟨u, rfl, q3, Nat.le_trans hw.size q4⟩, q2, q4⟩)
     · refine StepA.fcopy (by rfl) rfl (fun d h => by cases h; exact (show 12 < 192 by decide)) ?_ (fun ρ w' hρ hw hf b' hb' e => ?_) ⟨⟨1, 52, 15, 12⟩, by simp, rfl⟩
       · intro b' hb' e; simp only [List.mem_cons, List.not_mem_nil, or_false] at hb'; rcases hb' with rfl | rfl | rfl <;> first | rfl | (exfalso; revert e; decide)
       · have h : _ := (hf 52).1 rfl
         simp only [List.mem_cons, List.not_mem_nil, or_false] at hb'; rcases hb' with rfl | rfl | rfl <;> first | exact h | (exfalso; revert e; decide)
     · refine StepA.fcopy (by rfl) rfl (fun d h => by cases h; exact (show 13 < 192 by decide)) ?_ (fun ρ w' hρ hw hf b' hb' e => ?_) ⟨⟨4, 55, 16, 13⟩, by simp, rfl⟩
       · intro b' hb' e; simp only [List.mem_cons, List.not_mem_nil, or_false] at hb'; rcases hb' with rfl | rfl | rfl <;> first | rfl | (exfalso; revert e; decide)
       · have h : _ := (hf 55).1 rfl
         simp only [List.mem_cons, List.not_mem_nil, or_false] at hb'; rcases hb' with rfl | rfl | rfl <;> first | exact h | (exfalso; revert e; decide)
     · refine StepA.fcopy (by rfl) rfl (fun d h => by cases h; exact (show 14 < 192 by decide)) ?_ (fun ρ w' hρ hw hf b' hb' e => ?_) ⟨⟨14, 65, 17, 14⟩, by simp, rfl⟩
       · intro b' hb' e; simp only [List.mem_cons, List.not_mem_nil, or_false] at hb'; rcases hb' with rfl | rfl | rfl <;> first | rfl | (exfalso; revert e; decide)
       · have h : _ := (hf 65).1 rfl
         simp only [List.mem_cons, List.not_mem_nil, or_false] at hb'; rcases hb' with rfl | rfl | rfl <;> first | exact h | (exfalso; revert e; decide)
    case fin2 =>
    intro ν w6 hV hdis hx6
    obtain ⟨u1, eu1, r1, b1⟩ : (Kn.reader w5.heap.size (E1, 0)).holds (ν 12) w6 := hV 15 12 rfl
    obtain ⟨u2, eu2, r2, b2⟩ : (Kn.reader w5.heap.size (b, 0)).holds (ν 13) w6 := hV 16 13 rfl
    obtain ⟨u3, eu3, r3, b3⟩ : (Kn.reader w5.heap.size (E1.take m, 0)).holds (ν 14) w6 := hV 17 14 rfl
    have n12 := hdis ⟨1, 52, 15, 12⟩ (by simp) ⟨4, 55, 16, 13⟩ (by simp) (by decide)
    have n13 := hdis ⟨1, 52, 15, 12⟩ (by simp) ⟨14, 65, 17, 14⟩ (by simp) (by decide)
    have n23 := hdis ⟨4, 55, 16, 13⟩ (by simp) ⟨14, 65, 17, 14⟩ (by simp) (by decide)
    simp only [eu1, eu2, eu3] at n12 n13 n23
    have N12 : Hid (u1 ≠ u2) := Lib.hid (fun e => n12 (by rw [e]))
    have N13 : Hid (u1 ≠ u3) := Lib.hid (fun e => n13 (by rw [e]))
    have N23 : Hid (u2 ≠ u3) := Lib.hid (fun e => n23 (by rw [e]))
    simp only [Exit.then, ended, List.foldl_cons, List.foldl_nil, List.setIfInBounds_toArray, List.set_cons_succ, List.set_cons_zero, eu1, eu2, eu3]
    have HX6 := Lib.hid (HX5.out.trans hx6); have HG6 := Lib.hid (heap_ext hx6 HG55.out); have HG55' := HG55; have HCUT5' := HCUT5; have HCX6 := Lib.hid (HCX5.out.ext hx6); have HY6 := Lib.hid (HY5.out.ext hx6)
    have HCUT6 := Lib.hid (heap_ext hx6 HCUT5.out)
    have R1 := Lib.hid r1; have R2 := Lib.hid r2; have R3 := Lib.hid r3
    have HSZ : Hid (g5 < w5.heap.size ∧ w.heap.size + 1 < w5.heap.size) := Lib.hid ⟨(Array.getElem?_eq_some_iff.1 HG55.out).1, (Array.getElem?_eq_some_iff.1 HCUT5.out).1⟩
    have B1 := Lib.hid b1; have B2 := Lib.hid b2; have B3 := Lib.hid b3
    have HX56 := Lib.hid hx6
    clear hV hdis hx6 eu1 eu2 eu3 r1 r2 r3 b1 b2 b3 n12 n13 n23 hTf K1 K2 HS1 HNZ HMX HMT HW64 HIU HSU HCUT5 HG55
    obtain ⟨d0, d1, d2, d3, d4⟩ := row5 HG6.out
    have HT1 := Lib.hid (take_okB (ver := V) r (.slice xo r.cols.length xc) u1 l [] w6 HVER.out (Sl.ofOwns HCX6.out) HF.out HOK.out HF0.out (by rw [List.append_nil, ← HE1.out]; exact R1.out))
    unfold relv strV RPtr at HT1
    unfold RPtr
    go_wp2_with fail
    refine HT1.out.mono ?_
    rintro e wa ⟨a1, f1, rfl, k1, k2, k3, k4⟩
    have HXA : Hid (Ext w5 wa) := Lib.hid (Ch.transNew HX56.out (k1.mono fun j _ h => .inr (by have := B1.out; omega)))
    have HA1 : Hid (wa.ownsRow w6.heap.size 90 5 a1 l.length (PcC (l.map cOut))) := Lib.hid (by have := k3; unfold OwnPr at this; rwa [List.length_map] at this)
    have HB1 := Lib.hid k4; have Q1 := Lib.hid k2
    have Q2 := Lib.hid (R2.out.other R1.out N12.out.symm k1); have Q3 := Lib.hid (R3.out.other R1.out N13.out.symm k1)
    obtain ⟨ao1, ac1, rfl⟩ := owns_shape HA1.out
    obtain ⟨fo1, fc1, rfl⟩ := owns_shape k4
    clear k1 k2 k3 k4 d0 d1 d2 d3 d4 HT1 R1 R2 R3 N12 N13 HX56 HG6 HCUT6 HX6
    have HTX := Lib.hid (texts_any (.slice yo l.length yc) l wa (Sl.ofOwns (HY5.out.ext HXA.out)) (by have := HL16.out; omega))
    go_wp2_with fail
    refine HTX.out.mono ?_
    rintro e wc ⟨tv1, rfl, hxc, ht1⟩
    have HXC := Lib.hid hxc
    have HFL := Lib.hid (fill_okB (r := r) (.slice ao1 l.length ac1) (.slice fo1 (holesL l).length fc1) tv1 l wc HF0.out (by have := Sl.ofOwns (World.ownsRow.ext HA1.out hxc); unfold PcS; rwa [List.length_map]) (Sl.ofOwns (World.ownsRow.ext HB1.out hxc)) (Sl.ofOwns ht1))
    obtain ⟨to1, tc1, rfl⟩ := owns_shape ht1
    clear hxc ht1 HTX HA1 HB1
    go_wp2_with fail
    refine HFL.out.mono ?_
    rintro e wd ⟨y1, rfl, hxd, hy1⟩
    have HXD := Lib.hid (HXA.out.trans (HXC.out.trans hxd)); have HY1 := Lib.hid hy1
    have P1 := Lib.hid ((Q1.out.ext HXC.out).ext hxd); have P2 := Lib.hid ((Q2.out.ext HXC.out).ext hxd); have P3 := Lib.hid ((Q3.out.ext HXC.out).ext hxd)
    obtain ⟨yo1, yc1, rfl⟩ := owns_shape hy1
    clear hxd hy1 HFL HXC HXA Q1 Q2 Q3
    have HEN : Hid (Calls Tryz.prog 23 #[RPtr u1] wd fun e w' => e = .returned (.int .i64 0) ∧ wd = w') := Lib.hid (end_any u1 ([], 0) wd P1.out)
    unfold RPtr at HEN
    have HAL := Lib.hid (alikeRow_any (.slice yo1 l.length yc1) (.slice yo l.length yc) l l wd (Sl.ofOwns HY1.out) (Sl.ofOwns (World.ownsRow.ext HY5.out HXD.out)))
    rw [decide_eq_true rfl] at HAL
    go_wp2_with fail
    refine HEN.out.mono ?_
    rintro e w' ⟨rfl, rfl⟩
    go_wp2_with fail
    refine HAL.out.mono ?_
    rintro e we ⟨rfl, hxe⟩
    have HXE := Lib.hid hxe
    have HBA := Lib.hid (back10_any (.slice yo1 l.length yc1) l we (Sl.ofOwns (World.ownsRow.ext HY1.out hxe)) (by have := HL16.out; omega))
    clear hxe HAL HEN HY1
    go_wp2_with fail
    refine HBA.out.mono ?_
    rintro e wf ⟨yb, rfl, hxf, hyb⟩
    have HXF := Lib.hid (HXE.out.trans hxf)
    have HSA := Lib.hid (sameR_any yb (.slice vo l.length vcap) l l wf hyb.s (RcS.ext HV.out (HX5.out.trans (HXD.out.trans HXF.out))))
    rw [decide_eq_true rfl] at HSA
    clear hxf hyb HXE HBA
    go_wp2_with fail
    refine HSA.out.mono ?_
    rintro e wg ⟨rfl, hxg⟩
    have HXG := Lib.hid (HXD.out.trans (HXF.out.trans hxg))
    have HDG := Lib.hid (HXF.out.trans hxg)
    have O2 := Lib.hid (P2.out.ext HDG.out); have O3 := Lib.hid (P3.out.ext HDG.out)
    clear hxg HSA HXF HXD HDG P1 P2 P3
    obtain ⟨d0, d1, d2, d3, d4⟩ := row5 (heap_ext HXG.out HG55'.out)
    have HT3 := Lib.hid (take_lackB (ver := V) (m := m) r (.slice xo r.cols.length xc) u3 l wg HVER.out (Sl.ofOwns (World.ownsRow.ext HCX5.out HXG.out)) HF.out HOK.out HF0.out (by rw [← HE1.out, HN1.out]; exact HM.out) (by rw [← HE1.out]; exact O3.out))
    unfold relv strV RPtr at HT3
    go_wp2_with fail
    refine HT3.out.mono ?_
    rintro e wh ⟨a3, f3, rfl, k1, k2, k3, k4⟩
    have HXH : Hid (Ext w5 wh) := Lib.hid (Ch.transNew HXG.out (k1.mono fun j _ h => .inr (by have := B3.out; omega)))
    have S3 := Lib.hid k2
    have S2 := Lib.hid (O2.out.other O3.out N23.out k1)
    obtain ⟨ao3, ac3, rfl⟩ := owns_shape k3
    obtain ⟨fo3, fc3, rfl⟩ := owns_shape k4
    clear k1 k2 k3 k4 d0 d1 d2 d3 d4 HT3 O2 O3 HXG
    have HER : Hid (Calls Tryz.prog 14 #[RPtr u3] wh fun e w' => e = .returned (.int .i64 1) ∧ wh = w') := Lib.hid (err_w u3 ([], 1) wh S3.out.weak)
    unfold RPtr at HER
    go_wp2_with fail
    refine HER.out.mono ?_
    rintro e w' ⟨rfl, rfl⟩
    obtain ⟨X, hX⟩ : ∃ X, X = rowTake V r (b, 0) := ⟨_, rfl⟩
    have HT2 := Lib.hid (rowTake_any r (.slice xo r.cols.length xc) u2 (b, 0) V wh (Sl.ofOwns (World.ownsRow.ext HCX5.out HXH.out)) HF.out S2.out)
    unfold RowTkPost at HT2
    rw [← hX] at HT2
    have HXT := Lib.hid hX
    clear hX
    obtain ⟨d0, d1, d2, d3, d4⟩ := row5 (heap_ext HXH.out HG55'.out)
    unfold relv strV RPtr at HT2
    go_wp2_with fail
    refine HT2.out.mono ?_
    rintro e wi ⟨a2, f2, rfl, k1, k2, k3, k4⟩
    have HXI : Hid (Ext w5 wi) := Lib.hid (Ch.transNew HXH.out (k1.mono fun j _ h => .inr (by have := B2.out; omega)))
    have HA2 := Lib.hid k3; have HB2 := Lib.hid k4
    have HED : Hid (Calls Tryz.prog 23 #[RPtr u2] wi fun e w' => e = .returned (.int .i64 (endR X.2)) ∧ wi = w') := Lib.hid (end_any u2 X.2 wi k2)
    unfold RPtr at HED
    obtain ⟨ao2, ac2, rfl⟩ := owns_shape k3
    obtain ⟨fo2, fc2, rfl⟩ := owns_shape k4
    clear k1 k2 k3 k4 d0 d1 d2 d3 d4 HT2 S2 S3 HER HXH
    by_cases hen : endR X.2 = 0
    case neg =>
      have en2 : ((endR X.2) != 0) = true := by simpa using hen
      clear hen
      generalize endR X.2 = E9 at *
      generalize X.1.1.length = x1 at *
      generalize X.1.2.length = x2 at *
      go_wp2_with fail
      refine HED.out.mono ?_
      rintro e w' ⟨rfl, rfl⟩
      go_wp2_with fail
      refine (awake10_any wi).mono ?_
      rintro e w' ⟨rfl, hxz⟩
      have HXZ := Lib.hid ((HX5.out.trans HXI.out).trans hxz); clear hxz
      go_wp2
      go_ret
      exact ⟨rfl, HXZ.out⟩
    rw [hen] at HED
    obtain ⟨z1, z2⟩ := endR_zero hen
    clear hen
    obtain ⟨⟨Z, H⟩, sb, se⟩ := X
    simp only at z1 z2
    subst z1; subst z2
    simp only at HA2 HB2
    have HRI := Lib.hid (rowTake_inv HXT.out.symm rfl)
    clear HXT
    simp only
    obtain ⟨chi, chh, _, csh, _⟩ := info_parts infoHoP
    have CHH := Lib.hid chh; have CSH := Lib.hid csh
    clear chh csh
    have HCAP : Hid (H.length ≤ fc2) := Lib.hid (by obtain ⟨_, _, e, g1, _⟩ := (HoS.shapeB (Sl.ofOwns HB2.out)); cases e; exact g1)
    have HH16 : Hid (H.length ≤ 16) := Lib.hid HRI.out.2.2.2.2.2.2.2.1
    have HHS : Hid (∀ x ∈ H, 0 ≤ x.s ∧ x.s ≤ 2048) := Lib.hid HRI.out.2.2.2.2.2.2.2.2
    have HZ16 : Hid (Z.length ≤ 16) := Lib.hid (by have := HRI.out.2.2.2.2.2.2.1; have := HC16.out; omega)
    have HFE : Hid (fillE Z H (asOf H) = 0) := Lib.hid HRI.out.2.2.1
    have HFF : Hid (fitsE r (fillR Z H (asOf H)) = 0) := Lib.hid HRI.out.2.2.2.1
    have HFO : Hid (∀ c ∈ fillR Z H (asOf H), c.ok) := Lib.hid HRI.out.2.2.2.2.1
    have HFB : Hid (encB V (fillR Z H (asOf H)) = b) := Lib.hid HRI.out.2.2.2.2.2.1
    clear HRI HMA HL1 HMB HN1 HM HF0 HB HV HOK HC16 HY5 hxv HE1 HSZ B1 B2 B3 N23
    go_wp2_with fail
    refine HED.out.mono ?_
    rintro e w' ⟨rfl, rfl⟩
    clear HED
    go_wp2
    go_loopw [21, 22] (fun tv ix wr => ∃ k : Nat, k ≤ H.length ∧ ix = .int .i64 (k : Nat) ∧ Ext wi wr ∧ OwnTxR wi.heap.size wr tv (asOf (H.take k))) (fun _ ix _ => H.length - (intOf ix).toNat)
    case atStart => exact ⟨0, Nat.zero_le _, rfl, Ch.refl _ _, World.ownsRow_nil _ _ _ _⟩
    case round =>
      obtain ⟨k, hk, rfl, hxr, hot⟩ := hrel
      have HXR := Lib.hid hxr; have HOT := Lib.hid hot
      have hlen : (asOf (H.take k)).length = k := by rw [asOf_length, List.length_take]; omega
      obtain ⟨to, tc, rfl⟩ := owns_shape hot
      have HLEN := Lib.hid hlen
      clear hxr hot
      rw [hlen]
      rw [hlen] at HOT
      clear hlen
      by_cases hlt : k < H.length
      · obtain ⟨hb', ho', hfe, q0, q1⟩ := (HoS.ext (Sl.ofOwns HB2.out) HXR.out).at hlt
        subst hfe
        have hidx := run_indexSl wr Tryz.underlying37 CHH.out CSH.out hb' ho' H.length fc2 k hlt
        have hfd := fieldHoP1
        obtain ⟨S, hS⟩ : ∃ S : Nat, H[k].s = (S : Int) := ⟨H[k].s.toNat, by have := (HHS.out _ (List.getElem_mem hlt)).1; omega⟩
        have HS2 : Hid (S ≤ 2048) := Lib.hid (by have := (HHS.out _ (List.getElem_mem hlt)).2; omega)
        have HTK : Hid (asOf (H.take (k + 1)) = asOf (H.take k) ++ [List.replicate S 97]) := Lib.hid (by rw [List.take_succ_eq_append_getElem hlt, asOf_append]; simp [asOf, hS])
        rw [hS] at q1
        have HLT := Lib.hid hlt
        have hk16 : k < 16 := by have := HH16.out; omega
        clear hS hlt q0
        go_wp2
        go_loopw [23] (fun sv wq => ∃ n : Nat, n ≤ S ∧ sv = .string (⟨(List.replicate n (97 : UInt8)).toArray⟩ : ByteArray) ∧ wq = wr) (fun sv _ => S - strLen sv)
        case atStart => exact ⟨0, Nat.zero_le _, rfl, rfl⟩
        case round =>
          obtain ⟨n, hn, rfl, rfl⟩ := hrel
          have hsz : (⟨(List.replicate n (97 : UInt8)).toArray⟩ : ByteArray).size = n := by simp [ByteArray.size]
          have hnx : (⟨(List.replicate n (97 : UInt8)).toArray⟩ : ByteArray) ++ ⟨#[97]⟩ = ⟨(List.replicate (n + 1) (97 : UInt8)).toArray⟩ := a_next n
          have HNX := Lib.hid hnx
          have HAQ : Hid (∃ A : ByteArray, A = ⟨(List.replicate n (97 : UInt8)).toArray⟩) := Lib.hid ⟨_, rfl⟩
          obtain ⟨A, hA⟩ := HAQ.out
          have HA := Lib.hid hA
          rw [← hA] at hsz HNX ⊢
          clear hnx HAQ hA
          by_cases hlt2 : n < S
          · have hsm : ¬ 9223372036854775807 < A.size + 1 := by have := HS2.out; omega
            have HLT2 := Lib.hid hlt2
            have HSZA := Lib.hid hsz
            have HSZ2 : Hid ((A ++ (⟨#[97]⟩ : ByteArray)).size = n + 1) := Lib.hid (by rw [HNX.out]; simp [ByteArray.size])
            go_wp2
            go_roundw
            case rel => exact ⟨n + 1, by have := HLT2.out; omega, by rw [HNX.out], trivial⟩
            case measure => have := HLT2.out; simp only [strLen, HSZA.out, HSZ2.out]; omega
          · obtain rfl : n = S := by omega
            clear hlt2
            go_wp2_with (at_builtin; go_must (refine wpList_txR (l := asOf (H.take k)) (m := []) (q := List.replicate n 97) (sB := A) (v := .slice to k tc) (vb := .slice none 0 0) rfl _ _ rfl HA.out HXR.out HOT.out (World.ownsRow_nil _ _ _ _) rfl rfl (by rw [HLEN.out]; have := HH16.out; omega) ?_))
            intro g9 cap9 wt hxt hot9 _
            rw [HLEN.out] at hot9 ⊢
            have HXT9 := Lib.hid hxt; have HOT9 := Lib.hid hot9
            clear hxt hot9
            go_wp2
            go_roundw
            case rel => exact ⟨k + 1, HLT.out, by go_num, HXT9.out, by rw [HTK.out]; exact HOT9.out⟩
            case measure => have := HLT.out; simp [intOf]; omega
      · obtain rfl : k = H.length := by omega
        rw [List.take_length] at HOT HLEN
        have HFI := Lib.hid (fill_any (.slice ao2 Z.length ac2) (.slice fo2 H.length fc2) (.slice to H.length tc) Z H (asOf H) wr (Sl.ofOwns (World.ownsRow.ext HA2.out HXR.out)) (Sl.ofOwns (World.ownsRow.ext HB2.out HXR.out)) (Sl.ofOwns HOT.out) (by have := HZ16.out; omega) (by have := HH16.out; omega))
        unfold FillPost at HFI
        rw [HFE.out] at HFI
        go_wp2_with fail
        refine HFI.out.mono ?_
        rintro e wj ⟨yf, rfl, hxj, hyf⟩
        obtain ⟨F, hF⟩ : ∃ F, F = fillR Z H (asOf H) := ⟨_, rfl⟩
        rw [← hF] at HFF HFO HFB hyf
        have HXJ := Lib.hid (HXI.out.trans (HXR.out.trans hxj)); have HYF := Lib.hid hyf
        obtain ⟨fo9, fc9, rfl⟩ := owns_shape hyf
        have HE2 := Lib.hid (encode_okB r (.slice xo r.cols.length xc) (.slice fo9 F.length fc9) F wj HVER.out (Sl.ofOwns (World.ownsRow.ext HCX5.out HXJ.out)) HF.out (Sl.ofOwns hyf) HFO.out HFF.out)
        rw [HFB.out] at HE2
        obtain ⟨d0, d1, d2, d3, d4⟩ := row5 (heap_ext HXJ.out HG55'.out)
        unfold relv strV at HE2
        clear hxj hyf hF HFI
        go_wp2_with fail
        refine HE2.out.mono ?_
        rintro e wk ⟨sk, rfl, hxk, hsk⟩
        have HXK := Lib.hid (HXJ.out.trans hxk)
        have HBK := Lib.hid (HBS.out.ext (HX5.out.trans HXK.out))
        have kk : wk.cell? ⟨w.heap.size + 1, 1, none⟩ = some (.slice bo b.length bcap) := by rw [cell_of_row _ _ _ _ _ _ (heap_ext HXK.out HCUT5'.out)]; rfl
        have hs1 := run_toString (P := Tryz.prog) hsk (src := 22) (dst := 9) Tryz.underlying22 Tryz.underlying5 Tryz.underlying9
        have hs2 := run_toString (P := Tryz.prog) HBK.out (src := 22) (dst := 9) Tryz.underlying22 Tryz.underlying5 Tryz.underlying9
        obtain ⟨ok9, ck9, rfl⟩ := hsk.shape
        unfold strV at hs1 hs2
        generalize (⟨b.toArray⟩ : ByteArray) = BSA at *
        generalize b.length = bl at *
        clear hxk hsk d0 d1 d2 d3 d4 HE2
        go_wp2_with fail
        refine (awake10_any wk).mono ?_
        rintro e wl ⟨rfl, hxz⟩
        have HXZ := Lib.hid ((HX5.out.trans HXK.out).trans hxz); clear hxz
        go_wp2
        go_ret
        exact ⟨rfl, HXZ.out⟩
end Go.Proofs.YtegclfpmgilnpaaGreat
