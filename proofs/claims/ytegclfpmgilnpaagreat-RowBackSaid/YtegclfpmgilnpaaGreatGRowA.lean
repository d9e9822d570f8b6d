import Derived.Test.YtegclfpmgilnpaaGreatImgE
import Derived.Test.YtegclfpmgilnpaaGreatImgD
import Derived.Test.YtegclfpmgilnpaaGreatBitB
import Derived.Test.YtegclfpmgilnpaaGreatCelD
import Derived.Test.YtegclfpmgilnpaaGreatRelW
import Derived.Test.YtegclfpmgilnpaaGreatImgB
import Derived.Test.YtegclfpmgilnpaaGreatImgC
import Derived.Maps.AppendAt
namespace Go.Proofs.YtegclfpmgilnpaaGreat
open Go.RowKit Go.Lac
theorem run_store_complexA {P : Program} {w : World} {a : Addr} {m : Mode} (k : FloatKind) (re im : Nat) : (store a (.complex k re im) m).run P w = stored P w a (.complex k re im) m := run_store P w a _ m rfl
attribute [local go_sem] run_store_complexA
def nullV (c : Cel) : Value := .bool (decide (c.k = 0))
theorem infoBo : (Tryz.prog.info? 4).map (fun i => (i.zero, i.size, i.bytes)) = some (some (.bool false), 1, 1) := by kernel_rfl
theorem oneBo (w : World) (b : Bool) : (Instr.buildSlice 84 1 #[(0, .bool b)]).run Tryz.prog w = .ok (.slice (some ⟨w.heap.size, 0, none⟩) 1 1) (w.alloc (.cells #[.bool b] 4)) := by cases b <;> kernel_rfl
def OwnBo (base : Nat) (w : World) (v : Value) (l : List Cel) : Prop := w.ownsRow base 4 1 v l.length (l.map nullV)
theorem OwnBo.ext {base : Nat} {w w' : World} {v : Value} {l : List Cel} (h : OwnBo base w v l) (k : Ext w w') : OwnBo base w' v l := World.ownsRow.ext h k
theorem OwnBo.nil (base : Nat) (w : World) : OwnBo base w (.slice none 0 0) [] := World.ownsRow_nil _ _ _ _
theorem wpList_bo {ops : Array Oper} {rest : List Oper} {o : Oper} {a : Act} {Q : Exit → Act → World → Prop} (hgd : o.guard = none) (s x : Operand)
    (ho : o.op = .call { callee := .builtin .append, args := #[s, x], argTypes := #[84, 84] }) {w0 w : World} {v : Value} {l : List Cel} {c : Cel} {b : Bool} (hb : b = decide (c.k = 0)) (hx0 : Ext w0 w)
    (hown : OwnBo w0.heap.size w v l) (hs : a.eval s = v) {g0 : Nat} (hx : a.eval x = .slice (some ⟨g0, 0, none⟩) 1 1) (hg0 : w.heap.size = g0) (hl : l.length ≤ 200000000)
    (h : ∀ g cap w', Ext w0 w' → OwnBo w0.heap.size w' (.slice (some ⟨g, 0, none⟩) (l.length + 1) cap) (l ++ [c]) → wpList Tryz.prog ops Q rest (a.put o.dst (.slice (some ⟨g, 0, none⟩) (l.length + 1) cap)) w') :
    wpList Tryz.prog ops Q (o :: rest) a (w.alloc (.cells #[.bool b] 4)) := by
  subst hb; subst hg0
  obtain ⟨ci, chi, chz, chs, chb⟩ := info_parts infoBo
  have hown2 : (w.alloc (.cells #[.bool (decide (c.k = 0))] 4)).ownsRow w0.heap.size 4 1 v l.length (l.map nullV) := World.ownsRow.alloc hown _
  refine wpList_append_own_at _ hgd s x 84 ho w0.heap.size 4 ci (.bool false) 1 1 Tryz.underlying84 chi chz chs chb rfl (by decide) v _ _ hs hown2 ⟨w.heap.size, 0, none⟩ 1 1 [nullV c] hx rfl (cell_one_new _ _ _) (by simp [nullV, Value.oneCell']) (by unfold maxLen; omega) (by omega) (by have := hx0.size; simp; omega) ?_
  intro v2 w3 hown' hgrow _ _
  obtain ⟨g2, cap2, rfl⟩ := ownsRow_succ hown'
  refine h g2 cap2 w3 ((hx0.alloc _).grown hgrow fun k hk => .inr (hown2.lt k hk).1) ?_
  unfold OwnBo
  rw [List.length_append, List.map_append]
  exact hown'
set_option maxRecDepth 20000 in
set_option maxHeartbeats 4000000 in
theorem nulls_any (v : Value) (l : List Cel) (w : World) (h : PcS w v l) (hl : l.length ≤ 100000) :
    Calls Tryz.prog 42 #[v] w fun e w' => ∃ y, e = .returned y ∧ Ext w w' ∧ OwnBo w.heap.size w' y l := by
  have HT := Lib.hid h; have HLL := Lib.hid hl
  obtain ⟨ao, cap, rfl, h1, h2⟩ := h.shape
  obtain ⟨ci, chi, chz, chs, chb⟩ := info_parts infoPrZ
  have CHI := Lib.hid chi; have CHS := Lib.hid chs
  have hm1 : l.length ≤ 9223372036854775807 := by omega
  clear h h1 h2 chi chz chs chb hl
  generalize hn : l.length = n at *
  have HN := Lib.hid hn; clear hn
  go_enter Tryz.func42, Tryz.ntmps42
  go_wp2
  go_loopw [3, 8] (fun vb ix wr => ∃ k : Nat, k ≤ n ∧ ix = .int .i64 k ∧ Hid (Ext w wr) ∧ Hid (OwnBo w.heap.size wr vb (l.take k))) (fun _ ix _ => n - (intOf ix).toNat)
  case atStart => exact ⟨0, Nat.zero_le _, rfl, Lib.hid (Ch.refl _ _), Lib.hid (OwnBo.nil _ _)⟩
  case round =>
    obtain ⟨k, hk, rfl, HX, HO⟩ := hrel
    obtain ⟨vo, vc, rfl⟩ := owns_shape HO.out
    by_cases hlt : k < n
    · have hkl : k < l.length := by have := HN.out; omega
      obtain ⟨b, o, rfl, hra0⟩ := HT.out.at hkl
      have hra := rangeAt_ext hra0 HX.out
      have hidx := run_indexSl wr Tryz.underlying36 CHI.out CHS.out b o n cap k hlt
      have HTK : Hid (l.take (k + 1) = l.take k ++ [l[k]]) := Lib.hid (List.take_succ_eq_append_getElem hkl)
      have HLQ : Hid ((l.take k).length ≤ 200000000) := Lib.hid (by have := HLL.out; rw [List.length_take]; omega)
      generalize l[k] = x at *
      generalize l.take k = S0 at *
      have q0 : wr.cell? ⟨b, o + k * 5, none⟩ = some (.int .u8 (x.k : Nat)) := by have := hra 0 _ rfl; simpa using this
      have q1 : wr.cell? ⟨b, o + k * 5 + 1, none⟩ = some (.int .u8 (x.v.ty : Nat)) := hra 1 _ rfl
      have q2 : wr.cell? ⟨b, o + k * 5 + 2, none⟩ = some (.int .i64 x.v.i) := hra 2 _ rfl
      have q3 : wr.cell? ⟨b, o + k * 5 + 3, none⟩ = some (.complex .f64 x.v.re x.v.im) := hra 3 _ rfl
      have q4 : wr.cell? ⟨b, o + k * 5 + 4, none⟩ = some (.string ⟨x.v.t.toArray⟩) := hra 4 _ rfl
      have HLT := Lib.hid hlt
      clear hra0 hra hkl
      by_cases h0 : x.k = 0
      · have q0' : wr.cell? ⟨b, o + k * 5, none⟩ = some (.int .u8 0) := by rw [q0, h0]; rfl
        have HD : Hid (true = decide (x.k = 0)) := Lib.hid (decide_eq_true h0).symm
        have HXA : Hid (Ext w (wr.alloc (.cells #[.int .u8 0, .int .u8 (x.v.ty : Nat), .int .i64 x.v.i, .complex .f64 x.v.re x.v.im, .string ⟨x.v.t.toArray⟩] 90))) := Lib.hid (HX.out.alloc _)
        have HOA : Hid (OwnBo w.heap.size (wr.alloc (.cells #[.int .u8 0, .int .u8 (x.v.ty : Nat), .int .i64 x.v.i, .complex .f64 x.v.re x.v.im, .string ⟨x.v.t.toArray⟩] 90)) (.slice vo S0.length vc) S0) := Lib.hid (HO.out.ext ((Ch.refl _ _).alloc _))
        have hone := fun w => oneBo w true
        clear q0 h0
        go_wp2_with (at_builtin; go_must (refine wpList_bo rfl _ _ rfl HD.out HXA.out HOA.out rfl rfl (by simp) HLQ.out ?_))
        intro g3 cap3 w3 hx3 ho3
        have HX3 := Lib.hid hx3; have HO3 : Hid (OwnBo w.heap.size w3 (.slice (some ⟨g3, 0, none⟩) (S0.length + 1) cap3) (l.take (k + 1))) := Lib.hid (by rw [HTK.out]; exact ho3)
        clear hx3 ho3 hone
        generalize S0.length + 1 = n3 at *
        go_wp2
        go_roundw
        case rel => exact ⟨k + 1, HLT.out, by simp, HX3, HO3⟩
        case measure => simp [intOf]; have := HLT.out; omega
      · have e0 : (((x.k : Nat) : Int) == 0) = false := beq_eq_false_iff_ne.2 (by omega)
        have HD : Hid (false = decide (x.k = 0)) := Lib.hid (decide_eq_false h0).symm
        have HXA : Hid (Ext w (wr.alloc (.cells #[.int .u8 (x.k : Nat), .int .u8 (x.v.ty : Nat), .int .i64 x.v.i, .complex .f64 x.v.re x.v.im, .string ⟨x.v.t.toArray⟩] 90))) := Lib.hid (HX.out.alloc _)
        have HOA : Hid (OwnBo w.heap.size (wr.alloc (.cells #[.int .u8 (x.k : Nat), .int .u8 (x.v.ty : Nat), .int .i64 x.v.i, .complex .f64 x.v.re x.v.im, .string ⟨x.v.t.toArray⟩] 90)) (.slice vo S0.length vc) S0) := Lib.hid (HO.out.ext ((Ch.refl _ _).alloc _))
        have hone := fun w => oneBo w false
        clear h0
        go_wp2_with (at_builtin; go_must (refine wpList_bo rfl _ _ rfl HD.out HXA.out HOA.out rfl rfl (by simp) HLQ.out ?_))
        intro g3 cap3 w3 hx3 ho3
        have HX3 := Lib.hid hx3; have HO3 : Hid (OwnBo w.heap.size w3 (.slice (some ⟨g3, 0, none⟩) (S0.length + 1) cap3) (l.take (k + 1))) := Lib.hid (by rw [HTK.out]; exact ho3)
        clear hx3 ho3 hone
        generalize S0.length + 1 = n3 at *
        go_wp2
        go_roundw
        case rel => exact ⟨k + 1, HLT.out, by simp, HX3, HO3⟩
        case measure => simp [intOf]; have := HLT.out; omega
    · obtain rfl : k = n := by omega
      have HS : Hid (l.take k = l) := Lib.hid (by rw [← HN.out, List.take_length])
      have HF : Hid (OwnBo w.heap.size wr (.slice vo (l.take k).length vc) l) := Lib.hid (by have := HO.out; rw [HS.out] at this ⊢; exact this)
      go_wp2
      go_ret
      exact ⟨_, rfl, HX.out, HF.out⟩
end Go.Proofs.YtegclfpmgilnpaaGreat
namespace Go.Proofs.YtegclfpmgilnpaaGreat
open Go.RowKit Go.Lac
theorem run_store_complexB {P : Program} {w : World} {a : Addr} {m : Mode} (k : FloatKind) (re im : Nat) : (store a (.complex k re im) m).run P w = stored P w a (.complex k re im) m := run_store P w a _ m rfl
attribute [local go_sem] run_store_complexB
theorem infoPCb : (Tryz.prog.info? 90).map (·.size) = some 5 := by kernel_rfl
theorem fieldRlB_3 (w : World) (b : Nat) : (Instr.fieldAt 43 (.pointer (some ⟨b, 0, none⟩)) 3).run Tryz.prog w = .ok (.pointer (some ⟨b, 4, none⟩)) w := by kernel_rfl
theorem fieldCoB_1 (w : World) (b o : Nat) : (Instr.fieldAt 93 (.pointer (some ⟨b, o, none⟩)) 1).run Tryz.prog w = .ok (.pointer (some ⟨b, o + 1, none⟩)) w := by kernel_rfl
theorem infoCB : (Tryz.prog.info? 93).map (fun i => (i.zero, i.size, i.bytes)) = some (some (.agg #[.string ⟨#[]⟩, .int .u8 0, .bool false]), 3, 24) := by kernel_rfl
def Kn.tupR (bs : List UInt8) : Kn := ⟨fun v w => ∃ s, v = .tuple #[s, .int .i64 0] ∧ Rd w s bs, fun _ _ _ k ⟨s, h1, h2⟩ => ⟨s, h1, h2.ext k⟩⟩
def encE (ver : Nat) (r : Rl) (l : List Cel) : Nat := if ver ≠ 1 ∧ ver ≠ 2 then 18 else fitsE r l
def nullsOf (l : List Cel) : List Bool := l.map fun c => decide (c.k = 0)
def encC (ver : Nat) (l : List Cel) : List UInt8 := l.flatMap fun c => if c.k = 0 then [] else cBytes ver c
def encB (ver : Nat) (l : List Cel) : List UInt8 := mapB (nullsOf l) ++ encC ver l
theorem encC_snoc (ver : Nat) (l : List Cel) (c : Cel) : encC ver (l ++ [c]) = encC ver l ++ (if c.k = 0 then [] else cBytes ver c) := by simp [encC]
theorem bools_nulls (l : List Cel) : l.map nullV = boolsV (nullsOf l) := by simp [boolsV, nullsOf, nullV, Function.comp_def]
theorem fits_zero {r : Rl} {l : List Cel} (h : fitsE r l = 0) : rlErr r = 0 ∧ l.length = r.cols.length ∧ ∀ (j : Nat) (hj : j < l.length) (hj' : j < r.cols.length), cErr l[j] r.cols[j].ty = 0 := by
  unfold fitsE at h
  split at h
  · rename_i h1; exact absurd h h1
  · rename_i h1
    split at h
    · cases h
    · rename_i h2
      refine ⟨Classical.not_not.1 h1, Classical.not_not.1 h2, fun j hj hj' => ?_⟩
      have := (firstN_eq _).1 h j hj
      rw [two_at fitC hj hj'] at this
      exact this
theorem rowIsVersion_any (k : Nat) (w : World) : Calls Tryz.prog 28 #[.int .u8 (k : Nat)] w fun e w' => e = .returned (.bool (decide (k = 1 ∨ k = 2))) ∧ Ext w w' := by
  by_cases h1 : 1 ≤ k
  · by_cases h2 : k ≤ 2
    · have hd : decide (k = 1 ∨ k = 2) = true := decide_eq_true (by omega)
      have hk2 : (k : Int) ≤ 2 := by omega
      rw [hd]
      go_enter Tryz.func28, Tryz.ntmps28
      go_wp2
      go_ret
      exact ⟨rfl, Ch.refl _ _⟩
    · have hd : decide (k = 1 ∨ k = 2) = false := decide_eq_false (by omega)
      have hk2 : ¬ (k : Int) ≤ 2 := by omega
      rw [hd]
      go_enter Tryz.func28, Tryz.ntmps28
      go_wp2
      go_ret
      exact ⟨rfl, Ch.refl _ _⟩
  · have hd : decide (k = 1 ∨ k = 2) = false := decide_eq_false (by omega)
    rw [hd]
    go_enter Tryz.func28, Tryz.ntmps28
    go_wp2
    go_ret
    exact ⟨rfl, Ch.refl _ _⟩
theorem encLen {ver : Nat} {r : Rl} {l : List Cel} (hver : ver = 1 ∨ ver = 2) (h16 : l.length ≤ 16) (hok : ∀ c ∈ l, c.ok) (hcz : ∀ (j : Nat) (hj : j < l.length) (hj' : j < r.cols.length), cErr l[j] r.cols[j].ty = 0) (hlen : l.length = r.cols.length) (j : Nat) : (mapB (nullsOf l) ++ encC ver (l.take j)).length ≤ 100000 := by
  have h2 : ∀ c ∈ l, c.k ≠ 0 → (cBytes ver c).length ≤ 2200 := fun c hc hk => by
    obtain ⟨i, hi, rfl⟩ := List.mem_iff_getElem.1 hc
    exact cBytes_len (hok _ hc) (hcz i hi (by omega)) hk
  have h3 : ∀ k : List Cel, (∀ c ∈ k, c ∈ l) → (encC ver k).length ≤ k.length * 2200 := by
    intro k
    induction k with
    | nil => intro _; simp [encC]
    | cons c k ih =>
      intro hm
      have h4 := ih fun x hx => hm x (List.mem_cons_of_mem _ hx)
      unfold encC at h4 ⊢
      rw [List.flatMap_cons, List.length_append, List.length_cons]
      by_cases hk : c.k = 0
      · rw [if_pos hk, List.length_nil]; omega
      · rw [if_neg hk]
        have := h2 c (hm c List.mem_cons_self) hk
        omega
  have h5 := h3 (l.take j) fun c hc => List.mem_of_mem_take hc
  have h6 : (l.take j).length ≤ 16 := by rw [List.length_take]; omega
  have h7 : (mapB (nullsOf l)).length ≤ 2 := by
    rw [mapB_length _ (by simp [nullsOf]; omega)]
    exact sizeN_le (by simp [nullsOf]; omega)
  rw [List.length_append]
  omega
def RowEncPost (ver : Nat) (r : Rl) (l : List Cel) (w : World) (e : Ending) (w' : World) : Prop :=
  Ext w w' ∧ ∃ s, e = .returned (.tuple #[s, .int .i64 (encE ver r l : Nat)]) ∧ Rd w' s (if encE ver r l = 0 then encB ver l else [])
def rbT (vs : Value) (x : Cel) (g4 b2 o2 n cc j q ver : Nat) (bs : List UInt8) : Tmp → Kn
  | 9 => .rd bs
  | 10 => .is (.int .i64 0)
  | 42 => Kn.tupR bs
  | 43 => .is vs
  | 44 => .is (pc x)
  | 45 => .is (.pointer (some ⟨g4, 4, none⟩))
  | 46 => .is (.slice (some ⟨b2, o2, none⟩) n cc)
  | 47 => .is (.int .i64 (j : Nat))
  | 48 => .is (.pointer (some ⟨b2, o2 + j * 3, none⟩))
  | 49 => .is (.pointer (some ⟨b2, o2 + j * 3 + 1, none⟩))
  | 50 => .is (.int .u8 (q : Nat))
  | 51 => .is (.int .u8 (ver : Nat))
  | 52 => Kn.tupR bs
  | 53 => .rd bs
  | 54 => .is (.int .i64 0)
  | _ => .any
set_option maxRecDepth 20000 in
set_option maxHeartbeats 8000000 in
theorem rowEncode_any (r : Rl) (cv vw : Value) (l : List Cel) (ver : Nat) (w : World) (hb : ColS w cv r.cols) (hf : r.fits) (hv : PcS w vw l) (hok : ∀ c ∈ l, c.ok) :
    Calls Tryz.prog 20 #[vw, .agg (relv r cv), .int .u8 (ver : Nat)] w (RowEncPost ver r l w) := by
  have h1 := heap_alloc_new w (.cells (relv r cv) 43)
  obtain ⟨W, hW⟩ : ∃ W, W = w.alloc (.cells (relv r cv) 43) := ⟨_, rfl⟩
  have hx : Ext w W := by rw [hW]; exact (Ch.refl _ _).alloc _
  rw [← hW] at h1
  obtain ⟨g4, hg4⟩ : ∃ g4, g4 = w.heap.size := ⟨_, rfl⟩
  rw [← hg4] at h1
  have HG := Lib.hid h1; have HX := Lib.hid hx; have HW := Lib.hid hW; have HG4E := Lib.hid hg4
  have HB := Lib.hid (ColS.ext hb hx); have HV := Lib.hid (PcS.ext hv hx); have HOK := Lib.hid hok
  have HIV := Lib.hid (rowIsVersion_any ver W)
  have HFT := Lib.hid (fun w2 (hx2 : Ext W w2) => fits_any r cv vw l w2 (ColS.ext hb (hx.trans hx2)) hf (PcS.ext hv (hx.trans hx2)))
  obtain ⟨c0, c1, c2, c3, c4⟩ := row_cells h1
  obtain ⟨co, cc, rfl, hcm, hcm2, _⟩ := id hb
  obtain ⟨vo, vcap, rfl, k1, k2⟩ := hv.shape
  have hl63 : l.length ≤ 9223372036854775807 := by unfold maxLen at k2; omega
  rw [hW] at c0 c1 c2 c3 c4
  clear h1 hx hW hg4 hb hv hok hcm hcm2 k1 k2
  by_cases hver : ver = 1 ∨ ver = 2
  case neg =>
    have HE : Hid (encE ver r l = 18) := Lib.hid (by unfold encE; rw [if_pos (by omega)])
    rw [decide_eq_false hver] at HIV
    clear hver
    unfold relv strV at *
    go_enter Tryz.func20, Tryz.ntmps20
    go_wp2_with fail
    rw [← HW.out]
    refine HIV.out.mono ?_
    rintro e w2 ⟨rfl, hx2⟩
    have HX2 := Lib.hid (HX.out.trans hx2)
    clear hx2 c0 c1 c2 c3 c4
    go_wp2
    refine bodyPost_ret (results_tmp2 rfl _ _ _) rfl ?_
    exact ⟨HX2.out, _, by rw [HE.out]; rfl, by rw [HE.out]; exact rd_nil _⟩
  have HVER := Lib.hid hver
  have HE0 : Hid (encE ver r l = fitsE r l) := Lib.hid (by unfold encE; rw [if_neg (by omega)])
  rw [decide_eq_true hver] at HIV
  clear hver
  unfold relv strV at HW HFT c0 c1 c2 c3 c4 ⊢
  go_enter Tryz.func20, Tryz.ntmps20
  go_wp2_with fail
  rw [← HW.out]
  refine HIV.out.mono ?_
  rintro e w2 ⟨rfl, hx2⟩
  have HX2 := Lib.hid (HX.out.trans hx2); have HXW2 := Lib.hid hx2
  have HG2 := Lib.hid (heap_ext hx2 HG.out)
  have HFT2 := Lib.hid (HFT.out w2 hx2)
  obtain ⟨d0, d1, d2, d3, d4⟩ := row5 HG2.out
  rw [HG4E.out] at d0 d1 d2 d3 d4
  clear hx2 c0 c1 c2 c3 c4 HIV HFT
  go_wp2_with fail
  refine HFT2.out.mono ?_
  rintro e w3 ⟨rfl, hx3⟩
  have HX3 := Lib.hid (HX2.out.trans hx3); have HXW3 := Lib.hid (HXW2.out.trans hx3)
  clear hx3 d0 d1 d2 d3 d4 HFT2
  by_cases hft : fitsE r l = 0
  case neg =>
    have HE : Hid (encE ver r l ≠ 0) := Lib.hid (by rw [HE0.out]; exact hft)
    have en : (((fitsE r l : Nat) : Int) != 0) = true := by simp; omega
    clear hft
    generalize fitsE r l = E at *
    go_wp2
    refine bodyPost_ret (results_tmp2 rfl _ _ _) rfl ?_
    refine ⟨HX3.out, _, by rw [HE0.out]; rfl, ?_⟩
    rw [if_neg HE.out]
    exact rd_nil _
  obtain ⟨hz, hlen, hcz⟩ := fits_zero hft
  have hl16 : r.cols.length ≤ 16 := (rlErr_zero hz).2.2.2.2.2.1
  have HE : Hid (encE ver r l = 0) := Lib.hid (by rw [HE0.out]; exact hft)
  have en : (((fitsE r l : Nat) : Int) != 0) = false := by rw [hft]; rfl
  have HCZ : Hid (∀ (j : Nat) (x : Cel) (c : Col), l[j]? = some x → r.cols[j]? = some c → cErr x c.ty = 0) := Lib.hid (fun j x c h1 h2 => by
    obtain ⟨i1, rfl⟩ := List.getElem?_eq_some_iff.1 h1
    obtain ⟨i2, rfl⟩ := List.getElem?_eq_some_iff.1 h2
    exact hcz j i1 i2)
  have HNL := Lib.hid (nulls_any (.slice vo l.length vcap) l w3 (PcS.ext HV.out HXW3.out) (by omega))
  have HLEN := Lib.hid hlen
  have HL16 : Hid (l.length ≤ 16) := Lib.hid (by omega)
  clear hft hz hcz hlen hl16
  generalize fitsE r l = E at *
  go_wp2_with fail
  refine HNL.out.mono ?_
  rintro e w4 ⟨y, rfl, hx4, hy⟩
  have hrb : RdBools w4 y (nullsOf l) := by
    have h := Sl.ofOwns hy
    rw [bools_nulls] at h
    unfold RdBools
    rwa [show (nullsOf l).length = l.length by simp [nullsOf]]
  have HPK := Lib.hid (pack_any y (nullsOf l) w4 hrb)
  have hnl : (nullsOf l).length = l.length := by simp [nullsOf]
  have HX4 := Lib.hid (HX3.out.trans hx4); have HXW4 := Lib.hid (HXW3.out.trans hx4)
  obtain ⟨yo, yc, hye⟩ := owns_shape hy
  subst hye
  have HPK := Lib.hid (HPK.out.mono fun e w' h => by
    unfold PackPost at h
    rwa [if_pos (by have := HL16.out; omega)] at h)
  clear hx4 hy hrb hnl
  go_wp2_with fail
  refine HPK.out.mono ?_
  rintro e w5 ⟨s, rfl, hx5, hs, so, sc, hse⟩
  have HXW5 := Lib.hid (HXW4.out.trans hx5)
  have HRD := Lib.hid hs
  obtain ⟨i, chv, _, csv, _⟩ := info_parts infoPrZ
  have CHV := Lib.hid chv; have CSV := Lib.hid csv
  obtain ⟨ic, chc, _, csc, _⟩ := info_parts infoCB
  have CHC := Lib.hid chc; have CSC := Lib.hid csc
  clear hx5 hs chv csv chc csc HPK hse
  clear HNL HPK
  generalize hn : l.length = n at *
  have HN := Lib.hid hn; clear hn
  generalize hm : r.cols.length = m at *
  obtain rfl : n = m := HLEN.out
  have HNC := Lib.hid hm; clear hm
  rw [← HG4E.out]
  go_wp2
  go_loopw [9, 10, 30] (fun vb ve ix wr => ∃ j : Nat, j ≤ n ∧ ix = .int .i64 j ∧ ve = .int .i64 0 ∧ Hid (Ext W wr) ∧ Hid (Rd wr vb (mapB (nullsOf l) ++ encC ver (l.take j)))) (fun _ _ ix _ => n - (intOf ix).toNat)
  case atStart => exact ⟨0, Nat.zero_le _, rfl, rfl, HXW5, Lib.hid (by simpa [encC] using HRD.out)⟩
  case round =>
    obtain ⟨j, hj, rfl, rfl, HXr, HRb⟩ := hrel
    by_cases hlt : j < n
    · have hjl : j < l.length := by have := HN.out; omega
      have hjc : j < r.cols.length := by have := HNC.out; omega
      obtain ⟨b, o, hvo, hra0⟩ := (PcS.ext HV.out HXr.out).at hjl
      subst hvo
      have hcr := ColS.ext HB.out HXr.out
      obtain ⟨b2, o2, hco, hrc⟩ := colS_at hcr hjc
      subst hco
      have hidx := run_indexSl wr Tryz.underlying36 CHV.out CSV.out b o n vcap j hlt
      have HTK : Hid (encC ver (l.take (j + 1)) = encC ver (l.take j) ++ (if l[j].k = 0 then [] else cBytes ver l[j])) := Lib.hid (by rw [List.take_succ_eq_append_getElem hjl, encC_snoc])
      have HCE : Hid (cErr l[j] r.cols[j].ty = 0) := Lib.hid (HCZ.out j _ _ (List.getElem?_eq_getElem hjl) (List.getElem?_eq_getElem hjc))
      have HXO : Hid (l[j].ok) := Lib.hid (HOK.out _ (List.getElem_mem hjl))
      have HBL : Hid ((mapB (nullsOf l) ++ encC ver (l.take j)).length ≤ 100000) := Lib.hid (encLen HVER.out (by rw [HN.out]; exact HL16.out) HOK.out (fun j h1 h2 => HCZ.out j _ _ (List.getElem?_eq_getElem h1) (List.getElem?_eq_getElem h2)) (by rw [HN.out, HNC.out]) j)
      have q1 : wr.cell? ⟨b2, o2 + j * 3 + 1, none⟩ = some (.int .u8 (r.cols[j].ty : Nat)) := hrc 1 _ rfl
      generalize r.cols[j].ty = q at *
      generalize l[j] = x at *
      generalize hbs : mapB (nullsOf l) ++ encC ver (l.take j) = bs0 at *
      have HBS := Lib.hid hbs; clear hbs
      have p0 : wr.cell? ⟨b, o + j * 5, none⟩ = some (.int .u8 (x.k : Nat)) := by have := hra0 0 _ rfl; simpa using this
      have p1 : wr.cell? ⟨b, o + j * 5 + 1, none⟩ = some (.int .u8 (x.v.ty : Nat)) := hra0 1 _ rfl
      have p2 : wr.cell? ⟨b, o + j * 5 + 2, none⟩ = some (.int .i64 x.v.i) := hra0 2 _ rfl
      have p3 : wr.cell? ⟨b, o + j * 5 + 3, none⟩ = some (.complex .f64 x.v.re x.v.im) := hra0 3 _ rfl
      have p4 : wr.cell? ⟨b, o + j * 5 + 4, none⟩ = some (.string ⟨x.v.t.toArray⟩) := hra0 4 _ rfl
      have HP := Lib.hid hra0
      have en0 : ((0 : Int) == 0) = true := rfl
      have HLT := Lib.hid hlt
      obtain ⟨w3', hw3⟩ : ∃ w3', w3' = wr.alloc (.cells (pcv x) 90) := ⟨_, rfl⟩
      have hx3 : Ext wr w3' := by rw [hw3]; exact (Ch.refl _ _).alloc _
      have hg12 : w3'.heap[wr.heap.size]? = some (.cells (pcv x) 90 (0, 0)) := by rw [hw3]; exact heap_alloc_new wr _
      have HG12 := Lib.hid hg12
      have HX3' := Lib.hid (HXr.out.trans hx3)
      have HW3 : Hid (w3' = wr.alloc (.cells #[.int .u8 (x.k : Nat), .int .u8 (x.v.ty : Nat), .int .i64 x.v.i, .complex .f64 x.v.re x.v.im, .string ⟨x.v.t.toArray⟩] 90)) := Lib.hid hw3
      have HQ1 : Hid (w3'.cell? ⟨b2, o2 + j * 3 + 1, none⟩ = some (.int .u8 (q : Nat))) := Lib.hid (hx3.cell (p := ⟨b2, o2 + j * 3 + 1, none⟩) (fun f => f) _ q1)
      have HG4 : Hid (w3'.heap[g4]? = some (.cells (relv r (.slice (some ⟨b2, o2, none⟩) n cc)) 43 (0, 0))) := Lib.hid (heap_ext hx3 (heap_ext HXr.out HG.out))
      have HRB3 := Lib.hid (HRb.out.ext hx3)
      by_cases hk : x.k = 0
      · have HTK2 : Hid (mapB (nullsOf l) ++ encC ver (l.take (j + 1)) = bs0) := Lib.hid (by rw [HTK.out, if_pos hk, List.append_nil]; exact HBS.out)
        have hkc : ((x.k : Int) != 0) = false := by simp [hk]
        clear hx3 hw3 hg12 hrc hra0 hcr q1 hk hjl hjc hlt
        go_wp2
        generalize u43 = u43 at *
        go_roundw
        case rel => exact ⟨j + 1, HLT.out, by simp, rfl, by rw [← HW3.out]; exact HX3', by rw [← HW3.out, HTK2.out]; exact HRB3⟩
        case measure => simp [intOf]; have := HLT.out; omega
      · have hkc : ((x.k : Int) != 0) = true := by simp; omega
        have HTK2 : Hid (mapB (nullsOf l) ++ encC ver (l.take (j + 1)) = bs0 ++ cBytes ver x) := Lib.hid (by rw [HTK.out, if_neg hk, ← List.append_assoc, HBS.out])
        have hcp : cpErr ver x q = 0 := by unfold cpErr; rw [if_neg (by have := HVER.out; omega), if_neg (by have := HCE.out; omega), if_neg hk]
        have HPUT : Hid (∀ w, Ext w3' w → Calls Tryz.prog 43 #[u9, pc x, .int .u8 (q : Nat), .int .u8 (ver : Nat)] w fun e w' => ∃ s, e = .returned (.tuple #[s, .int .i64 0]) ∧ Ext w w' ∧ Rd w' s (bs0 ++ cBytes ver x)) := Lib.hid (fun w hw => (cput_any u9 bs0 x q ver w (HRB3.out.ext hw) HBL.out HXO.out).mono (by
          rintro e w' ⟨s, rfl, k1, k2⟩
          rw [hcp] at k2 ⊢
          exact ⟨s, rfl, k1, k2⟩))
        clear hx3 hw3 hg12 hrc hra0 hcr q1 hk hjl hjc hlt hcp
        generalize bs0 ++ cBytes ver x = bs at *
        go_wp2
        rw [← HW3.out]
        refine wp_region_ext (rbT u9 x g4 b2 o2 n cc j q ver bs) mixedR (by rfl) (by rfl) ?all ?fin
        case all =>
          refine ⟨?_, ?_, ?_, ?_, ?_, ?_, ?_, ?_, ?_, ?_, ?_, ?_, ?_, ?_, ?_, trivial⟩
          ·
            refine StepOK.plain (kn_stable _) rfl fun ρ w hρ hw hf => ?_
            have h9 : ρ (.tmp 9) = (u9) := (hf 9).2 rfl rfl
            exact Exec.kmove rfl rfl h9
          ·
            refine StepOK.plain (kn_stable _) rfl fun ρ w hρ hw hf => ?_
            have h12 : ρ (.tmp 12) = (.pointer (some ⟨wr.heap.size, 0, none⟩)) := (hf 12).2 rfl rfl
            exact Exec.kloadrow rfl rfl h12 (heap_ext hw HG12.out) Tryz.underlying90 rfl infoPCb rfl
          ·
            refine StepOK.plain (kn_stable _) rfl fun ρ w hρ hw hf => ?_
            have h4 : ρ (.tmp 4) = (.pointer (some ⟨g4, 0, none⟩)) := (hf 4).2 rfl rfl
            exact Exec.kfield rfl rfl h4 (fieldRlB_3 w _) rfl
          ·
            refine StepOK.plain (kn_stable _) rfl fun ρ w hρ hw hf => ?_
            have h45 : ρ (.tmp 45) = (.pointer (some ⟨g4, 4, none⟩)) := (hf 45).1 rfl
            have hc : w.cell? ⟨g4, 4, none⟩ = some (.slice (some ⟨b2, o2, none⟩) n cc) := by rw [cell_of_row _ _ _ _ _ _ (heap_ext hw HG4.out)]; rfl
            exact Exec.same (v := (.slice (some ⟨b2, o2, none⟩) n cc)) rfl (by simp [go_sem, hρ.const, h45, hc]) rfl
          ·
            refine StepOK.plain (kn_stable _) rfl fun ρ w hρ hw hf => ?_
            have h11 : ρ (.tmp 11) = (.int .i64 (j : Nat)) := (hf 11).2 rfl rfl
            exact Exec.kmove rfl rfl h11
          ·
            refine StepOK.plain (kn_stable _) rfl fun ρ w hρ hw hf => ?_
            have h46 : ρ (.tmp 46) = (.slice (some ⟨b2, o2, none⟩) n cc) := (hf 46).1 rfl
            have h47 : ρ (.tmp 47) = (.int .i64 (j : Nat)) := (hf 47).1 rfl
            exact Exec.kindex rfl rfl Tryz.underlying41 CHC.out CSC.out h46 h47 HLT.out rfl
          ·
            refine StepOK.plain (kn_stable _) rfl fun ρ w hρ hw hf => ?_
            have h48 : ρ (.tmp 48) = (.pointer (some ⟨b2, o2 + j * 3, none⟩)) := (hf 48).1 rfl
            exact Exec.kfield rfl rfl h48 (fieldCoB_1 w _ _) rfl
          ·
            refine StepOK.plain (kn_stable _) rfl fun ρ w hρ hw hf => ?_
            have h49 : ρ (.tmp 49) = (.pointer (some ⟨b2, o2 + j * 3 + 1, none⟩)) := (hf 49).1 rfl
            have hc : w.cell? ⟨b2, o2 + j * 3 + 1, none⟩ = some (.int .u8 (q : Nat)) := hw.cell (p := ⟨b2, o2 + j * 3 + 1, none⟩) (fun f => f) _ HQ1.out
            exact Exec.same (v := (.int .u8 (q : Nat))) rfl (by simp [go_sem, hρ.const, h49, hc]) rfl
          ·
            refine StepOK.plain (kn_stable _) rfl fun ρ w hρ hw hf => ?_
            have h2 : ρ (.tmp 2) = (.int .u8 (ver : Nat)) := (hf 2).2 rfl rfl
            exact Exec.kmove rfl rfl h2
          ·
            refine StepOK.plain (kn_stable _) rfl fun ρ w hρ hw hf => ?_
            have h43 : ρ (.tmp 43) = (u9) := (hf 43).1 rfl
            have h44 : ρ (.tmp 44) = (pc x) := (hf 44).1 rfl
            have h50 : ρ (.tmp 50) = (.int .u8 (q : Nat)) := (hf 50).1 rfl
            have h51 : ρ (.tmp 51) = (.int .u8 (ver : Nat)) := (hf 51).1 rfl
            refine Exec.kcall #[u9, pc x, .int .u8 (q : Nat), .int .u8 (ver : Nat)] hρ rfl rfl (by simp [h43, h44, h50, h51]) Tryz.func43 (by rfl) (by rfl) ((HPUT.out w hw).mono ?_)
            rintro e w' ⟨s, rfl, k1, k2⟩
            exact ⟨_, rfl, ⟨s, rfl, k2⟩, k1⟩
          ·
            refine StepOK.plain (kn_stable _) rfl fun ρ w hρ hw hf => ?_
            have h52 : (Kn.tupR bs).holds (ρ (.tmp 52)) w := (hf 52).1 rfl
            exact Exec.kmove rfl rfl h52
          ·
            refine StepOK.plain (kn_stable _) rfl fun ρ w hρ hw hf => ?_
            have h42 : (Kn.tupR bs).holds (ρ (.tmp 42)) w := (hf 42).1 rfl
            obtain ⟨s, e1, e2⟩ : ∃ s, ρ (.tmp 42) = .tuple #[s, .int .i64 0] ∧ Rd w s bs := h42
            exact Exec.same (v := s) rfl (by simp [go_sem, hρ.const, e1]) e2
          ·
            refine StepOK.plain (kn_stable _) rfl fun ρ w hρ hw hf => ?_
            have h42 : (Kn.tupR bs).holds (ρ (.tmp 42)) w := (hf 42).1 rfl
            obtain ⟨s, e1, e2⟩ : ∃ s, ρ (.tmp 42) = .tuple #[s, .int .i64 0] ∧ Rd w s bs := h42
            exact Exec.same (v := .int .i64 0) rfl (by simp [go_sem, hρ.const, e1]) rfl
          ·
            refine StepOK.plain (kn_stable _) rfl fun ρ w hρ hw hf => ?_
            have h53 : Rd w (ρ (.tmp 53)) (bs) := (hf 53).1 rfl
            exact Exec.kassign rfl rfl h53
          ·
            refine StepOK.plain (kn_stable _) rfl fun ρ w hρ hw hf => ?_
            have h54 : ρ (.tmp 54) = (.int .i64 0) := (hf 54).1 rfl
            exact Exec.kassign rfl rfl h54
        case fin =>
          intro ν w9 hfin hx9
          have e0 : ν 10 = .int .i64 0 := hfin 14 10 rfl
          have e1 : Rd w9 (ν 9) bs := hfin 13 9 rfl
          simp only [Exit.then, ended, List.foldl_cons, List.foldl_nil, List.setIfInBounds_toArray, List.set_cons_succ, List.set_cons_zero, e0]
          have HX9 := Lib.hid (HX3'.out.trans hx9); have HR9 := Lib.hid e1
          clear hfin hx9 e0 e1
          generalize ν 9 = u9' at HR9 ⊢
          go_wp2
          go_roundw
          case rel => exact ⟨j + 1, HLT.out, by simp, rfl, HX9, by rw [HTK2.out]; exact HR9⟩
          case measure => simp [intOf]; have := HLT.out; omega
    · obtain rfl : j = n := by omega
      have HTK : Hid (l.take j = l) := Lib.hid (by rw [← HN.out, List.take_length])
      have HF : Hid (Rd wr u9 (encB ver l)) := Lib.hid (by have := HRb.out; rw [HTK.out] at this; exact this)
      have HX := Lib.hid (HX.out.trans HXr.out)
      clear HRb HTK
      go_wp2
      refine bodyPost_ret (results_tmp2 rfl _ _ _) rfl ?_
      refine ⟨HX.out, _, by rw [HE.out]; rfl, ?_⟩
      rw [if_pos HE.out]
      exact HF.out
end Go.Proofs.YtegclfpmgilnpaaGreat
namespace Go.Proofs.YtegclfpmgilnpaaGreat
open Go.RowKit Go.Lac
theorem own_setPrD {base : Nat} {w : World} {v : Value} {l : List Cel} {k : Nat} (d : Nat) (hd : d ≤ 5) (c : Cel) (h : OwnPr base w v l) (hk : k < l.length) (hc : (pcv c).toList.take d = (pcv l[k]).toList.take d) :
    ∃ g cap, v = .slice (some ⟨g, 0, none⟩) l.length cap ∧ base ≤ g ∧ OwnPr base (w.setCells g (k * 5 + d) ((pcv c).toList.drop d)) v (l.set k c) ∧ w.there g (k * 5 + d) (5 - d) := by
  obtain ⟨h1, ⟨rfl, h2⟩ | ⟨g, cap, cur, rfl, hg, hh, hn, hm, hs, ht⟩⟩ := h
  · omega
  refine ⟨g, cap, rfl, hg, ?_, ?_⟩
  · have hvl : ((pcv c).toList.drop d).length = 5 - d := by simp [pcv]
    have hle : k * 5 + 5 ≤ l.length * 5 := by omega
    have hle2 : l.length * 5 ≤ cap * 5 := Nat.mul_le_mul_right _ hn
    obtain ⟨cur', k1, k2, k3⟩ := setCells_block g ((pcv c).toList.drop d) (k * 5 + d) w cur hh (by rw [hvl, hs]; omega)
    refine ⟨by rw [PcC_length], .inr ⟨g, cap, cur', by simp, hg, k1, by simpa using hn, hm, by omega, ?_⟩⟩
    have hsplit : PcC (l.set k c) = PcC (l.take k) ++ (pcv c).toList ++ PcC (l.drop (k + 1)) := by
      rw [List.set_eq_take_append_cons_drop, if_pos hk, PcC_append]
      simp [PcC]
    have hl : PcC l = PcC (l.take k) ++ (pcv l[k]).toList ++ PcC (l.drop (k + 1)) := by
      have e0 : l.take k ++ l[k] :: l.drop (k + 1) = l := by rw [← List.drop_eq_getElem_cons hk, List.take_append_drop]
      have e1 := (congrArg PcC e0).symm.trans (PcC_append _ _)
      rw [e1, show PcC (l[k] :: l.drop (k + 1)) = (pcv l[k]).toList ++ PcC (l.drop (k + 1)) from List.flatMap_cons, List.append_assoc]
    have hlt : (PcC (l.take k)).length = k * 5 := by rw [PcC_length, List.length_take, Nat.min_eq_left (by omega)]
    have hv2 : (pcv l[k]).toList.length = 5 := by simp [pcv]
    have hld : (PcC (l.drop (k + 1))).length = l.length * 5 - (k * 5 + 5) := by rw [PcC_length, List.length_drop]; omega
    have e1 : cur.toList.take (k * 5 + d) = PcC (l.take k) ++ (pcv c).toList.take d := by
      have : cur.toList.take (k * 5 + d) = (cur.toList.take (l.length * 5)).take (k * 5 + d) := by rw [List.take_take, Nat.min_eq_left (by omega)]
      rw [this, ht, hl, List.append_assoc, List.take_append, hlt, List.take_of_length_le (by omega), Nat.add_sub_cancel_left, List.take_append, hv2, Nat.sub_eq_zero_of_le hd, List.take_zero, List.append_nil, hc]
    have e2 : (cur.toList.take (l.length * 5)).drop (k * 5 + 5) = PcC (l.drop (k + 1)) := by
      rw [ht, hl, List.drop_append, List.drop_of_length_le (by rw [List.length_append]; omega), List.nil_append, List.length_append, hlt, hv2, Nat.sub_self, List.drop_zero]
    rw [List.length_set, hsplit, k3, hvl, e1, ← e2, show k * 5 + d + (5 - d) = k * 5 + 5 by omega]
    have hcl : k * 5 ≤ cur.toList.length := by simp; omega
    rw [List.append_assoc (PcC (l.take k)), List.take_append_drop]
    have hT : (PcC (l.take k) ++ (pcv c).toList).length = k * 5 + 5 := by rw [List.length_append, hlt]; simp [pcv]
    rw [List.take_append, List.take_of_length_le (by rw [hT]; exact hle), hT, List.drop_take]
  · intro j hj
    have hle2 : l.length * 5 ≤ cap * 5 := Nat.mul_le_mul_right _ hn
    have hj2 : k * 5 + d + j < cur.size := by rw [hs]; omega
    refine ⟨?_, frozen_of_row w g _ _ _ hh⟩
    rw [cell_of_row w g (k * 5 + d + j) _ _ _ hh, Array.getElem?_eq_getElem hj2]
    rfl
def awR : Rl := ⟨1, 1, [116], 0, [⟨[97], 1, false⟩, ⟨[98], 5, false⟩]⟩
def awC : List Cel := [Cel.zero, ⟨2, ⟨5, 0, 0, 0, [97, 98]⟩⟩]
theorem aw10_e : encE 2 awR awC = 0 := by decide
theorem aw10_sev : sev 4 = [4] := by rw [sev_small (by decide)]; rfl
theorem aw10_b : encB 2 awC = [1, 4, 97, 98] := by
  unfold encB encC awC
  simp [nullsOf, Cel.zero, cBytes, cLarge, texty, aw10_sev]
  decide
def awB : List Cel := [Cel.zero, ⟨2, Val.zero⟩]
theorem awBC : awB.set 1 ⟨2, ⟨5, 0, 0, 0, [97, 98]⟩⟩ = awC := rfl
theorem rcS_heap {w : World} {g : Nat} {l : List Cel} {T : TypeId} (h : w.heap[g]? = some (.cells (RcC l).toArray T (0, 0))) (hl : l.length ≤ maxLen) : RcS w (.slice (some ⟨g, 0, none⟩) l.length l.length) l := by
  refine ⟨_, l.length, rfl, Nat.le_refl _, hl, (fun h => by cases h), fun x hx j u hu => ?_⟩
  cases hx
  refine ⟨g, 0, rfl, ?_⟩
  rw [Nat.zero_add, cell_of_row w _ j _ _ _ h]
  simpa using hu
theorem aRf (w : World) : (Instr.build 40 #[(0, .int .u32 1), (1, .int .u32 1)]).run Tryz.prog w = .ok (.agg #[.int .u32 1, .int .u32 1]) w := by kernel_rfl
theorem aC1 (w : World) : (Instr.build 93 #[(0, .string ⟨#[97]⟩), (1, .int .u8 1)]).run Tryz.prog w = .ok (.agg #[.string ⟨#[97]⟩, .int .u8 1, .bool false]) w := by kernel_rfl
theorem aC2 (w : World) : (Instr.build 93 #[(0, .string ⟨#[98]⟩), (1, .int .u8 5)]).run Tryz.prog w = .ok (.agg #[.string ⟨#[98]⟩, .int .u8 5, .bool false]) w := by kernel_rfl
theorem aCs (w : World) : (Instr.buildSlice 41 2 #[(0, .agg #[.string ⟨#[97]⟩, .int .u8 1, .bool false]), (1, .agg #[.string ⟨#[98]⟩, .int .u8 5, .bool false])]).run Tryz.prog w = .ok (.slice (some ⟨w.heap.size, 0, none⟩) 2 2) (w.alloc (.cells #[.string ⟨#[97]⟩, .int .u8 1, .bool false, .string ⟨#[98]⟩, .int .u8 5, .bool false] 93)) := by kernel_rfl
theorem aRl (w : World) (b : Nat) : (Instr.build 43 #[(0, .agg #[.int .u32 1, .int .u32 1]), (1, .string ⟨#[116]⟩), (3, .slice (some ⟨b, 0, none⟩) 2 2)]).run Tryz.prog w = .ok (.agg #[.int .u32 1, .int .u32 1, .string ⟨#[116]⟩, .int .u8 0, .slice (some ⟨b, 0, none⟩) 2 2]) w := by kernel_rfl
theorem aZ (w : World) : (Instr.build 76 #[]).run Tryz.prog w = .ok (.agg #[.int .u8 0, .int .u8 0, .int .i64 0, .int .u64 0, .int .u64 0, .string ⟨#[]⟩]) w := by kernel_rfl
theorem aK (w : World) : (Instr.build 76 #[(0, .int .u8 2)]).run Tryz.prog w = .ok (.agg #[.int .u8 2, .int .u8 0, .int .i64 0, .int .u64 0, .int .u64 0, .string ⟨#[]⟩]) w := by kernel_rfl
theorem aRow (w : World) : (Instr.buildSlice 45 2 #[(0, .agg #[.int .u8 0, .int .u8 0, .int .i64 0, .int .u64 0, .int .u64 0, .string ⟨#[]⟩]), (1, .agg #[.int .u8 2, .int .u8 0, .int .i64 0, .int .u64 0, .int .u64 0, .string ⟨#[]⟩])]).run Tryz.prog w = .ok (.slice (some ⟨w.heap.size, 0, none⟩) 2 2) (w.alloc (.cells #[.int .u8 0, .int .u8 0, .int .i64 0, .int .u64 0, .int .u64 0, .string ⟨#[]⟩, .int .u8 2, .int .u8 0, .int .i64 0, .int .u64 0, .int .u64 0, .string ⟨#[]⟩] 76)) := by kernel_rfl
theorem aV (w : World) : (Instr.build 88 #[(0, .int .u8 5), (3, .string ⟨#[97, 98]⟩)]).run Tryz.prog w = .ok (.agg #[.int .u8 5, .int .i64 0, .complex .f64 0 0, .string ⟨#[97, 98]⟩]) w := by kernel_rfl
theorem fieldP1 (w : World) (b o : Nat) : (Instr.fieldAt 90 (.pointer (some ⟨b, o, none⟩)) 1).run Tryz.prog w = .ok (.pointer (some ⟨b, o + 1, none⟩)) w := by kernel_rfl
theorem infoSV : (Tryz.prog.info? 88).map (·.size) = some 4 := by kernel_rfl
set_option maxRecDepth 20000 in
set_option maxHeartbeats 4000000 in
theorem awake10_any (w : World) : Calls Tryz.prog 17 #[] w fun e w' => e = .returned (.bool true) ∧ Ext w w' := by
  obtain ⟨W, hW⟩ : ∃ W, W = ((w.alloc (.cells #[.string ⟨#[97]⟩, .int .u8 1, .bool false, .string ⟨#[98]⟩, .int .u8 5, .bool false] 93)).alloc (.cells #[.int .u32 1, .int .u32 1, .string ⟨#[116]⟩, .int .u8 0, .slice (some ⟨w.heap.size, 0, none⟩) 2 2] 43)).alloc (.cells #[.int .u8 0, .int .u8 0, .int .i64 0, .int .u64 0, .int .u64 0, .string ⟨#[]⟩, .int .u8 2, .int .u8 0, .int .i64 0, .int .u64 0, .int .u64 0, .string ⟨#[]⟩] 76) := ⟨_, rfl⟩
  have hx : Ext w W := by rw [hW]; exact (((Ch.refl _ _).alloc _).alloc _).alloc _
  have hcol : W.heap[w.heap.size]? = some (.cells (colC awR.cols).toArray 93 (0, 0)) := by rw [hW]; exact heap_ext ((Ch.refl _ _).alloc _) (heap_alloc2_old _ _ _)
  have hbox : W.heap[w.heap.size + 1]? = some (.cells (relv awR (.slice (some ⟨w.heap.size, 0, none⟩) 2 2)) 43 (0, 0)) := by rw [hW]; exact heap_ext ((Ch.refl _ _).alloc _) (heap_alloc2_new _ _ _)
  have hrow : W.heap[w.heap.size + 1 + 1]? = some (.cells (RcC awB).toArray 76 (0, 0)) := by
    rw [hW]
    have := heap_alloc_new ((w.alloc (.cells #[.string ⟨#[97]⟩, .int .u8 1, .bool false, .string ⟨#[98]⟩, .int .u8 5, .bool false] 93)).alloc (.cells #[.int .u32 1, .int .u32 1, .string ⟨#[116]⟩, .int .u8 0, .slice (some ⟨w.heap.size, 0, none⟩) 2 2] 43)) (.cells #[.int .u8 0, .int .u8 0, .int .i64 0, .int .u64 0, .int .u64 0, .string ⟨#[]⟩, .int .u8 2, .int .u8 0, .int .i64 0, .int .u64 0, .int .u64 0, .string ⟨#[]⟩] 76)
    rw [show ((w.alloc (.cells #[.string ⟨#[97]⟩, .int .u8 1, .bool false, .string ⟨#[98]⟩, .int .u8 5, .bool false] 93)).alloc (.cells #[.int .u32 1, .int .u32 1, .string ⟨#[116]⟩, .int .u8 0, .slice (some ⟨w.heap.size, 0, none⟩) 2 2] 43)).heap.size = w.heap.size + 1 + 1 by simp] at this
    exact this
  have HCOL : Hid (ColS W (.slice (some ⟨w.heap.size, 0, none⟩) 2 2) awR.cols) := Lib.hid (colS_heap (l := awR.cols) hcol (by decide))
  have HBOX := Lib.hid hbox; have HX := Lib.hid hx; have HW := Lib.hid hW
  have HOW := Lib.hid (own10_any (.slice (some ⟨w.heap.size + 1 + 1, 0, none⟩) 2 2) awB W (rcS_heap (l := awB) hrow (by decide)) (by decide))
  have b1 := aRf; have b2 := aC1; have b3 := aC2; have b4 := aCs; have b5 := aRl; have b6 := aZ; have b7 := aK; have b8 := aRow; have b9 := aV; have f1 := fieldP1
  clear hW hx hcol hbox hrow
  go_enter Tryz.func17, Tryz.ntmps17
  go_wp2_with fail
  rw [← HW.out]
  refine HOW.out.mono ?_
  rintro e w2 ⟨v, rfl, hx2, ho2⟩
  obtain ⟨g, cap, rfl, hbg, hos, hth⟩ := own_setPrD (k := 1) 1 (by decide) ⟨2, ⟨5, 0, 0, 0, [97, 98]⟩⟩ ho2 (by decide) rfl
  rw [awBC] at hos
  have HX2 := Lib.hid (HX.out.trans hx2)
  obtain ⟨W5, hW5⟩ : ∃ W5, W5 = w2.setCells g (1 * 5 + 1) ((pcv ⟨2, ⟨5, 0, 0, 0, [97, 98]⟩⟩).toList.drop 1) := ⟨_, rfl⟩
  have HX5 : Hid (Ext w W5) := Lib.hid (by rw [hW5]; exact Ch.setCells (.inr (Nat.le_trans HX.out.size hbg)) _ _ _ HX2.out)
  have HX25 : Hid (Ext W W5) := Lib.hid (by rw [hW5]; exact Ch.setCells (.inr hbg) _ _ _ hx2)
  rw [← hW5] at hos
  have HO5 := Lib.hid hos.s; have HTH : Hid (w2.there g 6 4) := Lib.hid hth
  have HW5 : Hid (W5 = w2.setCells g 6 (#[.int .u8 5, .int .i64 0, .complex .f64 0 0, .string ⟨#[97, 98]⟩] : Array Value).toList) := Lib.hid (by rw [hW5]; rfl)
  have hb5 := heap_ext HX25.out HBOX.out
  have d0 : W5.cell? ⟨w.heap.size + 1, 0, none⟩ = some (.int .u32 1) := by rw [cell_of_row _ _ _ _ _ _ hb5]; rfl
  have d1 : W5.cell? ⟨w.heap.size + 1, 1, none⟩ = some (.int .u32 1) := by rw [cell_of_row _ _ _ _ _ _ hb5]; rfl
  have d2 : W5.cell? ⟨w.heap.size + 1, 2, none⟩ = some (.string ⟨#[116]⟩) := by rw [cell_of_row _ _ _ _ _ _ hb5]; rfl
  have d3 : W5.cell? ⟨w.heap.size + 1, 3, none⟩ = some (.int .u8 0) := by rw [cell_of_row _ _ _ _ _ _ hb5]; rfl
  have d4 : W5.cell? ⟨w.heap.size + 1, 4, none⟩ = some (.slice (some ⟨w.heap.size, 0, none⟩) 2 2) := by rw [cell_of_row _ _ _ _ _ _ hb5]; rfl
  have HEN : Hid (Calls Tryz.prog 20 #[.slice (some ⟨g, 0, none⟩) 2 cap, .agg #[.int .u32 1, .int .u32 1, .string ⟨#[116]⟩, .int .u8 0, .slice (some ⟨w.heap.size, 0, none⟩) 2 2], .int .u8 2] W5 fun e w' => Ext W5 w' ∧ ∃ s, e = .returned (.tuple #[s, .int .i64 0]) ∧ Rd w' s [1, 4, 97, 98]) := Lib.hid ((rowEncode_any awR (.slice (some ⟨w.heap.size, 0, none⟩) 2 2) (.slice (some ⟨g, 0, none⟩) 2 cap) awC 2 W5 (ColS.ext HCOL.out HX25.out) (by simp [Rl.fits, awR]) HO5.out (by intro c hc; simp [awC] at hc; rcases hc with rfl | rfl <;> simp [Cel.ok, Val.ok, Cel.zero, Val.zero])).mono (by
    rintro e w' ⟨k1, s, rfl, k2⟩
    rw [aw10_e, if_pos rfl, aw10_b] at k2
    exact ⟨k1, s, by rw [aw10_e]; rfl, k2⟩))
  obtain ⟨ci, chi, _, chs, _⟩ := info_parts infoPrZ
  have hi1 : (Instr.indexAt 36 (.slice (some ⟨g, 0, none⟩) 2 cap) (.int .i64 1)).run Tryz.prog w2 = .ok (.pointer (some ⟨g, 0 + 5, none⟩)) w2 := run_indexSl w2 Tryz.underlying36 chi chs g 0 2 cap 1 (by decide)
  have hlen : (.slice (some ⟨g, 0, none⟩) awB.length cap : Value) = .slice (some ⟨g, 0, none⟩) 2 cap := rfl
  rw [hlen]
  clear hx2 ho2 hbg hos hth hW5 hb5 chi chs hlen b1 b2 b3 b4 b5 b6 b7 b8 HOW
  go_wp2_with (refine wpList_store_mid rfl 88 (.tmp 17) (.tmp 15) rfl g 6 #[.int .u8 5, .int .i64 0, .complex .f64 0 0, .string ⟨#[97, 98]⟩] rfl rfl HTH.out infoSV (by simp [Value.oneCell']) ?_; rw [← HW5.out])
  refine HEN.out.mono ?_
  rintro e w6 ⟨hx6, s, rfl, hs⟩
  have HX6 := Lib.hid (HX5.out.trans hx6)
  have hst := run_toString (P := Tryz.prog) hs (src := 22) (dst := 9) Tryz.underlying22 Tryz.underlying5 Tryz.underlying9
  unfold strV at hst
  obtain ⟨so, sc, rfl⟩ := hs.shape
  have z1 : ((⟨#[1, 4, 97, 98]⟩ : ByteArray).toList == (⟨#[1, 4, 97, 98]⟩ : ByteArray).toList) = true := by rw [beq_self_eq_true]
  simp only [List.length_cons, List.length_nil, Nat.zero_add, Nat.reduceAdd] at hst
  clear hx6 hs d0 d1 d2 d3 d4 hi1 b9 f1 HEN
  go_wp2
  go_ret
  exact ⟨rfl, HX6.out⟩
end Go.Proofs.YtegclfpmgilnpaaGreat
namespace Go.Proofs.YtegclfpmgilnpaaGreat
open Go.RowKit Go.Lac
structure Ho where
  c : Int
  s : Int
def hov (h : Ho) : Array Value := #[.int .i64 h.c, .int .i64 h.s]
def HoC (l : List Ho) : List Value := l.flatMap fun c => (hov c).toList
theorem HoC_append (a b : List Ho) : HoC (a ++ b) = HoC a ++ HoC b := by simp [HoC]
theorem HoC_at : ∀ (l : List Ho) (j : Nat) (hj : j < l.length) (q : Nat) (u : Value), (hov l[j]).toList[q]? = some u → (HoC l)[j * 2 + q]? = some u := by
  intro l
  induction l with
  | nil => intro j hj; simp at hj
  | cons c l ih =>
    intro j hj q u hu
    cases j with
    | zero =>
      have hq : q < 2 := (List.getElem?_eq_some_iff.1 hu).1
      unfold HoC
      rw [List.flatMap_cons, Nat.zero_mul, Nat.zero_add, List.getElem?_append_left (by simpa [hov] using hq)]
      exact hu
    | succ j =>
      have := ih j (by simpa using hj) q u (by simpa using hu)
      unfold HoC at this ⊢
      rw [List.flatMap_cons, List.getElem?_append_right (by simp [hov]; omega)]
      rw [show (j + 1) * 2 + q - (hov c).toList.length = j * 2 + q by simp [hov]; omega]
      exact this
def HoS (w : World) (v : Value) (l : List Ho) : Prop := Sl w v l.length (HoC l)
theorem HoS.ext {w w' : World} {v : Value} {l : List Ho} (h : HoS w v l) (k : Ext w w') : HoS w' v l := Sl.ext h k
theorem HoS.shape {w : World} {v : Value} {l : List Ho} (h : HoS w v l) : ∃ ao cap, v = .slice ao l.length cap ∧ l.length ≤ cap ∧ cap ≤ maxLen := by
  obtain ⟨ao, cap, e, h1, h2, _⟩ := h; exact ⟨ao, cap, e, h1, h2⟩
theorem HoS.at {w : World} {ao : Option Addr} {n cap : Nat} {l : List Ho} (h : HoS w (.slice ao n cap) l) {j : Nat} (hj : j < l.length) :
    ∃ b o, ao = some ⟨b, o, none⟩ ∧ w.cell? ⟨b, o + j * 2, none⟩ = some (.int .i64 l[j].c) ∧ w.cell? ⟨b, o + j * 2 + 1, none⟩ = some (.int .i64 l[j].s) := by
  obtain ⟨ao', cap', e0, g1, g2, g3, g5⟩ := h
  cases e0
  cases ao with
  | none => exfalso; have := g3 rfl; omega
  | some x =>
    obtain ⟨b, o, rfl, c0⟩ := g5 x rfl _ _ (HoC_at l j hj 0 _ rfl)
    obtain ⟨b', o', e, c1⟩ := g5 ⟨b, o, none⟩ rfl _ _ (HoC_at l j hj 1 _ rfl)
    cases e
    exact ⟨b, o, rfl, c0, c1⟩
def TxR (w : World) (v : Value) (l : List (List UInt8)) : Prop := Sl w v l.length (l.map strV)
theorem TxR.ext {w w' : World} {v : Value} {l : List (List UInt8)} (h : TxR w v l) (k : Ext w w') : TxR w' v l := Sl.ext h k
theorem TxR.shape {w : World} {v : Value} {l : List (List UInt8)} (h : TxR w v l) : ∃ ao cap, v = .slice ao l.length cap ∧ l.length ≤ cap ∧ cap ≤ maxLen := by
  obtain ⟨ao, cap, e, h1, h2, _⟩ := h; exact ⟨ao, cap, e, h1, h2⟩
theorem TxR.at {w : World} {ao : Option Addr} {n cap : Nat} {l : List (List UInt8)} (h : TxR w (.slice ao n cap) l) {j : Nat} (hj : j < l.length) :
    ∃ b o, ao = some ⟨b, o, none⟩ ∧ w.cell? ⟨b, o + j, none⟩ = some (strV l[j]) := by
  obtain ⟨ao', cap', e0, g1, g2, g3, g5⟩ := h
  cases e0
  have hu : (l.map strV)[j]? = some (strV l[j]) := by simp [hj]
  cases ao with
  | none => have := g3 rfl; omega
  | some x => obtain ⟨b, o, rfl, c0⟩ := g5 x rfl _ _ hu; exact ⟨b, o, rfl, c0⟩
theorem infoStrR : (Tryz.prog.info? 9).map (fun i => (i.zero, i.size, i.bytes)) = some (some (.string ⟨#[]⟩), 1, 16) := by kernel_rfl
theorem infoHoP : (Tryz.prog.info? 70).map (fun i => (i.zero, i.size, i.bytes)) = some (some (.agg #[.int .i64 0, .int .i64 0]), 2, 16) := by kernel_rfl
theorem fieldHo0 (w : World) (b : Nat) : (Instr.fieldAt 70 (.pointer (some ⟨b, 0, none⟩)) 0).run Tryz.prog w = .ok (.pointer (some ⟨b, 0, none⟩)) w := by kernel_rfl
theorem fieldHo1 (w : World) (b : Nat) : (Instr.fieldAt 70 (.pointer (some ⟨b, 0, none⟩)) 1).run Tryz.prog w = .ok (.pointer (some ⟨b, 1, none⟩)) w := by kernel_rfl
theorem fieldV3 (w : World) (b o : Nat) : (Instr.fieldAt 88 (.pointer (some ⟨b, o, none⟩)) 3).run Tryz.prog w = .ok (.pointer (some ⟨b, o + 3, none⟩)) w := by kernel_rfl
theorem ownPr_mono {base base' : Nat} {w : World} {v : Value} {l : List Cel} (h : OwnPr base w v l) (hb : base' ≤ base) : OwnPr base' w v l :=
  ⟨h.1, h.2.imp id fun ⟨g, cap, cur, h1, h2, h3⟩ => ⟨g, cap, cur, h1, Nat.le_trans hb h2, h3⟩⟩
def fillOne (l : List Cel) (p : Ho × List UInt8) : List Cel := match l[p.1.c.toNat]? with
  | some x => l.set p.1.c.toNat ⟨x.k, { x.v with t := p.2 }⟩
  | none => l
def fillZ (l : List Cel) (z : List (Ho × List UInt8)) : List Cel := z.foldl fillOne l
theorem fillOne_length (l : List Cel) (p : Ho × List UInt8) : (fillOne l p).length = l.length := by unfold fillOne; split <;> simp
theorem fillZ_length : ∀ (z : List (Ho × List UInt8)) (l : List Cel), (fillZ l z).length = l.length
  | [], _ => rfl
  | p :: z, l => by unfold fillZ; rw [List.foldl_cons]; exact (fillZ_length z _).trans (fillOne_length l p)
theorem fillOne_at {l : List Cel} {h : Ho} {t : List UInt8} {j : Nat} (hc : h.c = (j : Int)) (hj : j < l.length) : fillOne l (h, t) = l.set j ⟨l[j].k, { l[j].v with t := t }⟩ := by
  unfold fillOne
  rw [hc, Int.toNat_natCast, List.getElem?_eq_getElem hj]
theorem fillZ_snoc (l : List Cel) (z : List (Ho × List UInt8)) (p : Ho × List UInt8) : fillZ l (z ++ [p]) = fillOne (fillZ l z) p := by unfold fillZ; rw [List.foldl_append]; rfl
def badC (n : Nat) (h : Ho) : Bool := decide (h.c < 0 ∨ (n : Int) ≤ h.c)
def badS (p : Ho × List UInt8) : Bool := decide ((p.2.length : Int) ≠ p.1.s)
def fillE (l : List Cel) (hs : List Ho) (ts : List (List UInt8)) : Nat :=
  if ts.length ≠ hs.length then 17 else if hs.any (badC l.length) = true then 4 else if (hs.zip ts).any badS = true then 16 else 0
def fillR (l : List Cel) (hs : List Ho) (ts : List (List UInt8)) : List Cel := if fillE l hs ts = 0 then fillZ l (hs.zip ts) else []
def FillPost (l : List Cel) (hs : List Ho) (ts : List (List UInt8)) (w : World) (e : Ending) (w' : World) : Prop :=
  ∃ y, e = .returned (.tuple #[y, .int .i64 (fillE l hs ts : Nat)]) ∧ Ext w w' ∧ OwnPr w.heap.size w' y (fillR l hs ts)
theorem any_snoc {α : Type} (p : α → Bool) (l : List α) (k : Nat) (hk : k < l.length) (h0 : (l.take k).any p = false) (h1 : p l[k] = false) : (l.take (k + 1)).any p = false := by
  rw [List.take_succ_eq_append_getElem hk, List.any_append, h0]; simp [h1]
theorem any_at {α : Type} (p : α → Bool) (l : List α) (k : Nat) (hk : k < l.length) (h1 : p l[k] = true) : l.any p = true := List.any_eq_true.2 ⟨_, List.getElem_mem hk, h1⟩
theorem any_none {α : Type} (p : α → Bool) (l : List α) (k : Nat) (hk : k < l.length) (h : l.any p = false) : p l[k] = false := by
  cases h1 : p l[k] with
  | false => rfl
  | true => rw [any_at p l k hk h1] at h; cases h
def fi12T (tb to n tcap k : Nat) (t : List UInt8) (g11 : Nat) (s : Int) (D : Bool) : Tmp → Kn
  | 44 => .is (.slice (some ⟨tb, to, none⟩) n tcap)
  | 45 => .is (.int .i64 (k : Nat))
  | 46 => .is (.pointer (some ⟨tb, to + k * 1, none⟩))
  | 47 => .is (strV t)
  | 48 => .is (.int .i64 (t.length : Nat))
  | 49 => .is (.pointer (some ⟨g11, 1, none⟩))
  | 50 => .is (.int .i64 s)
  | 51 => .is (.bool D)
  | _ => .any
def fi19T (og m ocap g14 j tb to n tcap k : Nat) (t : List UInt8) : Tmp → Kn
  | 62 => .is (.slice (some ⟨og, 0, none⟩) m ocap)
  | 63 => .is (.pointer (some ⟨g14, 0, none⟩))
  | 64 => .is (.int .i64 (j : Nat))
  | 65 => .is (.slice (some ⟨tb, to, none⟩) n tcap)
  | 66 => .is (.int .i64 (k : Nat))
  | 67 => .is (.pointer (some ⟨tb, to + k * 1, none⟩))
  | 68 => .is (strV t)
  | 69 => .is (.pointer (some ⟨og, 0 + j * 5, none⟩))
  | 70 => .is (.pointer (some ⟨og, 0 + j * 5 + 1, none⟩))
  | 71 => .is (.pointer (some ⟨og, 0 + j * 5 + 1 + 3, none⟩))
  | _ => .any
theorem fi19T_pure (og m ocap g14 j tb to n tcap k : Nat) (t : List UInt8) : ∀ d, (fi19T og m ocap g14 j tb to n tcap k t d).pure := by
  intro d
  unfold fi19T
  split <;> first | exact Kn.is_pure _ | exact Kn.any_pure
set_option maxRecDepth 20000 in
set_option maxHeartbeats 8000000 in
theorem fill_any (v hv tv : Value) (l : List Cel) (hs : List Ho) (ts : List (List UInt8)) (w : World) (h1 : PcS w v l) (h2 : HoS w hv hs) (h3 : TxR w tv ts) (hl : l.length ≤ 100000) (hh : hs.length ≤ 100000) :
    Calls Tryz.prog 21 #[v, hv, tv] w (FillPost l hs ts w) := by
  have HV := Lib.hid h1; have HH := Lib.hid h2; have HT := Lib.hid h3; have HLL := Lib.hid hl; have HHL := Lib.hid hh
  obtain ⟨vo, vcap, rfl, -, -⟩ := h1.shape
  obtain ⟨ho, hcap, rfl, hm1, hm2⟩ := h2.shape
  obtain ⟨to, tcap, rfl, -, -⟩ := h3.shape
  have hh63 : hs.length ≤ 9223372036854775807 := by omega
  clear h1 h2 h3 hl hh hm1 hm2
  by_cases hne : ts.length = hs.length
  case neg =>
    have HE : Hid (fillE l hs ts = 17) := Lib.hid (by unfold fillE; rw [if_pos hne])
    have en : ¬ ((ts.length : Nat) : Int) = ((hs.length : Nat) : Int) := by omega
    generalize hs.length = hn at *
    generalize ts.length = tn at *
    generalize l.length = n at *
    clear hne
    go_enter Tryz.func21, Tryz.ntmps21
    go_wp2
    refine bodyPost_ret (results_tmp2 rfl _ _ _) rfl ?_
    refine ⟨_, by rw [HE.out]; rfl, Ch.refl _ _, ?_⟩
    unfold fillR
    rw [HE.out, if_neg (by decide)]
    exact OwnPr.nil _ _
  obtain ⟨ih, chh, _, csh, _⟩ := info_parts infoHoP
  obtain ⟨it, cht, _, cst, _⟩ := info_parts infoStrR
  obtain ⟨ir, chr, _, csr, _⟩ := info_parts infoPrZ
  have CHH := Lib.hid chh; have CSH := Lib.hid csh; have CHT := Lib.hid cht; have CST := Lib.hid cst; have CHR := Lib.hid chr; have CSR := Lib.hid csr
  have HNE := Lib.hid hne
  clear chh csh cht cst chr csr hne
  generalize hA : hs.length = n at *
  generalize hB : ts.length = n' at *
  obtain rfl : n = n' := HNE.out.symm
  generalize hC : l.length = m at *
  have HA := Lib.hid hA; have HB := Lib.hid hB; have HC := Lib.hid hC
  clear hA hB hC
  go_enter Tryz.func21, Tryz.ntmps21
  go_wp2
  go_loopw [22] (fun ix wr => ∃ k : Nat, k ≤ n ∧ ix = .int .i64 k ∧ Hid (Ext w wr) ∧ Hid ((hs.take k).any (badC l.length) = false)) (fun ix _ => n - (intOf ix).toNat)
  case atStart => exact ⟨0, Nat.zero_le _, rfl, Lib.hid (Ch.refl _ _), Lib.hid rfl⟩
  case round =>
    obtain ⟨k, hk, rfl, HXr, HAny⟩ := hrel
    by_cases hlt : k < n
    · have hkh : k < hs.length := by have := HA.out; omega
      obtain ⟨hb, ho', rfl, q0, q1⟩ := (HH.out.ext HXr.out).at hkh
      have hidx := run_indexSl wr Tryz.underlying37 CHH.out CSH.out hb ho' n hcap k hlt
      have HLT := Lib.hid hlt
      have HBT : Hid (badC l.length hs[k] = true → hs.any (badC l.length) = true) := Lib.hid (any_at _ hs k hkh)
      have HBF : Hid (badC l.length hs[k] = false → (hs.take (k + 1)).any (badC l.length) = false) := Lib.hid (any_snoc _ hs k hkh HAny.out)
      unfold badC at HBT HBF
      rw [HC.out] at HBT HBF
      generalize hs[k].c = c at *
      generalize hs[k].s = s at *
      have HXA : Hid (Ext w (wr.alloc (.cells #[.int .i64 c, .int .i64 s] 70))) := Lib.hid (HXr.out.alloc _)
      by_cases hc0 : c < 0
      · have HE : Hid (hs.any (badC l.length) = true) := Lib.hid (by have := HBT.out (decide_eq_true (.inl hc0)); unfold badC; rw [HC.out]; exact this)
        have HE4 : Hid (fillE l hs ts = 4) := Lib.hid (by unfold fillE; rw [if_neg (by rw [HA.out, HB.out]; simp), if_pos HE.out])
        clear HBT HBF HE hkh hlt
        go_wp2
        refine bodyPost_ret (results_tmp2 rfl _ _ _) rfl ?_
        refine ⟨_, by rw [HE4.out]; rfl, HXA.out, ?_⟩
        unfold fillR
        rw [HE4.out, if_neg (by decide)]
        exact OwnPr.nil _ _
      · by_cases hcn : (m : Int) ≤ c
        · have HE : Hid (hs.any (badC l.length) = true) := Lib.hid (by have := HBT.out (decide_eq_true (.inr hcn)); unfold badC; rw [HC.out]; exact this)
          have HE4 : Hid (fillE l hs ts = 4) := Lib.hid (by unfold fillE; rw [if_neg (by rw [HA.out, HB.out]; simp), if_pos HE.out])
          clear HBT HBF HE hkh hlt
          go_wp2
          refine bodyPost_ret (results_tmp2 rfl _ _ _) rfl ?_
          refine ⟨_, by rw [HE4.out]; rfl, HXA.out, ?_⟩
          unfold fillR
          rw [HE4.out, if_neg (by decide)]
          exact OwnPr.nil _ _
        · have HF : Hid ((hs.take (k + 1)).any (badC l.length) = false) := Lib.hid (by have := HBF.out (decide_eq_false (by omega)); unfold badC; rw [HC.out]; exact this)
          have hcn' : c < (m : Int) := by omega
          clear HBT HBF hkh hlt
          go_wp2
          go_roundw
          case rel => exact ⟨k + 1, HLT.out, by simp, HXA, HF⟩
          case measure => simp [intOf]; have := HLT.out; omega
    · obtain rfl : n = k := by omega
      have HAN : Hid (hs.any (badC l.length) = false) := Lib.hid (by have := HAny.out; rwa [← HA.out, List.take_length] at this)
      clear HAny hlt
      go_wp2
      have HX1 := Lib.hid HXr.out
      go_loopw [39] (fun ix wr2 => ∃ k : Nat, k ≤ n ∧ ix = .int .i64 k ∧ Hid (Ext w wr2) ∧ Hid (((hs.zip ts).take k).any badS = false)) (fun ix _ => n - (intOf ix).toNat)
      case atStart => exact ⟨0, Nat.zero_le _, rfl, HX1, Lib.hid rfl⟩
      case round =>
        obtain ⟨k, hk, rfl, HXr, HAny⟩ := hrel
        by_cases hlt : k < n
        · have hkh : k < hs.length := by have := HA.out; omega
          have hkt : k < ts.length := by have := HB.out; omega
          have hkz : k < (hs.zip ts).length := by rw [List.length_zip]; omega
          obtain ⟨hb, ho', rfl, q0, q1⟩ := (HH.out.ext HXr.out).at hkh
          obtain ⟨tb, to', rfl, r0⟩ := (HT.out.ext HXr.out).at hkt
          have hidx := run_indexSl wr Tryz.underlying37 CHH.out CSH.out hb ho' n hcap k hlt
          have HLT := Lib.hid hlt
          have HBT : Hid (decide ((ts[k].length : Int) ≠ hs[k].s) = true → (hs.zip ts).any badS = true) := Lib.hid (fun h => any_at _ _ k hkz (by rw [List.getElem_zip]; exact h))
          have HBF : Hid (decide ((ts[k].length : Int) ≠ hs[k].s) = false → ((hs.zip ts).take (k + 1)).any badS = false) := Lib.hid (fun h => any_snoc _ _ k hkz HAny.out (by rw [List.getElem_zip]; exact h))
          generalize hs[k].c = c at *
          generalize hs[k].s = s at *
          generalize ts[k] = t at *
          obtain ⟨w3', hw3⟩ : ∃ w3', w3' = wr.alloc (.cells #[.int .i64 c, .int .i64 s] 70) := ⟨_, rfl⟩
          have hx3 : Ext wr w3' := by rw [hw3]; exact (Ch.refl _ _).alloc _
          have RS : Hid (w3'.cell? ⟨wr.heap.size, 1, none⟩ = some (.int .i64 s)) := Lib.hid (by rw [hw3, cell_of_row _ _ _ _ _ _ (heap_alloc_new wr _)]; rfl)
          have RT : Hid (w3'.cell? ⟨tb, to' + k, none⟩ = some (strV t)) := Lib.hid (hx3.cell (p := ⟨tb, to' + k, none⟩) (fun f => f) _ r0)
          have HX3 := Lib.hid (HXr.out.trans hx3); have HW3 := Lib.hid hw3
          obtain ⟨D, hD⟩ : ∃ D, D = decide ((t.length : Int) ≠ s) := ⟨_, rfl⟩
          have HDE : Hid ((((t.length : Nat) : Int) != s) = D) := Lib.hid (by rw [hD]; simp [bne, BEq.beq])
          rw [← hD] at HBT HBF
          clear hx3 hw3 hkh hkt hkz r0 hlt HAny hD
          go_wp2
          rw [← HW3.out]
          refine wp_region_ext (fi12T tb to' n tcap k t wr.heap.size s D) mixedR (by rfl) (by rfl) ?all ?fin
          case all =>
            refine ⟨?_, ?_, ?_, ?_, ?_, ?_, ?_, ?_, trivial⟩
            ·
              refine StepOK.plain (kn_stable _) rfl fun ρ w hρ hw hf => ?_
              have h2 : ρ (.tmp 2) = (.slice (some ⟨tb, to', none⟩) n tcap) := (hf 2).2 rfl rfl
              exact Exec.kmove rfl rfl h2
            ·
              refine StepOK.plain (kn_stable _) rfl fun ρ w hρ hw hf => ?_
              have h10 : ρ (.tmp 10) = (.int .i64 (k : Nat)) := (hf 10).2 rfl rfl
              exact Exec.kmove rfl rfl h10
            ·
              refine StepOK.plain (kn_stable _) rfl fun ρ w hρ hw hf => ?_
              have h44 : ρ (.tmp 44) = (.slice (some ⟨tb, to', none⟩) n tcap) := (hf 44).1 rfl
              have h45 : ρ (.tmp 45) = (.int .i64 (k : Nat)) := (hf 45).1 rfl
              exact Exec.kindex rfl rfl Tryz.underlying66 CHT.out CST.out h44 h45 HLT.out rfl
            ·
              refine StepOK.plain (kn_stable _) rfl fun ρ w hρ hw hf => ?_
              have h46 : ρ (.tmp 46) = (.pointer (some ⟨tb, to' + k * 1, none⟩)) := (hf 46).1 rfl
              have hc := hw.cell (p := ⟨tb, to' + k, none⟩) (fun f => f) _ RT.out
              exact Exec.same (v := strV t) rfl (by simp [go_sem, hρ.const, h46, hc]) rfl
            ·
              refine StepOK.plain (kn_stable _) rfl fun ρ w hρ hw hf => ?_
              have h47 : ρ (.tmp 47) = (strV t) := (hf 47).1 rfl
              exact Exec.same (v := .int .i64 (t.length : Nat)) rfl (by simp [go_sem, hρ.const, h47, strV, ByteArray.size]) rfl
            ·
              refine StepOK.plain (kn_stable _) rfl fun ρ w hρ hw hf => ?_
              have h11 : ρ (.tmp 11) = (.pointer (some ⟨wr.heap.size, 0, none⟩)) := (hf 11).2 rfl rfl
              exact Exec.kfield rfl rfl h11 (fieldHo1 w _) rfl
            ·
              refine StepOK.plain (kn_stable _) rfl fun ρ w hρ hw hf => ?_
              have h49 : ρ (.tmp 49) = (.pointer (some ⟨wr.heap.size, 1, none⟩)) := (hf 49).1 rfl
              have hc := hw.cell (p := ⟨wr.heap.size, 1, none⟩) (fun f => f) _ RS.out
              exact Exec.same (v := .int .i64 s) rfl (by simp [go_sem, hρ.const, h49, hc]) rfl
            ·
              refine StepOK.plain (kn_stable _) rfl fun ρ w hρ hw hf => ?_
              have h48 : ρ (.tmp 48) = (.int .i64 (t.length : Nat)) := (hf 48).1 rfl
              have h50 : ρ (.tmp 50) = (.int .i64 s) := (hf 50).1 rfl
              have hD := HDE.out
              exact Exec.same (v := .bool D) rfl (by simp [go_sem, hρ.const, h48, h50, hD]) rfl
          case fin =>
            intro ν w9 hfin hx9
            have e0 : ν 51 = .bool D := hfin 7 51 rfl
            simp only [Exit.then, ended, List.foldl_cons, List.foldl_nil, List.setIfInBounds_toArray, List.set_cons_succ, List.set_cons_zero, e0]
            have HX9 := Lib.hid (HX3.out.trans hx9)
            clear hfin hx9 e0 q0 q1 hidx
            cases D with
            | true =>
              have HE16 : Hid (fillE l hs ts = 16) := Lib.hid (by unfold fillE; rw [if_neg (by rw [HA.out, HB.out]; simp), if_neg (by rw [HAN.out]; decide), if_pos (HBT.out rfl)])
              clear HBT HBF
              go_wp2
              refine bodyPost_ret (results_tmp2 rfl _ _ _) rfl ?_
              refine ⟨_, by rw [HE16.out]; rfl, HX9.out, ?_⟩
              unfold fillR
              rw [HE16.out, if_neg (by decide)]
              exact OwnPr.nil _ _
            | false =>
              have HF := Lib.hid (HBF.out rfl)
              clear HBT HBF
              go_wp2
              go_roundw
              case rel => exact ⟨k + 1, HLT.out, by simp, HX9, HF⟩
              case measure => simp [intOf]; have := HLT.out; omega
        · obtain rfl : n = k := by omega
          have HZL : Hid ((hs.zip ts).length = n) := Lib.hid (by rw [List.length_zip, HA.out, HB.out]; simp)
          have HBN : Hid ((hs.zip ts).any badS = false) := Lib.hid (by have := HAny.out; rwa [← HZL.out, List.take_length] at this)
          have HE0 : Hid (fillE l hs ts = 0) := Lib.hid (by unfold fillE; rw [if_neg (by rw [HA.out, HB.out]; simp), if_neg (by rw [HAN.out]; decide), if_neg (by rw [HBN.out]; decide)])
          have HCL := Lib.hid (clonePr_any (.slice vo l.length vcap) l wr (PcS.ext (by rw [HC.out]; exact HV.out) HXr.out) (by have := HLL.out; have := HC.out; omega))
          rw [HC.out] at HCL
          clear HAny hlt
          go_wp2_with fail
          refine HCL.out.mono ?_
          rintro e w4 ⟨y, rfl, hx4, ho4⟩
          have HX4 := Lib.hid (HXr.out.trans hx4)
          have HO4 : Hid (OwnPr w.heap.size w4 y l) := Lib.hid (ownPr_mono ho4 HXr.out.size)
          obtain ⟨yo, yc, rfl⟩ := owns_shape ho4
          clear hx4 ho4 HCL
          generalize hlm : (.slice yo l.length yc : Value) = yv at *
          have HYV := Lib.hid hlm; clear hlm
          go_wp2
          go_loopw [57] (fun ix wr3 => ∃ k : Nat, k ≤ n ∧ ix = .int .i64 k ∧ Hid (Ext w wr3) ∧ Hid (OwnPr w.heap.size wr3 yv (fillZ l ((hs.zip ts).take k)))) (fun ix _ => n - (intOf ix).toNat)
          case atStart => exact ⟨0, Nat.zero_le _, rfl, HX4, HO4⟩
          case round =>
            obtain ⟨k, hk, rfl, HXr, HOr⟩ := hrel
            by_cases hlt : k < n
            · have hkh : k < hs.length := by have := HA.out; omega
              have hkt : k < ts.length := by have := HB.out; omega
              have hkz : k < (hs.zip ts).length := by rw [List.length_zip]; omega
              obtain ⟨hb, ho', rfl, q0, q1⟩ := (HH.out.ext HXr.out).at hkh
              obtain ⟨tb, to', rfl, r0⟩ := (HT.out.ext HXr.out).at hkt
              have hidx := run_indexSl wr Tryz.underlying37 CHH.out CSH.out hb ho' n hcap k hlt
              have HLT := Lib.hid hlt
              have hbc := any_none _ hs k hkh HAN.out
              unfold badC at hbc
              rw [HC.out] at hbc
              have hbc' := of_decide_eq_false hbc
              obtain ⟨j, hj⟩ : ∃ j : Nat, hs[k].c = (j : Int) := ⟨hs[k].c.toNat, by omega⟩
              have hjm : j < m := by omega
              have hzl := fillZ_length ((hs.zip ts).take k) l
              have hzn := fillZ_snoc l ((hs.zip ts).take k) (hs[k], ts[k])
              have hjL : j < (fillZ l ((hs.zip ts).take k)).length := by rw [hzl, HC.out]; exact hjm
              rw [fillOne_at hj hjL] at hzn
              have htk : (hs.zip ts).take (k + 1) = (hs.zip ts).take k ++ [(hs[k], ts[k])] := by rw [List.take_succ_eq_append_getElem hkz, List.getElem_zip]
              rw [← htk] at hzn
              have HZN := Lib.hid hzn
              rw [hj] at q0
              generalize hs[k].s = s at *
              generalize ts[k] = t at *
              clear htk hzn hj hbc hbc' hkh hkt hkz
              generalize hLP : fillZ l ((hs.zip ts).take (k + 1)) = L' at *
              have HLP := Lib.hid hLP; clear hLP
              generalize fillZ l ((hs.zip ts).take k) = L at *
              obtain ⟨og, ocap, hye, hbg0, -, -⟩ := own_setPrD 4 (by decide) ⟨L[j].k, { L[j].v with t := t }⟩ HOr.out hjL rfl
              rw [hzl, HC.out] at hye
              subst hye
              obtain ⟨w3', hw3⟩ : ∃ w3', w3' = wr.alloc (.cells #[.int .i64 (j : Nat), .int .i64 s] 70) := ⟨_, rfl⟩
              have hx3 : Ext wr w3' := by rw [hw3]; exact (Ch.refl _ _).alloc _
              have RC : Hid (w3'.cell? ⟨wr.heap.size, 0, none⟩ = some (.int .i64 (j : Nat))) := Lib.hid (by rw [hw3, cell_of_row _ _ _ _ _ _ (heap_alloc_new wr _)]; rfl)
              have RT : Hid (w3'.cell? ⟨tb, to' + k, none⟩ = some (strV t)) := Lib.hid (hx3.cell (p := ⟨tb, to' + k, none⟩) (fun f => f) _ r0)
              have HXB := Lib.hid (HXr.out.trans hx3); have HW3 := Lib.hid hw3; have HJL := Lib.hid hjm
              have HST : Hid (∀ w'', Ext w3' w'' → ∃ g cap, (.slice (some ⟨og, 0, none⟩) m ocap : Value) = .slice (some ⟨g, 0, none⟩) m cap ∧ w.heap.size ≤ g ∧ OwnPr w.heap.size (w''.setCell ⟨g, j * 5 + 4, none⟩ (strV t)) (.slice (some ⟨og, 0, none⟩) m ocap) L' ∧ w''.there g (j * 5 + 4) 1) := Lib.hid (fun w' hw' => by
                obtain ⟨g, cap, e1, e2, e3, e4⟩ := own_setPrD 4 (by decide) ⟨L[j].k, { L[j].v with t := t }⟩ (HOr.out.ext (hx3.trans hw')) hjL rfl
                rw [hzl, HC.out] at e1
                rw [← HZN.out] at e3
                exact ⟨g, cap, e1, e2, e3, e4⟩)
              clear HZN hx3 hw3 r0 hlt hjm hjL hzl hbg0 HOr
              go_wp2
              rw [← HW3.out]
              refine wp_region_last (fi19T og m ocap wr.heap.size j tb to' n tcap k t) 10 (fun w' => Ext w w' ∧ OwnPr w.heap.size w' (.slice (some ⟨og, 0, none⟩) m ocap) L') mixedR (by rfl) (by rfl) (by decide) ?all ?fin
              case all =>
                refine ⟨?_, ?_, ?_, ?_, ?_, ?_, ?_, ?_, ?_, ?_, ?_, trivial⟩
                ·
                  refine StepOK.early (fi19T_pure _ _ _ _ _ _ _ _ _ _ _) (by rfl) (by decide) rfl fun ρ w hρ hw hf => ?_
                  have h12 : ρ (.tmp 12) = (.slice (some ⟨og, 0, none⟩) m ocap) := (hf 12).2 rfl rfl
                  exact Exec.kmove rfl rfl h12
                ·
                  refine StepOK.early (fi19T_pure _ _ _ _ _ _ _ _ _ _ _) (by rfl) (by decide) rfl fun ρ w hρ hw hf => ?_
                  have h14 : ρ (.tmp 14) = (.pointer (some ⟨wr.heap.size, 0, none⟩)) := (hf 14).2 rfl rfl
                  exact Exec.kfield rfl rfl h14 (fieldHo0 w _) rfl
                ·
                  refine StepOK.early (fi19T_pure _ _ _ _ _ _ _ _ _ _ _) (by rfl) (by decide) rfl fun ρ w hρ hw hf => ?_
                  have h63 : ρ (.tmp 63) = (.pointer (some ⟨wr.heap.size, 0, none⟩)) := (hf 63).1 rfl
                  have hc := hw.cell (p := ⟨wr.heap.size, 0, none⟩) (fun f => f) _ RC.out
                  exact Exec.same (v := .int .i64 (j : Nat)) rfl (by simp [go_sem, hρ.const, h63, hc]) rfl
                ·
                  refine StepOK.early (fi19T_pure _ _ _ _ _ _ _ _ _ _ _) (by rfl) (by decide) rfl fun ρ w hρ hw hf => ?_
                  have h2 : ρ (.tmp 2) = (.slice (some ⟨tb, to', none⟩) n tcap) := (hf 2).2 rfl rfl
                  exact Exec.kmove rfl rfl h2
                ·
                  refine StepOK.early (fi19T_pure _ _ _ _ _ _ _ _ _ _ _) (by rfl) (by decide) rfl fun ρ w hρ hw hf => ?_
                  have h13 : ρ (.tmp 13) = (.int .i64 (k : Nat)) := (hf 13).2 rfl rfl
                  exact Exec.kmove rfl rfl h13
                ·
                  refine StepOK.early (fi19T_pure _ _ _ _ _ _ _ _ _ _ _) (by rfl) (by decide) rfl fun ρ w hρ hw hf => ?_
                  have h65 : ρ (.tmp 65) = (.slice (some ⟨tb, to', none⟩) n tcap) := (hf 65).1 rfl
                  have h66 : ρ (.tmp 66) = (.int .i64 (k : Nat)) := (hf 66).1 rfl
                  exact Exec.kindex rfl rfl Tryz.underlying66 CHT.out CST.out h65 h66 HLT.out rfl
                ·
                  refine StepOK.early (fi19T_pure _ _ _ _ _ _ _ _ _ _ _) (by rfl) (by decide) rfl fun ρ w hρ hw hf => ?_
                  have h67 : ρ (.tmp 67) = (.pointer (some ⟨tb, to' + k * 1, none⟩)) := (hf 67).1 rfl
                  have hc := hw.cell (p := ⟨tb, to' + k, none⟩) (fun f => f) _ RT.out
                  exact Exec.same (v := strV t) rfl (by simp [go_sem, hρ.const, h67, hc]) rfl
                ·
                  refine StepOK.early (fi19T_pure _ _ _ _ _ _ _ _ _ _ _) (by rfl) (by decide) rfl fun ρ w hρ hw hf => ?_
                  have h62 : ρ (.tmp 62) = (.slice (some ⟨og, 0, none⟩) m ocap) := (hf 62).1 rfl
                  have h64 : ρ (.tmp 64) = (.int .i64 (j : Nat)) := (hf 64).1 rfl
                  exact Exec.kindex rfl rfl Tryz.underlying36 CHR.out CSR.out h62 h64 HJL.out rfl
                ·
                  refine StepOK.early (fi19T_pure _ _ _ _ _ _ _ _ _ _ _) (by rfl) (by decide) rfl fun ρ w hρ hw hf => ?_
                  have h69 : ρ (.tmp 69) = (.pointer (some ⟨og, 0 + j * 5, none⟩)) := (hf 69).1 rfl
                  exact Exec.kfield rfl rfl h69 (fieldP1 w _ _) rfl
                ·
                  refine StepOK.early (fi19T_pure _ _ _ _ _ _ _ _ _ _ _) (by rfl) (by decide) rfl fun ρ w hρ hw hf => ?_
                  have h70 : ρ (.tmp 70) = (.pointer (some ⟨og, 0 + j * 5 + 1, none⟩)) := (hf 70).1 rfl
                  exact Exec.kfield rfl rfl h70 (fieldV3 w _ _) rfl
                ·
                  refine StepOK.last (fi19T_pure _ _ _ _ _ _ _ _ _ _ _) rfl fun ρ w hρ hw hf => ?_
                  have h71 : ρ (.tmp 71) = (.pointer (some ⟨og, 0 + j * 5 + 1 + 3, none⟩)) := (hf 71).1 rfl
                  have h68 : ρ (.tmp 68) = (strV t) := (hf 68).1 rfl
                  obtain ⟨g', cp', e', hbg, hos, hth⟩ := HST.out w hw
                  simp only [Value.slice.injEq, Option.some.injEq, Addr.mk.injEq] at e'
                  obtain ⟨⟨rfl, -⟩, -, -⟩ := e'
                  have hcf := hth 0 (by decide)
                  rw [Nat.add_zero] at hcf
                  obtain ⟨cv, hc⟩ := Option.isSome_iff_exists.1 hcf.1
                  have hfr := hcf.2
                  rw [show 0 + j * 5 + 1 + 3 = j * 5 + 4 by omega] at h71
                  refine Exec.skip (w' := w.setCell ⟨og, j * 5 + 4, none⟩ (strV t)) (by simp [go_sem, h71, h68, hc, hfr, strV]) ⟨(fun d h => by cases h), ?_, ?_⟩
                  · exact (HXB.out.trans hw).setCell (.inr hbg) _
                  · exact hos
              case fin =>
                intro ν w9 _ hfin
                have HX9 := Lib.hid hfin.1; have HO9 := Lib.hid hfin.2
                clear hfin q0 q1 hidx
                simp only [Exit.then, ended, List.foldl_cons, List.foldl_nil, List.setIfInBounds_toArray, List.set_cons_succ, List.set_cons_zero]
                go_wp2
                go_roundw
                case rel => exact ⟨k + 1, HLT.out, by simp, HX9, by rw [HLP.out]; exact HO9⟩
                case measure => simp [intOf]; have := HLT.out; omega
            · obtain rfl : n = k := by omega
              have HF : Hid (OwnPr w.heap.size wr yv (fillZ l (hs.zip ts))) := Lib.hid (by have := HOr.out; rwa [← HZL.out, List.take_length] at this)
              clear HOr hlt
              go_wp2
              refine bodyPost_ret (results_tmp2 rfl _ _ _) rfl ?_
              refine ⟨_, by rw [HE0.out]; rfl, HXr.out, ?_⟩
              unfold fillR
              rw [HE0.out, if_pos rfl]
              exact HF.out
end Go.Proofs.YtegclfpmgilnpaaGreat
namespace Go.Proofs.YtegclfpmgilnpaaGreat
open Go.RowKit Go.Lac
def RFillPost (l : List Cel) (hs : List Ho) (ts : List (List UInt8)) (w : World) (e : Ending) (w' : World) : Prop :=
  ∃ y, e = .returned (.tuple #[y, .int .i64 (fillE l hs ts : Nat)]) ∧ Ext w w' ∧ OwnRr w.heap.size w' y (fillR l hs ts)
def fr12T (tb to hb ho n tcap hcap k : Nat) (t : List UInt8) (s : Int) (D : Bool) : Tmp → Kn
  | 47 => .is (.slice (some ⟨tb, to, none⟩) n tcap)
  | 48 => .is (.int .i64 (k : Nat))
  | 49 => .is (.pointer (some ⟨tb, to + k * 1, none⟩))
  | 50 => .is (strV t)
  | 51 => .is (.int .i64 (t.length : Nat))
  | 52 => .is (.slice (some ⟨hb, ho, none⟩) n hcap)
  | 53 => .is (.int .i64 (k : Nat))
  | 54 => .is (.pointer (some ⟨hb, ho + k * 2, none⟩))
  | 55 => .is (.pointer (some ⟨hb, ho + k * 2 + 1, none⟩))
  | 56 => .is (.int .i64 s)
  | 57 => .is (.bool D)
  | _ => .any
def fr14T (og m ocap hb ho hcap j tb to n tcap k : Nat) (t : List UInt8) : Tmp → Kn
  | 58 => .is (.slice (some ⟨og, 0, none⟩) m ocap)
  | 59 => .is (.slice (some ⟨hb, ho, none⟩) n hcap)
  | 60 => .is (.int .i64 (k : Nat))
  | 61 => .is (.pointer (some ⟨hb, ho + k * 2, none⟩))
  | 62 => .is (.pointer (some ⟨hb, ho + k * 2, none⟩))
  | 63 => .is (.int .i64 (j : Nat))
  | 64 => .is (.slice (some ⟨tb, to, none⟩) n tcap)
  | 65 => .is (.int .i64 (k : Nat))
  | 66 => .is (.pointer (some ⟨tb, to + k * 1, none⟩))
  | 67 => .is (strV t)
  | 68 => .is (.pointer (some ⟨og, 0 + j * 6, none⟩))
  | 69 => .is (.pointer (some ⟨og, 0 + j * 6 + 1, none⟩))
  | 70 => .is (.pointer (some ⟨og, 0 + j * 6 + 1 + 4, none⟩))
  | _ => .any
end Go.Proofs.YtegclfpmgilnpaaGreat
namespace Go.Proofs.YtegclfpmgilnpaaGreat
open Go.RowKit Go.Lac
theorem fieldHoP1 (w : World) (b o : Nat) : (Instr.fieldAt 70 (.pointer (some ⟨b, o, none⟩)) 1).run Tryz.prog w = .ok (.pointer (some ⟨b, o + 1, none⟩)) w := by kernel_rfl
def hoEq (hb ho gb go n hcap gcap k : Nat) (c s : Int) : Tmp → Kn
  | 17 => .is (.slice (some ⟨hb, ho, none⟩) n hcap)
  | 18 => .is (.int .i64 (k : Nat))
  | 19 => .is (.pointer (some ⟨hb, ho + k * 2, none⟩))
  | 20 => .is (.pointer (some ⟨hb, ho + k * 2, none⟩))
  | 21 => .is (.int .i64 c)
  | 22 => .is (.slice (some ⟨gb, go, none⟩) n gcap)
  | 23 => .is (.int .i64 (k : Nat))
  | 24 => .is (.pointer (some ⟨gb, go + k * 2, none⟩))
  | 25 => .is (.pointer (some ⟨gb, go + k * 2, none⟩))
  | 26 => .is (.int .i64 c)
  | 27 => .is (.bool false)
  | 28 => .is (.bool false)
  | 29 => .is (.slice (some ⟨hb, ho, none⟩) n hcap)
  | 30 => .is (.int .i64 (k : Nat))
  | 31 => .is (.pointer (some ⟨hb, ho + k * 2, none⟩))
  | 32 => .is (.pointer (some ⟨hb, ho + k * 2 + 1, none⟩))
  | 33 => .is (.int .i64 s)
  | 34 => .is (.slice (some ⟨gb, go, none⟩) n gcap)
  | 35 => .is (.int .i64 (k : Nat))
  | 36 => .is (.pointer (some ⟨gb, go + k * 2, none⟩))
  | 37 => .is (.pointer (some ⟨gb, go + k * 2 + 1, none⟩))
  | 38 => .is (.int .i64 s)
  | 39 => .is (.bool false)
  | 40 => .is (.bool false)
  | _ => .any
end Go.Proofs.YtegclfpmgilnpaaGreat
namespace Go.Proofs.YtegclfpmgilnpaaGreat
open Go.RowKit Go.Lac
def holesL (l : List Cel) : List Ho := (l.zipIdx.filter fun p => cLarge p.1).map fun p => ⟨(p.2 : Int), (p.1.v.t.length : Int)⟩
def textsL (l : List Cel) : List (List UInt8) := (l.filter cLarge).map fun c => c.v.t
theorem holesL_snoc (l : List Cel) (c : Cel) : holesL (l ++ [c]) = holesL l ++ (if cLarge c = true then [⟨(l.length : Int), (c.v.t.length : Int)⟩] else []) := by
  unfold holesL
  rw [List.zipIdx_append, List.filter_append, List.map_append]
  congr 1
  cases h : cLarge c <;> simp [h]
theorem textsL_snoc (l : List Cel) (c : Cel) : textsL (l ++ [c]) = textsL l ++ (if cLarge c = true then [c.v.t] else []) := by
  unfold textsL
  rw [List.filter_append, List.map_append]
  congr 1
  cases h : cLarge c <;> simp [h]
theorem holesL_take {l : List Cel} {k : Nat} (h : k < l.length) : holesL (l.take (k + 1)) = holesL (l.take k) ++ (if cLarge l[k] = true then [⟨(k : Int), (l[k].v.t.length : Int)⟩] else []) := by
  rw [List.take_succ_eq_append_getElem h, holesL_snoc, List.length_take, Nat.min_eq_left (by omega)]
theorem textsL_take {l : List Cel} {k : Nat} (h : k < l.length) : textsL (l.take (k + 1)) = textsL (l.take k) ++ (if cLarge l[k] = true then [l[k].v.t] else []) := by
  rw [List.take_succ_eq_append_getElem h, textsL_snoc]
theorem holesL_length (l : List Cel) : (holesL l).length ≤ l.length := by
  unfold holesL
  rw [List.length_map]
  exact Nat.le_trans (List.length_filter_le _ _) (by simp)
theorem own_apart {w : World} {b1 b2 : Nat} {E1 E2 : TypeId} {s1 s2 n1 n2 : Nat} {v1 v2 : Value} {xs1 xs2 : List Value} (hE : E1 ≠ E2) (h1 : w.ownsRow b1 E1 s1 v1 n1 xs1) (h2 : w.ownsRow b2 E2 s2 v2 n2 xs2) :
    v2.ownBlock = none ∨ v2.ownBlock ≠ v1.ownBlock := by
  obtain ⟨_, ⟨rfl, _⟩ | ⟨g2, c2, cur2, rfl, _, e2, _⟩⟩ := h2
  · left; rfl
  · obtain ⟨_, ⟨rfl, _⟩ | ⟨g1, c1, cur1, rfl, _, e1, _⟩⟩ := h1
    · right; simp [Value.ownBlock]
    · right
      intro h
      simp [Value.ownBlock] at h
      subst h
      rw [e1] at e2
      simp at e2
      exact hE e2.2
def OwnHoR (base : Nat) (w : World) (v : Value) (l : List Ho) : Prop := w.ownsRow base 102 2 v l.length (HoC l)
def OwnTxR (base : Nat) (w : World) (v : Value) (l : List (List UInt8)) : Prop := w.ownsRow base 9 1 v l.length (l.map strV)
theorem OwnHoR.ext {base : Nat} {w w' : World} {v : Value} {l : List Ho} (h : OwnHoR base w v l) (k : Ext w w') : OwnHoR base w' v l := World.ownsRow.ext h k
theorem OwnTxR.ext {base : Nat} {w w' : World} {v : Value} {l : List (List UInt8)} (h : OwnTxR base w v l) (k : Ext w w') : OwnTxR base w' v l := World.ownsRow.ext h k
theorem wpList_txR {ops : Array Oper} {rest : List Oper} {o : Oper} {a : Act} {Q : Exit → Act → World → Prop} (hgd : o.guard = none) (s x : Operand)
    (ho : o.op = .call { callee := .builtin .append, args := #[s, x], argTypes := #[66, 66] }) {w0 w : World} {v vb : Value} {l : List (List UInt8)} {m : List Ho} {q : List UInt8} {sB : ByteArray} (hsB : sB = ⟨q.toArray⟩) (hx0 : Ext w0 w)
    (hown : OwnTxR w0.heap.size w v l) (hb : OwnHoR w0.heap.size w vb m) (hs : a.eval s = v) (hx : a.eval x = .slice (some ⟨w.heap.size, 0, none⟩) 1 1) (hl : l.length ≤ 200000000)
    (h : ∀ g cap w', Ext w0 w' → OwnTxR w0.heap.size w' (.slice (some ⟨g, 0, none⟩) (l.length + 1) cap) (l ++ [q]) → OwnHoR w0.heap.size w' vb m → wpList Tryz.prog ops Q rest (a.put o.dst (.slice (some ⟨g, 0, none⟩) (l.length + 1) cap)) w') :
    wpList Tryz.prog ops Q (o :: rest) a (w.alloc (.cells #[.string sB] 9)) := by
  subst hsB
  obtain ⟨ci, chi, chz, chs, chb⟩ := info_parts infoStrR
  have hown2 : (w.alloc (.cells #[.string ⟨q.toArray⟩] 9)).ownsRow w0.heap.size 9 1 v l.length (l.map strV) := World.ownsRow.alloc hown _
  have hb2 : (w.alloc (.cells #[.string ⟨q.toArray⟩] 9)).ownsRow w0.heap.size 102 2 vb m.length (HoC m) := World.ownsRow.alloc hb _
  have hsl : Sl (w.alloc (.cells #[.string ⟨q.toArray⟩] 9)) (.slice (some ⟨w.heap.size, 0, none⟩) 1 1) 1 [.string ⟨q.toArray⟩] := Sl.ofOwns (base := 0) (e := 9) (size := 1) (World.ownsRow_lit w #[.string ⟨q.toArray⟩] 1 (Nat.zero_le _) (by decide) rfl)
  refine wpList_append_sl _ hgd s x 66 ho w0.heap.size 9 ci (.string ⟨#[]⟩) 1 16 Tryz.underlying66 chi chz chs chb rfl (by decide) v _ _ hs hown2 _ 1 _ hx hsl rfl (by intro u hu; simp at hu; subst hu; rfl) (by omega) (by unfold maxLen; omega) (by have := hx0.size; simp; omega) ?_
  intro v2 w3 hown' hgrow
  obtain ⟨g2, cap2, rfl⟩ := ownsRow_succ hown'
  refine h g2 cap2 w3 ((hx0.alloc _).grown hgrow fun k hk => .inr (hown2.lt k hk).1) ?_ (World.ownsRow.kept hb2 hgrow (own_apart (by decide) hown2 hb2))
  unfold OwnTxR
  rw [List.length_append, List.map_append]
  exact hown'
end Go.Proofs.YtegclfpmgilnpaaGreat
