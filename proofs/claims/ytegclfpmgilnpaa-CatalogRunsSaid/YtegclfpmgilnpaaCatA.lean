/-
  Catalogs: lists of relations in cells; sort.Search.
-/
import Derived.Test.YtegclfpmgilnpaaGRelC
import Derived.Test.YtegclfpmgilnpaaRelX
import Derived.Test.YtegclfpmgilnpaaRelW
import Derived.Test.YtegclfpmgilnpaaCatM
namespace Go.Proofs.Ytegclfpmgilnpaa
open Go.RowKit Go.Lac

/-- The cells of these relations, one behind the other; of each one's columns P holds. -/
def RlC (P : Value → List Col → Prop) : List Rl → List Value → Prop
  | [], cs => cs = []
  | r :: l, cs => ∃ cv t, cs = (relv r cv).toList ++ t ∧ P cv r.cols ∧ RlC P l t
theorem RlC.length {P : Value → List Col → Prop} : ∀ {l : List Rl} {cs : List Value}, RlC P l cs → cs.length = l.length * 5
  | [], _, h => by rw [show _ = _ from h]; rfl
  | r :: l, cs, ⟨cv, t, e, _, h⟩ => by rw [e, List.length_append, RlC.length h, List.length_cons]; simp [relv]; omega
theorem RlC.imp {P Q : Value → List Col → Prop} (hpq : ∀ v c, P v c → Q v c) : ∀ {l : List Rl} {cs : List Value}, RlC P l cs → RlC Q l cs
  | [], _, h => h
  | r :: l, cs, ⟨cv, t, e, h1, h⟩ => ⟨cv, t, e, hpq _ _ h1, RlC.imp hpq h⟩
theorem RlC.append {P : Value → List Col → Prop} : ∀ {a b : List Rl} {x y : List Value}, RlC P a x → RlC P b y → RlC P (a ++ b) (x ++ y)
  | [], b, x, y, h, k => by rw [show x = [] from h]; exact k
  | r :: l, b, x, y, ⟨cv, t, e, h1, h⟩, k => ⟨cv, t ++ y, by rw [e, List.append_assoc], h1, RlC.append h k⟩
theorem RlC.one {P : Value → List Col → Prop} {r : Rl} {cv : Value} (h : P cv r.cols) : RlC P [r] (relv r cv).toList := ⟨cv, [], by simp, h, rfl⟩
theorem RlC.take {P : Value → List Col → Prop} : ∀ {l : List Rl} {cs : List Value}, RlC P l cs → ∀ k : Nat, RlC P (l.take k) (cs.take (k * 5))
  | [], _, h, k => by rw [show _ = _ from h]; simp [RlC]
  | r :: l, cs, ⟨cv, t, e, h1, h⟩, 0 => by simp [RlC]
  | r :: l, cs, ⟨cv, t, e, h1, h⟩, k + 1 => by
    refine ⟨cv, t.take (k * 5), ?_, h1, RlC.take h k⟩
    rw [e, List.take_append, List.take_of_length_le (by simp [relv]; omega)]
    congr 2
    simp [relv]; omega
theorem RlC.drop {P : Value → List Col → Prop} : ∀ {l : List Rl} {cs : List Value}, RlC P l cs → ∀ k : Nat, RlC P (l.drop k) (cs.drop (k * 5))
  | [], _, h, k => by rw [show _ = _ from h]; simp [RlC]
  | r :: l, cs, h, 0 => by simpa using h
  | r :: l, cs, ⟨cv, t, e, h1, h⟩, k + 1 => by
    have e1 : (relv r cv).toList.drop ((k + 1) * 5) = [] := List.drop_of_length_le (by simp [relv]; omega)
    have e2 : (k + 1) * 5 - (relv r cv).toList.length = k * 5 := by simp [relv]; omega
    rw [List.drop_succ_cons, e, List.drop_append, e1, e2, List.nil_append]
    exact RlC.drop h k
theorem RlC.at {P : Value → List Col → Prop} : ∀ {l : List Rl} {cs : List Value}, RlC P l cs → ∀ (j : Nat) (hj : j < l.length), ∃ cv, P cv l[j].cols ∧ ∀ q u, (relv l[j] cv).toList[q]? = some u → cs[j * 5 + q]? = some u
  | r :: l, cs, ⟨cv, t, e, h1, h⟩, 0, hj => ⟨cv, h1, fun q u hu => by
      have hq : q < 5 := by have := (List.getElem?_eq_some_iff.1 hu).1; simpa [relv] using this
      rw [e, Nat.zero_mul, Nat.zero_add, List.getElem?_append_left (by simpa [relv] using hq)]
      exact hu⟩
  | r :: l, cs, ⟨cv, t, e, h1, h⟩, j + 1, hj => by
    obtain ⟨cv', k1, k2⟩ := RlC.at h j (by simpa using hj)
    refine ⟨cv', k1, fun q u hu => ?_⟩
    rw [e, List.getElem?_append_right (by simp [relv]; omega), show (j + 1) * 5 + q - (relv r cv).toList.length = j * 5 + q by simp [relv]; omega]
    exact k2 q u hu
/-- A slice of relations. -/
def RlS (P : Value → List Col → Prop) (w : World) (v : Value) (l : List Rl) : Prop := ∃ cs, RlC P l cs ∧ Sl w v l.length cs
theorem RlS.shape {P : Value → List Col → Prop} {w : World} {v : Value} {l : List Rl} (h : RlS P w v l) : ∃ ao cap, v = .slice ao l.length cap ∧ l.length ≤ cap ∧ cap ≤ maxLen := by
  obtain ⟨_, _, ao, cap, e, h1, h2, _⟩ := h; exact ⟨ao, cap, e, h1, h2⟩
theorem RlS.ext {P Q : Value → List Col → Prop} {w w' : World} {v : Value} {l : List Rl} (h : RlS P w v l) (hx : Ext w w') (hpq : ∀ v c, P v c → Q v c) : RlS Q w' v l := by
  obtain ⟨cs, h1, h2⟩ := h; exact ⟨cs, h1.imp hpq, Sl.ext h2 hx⟩
theorem rlS_at {P : Value → List Col → Prop} {w : World} {ao : Option Addr} {n cap : Nat} {l : List Rl} (h : RlS P w (.slice ao n cap) l) {j : Nat} (hj : j < l.length) :
    ∃ b o cv, ao = some ⟨b, o, none⟩ ∧ w.rangeAt b (o + j * 5) (relv l[j] cv).toList ∧ P cv l[j].cols := by
  obtain ⟨cs, hc, ao', cap', e0, g1, g2, g3, g5⟩ := h
  cases e0
  obtain ⟨cv, k1, k2⟩ := hc.at j hj
  cases ao with
  | none =>
    exfalso
    have := g3 rfl
    omega
  | some x =>
    obtain ⟨b, o, rfl, c0⟩ := g5 x rfl _ _ (k2 0 _ rfl)
    refine ⟨b, o, cv, rfl, fun q u hq => ?_, k1⟩
    obtain ⟨b', o', e, c1⟩ := g5 ⟨b, o, none⟩ rfl _ _ (k2 q u hq)
    cases e
    rw [show o + j * 5 + q = o + (j * 5 + q) by omega]
    exact c1
/-- A column's row of one's own. -/
def OwnP (base : Nat) (w : World) (cv : Value) (cols : List Col) : Prop := w.ownsRow base 69 3 cv cols.length (colC cols)
theorem OwnP.ext {base : Nat} {w w' : World} (hx : Ext w w') (cv : Value) (cols : List Col) (h : OwnP base w cv cols) : OwnP base w' cv cols := World.ownsRow.ext h hx
/-- A catalog: its list lies in rows of its own, from base on. -/
def CatS (base : Nat) (w : World) (p : Value) (l : List Rl) : Prop :=
  ∃ g v, p = .pointer (some ⟨g, 0, none⟩) ∧ base ≤ g ∧ w.heap[g]? = some (.cells #[v] 103 (0, 0)) ∧ ∃ cs, RlC (OwnP base w) l cs ∧ w.ownsRow base 39 5 v l.length cs
theorem CatS.ext {base : Nat} {w w' : World} {p : Value} {l : List Rl} (h : CatS base w p l) (hx : Ext w w') : CatS base w' p l := by
  obtain ⟨g, v, h1, h2, h3, cs, h4, h5⟩ := h
  exact ⟨g, v, h1, h2, heap_ext hx h3, cs, h4.imp (OwnP.ext hx), h5.ext hx⟩
theorem new_any (w : World) : Calls Try.prog 10 #[] w fun e w' => ∃ p, e = .returned p ∧ Ext w w' ∧ CatS w.heap.size w' p [] := by
  have b0 := fun w => (show (Instr.build 103 #[]).run Try.prog w = .ok (.agg #[.slice none 0 0]) w by kernel_rfl)
  go_enter Try.func10, Try.ntmps10
  go_wp2
  go_ret
  exact ⟨_, rfl, (Ch.refl _ _).alloc _, w.heap.size, .slice none 0 0, rfl, Nat.le_refl _, heap_alloc_new w _, [], rfl, ⟨rfl, .inl ⟨rfl, rfl⟩⟩⟩
theorem len_any (base : Nat) (w : World) (p : Value) (l : List Rl) (h : CatS base w p l) : Calls Try.prog 14 #[p] w fun e w' => e = .returned (.int .i64 (l.length : Nat)) ∧ Ext w w' := by
  obtain ⟨g, v, rfl, h2, h3, cs, h4, h5⟩ := h
  obtain ⟨ao, cap, rfl⟩ := owns_shape h5
  have c0 : w.cell? ⟨g, 0, none⟩ = some (.slice ao l.length cap) := by rw [cell_of_row _ _ _ _ _ _ h3]; rfl
  clear h4 h5 h2 h3
  generalize l.length = n at *
  go_enter Try.func14, Try.ntmps14
  go_wp2
  go_ret
  exact ⟨rfl, Ch.refl _ _⟩
set_option maxRecDepth 20000 in
set_option maxHeartbeats 1600000 in
theorem fresh_any (base : Nat) (r : Rl) (cv : Value) (w : World) (hc : ColS w cv r.cols) (hl : r.cols.length ≤ 1000000) :
    Calls Try.prog 52 #[.agg (relv r cv)] w fun e w' => ∃ c, e = .returned (.agg (relv r c)) ∧ Ext w w' ∧ w'.ownsRow w.heap.size 69 3 c r.cols.length (colC r.cols) := by
  have h1 := heap_alloc2_old w (.cells (relv r cv) 39) (.cells #[.int .u32 0, .int .u32 0, .string ⟨#[]⟩, .int .u8 0, .slice none 0 0] 39)
  have h2 := heap_alloc2_new w (.cells (relv r cv) 39) (.cells #[.int .u32 0, .int .u32 0, .string ⟨#[]⟩, .int .u8 0, .slice none 0 0] 39)
  obtain ⟨W, hW⟩ : ∃ W, W = (w.alloc (.cells (relv r cv) 39)).alloc (.cells #[.int .u32 0, .int .u32 0, .string ⟨#[]⟩, .int .u8 0, .slice none 0 0] 39) := ⟨_, rfl⟩
  have hx : Ext w W := by rw [hW]; exact ((Ch.refl _ _).alloc _).alloc _
  rw [← hW] at h1 h2
  have HG1 := Lib.hid h1; have HG2 := Lib.hid h2; have HX := Lib.hid hx; have HW := Lib.hid hW
  obtain ⟨ao, cap, rfl, _⟩ := id hc
  have HCL := Lib.hid (cloneCo_any (.slice ao r.cols.length cap) r.cols W (ColS.ext hc hx) hl)
  obtain ⟨c0, c1, c2, c3, c4⟩ := row_cells h1
  rw [hW] at c0 c1 c2 c3 c4
  clear hc hl h1 h2 hx hW
  unfold relv strV at *
  go_enter Try.func52, Try.ntmps52
  go_wp2_with fail
  rw [← HW.out]
  refine HCL.out.mono ?_
  rintro e w2 ⟨v, rfl, hx2, ho⟩
  have HX2 := Lib.hid (HX.out.trans hx2)
  have HR1 := Lib.hid (heap_ext hx2 HG1.out); have HR2 := Lib.hid (heap_ext hx2 HG2.out)
  obtain ⟨vo, vc, rfl⟩ := owns_shape ho
  have HO := Lib.hid ho
  obtain ⟨d0, d1, d2, d3, d4⟩ := row5 HR1.out
  obtain ⟨e0, e1, e2, e3, e4⟩ := row5 HR2.out
  have f4 := frozen_of_row _ _ 4 _ _ HR1.out
  clear c0 c1 c2 c3 c4 hx2 ho
  obtain ⟨w3, hw3⟩ : ∃ w3, w3 = w2.setCell ⟨w.heap.size, 4, none⟩ (.slice vo r.cols.length vc) := ⟨_, rfl⟩
  have hr3 : w3.heap[w.heap.size + 1]? = some (.cells #[.int .u32 0, .int .u32 0, .string ⟨#[]⟩, .int .u8 0, .slice none 0 0] 39 (0, 0)) := by
    rw [hw3, Below.heap_setCell _ _ _ _ (by simp)]; exact HR2.out
  have hx3 : Ext w w3 := by rw [hw3]; exact HX2.out.setCell (p := ⟨w.heap.size, 4, none⟩) (.inr (Nat.le_refl _)) _
  have ho3 : w3.ownsRow w.heap.size 69 3 (.slice vo r.cols.length vc) r.cols.length (colC r.cols) := by
    rw [hw3]
    refine (ownsRow_down HO.out HX.out.size).kept (gby_setCell _ _ _) (.inr fun e => ?_)
    exact own_ne HO.out HR1.out (by decide) _ e rfl
  have HW3 := Lib.hid hw3; have HR3 := Lib.hid hr3; have HX3 := Lib.hid hx3; have HO3 := Lib.hid ho3
  clear hw3 hr3 hx3 ho3 e0 e1 e2 e3 e4
  go_wp2_with (rw [← HW3.out]; refine wpList_store_rowTo rfl _ _ _ rfl rfl (w.heap.size + 1) #[.int .u32 (r.oid : Nat), .int .u32 (r.ver : Nat), .string ⟨r.name.toArray⟩, .int .u8 (r.ident : Nat), .slice vo r.cols.length vc] rfl rfl _ _ HR3.out infoOw rfl (by simp [Value.oneCell']) ?_)
  refine bodyPost_ret (results_cell_row rfl _ _ (w.heap.size + 1) _ _ _ _ rfl (setRow_heap _ _ _ _ _ _ HR3.out) Try.underlying39 rfl infoOw) rfl ?_
  refine ⟨_, rfl, HX3.out.grown (gby_setRow _ _ _) (fun k e => by cases e; exact .inr (Nat.le_succ _)), HO3.out.kept (gby_setRow _ _ _) (.inr fun e => ?_)⟩
  exact own_ne HO3.out HR3.out (by decide) _ e rfl
def srchV (g3 g2 : Nat) : Value := .func (.func 84) #[] #[.pointer (some ⟨g3, 0, none⟩), .pointer (some ⟨g2, 0, none⟩)]
set_option maxRecDepth 20000 in
set_option maxHeartbeats 1600000 in
theorem search_any (n g3 g2 : Nat) (p : Nat → Bool) (w : World) (hn : n ≤ 1000000) (hm : ∀ i j, i ≤ j → j < n → p i = true → p j = true)
    (hf : ∀ k, k < n → ∀ w', Ext w w' → Calls Try.prog 84 #[.int .i64 (k : Nat), .pointer (some ⟨g3, 0, none⟩), .pointer (some ⟨g2, 0, none⟩)] w' fun e w'' => e = .returned (.bool (p k)) ∧ Ext w' w'') :
    Calls Try.prog 83 #[.int .i64 (n : Nat), srchV g3 g2] w fun e w' => (∃ k : Nat, k ≤ n ∧ e = .returned (.int .i64 k) ∧ (∀ j, j < n → (p j = true ↔ k ≤ j))) ∧ Ext w w' := by
  have HF := Lib.hid hf; have HM := Lib.hid hm
  clear hf hm
  unfold srchV
  go_enter Try.func83, Try.ntmps83
  go_wp2
  go_loopw [5, 6] (fun vi vj wr => ∃ i j : Nat, i ≤ j ∧ j ≤ n ∧ vi = .int .i64 i ∧ vj = .int .i64 j ∧ Hid (Ext w wr) ∧ Hid ((∀ k, k < i → p k = false) ∧ (∀ k, j ≤ k → k < n → p k = true))) (fun vi vj _ => (intOf vj).toNat - (intOf vi).toNat)
  case atStart => exact ⟨0, n, Nat.zero_le _, Nat.le_refl _, rfl, rfl, Lib.hid (Ch.refl _ _), Lib.hid ⟨fun k hk => absurd hk (Nat.not_lt_zero _), fun k h1 h2 => by omega⟩⟩
  case round =>
    obtain ⟨i, j, hij, hjn, rfl, rfl, HX, HP⟩ := hrel
    by_cases hlt : i < j
    · obtain ⟨h, hh⟩ : ∃ h, h = (i + j) / 2 := ⟨_, rfl⟩
      have hi : i ≤ h ∧ h < j := by omega
      have he : ((i : Int) + (j : Int)) / 2 = ((h : Nat) : Int) := by omega
      have he2 : ((i : Int) + (j : Int)).toNat / 2 = h := by omega
      have HC := Lib.hid (HF.out h (by omega) wr HX.out)
      have HH := Lib.hid hh; clear hh
      go_wp2_with fail
      refine HC.out.mono ?_
      rintro e w2 ⟨rfl, hx⟩
      have HX2 := Lib.hid (HX.out.trans hx)
      clear hx he he2
      cases hp : p h with
      | true =>
        have HP2 : Hid ((∀ k, k < i → p k = false) ∧ (∀ k, h ≤ k → k < n → p k = true)) := Lib.hid ⟨HP.out.1, fun k h1 h2 => HM.out h k h1 h2 hp⟩
        clear hp
        go_wp2
        go_roundw
        case rel => exact ⟨i, h, hi.1, by omega, rfl, rfl, HX2, HP2⟩
        case measure => simp [intOf]; omega
      | false =>
        have HP2 : Hid ((∀ k, k < h + 1 → p k = false) ∧ (∀ k, j ≤ k → k < n → p k = true)) := Lib.hid (by
          refine ⟨fun k hk => ?_, HP.out.2⟩
          cases hpk : p k with
          | false => rfl
          | true => have := HM.out k h (by omega) (by omega) hpk; rw [hp] at this; cases this)
        clear hp
        go_wp2
        go_roundw
        case rel => exact ⟨h + 1, j, by omega, hjn, by simp, rfl, HX2, HP2⟩
        case measure => simp [intOf]; omega
    · obtain rfl : i = j := by omega
      have HP2 : Hid (∀ k, k < n → (p k = true ↔ i ≤ k)) := Lib.hid fun k hk => ⟨fun h => by
        by_cases hki : k < i
        · have := HP.out.1 k hki; rw [h] at this; cases this
        · omega, fun h => HP.out.2 k h hk⟩
      go_wp2
      go_ret
      exact ⟨⟨i, hjn, rfl, HP2.out⟩, HX.out⟩
end Go.Proofs.Ytegclfpmgilnpaa
