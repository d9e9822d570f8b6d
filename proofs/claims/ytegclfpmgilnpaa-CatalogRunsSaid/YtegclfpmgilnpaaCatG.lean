/-
  Catalogs: Get.
-/
import Derived.Test.YtegclfpmgilnpaaCatF
import Derived.Test.YtegclfpmgilnpaaGRelD
namespace Go.Proofs.Ytegclfpmgilnpaa
open Go.RowKit Go.Lac

/-- A relation of one's own, if there is one. -/
def RlPost (o : Option Rl) (w : World) (e : Ending) (w' : World) : Prop :=
  Ext w w' ∧ ∃ c, e = .returned (.tuple #[.agg (relv (o.getD .zero) c), .bool o.isSome]) ∧ w'.ownsRow w.heap.size 69 3 c (o.getD .zero).cols.length (colC (o.getD .zero).cols)
def zeroRow : Array Value := #[.int .u32 0, .int .u32 0, .string ⟨#[]⟩, .int .u8 0, .slice none 0 0]
set_option maxRecDepth 20000 in
set_option maxHeartbeats 2000000 in
theorem get_any (base : Nat) (c : Value) (l : List Rl) (p : Nat × Nat) (w : World) (h : CatS base w c l) (hok : CatOk l) :
    Calls Try.prog 16 #[c, .agg (refv p)] w (RlPost (catGet l p) w) := by
  have h1 := heap_alloc2_old w (.cells (refv p) 36) (.cells #[.int .u32 0, .int .u32 0, .string ⟨#[]⟩, .int .u8 0, .slice none 0 0] 39)
  have h2 := heap_alloc2_new w (.cells (refv p) 36) (.cells #[.int .u32 0, .int .u32 0, .string ⟨#[]⟩, .int .u8 0, .slice none 0 0] 39)
  obtain ⟨W, hW⟩ : ∃ W, W = (w.alloc (.cells (refv p) 36)).alloc (.cells #[.int .u32 0, .int .u32 0, .string ⟨#[]⟩, .int .u8 0, .slice none 0 0] 39) := ⟨_, rfl⟩
  have hx : Ext w W := by rw [hW]; exact ((Ch.refl _ _).alloc _).alloc _
  rw [← hW] at h1 h2
  have HX := Lib.hid hx; have HW := Lib.hid hW; have HG2 := Lib.hid h2; have HOK := Lib.hid hok
  have HC := Lib.hid (h.ext hx)
  have HFD := Lib.hid (find_any base c l p W HC.out hok.order (by have := hok.len; omega))
  have HTH := Lib.hid (place_there (p := p) hok.order)
  have HGT := Lib.hid (catGet_place hok.order p)
  have d0 : W.cell? ⟨w.heap.size, 0, none⟩ = some (.int .u32 (p.1 : Nat)) := by rw [cell_of_row _ _ _ _ _ _ h1]; rfl
  have d1 : W.cell? ⟨w.heap.size, 1, none⟩ = some (.int .u32 (p.2 : Nat)) := by rw [cell_of_row _ _ _ _ _ _ h1]; rfl
  obtain ⟨g, v, rfl, _⟩ := h
  rw [hW] at d0 d1
  clear h1 h2 hx hW hok
  unfold refv at *
  go_enter Try.func16, Try.ntmps16
  go_wp2_with fail
  rw [← HW.out]
  refine HFD.out.mono ?_
  rintro e w2 ⟨rfl, hx2⟩
  have HX2 := Lib.hid (HX.out.trans hx2); have HG := Lib.hid (heap_ext hx2 HG2.out); have HC2 := Lib.hid (HC.out.ext hx2)
  clear hx2 d0 d1
  by_cases hth : ∃ x ∈ l, rf x = p
  · rw [decide_eq_true hth]
    obtain ⟨hk, hke⟩ := HTH.out.2 hth
    have HE : Hid (catGet l p = some l[place l p]) := Lib.hid (by rw [HGT.out, dif_pos hk, if_pos hke])
    clear hth hke HTH HGT HFD
    obtain ⟨g', v', e0, _, h3, cs, h4, h5⟩ := HC2.out
    cases e0
    have hs : RlS (OwnP base w2) w2 v' l := ⟨cs, h4, Sl.ofOwns h5⟩
    obtain ⟨ao, cap, rfl⟩ := owns_shape h5
    obtain ⟨b, o, cv, rfl, hra, hcv⟩ := rlS_at hs hk
    obtain ⟨ci, chi, _, chs, _⟩ := info_parts infoRlZ
    have hidx := run_indexSl w2 Try.underlying62 chi chs b o l.length cap (place l p) hk
    have hvc : w2.cell? ⟨g, 0, none⟩ = some (.slice (some ⟨b, o, none⟩) l.length cap) := by rw [cell_of_row _ _ _ _ _ _ h3]; rfl
    have h16 := (rlErr_zero (HOK.out.right _ (List.getElem_mem hk))).2.2.2.2.2.1
    have HKL := Lib.hid hk
    generalize l[place l p] = x at *
    generalize place l p = k at *
    have q0 : w2.cell? ⟨b, o + k * 5, none⟩ = some (.int .u32 (x.oid : Nat)) := by have := hra 0 _ rfl; simpa using this
    have q1 : w2.cell? ⟨b, o + k * 5 + 1, none⟩ = some (.int .u32 (x.ver : Nat)) := hra 1 _ rfl
    have q2 : w2.cell? ⟨b, o + k * 5 + 2, none⟩ = some (.string ⟨x.name.toArray⟩) := hra 2 _ rfl
    have q3 : w2.cell? ⟨b, o + k * 5 + 3, none⟩ = some (.int .u8 (x.ident : Nat)) := hra 3 _ rfl
    have q4 : w2.cell? ⟨b, o + k * 5 + 4, none⟩ = some cv := hra 4 _ rfl
    obtain ⟨co, cc, rfl⟩ := owns_shape hcv
    have HFR := Lib.hid (fresh_any base x (.slice co x.cols.length cc) w2 (Sl.ofOwns hcv) (by omega))
    have hll := HOK.out.len
    clear hra hcv hs h3 h4 h5 chi chs h16
    unfold relv strV at HFR
    generalize l.length = n at *
    go_wp2_with fail
    refine HFR.out.mono ?_
    rintro e w3 ⟨c, rfl, hx3, ho⟩
    obtain ⟨fo, fc, rfl⟩ := owns_shape ho
    have HX3 := Lib.hid (HX2.out.trans hx3); have HR3 := Lib.hid (heap_ext hx3 HG.out)
    have HO3 := Lib.hid (ownsRow_down ho HX2.out.size)
    clear hx3 ho q0 q1 q2 q3 q4 hidx hvc HFR
    go_wp2_with (refine wpList_store_rowTo rfl _ _ _ rfl rfl (w.heap.size + 1) (relv x (.slice fo x.cols.length fc)) rfl rfl _ _ HR3.out infoOw rfl (relv_one _ _ _ _) ?_)
    refine bodyPost_ret (results_row_tmp rfl _ _ (w.heap.size + 1) _ (relv x (.slice fo x.cols.length fc)) _ _ rfl (setRow_heap _ _ _ _ _ _ HR3.out) Try.underlying39 rfl infoOw) rfl ?_
    rw [HE.out]
    refine ⟨HX3.out.grown (gby_setRow _ _ _) (fun k e => by cases e; exact .inr (Nat.le_succ _)), _, rfl, ?_⟩
    exact HO3.out.kept (gby_setRow _ _ _) (.inr fun e => own_ne HO3.out HR3.out (by decide) _ e rfl)
  · rw [decide_eq_false hth]
    have HE : Hid (catGet l p = none) := Lib.hid (by
      unfold catGet
      exact List.find?_eq_none.2 fun x hx => by simpa using fun e => hth ⟨x, hx, e⟩)
    clear hth HTH HGT HFD
    have b0 := fun w => build_rl0 w
    go_wp2_with (refine wpList_store_rowTo rfl _ _ _ rfl rfl (w.heap.size + 1) #[.int .u32 0, .int .u32 0, .string ⟨#[]⟩, .int .u8 0, .slice none 0 0] rfl rfl _ _ HG.out infoOw rfl (by simp [Value.oneCell']) ?_)
    refine bodyPost_ret (results_row_tmp rfl _ _ (w.heap.size + 1) _ #[.int .u32 0, .int .u32 0, .string ⟨#[]⟩, .int .u8 0, .slice none 0 0] _ _ rfl (setRow_heap _ _ _ _ _ _ HG.out) Try.underlying39 rfl infoOw) rfl ?_
    rw [HE.out]
    exact ⟨HX2.out.grown (gby_setRow _ _ _) (fun k e => by cases e; exact .inr (Nat.le_succ _)), .slice none 0 0, rfl, World.ownsRow_nil _ _ _ _⟩
end Go.Proofs.Ytegclfpmgilnpaa
