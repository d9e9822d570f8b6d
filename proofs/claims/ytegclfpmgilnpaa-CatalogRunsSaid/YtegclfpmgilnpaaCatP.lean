/-
  Catalogs: the document's Add. MADE BY mkCatP.py
-/
import Derived.Test.YtegclfpmgilnpaaCatL
namespace Go.Proofs.Ytegclfpmgilnpaa
open Go.RowKit Go.Lac

theorem RlC.oneS {w : World} : ∀ {l : List Rl} {cs : List Value}, RlC (ColS w) l cs → ∀ u ∈ cs, u.oneCell' = true
  | [], _, h, u, hu => by rw [show _ = [] from h] at hu; cases hu
  | r :: l, cs, ⟨cv, t, e, h1, h⟩, u, hu => by
    obtain ⟨ao, cap, rfl, _⟩ := id h1
    rw [e] at hu
    rcases List.mem_append.1 hu with hu | hu
    · have := relv_one r ao r.cols.length cap
      rw [← Array.all_toList, List.all_eq_true] at this
      exact this u hu
    · exact RlC.oneS h u hu
theorem oneQl (w : World) (x y : Int) (A : ByteArray) (i : Int) (ao : Option Addr) (n c : Nat) : (Instr.buildSlice 22 1 #[(0, .agg #[.int .u32 x, .int .u32 y, .string A, .int .u8 i, .slice ao n c])]).run Try.prog w = .ok (.slice (some ⟨w.heap.size, 0, none⟩) 1 1) (w.alloc (.cells #[.int .u32 x, .int .u32 y, .string A, .int .u8 i, .slice ao n c] 33)) := by kernel_rfl
/-- Some of these stand behind a ref. -/
def anyBehind (p : Nat × Nat) (l : List Rl) : Bool := l.any fun x => decide (RefLt p (rf x))
theorem ins_app1 {r : Rl} : ∀ {a b : List Rl}, anyBehind (rf r) a = true → ins r (a ++ b) = ins r a ++ b
  | [], b, h => by simp [anyBehind] at h
  | x :: a, b, h => by
    by_cases hx : RefLt (rf r) (rf x)
    · rw [List.cons_append, ins, ins, if_pos hx, if_pos hx]; rfl
    · have h2 : anyBehind (rf r) a = true := by simpa [anyBehind, hx] using h
      rw [List.cons_append, ins, ins, if_neg hx, if_neg hx, ins_app1 h2]; rfl
theorem ins_app0 {r : Rl} : ∀ {a b : List Rl}, anyBehind (rf r) a = false → ins r (a ++ b) = a ++ ins r b
  | [], b, h => rfl
  | x :: a, b, h => by
    have hx : ¬ RefLt (rf r) (rf x) := by simp [anyBehind] at h; exact h.1
    have h2 : anyBehind (rf r) a = false := by simp [anyBehind] at h ⊢; exact h.2
    rw [List.cons_append, ins, if_neg hx, ins_app0 h2]; rfl
/-- What has been put by when the first k have been looked at. -/
def outK (r : Rl) (a : List Rl) : List Rl := if anyBehind (rf r) a = true then ins r a else a
theorem outK_length (r : Rl) (a : List Rl) : (outK r a).length ≤ a.length + 1 := by unfold outK; split; rw [ins_length]; omega; omega
theorem anyB_snoc (p : Nat × Nat) (a : List Rl) (x : Rl) : anyBehind p (a ++ [x]) = (anyBehind p a || decide (RefLt p (rf x))) := by simp [anyBehind]
theorem outK_put {r x : Rl} {a : List Rl} (h : anyBehind (rf r) a = true) : outK r (a ++ [x]) = outK r a ++ [x] := by
  unfold outK; rw [anyB_snoc, h, if_pos (by rfl), if_pos rfl, ins_app1 h]
theorem outK_new {r x : Rl} {a : List Rl} (h : anyBehind (rf r) a = false) (hx : RefLt (rf r) (rf x)) : outK r (a ++ [x]) = (outK r a ++ [r]) ++ [x] := by
  unfold outK; rw [anyB_snoc, h, decide_eq_true hx, if_pos (by rfl), if_neg (by decide), ins_app0 h, ins, if_pos hx]; simp
theorem outK_old {r x : Rl} {a : List Rl} (h : anyBehind (rf r) a = false) (hx : ¬ RefLt (rf r) (rf x)) : outK r (a ++ [x]) = outK r a ++ [x] := by
  unfold outK; rw [anyB_snoc, h, decide_eq_false hx, if_neg (by decide), if_neg (by decide)]
theorem outK_end {r : Rl} {a : List Rl} (h : anyBehind (rf r) a = false) : outK r a ++ [r] = ins r a := by
  have := ins_app0 (b := []) h
  rw [List.append_nil] at this
  unfold outK; rw [this, h, if_neg (by decide)]; rfl
theorem outK_end1 {r : Rl} {a : List Rl} (h : anyBehind (rf r) a = true) : outK r a = ins r a := by unfold outK; rw [if_pos h]
def AddPost (l : List Rl) (r : Rl) (w : World) (e : Ending) (w' : World) : Prop :=
  Ext w w' ∧ ∃ v, e = .returned (.tuple #[v, .int .i64 ((catAdd l r).2 : Nat)]) ∧ RlS (ColS w') w' v (catAdd l r).1
/-- A row of one's own with these relations, their columns known of old. -/
def OutS (B : Nat) (w w' : World) (v : Value) (l : List Rl) : Prop := ∃ cs, RlC (ColS w) l cs ∧ w'.ownsRow B 33 5 v l.length cs
theorem OutS.rlS {B : Nat} {w w' : World} {v : Value} {l : List Rl} (h : OutS B w w' v l) (hx : Ext w w') : RlS (ColS w') w' v l := by
  obtain ⟨cs, h1, h2⟩ := h
  exact ⟨cs, h1.imp fun v c h => ColS.ext h hx, Sl.ofOwns h2⟩
theorem OutS.ext {B : Nat} {w w' w'' : World} {v : Value} {l : List Rl} (h : OutS B w w' v l) (hx : Ext w' w'') : OutS B w w'' v l := by
  obtain ⟨cs, h1, h2⟩ := h; exact ⟨cs, h1, h2.ext hx⟩
def raA (g3 b o n cap k : Nat) (r x : Rl) (D : Bool) : Tmp → Kn
  | 37 => .is (.bool false)
  | 38 => .is (.bool true)
  | 39 => .is (.bool true)
  | 40 => .is (.pointer (some ⟨g3, 0, none⟩))
  | 41 => .is (.agg (refv (rf r)))
  | 42 => .is (.slice (some ⟨b, o, none⟩) n cap)
  | 43 => .is (.int .i64 (k : Nat))
  | 44 => .is (.pointer (some ⟨b, o + k * 5, none⟩))
  | 45 => .is (.pointer (some ⟨b, o + k * 5, none⟩))
  | 46 => .is (.agg (refv (rf x)))
  | 47 => .is (.bool D)
  | 48 => .is (.bool D)
  | _ => .any
def raB (g3 b o n cap k : Nat) (r x : Rl) (D : Bool) : Tmp → Kn
  | 37 => .is (.bool true)
  | 38 => .is (.bool false)
  | 39 => .is (.bool false)
  | 40 => .is undef
  | 41 => .is undef
  | 42 => .is undef
  | 43 => .is undef
  | 44 => .is undef
  | 45 => .is undef
  | 46 => .is undef
  | 47 => .is undef
  | 48 => .is (.bool false)
  | _ => .any
set_option maxRecDepth 20000 in
set_option maxHeartbeats 4000000 in
theorem rAdd_any (v cv : Value) (l : List Rl) (r : Rl) (w : World) (h : RlS (ColS w) w v l) (hok : CatOk l) (hc : ColS w cv r.cols) (hf : r.fits) :
    Calls Try.prog 11 #[v, .agg (relv r cv)] w (AddPost l r w) := by
  have h1 := heap_alloc_new w (.cells (relv r cv) 33)
  obtain ⟨W, hW⟩ : ∃ W, W = w.alloc (.cells (relv r cv) 33) := ⟨_, rfl⟩
  have hx : Ext w W := by rw [hW]; exact (Ch.refl _ _).alloc _
  rw [← hW] at h1
  have HG3 := Lib.hid h1; have HX := Lib.hid hx; have HW := Lib.hid hW; have HOK := Lib.hid hok
  have HCC := Lib.hid hc; have HR := Lib.hid h
  have HRT := Lib.hid (rRight_any r cv W (ColS.ext hc hx) hf)
  obtain ⟨c0, c1, c2, c3, c4⟩ := row_cells h1
  obtain ⟨co, cc, rfl, hcm, hcm2, _⟩ := id hc
  obtain ⟨ao, cap, rfl, hlc, hlm⟩ := h.shape
  rw [hW] at c0 c1 c2 c3 c4
  have hlen := hok.len
  clear h1 hx hW h hok hc hf hlc hlm hcm hcm2
  unfold relv strV at *
  by_cases he : rlErr r = 0
  case neg =>
    have HE : Hid (catAdd l r = (l, rlErr r)) := Lib.hid (by unfold catAdd; rw [if_pos he])
    have en : (((rlErr r : Nat) : Int) != 0) = true := by simp; omega
    clear he
    generalize rlErr r = E at *
    generalize hn : l.length = n at *
    have HN := Lib.hid hn; clear hn
    go_enter Try.func11, Try.ntmps11
    go_wp2_with fail
    rw [← HW.out]
    refine HRT.out.mono ?_
    rintro e w2 ⟨rfl, hx2⟩
    have HX2 := Lib.hid (HX.out.trans hx2)
    clear hx2 c0 c1 c2 c3 c4
    go_wp2
    refine bodyPost_ret (results_tmp2 rfl _ _ _) rfl ?_
    refine ⟨HX2.out, _, by rw [HE.out]; rfl, ?_⟩
    rw [HE.out]
    exact HR.out.ext HX2.out fun v c h => ColS.ext h HX2.out
  rw [he] at HRT
  rw [Int.natCast_zero] at HRT
  have HFH : Hid (W.heap[w.heap.size]? = some (.cells #[.int .u32 (r.oid : Nat), .int .u32 (r.ver : Nat), .string ⟨r.name.toArray⟩, .int .u8 (r.ident : Nat), .slice co r.cols.length cc] 33 (0, 0))) := HG3
  have HGT := Lib.hid (fun w2 (hx2 : Ext w w2) => rGet_any (.slice ao l.length cap) l (rf r) w2 (HR.out.ext hx2 fun v c h => ColS.ext h hx2))
  generalize hn : l.length = n at *
  have HN := Lib.hid hn; clear hn
  go_enter Try.func11, Try.ntmps11
  go_wp2_with fail
  rw [← HW.out]
  refine HRT.out.mono ?_
  rintro e w2 ⟨rfl, hx2⟩
  have HX2 := Lib.hid (HX.out.trans hx2)
  obtain ⟨d0, d1, d2, d3, d4⟩ := row5 (heap_ext hx2 HFH.out)
  have HG2 := Lib.hid (heap_ext hx2 HFH.out)
  clear hx2 c0 c1 c2 c3 c4 d2 d3 d4
  go_wp2_with fail
  refine (HGT.out w2 HX2.out).mono ?_
  rintro e w3 ⟨hx3, cg, rfl, hcg⟩
  obtain ⟨go, gc, rfl, _⟩ := id hcg
  have HX3 := Lib.hid (HX2.out.trans hx3); have HG3b := Lib.hid (heap_ext hx3 HG2.out)
  have HTH : Hid ((catGet l (rf r)).isSome = true ↔ ∃ x ∈ l, rf x = rf r) := Lib.hid (by unfold catGet; rw [List.find?_isSome]; simp)
  clear hx3 d0 d1 hcg HGT HRT
  generalize (catGet l (rf r)).getD .zero = G at *
  obtain ⟨S, hS⟩ : ∃ S, S = (catGet l (rf r)).isSome := ⟨_, rfl⟩
  rw [← hS] at HTH ⊢
  clear hS
  cases S with
  | true =>
    have HE : Hid (catAdd l r = (l, 9)) := Lib.hid (by unfold catAdd; rw [if_neg (by simp [he]), if_pos (HTH.out.1 rfl)])
    clear he HTH
    unfold relv strV
    go_wp2
    refine bodyPost_ret (results_tmp2 rfl _ _ _) rfl ?_
    have hx := HX3.out.alloc (.cells (relv G (.slice go G.cols.length gc)) 33)
    refine ⟨hx, _, by rw [HE.out]; rfl, ?_⟩
    rw [HE.out]
    exact HR.out.ext hx fun v c h => ColS.ext h hx
  | false =>
  have hth : ¬ ∃ x ∈ l, rf x = rf r := fun h => by have := HTH.out.2 h; cases this
  by_cases hfull : 64 ≤ n
  · have HE : Hid (catAdd l r = (l, 8)) := Lib.hid (by unfold catAdd; rw [if_neg (by simp [he]), if_neg hth, if_pos (by rw [HN.out]; exact hfull)])
    clear he HTH hth
    unfold relv strV
    go_wp2
    refine bodyPost_ret (results_tmp2 rfl _ _ _) rfl ?_
    have hx := HX3.out.alloc (.cells (relv G (.slice go G.cols.length gc)) 33)
    refine ⟨hx, _, by rw [HE.out]; rfl, ?_⟩
    rw [HE.out]
    exact HR.out.ext hx fun v c h => ColS.ext h hx
  have HE : Hid (catAdd l r = (ins r l, 0)) := Lib.hid (by unfold catAdd; rw [if_neg (by simp [he]), if_neg hth, if_neg (by rw [HN.out]; exact hfull)])
  have hn64 : n < 64 := by omega
  obtain ⟨w4, hw4⟩ : ∃ w4, w4 = w3.alloc (.cells (relv G (.slice go G.cols.length gc)) 33) := ⟨_, rfl⟩
  have hx4 : Ext w3 w4 := by rw [hw4]; exact (Ch.refl _ _).alloc _
  have HX4 := Lib.hid (HX3.out.trans hx4); have HG4 := Lib.hid (heap_ext hx4 HG3b.out)
  have HW4 := Lib.hid hw4
  obtain ⟨g3, hg3⟩ : ∃ g3, g3 = w.heap.size := ⟨_, rfl⟩
  have HGE := Lib.hid hg3
  obtain ⟨ci, chi, _, chs, _⟩ := info_parts infoQlZ
  have CHI := Lib.hid chi; have CHS := Lib.hid chs
  obtain ⟨i, hi1, hz, hs, hby⟩ := info_parts infoQlZ
  have HI := Lib.hid hi1; have HZ1 := Lib.hid hz; have HSZ := Lib.hid hs; have HBY := Lib.hid hby
  clear chi chs hi1 hz hs hby hth hfull he HTH hx4 hw4
  unfold relv strV at HW4 ⊢
  go_wp2
  rw [← HW4.out, ← hg3]
  rw [← hg3] at HG4
  clear hg3
  have HM63 : Hid (n ≤ 9223372036854775807) := Lib.hid (by omega)
  go_loopw [9, 10, 11] (fun vb vp ix wr => ∃ k : Nat, k ≤ n ∧ ix = .int .i64 k ∧ vp = .bool (anyBehind (rf r) (l.take k)) ∧ Hid (Ext w wr) ∧ Hid (Ext w4 wr) ∧ Hid (OutS w4.heap.size w wr vb (outK r (l.take k)))) (fun _ _ ix _ => n - (intOf ix).toNat)
  case atStart => exact ⟨0, Nat.zero_le _, rfl, by simp [anyBehind], HX4, Lib.hid (Ch.refl _ _), Lib.hid ⟨[], by simp [outK, anyBehind, RlC], World.ownsRow_nil _ _ _ _⟩⟩
  case round =>
    obtain ⟨k, hk, rfl, rfl, HXr, HX4r, HO⟩ := hrel
    by_cases hlt : k < n
    · have hkl : k < l.length := by have := HN.out; omega
      obtain ⟨b, o, xv, rfl, hra0, hxv⟩ := rlS_at HR.out hkl
      have HRA : Hid (wr.rangeAt b (o + k * 5) (relv l[k] xv).toList) := Lib.hid fun j u hu => HXr.out.cell (p := ⟨b, o + k * 5 + j, none⟩) (fun f => f) _ (hra0 j u hu)
      have HT : Hid (l.take (k + 1) = l.take k ++ [l[k]]) := Lib.hid (List.take_succ_eq_append_getElem hkl)
      have HTL : Hid ((l.take k).length = k) := Lib.hid (by rw [List.length_take]; omega)
      have HXV := Lib.hid hxv
      have HRA0 := Lib.hid hra0
      clear hra0 hxv
      generalize l[k] = x at *
      generalize l.take k = a at *
      have HG := Lib.hid (heap_ext HX4r.out HG4.out)
      have HLT := Lib.hid hlt
      obtain ⟨D, hD⟩ : ∃ D, D = decide (RefLt (rf r) (rf x)) := ⟨_, rfl⟩
      have HDE := Lib.hid hD
      have HAH : Hid (∀ w', Calls Try.prog 48 #[.agg (refv (rf r)), .agg (refv (rf x))] w' fun e w'' => e = .returned (.bool D) ∧ Ext w' w'') := Lib.hid fun w' => by rw [hD]; exact ahead_any r.oid r.ver x.oid x.ver w'
      clear hD
      -- a relation more, whatever it is
      have tail : ∀ (w9 : World) (vb : Value) (vp : Bool), Ext wr w9 → True := fun _ _ _ _ => trivial
      clear tail
      cases hp : anyBehind (rf r) a with
      | true =>
        have HPT : Hid (anyBehind (rf r) (a ++ [x]) = true) := Lib.hid (by rw [anyB_snoc, hp]; rfl)
        have HOK1 : Hid (outK r (a ++ [x]) = outK r a ++ [x]) := Lib.hid (outK_put hp)
        clear hp
        go_wp2
        refine wp_region_ext (raB g3 b o n cap k r x D) mixedV (by rfl) (by rfl) ?all ?fin
        case all =>
          refine ⟨?_, ?_, ?_, ?_, ?_, ?_, ?_, ?_, ?_, ?_, ?_, ?_, trivial⟩
          · -- 0: slot 37 := Op.move t10
            refine StepOK.plain (kn_stable _) rfl fun ρ w hρ hw hf => ?_
            have h10 : ρ (.tmp 10) = (.bool true) := (hf 10).2 rfl rfl
            exact Exec.kmove rfl rfl h10
          · -- 1: slot 38 := Op.unOp UnOp.not 4 t37
            refine StepOK.plain (kn_stable _) rfl fun ρ w hρ hw hf => ?_
            have h37 : ρ (.tmp 37) = (.bool true) := (hf 37).1 rfl
            exact Exec.same (v := .bool false) rfl (by simp [go_sem, hρ.const, h37]) rfl
          · -- 2: slot 39 := Op.move t38
            refine StepOK.plain (kn_stable _) rfl fun ρ w hρ hw hf => ?_
            have h38 : ρ (.tmp 38) = (.bool false) := (hf 38).1 rfl
            exact Exec.kmove rfl rfl h38
          · -- 3: slot 40 := Op.fieldAddr 33 t3 0
            exact StepOK.skipped (kn_stable _) (fun w => Ch.refl _ w) 2 true 39 rfl rfl (fun ρ w _ _ hf => (.inl ((hf 39).1 rfl))) (fun w d h => by cases h; rfl)
          · -- 4: slot 41 := Op.load 25 t40
            exact StepOK.skipped (kn_stable _) (fun w => Ch.refl _ w) 2 true 39 rfl rfl (fun ρ w _ _ hf => (.inl ((hf 39).1 rfl))) (fun w d h => by cases h; rfl)
          · -- 5: slot 42 := Op.move t0
            exact StepOK.skipped (kn_stable _) (fun w => Ch.refl _ w) 2 true 39 rfl rfl (fun ρ w _ _ hf => (.inl ((hf 39).1 rfl))) (fun w d h => by cases h; rfl)
          · -- 6: slot 43 := Op.move t11
            exact StepOK.skipped (kn_stable _) (fun w => Ch.refl _ w) 2 true 39 rfl rfl (fun ρ w _ _ hf => (.inl ((hf 39).1 rfl))) (fun w d h => by cases h; rfl)
          · -- 7: slot 44 := Op.indexAddr 22 t42 t43
            exact StepOK.skipped (kn_stable _) (fun w => Ch.refl _ w) 2 true 39 rfl rfl (fun ρ w _ _ hf => (.inl ((hf 39).1 rfl))) (fun w d h => by cases h; rfl)
          · -- 8: slot 45 := Op.fieldAddr 33 t44 0
            exact StepOK.skipped (kn_stable _) (fun w => Ch.refl _ w) 2 true 39 rfl rfl (fun ρ w _ _ hf => (.inl ((hf 39).1 rfl))) (fun w d h => by cases h; rfl)
          · -- 9: slot 46 := Op.load 25 t45
            exact StepOK.skipped (kn_stable _) (fun w => Ch.refl _ w) 2 true 39 rfl rfl (fun ρ w _ _ hf => (.inl ((hf 39).1 rfl))) (fun w d h => by cases h; rfl)
          · -- 10: slot 47 := Op.call { value (Operand.func 48), args := #[t41, t46], argTypes := #[
            exact StepOK.skipped (kn_stable _) (fun w => Ch.refl _ w) 2 true 39 rfl rfl (fun ρ w _ _ hf => (.inl ((hf 39).1 rfl))) (fun w d h => by cases h; rfl)
          · -- 11: slot 48 := Op.pick t39 t47 (const (Value.bool false))
            refine StepOK.plain (kn_stable _) rfl fun ρ w hρ hw hf => ?_
            have h39 : ρ (.tmp 39) = (.bool false) := (hf 39).1 rfl
            have h47 : ρ (.tmp 47) = (undef) := (hf 47).1 rfl
            exact Exec.kpickF rfl rfl h39 (hρ.const _)
        case fin =>
          intro ν w9 hfin hx9
          have e0 : ν 48 = .bool false := hfin 11 48 rfl
          simp only [Exit.then, ended, List.foldl_cons, List.foldl_nil, List.setIfInBounds_toArray, List.set_cons_succ, List.set_cons_zero, e0]
          have HX9 := Lib.hid (HXr.out.trans hx9); have HX49 := Lib.hid (HX4r.out.trans hx9); have HO9 := Lib.hid (HO.out.ext hx9)
          have hra : w9.rangeAt b (o + k * 5) (relv x xv).toList := fun j u hu => hx9.cell (p := ⟨b, o + k * 5 + j, none⟩) (fun f => f) _ (HRA.out j u hu)
          clear hfin hx9 e0
          obtain ⟨xo, xc, hxe, _⟩ := id HXV.out
          subst hxe
          have hidx := run_indexSl w9 Try.underlying22 CHI.out CHS.out b o n cap k HLT.out
          have q0 : w9.cell? ⟨b, o + k * 5, none⟩ = some (.int .u32 (x.oid : Nat)) := by have := hra 0 _ rfl; simpa using this
          have q1 : w9.cell? ⟨b, o + k * 5 + 1, none⟩ = some (.int .u32 (x.ver : Nat)) := hra 1 _ rfl
          have q2 : w9.cell? ⟨b, o + k * 5 + 2, none⟩ = some (.string ⟨x.name.toArray⟩) := hra 2 _ rfl
          have q3 : w9.cell? ⟨b, o + k * 5 + 3, none⟩ = some (.int .u8 (x.ident : Nat)) := hra 3 _ rfl
          have q4 : w9.cell? ⟨b, o + k * 5 + 4, none⟩ = some (.slice xo x.cols.length xc) := hra 4 _ rfl
          clear hra
          have honea := fun w => oneQl w (x.oid : Nat) (x.ver : Nat) ⟨x.name.toArray⟩ (x.ident : Nat) xo x.cols.length xc
          obtain ⟨csa, hcsa, howa⟩ := HO9.out
          obtain ⟨voa, vca, hvba⟩ := owns_shape howa
          subst hvba
          obtain ⟨Wa, hWa⟩ : ∃ W', W' = w9.alloc (.cells #[.int .u32 (x.oid : Nat), .int .u32 (x.ver : Nat), .string ⟨x.name.toArray⟩, .int .u8 (x.ident : Nat), .slice xo x.cols.length xc] 33) := ⟨_, rfl⟩
          have hxaa : Ext w9 Wa := by rw [hWa]; exact (Ch.refl _ _).alloc _
          have HRWa : Hid (Wa.heap[w9.heap.size]? = some (.cells #[.int .u32 (x.oid : Nat), .int .u32 (x.ver : Nat), .string ⟨x.name.toArray⟩, .int .u8 (x.ident : Nat), .slice xo x.cols.length xc] 33 (0, 0))) := Lib.hid (by rw [hWa]; exact heap_alloc_new w9 _)
          have HOAa := Lib.hid (howa.ext hxaa); have HCAa := Lib.hid hcsa
          have HXAa := Lib.hid (HX9.out.trans hxaa); have HX4Aa := Lib.hid (HX49.out.trans hxaa); have HWAa := Lib.hid hWa
          have hola : (outK r a).length ≤ 80 := by have := outK_length r a; have := HTL.out; omega
          clear hWa hxaa hcsa howa
          generalize hloa : (outK r a).length = loa at *
          have HLOa := Lib.hid hloa; clear hloa
          go_wp2_with (at_builtin; rw [← HWAa.out]; refine wpList_append_sl _ rfl _ _ 22 rfl w4.heap.size 33 i (.agg #[.int .u32 0, .int .u32 0, .string ⟨#[]⟩, .int .u8 0, .slice none 0 0]) 5 56 Try.underlying22 HI.out HZ1.out HSZ.out HBY.out rfl (by decide) _ _ _ rfl HOAa.out _ 1 _ rfl (sl_row HRWa.out) rfl (fun u hu => RlC.oneS (w := w) (RlC.one (r := x) HXV.out) u hu) (by omega) (by unfold maxLen; omega) HX4Aa.out.size ?_)
          intro v5a w5a hown5a hgrowa
          have HXz : Hid (Ext w w5a) := Lib.hid (HXAa.out.grown hgrowa fun j hj => .inr (Nat.le_trans HX4.out.size (HOAa.out.lt j hj).1))
          have HX4z : Hid (Ext w4 w5a) := Lib.hid (HX4Aa.out.grown hgrowa fun j hj => .inr (HOAa.out.lt j hj).1)
          have HOz : Hid (OutS w4.heap.size w w5a v5a (outK r a ++ [x])) := Lib.hid ⟨_, HCAa.out.append (RlC.one HXV.out), by rw [List.length_append, HLOa.out]; exact hown5a⟩
          clear hown5a hgrowa honea
          go_wp2
          go_roundw
          case rel => exact ⟨k + 1, HLT.out, by simp, by rw [HT.out, HPT.out], HXz, HX4z, Lib.hid (by rw [HT.out, HOK1.out]; exact HOz.out)⟩
          case measure => simp [intOf]; have := HLT.out; omega
      | false =>
        go_wp2
        refine wp_region_ext (raA g3 b o n cap k r x D) mixedV (by rfl) (by rfl) ?all ?fin
        case all =>
          refine ⟨?_, ?_, ?_, ?_, ?_, ?_, ?_, ?_, ?_, ?_, ?_, ?_, trivial⟩
          · -- 0: slot 37 := Op.move t10
            refine StepOK.plain (kn_stable _) rfl fun ρ w hρ hw hf => ?_
            have h10 : ρ (.tmp 10) = (.bool false) := (hf 10).2 rfl rfl
            exact Exec.kmove rfl rfl h10
          · -- 1: slot 38 := Op.unOp UnOp.not 4 t37
            refine StepOK.plain (kn_stable _) rfl fun ρ w hρ hw hf => ?_
            have h37 : ρ (.tmp 37) = (.bool false) := (hf 37).1 rfl
            exact Exec.same (v := .bool true) rfl (by simp [go_sem, hρ.const, h37]) rfl
          · -- 2: slot 39 := Op.move t38
            refine StepOK.plain (kn_stable _) rfl fun ρ w hρ hw hf => ?_
            have h38 : ρ (.tmp 38) = (.bool true) := (hf 38).1 rfl
            exact Exec.kmove rfl rfl h38
          · -- 3: slot 40 := Op.fieldAddr 33 t3 0
            refine StepOK.guarded (kn_stable _) 2 true 39 rfl rfl (fun ρ w _ _ hf => (hf 39).1 rfl) fun ρ w hρ hw hf => ?_
            have h3 : ρ (.tmp 3) = (.pointer (some ⟨g3, 0, none⟩)) := (hf 3).2 rfl rfl
            exact Exec.kfield rfl rfl h3 (fieldRR_0o w _ _) rfl
          · -- 4: slot 41 := Op.load 25 t40
            refine StepOK.guarded (kn_stable _) 2 true 39 rfl rfl (fun ρ w _ _ hf => (hf 39).1 rfl) fun ρ w hρ hw hf => ?_
            have h40 : ρ (.tmp 40) = (.pointer (some ⟨g3, 0, none⟩)) := (hf 40).1 rfl
            have hm : w.rangeAt g3 0 (refv (rf r)).toList := fun j u hu => by
              obtain ⟨d0, d1, _⟩ := row5 (heap_ext hw HG.out)
              match j, hu with
              | 0, hu => cases hu; exact d0
              | 1, hu => cases hu; exact d1
            have hr := run_loadAt_mid (P := Try.prog) w g3 0 25 (refv (rf r)).toList _ hm Try.underlying25 rfl infoRR2
            exact Exec.same (v := .agg (refv (rf r))) rfl (by unfold execOp; simp only [h40, Sem.run_bind, hr, Result.andThen_ok, Sem.run_pure]) rfl
          · -- 5: slot 42 := Op.move t0
            refine StepOK.guarded (kn_stable _) 2 true 39 rfl rfl (fun ρ w _ _ hf => (hf 39).1 rfl) fun ρ w hρ hw hf => ?_
            have h0 : ρ (.tmp 0) = (.slice (some ⟨b, o, none⟩) n cap) := (hf 0).2 rfl rfl
            exact Exec.kmove rfl rfl h0
          · -- 6: slot 43 := Op.move t11
            refine StepOK.guarded (kn_stable _) 2 true 39 rfl rfl (fun ρ w _ _ hf => (hf 39).1 rfl) fun ρ w hρ hw hf => ?_
            have h11 : ρ (.tmp 11) = (.int .i64 (k : Nat)) := (hf 11).2 rfl rfl
            exact Exec.kmove rfl rfl h11
          · -- 7: slot 44 := Op.indexAddr 22 t42 t43
            refine StepOK.guarded (kn_stable _) 2 true 39 rfl rfl (fun ρ w _ _ hf => (hf 39).1 rfl) fun ρ w hρ hw hf => ?_
            have h42 : ρ (.tmp 42) = (.slice (some ⟨b, o, none⟩) n cap) := (hf 42).1 rfl
            have h43 : ρ (.tmp 43) = (.int .i64 (k : Nat)) := (hf 43).1 rfl
            exact Exec.kindex rfl rfl Try.underlying22 CHI.out CHS.out h42 h43 HLT.out rfl
          · -- 8: slot 45 := Op.fieldAddr 33 t44 0
            refine StepOK.guarded (kn_stable _) 2 true 39 rfl rfl (fun ρ w _ _ hf => (hf 39).1 rfl) fun ρ w hρ hw hf => ?_
            have h44 : ρ (.tmp 44) = (.pointer (some ⟨b, o + k * 5, none⟩)) := (hf 44).1 rfl
            exact Exec.kfield rfl rfl h44 (fieldRR_0o w _ _) rfl
          · -- 9: slot 46 := Op.load 25 t45
            refine StepOK.guarded (kn_stable _) 2 true 39 rfl rfl (fun ρ w _ _ hf => (hf 39).1 rfl) fun ρ w hρ hw hf => ?_
            have h45 : ρ (.tmp 45) = (.pointer (some ⟨b, o + k * 5, none⟩)) := (hf 45).1 rfl
            have hm : w.rangeAt b (o + k * 5) (refv (rf x)).toList := fun j u hu => hw.cell (p := ⟨b, o + k * 5 + j, none⟩) (fun f => f) _ (HRA.out j u (by
              match j, hu with
              | 0, hu => exact hu
              | 1, hu => exact hu))
            have hr := run_loadAt_mid (P := Try.prog) w b (o + k * 5) 25 (refv (rf x)).toList _ hm Try.underlying25 rfl infoRR2
            exact Exec.same (v := .agg (refv (rf x))) rfl (by unfold execOp; simp only [h45, Sem.run_bind, hr, Result.andThen_ok, Sem.run_pure]) rfl
          · -- 10: slot 47 := Op.call { value (Operand.func 48), args := #[t41, t46], argTypes := #[
            refine StepOK.guarded (kn_stable _) 2 true 39 rfl rfl (fun ρ w _ _ hf => (hf 39).1 rfl) fun ρ w hρ hw hf => ?_
            have h41 : ρ (.tmp 41) = (.agg (refv (rf r))) := (hf 41).1 rfl
            have h46 : ρ (.tmp 46) = (.agg (refv (rf x))) := (hf 46).1 rfl
            refine Exec.kcall #[.agg (refv (rf r)), .agg (refv (rf x))] hρ rfl rfl (by simp [h41, h46]) Try.func48 (by rfl) (by rfl) ((HAH.out w).mono ?_)
            rintro e w' ⟨rfl, hx⟩
            exact ⟨_, rfl, rfl, hx⟩
          · -- 11: slot 48 := Op.pick t39 t47 (const (Value.bool false))
            refine StepOK.plain (kn_stable _) rfl fun ρ w hρ hw hf => ?_
            have h39 : ρ (.tmp 39) = (.bool true) := (hf 39).1 rfl
            have h47 : ρ (.tmp 47) = (.bool D) := (hf 47).1 rfl
            exact Exec.kpickT rfl rfl h39 h47
        case fin =>
          intro ν w9 hfin hx9
          have e0 : ν 48 = .bool D := hfin 11 48 rfl
          simp only [Exit.then, ended, List.foldl_cons, List.foldl_nil, List.setIfInBounds_toArray, List.set_cons_succ, List.set_cons_zero, e0]
          have HX9 := Lib.hid (HXr.out.trans hx9); have HX49 := Lib.hid (HX4r.out.trans hx9); have HO9 := Lib.hid (HO.out.ext hx9)
          have hra : w9.rangeAt b (o + k * 5) (relv x xv).toList := fun j u hu => hx9.cell (p := ⟨b, o + k * 5 + j, none⟩) (fun f => f) _ (HRA.out j u hu)
          clear hfin hx9 e0
          by_cases hlx : RefLt (rf r) (rf x)
          · have hDt : D = true := by rw [HDE.out]; exact decide_eq_true hlx
            have HPT : Hid (anyBehind (rf r) (a ++ [x]) = true) := Lib.hid (by rw [anyB_snoc, decide_eq_true hlx, Bool.or_true])
            have HOK1 : Hid (outK r (a ++ [x]) = (outK r a ++ [r]) ++ [x]) := Lib.hid (outK_new hp hlx)
            rw [hDt]
            clear hlx hDt hp
            have HG9 := Lib.hid (heap_ext HX49.out HG4.out)
            obtain ⟨p0, p1, p2, p3, p4⟩ := row5 HG9.out
            clear hra
            have honeb := fun w => oneQl w (r.oid : Nat) (r.ver : Nat) ⟨r.name.toArray⟩ (r.ident : Nat) co r.cols.length cc
            obtain ⟨csb, hcsb, howb⟩ := HO9.out
            obtain ⟨vob, vcb, hvbb⟩ := owns_shape howb
            subst hvbb
            obtain ⟨Wb, hWb⟩ : ∃ W', W' = w9.alloc (.cells #[.int .u32 (r.oid : Nat), .int .u32 (r.ver : Nat), .string ⟨r.name.toArray⟩, .int .u8 (r.ident : Nat), .slice co r.cols.length cc] 33) := ⟨_, rfl⟩
            have hxab : Ext w9 Wb := by rw [hWb]; exact (Ch.refl _ _).alloc _
            have HRWb : Hid (Wb.heap[w9.heap.size]? = some (.cells #[.int .u32 (r.oid : Nat), .int .u32 (r.ver : Nat), .string ⟨r.name.toArray⟩, .int .u8 (r.ident : Nat), .slice co r.cols.length cc] 33 (0, 0))) := Lib.hid (by rw [hWb]; exact heap_alloc_new w9 _)
            have HOAb := Lib.hid (howb.ext hxab); have HCAb := Lib.hid hcsb
            have HXAb := Lib.hid (HX9.out.trans hxab); have HX4Ab := Lib.hid (HX49.out.trans hxab); have HWAb := Lib.hid hWb
            have holb : (outK r a).length ≤ 80 := by have := outK_length r a; have := HTL.out; omega
            clear hWb hxab hcsb howb
            generalize hlob : (outK r a).length = lob at *
            have HLOb := Lib.hid hlob; clear hlob
            go_wp2_with (at_builtin; rw [← HWAb.out]; refine wpList_append_sl _ rfl _ _ 22 rfl w4.heap.size 33 i (.agg #[.int .u32 0, .int .u32 0, .string ⟨#[]⟩, .int .u8 0, .slice none 0 0]) 5 56 Try.underlying22 HI.out HZ1.out HSZ.out HBY.out rfl (by decide) _ _ _ rfl HOAb.out _ 1 _ rfl (sl_row HRWb.out) rfl (fun u hu => RlC.oneS (w := w) (RlC.one (r := r) HCC.out) u hu) (by omega) (by unfold maxLen; omega) HX4Ab.out.size ?_)
            intro v5b w5b hown5b hgrowb
            have HXy : Hid (Ext w w5b) := Lib.hid (HXAb.out.grown hgrowb fun j hj => .inr (Nat.le_trans HX4.out.size (HOAb.out.lt j hj).1))
            have HX4y : Hid (Ext w4 w5b) := Lib.hid (HX4Ab.out.grown hgrowb fun j hj => .inr (HOAb.out.lt j hj).1)
            have HOy : Hid (OutS w4.heap.size w w5b v5b (outK r a ++ [r])) := Lib.hid ⟨_, HCAb.out.append (RlC.one HCC.out), by rw [List.length_append, HLOb.out]; exact hown5b⟩
            clear hown5b hgrowb honeb
            clear p0 p1 p2 p3 p4
            have hra : w5b.rangeAt b (o + k * 5) (relv x xv).toList := fun j u hu => HXy.out.cell (p := ⟨b, o + k * 5 + j, none⟩) (fun f => f) _ (HRA0.out j u hu)
            obtain ⟨xo, xc, hxe, _⟩ := id HXV.out
            subst hxe
            have hidx := run_indexSl w5b Try.underlying22 CHI.out CHS.out b o n cap k HLT.out
            have q0 : w5b.cell? ⟨b, o + k * 5, none⟩ = some (.int .u32 (x.oid : Nat)) := by have := hra 0 _ rfl; simpa using this
            have q1 : w5b.cell? ⟨b, o + k * 5 + 1, none⟩ = some (.int .u32 (x.ver : Nat)) := hra 1 _ rfl
            have q2 : w5b.cell? ⟨b, o + k * 5 + 2, none⟩ = some (.string ⟨x.name.toArray⟩) := hra 2 _ rfl
            have q3 : w5b.cell? ⟨b, o + k * 5 + 3, none⟩ = some (.int .u8 (x.ident : Nat)) := hra 3 _ rfl
            have q4 : w5b.cell? ⟨b, o + k * 5 + 4, none⟩ = some (.slice xo x.cols.length xc) := hra 4 _ rfl
            clear hra
            have honec := fun w => oneQl w (x.oid : Nat) (x.ver : Nat) ⟨x.name.toArray⟩ (x.ident : Nat) xo x.cols.length xc
            obtain ⟨csc, hcsc, howc⟩ := HOy.out
            obtain ⟨voc, vcc, hvbc⟩ := owns_shape howc
            subst hvbc
            obtain ⟨Wc, hWc⟩ : ∃ W', W' = w5b.alloc (.cells #[.int .u32 (x.oid : Nat), .int .u32 (x.ver : Nat), .string ⟨x.name.toArray⟩, .int .u8 (x.ident : Nat), .slice xo x.cols.length xc] 33) := ⟨_, rfl⟩
            have hxac : Ext w5b Wc := by rw [hWc]; exact (Ch.refl _ _).alloc _
            have HRWc : Hid (Wc.heap[w5b.heap.size]? = some (.cells #[.int .u32 (x.oid : Nat), .int .u32 (x.ver : Nat), .string ⟨x.name.toArray⟩, .int .u8 (x.ident : Nat), .slice xo x.cols.length xc] 33 (0, 0))) := Lib.hid (by rw [hWc]; exact heap_alloc_new w5b _)
            have HOAc := Lib.hid (howc.ext hxac); have HCAc := Lib.hid hcsc
            have HXAc := Lib.hid (HXy.out.trans hxac); have HX4Ac := Lib.hid (HX4y.out.trans hxac); have HWAc := Lib.hid hWc
            have holc : (outK r a ++ [r]).length ≤ 80 := by rw [List.length_append, List.length_singleton]; have := outK_length r a; have := HTL.out; omega
            clear hWc hxac hcsc howc
            generalize hloc : (outK r a ++ [r]).length = loc at *
            have HLOc := Lib.hid hloc; clear hloc
            go_wp2_with (at_builtin; rw [← HWAc.out]; refine wpList_append_sl _ rfl _ _ 22 rfl w4.heap.size 33 i (.agg #[.int .u32 0, .int .u32 0, .string ⟨#[]⟩, .int .u8 0, .slice none 0 0]) 5 56 Try.underlying22 HI.out HZ1.out HSZ.out HBY.out rfl (by decide) _ _ _ rfl HOAc.out _ 1 _ rfl (sl_row HRWc.out) rfl (fun u hu => RlC.oneS (w := w) (RlC.one (r := x) HXV.out) u hu) (by omega) (by unfold maxLen; omega) HX4Ac.out.size ?_)
            intro v5c w5c hown5c hgrowc
            have HXz : Hid (Ext w w5c) := Lib.hid (HXAc.out.grown hgrowc fun j hj => .inr (Nat.le_trans HX4.out.size (HOAc.out.lt j hj).1))
            have HX4z : Hid (Ext w4 w5c) := Lib.hid (HX4Ac.out.grown hgrowc fun j hj => .inr (HOAc.out.lt j hj).1)
            have HOz : Hid (OutS w4.heap.size w w5c v5c ((outK r a ++ [r]) ++ [x])) := Lib.hid ⟨_, HCAc.out.append (RlC.one HXV.out), by rw [List.length_append, HLOc.out]; exact hown5c⟩
            clear hown5c hgrowc honec
            go_wp2
            go_roundw
            case rel => exact ⟨k + 1, HLT.out, by simp, by rw [HT.out, HPT.out], HXz, HX4z, Lib.hid (by rw [HT.out, HOK1.out]; exact HOz.out)⟩
            case measure => simp [intOf]; have := HLT.out; omega
          · have hDf : D = false := by rw [HDE.out]; exact decide_eq_false hlx
            have HPT : Hid (anyBehind (rf r) (a ++ [x]) = false) := Lib.hid (by rw [anyB_snoc, hp, decide_eq_false hlx]; rfl)
            have HOK1 : Hid (outK r (a ++ [x]) = outK r a ++ [x]) := Lib.hid (outK_old hp hlx)
            rw [hDf]
            clear hlx hDf hp
            obtain ⟨xo, xc, hxe, _⟩ := id HXV.out
            subst hxe
            have hidx := run_indexSl w9 Try.underlying22 CHI.out CHS.out b o n cap k HLT.out
            have q0 : w9.cell? ⟨b, o + k * 5, none⟩ = some (.int .u32 (x.oid : Nat)) := by have := hra 0 _ rfl; simpa using this
            have q1 : w9.cell? ⟨b, o + k * 5 + 1, none⟩ = some (.int .u32 (x.ver : Nat)) := hra 1 _ rfl
            have q2 : w9.cell? ⟨b, o + k * 5 + 2, none⟩ = some (.string ⟨x.name.toArray⟩) := hra 2 _ rfl
            have q3 : w9.cell? ⟨b, o + k * 5 + 3, none⟩ = some (.int .u8 (x.ident : Nat)) := hra 3 _ rfl
            have q4 : w9.cell? ⟨b, o + k * 5 + 4, none⟩ = some (.slice xo x.cols.length xc) := hra 4 _ rfl
            clear hra
            have honea := fun w => oneQl w (x.oid : Nat) (x.ver : Nat) ⟨x.name.toArray⟩ (x.ident : Nat) xo x.cols.length xc
            obtain ⟨csa, hcsa, howa⟩ := HO9.out
            obtain ⟨voa, vca, hvba⟩ := owns_shape howa
            subst hvba
            obtain ⟨Wa, hWa⟩ : ∃ W', W' = w9.alloc (.cells #[.int .u32 (x.oid : Nat), .int .u32 (x.ver : Nat), .string ⟨x.name.toArray⟩, .int .u8 (x.ident : Nat), .slice xo x.cols.length xc] 33) := ⟨_, rfl⟩
            have hxaa : Ext w9 Wa := by rw [hWa]; exact (Ch.refl _ _).alloc _
            have HRWa : Hid (Wa.heap[w9.heap.size]? = some (.cells #[.int .u32 (x.oid : Nat), .int .u32 (x.ver : Nat), .string ⟨x.name.toArray⟩, .int .u8 (x.ident : Nat), .slice xo x.cols.length xc] 33 (0, 0))) := Lib.hid (by rw [hWa]; exact heap_alloc_new w9 _)
            have HOAa := Lib.hid (howa.ext hxaa); have HCAa := Lib.hid hcsa
            have HXAa := Lib.hid (HX9.out.trans hxaa); have HX4Aa := Lib.hid (HX49.out.trans hxaa); have HWAa := Lib.hid hWa
            have hola : (outK r a).length ≤ 80 := by have := outK_length r a; have := HTL.out; omega
            clear hWa hxaa hcsa howa
            generalize hloa : (outK r a).length = loa at *
            have HLOa := Lib.hid hloa; clear hloa
            go_wp2_with (at_builtin; rw [← HWAa.out]; refine wpList_append_sl _ rfl _ _ 22 rfl w4.heap.size 33 i (.agg #[.int .u32 0, .int .u32 0, .string ⟨#[]⟩, .int .u8 0, .slice none 0 0]) 5 56 Try.underlying22 HI.out HZ1.out HSZ.out HBY.out rfl (by decide) _ _ _ rfl HOAa.out _ 1 _ rfl (sl_row HRWa.out) rfl (fun u hu => RlC.oneS (w := w) (RlC.one (r := x) HXV.out) u hu) (by omega) (by unfold maxLen; omega) HX4Aa.out.size ?_)
            intro v5a w5a hown5a hgrowa
            have HXz : Hid (Ext w w5a) := Lib.hid (HXAa.out.grown hgrowa fun j hj => .inr (Nat.le_trans HX4.out.size (HOAa.out.lt j hj).1))
            have HX4z : Hid (Ext w4 w5a) := Lib.hid (HX4Aa.out.grown hgrowa fun j hj => .inr (HOAa.out.lt j hj).1)
            have HOz : Hid (OutS w4.heap.size w w5a v5a (outK r a ++ [x])) := Lib.hid ⟨_, HCAa.out.append (RlC.one HXV.out), by rw [List.length_append, HLOa.out]; exact hown5a⟩
            clear hown5a hgrowa honea
            go_wp2
            go_roundw
            case rel => exact ⟨k + 1, HLT.out, by simp, by rw [HT.out, HPT.out], HXz, HX4z, Lib.hid (by rw [HT.out, HOK1.out]; exact HOz.out)⟩
            case measure => simp [intOf]; have := HLT.out; omega
    · obtain rfl : k = n := by omega
      have HTK : Hid (l.take k = l) := Lib.hid (by rw [← HN.out, List.take_length])
      rw [HTK.out] at HO ⊢
      cases hp : anyBehind (rf r) l with
      | true =>
        have HF := Lib.hid (outK_end1 hp)
        go_wp2
        refine bodyPost_ret (results_tmp2 rfl _ _ _) rfl ?_
        refine ⟨HXr.out, _, by rw [HE.out]; rfl, ?_⟩
        rw [HE.out, ← HF.out]
        exact HO.out.rlS HXr.out
      | false =>
        have HF := Lib.hid (outK_end hp)
        have HG := Lib.hid (heap_ext HX4r.out HG4.out)
        clear hp
        have HX9 := HXr; have HX49 := HX4r; have HO9 := HO; have HG9 := HG
        obtain ⟨p0, p1, p2, p3, p4⟩ := row5 HG9.out
        have HTL : Hid (l.length = k) := HN
        have honed := fun w => oneQl w (r.oid : Nat) (r.ver : Nat) ⟨r.name.toArray⟩ (r.ident : Nat) co r.cols.length cc
        obtain ⟨csd, hcsd, howd⟩ := HO9.out
        obtain ⟨vod, vcd, hvbd⟩ := owns_shape howd
        subst hvbd
        obtain ⟨Wd, hWd⟩ : ∃ W', W' = wr.alloc (.cells #[.int .u32 (r.oid : Nat), .int .u32 (r.ver : Nat), .string ⟨r.name.toArray⟩, .int .u8 (r.ident : Nat), .slice co r.cols.length cc] 33) := ⟨_, rfl⟩
        have hxad : Ext wr Wd := by rw [hWd]; exact (Ch.refl _ _).alloc _
        have HRWd : Hid (Wd.heap[wr.heap.size]? = some (.cells #[.int .u32 (r.oid : Nat), .int .u32 (r.ver : Nat), .string ⟨r.name.toArray⟩, .int .u8 (r.ident : Nat), .slice co r.cols.length cc] 33 (0, 0))) := Lib.hid (by rw [hWd]; exact heap_alloc_new wr _)
        have HOAd := Lib.hid (howd.ext hxad); have HCAd := Lib.hid hcsd
        have HXAd := Lib.hid (HX9.out.trans hxad); have HX4Ad := Lib.hid (HX49.out.trans hxad); have HWAd := Lib.hid hWd
        have hold : (outK r l).length ≤ 80 := by have := outK_length r l; have := HN.out; omega
        clear hWd hxad hcsd howd
        generalize hlod : (outK r l).length = lod at *
        have HLOd := Lib.hid hlod; clear hlod
        go_wp2_with (at_builtin; rw [← HWAd.out]; refine wpList_append_sl _ rfl _ _ 22 rfl w4.heap.size 33 i (.agg #[.int .u32 0, .int .u32 0, .string ⟨#[]⟩, .int .u8 0, .slice none 0 0]) 5 56 Try.underlying22 HI.out HZ1.out HSZ.out HBY.out rfl (by decide) _ _ _ rfl HOAd.out _ 1 _ rfl (sl_row HRWd.out) rfl (fun u hu => RlC.oneS (w := w) (RlC.one (r := r) HCC.out) u hu) (by omega) (by unfold maxLen; omega) HX4Ad.out.size ?_)
        intro v5d w5d hown5d hgrowd
        have HXz : Hid (Ext w w5d) := Lib.hid (HXAd.out.grown hgrowd fun j hj => .inr (Nat.le_trans HX4.out.size (HOAd.out.lt j hj).1))
        have HX4z : Hid (Ext w4 w5d) := Lib.hid (HX4Ad.out.grown hgrowd fun j hj => .inr (HOAd.out.lt j hj).1)
        have HOz : Hid (OutS w4.heap.size w w5d v5d (outK r l ++ [r])) := Lib.hid ⟨_, HCAd.out.append (RlC.one HCC.out), by rw [List.length_append, HLOd.out]; exact hown5d⟩
        clear hown5d hgrowd honed
        go_wp2
        refine bodyPost_ret (results_tmp2 rfl _ _ _) rfl ?_
        refine ⟨HXz.out, _, by rw [HE.out]; rfl, ?_⟩
        rw [HE.out, ← HF.out]
        exact HOz.out.rlS HXz.out
end Go.Proofs.Ytegclfpmgilnpaa
