/-
  Numbers and faults as texts: the program's and the document's.
-/
import Derived.Test.YtfipjgodkdfdfaaGreatDoorFitA
import Derived.Test.YtfipjgodkdfdfaaGreatDoorItoa
namespace Go.Proofs.YtfipjgodkdfdfaaGreatDoor
open Go.RowKit Go.Lac Go.Shelf Go.Sort

theorem ext_grow (w : World) (os : Array Obj) : Ext w (grow w os) :=
  ⟨rfl, rfl, rfl, by simp [grow], fun i hi _ => by simp [grow, Array.getElem?_append_left hi]⟩
theorem ext_drewM : ∀ (k : Nat) (w : World), Ext w (w.drewN k)
  | 0, w => ⟨rfl, rfl, rfl, Nat.le_refl _, fun _ _ _ => rfl⟩
  | k + 1, w => ⟨rfl, rfl, rfl, Nat.le_refl _, fun _ _ _ => rfl⟩
abbrev TabOk (w : World) : Prop := Lib.TabIs Tryz.prog w "internal/strconv.uint64pow10" .u64 Lib.pow10Tab
theorem gPow : Tryz.prog.globalNamed "internal/strconv.uint64pow10" = some 0 := by kernel_rfl
theorem itoa_any (n : Int) (w : World) (h0 : -9223372036854775808 ≤ n) (h1 : n ≤ 9223372036854775807) (ht : TabOk w) :
    Calls Tryz.prog 7 #[.int .i64 n] w fun e w' => e = .returned (.string (⟨(Lib.itoa n).toArray⟩ : ByteArray)) ∧ Ext w w' := by
  have h := Any.strconv_Itoa itoaLays n h0 h1 w ht
  have hf : itoaRen.f 171 = 7 := rfl
  rw [hf] at h
  refine h.mono ?_
  rintro e w' ⟨rfl, k, os, rfl⟩
  exact ⟨rfl, (ext_drewM k w).trans (ext_grow _ _)⟩
theorem signed_any (n : Int) (w : World) (h0 : -9223372036854775808 ≤ n) (h1 : n ≤ 9223372036854775807) :
    Calls Tryz.prog 8 #[.int .i64 n] w fun e w' => e = .returned (.string (⟨(Lib.itoa n).toArray⟩ : ByteArray)) ∧ w = w' := by
  by_cases hn : n < 0
  · obtain ⟨a, ha⟩ : ∃ a, a = n + 1 := ⟨_, rfl⟩
    obtain ⟨b, hb⟩ : ∃ b : Int, b = -a := ⟨_, rfl⟩
    obtain ⟨c, hc⟩ : ∃ c : Int, c = b + 1 := ⟨_, rfl⟩
    have w1 : IntKind.i64.wrap (n + 1) = a := by rw [IntKind.wrap_i64]; omega
    have w2 : IntKind.i64.wrap (-a) = b := by rw [IntKind.wrap_i64]; omega
    have w3 : IntKind.u64.wrap b = b := by rw [IntKind.wrap_u64]; omega
    have w4 : IntKind.u64.wrap (b + 1) = c := by rw [IntKind.wrap_u64]; omega
    have HNU := Lib.hid (fun w => num_any n.natAbs c w (by omega) (by omega))
    have HI : Hid (Lib.itoa n = 45 :: Lib.decDigits n.natAbs) := Lib.hid (by unfold Lib.itoa; rw [if_pos hn])
    have HL := Lib.hid (dec_len20 (n := n.natAbs) (by omega))
    clear ha hb hc h0 h1
    go_enter Tryz.func8, Tryz.ntmps8
    go_wp2_with fail
    refine (HNU.out w).mono ?_
    rintro e w' ⟨rfl, rfl⟩
    obtain ⟨S, hS⟩ : ∃ S : ByteArray, S = ⟨(Lib.decDigits n.natAbs).toArray⟩ := ⟨_, rfl⟩
    have HSE := Lib.hid hS
    have hsz : ¬ 9223372036854775807 < 1 + S.size := by have := HL.out; rw [hS]; simp [ByteArray.size]; omega
    unfold strV
    rw [← hS]
    clear hS
    go_wp2
    go_ret
    refine ⟨?_, rfl⟩
    rw [HI.out, HSE.out, b_cons]; rfl
  · obtain ⟨m, hm⟩ := Int.eq_ofNat_of_zero_le (show 0 ≤ n by omega)
    have w3 : IntKind.u64.wrap n = n := by rw [IntKind.wrap_u64]; omega
    have HNU := Lib.hid (fun w => num_any m n w hm (by omega))
    have HI : Hid (Lib.itoa n = Lib.decDigits m) := Lib.hid (by unfold Lib.itoa; rw [if_neg hn, hm]; rfl)
    clear h0 h1 hm
    go_enter Tryz.func8, Tryz.ntmps8
    go_wp2_with fail
    refine (HNU.out w).mono ?_
    rintro e w' ⟨rfl, rfl⟩
    go_wp2
    go_ret
    exact ⟨by rw [HI.out]; rfl, rfl⟩
theorem itoa_len {n : Int} (h0 : -9223372036854775808 ≤ n) (h1 : n ≤ 9223372036854775807) : (⟨(Lib.itoa n).toArray⟩ : ByteArray).size ≤ 1001 := by
  have h : (Lib.itoa n).length ≤ 1001 := by
    unfold Lib.itoa
    split
    · have := dec_len20 (n := n.natAbs) (by omega)
      simp only [List.length_cons]; omega
    · have := dec_len20 (n := n.toNat) (by omega)
      omega
  simpa [ByteArray.size] using h
def bTx : ByteArray := ⟨#[116, 114, 97, 110, 115, 97, 99, 116, 105, 111, 110, 32]⟩
def bEv : ByteArray := ⟨#[32, 101, 118, 101, 110, 116, 32]⟩
def bEr : ByteArray := ⟨#[32, 101, 114, 114, 111, 114, 32]⟩
def bIt (n : Int) : ByteArray := ⟨(Lib.itoa n).toArray⟩
/-- A fault's text. -/
def errText (tx at' e : Int) : ByteArray :=
  if e = 0 then ⟨#[102, 105, 110, 101]⟩ else if at' = -1 then bTx ++ bIt tx ++ bEr ++ bIt e else bTx ++ bIt tx ++ (bEv ++ bIt at') ++ bEr ++ bIt e
set_option maxHeartbeats 1000000 in
theorem errDoc_any (tx at' e : Int) (w : World) (h0 : -9223372036854775808 ≤ tx) (h1 : tx ≤ 9223372036854775807) (h2 : -9223372036854775808 ≤ at') (h3 : at' ≤ 9223372036854775807) (h4 : -9223372036854775808 ≤ e) (h5 : e ≤ 9223372036854775807) :
    Calls Tryz.prog 5 #[.int .i64 tx, .int .i64 at', .int .i64 e] w fun r w' => r = .returned (.string (errText tx at' e)) ∧ w = w' := by
  have HT := Lib.hid (signed_any tx w h0 h1); have HV := Lib.hid (signed_any at' w h2 h3); have HE := Lib.hid (signed_any e w h4 h5)
  have l1 := itoa_len h0 h1; have l2 := itoa_len h2 h3; have l3 := itoa_len h4 h5
  clear h0 h1 h2 h3 h4 h5
  have HX : Hid (errText tx at' e = errText tx at' e) := Lib.hid rfl
  unfold errText bIt at HX
  generalize hA : (⟨(Lib.itoa tx).toArray⟩ : ByteArray) = A at *
  generalize hB : (⟨(Lib.itoa at').toArray⟩ : ByteArray) = B at *
  generalize hC : (⟨(Lib.itoa e).toArray⟩ : ByteArray) = C at *
  have HA := Lib.hid hA; have HB := Lib.hid hB; have HC := Lib.hid hC
  have s1 : ¬ 9223372036854775807 < 12 + A.size := by omega
  have s2 : ¬ 9223372036854775807 < 12 + A.size + 7 := by omega
  have s3 : ¬ 9223372036854775807 < 12 + A.size + 7 + B.size := by omega
  have s4 : ¬ 9223372036854775807 < 12 + A.size + 7 + C.size := by omega
  have s5 : ¬ 9223372036854775807 < 12 + A.size + 7 + B.size + 7 := by omega
  have s6 : ¬ 9223372036854775807 < 12 + A.size + 7 + B.size + 7 + C.size := by omega
  clear hA hB hC l1 l2 l3 HX
  by_cases he : e = 0
  · subst he
    go_enter Tryz.func5, Tryz.ntmps5
    go_wp2
    go_ret
    exact ⟨by unfold errText; rw [if_pos rfl]; rfl, rfl⟩
  by_cases ha : at' = -1
  · subst ha
    go_enter Tryz.func5, Tryz.ntmps5
    go_wp2_with fail
    refine HT.out.mono ?_
    rintro r w' ⟨rfl, rfl⟩
    go_wp2_with fail
    refine HE.out.mono ?_
    rintro r w' ⟨rfl, rfl⟩
    go_wp2
    go_ret
    refine ⟨?_, rfl⟩
    unfold errText
    rw [if_neg he, if_pos rfl]
    unfold bIt bTx bEr
    rw [HA.out, HC.out]
    rfl
  · go_enter Tryz.func5, Tryz.ntmps5
    go_wp2_with fail
    refine HT.out.mono ?_
    rintro r w' ⟨rfl, rfl⟩
    go_wp2_with fail
    refine HV.out.mono ?_
    rintro r w' ⟨rfl, rfl⟩
    go_wp2_with fail
    refine HE.out.mono ?_
    rintro r w' ⟨rfl, rfl⟩
    go_wp2
    go_ret
    refine ⟨?_, rfl⟩
    unfold errText
    rw [if_neg he, if_neg ha, ← ByteArray.append_assoc]
    unfold bIt bTx bEr bEv
    rw [HA.out, HB.out, HC.out]
    rfl
theorem TabOk.ext {w w' : World} (h : TabOk w) (k : Ext w w') : TabOk w' := by
  unfold TabOk Lib.TabIs World.var? at h ⊢
  rw [gPow] at h ⊢
  simp only [Option.bind_some] at h ⊢
  have hb : w'.heap[(0 : Nat)]? = w.heap[(0 : Nat)]? := by
    cases hq : w.heap[(0 : Nat)]? with
    | none => rw [hq] at h; cases h
    | some o => rw [← hq]; exact k.block _ (Array.getElem?_eq_some_iff.1 hq).1 (fun f => f)
  rw [hb]
  exact h
theorem heap_of_extF {w w' : World} {g : Nat} {o : Obj} (k : Ext w w') (h : w.heap[g]? = some o) : w'.heap[g]? = some o := by
  rw [k.block g (Array.getElem?_eq_some_iff.1 h).1 (fun f => f)]; exact h
theorem fieldFa_0 (w : World) (b : Nat) : (Instr.fieldAt 24 (.pointer (some ⟨b, 0, none⟩)) 0).run Tryz.prog w = .ok (.pointer (some ⟨b, 0, none⟩)) w := by kernel_rfl
theorem fieldFa_1 (w : World) (b : Nat) : (Instr.fieldAt 24 (.pointer (some ⟨b, 0, none⟩)) 1).run Tryz.prog w = .ok (.pointer (some ⟨b, 1, none⟩)) w := by kernel_rfl
theorem fieldFa_2 (w : World) (b : Nat) : (Instr.fieldAt 24 (.pointer (some ⟨b, 0, none⟩)) 2).run Tryz.prog w = .ok (.pointer (some ⟨b, 2, none⟩)) w := by kernel_rfl
theorem row3 {w : World} {b : Nat} {x y z : Value} {T : TypeId} {fr : Nat × Nat} (h : w.heap[b]? = some (.cells #[x, y, z] T fr)) : w.cell? ⟨b, 0, none⟩ = some x ∧ w.cell? ⟨b, 1, none⟩ = some y ∧ w.cell? ⟨b, 2, none⟩ = some z := by
  refine ⟨?_, ?_, ?_⟩ <;> (rw [cell_of_row _ _ _ _ _ _ h]; rfl)
set_option maxHeartbeats 1000000 in
theorem errFit_any (tx at' e : Int) (w0 : World) (h0 : -9223372036854775808 ≤ tx) (h1 : tx ≤ 9223372036854775807) (h2 : -9223372036854775808 ≤ at') (h3 : at' ≤ 9223372036854775807) (h4 : -9223372036854775808 ≤ e) (h5 : e ≤ 9223372036854775807) (ht : TabOk w0) :
    Calls Tryz.prog 4 #[.agg #[.int .i64 tx, .int .i64 at', .int .i64 e]] w0 fun r w' => r = .returned (.string (errText tx at' e)) ∧ Ext w0 w' := by
  obtain ⟨w, hw⟩ : ∃ w, w = w0.alloc (.cells #[.int .i64 tx, .int .i64 at', .int .i64 e] 24) := ⟨_, rfl⟩
  have hx : Ext w0 w := by rw [hw]; exact (Ch.refl _ _).alloc _
  have hg : w.heap[w0.heap.size]? = some (.cells #[.int .i64 tx, .int .i64 at', .int .i64 e] 24 (0, 0)) := by rw [hw]; exact heap_alloc_new _ _
  have HW := Lib.hid hw; have HX := Lib.hid hx; have HG := Lib.hid hg; have HTB := Lib.hid (TabOk.ext ht hx)
  have HT := Lib.hid (fun w ht => itoa_any tx w h0 h1 ht); have HV := Lib.hid (fun w ht => itoa_any at' w h2 h3 ht); have HE := Lib.hid (fun w ht => itoa_any e w h4 h5 ht)
  have l1 := itoa_len h0 h1; have l2 := itoa_len h2 h3; have l3 := itoa_len h4 h5
  obtain ⟨c0, c1, c2⟩ := row3 hg
  rw [hw] at c0 c1 c2
  have hf0 := fieldFa_0; have hf1 := fieldFa_1; have hf2 := fieldFa_2
  clear h0 h1 h2 h3 h4 h5 hw hx hg ht
  have HA : Hid (bIt tx = ⟨(Lib.itoa tx).toArray⟩) := Lib.hid rfl; have HB : Hid (bIt at' = ⟨(Lib.itoa at').toArray⟩) := Lib.hid rfl; have HC : Hid (bIt e = ⟨(Lib.itoa e).toArray⟩) := Lib.hid rfl
  rw [← HA.out] at l1; rw [← HB.out] at l2; rw [← HC.out] at l3
  rw [← HA.out] at HT; rw [← HB.out] at HV; rw [← HC.out] at HE
  clear HA HB HC
  generalize hA : bIt tx = A at *
  generalize hB : bIt at' = B at *
  generalize hC : bIt e = C at *
  have HA := Lib.hid hA; have HB := Lib.hid hB; have HC := Lib.hid hC
  clear hA hB hC
  have s1 : ¬ 9223372036854775807 < 12 + A.size := by omega
  have s2 : ¬ 9223372036854775807 < 12 + A.size + 7 := by omega
  have s3 : ¬ 9223372036854775807 < 12 + A.size + (7 + B.size) := by omega
  have s3' : ¬ 9223372036854775807 < 7 + B.size := by omega
  have s4 : ¬ 9223372036854775807 < 12 + A.size + 7 + C.size := by omega
  have s5 : ¬ 9223372036854775807 < 12 + A.size + (7 + B.size) + 7 := by omega
  have s6 : ¬ 9223372036854775807 < 12 + A.size + (7 + B.size) + 7 + C.size := by omega
  clear l1 l2 l3
  by_cases he : e = 0
  · subst he
    go_enter Tryz.func4, Tryz.ntmps4
    go_wp2
    go_ret
    exact ⟨by unfold errText; rw [if_pos rfl]; rfl, by rw [← HW.out]; exact HX.out⟩
  by_cases ha : at' = -1
  · subst ha
    go_enter Tryz.func4, Tryz.ntmps4
    go_wp2_with fail
    rw [← HW.out]
    refine (HT.out w HTB.out).mono ?_
    rintro r w1 ⟨rfl, hx1⟩
    have HX1 := Lib.hid hx1; have HTB1 := Lib.hid (HTB.out.ext hx1)
    obtain ⟨d0, d1, d2⟩ := row3 (heap_of_extF hx1 HG.out)
    clear hx1 c0 c1 c2
    go_wp2_with fail
    refine (HE.out w1 HTB1.out).mono ?_
    rintro r w2 ⟨rfl, hx2⟩
    have HX2 := Lib.hid (HX.out.trans (HX1.out.trans hx2)); clear hx2
    go_wp2
    go_ret
    refine ⟨?_, HX2.out⟩
    unfold errText
    rw [if_neg he, if_pos rfl, HA.out, HC.out]
    rfl
  · go_enter Tryz.func4, Tryz.ntmps4
    go_wp2_with fail
    rw [← HW.out]
    refine (HT.out w HTB.out).mono ?_
    rintro r w1 ⟨rfl, hx1⟩
    have HX1 := Lib.hid hx1; have HTB1 := Lib.hid (HTB.out.ext hx1); have HG1 := Lib.hid (heap_of_extF hx1 HG.out)
    obtain ⟨d0, d1, d2⟩ := row3 HG1.out
    clear hx1 c0 c1 c2
    go_wp2_with fail
    refine (HV.out w1 HTB1.out).mono ?_
    rintro r w2 ⟨rfl, hx2⟩
    have HX2 := Lib.hid (HX1.out.trans hx2); have HTB2 := Lib.hid (HTB1.out.ext hx2)
    obtain ⟨e0, e1, e2⟩ := row3 (heap_of_extF hx2 HG1.out)
    clear hx2 d0 d1 d2
    go_wp2_with fail
    refine (HE.out w2 HTB2.out).mono ?_
    rintro r w3 ⟨rfl, hx3⟩
    have HX3 := Lib.hid (HX.out.trans (HX2.out.trans hx3)); clear hx3
    go_wp2
    go_ret
    refine ⟨?_, HX3.out⟩
    unfold errText
    rw [if_neg he, if_neg ha, HA.out, HB.out, HC.out]
    rfl
end Go.Proofs.YtfipjgodkdfdfaaGreatDoor
