/-
  Relations: closures over a column.
-/
import Derived.Test.YtcejjckhhdgdnaaRelD
import Derived.Test.YtcejjckhhdgdnaaCelA
import Derived.Deep.MidRow
namespace Go.Proofs.Ytcejjckhhdgdnaa
open Go.RowKit Go.Lac

theorem colS_at {w : World} {ao : Option Addr} {n cap : Nat} {l : List Col} (h : ColS w (.slice ao n cap) l) {j : Nat} (hj : j < l.length) :
    ∃ b o, ao = some ⟨b, o, none⟩ ∧ w.rangeAt b (o + j * 3) (colv l[j]).toList := by
  obtain ⟨ao', cap', e0, g1, g2, g3, g5⟩ := h
  cases e0
  have key : ∀ (l : List Col) (j : Nat) (hj : j < l.length) (q : Nat) (u : Value), (colv l[j]).toList[q]? = some u → (colC l)[j * 3 + q]? = some u := by
    intro l
    induction l with
    | nil => intro j hj; simp at hj
    | cons c l ih =>
      intro j hj q u hu
      cases j with
      | zero =>
        have hq : q < 3 := (List.getElem?_eq_some_iff.1 hu).1
        unfold colC
        rw [List.flatMap_cons, Nat.zero_mul, Nat.zero_add, List.getElem?_append_left (by simpa [colv] using hq)]
        exact hu
      | succ j =>
        have := ih j (by simpa using hj) q u (by simpa using hu)
        unfold colC at *
        rw [List.flatMap_cons, List.getElem?_append_right (by simp [colv]; omega)]
        rw [show (j + 1) * 3 + q - (colv c).toList.length = j * 3 + q by simp [colv]; omega]
        exact this
  cases ao with
  | none =>
    exfalso
    have := g3 rfl
    omega
  | some x =>
    obtain ⟨b, o, rfl, c0⟩ := g5 x rfl _ _ (key l j hj 0 _ rfl)
    refine ⟨b, o, rfl, fun q u hq => ?_⟩
    obtain ⟨b', o', e, c1⟩ := g5 ⟨b, o, none⟩ rfl _ _ (key l j hj q u hq)
    cases e
    rw [show o + j * 3 + q = o + (j * 3 + q) by omega]
    exact c1
set_option maxRecDepth 20000 in
set_option maxHeartbeats 800000 in
theorem sameName_any (x c : Col) (g : Nat) (w : World) (hg : w.heap[g]? = some (.cells (colv c) 49 (0, 0))) :
    Calls Try.prog 79 #[pcol x, .pointer (some ⟨g, 0, none⟩)] w fun e w' => e = .returned (.bool (decide (x.name = c.name))) ∧ Ext w w' := by
  have h1 := heap_alloc_new w (.cells (colv x) 49)
  obtain ⟨W, hW⟩ : ∃ W, W = w.alloc (.cells (colv x) 49) := ⟨_, rfl⟩
  have hx : Ext w W := by rw [hW]; exact (Ch.refl _ _).alloc _
  have d0 : W.cell? ⟨w.heap.size, 0, none⟩ = some (.string ⟨x.name.toArray⟩) := by rw [hW, cell_of_row _ _ _ _ _ _ h1]; rfl
  have d1 : W.cell? ⟨g, 0, none⟩ = some (.string ⟨c.name.toArray⟩) := by rw [cell_of_row _ _ _ _ _ _ (heap_of_ext hx hg)]; rfl
  have hq := toList_beq x.name c.name
  have HX := Lib.hid hx; have HW := Lib.hid hW
  rw [hW] at d0 d1
  clear h1 hx hW hg
  unfold pcol
  generalize colv x = cv at *
  generalize decide (x.name = c.name) = D at *
  generalize (⟨x.name.toArray⟩ : ByteArray) = A at *
  generalize (⟨c.name.toArray⟩ : ByteArray) = B at *
  go_enter Try.func79, Try.ntmps79
  go_wp2
  go_ret
  rw [← HW.out]
  exact ⟨by first | rfl | simp [hq], HX.out⟩
def closV (g : Nat) : Value := .func (.func 79) #[] #[.pointer (some ⟨g, 0, none⟩)]
set_option maxRecDepth 20000 in
set_option maxHeartbeats 1600000 in
theorem indexFunc_any (v : Value) (l : List Col) (g : Nat) (c : Col) (w : World) (hb : ColS w v l) (hg : w.heap[g]? = some (.cells (colv c) 49 (0, 0))) :
    Calls Try.prog 97 #[v, closV g] w fun e w' => (∃ n : Int, e = .returned (.int .i64 n) ∧ (0 ≤ n ↔ ∃ o ∈ l, o.name = c.name)) ∧ Ext w w' := by
  obtain ⟨ao, cap, rfl, hb'⟩ := id hb
  have HB := Lib.hid hb; have HG := Lib.hid hg
  have infoC := infoCoZ
  have hfs : ∃ i, Try.prog.info? 49 = some i ∧ i.size = 3 := by
    obtain ⟨i, h1, _, h3, _⟩ := info_parts infoCoZ
    exact ⟨i, h1, h3⟩
  obtain ⟨ci, chi, chs⟩ := hfs
  have CHI := Lib.hid chi; have CHS := Lib.hid chs
  obtain ⟨n, hn⟩ : ∃ n, n = l.length := ⟨_, rfl⟩
  rw [← hn] at HB ⊢
  have HN := Lib.hid hn
  have hn63 : n ≤ 9223372036854775807 := by have := hb'.1; have h2 := hb'.2.1; unfold maxLen at h2; omega
  clear hb hg hb' infoC chi chs hn
  unfold closV
  go_enter Try.func97, Try.ntmps97
  go_wp2
  go_loopw [8] (fun ix wr => ∃ k : Nat, k ≤ n ∧ ix = .int .i64 k ∧ Ext w wr ∧ Hid (∀ j (h : j < l.length), j < k → l[j].name ≠ c.name)) (fun ix _ => n - (intOf ix).toNat)
  case atStart => exact ⟨0, Nat.zero_le _, rfl, Ch.refl _ _, Lib.hid fun j h hj => absurd hj (Nat.not_lt_zero _)⟩
  case round =>
    obtain ⟨k, hk, rfl, hext, HP⟩ := hrel
    have HEXT := Lib.hid hext; clear hext
    by_cases hlt : k < n
    · have hkl : k < l.length := by have := HN.out; omega
      obtain ⟨b, o, rfl, hra⟩ := colS_at (HB.out.ext HEXT.out) hkl
      have hidx := run_indexSl wr Try.underlying30 CHI.out CHS.out b o n cap k hlt
      have c0 : wr.cell? ⟨b, o + k * 3, none⟩ = some (.string ⟨l[k].name.toArray⟩) := by have := hra 0 _ rfl; simpa [strV] using this
      have c1 : wr.cell? ⟨b, o + k * 3 + 1, none⟩ = some (.int .u8 (l[k].ty : Nat)) := hra 1 _ rfl
      have c2 : wr.cell? ⟨b, o + k * 3 + 2, none⟩ = some (.bool l[k].key) := hra 2 _ rfl
      clear hra
      obtain ⟨x, hx0⟩ : ∃ x, x = l[k] := ⟨_, rfl⟩
      have HXX : Hid (∀ h : k < l.length, l[k] = x) := Lib.hid fun _ => hx0.symm
      rw [← hx0] at c0 c1 c2
      clear hx0
      have HRN := Lib.hid (sameName_any x c g wr (heap_of_ext HEXT.out HG.out))
      have HPK : Hid (x.name ≠ c.name → ∀ j (h : j < l.length), j < k + 1 → l[j].name ≠ c.name) := Lib.hid fun hne j h hj => by
        by_cases hjk : j < k
        · exact HP.out j h hjk
        · have : j = k := by omega
          subst this
          rw [HXX.out h]
          exact hne
      have HIN : Hid (x.name = c.name → ∃ o ∈ l, o.name = c.name) := Lib.hid fun h => ⟨x, by rw [← HXX.out hkl]; exact List.getElem_mem hkl, h⟩
      have HLT := Lib.hid hlt
      have hn2 := HN.out
      by_cases hnm : x.name = c.name
      · rw [decide_eq_true hnm] at HRN
        have HI := Lib.hid (HIN.out hnm)
        clear hnm HPK HIN hn2
        go_wp2_with fail
        refine HRN.out.mono ?_
        rintro e w2 ⟨rfl, hx⟩
        have HX2 := Lib.hid (HEXT.out.trans hx)
        clear hx
        go_wp2
        go_ret
        exact ⟨⟨(k : Int), rfl, ⟨fun _ => HI.out, fun _ => by omega⟩⟩, HX2.out⟩
      · rw [decide_eq_false hnm] at HRN
        have HK := Lib.hid (HPK.out hnm)
        clear hnm HPK HIN hn2
        go_wp2_with fail
        refine HRN.out.mono ?_
        rintro e w2 ⟨rfl, hx⟩
        have HX2 := Lib.hid (HEXT.out.trans hx)
        clear hx
        go_wp2
        exact ⟨⟨k + 1, HLT.out, rfl, HX2.out, Lib.hid HK.out⟩, by simp only [intOf]; have := HLT.out; omega⟩
    · have hkn : k = n := by omega
      subst hkn
      have HNO : Hid (¬ ∃ o ∈ l, o.name = c.name) := Lib.hid fun ⟨o, ho, he⟩ => by
        obtain ⟨j, hj, rfl⟩ := List.mem_iff_getElem.1 ho
        exact HP.out j hj (by have := HN.out; omega) he
      go_wp2
      go_ret
      exact ⟨⟨-1, rfl, ⟨fun h => absurd h (by decide), fun h => absurd h HNO.out⟩⟩, HEXT.out⟩
set_option maxRecDepth 20000 in
set_option maxHeartbeats 800000 in
theorem contains_any (v : Value) (l : List Col) (g : Nat) (c : Col) (w : World) (hb : ColS w v l) (hg : w.heap[g]? = some (.cells (colv c) 49 (0, 0))) :
    Calls Try.prog 78 #[v, closV g] w fun e w' => e = .returned (.bool (decide (∃ o ∈ l, o.name = c.name))) ∧ Ext w w' := by
  have HI := Lib.hid (indexFunc_any v l g c w hb hg)
  obtain ⟨ao, cap, rfl, _⟩ := id hb
  have HP : Hid ((∃ o ∈ l, o.name = c.name) → decide (∃ o ∈ l, o.name = c.name) = true) := Lib.hid decide_eq_true
  have HN : Hid (¬ (∃ o ∈ l, o.name = c.name) → decide (∃ o ∈ l, o.name = c.name) = false) := Lib.hid decide_eq_false
  generalize decide (∃ o ∈ l, o.name = c.name) = D at *
  generalize l.length = n at *
  clear hb hg
  unfold closV at *
  go_enter Try.func78, Try.ntmps78
  go_wp2_with fail
  refine HI.out.mono ?_
  rintro e w2 ⟨⟨m, rfl, hm⟩, hx⟩
  have HX := Lib.hid hx; have HM := Lib.hid hm
  clear hx hm HI
  by_cases h0 : 0 ≤ m
  · have HD := Lib.hid (HP.out (HM.out.1 h0))
    go_wp2
    go_ret
    exact ⟨by rw [HD.out]; simp [h0], HX.out⟩
  · have HD := Lib.hid (HN.out (fun h => h0 (HM.out.2 h)))
    go_wp2
    go_ret
    exact ⟨by rw [HD.out]; simp [h0]; try omega, HX.out⟩
set_option maxRecDepth 20000 in
set_option maxHeartbeats 1600000 in
theorem colRight_any (c : Col) (v : Value) (l : List Col) (w : World) (hb : ColS w v l) (hn : c.name.length ≤ 9223372036854775807) :
    Calls Try.prog 51 #[pcol c, v] w fun e w' => e = .returned (.int .i64 (colErr l c : Nat)) ∧ Ext w w' := by
  have h1 := heap_alloc_new w (.cells (colv c) 49)
  obtain ⟨W, hW⟩ : ∃ W, W = w.alloc (.cells (colv c) 49) := ⟨_, rfl⟩
  have hx : Ext w W := by rw [hW]; exact (Ch.refl _ _).alloc _
  rw [← hW] at h1
  have HG := Lib.hid h1; have HX := Lib.hid hx; have HW := Lib.hid hW; have HB := Lib.hid (hb.ext hx)
  obtain ⟨ao, cap, rfl, _⟩ := id hb
  have d0 : W.cell? ⟨w.heap.size, 0, none⟩ = some (.string ⟨c.name.toArray⟩) := by rw [cell_of_row _ _ _ _ _ _ h1]; rfl
  have d1 : W.cell? ⟨w.heap.size, 1, none⟩ = some (.int .u8 (c.ty : Nat)) := by rw [cell_of_row _ _ _ _ _ _ h1]; rfl
  have HIN := Lib.hid (isName_any c.name W hn)
  have HCO := Lib.hid (contains_any (.slice ao l.length cap) l w.heap.size c W HB.out h1)
  have HVR := Lib.hid (fun w => vright_any ⟨c.ty, 0, 0, 0, []⟩ w)
  have HE : Hid ((¬ NameOk c.name → colErr l c = 3) ∧ (NameOk c.name → (∃ o ∈ l, o.name = c.name) → colErr l c = 9) ∧ (NameOk c.name → ¬ (∃ o ∈ l, o.name = c.name) → colErr l c = vErr ⟨c.ty, 0, 0, 0, []⟩)) := Lib.hid ⟨fun h => by unfold colErr; rw [if_pos h], fun h h' => by unfold colErr; rw [if_neg (by simpa using h), if_pos h'], fun h h' => by unfold colErr; rw [if_neg (by simpa using h), if_neg h', vErr_only]⟩
  rw [hW] at d0 d1
  generalize colErr l c = E at *
  generalize vErr ⟨c.ty, 0, 0, 0, []⟩ = V at *
  clear h1 hx hW hb hn
  have hbd := fun w => build61_1 w c.ty
  unfold pcol
  unfold strV at HIN
  unfold closV at HCO
  generalize (⟨c.name.toArray⟩ : ByteArray) = A at *
  generalize l.length = n at *
  generalize hcv : colv c = cv at *
  clear hcv
  by_cases hnm : NameOk c.name
  · rw [decide_eq_true hnm] at HIN
    by_cases hex : ∃ o ∈ l, o.name = c.name
    · rw [decide_eq_true hex] at HCO
      have HF := Lib.hid (HE.out.2.1 hnm hex)
      clear hnm hex HE
      go_enter Try.func51, Try.ntmps51
      go_wp2_with fail
      rw [← HW.out]
      refine HIN.out.mono ?_
      rintro e w' ⟨rfl, rfl⟩
      go_wp2_with fail
      refine HCO.out.mono ?_
      rintro e w2 ⟨rfl, hx⟩
      have HX2 := Lib.hid (HX.out.trans hx)
      clear hx
      go_wp2
      go_ret
      exact ⟨by rw [HF.out]; rfl, HX2.out⟩
    · rw [decide_eq_false hex] at HCO
      have HF := Lib.hid (HE.out.2.2 hnm hex)
      clear hnm hex HE
      go_enter Try.func51, Try.ntmps51
      go_wp2_with fail
      rw [← HW.out]
      refine HIN.out.mono ?_
      rintro e w' ⟨rfl, rfl⟩
      rw [← HW.out] at d0 d1
      go_wp2_with fail
      refine HCO.out.mono ?_
      rintro e w2 ⟨rfl, hx⟩
      have HX2 := Lib.hid (HX.out.trans hx)
      have d1 := hx.cell (p := ⟨w.heap.size, 1, none⟩) (fun f => f) _ d1
      clear hx d0
      go_wp2_with fail
      refine (HVR.out _).mono ?_
      rintro e w3 ⟨rfl, hx⟩
      have HX3 := Lib.hid (HX2.out.trans hx)
      clear hx
      go_wp2
      go_ret
      exact ⟨by rw [HF.out]; rfl, HX3.out⟩
  · rw [decide_eq_false hnm] at HIN
    have HF := Lib.hid (HE.out.1 hnm)
    clear hnm HE
    go_enter Try.func51, Try.ntmps51
    go_wp2_with fail
    rw [← HW.out]
    refine HIN.out.mono ?_
    rintro e w' ⟨rfl, rfl⟩
    go_wp2
    go_ret
    exact ⟨by rw [HF.out]; rfl, HX.out⟩
end Go.Proofs.Ytcejjckhhdgdnaa
