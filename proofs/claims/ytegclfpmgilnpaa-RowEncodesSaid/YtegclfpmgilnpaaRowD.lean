/-
  Rows: Fill (the program's). MADE BY mkRowD.py
-/
import Derived.Test.YtegclfpmgilnpaaRowC
import Derived.Test.YtegclfpmgilnpaaImgC
namespace Go.Proofs.Ytegclfpmgilnpaa
open Go.RowKit Go.Lac

structure Ho where
  c : Int
  s : Int
def hov (h : Ho) : Array Value := #[.int .i64 h.c, .int .i64 h.s]
def HoC (l : List Ho) : List Value := l.flatMap fun c => (hov c).toList
theorem HoC_append (a b : List Ho) : HoC (a ++ b) = HoC a ++ HoC b := by simp [HoC]
theorem HoC_at : ∀ (l : List Ho) (j : Nat) (hj : j < l.length) (q : Nat) (u : Value), (hov l[j]).toList[q]? = some u → (HoC l)[j * 2 + q]? = some u := by
  intro l
  induction l with
  | nil => intro j hj; simp at hj
  | cons c l ih =>
    intro j hj q u hu
    cases j with
    | zero =>
      have hq : q < 2 := (List.getElem?_eq_some_iff.1 hu).1
      unfold HoC
      rw [List.flatMap_cons, Nat.zero_mul, Nat.zero_add, List.getElem?_append_left (by simpa [hov] using hq)]
      exact hu
    | succ j =>
      have := ih j (by simpa using hj) q u (by simpa using hu)
      unfold HoC at this ⊢
      rw [List.flatMap_cons, List.getElem?_append_right (by simp [hov]; omega)]
      rw [show (j + 1) * 2 + q - (hov c).toList.length = j * 2 + q by simp [hov]; omega]
      exact this
/-- A slice of holes. -/
def HoS (w : World) (v : Value) (l : List Ho) : Prop := Sl w v l.length (HoC l)
theorem HoS.ext {w w' : World} {v : Value} {l : List Ho} (h : HoS w v l) (k : Ext w w') : HoS w' v l := Sl.ext h k
theorem HoS.shape {w : World} {v : Value} {l : List Ho} (h : HoS w v l) : ∃ ao cap, v = .slice ao l.length cap ∧ l.length ≤ cap ∧ cap ≤ maxLen := by
  obtain ⟨ao, cap, e, h1, h2, _⟩ := h; exact ⟨ao, cap, e, h1, h2⟩
theorem HoS.at {w : World} {ao : Option Addr} {n cap : Nat} {l : List Ho} (h : HoS w (.slice ao n cap) l) {j : Nat} (hj : j < l.length) :
    ∃ b o, ao = some ⟨b, o, none⟩ ∧ w.cell? ⟨b, o + j * 2, none⟩ = some (.int .i64 l[j].c) ∧ w.cell? ⟨b, o + j * 2 + 1, none⟩ = some (.int .i64 l[j].s) := by
  obtain ⟨ao', cap', e0, g1, g2, g3, g5⟩ := h
  cases e0
  cases ao with
  | none => exfalso; have := g3 rfl; omega
  | some x =>
    obtain ⟨b, o, rfl, c0⟩ := g5 x rfl _ _ (HoC_at l j hj 0 _ rfl)
    obtain ⟨b', o', e, c1⟩ := g5 ⟨b, o, none⟩ rfl _ _ (HoC_at l j hj 1 _ rfl)
    cases e
    exact ⟨b, o, rfl, c0, c1⟩
/-- A slice of texts. -/
def TxR (w : World) (v : Value) (l : List (List UInt8)) : Prop := Sl w v l.length (l.map strV)
theorem TxR.ext {w w' : World} {v : Value} {l : List (List UInt8)} (h : TxR w v l) (k : Ext w w') : TxR w' v l := Sl.ext h k
theorem TxR.shape {w : World} {v : Value} {l : List (List UInt8)} (h : TxR w v l) : ∃ ao cap, v = .slice ao l.length cap ∧ l.length ≤ cap ∧ cap ≤ maxLen := by
  obtain ⟨ao, cap, e, h1, h2, _⟩ := h; exact ⟨ao, cap, e, h1, h2⟩
theorem TxR.at {w : World} {ao : Option Addr} {n cap : Nat} {l : List (List UInt8)} (h : TxR w (.slice ao n cap) l) {j : Nat} (hj : j < l.length) :
    ∃ b o, ao = some ⟨b, o, none⟩ ∧ w.cell? ⟨b, o + j, none⟩ = some (strV l[j]) := by
  obtain ⟨ao', cap', e0, g1, g2, g3, g5⟩ := h
  cases e0
  have hu : (l.map strV)[j]? = some (strV l[j]) := by simp [hj]
  cases ao with
  | none => have := g3 rfl; omega
  | some x => obtain ⟨b, o, rfl, c0⟩ := g5 x rfl _ _ hu; exact ⟨b, o, rfl, c0⟩
theorem infoStrR : (Try.prog.info? 9).map (fun i => (i.zero, i.size, i.bytes)) = some (some (.string ⟨#[]⟩), 1, 16) := by kernel_rfl
theorem infoHoP : (Try.prog.info? 93).map (fun i => (i.zero, i.size, i.bytes)) = some (some (.agg #[.int .i64 0, .int .i64 0]), 2, 16) := by kernel_rfl
theorem fieldHo0 (w : World) (b : Nat) : (Instr.fieldAt 93 (.pointer (some ⟨b, 0, none⟩)) 0).run Try.prog w = .ok (.pointer (some ⟨b, 0, none⟩)) w := by kernel_rfl
theorem fieldHo1 (w : World) (b : Nat) : (Instr.fieldAt 93 (.pointer (some ⟨b, 0, none⟩)) 1).run Try.prog w = .ok (.pointer (some ⟨b, 1, none⟩)) w := by kernel_rfl
theorem fieldV3 (w : World) (b o : Nat) : (Instr.fieldAt 127 (.pointer (some ⟨b, o, none⟩)) 3).run Try.prog w = .ok (.pointer (some ⟨b, o + 3, none⟩)) w := by kernel_rfl
theorem ownPr_mono {base base' : Nat} {w : World} {v : Value} {l : List Cel} (h : OwnPr base w v l) (hb : base' ≤ base) : OwnPr base' w v l :=
  ⟨h.1, h.2.imp id fun ⟨g, cap, cur, h1, h2, h3⟩ => ⟨g, cap, cur, h1, Nat.le_trans hb h2, h3⟩⟩
/-- One hole filled. -/
def fillOne (l : List Cel) (p : Ho × List UInt8) : List Cel := match l[p.1.c.toNat]? with
  | some x => l.set p.1.c.toNat ⟨x.k, { x.v with t := p.2 }⟩
  | none => l
def fillZ (l : List Cel) (z : List (Ho × List UInt8)) : List Cel := z.foldl fillOne l
theorem fillOne_length (l : List Cel) (p : Ho × List UInt8) : (fillOne l p).length = l.length := by unfold fillOne; split <;> simp
theorem fillZ_length : ∀ (z : List (Ho × List UInt8)) (l : List Cel), (fillZ l z).length = l.length
  | [], _ => rfl
  | p :: z, l => by unfold fillZ; rw [List.foldl_cons]; exact (fillZ_length z _).trans (fillOne_length l p)
theorem fillOne_at {l : List Cel} {h : Ho} {t : List UInt8} {j : Nat} (hc : h.c = (j : Int)) (hj : j < l.length) : fillOne l (h, t) = l.set j ⟨l[j].k, { l[j].v with t := t }⟩ := by
  unfold fillOne
  rw [hc, Int.toNat_natCast, List.getElem?_eq_getElem hj]
theorem fillZ_snoc (l : List Cel) (z : List (Ho × List UInt8)) (p : Ho × List UInt8) : fillZ l (z ++ [p]) = fillOne (fillZ l z) p := by unfold fillZ; rw [List.foldl_append]; rfl
def badC (n : Nat) (h : Ho) : Bool := decide (h.c < 0 ∨ (n : Int) ≤ h.c)
def badS (p : Ho × List UInt8) : Bool := decide ((p.2.length : Int) ≠ p.1.s)
def fillE (l : List Cel) (hs : List Ho) (ts : List (List UInt8)) : Nat :=
  if ts.length ≠ hs.length then 17 else if hs.any (badC l.length) = true then 4 else if (hs.zip ts).any badS = true then 16 else 0
def fillR (l : List Cel) (hs : List Ho) (ts : List (List UInt8)) : List Cel := if fillE l hs ts = 0 then fillZ l (hs.zip ts) else []
def FillPost (l : List Cel) (hs : List Ho) (ts : List (List UInt8)) (w : World) (e : Ending) (w' : World) : Prop :=
  ∃ y, e = .returned (.tuple #[y, .int .i64 (fillE l hs ts : Nat)]) ∧ Ext w w' ∧ OwnPr w.heap.size w' y (fillR l hs ts)
theorem any_snoc {α : Type} (p : α → Bool) (l : List α) (k : Nat) (hk : k < l.length) (h0 : (l.take k).any p = false) (h1 : p l[k] = false) : (l.take (k + 1)).any p = false := by
  rw [List.take_succ_eq_append_getElem hk, List.any_append, h0]; simp [h1]
theorem any_at {α : Type} (p : α → Bool) (l : List α) (k : Nat) (hk : k < l.length) (h1 : p l[k] = true) : l.any p = true := List.any_eq_true.2 ⟨_, List.getElem_mem hk, h1⟩
theorem any_none {α : Type} (p : α → Bool) (l : List α) (k : Nat) (hk : k < l.length) (h : l.any p = false) : p l[k] = false := by
  cases h1 : p l[k] with
  | false => rfl
  | true => rw [any_at p l k hk h1] at h; cases h
def fi12T (tb to n tcap k : Nat) (t : List UInt8) (g11 : Nat) (s : Int) (D : Bool) : Tmp → Kn
  | 44 => .is (.slice (some ⟨tb, to, none⟩) n tcap)
  | 45 => .is (.int .i64 (k : Nat))
  | 46 => .is (.pointer (some ⟨tb, to + k * 1, none⟩))
  | 47 => .is (strV t)
  | 48 => .is (.int .i64 (t.length : Nat))
  | 49 => .is (.pointer (some ⟨g11, 1, none⟩))
  | 50 => .is (.int .i64 s)
  | 51 => .is (.bool D)
  | _ => .any
def fi19T (og m ocap g14 j tb to n tcap k : Nat) (t : List UInt8) : Tmp → Kn
  | 62 => .is (.slice (some ⟨og, 0, none⟩) m ocap)
  | 63 => .is (.pointer (some ⟨g14, 0, none⟩))
  | 64 => .is (.int .i64 (j : Nat))
  | 65 => .is (.slice (some ⟨tb, to, none⟩) n tcap)
  | 66 => .is (.int .i64 (k : Nat))
  | 67 => .is (.pointer (some ⟨tb, to + k * 1, none⟩))
  | 68 => .is (strV t)
  | 69 => .is (.pointer (some ⟨og, 0 + j * 5, none⟩))
  | 70 => .is (.pointer (some ⟨og, 0 + j * 5 + 1, none⟩))
  | 71 => .is (.pointer (some ⟨og, 0 + j * 5 + 1 + 3, none⟩))
  | _ => .any
theorem fi19T_pure (og m ocap g14 j tb to n tcap k : Nat) (t : List UInt8) : ∀ d, (fi19T og m ocap g14 j tb to n tcap k t d).pure := by
  intro d
  unfold fi19T
  split <;> first | exact Kn.is_pure _ | exact Kn.any_pure
set_option maxRecDepth 20000 in
set_option maxHeartbeats 8000000 in
theorem fill_any (v hv tv : Value) (l : List Cel) (hs : List Ho) (ts : List (List UInt8)) (w : World) (h1 : PcS w v l) (h2 : HoS w hv hs) (h3 : TxR w tv ts) (hl : l.length ≤ 100000) (hh : hs.length ≤ 100000) :
    Calls Try.prog 42 #[v, hv, tv] w (FillPost l hs ts w) := by
  have HV := Lib.hid h1; have HH := Lib.hid h2; have HT := Lib.hid h3; have HLL := Lib.hid hl; have HHL := Lib.hid hh
  obtain ⟨vo, vcap, rfl, -, -⟩ := h1.shape
  obtain ⟨ho, hcap, rfl, hm1, hm2⟩ := h2.shape
  obtain ⟨to, tcap, rfl, -, -⟩ := h3.shape
  have hh63 : hs.length ≤ 9223372036854775807 := by omega
  clear h1 h2 h3 hl hh hm1 hm2
  by_cases hne : ts.length = hs.length
  case neg =>
    have HE : Hid (fillE l hs ts = 17) := Lib.hid (by unfold fillE; rw [if_pos hne])
    have en : ¬ ((ts.length : Nat) : Int) = ((hs.length : Nat) : Int) := by omega
    generalize hs.length = hn at *
    generalize ts.length = tn at *
    generalize l.length = n at *
    clear hne
    go_enter Try.func42, Try.ntmps42
    go_wp2
    refine bodyPost_ret (results_tmp2 rfl _ _ _) rfl ?_
    refine ⟨_, by rw [HE.out]; rfl, Ch.refl _ _, ?_⟩
    unfold fillR
    rw [HE.out, if_neg (by decide)]
    exact OwnPr.nil _ _
  obtain ⟨ih, chh, _, csh, _⟩ := info_parts infoHoP
  obtain ⟨it, cht, _, cst, _⟩ := info_parts infoStrR
  obtain ⟨ir, chr, _, csr, _⟩ := info_parts infoPrZ
  have CHH := Lib.hid chh; have CSH := Lib.hid csh; have CHT := Lib.hid cht; have CST := Lib.hid cst; have CHR := Lib.hid chr; have CSR := Lib.hid csr
  have HNE := Lib.hid hne
  clear chh csh cht cst chr csr hne
  generalize hA : hs.length = n at *
  generalize hB : ts.length = n' at *
  obtain rfl : n = n' := HNE.out.symm
  generalize hC : l.length = m at *
  have HA := Lib.hid hA; have HB := Lib.hid hB; have HC := Lib.hid hC
  clear hA hB hC
  go_enter Try.func42, Try.ntmps42
  go_wp2
  go_loopw [22] (fun ix wr => ∃ k : Nat, k ≤ n ∧ ix = .int .i64 k ∧ Hid (Ext w wr) ∧ Hid ((hs.take k).any (badC l.length) = false)) (fun ix _ => n - (intOf ix).toNat)
  case atStart => exact ⟨0, Nat.zero_le _, rfl, Lib.hid (Ch.refl _ _), Lib.hid rfl⟩
  case round =>
    obtain ⟨k, hk, rfl, HXr, HAny⟩ := hrel
    by_cases hlt : k < n
    · have hkh : k < hs.length := by have := HA.out; omega
      obtain ⟨hb, ho', rfl, q0, q1⟩ := (HH.out.ext HXr.out).at hkh
      have hidx := run_indexSl wr Try.underlying88 CHH.out CSH.out hb ho' n hcap k hlt
      have HLT := Lib.hid hlt
      have HBT : Hid (badC l.length hs[k] = true → hs.any (badC l.length) = true) := Lib.hid (any_at _ hs k hkh)
      have HBF : Hid (badC l.length hs[k] = false → (hs.take (k + 1)).any (badC l.length) = false) := Lib.hid (any_snoc _ hs k hkh HAny.out)
      unfold badC at HBT HBF
      rw [HC.out] at HBT HBF
      generalize hs[k].c = c at *
      generalize hs[k].s = s at *
      have HXA : Hid (Ext w (wr.alloc (.cells #[.int .i64 c, .int .i64 s] 93))) := Lib.hid (HXr.out.alloc _)
      by_cases hc0 : c < 0
      · have HE : Hid (hs.any (badC l.length) = true) := Lib.hid (by have := HBT.out (decide_eq_true (.inl hc0)); unfold badC; rw [HC.out]; exact this)
        have HE4 : Hid (fillE l hs ts = 4) := Lib.hid (by unfold fillE; rw [if_neg (by rw [HA.out, HB.out]; simp), if_pos HE.out])
        clear HBT HBF HE hkh hlt
        go_wp2
        refine bodyPost_ret (results_tmp2 rfl _ _ _) rfl ?_
        refine ⟨_, by rw [HE4.out]; rfl, HXA.out, ?_⟩
        unfold fillR
        rw [HE4.out, if_neg (by decide)]
        exact OwnPr.nil _ _
      · by_cases hcn : (m : Int) ≤ c
        · have HE : Hid (hs.any (badC l.length) = true) := Lib.hid (by have := HBT.out (decide_eq_true (.inr hcn)); unfold badC; rw [HC.out]; exact this)
          have HE4 : Hid (fillE l hs ts = 4) := Lib.hid (by unfold fillE; rw [if_neg (by rw [HA.out, HB.out]; simp), if_pos HE.out])
          clear HBT HBF HE hkh hlt
          go_wp2
          refine bodyPost_ret (results_tmp2 rfl _ _ _) rfl ?_
          refine ⟨_, by rw [HE4.out]; rfl, HXA.out, ?_⟩
          unfold fillR
          rw [HE4.out, if_neg (by decide)]
          exact OwnPr.nil _ _
        · have HF : Hid ((hs.take (k + 1)).any (badC l.length) = false) := Lib.hid (by have := HBF.out (decide_eq_false (by omega)); unfold badC; rw [HC.out]; exact this)
          have hcn' : c < (m : Int) := by omega
          clear HBT HBF hkh hlt
          go_wp2
          go_roundw
          case rel => exact ⟨k + 1, HLT.out, by simp, HXA, HF⟩
          case measure => simp [intOf]; have := HLT.out; omega
    · obtain rfl : n = k := by omega
      have HAN : Hid (hs.any (badC l.length) = false) := Lib.hid (by have := HAny.out; rwa [← HA.out, List.take_length] at this)
      clear HAny hlt
      go_wp2
      have HX1 := Lib.hid HXr.out
      go_loopw [39] (fun ix wr2 => ∃ k : Nat, k ≤ n ∧ ix = .int .i64 k ∧ Hid (Ext w wr2) ∧ Hid (((hs.zip ts).take k).any badS = false)) (fun ix _ => n - (intOf ix).toNat)
      case atStart => exact ⟨0, Nat.zero_le _, rfl, HX1, Lib.hid rfl⟩
      case round =>
        obtain ⟨k, hk, rfl, HXr, HAny⟩ := hrel
        by_cases hlt : k < n
        · have hkh : k < hs.length := by have := HA.out; omega
          have hkt : k < ts.length := by have := HB.out; omega
          have hkz : k < (hs.zip ts).length := by rw [List.length_zip]; omega
          obtain ⟨hb, ho', rfl, q0, q1⟩ := (HH.out.ext HXr.out).at hkh
          obtain ⟨tb, to', rfl, r0⟩ := (HT.out.ext HXr.out).at hkt
          have hidx := run_indexSl wr Try.underlying88 CHH.out CSH.out hb ho' n hcap k hlt
          have HLT := Lib.hid hlt
          have HBT : Hid (decide ((ts[k].length : Int) ≠ hs[k].s) = true → (hs.zip ts).any badS = true) := Lib.hid (fun h => any_at _ _ k hkz (by rw [List.getElem_zip]; exact h))
          have HBF : Hid (decide ((ts[k].length : Int) ≠ hs[k].s) = false → ((hs.zip ts).take (k + 1)).any badS = false) := Lib.hid (fun h => any_snoc _ _ k hkz HAny.out (by rw [List.getElem_zip]; exact h))
          generalize hs[k].c = c at *
          generalize hs[k].s = s at *
          generalize ts[k] = t at *
          obtain ⟨w3', hw3⟩ : ∃ w3', w3' = wr.alloc (.cells #[.int .i64 c, .int .i64 s] 93) := ⟨_, rfl⟩
          have hx3 : Ext wr w3' := by rw [hw3]; exact (Ch.refl _ _).alloc _
          have RS : Hid (w3'.cell? ⟨wr.heap.size, 1, none⟩ = some (.int .i64 s)) := Lib.hid (by rw [hw3, cell_of_row _ _ _ _ _ _ (heap_alloc_new wr _)]; rfl)
          have RT : Hid (w3'.cell? ⟨tb, to' + k, none⟩ = some (strV t)) := Lib.hid (hx3.cell (p := ⟨tb, to' + k, none⟩) (fun f => f) _ r0)
          have HX3 := Lib.hid (HXr.out.trans hx3); have HW3 := Lib.hid hw3
          obtain ⟨D, hD⟩ : ∃ D, D = decide ((t.length : Int) ≠ s) := ⟨_, rfl⟩
          have HDE : Hid ((((t.length : Nat) : Int) != s) = D) := Lib.hid (by rw [hD]; simp [bne, BEq.beq])
          rw [← hD] at HBT HBF
          clear hx3 hw3 hkh hkt hkz r0 hlt HAny hD
          go_wp2
          rw [← HW3.out]
          refine wp_region_ext (fi12T tb to' n tcap k t wr.heap.size s D) mixedR (by rfl) (by rfl) ?all ?fin
          case all =>
            refine ⟨?_, ?_, ?_, ?_, ?_, ?_, ?_, ?_, trivial⟩
            · -- 0: slot 44 := Op.move t2
              refine StepOK.plain (kn_stable _) rfl fun ρ w hρ hw hf => ?_
              have h2 : ρ (.tmp 2) = (.slice (some ⟨tb, to', none⟩) n tcap) := (hf 2).2 rfl rfl
              exact Exec.kmove rfl rfl h2
            · -- 1: slot 45 := Op.move t10
              refine StepOK.plain (kn_stable _) rfl fun ρ w hρ hw hf => ?_
              have h10 : ρ (.tmp 10) = (.int .i64 (k : Nat)) := (hf 10).2 rfl rfl
              exact Exec.kmove rfl rfl h10
            · -- 2: slot 46 := Op.indexAddr 82 t44 t45
              refine StepOK.plain (kn_stable _) rfl fun ρ w hρ hw hf => ?_
              have h44 : ρ (.tmp 44) = (.slice (some ⟨tb, to', none⟩) n tcap) := (hf 44).1 rfl
              have h45 : ρ (.tmp 45) = (.int .i64 (k : Nat)) := (hf 45).1 rfl
              exact Exec.kindex rfl rfl Try.underlying82 CHT.out CST.out h44 h45 HLT.out rfl
            · -- 3: slot 47 := Op.load 9 t46
              refine StepOK.plain (kn_stable _) rfl fun ρ w hρ hw hf => ?_
              have h46 : ρ (.tmp 46) = (.pointer (some ⟨tb, to' + k * 1, none⟩)) := (hf 46).1 rfl
              have hc := hw.cell (p := ⟨tb, to' + k, none⟩) (fun f => f) _ RT.out
              exact Exec.same (v := strV t) rfl (by simp [go_sem, hρ.const, h46, hc]) rfl
            · -- 4: slot 48 := Op.call { builtin len, args := #[t47], argTypes := #[9] }
              refine StepOK.plain (kn_stable _) rfl fun ρ w hρ hw hf => ?_
              have h47 : ρ (.tmp 47) = (strV t) := (hf 47).1 rfl
              exact Exec.same (v := .int .i64 (t.length : Nat)) rfl (by simp [go_sem, hρ.const, h47, strV, ByteArray.size]) rfl
            · -- 5: slot 49 := Op.fieldAddr 93 t11 1
              refine StepOK.plain (kn_stable _) rfl fun ρ w hρ hw hf => ?_
              have h11 : ρ (.tmp 11) = (.pointer (some ⟨wr.heap.size, 0, none⟩)) := (hf 11).2 rfl rfl
              exact Exec.kfield rfl rfl h11 (fieldHo1 w _) rfl
            · -- 6: slot 50 := Op.load 3 t49
              refine StepOK.plain (kn_stable _) rfl fun ρ w hρ hw hf => ?_
              have h49 : ρ (.tmp 49) = (.pointer (some ⟨wr.heap.size, 1, none⟩)) := (hf 49).1 rfl
              have hc := hw.cell (p := ⟨wr.heap.size, 1, none⟩) (fun f => f) _ RS.out
              exact Exec.same (v := .int .i64 s) rfl (by simp [go_sem, hρ.const, h49, hc]) rfl
            · -- 7: slot 51 := Op.binOp BinOp.neq 3 t48 t50 3
              refine StepOK.plain (kn_stable _) rfl fun ρ w hρ hw hf => ?_
              have h48 : ρ (.tmp 48) = (.int .i64 (t.length : Nat)) := (hf 48).1 rfl
              have h50 : ρ (.tmp 50) = (.int .i64 s) := (hf 50).1 rfl
              have hD := HDE.out
              exact Exec.same (v := .bool D) rfl (by simp [go_sem, hρ.const, h48, h50, hD]) rfl
          case fin =>
            intro ν w9 hfin hx9
            have e0 : ν 51 = .bool D := hfin 7 51 rfl
            simp only [Exit.then, ended, List.foldl_cons, List.foldl_nil, List.setIfInBounds_toArray, List.set_cons_succ, List.set_cons_zero, e0]
            have HX9 := Lib.hid (HX3.out.trans hx9)
            clear hfin hx9 e0 q0 q1 hidx
            cases D with
            | true =>
              have HE16 : Hid (fillE l hs ts = 16) := Lib.hid (by unfold fillE; rw [if_neg (by rw [HA.out, HB.out]; simp), if_neg (by rw [HAN.out]; decide), if_pos (HBT.out rfl)])
              clear HBT HBF
              go_wp2
              refine bodyPost_ret (results_tmp2 rfl _ _ _) rfl ?_
              refine ⟨_, by rw [HE16.out]; rfl, HX9.out, ?_⟩
              unfold fillR
              rw [HE16.out, if_neg (by decide)]
              exact OwnPr.nil _ _
            | false =>
              have HF := Lib.hid (HBF.out rfl)
              clear HBT HBF
              go_wp2
              go_roundw
              case rel => exact ⟨k + 1, HLT.out, by simp, HX9, HF⟩
              case measure => simp [intOf]; have := HLT.out; omega
        · obtain rfl : n = k := by omega
          have HZL : Hid ((hs.zip ts).length = n) := Lib.hid (by rw [List.length_zip, HA.out, HB.out]; simp)
          have HBN : Hid ((hs.zip ts).any badS = false) := Lib.hid (by have := HAny.out; rwa [← HZL.out, List.take_length] at this)
          have HE0 : Hid (fillE l hs ts = 0) := Lib.hid (by unfold fillE; rw [if_neg (by rw [HA.out, HB.out]; simp), if_neg (by rw [HAN.out]; decide), if_neg (by rw [HBN.out]; decide)])
          have HCL := Lib.hid (clonePr_any (.slice vo l.length vcap) l wr (PcS.ext (by rw [HC.out]; exact HV.out) HXr.out) (by have := HLL.out; have := HC.out; omega))
          rw [HC.out] at HCL
          clear HAny hlt
          go_wp2_with fail
          refine HCL.out.mono ?_
          rintro e w4 ⟨y, rfl, hx4, ho4⟩
          have HX4 := Lib.hid (HXr.out.trans hx4)
          have HO4 : Hid (OwnPr w.heap.size w4 y l) := Lib.hid (ownPr_mono ho4 HXr.out.size)
          obtain ⟨yo, yc, rfl⟩ := owns_shape ho4
          clear hx4 ho4 HCL
          generalize hlm : (.slice yo l.length yc : Value) = yv at *
          have HYV := Lib.hid hlm; clear hlm
          go_wp2
          go_loopw [57] (fun ix wr3 => ∃ k : Nat, k ≤ n ∧ ix = .int .i64 k ∧ Hid (Ext w wr3) ∧ Hid (OwnPr w.heap.size wr3 yv (fillZ l ((hs.zip ts).take k)))) (fun ix _ => n - (intOf ix).toNat)
          case atStart => exact ⟨0, Nat.zero_le _, rfl, HX4, HO4⟩
          case round =>
            obtain ⟨k, hk, rfl, HXr, HOr⟩ := hrel
            by_cases hlt : k < n
            · have hkh : k < hs.length := by have := HA.out; omega
              have hkt : k < ts.length := by have := HB.out; omega
              have hkz : k < (hs.zip ts).length := by rw [List.length_zip]; omega
              obtain ⟨hb, ho', rfl, q0, q1⟩ := (HH.out.ext HXr.out).at hkh
              obtain ⟨tb, to', rfl, r0⟩ := (HT.out.ext HXr.out).at hkt
              have hidx := run_indexSl wr Try.underlying88 CHH.out CSH.out hb ho' n hcap k hlt
              have HLT := Lib.hid hlt
              have hbc := any_none _ hs k hkh HAN.out
              unfold badC at hbc
              rw [HC.out] at hbc
              have hbc' := of_decide_eq_false hbc
              obtain ⟨j, hj⟩ : ∃ j : Nat, hs[k].c = (j : Int) := ⟨hs[k].c.toNat, by omega⟩
              have hjm : j < m := by omega
              have hzl := fillZ_length ((hs.zip ts).take k) l
              have hzn := fillZ_snoc l ((hs.zip ts).take k) (hs[k], ts[k])
              have hjL : j < (fillZ l ((hs.zip ts).take k)).length := by rw [hzl, HC.out]; exact hjm
              rw [fillOne_at hj hjL] at hzn
              have htk : (hs.zip ts).take (k + 1) = (hs.zip ts).take k ++ [(hs[k], ts[k])] := by rw [List.take_succ_eq_append_getElem hkz, List.getElem_zip]
              rw [← htk] at hzn
              have HZN := Lib.hid hzn
              rw [hj] at q0
              generalize hs[k].s = s at *
              generalize ts[k] = t at *
              clear htk hzn hj hbc hbc' hkh hkt hkz
              generalize hLP : fillZ l ((hs.zip ts).take (k + 1)) = L' at *
              have HLP := Lib.hid hLP; clear hLP
              generalize fillZ l ((hs.zip ts).take k) = L at *
              obtain ⟨og, ocap, hye, hbg0, -, -⟩ := own_setPrD 4 (by decide) ⟨L[j].k, { L[j].v with t := t }⟩ HOr.out hjL rfl
              rw [hzl, HC.out] at hye
              subst hye
              obtain ⟨w3', hw3⟩ : ∃ w3', w3' = wr.alloc (.cells #[.int .i64 (j : Nat), .int .i64 s] 93) := ⟨_, rfl⟩
              have hx3 : Ext wr w3' := by rw [hw3]; exact (Ch.refl _ _).alloc _
              have RC : Hid (w3'.cell? ⟨wr.heap.size, 0, none⟩ = some (.int .i64 (j : Nat))) := Lib.hid (by rw [hw3, cell_of_row _ _ _ _ _ _ (heap_alloc_new wr _)]; rfl)
              have RT : Hid (w3'.cell? ⟨tb, to' + k, none⟩ = some (strV t)) := Lib.hid (hx3.cell (p := ⟨tb, to' + k, none⟩) (fun f => f) _ r0)
              have HXB := Lib.hid (HXr.out.trans hx3); have HW3 := Lib.hid hw3; have HJL := Lib.hid hjm
              have HST : Hid (∀ w'', Ext w3' w'' → ∃ g cap, (.slice (some ⟨og, 0, none⟩) m ocap : Value) = .slice (some ⟨g, 0, none⟩) m cap ∧ w.heap.size ≤ g ∧ OwnPr w.heap.size (w''.setCell ⟨g, j * 5 + 4, none⟩ (strV t)) (.slice (some ⟨og, 0, none⟩) m ocap) L' ∧ w''.there g (j * 5 + 4) 1) := Lib.hid (fun w' hw' => by
                obtain ⟨g, cap, e1, e2, e3, e4⟩ := own_setPrD 4 (by decide) ⟨L[j].k, { L[j].v with t := t }⟩ (HOr.out.ext (hx3.trans hw')) hjL rfl
                rw [hzl, HC.out] at e1
                rw [← HZN.out] at e3
                exact ⟨g, cap, e1, e2, e3, e4⟩)
              clear HZN hx3 hw3 r0 hlt hjm hjL hzl hbg0 HOr
              go_wp2
              rw [← HW3.out]
              refine wp_region_last (fi19T og m ocap wr.heap.size j tb to' n tcap k t) 10 (fun w' => Ext w w' ∧ OwnPr w.heap.size w' (.slice (some ⟨og, 0, none⟩) m ocap) L') mixedR (by rfl) (by rfl) (by decide) ?all ?fin
              case all =>
                refine ⟨?_, ?_, ?_, ?_, ?_, ?_, ?_, ?_, ?_, ?_, ?_, trivial⟩
                · -- 0: slot 62 := Op.move t12
                  refine StepOK.early (fi19T_pure _ _ _ _ _ _ _ _ _ _ _) (by rfl) (by decide) rfl fun ρ w hρ hw hf => ?_
                  have h12 : ρ (.tmp 12) = (.slice (some ⟨og, 0, none⟩) m ocap) := (hf 12).2 rfl rfl
                  exact Exec.kmove rfl rfl h12
                · -- 1: slot 63 := Op.fieldAddr 93 t14 0
                  refine StepOK.early (fi19T_pure _ _ _ _ _ _ _ _ _ _ _) (by rfl) (by decide) rfl fun ρ w hρ hw hf => ?_
                  have h14 : ρ (.tmp 14) = (.pointer (some ⟨wr.heap.size, 0, none⟩)) := (hf 14).2 rfl rfl
                  exact Exec.kfield rfl rfl h14 (fieldHo0 w _) rfl
                · -- 2: slot 64 := Op.load 3 t63
                  refine StepOK.early (fi19T_pure _ _ _ _ _ _ _ _ _ _ _) (by rfl) (by decide) rfl fun ρ w hρ hw hf => ?_
                  have h63 : ρ (.tmp 63) = (.pointer (some ⟨wr.heap.size, 0, none⟩)) := (hf 63).1 rfl
                  have hc := hw.cell (p := ⟨wr.heap.size, 0, none⟩) (fun f => f) _ RC.out
                  exact Exec.same (v := .int .i64 (j : Nat)) rfl (by simp [go_sem, hρ.const, h63, hc]) rfl
                · -- 3: slot 65 := Op.move t2
                  refine StepOK.early (fi19T_pure _ _ _ _ _ _ _ _ _ _ _) (by rfl) (by decide) rfl fun ρ w hρ hw hf => ?_
                  have h2 : ρ (.tmp 2) = (.slice (some ⟨tb, to', none⟩) n tcap) := (hf 2).2 rfl rfl
                  exact Exec.kmove rfl rfl h2
                · -- 4: slot 66 := Op.move t13
                  refine StepOK.early (fi19T_pure _ _ _ _ _ _ _ _ _ _ _) (by rfl) (by decide) rfl fun ρ w hρ hw hf => ?_
                  have h13 : ρ (.tmp 13) = (.int .i64 (k : Nat)) := (hf 13).2 rfl rfl
                  exact Exec.kmove rfl rfl h13
                · -- 5: slot 67 := Op.indexAddr 82 t65 t66
                  refine StepOK.early (fi19T_pure _ _ _ _ _ _ _ _ _ _ _) (by rfl) (by decide) rfl fun ρ w hρ hw hf => ?_
                  have h65 : ρ (.tmp 65) = (.slice (some ⟨tb, to', none⟩) n tcap) := (hf 65).1 rfl
                  have h66 : ρ (.tmp 66) = (.int .i64 (k : Nat)) := (hf 66).1 rfl
                  exact Exec.kindex rfl rfl Try.underlying82 CHT.out CST.out h65 h66 HLT.out rfl
                · -- 6: slot 68 := Op.load 9 t67
                  refine StepOK.early (fi19T_pure _ _ _ _ _ _ _ _ _ _ _) (by rfl) (by decide) rfl fun ρ w hρ hw hf => ?_
                  have h67 : ρ (.tmp 67) = (.pointer (some ⟨tb, to' + k * 1, none⟩)) := (hf 67).1 rfl
                  have hc := hw.cell (p := ⟨tb, to' + k, none⟩) (fun f => f) _ RT.out
                  exact Exec.same (v := strV t) rfl (by simp [go_sem, hρ.const, h67, hc]) rfl
                · -- 7: slot 69 := Op.indexAddr 74 t62 t64
                  refine StepOK.early (fi19T_pure _ _ _ _ _ _ _ _ _ _ _) (by rfl) (by decide) rfl fun ρ w hρ hw hf => ?_
                  have h62 : ρ (.tmp 62) = (.slice (some ⟨og, 0, none⟩) m ocap) := (hf 62).1 rfl
                  have h64 : ρ (.tmp 64) = (.int .i64 (j : Nat)) := (hf 64).1 rfl
                  exact Exec.kindex rfl rfl Try.underlying74 CHR.out CSR.out h62 h64 HJL.out rfl
                · -- 8: slot 70 := Op.fieldAddr 129 t69 1
                  refine StepOK.early (fi19T_pure _ _ _ _ _ _ _ _ _ _ _) (by rfl) (by decide) rfl fun ρ w hρ hw hf => ?_
                  have h69 : ρ (.tmp 69) = (.pointer (some ⟨og, 0 + j * 5, none⟩)) := (hf 69).1 rfl
                  exact Exec.kfield rfl rfl h69 (fieldP1 w _ _) rfl
                · -- 9: slot 71 := Op.fieldAddr 127 t70 3
                  refine StepOK.early (fi19T_pure _ _ _ _ _ _ _ _ _ _ _) (by rfl) (by decide) rfl fun ρ w hρ hw hf => ?_
                  have h70 : ρ (.tmp 70) = (.pointer (some ⟨og, 0 + j * 5 + 1, none⟩)) := (hf 70).1 rfl
                  exact Exec.kfield rfl rfl h70 (fieldV3 w _ _) rfl
                · -- 10: the store
                  refine StepOK.last (fi19T_pure _ _ _ _ _ _ _ _ _ _ _) rfl fun ρ w hρ hw hf => ?_
                  have h71 : ρ (.tmp 71) = (.pointer (some ⟨og, 0 + j * 5 + 1 + 3, none⟩)) := (hf 71).1 rfl
                  have h68 : ρ (.tmp 68) = (strV t) := (hf 68).1 rfl
                  obtain ⟨g', cp', e', hbg, hos, hth⟩ := HST.out w hw
                  simp only [Value.slice.injEq, Option.some.injEq, Addr.mk.injEq] at e'
                  obtain ⟨⟨rfl, -⟩, -, -⟩ := e'
                  have hcf := hth 0 (by decide)
                  rw [Nat.add_zero] at hcf
                  obtain ⟨cv, hc⟩ := Option.isSome_iff_exists.1 hcf.1
                  have hfr := hcf.2
                  rw [show 0 + j * 5 + 1 + 3 = j * 5 + 4 by omega] at h71
                  refine Exec.skip (w' := w.setCell ⟨og, j * 5 + 4, none⟩ (strV t)) (by simp [go_sem, h71, h68, hc, hfr, strV]) ⟨(fun d h => by cases h), ?_, ?_⟩
                  · exact (HXB.out.trans hw).setCell (.inr hbg) _
                  · exact hos
              case fin =>
                intro ν w9 _ hfin
                have HX9 := Lib.hid hfin.1; have HO9 := Lib.hid hfin.2
                clear hfin q0 q1 hidx
                simp only [Exit.then, ended, List.foldl_cons, List.foldl_nil, List.setIfInBounds_toArray, List.set_cons_succ, List.set_cons_zero]
                go_wp2
                go_roundw
                case rel => exact ⟨k + 1, HLT.out, by simp, HX9, by rw [HLP.out]; exact HO9⟩
                case measure => simp [intOf]; have := HLT.out; omega
            · obtain rfl : n = k := by omega
              have HF : Hid (OwnPr w.heap.size wr yv (fillZ l (hs.zip ts))) := Lib.hid (by have := HOr.out; rwa [← HZL.out, List.take_length] at this)
              clear HOr hlt
              go_wp2
              refine bodyPost_ret (results_tmp2 rfl _ _ _) rfl ?_
              refine ⟨_, by rw [HE0.out]; rfl, HXr.out, ?_⟩
              unfold fillR
              rw [HE0.out, if_pos rfl]
              exact HF.out
end Go.Proofs.Ytegclfpmgilnpaa
