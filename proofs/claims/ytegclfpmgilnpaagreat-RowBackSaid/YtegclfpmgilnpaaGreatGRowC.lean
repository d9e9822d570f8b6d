import Derived.Test.YtegclfpmgilnpaaGreatGRowB
import Derived.Test.YtegclfpmgilnpaaGreatBitD
import Derived.Test.YtegclfpmgilnpaaGreatCelQ
import Derived.Test.YtegclfpmgilnpaaGreatCelS
import Derived.Test.YtegclfpmgilnpaaGreatBitE
import Derived.Test.YtegclfpmgilnpaaGreatRelV
namespace Go.Proofs.YtegclfpmgilnpaaGreat
open Go.RowKit Go.Lac
def szN (n : Nat) : Nat := if n ≤ 16 then sizeN n else 0
theorem szN_le (n : Nat) : szN n ≤ 2 := by unfold szN; split; exact sizeN_le (by assumption); omega
theorem sizeI_nat (n : Nat) : sizeI (n : Int) = ((szN n : Nat) : Int) := by
  unfold sizeI szN
  by_cases h : n ≤ 16
  · rw [if_pos (by omega), if_pos h, Int.toNat_natCast]
  · rw [if_neg (by omega), if_neg h]; rfl
def nulS (n : Nat) (s : RS) : RS := failR (readN (szN n) s).2 (unpC (readN (szN n) s).1 (n : Int))
def nulL (n : Nat) (s : RS) : List Bool := if (nulS n s).2 ≠ 0 then [] else unpL (readN (szN n) s).1 (n : Int)
def NulRel (r n : Nat) (s : RS) (w : World) (ix : Value) (wr : World) : Prop :=
  ∃ j : Nat, j ≤ n ∧ ix = .int .i64 (j : Nat) ∧ Only r w wr ∧ IsR wr r (readN j s).2 ∧ wr.heap[w.heap.size]? = some (.cells (cellsB (fillN n j s)).toArray 5 (0, 0))
def NulPost (r n : Nat) (s : RS) (w : World) (e : Ending) (w' : World) : Prop := ∃ v, e = .returned v ∧ Only r w w' ∧ IsR w' r (nulS n s) ∧ RdBools w' v (nulL n s)
theorem rdBools_only {r : Nat} {s : RS} {w w' : World} {v : Value} {l : List Bool} (hb : RdBools w v l) (hr : IsR w r s) (k : Only r w w') : RdBools w' v l := by
  obtain ⟨ao, cap, g1, g2, g3, g4, g5⟩ := hb
  refine ⟨ao, cap, g1, g2, g3, g4, fun x hx j c hc => ?_⟩
  obtain ⟨b, off, rfl, g6⟩ := g5 x hx j c hc
  refine ⟨b, off, rfl, k.cell (p := ⟨b, off + j, none⟩) ?_ c g6⟩
  obtain ⟨x', _, rfl⟩ : ∃ x', x' ∈ l ∧ Value.bool x' = c := by simpa [boolsV] using List.mem_of_getElem? hc
  intro hbr
  simp only at hbr
  subst hbr
  obtain ⟨lv, h1, h2, h3⟩ := hr
  obtain ⟨ao', cap', rfl⟩ := h2.1.shape
  rw [cell_of_row _ _ _ _ _ _ h1] at g6
  match hq : off + j, g6 with
  | 0, g6 => cases g6
  | 1, g6 => cases g6
  | n + 2, g6 => simp at g6
set_option maxRecDepth 20000 in
set_option maxHeartbeats 2000000 in
theorem takeNulls_any (r : Nat) (s : RS) (n : Nat) (w : World) (h : IsR w r s) (hn : n ≤ 9223372036854775807) :
    Calls Tryz.prog 29 #[RPtr r, .int .i64 (n : Nat)] w (NulPost r n s w) := by
  obtain ⟨i, hi, hz, hsz, hby⟩ := info_parts infoU8
  obtain ⟨m, hm⟩ : ∃ m, m = szN n := ⟨_, rfl⟩
  have hm2 : m ≤ 2 := by rw [hm]; exact szN_le n
  have hmk : ∀ w, (Instr.makeSlice 22 (.int .i64 (m : Nat)) (.int .i64 (m : Nat))).run Tryz.prog w = .ok (.slice (some ⟨w.heap.size, 0, none⟩) m m) (w.alloc (.cells (cellsB (List.replicate m 0)).toArray 5)) := fun w => by
    rw [← made_zeros]
    exact run_make_row 22 5 i _ Tryz.underlying22 hi hz hsz rfl .i64 .i64 m (by rw [hby]; omega) (by omega) w
  have hlt := h.lt
  have HI := Lib.hid hi; have HSZ := Lib.hid hsz
  have HLT := Lib.hid hlt
  have HSF : Hid (∀ w, Calls Tryz.prog 51 #[.int .i64 (n : Nat)] w fun e w' => e = .returned (.int .i64 (m : Nat)) ∧ w = w') := Lib.hid fun w => by
    have := size_any (n : Int) w
    rwa [sizeI_nat, ← hm] at this
  have hS : NulRel r m s w (.int .i64 0) (w.alloc (.cells (cellsB (List.replicate m 0)).toArray 5)) :=
    ⟨0, Nat.zero_le _, rfl, ((Ch.refl _ _).alloc _), h.ext ((Ch.refl _ _).alloc _), by rw [fillN_zero]; exact heap_alloc_new w _⟩
  have HS := Lib.hid hS
  have HN := Lib.hid hn; have HM := Lib.hid hm2
  have HMM := Lib.hid hm
  clear h hi hz hsz hby hlt hS hm
  unfold RPtr at *
  go_enter Tryz.func29, Tryz.ntmps29
  go_wp2_with (go_at_call 51; refine (HSF.out _).mono ?_; rintro e w' ⟨rfl, rfl⟩)
  go_loopw [6, 14] (fun _ ix wr => NulRel r m s w ix wr) (fun _ ix _ => m - (intOf ix).toNat)
  case atStart => exact HS.out
  case round =>
    obtain ⟨j, hj, rfl, hx, hr, hg⟩ := hrel
    have HX := Lib.hid hx; have HR := Lib.hid hr; have HG := Lib.hid hg
    clear hx hr hg hmk
    by_cases hlt : j < m
    · have hlen := fillN_length s hj
      have hb := byteR_lt (readN j s).2
      have HBY := Lib.hid (byte_any r _ wr HR.out)
      have HNX : Hid (readN (j + 1) s = (fillN m j s ++ [], (byteR (readN j s).2).2) ∨ (readN (j + 1) s).2 = (byteR (readN j s).2).2) := Lib.hid (.inr rfl)
      have HSET := Lib.hid (fillN_set s hlt)
      generalize (byteR (readN j s).2).1 = x at *
      have HB := Lib.hid hb; have HLEN := Lib.hid hlen
      have HJN := Lib.hid hlt
      clear hb hlen
      unfold RPtr at *
      go_wp2_with (go_at_call 52; refine HBY.out.mono ?_)
      rintro e w1 ⟨rfl, k1, k2⟩
      have HX1 := Lib.hid (HX.out.trans k1); have H1 := Lib.hid k2
      have HG1 : Hid (w1.heap[w.heap.size]? = some (.cells (cellsB (fillN m j s)).toArray 5 (0, 0))) := Lib.hid (heap_of_only k1 (by have := HLT.out; omega) HG.out)
      have hjl : j < (fillN m j s).length := by rw [HLEN.out]; exact hlt
      have hc0 : w1.cell? ⟨w.heap.size, j, none⟩ = some (cellB (fillN m j s)[j]) := by rw [cell_of_row _ _ _ _ _ _ HG1.out]; simp [cellsB, hjl]
      have hf0 := frozen_of_row w1 w.heap.size j _ _ HG1.out
      have hi0 : (Instr.indexAt 22 (.slice (some ⟨w.heap.size, 0, none⟩) m m) (.int .i64 (j : Nat))).run Tryz.prog w1 = .ok (.pointer (some ⟨w.heap.size, j, none⟩)) w1 := by
        have := run_indexSl w1 Tryz.underlying22 HI.out HSZ.out w.heap.size 0 m m j hlt
        rwa [Nat.mul_one, Nat.zero_add] at this
      have hst : (store ⟨w.heap.size, j, none⟩ (.int .u8 (x : Nat))).run Tryz.prog w1 = .ok () (w1.setCell ⟨w.heap.size, j, none⟩ (.int .u8 (x : Nat))) := by
        rw [run_store Tryz.prog w1 _ _ _ rfl, hc0]; simp [hf0]
      obtain ⟨ov, hov⟩ : ∃ ov, w1.cell? ⟨w.heap.size, j, none⟩ = some ov := ⟨_, hc0⟩
      have hJ : NulRel r m s w (.int .i64 ((j + 1 : Nat) : Int)) (w1.setCell ⟨w.heap.size, j, none⟩ (.int .u8 (x : Nat))) := by
        refine ⟨j + 1, hlt, rfl, HX1.out.setCell (.inr (by show w.heap.size ≤ w.heap.size; omega)) _, ?_, ?_⟩
        · exact H1.out.above (Ch.setCell (p := ⟨w.heap.size, j, none⟩) (Ch.refl _ _) (.inl (by have := HLT.out; show r < w.heap.size; omega)) _)
        · rw [heap_setCell_same w1 w.heap.size j _ _ _ HG1.out, cellsB_set HB.out, HSET.out]
      have HJ := Lib.hid hJ
      clear hJ hc0 hst k1 k2 hjl
      go_wp2
      exact ⟨HJ.out, meas7 m j HJN.out⟩
    · have hjn : j = m := by omega
      subst hjn
      have hbs : (readN j s).1.length = j := readN_length j s
      rw [fillN_all] at HG
      have hrd : Rd wr (.slice (some ⟨w.heap.size, 0, none⟩) j j) (readN j s).1 := rd_of_heap HG.out hbs (by have := HM.out; unfold maxLen; omega)
      have HUP := Lib.hid (unpack_any (.slice (some ⟨w.heap.size, 0, none⟩) j j) (readN j s).1 (n : Int) wr hrd (by omega))
      have HSS : Hid (nulS n s = failR (readN j s).2 (unpC (readN j s).1 (n : Int))) := Lib.hid (by unfold nulS; rw [← HMM.out])
      have HLL : Hid (nulL n s = if (nulS n s).2 ≠ 0 then [] else unpL (readN j s).1 (n : Int)) := Lib.hid (by unfold nulL; rw [← HMM.out])
      clear hrd hbs hlt hj
      go_wp2_with fail
      refine HUP.out.mono ?_
      rintro e w2 ⟨v, rfl, hx2, hb⟩
      have HX2 := Lib.hid (HX.out.trans hx2.ch); have H2 := Lib.hid (HR.out.ext hx2); have HB := Lib.hid hb
      obtain ⟨bo, bc, rfl⟩ := hb.shape
      generalize unpC (readN j s).1 (n : Int) = C at *
      have HF := Lib.hid (fail_any r (readN j s).2 C w2 H2.out)
      clear hx2 hb HUP
      unfold RPtr at *
      go_wp2_with fail
      refine HF.out.mono ?_
      rintro e w3 ⟨rfl, k1, k2⟩
      have HX3 := Lib.hid (HX2.out.trans k1); rw [← HSS.out] at k2
      have H3 := Lib.hid k2
      have HBB : Hid (RdBools w3 (.slice bo (unpL (readN j s).1 (n : Int)).length bc) (unpL (readN j s).1 (n : Int))) := Lib.hid (rdBools_only HB.out H2.out k1)
      have HE := Lib.hid (err_any r (nulS n s) w3 k2)
      clear k1 k2 HF HSS
      unfold RPtr at HE
      go_wp2_with fail
      refine HE.out.mono ?_
      rintro e w4 ⟨rfl, rfl⟩
      by_cases he : (nulS n s).2 = 0
      · have e0 : ((nulS n s).2 != 0) = false := by simp [he]
        rw [if_neg (fun hn => hn he)] at HLL
        clear he
        generalize (nulS n s).2 = E at *
        generalize (unpL (readN j s).1 (n : Int)).length = bl at *
        go_wp2
        go_ret
        exact ⟨_, rfl, HX3.out, H3.out, by rw [HLL.out]; exact HBB.out⟩
      · have e0 : ((nulS n s).2 != 0) = true := by simpa using he
        rw [if_pos he] at HLL
        clear he
        generalize (nulS n s).2 = E at *
        generalize (unpL (readN j s).1 (n : Int)).length = bl at *
        go_wp2
        go_ret
        exact ⟨_, rfl, HX3.out, H3.out, by rw [HLL.out]; exact rdBools_nil _⟩
end Go.Proofs.YtegclfpmgilnpaaGreat
namespace Go.Proofs.YtegclfpmgilnpaaGreat
open Go.RowKit Go.Lac
theorem rowTake_nul {ver : Nat} {r : Rl} {s : RS} (hp : (rowPre ver r s).2 ≠ 0 → (rowPre ver r s).1 = []) : rowTake ver r s =
    if (nulS r.cols.length (rowPre ver r s)).2 ≠ 0 then (([], []), nulS r.cols.length (rowPre ver r s))
    else if (rowAt ver (nulL r.cols.length (rowPre ver r s)) r.cols (nulS r.cols.length (rowPre ver r s)) r.cols.length).2.2 ≠ 0
      then (([], []), (rowAt ver (nulL r.cols.length (rowPre ver r s)) r.cols (nulS r.cols.length (rowPre ver r s)) r.cols.length).2)
      else rowAt ver (nulL r.cols.length (rowPre ver r s)) r.cols (nulS r.cols.length (rowPre ver r s)) r.cols.length := by
  unfold rowTake
  by_cases h0 : (rowPre ver r s).2 ≠ 0
  · have he := hp h0
    generalize hq : rowPre ver r s = s0 at *
    obtain ⟨l, e⟩ := s0
    simp only at h0 he
    subst he
    have hn : nulS r.cols.length ([], e) = ([], e) := by
      unfold nulS
      rw [readN_gone h0]
      exact failR_gone h0 _
    rw [if_pos (show ((([] : List UInt8), e) : RS).2 ≠ 0 from h0), hn, if_pos (show ((([] : List UInt8), e) : RS).2 ≠ 0 from h0)]
  · rw [if_neg h0]
    obtain ⟨hv, hr, hs⟩ := rowPre_inv (Decidable.not_not.1 h0)
    have h16 := (rlErr_zero hr).2.2.2.2.2.1
    have hsz : szN r.cols.length = sizeN r.cols.length := by unfold szN; rw [if_pos h16]
    obtain ⟨r1, r2⟩ := readN_state (n := sizeN r.cols.length) hp
    have hfz : ∀ (t : RS) (c : Int), t.2 ≠ 0 → failR t c = t := fun t c h => by unfold failR; rw [if_pos (.inl h)]
    by_cases h1 : (takeR (sizeN r.cols.length) (rowPre ver r s)).2.2 ≠ 0
    · have hn : nulS r.cols.length (rowPre ver r s) = (takeR (sizeN r.cols.length) (rowPre ver r s)).2 := by
        unfold nulS
        rw [hsz, r1]
        exact hfz _ _ h1
      rw [if_pos h1, hn, if_pos h1]
    · rw [if_neg h1]
      have e1 := r2 (by rw [r1]; exact Decidable.not_not.1 h1)
      have hn : nulS r.cols.length (rowPre ver r s) = failR (takeR (sizeN r.cols.length) (rowPre ver r s)).2 (unpC (takeR (sizeN r.cols.length) (rowPre ver r s)).1 r.cols.length) := by
        unfold nulS
        rw [hsz, r1, e1]
      by_cases h2 : unpC (takeR (sizeN r.cols.length) (rowPre ver r s)).1 r.cols.length ≠ 0
      · have h3 : (nulS r.cols.length (rowPre ver r s)).2 ≠ 0 := by
          rw [hn]
          intro hc
          exact h2 (failR_inv hc).2.1
        rw [if_pos h2, if_pos h3, hn]
      · have hc : unpC (takeR (sizeN r.cols.length) (rowPre ver r s)).1 r.cols.length = 0 := Decidable.not_not.1 h2
        have hn2 : nulS r.cols.length (rowPre ver r s) = (takeR (sizeN r.cols.length) (rowPre ver r s)).2 := by rw [hn, hc]; exact failR_zero _
        have hl : nulL r.cols.length (rowPre ver r s) = unpL (takeR (sizeN r.cols.length) (rowPre ver r s)).1 r.cols.length := by
          unfold nulL
          rw [hn2, if_neg h1, hsz, e1]
        rw [if_neg h2, hn2, if_neg h1, hl]
theorem nulL_length {n : Nat} {s : RS} (h : (nulS n s).2 = 0) : (nulL n s).length = n := by
  unfold nulL
  rw [if_neg (fun hn => hn h)]
  have hc : unpC (readN (szN n) s).1 (n : Int) = 0 := (failR_inv h).2.1
  unfold unpL
  rw [if_pos hc, bitsL_length, Int.toNat_natCast]
theorem nulL_err {n : Nat} {s : RS} (h : (nulS n s).2 ≠ 0) : nulL n s = [] := by unfold nulL; rw [if_pos h]
theorem colS_only {u : Nat} {s : RS} {w w' : World} {v : Value} {l : List Col} (hb : ColS w v l) (hr : IsR w u s) (k : Only u w w') : ColS w' v l := by
  obtain ⟨ao, cap, g1, g2, g3, g4, g5⟩ := hb
  refine ⟨ao, cap, g1, g2, g3, g4, fun x hx j c hc => ?_⟩
  obtain ⟨b, off, rfl, g6⟩ := g5 x hx j c hc
  refine ⟨b, off, rfl, k.cell (p := ⟨b, off + j, none⟩) ?_ c g6⟩
  intro hbr
  simp only at hbr
  subst hbr
  obtain ⟨lv, h1, h2, h3⟩ := hr
  obtain ⟨ao', cap', rfl⟩ := h2.1.shape
  have hm : c ∈ colC l := List.mem_of_getElem? hc
  unfold colC at hm
  obtain ⟨q, _, hq⟩ := List.mem_flatMap.1 hm
  rw [cell_of_row _ _ _ _ _ _ h1] at g6
  match hq' : off + j, g6 with
  | 0, g6 => cases g6; simp [colv, strV] at hq
  | 1, g6 => cases g6; simp [colv, strV] at hq
  | n + 2, g6 => simp at g6
def OwnHt (base : Nat) (w : World) (v : Value) (l : List Ho) : Prop := w.ownsRow base 70 2 v l.length (HoC l)
theorem cell_two_newT (w : World) (x y : Value) (t : TypeId) : ∀ j u, [x, y][j]? = some u → (w.alloc (.cells #[x, y] t)).cell? ((⟨w.heap.size, 0, none⟩ : Addr).add j) = some u := by
  intro j u hj
  match j, hj with
  | 0, hj => simp at hj; subst hj; simp [Addr.add]
  | 1, hj => simp at hj; subst hj; simp [Addr.add]
  | (j + 2), hj => simp at hj
theorem oneHt (w : World) (c s : Int) : (Instr.buildSlice 37 1 #[(0, .agg #[.int .i64 c, .int .i64 s])]).run Tryz.prog w = .ok (.slice (some ⟨w.heap.size, 0, none⟩) 1 1) (w.alloc (.cells #[.int .i64 c, .int .i64 s] 70)) := by kernel_rfl
theorem bldHt (w : World) (c s : Int) : (Instr.build 70 #[(0, .int .i64 c), (1, .int .i64 s)]).run Tryz.prog w = .ok (.agg #[.int .i64 c, .int .i64 s]) w := by kernel_rfl
structure TkI (u : Nat) (s : RS) (w0 w : World) (va vb : Value) (C : List Cel) (H : List Ho) : Prop where
  lt : u < w0.heap.size
  ch : Only u w0 w
  rd : IsR w u s
  a : OwnPr w0.heap.size w va C
  b : OwnHt w0.heap.size w vb H
theorem TkI.only {u : Nat} {s s' : RS} {w0 w w' : World} {va vb : Value} {C : List Cel} {H : List Ho} (h : TkI u s w0 w va vb C H) (k : Only u w w') (hr : IsR w' u s') : TkI u s' w0 w' va vb C H where
  lt := h.lt
  ch := h.ch.trans k
  rd := hr
  a := own_chK h.a k fun j hj e => by have := (World.ownsRow.lt h.a j hj).1; have := h.lt; omega
  b := own_chK h.b k fun j hj e => by have := (World.ownsRow.lt h.b j hj).1; have := h.lt; omega
theorem TkI.ext {u : Nat} {s : RS} {w0 w w' : World} {va vb : Value} {C : List Cel} {H : List Ho} (h : TkI u s w0 w va vb C H) (k : Ext w w') : TkI u s w0 w' va vb C H := h.only (Ext.ch k) (h.rd.ext k)
theorem wpList_tkA {ops : Array Oper} {rest : List Oper} {o : Oper} {a : Act} {Q : Exit → Act → World → Prop} (hgd : o.guard = none) (s x : Operand)
    (ho : o.op = .call { callee := .builtin .append, args := #[s, x], argTypes := #[36, 36] }) {u : Nat} {st : RS} {w0 w : World} {va vb : Value} {C : List Cel} {H : List Ho} {c : Cel} {cs : Array Value} (hcs : cs = pcv c)
    (hI : TkI u st w0 w va vb C H) (hs : a.eval s = va) {g0 : Nat} (hx : a.eval x = .slice (some ⟨g0, 0, none⟩) 1 1) (hg0 : w.heap.size = g0) (hl : C.length ≤ 200000000)
    (h : ∀ g cap w', TkI u st w0 w' (.slice (some ⟨g, 0, none⟩) (C.length + 1) cap) vb (C ++ [c]) H → wpList Tryz.prog ops Q rest (a.put o.dst (.slice (some ⟨g, 0, none⟩) (C.length + 1) cap)) w') :
    wpList Tryz.prog ops Q (o :: rest) a (w.alloc (.cells cs 90)) := by
  subst hcs; subst hg0
  obtain ⟨ci, chi, chz, chs, chb⟩ := info_parts infoPrZ
  have hown2 : (w.alloc (.cells (pcv c) 90)).ownsRow w0.heap.size 90 5 va C.length (PcC C) := World.ownsRow.alloc hI.a _
  have hb2 : (w.alloc (.cells (pcv c) 90)).ownsRow w0.heap.size 70 2 vb H.length (HoC H) := World.ownsRow.alloc hI.b _
  refine wpList_append_own_at _ hgd s x 36 ho w0.heap.size 90 ci (.agg #[.int .u8 0, .int .u8 0, .int .i64 0, .complex .f64 0 0, .string ⟨#[]⟩]) 5 56 Tryz.underlying36 chi chz chs chb rfl (by decide) va _ _ hs hown2 ⟨w.heap.size, 0, none⟩ 1 1 (pcv c).toList hx rfl ?_ ?_ (by unfold maxLen; omega) (by omega) (by have := hI.ch.size; simp; omega) ?_
  · intro j u hu
    rw [Addr.add_lit, Nat.zero_add, cell_of_row _ _ _ _ _ _ (heap_alloc_new w (.cells (pcv c) 90))]
    simpa using hu
  · intro u hu
    exact PcC_one [c] u (by simpa [PcC] using hu)
  intro v2 w3 hown' hgrow _ _
  obtain ⟨g2, cap2, rfl⟩ := ownsRow_succ hown'
  refine h g2 cap2 w3 ⟨hI.lt, (hI.ch.alloc _).grown hgrow fun k hk => .inr (hown2.lt k hk).1, (hI.rd.ext ((Ch.refl _ _).alloc _)).above ((Ch.refl _ _).grown hgrow fun k hk => .inl (by have := (hown2.lt k hk).1; have := hI.lt; omega)), ?_, World.ownsRow.kept hb2 hgrow (own_apart (by decide) hown2 hb2)⟩
  unfold OwnPr
  rw [List.length_append, PcC_append]
  simpa [PcC] using hown'
theorem wpList_tkB {ops : Array Oper} {rest : List Oper} {o : Oper} {a : Act} {Q : Exit → Act → World → Prop} (hgd : o.guard = none) (s x : Operand)
    (ho : o.op = .call { callee := .builtin .append, args := #[s, x], argTypes := #[37, 37] }) {u : Nat} {st : RS} {w0 w : World} {va vb : Value} {C : List Cel} {H : List Ho} {c z : Int}
    (hI : TkI u st w0 w va vb C H) (hs : a.eval s = vb) {g0 : Nat} (hx : a.eval x = .slice (some ⟨g0, 0, none⟩) 1 1) (hg0 : w.heap.size = g0) (hl : H.length ≤ 200000000)
    (h : ∀ (g cap : Nat) (w' : World), TkI u st w0 w' va (.slice (some ⟨g, 0, none⟩) (H.length + 1) cap) C (H ++ [⟨c, z⟩]) → (∀ (k : Nat) (cs : Array Value), w.heap[k]? = some (Obj.cells cs 90 (0, 0)) → w'.heap[k]? = some (Obj.cells cs 90 (0, 0))) → wpList Tryz.prog ops Q rest (a.put o.dst (.slice (some ⟨g, 0, none⟩) (H.length + 1) cap)) w') :
    wpList Tryz.prog ops Q (o :: rest) a (w.alloc (.cells #[.int .i64 c, .int .i64 z] 70)) := by
  subst hg0
  obtain ⟨ci, chi, chz, chs, chb⟩ := info_parts infoHoP
  have hown2 : (w.alloc (.cells #[.int .i64 c, .int .i64 z] 70)).ownsRow w0.heap.size 70 2 vb H.length (HoC H) := World.ownsRow.alloc hI.b _
  have ha2 : (w.alloc (.cells #[.int .i64 c, .int .i64 z] 70)).ownsRow w0.heap.size 90 5 va C.length (PcC C) := World.ownsRow.alloc hI.a _
  refine wpList_append_own_at _ hgd s x 37 ho w0.heap.size 70 ci (.agg #[.int .i64 0, .int .i64 0]) 2 16 Tryz.underlying37 chi chz chs chb rfl (by decide) vb _ _ hs hown2 ⟨w.heap.size, 0, none⟩ 1 1 [.int .i64 c, .int .i64 z] hx rfl (cell_two_newT _ _ _ _) (by simp [Value.oneCell']) (by unfold maxLen; omega) (by omega) (by have := hI.ch.size; simp; omega) ?_
  intro v2 w3 hown' hgrow _ _
  obtain ⟨g2, cap2, rfl⟩ := ownsRow_succ hown'
  refine h g2 cap2 w3 ⟨hI.lt, (hI.ch.alloc _).grown hgrow fun k hk => .inr (hown2.lt k hk).1, (hI.rd.ext ((Ch.refl _ _).alloc _)).above ((Ch.refl _ _).grown hgrow fun k hk => .inl (by have := (hown2.lt k hk).1; have := hI.lt; omega)), World.ownsRow.kept ha2 hgrow (own_apart (by decide) hown2 ha2), ?_⟩ ?_
  · unfold OwnHt
    rw [List.length_append, HoC_append]
    exact hown'
  · intro k cs hk
    have hk2 : (w.alloc (.cells #[.int .i64 c, .int .i64 z] 70)).heap[k]? = some (.cells cs 90 (0, 0)) := (heap_alloc_old w _ (Array.getElem?_eq_some_iff.1 hk).1).trans hk
    exact gby_heap hgrow hk2 (fun e => own_ne hown2 hk2 (by decide) _ e rfl)
def RowTkPost (u ver : Nat) (r : Rl) (s : RS) (w : World) (e : Ending) (w' : World) : Prop :=
  ∃ a b, e = .returned (.tuple #[a, b]) ∧ Only u w w' ∧ IsR w' u (rowTake ver r s).2 ∧ OwnPr w.heap.size w' a (rowTake ver r s).1.1 ∧ OwnHt w.heap.size w' b (rowTake ver r s).1.2
set_option maxRecDepth 20000 in
set_option maxHeartbeats 8000000 in
theorem rowTake_gv (r : Rl) (cv : Value) (u : Nat) (s : RS) (ver : Nat) (w : World) (hb : ColS w cv r.cols) (hf : r.fits) (h : IsR w u s) (hver : ver = 1 ∨ ver = 2) :
    Calls Tryz.prog 8 #[RPtr u, .agg (relv r cv), .int .u8 (ver : Nat)] w (RowTkPost u ver r s w) := by
  have h1 := heap_alloc_new w (.cells (relv r cv) 43)
  obtain ⟨W, hW⟩ : ∃ W, W = w.alloc (.cells (relv r cv) 43) := ⟨_, rfl⟩
  have hx : Ext w W := by rw [hW]; exact (Ch.refl _ _).alloc _
  rw [← hW] at h1
  obtain ⟨g4, hg4⟩ : ∃ g4, g4 = w.heap.size := ⟨_, rfl⟩
  rw [← hg4] at h1
  have HG := Lib.hid h1; have HW := Lib.hid hW; have HG4E := Lib.hid hg4
  have HB := Lib.hid (ColS.ext hb hx)
  have HULT : Hid (u < w.heap.size) := Lib.hid h.lt
  have HRT := Lib.hid (relRight_any r cv W HB.out hf)
  have hr0 := h.ext hx
  have HR0 := Lib.hid hr0; have HX0 := Lib.hid hx
  obtain ⟨c0, c1, c2, c3, c4⟩ := row5 h1
  obtain ⟨co, cc, rfl, hcm, hcm2, _⟩ := id hb
  have hl63 : r.cols.length ≤ 9223372036854775807 := by unfold maxLen at hcm2; omega
  rw [hW] at c0 c1 c2 c3 c4
  rw [hg4] at c0 c1 c2 c3 c4
  have HPR : Hid (rowPre ver r s = failR s (rlErr r : Nat)) := Lib.hid (by unfold rowPre; rw [if_pos hver])
  have HIV : Hid (∀ W, Calls Tryz.prog 28 #[.int .u8 (ver : Nat)] W fun e w' => e = .returned (.bool true) ∧ Ext W w') := Lib.hid fun W => by have := rowIsVersion_any ver W; rwa [decide_eq_true hver] at this
  clear h1 hx hW hg4 hb h hcm hcm2 hr0 hver
  unfold relv strV RPtr at *
  go_enter Tryz.func8, Tryz.ntmps8
  go_wp2_with fail
  rw [← HW.out]
  refine HRT.out.mono ?_
  rintro e w1 ⟨rfl, hx1⟩
  have HR1 := Lib.hid (HR0.out.ext hx1); have HX1 := Lib.hid (HX0.out.trans hx1)
  have HG1 := Lib.hid (heap_ext hx1 HG.out); have HB1 := Lib.hid (ColS.ext HB.out hx1)
  have HFL := Lib.hid (fail_any u s (rlErr r : Nat) w1 HR1.out)
  unfold RPtr at HFL
  clear hx1 c0 c1 c2 c3 c4 HRT
  go_wp2_with fail
  refine HFL.out.mono ?_
  rintro e w2 ⟨rfl, k1, k2⟩
  rw [← HPR.out] at k2
  obtain ⟨s0, hs0⟩ : ∃ s0, s0 = rowPre ver r s := ⟨_, rfl⟩
  rw [← hs0] at k2
  have HS0 := Lib.hid hs0
  have HR2 := Lib.hid k2; have HX2 : Hid (Only u w w2) := Lib.hid ((Ext.ch HX1.out).trans k1)
  have HG2 := Lib.hid (heap_of_only k1 (by have := HULT.out; have := HG4E.out; omega) HG1.out); have HB2 := Lib.hid (colS_only HB1.out HR1.out k1)
  have HIV2 := Lib.hid (HIV.out w2)
  clear k1 k2 HFL HIV HPR hs0
  go_wp2_with fail
  refine HIV2.out.mono ?_
  rintro e w3 ⟨rfl, hx3⟩
  have HR3 := Lib.hid (HR2.out.ext hx3); have HX3 : Hid (Only u w w3) := Lib.hid (HX2.out.trans (Ext.ch hx3))
  have HG3 := Lib.hid (heap_ext hx3 HG2.out); have HB3 := Lib.hid (ColS.ext HB2.out hx3)
  have c4 : w3.cell? ⟨w.heap.size, 4, none⟩ = some (.slice co r.cols.length cc) := by rw [← HG4E.out, cell_of_row _ _ _ _ _ _ HG3.out]; rfl
  have HTN := Lib.hid (takeNulls_any u s0 r.cols.length w3 HR3.out hl63)
  unfold RPtr at HTN
  clear hx3 HIV2
  go_wp2_with fail
  refine HTN.out.mono ?_
  rintro e w6 ⟨vn, rfl, k1, k2, hbn⟩
  obtain ⟨s1, hs1⟩ : ∃ s1, s1 = nulS r.cols.length s0 := ⟨_, rfl⟩
  obtain ⟨nl, hnl⟩ : ∃ nl, nl = nulL r.cols.length s0 := ⟨_, rfl⟩
  rw [← hs1] at k2; rw [← hnl] at hbn
  have HS1 := Lib.hid hs1; have HNL := Lib.hid hnl
  have HLEN : Hid (nl.length ≤ r.cols.length ∧ (s1.2 = 0 → nl.length = r.cols.length) ∧ (s1.2 ≠ 0 → nl = [])) := Lib.hid (by
    rw [hs1, hnl]
    by_cases he : (nulS r.cols.length s0).2 = 0
    · have := nulL_length he; exact ⟨by omega, fun _ => this, fun hn => absurd he hn⟩
    · have := nulL_err he; exact ⟨by rw [this]; exact Nat.zero_le _, fun hn => absurd hn he, fun _ => this⟩)
  have HR6 := Lib.hid k2; have HX6 : Hid (Only u w w6) := Lib.hid (HX3.out.trans k1)
  have HG6 := Lib.hid (heap_of_only k1 (by have := HULT.out; have := HG4E.out; omega) HG3.out); have HB6 := Lib.hid (colS_only HB3.out HR3.out k1)
  have HBN := Lib.hid hbn
  obtain ⟨bo, bc, rfl⟩ := hbn.shape
  have HTK : Hid (rowTake ver r s = if s1.2 ≠ 0 then (([], []), s1) else if (rowAt ver nl r.cols s1 r.cols.length).2.2 ≠ 0 then (([], []), (rowAt ver nl r.cols s1 r.cols.length).2) else rowAt ver nl r.cols s1 r.cols.length) := Lib.hid (by
    have := rowTake_nul (ver := ver) (r := r) (s := s) (by rw [← HS0.out]; exact HR2.out.proper)
    rw [← HS0.out, ← hs1, ← hnl] at this
    exact this)
  have hn63 : nl.length ≤ 9223372036854775807 := by have := HLEN.out.1; omega
  have HI6 : Hid (TkI u s1 w6 w6 (.slice none 0 0) (.slice none 0 0) [] []) := Lib.hid ⟨k2.lt, Ch.refl _ _, k2, OwnPr.nil _ _, World.ownsRow_nil _ _ _ _⟩
  have HC6 : Hid (r.cols.length ≤ 100000000 ∨ s1.2 ≠ 0) := Lib.hid (by
    by_cases he : s1.2 = 0
    · left
      have h2 : (failR (readN (szN r.cols.length) s0).2 (unpC (readN (szN r.cols.length) s0).1 (r.cols.length : Int))).2 = 0 := by rw [hs1] at he; exact he
      have h3 := (failR_inv h2).2.1
      unfold unpC at h3
      by_cases h16 : (0 : Int) ≤ (r.cols.length : Int) ∧ (r.cols.length : Int) ≤ 16
      · omega
      · rw [if_neg h16] at h3; cases h3
    · exact .inr he)
  clear hs1 hnl k1 k2 hbn c4 HTN
  obtain ⟨ib, cib, _, csb, _⟩ := info_parts infoBo
  have CIB := Lib.hid cib; have CSB := Lib.hid csb
  obtain ⟨ic, cic, _, csc, _⟩ := info_parts infoCB
  have CIC := Lib.hid cic; have CSC := Lib.hid csc
  clear cib csb cic csc
  generalize hm : nl.length = m at *
  have HM := Lib.hid hm; clear hm
  generalize hn : r.cols.length = n at *
  have HN := Lib.hid hn; clear hn
  rw [← HG4E.out]
  go_wp2
  go_loopw [8, 9, 29] (fun va vb ix wr => ∃ j : Nat, j ≤ m ∧ ix = .int .i64 j ∧ Hid (TkI u (rowAt ver nl r.cols s1 j).2 w6 wr va vb (rowAt ver nl r.cols s1 j).1.1 (rowAt ver nl r.cols s1 j).1.2)) (fun _ _ ix _ => m - (intOf ix).toNat)
  case atStart => exact ⟨0, Nat.zero_le _, rfl, HI6⟩
  case round =>
    obtain ⟨j, hj, rfl, HI⟩ := hrel
    obtain ⟨ao, ac, rfl⟩ := owns_shape HI.out.a
    obtain ⟨do', dc, rfl⟩ := owns_shape HI.out.b
    by_cases hlt : j < m
    · have hjl : j < nl.length := by have := HM.out; omega
      have hjc : j < r.cols.length := by have := HLEN.out.1; have := HN.out; omega
      obtain ⟨b, o, rfl, g1, g2, g3⟩ := bools_cell (rdBools_only HBN.out HR6.out HI.out.ch) (by rw [HM.out]) (by omega)
      have hbc := g3 j hjl
      have hidx := run_indexSl wr Tryz.underlying84 CIB.out CSB.out b o m bc j hlt
      rw [Nat.mul_one] at hidx
      have HNX : Hid (rowAt ver nl r.cols s1 (j + 1) = rowStep ver nl[j] r.cols[j].ty j (rowAt ver nl r.cols s1 j)) := Lib.hid (by rw [rowAt, colTy_at hjc, List.getD_eq_getElem?_getD, List.getElem?_eq_getElem hjl]; rfl)
      have HCL : Hid ((rowAt ver nl r.cols s1 j).1.1.length ≤ 200000000 ∧ (rowAt ver nl r.cols s1 j).1.2.length ≤ 200000000) := Lib.hid (by
        have e1 := rowAt_length ver nl r.cols s1 j
        have e2 := rowAt_holes ver nl r.cols s1 j
        have e3 := HC6.out
        have e4 := HLEN.out.2.2
        rcases e3 with e3 | e3
        · have := HN.out; omega
        · rw [e4 e3] at hjl; simp at hjl)
      obtain ⟨b2, o2, rfl, hrc⟩ := colS_at (colS_only HB6.out HR6.out HI.out.ch) hjc
      have HQ1 : Hid (wr.cell? ⟨b2, o2 + j * 3 + 1, none⟩ = some (.int .u8 (r.cols[j].ty : Nat))) := Lib.hid (hrc 1 _ rfl)
      have HGr : Hid (wr.heap[g4]? = some (.cells (relv r (.slice (some ⟨b2, o2, none⟩) n cc)) 43 (0, 0))) := Lib.hid (heap_of_only HI.out.ch (by have := HULT.out; have := HG4E.out; omega) HG6.out)
      have HLT := Lib.hid hlt
      generalize r.cols[j].ty = q at *
      generalize rowAt ver nl r.cols s1 j = p at *
      obtain ⟨W1, hW1⟩ : ∃ W1, W1 = wr.alloc (.cells #[.int .u8 0, .int .u8 0, .int .i64 0, .complex .f64 0 0, .string ⟨#[]⟩] 90) := ⟨_, rfl⟩
      have hx1 : Ext wr W1 := by rw [hW1]; exact (Ch.refl _ _).alloc _
      have HZ1 : Hid (W1.heap[wr.heap.size]? = some (.cells #[.int .u8 0, .int .u8 0, .int .i64 0, .complex .f64 0 0, .string ⟨#[]⟩] 90 (0, 0))) := Lib.hid (by rw [hW1]; exact heap_alloc_new _ _)
      have HI1 := Lib.hid (HI.out.ext hx1)
      have HW1 := Lib.hid hW1; have HX1' := Lib.hid hx1
      have HIW : Hid (TkI u p.2 w6 (wr.alloc (.cells #[.int .u8 0, .int .u8 0, .int .i64 0, .complex .f64 0 0, .string ⟨#[]⟩] 90)) (.slice ao p.1.1.length ac) (.slice do' p.1.2.length dc) p.1.1 p.1.2) := Lib.hid (HI.out.ext ((Ch.refl _ _).alloc _))
      have HZW : Hid ((wr.alloc (.cells #[.int .u8 0, .int .u8 0, .int .i64 0, .complex .f64 0 0, .string ⟨#[]⟩] 90)).heap[wr.heap.size]? = some (.cells #[.int .u8 0, .int .u8 0, .int .i64 0, .complex .f64 0 0, .string ⟨#[]⟩] 90 (0, 0))) := Lib.hid (heap_alloc_new _ _)
      generalize hnb : nl[j] = nb at *
      clear hnb g1 g2 g3 hrc hjl hjc hlt hW1
      cases nb with
      | true =>
        rw [rowStep_null] at HNX
        have hone : ∀ w, _ := fun w => onePr w .zero
        unfold pc pcv Cel.zero Val.zero at hone
        clear hx1
        go_wp2_with (first
          | (refine wpList_load_row rfl _ _ rfl wr.heap.size rfl _ _ _ _ HZW.out Tryz.underlying90 rfl infoPCb ?_)
          | (at_builtin; go_must (refine wpList_tkA (c := .zero) rfl _ _ rfl rfl HIW.out rfl rfl (by simp) HCL.out.1 ?_)))
        intro g3 cap3 w5 hi5
        have HI5 : Hid (TkI u (rowAt ver nl r.cols s1 (j + 1)).2 w6 w5 (.slice (some ⟨g3, 0, none⟩) (p.1.1.length + 1) cap3) (.slice do' p.1.2.length dc) (rowAt ver nl r.cols s1 (j + 1)).1.1 (rowAt ver nl r.cols s1 (j + 1)).1.2) := Lib.hid (by rw [HNX.out]; exact hi5)
        clear hi5 hone hidx hbc
        generalize p.1.1.length + 1 = n3 at *
        generalize p.1.2.length = n4 at *
        go_wp2
        go_roundw
        case rel => exact ⟨j + 1, HLT.out, by simp, HI5⟩
        case measure => simp [intOf]; have := HLT.out; omega
      | false =>
        rw [rowStep_full] at HNX
        have d4 : W1.cell? ⟨g4, 4, none⟩ = some (.slice (some ⟨b2, o2, none⟩) n cc) := by rw [cell_of_row _ _ _ _ _ _ (heap_ext hx1 HGr.out)]; rfl
        have dq : W1.cell? ⟨b2, o2 + j * 3 + 1, none⟩ = some (.int .u8 (q : Nat)) := hx1.cell (p := ⟨b2, o2 + j * 3 + 1, none⟩) (fun f => f) _ HQ1.out
        have hidx2 := run_indexSl W1 Tryz.underlying41 CIC.out CSC.out b2 o2 n cc j (by have := HLT.out; have := HLEN.out.1; have := HM.out; have := HN.out; omega)
        have HCT := Lib.hid (cTake_any u p.2 q ver W1 HI1.out.rd)
        have hfl3 := fieldRlB_3
        have hfl1 := fieldCoB_1
        generalize hct : cTake ver q p.2 = t at *
        obtain ⟨⟨c, z⟩, s'⟩ := t
        simp only at HNX
        rw [HW1.out] at d4 dq hidx2
        unfold RPtr at HCT
        clear hx1 hct
        go_wp2_with fail
        rw [← HW1.out]
        refine HCT.out.mono ?_
        rintro e w2' ⟨rfl, k1, k2⟩
        simp only
        obtain ⟨W3, hW3⟩ : ∃ W3, W3 = w2'.setRow wr.heap.size (pcv c) := ⟨_, rfl⟩
        have HZ2 := Lib.hid (heap_of_only k1 (by have := HI.out.rd.lt; omega) HZ1.out)
        have HZ3 : Hid (W3.heap[wr.heap.size]? = some (.cells (pcv c) 90 (0, 0))) := Lib.hid (by rw [hW3]; exact setRow_heap _ _ _ _ _ _ HZ2.out)
        have HX3' : Hid (Only u wr W3) := Lib.hid (by rw [hW3]; exact ((Ext.ch HX1'.out).trans k1).setRow (.inr (Nat.le_refl _)) _)
        have HI3 : Hid (TkI u s' w6 W3 (.slice ao p.1.1.length ac) (.slice do' p.1.2.length dc) p.1.1 p.1.2) := Lib.hid (HI.out.only HX3'.out (by rw [hW3]; exact k2.above ((Ch.refl _ _).setRow (.inl HI.out.rd.lt) _)))
        have HW3 := Lib.hid hW3
        have HZL : Hid (wr.heap.size < W3.heap.size) := Lib.hid (Array.getElem?_eq_some_iff.1 HZ3.out).1
        clear k1 k2 hW3 d4 dq hidx2 hidx hbc hfl3 hfl1 HCT
        have hone : ∀ w, (Instr.buildSlice 36 1 #[(0, .agg #[.int .u8 (c.k : Nat), .int .u8 (c.v.ty : Nat), .int .i64 c.v.i, .complex .f64 c.v.re c.v.im, .string ⟨c.v.t.toArray⟩])]).run Tryz.prog w = .ok (.slice (some ⟨w.heap.size, 0, none⟩) 1 1) (w.alloc (.cells #[.int .u8 (c.k : Nat), .int .u8 (c.v.ty : Nat), .int .i64 c.v.i, .complex .f64 c.v.re c.v.im, .string ⟨c.v.t.toArray⟩] 90)) := fun w => onePr w c
        have HZ3L : Hid (W3.heap[wr.heap.size]? = some (.cells #[.int .u8 (c.k : Nat), .int .u8 (c.v.ty : Nat), .int .i64 c.v.i, .complex .f64 c.v.re c.v.im, .string ⟨c.v.t.toArray⟩] 90 (0, 0))) := Lib.hid HZ3.out
        by_cases hz : 0 < z
        · have hz' : ((z : Nat) : Int) > 0 := by omega
          rw [if_pos hz] at HNX
          have honeH := oneHt; have hbld := bldHt
          clear hz
          go_wp2_with (first
            | (refine wpList_store_rowTo rfl _ _ _ rfl rfl wr.heap.size (pcv c) rfl rfl _ _ HZ2.out infoPC rfl (pcv_one _) ?_; rw [← HW3.out])
            | (at_builtin; go_must (refine wpList_tkB rfl _ _ rfl HI3.out rfl rfl (by simp) HCL.out.2 ?_)))
          intro g3 cap3 w5 hi5 hkp
          have HI5 := Lib.hid hi5
          have HZ5 : Hid (w5.heap[wr.heap.size]? = some (.cells #[.int .u8 (c.k : Nat), .int .u8 (c.v.ty : Nat), .int .i64 c.v.i, .complex .f64 c.v.re c.v.im, .string ⟨c.v.t.toArray⟩] 90 (0, 0))) := Lib.hid (hkp _ _ HZ3.out)
          have HLE : Hid ((p.1.1).length ≤ 200000000) := Lib.hid HCL.out.1
          clear hi5 hkp honeH hbld
          generalize hn4 : p.1.2.length + 1 = n4 at *
          go_wp2_with (first
            | (refine wpList_load_row rfl _ _ rfl wr.heap.size rfl _ _ _ _ HZ5.out Tryz.underlying90 rfl infoPCb ?_)
            | (at_builtin; go_must (refine wpList_tkA (c := c) rfl _ _ rfl rfl HI5.out rfl rfl rfl HLE.out ?_)))
          intro g5 cap5 w7 hi7
          have HI7 : Hid (TkI u (rowAt ver nl r.cols s1 (j + 1)).2 w6 w7 (.slice (some ⟨g5, 0, none⟩) (p.1.1.length + 1) cap5) (.slice (some ⟨g3, 0, none⟩) n4 cap3) (rowAt ver nl r.cols s1 (j + 1)).1.1 (rowAt ver nl r.cols s1 (j + 1)).1.2) := Lib.hid (by rw [HNX.out]; exact hi7)
          clear hi7 hone
          generalize p.1.1.length + 1 = n3 at *
          go_wp2
          go_roundw
          case rel => exact ⟨j + 1, HLT.out, by simp, HI7⟩
          case measure => simp [intOf]; have := HLT.out; omega
        · have hz' : ¬ ((z : Nat) : Int) > 0 := by omega
          rw [if_neg hz, List.append_nil] at HNX
          clear hz
          go_wp2_with (first
            | (refine wpList_store_rowTo rfl _ _ _ rfl rfl wr.heap.size (pcv c) rfl rfl _ _ HZ2.out infoPC rfl (pcv_one _) ?_; rw [← HW3.out])
            | (refine wpList_load_row rfl _ _ rfl wr.heap.size rfl _ _ _ _ HZ3L.out Tryz.underlying90 rfl infoPCb ?_)
            | (at_builtin; go_must (refine wpList_tkA (c := c) rfl _ _ rfl rfl HI3.out rfl rfl rfl HCL.out.1 ?_)))
          intro g5 cap5 w7 hi7
          have HI7 : Hid (TkI u (rowAt ver nl r.cols s1 (j + 1)).2 w6 w7 (.slice (some ⟨g5, 0, none⟩) (p.1.1.length + 1) cap5) (.slice do' p.1.2.length dc) (rowAt ver nl r.cols s1 (j + 1)).1.1 (rowAt ver nl r.cols s1 (j + 1)).1.2) := Lib.hid (by rw [HNX.out]; exact hi7)
          clear hi7 hone
          generalize p.1.1.length + 1 = n3 at *
          generalize p.1.2.length = n4 at *
          go_wp2
          go_roundw
          case rel => exact ⟨j + 1, HLT.out, by simp, HI7⟩
          case measure => simp [intOf]; have := HLT.out; omega
    · obtain rfl : m = j := by omega
      have hie := HI.out.rd
      have HE := Lib.hid (err_any u _ wr hie)
      have HXF : Hid (Only u w wr) := Lib.hid (HX6.out.trans HI.out.ch)
      have HMN : Hid (s1.2 = 0 → m = n) := Lib.hid fun h => by have := HLEN.out.2.1 h; have := HM.out; have := HN.out; omega
      have HM0 : Hid (s1.2 ≠ 0 → m = 0) := Lib.hid fun h => by have := HLEN.out.2.2 h; have h2 := HM.out; rw [this] at h2; simp at h2; omega
      have HAT : Hid (rowTake ver r s = if (rowAt ver nl r.cols s1 m).2.2 ≠ 0 then (([], []), (rowAt ver nl r.cols s1 m).2) else rowAt ver nl r.cols s1 m) := Lib.hid (by
        rw [HTK.out]
        by_cases he : s1.2 = 0
        · rw [if_neg (fun hn => hn he), ← HMN.out he]
        · have h0 := HM0.out he
          rw [if_pos he, h0]
          show _ = if s1.2 ≠ 0 then (([], []), s1) else _
          rw [if_pos he])
      have HSZ : Hid (w.heap.size ≤ w6.heap.size) := Lib.hid HX6.out.size
      unfold RPtr at HE
      clear hie hlt
      generalize rowAt ver nl r.cols s1 m = p at *
      go_wp2_with fail
      refine HE.out.mono ?_
      rintro e w8 ⟨rfl, rfl⟩
      by_cases he : p.2.2 = 0
      · have e0 : (p.2.2 != 0) = false := by simp [he]
        have HF : Hid (rowTake ver r s = p) := Lib.hid (by rw [HAT.out, if_neg (fun hn => hn he)])
        have HA : Hid (OwnPr w.heap.size wr (.slice ao p.1.1.length ac) p.1.1) := Lib.hid (ownsRow_down HI.out.a HSZ.out)
        have HBb : Hid (OwnHt w.heap.size wr (.slice do' p.1.2.length dc) p.1.2) := Lib.hid (ownsRow_down HI.out.b HSZ.out)
        have HRD : Hid (IsR wr u p.2) := Lib.hid HI.out.rd
        clear he HI HAT
        generalize p.2.2 = E at *
        generalize p.1.1.length = n3 at *
        generalize p.1.2.length = n4 at *
        go_wp2
        refine bodyPost_ret (results_tmp2 rfl _ _ _) rfl ?_
        refine ⟨_, _, rfl, HXF.out, ?_⟩
        rw [HF.out]
        exact ⟨HRD.out, HA.out, HBb.out⟩
      · have e0 : (p.2.2 != 0) = true := by simpa using he
        have HF : Hid (rowTake ver r s = (([], []), p.2)) := Lib.hid (by rw [HAT.out, if_pos he])
        have HRD : Hid (IsR wr u p.2) := Lib.hid HI.out.rd
        clear he HI HAT
        generalize p.2.2 = E at *
        generalize p.1.1.length = n3 at *
        generalize p.1.2.length = n4 at *
        go_wp2
        refine bodyPost_ret (results_tmp2 rfl _ _ _) rfl ?_
        refine ⟨_, _, rfl, HXF.out, ?_⟩
        rw [HF.out]
        exact ⟨HRD.out, OwnPr.nil _ _, World.ownsRow_nil _ _ _ _⟩
end Go.Proofs.YtegclfpmgilnpaaGreat
namespace Go.Proofs.YtegclfpmgilnpaaGreat
open Go.RowKit Go.Lac
set_option maxRecDepth 20000 in
set_option maxHeartbeats 8000000 in
theorem rowTake_bv (r : Rl) (cv : Value) (u : Nat) (s : RS) (ver : Nat) (w : World) (hb : ColS w cv r.cols) (hf : r.fits) (h : IsR w u s) (hver : ¬ (ver = 1 ∨ ver = 2)) :
    Calls Tryz.prog 8 #[RPtr u, .agg (relv r cv), .int .u8 (ver : Nat)] w (RowTkPost u ver r s w) := by
  have h1 := heap_alloc_new w (.cells (relv r cv) 43)
  obtain ⟨W, hW⟩ : ∃ W, W = w.alloc (.cells (relv r cv) 43) := ⟨_, rfl⟩
  have hx : Ext w W := by rw [hW]; exact (Ch.refl _ _).alloc _
  rw [← hW] at h1
  obtain ⟨g4, hg4⟩ : ∃ g4, g4 = w.heap.size := ⟨_, rfl⟩
  rw [← hg4] at h1
  have HG := Lib.hid h1; have HW := Lib.hid hW; have HG4E := Lib.hid hg4
  have HB := Lib.hid (ColS.ext hb hx)
  have HULT : Hid (u < w.heap.size) := Lib.hid h.lt
  have HRT := Lib.hid (relRight_any r cv W HB.out hf)
  have hr0 := h.ext hx
  have HR0 := Lib.hid hr0; have HX0 := Lib.hid hx
  obtain ⟨c0, c1, c2, c3, c4⟩ := row5 h1
  obtain ⟨co, cc, rfl, hcm, hcm2, _⟩ := id hb
  have hl63 : r.cols.length ≤ 9223372036854775807 := by unfold maxLen at hcm2; omega
  rw [hW] at c0 c1 c2 c3 c4
  rw [hg4] at c0 c1 c2 c3 c4
  have HPR : Hid (rowPre ver r s = failR (failR s (rlErr r : Nat)) 18) := Lib.hid (by unfold rowPre; rw [if_neg hver])
  have HIV : Hid (∀ W, Calls Tryz.prog 28 #[.int .u8 (ver : Nat)] W fun e w' => e = .returned (.bool false) ∧ Ext W w') := Lib.hid fun W => by have := rowIsVersion_any ver W; rwa [decide_eq_false hver] at this
  clear h1 hx hW hg4 hb h hcm hcm2 hr0 hver
  unfold relv strV RPtr at *
  go_enter Tryz.func8, Tryz.ntmps8
  go_wp2_with fail
  rw [← HW.out]
  refine HRT.out.mono ?_
  rintro e w1 ⟨rfl, hx1⟩
  have HR1 := Lib.hid (HR0.out.ext hx1); have HX1 := Lib.hid (HX0.out.trans hx1)
  have HG1 := Lib.hid (heap_ext hx1 HG.out); have HB1 := Lib.hid (ColS.ext HB.out hx1)
  have HFL := Lib.hid (fail_any u s (rlErr r : Nat) w1 HR1.out)
  unfold RPtr at HFL
  clear hx1 c0 c1 c2 c3 c4 HRT
  go_wp2_with fail
  refine HFL.out.mono ?_
  rintro e w2 ⟨rfl, k1, k2⟩
  obtain ⟨s0, hs0⟩ : ∃ s0, s0 = rowPre ver r s := ⟨_, rfl⟩
  have HS0 := Lib.hid hs0
  have HR2 := Lib.hid k2; have HX2 : Hid (Only u w w2) := Lib.hid ((Ext.ch HX1.out).trans k1)
  have HG2 := Lib.hid (heap_of_only k1 (by have := HULT.out; have := HG4E.out; omega) HG1.out); have HB2 := Lib.hid (colS_only HB1.out HR1.out k1)
  have HIV2 := Lib.hid (HIV.out w2)
  clear k1 k2 HFL HIV hs0
  go_wp2_with fail
  refine HIV2.out.mono ?_
  rintro e w3 ⟨rfl, hx3⟩
  have HFM := Lib.hid (fail_any u _ 18 w3 (HR2.out.ext hx3))
  have HRX := Lib.hid (HR2.out.ext hx3); have HXX : Hid (Only u w w3) := Lib.hid (HX2.out.trans (Ext.ch hx3))
  have HGX := Lib.hid (heap_ext hx3 HG2.out); have HBX := Lib.hid (ColS.ext HB2.out hx3)
  unfold RPtr at HFM
  clear hx3
  go_wp2_with fail
  refine HFM.out.mono ?_
  rintro e w3' ⟨rfl, k1, k2⟩
  rw [← HPR.out, ← HS0.out] at k2
  have HR3 := Lib.hid k2; have HX3 : Hid (Only u w w3') := Lib.hid (HXX.out.trans k1)
  have HG3 := Lib.hid (heap_of_only k1 (by have := HULT.out; have := HG4E.out; omega) HGX.out); have HB3 := Lib.hid (colS_only HBX.out HRX.out k1)
  generalize w3' = w3 at *
  clear k1 k2 HFM HXX
  have c4 : w3.cell? ⟨w.heap.size, 4, none⟩ = some (.slice co r.cols.length cc) := by rw [← HG4E.out, cell_of_row _ _ _ _ _ _ HG3.out]; rfl
  have HTN := Lib.hid (takeNulls_any u s0 r.cols.length w3 HR3.out hl63)
  unfold RPtr at HTN
  clear HIV2
  go_wp2_with fail
  refine HTN.out.mono ?_
  rintro e w6 ⟨vn, rfl, k1, k2, hbn⟩
  obtain ⟨s1, hs1⟩ : ∃ s1, s1 = nulS r.cols.length s0 := ⟨_, rfl⟩
  obtain ⟨nl, hnl⟩ : ∃ nl, nl = nulL r.cols.length s0 := ⟨_, rfl⟩
  rw [← hs1] at k2; rw [← hnl] at hbn
  have HS1 := Lib.hid hs1; have HNL := Lib.hid hnl
  have HLEN : Hid (nl.length ≤ r.cols.length ∧ (s1.2 = 0 → nl.length = r.cols.length) ∧ (s1.2 ≠ 0 → nl = [])) := Lib.hid (by
    rw [hs1, hnl]
    by_cases he : (nulS r.cols.length s0).2 = 0
    · have := nulL_length he; exact ⟨by omega, fun _ => this, fun hn => absurd he hn⟩
    · have := nulL_err he; exact ⟨by rw [this]; exact Nat.zero_le _, fun hn => absurd hn he, fun _ => this⟩)
  have HR6 := Lib.hid k2; have HX6 : Hid (Only u w w6) := Lib.hid (HX3.out.trans k1)
  have HG6 := Lib.hid (heap_of_only k1 (by have := HULT.out; have := HG4E.out; omega) HG3.out); have HB6 := Lib.hid (colS_only HB3.out HR3.out k1)
  have HBN := Lib.hid hbn
  obtain ⟨bo, bc, rfl⟩ := hbn.shape
  have HTK : Hid (rowTake ver r s = if s1.2 ≠ 0 then (([], []), s1) else if (rowAt ver nl r.cols s1 r.cols.length).2.2 ≠ 0 then (([], []), (rowAt ver nl r.cols s1 r.cols.length).2) else rowAt ver nl r.cols s1 r.cols.length) := Lib.hid (by
    have := rowTake_nul (ver := ver) (r := r) (s := s) (by rw [← HS0.out]; exact HR3.out.proper)
    rw [← HS0.out, ← hs1, ← hnl] at this
    exact this)
  have hn63 : nl.length ≤ 9223372036854775807 := by have := HLEN.out.1; omega
  have HI6 : Hid (TkI u s1 w6 w6 (.slice none 0 0) (.slice none 0 0) [] []) := Lib.hid ⟨k2.lt, Ch.refl _ _, k2, OwnPr.nil _ _, World.ownsRow_nil _ _ _ _⟩
  have HC6 : Hid (r.cols.length ≤ 100000000 ∨ s1.2 ≠ 0) := Lib.hid (by
    by_cases he : s1.2 = 0
    · left
      have h2 : (failR (readN (szN r.cols.length) s0).2 (unpC (readN (szN r.cols.length) s0).1 (r.cols.length : Int))).2 = 0 := by rw [hs1] at he; exact he
      have h3 := (failR_inv h2).2.1
      unfold unpC at h3
      by_cases h16 : (0 : Int) ≤ (r.cols.length : Int) ∧ (r.cols.length : Int) ≤ 16
      · omega
      · rw [if_neg h16] at h3; cases h3
    · exact .inr he)
  clear hs1 hnl k1 k2 hbn c4 HTN
  have he : s1.2 ≠ 0 := by
    rw [HS1.out]
    have h18 : (rowPre ver r s).2 ≠ 0 := by
      rw [HPR.out]
      intro hc
      exact absurd (failR_inv hc).2.1 (by decide)
    rw [← HS0.out] at h18
    unfold nulS
    intro hc
    have h2 := (failR_inv hc).1
    have hp := HR3.out.proper h18
    obtain ⟨l0, e0⟩ := s0
    simp only at hp h18
    subst hp
    rw [readN_gone h18] at h2
    exact h18 h2
  have hnil := HLEN.out.2.2 he
  have HTE : Hid (rowTake ver r s = (([], []), s1)) := Lib.hid (by rw [HTK.out, if_pos he])
  have e0 : (s1.2 != 0) = true := by simpa using he
  have HE := Lib.hid (err_any u _ w6 HR6.out)
  subst hnil
  clear he HTK HLEN HC6 HI6
  unfold RPtr at HE
  generalize r.cols.length = n at *
  go_wp2
  go_loopw [29] (fun ix wr => ix = .int .i64 0 ∧ w6 = wr) (fun ix _ => 0)
  case atStart => exact ⟨rfl, rfl⟩
  case round =>
    obtain ⟨rfl, rfl⟩ := hrel
    go_wp2_with fail
    refine HE.out.mono ?_
    rintro e w8 ⟨rfl, rfl⟩
    generalize hE : s1.2 = E at *
    go_wp2
    refine bodyPost_ret (results_tmp2 rfl _ _ _) rfl ?_
    refine ⟨_, _, rfl, HX6.out, ?_⟩
    rw [HTE.out]
    exact ⟨HR6.out, OwnPr.nil _ _, World.ownsRow_nil _ _ _ _⟩
theorem rowTake_any (r : Rl) (cv : Value) (u : Nat) (s : RS) (ver : Nat) (w : World) (hb : ColS w cv r.cols) (hf : r.fits) (h : IsR w u s) :
    Calls Tryz.prog 8 #[RPtr u, .agg (relv r cv), .int .u8 (ver : Nat)] w (RowTkPost u ver r s w) := by
  by_cases hv : ver = 1 ∨ ver = 2
  · exact rowTake_gv r cv u s ver w hb hf h hv
  · exact rowTake_bv r cv u s ver w hb hf h hv
end Go.Proofs.YtegclfpmgilnpaaGreat
namespace Go.Proofs.YtegclfpmgilnpaaGreat
open Go.RowKit Go.Lac
def OwnHq (base : Nat) (w : World) (v : Value) (l : List Ho) : Prop := w.ownsRow base 102 2 v l.length (HoC l)
def RowTqPost (q ver : Nat) (r : Rl) (s : RS) (w : World) (e : Ending) (w' : World) : Prop :=
  ∃ a b, e = .returned (.tuple #[a, b]) ∧ Only q w w' ∧ IsQ w' q (rowTake ver r s).2 ∧ OwnRr w.heap.size w' a (rowTake ver r s).1.1 ∧ OwnHq w.heap.size w' b (rowTake ver r s).1.2
theorem RowTqPost.err {q ver : Nat} {r : Rl} {s s0 : RS} {w w' : World} (h : rowTake ver r s = (([], []), s0)) (k : Only q w w') (hr : IsQ w' q s0) : RowTqPost q ver r s w (.returned (.tuple #[.slice none 0 0, .slice none 0 0])) w' := by
  refine ⟨_, _, rfl, k, ?_⟩
  rw [h]
  exact ⟨hr, OwnRr.nil _ _, World.ownsRow_nil _ _ _ _⟩
end Go.Proofs.YtegclfpmgilnpaaGreat
namespace Go.Proofs.YtegclfpmgilnpaaGreat
open Go.RowKit Go.Lac
structure QkI (u : Nat) (s : RS) (w0 w : World) (va vb : Value) (C : List Cel) (H : List Ho) : Prop where
  lt : u < w0.heap.size
  ch : Only u w0 w
  rd : IsQ w u s
  a : OwnRr w0.heap.size w va C
  b : OwnHq w0.heap.size w vb H
theorem QkI.only {u : Nat} {s s' : RS} {w0 w w' : World} {va vb : Value} {C : List Cel} {H : List Ho} (h : QkI u s w0 w va vb C H) (k : Only u w w') (hr : IsQ w' u s') : QkI u s' w0 w' va vb C H where
  lt := h.lt
  ch := h.ch.trans k
  rd := hr
  a := own_chK h.a k fun j hj e => by have := (World.ownsRow.lt h.a j hj).1; have := h.lt; omega
  b := own_chK h.b k fun j hj e => by have := (World.ownsRow.lt h.b j hj).1; have := h.lt; omega
theorem QkI.ext {u : Nat} {s : RS} {w0 w w' : World} {va vb : Value} {C : List Cel} {H : List Ho} (h : QkI u s w0 w va vb C H) (k : Ext w w') : QkI u s w0 w' va vb C H := h.only (Ext.ch k) (h.rd.ext k)
end Go.Proofs.YtegclfpmgilnpaaGreat
