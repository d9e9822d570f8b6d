import Derived.Test.YtegclfpmgilnpaaGreatCelC
import Derived.Test.YtegclfpmgilnpaaGreatGVal
import Derived.Deep.OwnRows
namespace Go.Proofs.YtegclfpmgilnpaaGreat
open Go.RowKit Go.Lac
def readN : Nat → RS → List UInt8 × RS
  | 0, s => ([], s)
  | n + 1, s => ((readN n s).1 ++ [UInt8.ofNat (byteR (readN n s).2).1], (byteR (readN n s).2).2)
theorem readN_length : ∀ n s, (readN n s).1.length = n
  | 0, _ => rfl
  | n + 1, s => by rw [readN, List.length_append, readN_length n s]; rfl
theorem readN_take : ∀ (n : Nat) (l : List UInt8) (e : Int), n ≤ l.length → readN n (l, e) = (l.take n, (l.drop n, e))
  | 0, l, e, _ => by simp [readN]
  | n + 1, l, e, h => by
    rw [readN, readN_take n l e (by omega)]
    obtain ⟨b, hb⟩ : ∃ b, l.drop n = b :: l.drop (n + 1) := ⟨l[n], List.drop_eq_getElem_cons (by omega)⟩
    simp only
    rw [hb, byteR_cons]
    simp only
    have hg : l.take (n + 1) = l.take n ++ [b] := by
      rw [List.take_succ_eq_append_getElem (by omega)]
      have := List.drop_eq_getElem_cons (l := l) (i := n) (by omega)
      rw [hb] at this
      simp only [List.cons.injEq] at this
      rw [this.1]
    rw [hg]
    have hbt : UInt8.ofNat b.toNat = b := by simp
    rw [hbt]
theorem readN_gone {e : Int} (he : e ≠ 0) : ∀ n, (readN n ([], e)).2 = ([], e)
  | 0 => rfl
  | n + 1 => by rw [readN, readN_gone he n, byteR_gone' he]
theorem readN_add (n : Nat) : ∀ (m : Nat) (s : RS), (readN (n + m) s).2 = (readN m (readN n s).2).2
  | 0, _ => rfl
  | m + 1, s => by
    show (byteR (readN (n + m) s).2).2 = (byteR (readN m (readN n s).2).2).2
    rw [readN_add n m s]
theorem readN_short {n : Nat} {l : List UInt8} (h : l.length < n) : (readN n (l, 0)).2 = ([], 1) := by
  obtain ⟨m, rfl⟩ : ∃ m, n = l.length + (m + 1) := ⟨n - l.length - 1, by omega⟩
  rw [readN_add, readN_take _ l 0 (Nat.le_refl _)]
  simp only [List.drop_length]
  rw [show m + 1 = 1 + m by omega, readN_add]
  have h1 : (readN 1 (([] : List UInt8), (0 : Int))).2 = ([], 1) := by
    show (byteR ([], 0)).2 = _
    rw [byteR_nil]
  rw [h1, readN_gone (by decide)]
theorem readN_state {n : Nat} {s : RS} (hp : s.2 ≠ 0 → s.1 = []) : (readN n s).2 = (takeR n s).2 ∧ ((readN n s).2.2 = 0 → (readN n s).1 = (takeR n s).1) := by
  obtain ⟨l, e⟩ := s
  simp only at hp
  by_cases he : e = 0
  · subst he
    by_cases h : l.length < n
    · rw [readN_short h, takeR_short h]
      exact ⟨rfl, fun h => by simp at h⟩
    · rw [readN_take n l 0 (by omega)]
      unfold takeR
      rw [if_neg h]
      exact ⟨rfl, fun _ => rfl⟩
  · have := hp he
    subst this
    rw [readN_gone he, takeR_gone' he]
    exact ⟨rfl, fun h => absurd h he⟩
theorem here_state {kind n : Nat} {s : RS} (hp : s.2 ≠ 0 → s.1 = []) : failR (readN n s).2 (vErr ⟨kind, 0, 0, 0, (readN n s).1⟩ : Nat) = (hereR kind n s).2 ∧ ((hereR kind n s).2.2 = 0 → (readN n s).1 = (takeR n s).1) := by
  obtain ⟨h1, h2⟩ := readN_state (n := n) hp
  unfold hereR
  simp only
  by_cases he : (readN n s).2.2 = 0
  · rw [h2 he, h1]
    exact ⟨rfl, fun _ => rfl⟩
  · have he' : (takeR n s).2.2 ≠ 0 := by rw [← h1]; exact he
    rw [failR_err _ _ he, failR_err _ _ he', h1]
    exact ⟨rfl, fun h => absurd h he'⟩
theorem IsR.proper {w : World} {r : Nat} {s : RS} (h : IsR w r s) : s.2 ≠ 0 → s.1 = [] := by
  obtain ⟨_, _, _, h3⟩ := h
  exact h3
theorem results_cell2 {P : Program} {fn : Func} {p a : Tmp} {ty : TypeId} (h : fn.results = #[.cell p ty, .tmp a]) (tmps : Array Value) (w : World) (g : Nat) (t : TypeId) (cs : Array Value) (fr : Nat × Nat) (d : TypeDesc)
    (hp : tmps.getD p undef = .pointer (some ⟨g, 0, none⟩)) (hg : w.heap[g]? = some (.cells cs t fr))
    (hu : P.underlying ty = some d) (hd : (match d with | .struct _ | .array _ _ => true | _ => false) = true) (hi : (P.info? ty).map (·.size) = some cs.size) :
    (results fn tmps).run P w = .ok (.tuple #[.agg cs, tmps.getD a undef]) w := by
  have hp' : tmps[p]?.getD undef = .pointer (some ⟨g, 0, none⟩) := by simpa using hp
  simp [results, h, hp', asAddr, run_loadVar_row w g t ty cs fr d hg hu hd hi]
def ZC : Array Value := #[.int .u8 0, .int .u8 0, .int .i64 0, .complex .f64 0 0, .string ⟨#[]⟩]
def AwayPost (r kind : Nat) (s : RS) (w : World) (e : Ending) (w' : World) : Prop :=
  e = .returned (.tuple #[pc (bigC kind), .int .i64 ((awayR s).1 : Nat)]) ∧ Only r w w' ∧ IsR w' r (awayR s).2
def HerePost (r kind n : Nat) (s : RS) (w : World) (e : Ending) (w' : World) : Prop :=
  ∃ t, e = .returned (pc ⟨2, ⟨kind, 0, 0, 0, t⟩⟩) ∧ Only r w w' ∧ IsR w' r (hereR kind n s).2 ∧ ((hereR kind n s).2.2 = 0 → t = (takeR n s).1)
set_option maxRecDepth 20000 in
set_option maxHeartbeats 2000000 in
theorem takeAway_any (r : Nat) (s : RS) (kind : Nat) (w : World) (h : IsR w r s) :
    Calls Tryz.prog 101 #[RPtr r, .int .u8 (kind : Nat)] w (AwayPost r kind s w) := by
  have hle := uintR_le 2048 s
  have hlt := h.lt
  have HOF := Lib.hid (fun w => cof_any ⟨kind, 0, 0, 0, []⟩ w)
  have HB := Lib.hid (fun w => build61_1 w kind)
  unfold AwayPost awayR
  simp only
  have hx0 : Ext w (w.alloc (.cells ZC 90)) := (Ch.refl _ _).alloc _
  have HG0 := Lib.hid (heap_alloc_new w (.cells ZC 90))
  have HU := Lib.hid (uint_any r s 2048 _ (h.ext hx0))
  have HX0 : Hid (Only r w (w.alloc (.cells ZC 90))) := Lib.hid hx0.ch
  have HLT := Lib.hid hlt
  generalize (uintR 2048 s).1 = n at *
  generalize (uintR 2048 s).2 = s1 at *
  have HF := Lib.hid (fun w h => fail_any r s1 4 w h)
  have hw : IntKind.i64.wrap (n : Int) = (n : Int) := by rw [IntKind.wrap_i64]; omega
  clear h hx0 hlt
  unfold RPtr at *
  unfold ZC at *
  by_cases hn : n < 65
  · have hn' : n ≤ 64 := by omega
    simp only [if_pos hn]
    clear hn
    go_enter Tryz.func101, Tryz.ntmps101
    go_wp2_with (go_at_call 103; refine HU.out.mono ?_)
    rintro e w1 ⟨rfl, k1, k2⟩
    have HX1 := Lib.hid (HX0.out.trans k1); have H1 := Lib.hid k2
    have HG1 := Lib.hid (heap_of_only k1 (by have := HLT.out; omega) HG0.out)
    clear k1 k2
    go_wp2_with (go_at_call 26; refine (HF.out _ H1.out).mono ?_)
    rintro e w2 ⟨rfl, k1, k2⟩
    have HX2 := Lib.hid (HX1.out.trans k1); have H2 := Lib.hid k2
    have HG2 := Lib.hid (heap_of_only k1 (by have := HLT.out; omega) HG1.out)
    have hb := HB.out w2
    clear k1 k2
    go_wp2_with (go_at_call 81; refine (HOF.out _).mono ?_)
    rintro e w3 ⟨rfl, k1⟩
    have HX3 := Lib.hid (HX2.out.trans k1.ch); have H3 := Lib.hid (H2.out.ext k1)
    have HG3 := Lib.hid (heap_of_ext k1 HG2.out)
    clear k1 hb
    go_wp2_with (refine wpList_store_rowTo rfl _ _ _ rfl rfl w.heap.size (pcv (bigC kind)) rfl rfl _ _ HG3.out infoPC rfl (pcv_one _) ?_)
    refine bodyPost_ret (results_cell2 rfl _ _ w.heap.size _ (pcv (bigC kind)) _ _ rfl (setRow_heap _ _ _ _ _ _ HG3.out) Tryz.underlying90 rfl infoPC) rfl ?_
    exact ⟨rfl, HX3.out.setRow (.inr (Nat.le_refl _)) _, H3.out.above ((Ch.refl _ _).setRow (.inl HLT.out) _)⟩
  · have hn' : 64 < n := by omega
    simp only [if_neg hn]
    clear hn
    go_enter Tryz.func101, Tryz.ntmps101
    go_wp2_with (go_at_call 103; refine HU.out.mono ?_)
    rintro e w1 ⟨rfl, k1, k2⟩
    have HX1 := Lib.hid (HX0.out.trans k1); have H1 := Lib.hid k2
    have HG1 := Lib.hid (heap_of_only k1 (by have := HLT.out; omega) HG0.out)
    clear k1 k2
    have hb := HB.out w1
    go_wp2_with (go_at_call 81; refine (HOF.out _).mono ?_)
    rintro e w3 ⟨rfl, k1⟩
    have HX3 := Lib.hid (HX1.out.trans k1.ch); have H3 := Lib.hid (H1.out.ext k1)
    have HG3 := Lib.hid (heap_of_ext k1 HG1.out)
    clear k1 hb
    go_wp2_with (refine wpList_store_rowTo rfl _ _ _ rfl rfl w.heap.size (pcv (bigC kind)) rfl rfl _ _ HG3.out infoPC rfl (pcv_one _) ?_)
    refine bodyPost_ret (results_cell2 rfl _ _ w.heap.size _ (pcv (bigC kind)) _ _ rfl (setRow_heap _ _ _ _ _ _ HG3.out) Tryz.underlying90 rfl infoPC) rfl ?_
    exact ⟨rfl, HX3.out.setRow (.inr (Nat.le_refl _)) _, H3.out.above ((Ch.refl _ _).setRow (.inl HLT.out) _)⟩
end Go.Proofs.YtegclfpmgilnpaaGreat
namespace Go.Proofs.YtegclfpmgilnpaaGreat
open Go.RowKit Go.Lac
def fillN (n j : Nat) (s : RS) : List UInt8 := (readN j s).1 ++ List.replicate (n - j) 0
theorem fillN_set {n j : Nat} (s : RS) (h : j < n) : (fillN n j s).set j (UInt8.ofNat (byteR (readN j s).2).1) = fillN n (j + 1) s := by
  unfold fillN
  have hl := readN_length j s
  rw [List.set_append_right _ _ (by omega), hl, Nat.sub_self]
  obtain ⟨m, hm⟩ : ∃ m, n - j = m + 1 := ⟨n - j - 1, by omega⟩
  rw [hm, show n - (j + 1) = m by omega, List.replicate_succ, List.set_cons_zero, readN]
  simp
theorem fillN_all (n : Nat) (s : RS) : fillN n n s = (readN n s).1 := by simp [fillN]
theorem fillN_zero (n : Nat) (s : RS) : fillN n 0 s = List.replicate n 0 := by simp [fillN, readN]
theorem fillN_length {n j : Nat} (s : RS) (h : j ≤ n) : (fillN n j s).length = n := by
  unfold fillN
  rw [List.length_append, readN_length, List.length_replicate]; omega
theorem made_zeros (n : Nat) : madeCells #[.int .u8 0] n = (cellsB (List.replicate n 0)).toArray := by
  apply Array.ext
  · rw [size_madeCells]; simp [cellsB]
  · intro i h1 h2
    simp [madeCells, cellsB, cellB, Nat.mod_one]
theorem cellsB_set {l : List UInt8} {j x : Nat} (h : x < 256) : (cellsB l).toArray.setIfInBounds j (.int .u8 (x : Nat)) = (cellsB (l.set j (UInt8.ofNat x))).toArray := by
  have hx : (UInt8.ofNat x).toNat = x := by simp; omega
  simp [cellsB, List.map_set, cellB, hx]
theorem build61_03 (w : World) (k : Nat) (A : ByteArray) : (Instr.build 88 #[(0, .int .u8 (k : Nat)), (3, .string A)]).run Tryz.prog w = .ok (.agg #[.int .u8 (k : Nat), .int .i64 0, .complex .f64 0 0, .string A]) w := by kernel_rfl
def HereRel (r n : Nat) (s : RS) (w : World) (ix : Value) (wr : World) : Prop :=
  ∃ j : Nat, j ≤ n ∧ ix = .int .i64 (j : Nat) ∧ Only r w wr ∧ IsR wr r (readN j s).2 ∧ wr.heap[w.heap.size]? = some (.cells ZC 90 (0, 0)) ∧ wr.heap[w.heap.size + 1]? = some (.cells (cellsB (fillN n j s)).toArray 5 (0, 0))
theorem meas7 (n j : Nat) (h : j < n) : n - (intOf (.int .i64 ((j : Int) + 1))).toNat < n - (intOf (.int .i64 (j : Int))).toNat := by
  simp only [intOf]
  omega
set_option maxRecDepth 20000 in
set_option maxHeartbeats 2000000 in
theorem takeHere_any (r : Nat) (s : RS) (kind n : Nat) (w : World) (h : IsR w r s) (hn : n ≤ 5000) :
    Calls Tryz.prog 102 #[RPtr r, .int .u8 (kind : Nat), .int .u64 (n : Nat)] w (HerePost r kind n s w) := by
  obtain ⟨i, hi, hz, hsz, hby⟩ := info_parts infoU8
  have hmk : ∀ w, (Instr.makeSlice 22 (.int .u64 (n : Nat)) (.int .u64 (n : Nat))).run Tryz.prog w = .ok (.slice (some ⟨w.heap.size, 0, none⟩) n n) (w.alloc (.cells (cellsB (List.replicate n 0)).toArray 5)) := fun w => by
    rw [← made_zeros]
    exact run_make_row 22 5 i _ Tryz.underlying22 hi hz hsz rfl .u64 .u64 n (by rw [hby]; omega) (by omega) w
  have hlt := h.lt
  have hp := h.proper
  have hst := here_state (kind := kind) (n := n) hp
  have HI := Lib.hid hi; have HSZ := Lib.hid hsz
  have HST := Lib.hid hst; have HLT := Lib.hid hlt
  have hS : HereRel r n s w (.int .i64 0) ((w.alloc (.cells ZC 90)).alloc (.cells (cellsB (List.replicate n 0)).toArray 5)) :=
    ⟨0, Nat.zero_le _, rfl, (((Ch.refl _ _).alloc _).alloc _), h.ext (((Ch.refl _ _).alloc _).alloc _), heap_alloc2_old w _ _, by rw [fillN_zero]; exact heap_alloc2_new w _ _⟩
  have HS := Lib.hid hS
  have hsw : (w.alloc (.cells ZC 90)).heap.size = w.heap.size + 1 := by simp
  have HOF := Lib.hid (fun w => cof_any ⟨kind, 0, 0, 0, (readN n s).1⟩ w)
  have HVR := Lib.hid (fun w => vright_any ⟨kind, 0, 0, 0, (readN n s).1⟩ w)
  have HN := Lib.hid hn
  clear h hi hz hsz hby hlt hp hst hS
  unfold RPtr at *
  go_enter Tryz.func102, Tryz.ntmps102
  go_wp2
  unfold ZC at HS
  go_loopw [14] (fun ix wr => HereRel r n s w ix wr) (fun ix _ => n - (intOf ix).toNat)
  case atStart => exact HS.out
  case round =>
    obtain ⟨j, hj, rfl, hx, hr, h0, hg⟩ := hrel
    have HX := Lib.hid hx; have HR := Lib.hid hr; have H0 := Lib.hid h0; have HG := Lib.hid hg
    clear hx hr h0 hg hmk
    by_cases hlt : j < n
    · have hlen := fillN_length s hj
      have hb := byteR_lt (readN j s).2
      have HBY := Lib.hid (byte_any r _ wr HR.out)
      have HNX : Hid (readN (j + 1) s = (fillN n j s ++ [], (byteR (readN j s).2).2) ∨ (readN (j + 1) s).2 = (byteR (readN j s).2).2) := Lib.hid (.inr rfl)
      have HSET := Lib.hid (fillN_set s hlt)
      generalize (byteR (readN j s).2).1 = x at *
      have HB := Lib.hid hb; have HLEN := Lib.hid hlen
      have HJN := Lib.hid hlt
      clear hb hlen
      unfold RPtr at *
      go_wp2_with (go_at_call 52; refine HBY.out.mono ?_)
      rintro e w1 ⟨rfl, k1, k2⟩
      have HX1 := Lib.hid (HX.out.trans k1); have H1 := Lib.hid k2
      have HZ1 : Hid (w1.heap[w.heap.size]? = some (.cells ZC 90 (0, 0))) := Lib.hid (heap_of_only k1 (by have := HLT.out; omega) H0.out)
      have HG1 : Hid (w1.heap[w.heap.size + 1]? = some (.cells (cellsB (fillN n j s)).toArray 5 (0, 0))) := Lib.hid (heap_of_only k1 (by have := HLT.out; omega) HG.out)
      have hjl : j < (fillN n j s).length := by rw [HLEN.out]; exact hlt
      have hc0 : w1.cell? ⟨w.heap.size + 1, j, none⟩ = some (cellB (fillN n j s)[j]) := by rw [cell_of_row _ _ _ _ _ _ HG1.out]; simp [cellsB, hjl]
      have hf0 := frozen_of_row w1 (w.heap.size + 1) j _ _ HG1.out
      have hi0 : (Instr.indexAt 22 (.slice (some ⟨w.heap.size + 1, 0, none⟩) n n) (.int .i64 (j : Nat))).run Tryz.prog w1 = .ok (.pointer (some ⟨w.heap.size + 1, j, none⟩)) w1 := by
        have := run_indexSl w1 Tryz.underlying22 HI.out HSZ.out (w.heap.size + 1) 0 n n j hlt
        rwa [Nat.mul_one, Nat.zero_add] at this
      have hst : (store ⟨w.heap.size + 1, j, none⟩ (.int .u8 (x : Nat))).run Tryz.prog w1 = .ok () (w1.setCell ⟨w.heap.size + 1, j, none⟩ (.int .u8 (x : Nat))) := by
        rw [run_store Tryz.prog w1 _ _ _ rfl, hc0]; simp [hf0]
      obtain ⟨ov, hov⟩ : ∃ ov, w1.cell? ⟨w.heap.size + 1, j, none⟩ = some ov := ⟨_, hc0⟩
      have hJ : HereRel r n s w (.int .i64 ((j + 1 : Nat) : Int)) (w1.setCell ⟨w.heap.size + 1, j, none⟩ (.int .u8 (x : Nat))) := by
        refine ⟨j + 1, hlt, rfl, HX1.out.setCell (.inr (by show w.heap.size ≤ w.heap.size + 1; omega)) _, ?_, ?_, ?_⟩
        · exact H1.out.above (Ch.setCell (p := ⟨w.heap.size + 1, j, none⟩) (Ch.refl _ _) (.inl (by have := HLT.out; show r < w.heap.size + 1; omega)) _)
        · rw [heap_setCell_other w1 ⟨w.heap.size + 1, j, none⟩ w.heap.size _ (by simp)]; exact HZ1.out
        · rw [heap_setCell_same w1 (w.heap.size + 1) j _ _ _ HG1.out, cellsB_set HB.out, HSET.out]
      have HJ := Lib.hid hJ
      clear hJ hc0 hst k1 k2 hjl
      go_wp2
      exact ⟨HJ.out, meas7 n j HJN.out⟩
    · have hjn : j = n := by omega
      subst hjn
      have hbs : (readN j s).1.length = j := readN_length j s
      obtain ⟨bs, hbe⟩ : ∃ bs, bs = (readN j s).1 := ⟨_, rfl⟩
      rw [fillN_all, ← hbe] at HG
      rw [← hbe] at HOF HVR hbs
      have hrd : Rd wr (.slice (some ⟨w.heap.size + 1, 0, none⟩) j j) bs := rd_of_heap HG.out hbs (by have := HN.out; unfold maxLen; omega)
      have hs1 := run_toString (P := Tryz.prog) hrd (src := 22) (dst := 9) Tryz.underlying22 Tryz.underlying5 Tryz.underlying9
      unfold strV at hs1
      have HBE := Lib.hid hbe
      obtain ⟨A, hA⟩ : ∃ A : ByteArray, A = ⟨bs.toArray⟩ := ⟨_, rfl⟩
      rw [← hA] at hs1
      have hbd := build61_03 wr kind A
      have HA := Lib.hid hA
      have HHS : Hid (failR (readN j s).2 (vErr ⟨kind, 0, 0, 0, bs⟩ : Nat) = (hereR kind j s).2 ∧ ((hereR kind j s).2.2 = 0 → bs = (takeR j s).1)) := Lib.hid (by rw [HBE.out]; exact HST.out)
      have hq := heap_alloc_new wr (.cells #[.int .u8 0, .int .i64 0, .complex .f64 0 0, .string ⟨#[]⟩] 88)
      obtain ⟨W1, hW1⟩ : ∃ W1, W1 = (wr.alloc (.cells #[.int .u8 0, .int .i64 0, .complex .f64 0 0, .string ⟨#[]⟩] 88)).setRow wr.heap.size #[.int .u8 (kind : Nat), .int .i64 0, .complex .f64 0 0, .string A] := ⟨_, rfl⟩
      have hx1 : Ext wr W1 := by rw [hW1]; exact ((Ch.refl _ _).alloc _).setRow (.inr (Nat.le_refl _)) _
      have HQ := Lib.hid hq
      have HG2 : Hid (W1.heap[wr.heap.size]? = some (.cells #[.int .u8 (kind : Nat), .int .i64 0, .complex .f64 0 0, .string A] 88 (0, 0))) := Lib.hid (by rw [hW1]; exact setRow_heap _ _ _ _ _ _ hq)
      have HX1 : Hid (Only r w W1) := Lib.hid (HX.out.trans hx1.ch)
      have HZ1 := Lib.hid (heap_of_ext hx1 H0.out)
      have H1 := Lib.hid (HR.out.ext hx1)
      have HW1 := Lib.hid hW1
      have HV1 : Hid (∀ w, Calls Tryz.prog 75 #[.agg #[.int .u8 (kind : Nat), .int .i64 0, .complex .f64 0 0, .string A]] w fun e w' => e = .returned (.int .i64 (vErr ⟨kind, 0, 0, 0, bs⟩ : Nat)) ∧ Ext w w') := Lib.hid fun w => by have := HVR.out w; rw [HA.out]; exact this
      have HO1 : Hid (∀ w, Calls Tryz.prog 81 #[.agg #[.int .u8 (kind : Nat), .int .i64 0, .complex .f64 0 0, .string A]] w (PcPost ⟨2, ⟨kind, 0, 0, 0, bs⟩⟩ w)) := Lib.hid fun w => by have := HOF.out w; rw [HA.out]; exact this
      generalize vErr ⟨kind, 0, 0, 0, bs⟩ = er at *
      have HPC : Hid (pc ⟨2, ⟨kind, 0, 0, 0, bs⟩⟩ = pc ⟨2, ⟨kind, 0, 0, 0, bs⟩⟩) := Lib.hid rfl
      have HF := Lib.hid (fun w h => fail_any r (readN j s).2 (er : Nat) w h)
      unfold RPtr at HF
      have HGW := Lib.hid (Array.getElem?_eq_some_iff.1 H0.out).1
      have HRW : Hid (wr.heap.size ≠ r) := Lib.hid (by have h1 := HGW.out; have h2 := HLT.out; omega)
      clear hW1 hq hx1 hrd hbs hA hbe
      go_wp2_with (first
        | (refine wpList_store_rowTo rfl _ _ _ rfl rfl wr.heap.size #[.int .u8 (kind : Nat), .int .i64 0, .complex .f64 0 0, .string A] rfl rfl _ _ HQ.out info61 rfl (prow_one _ _ _ _ _) ?_; rw [← HW1.out])
        | (refine wpList_load_row rfl _ _ rfl wr.heap.size rfl _ _ _ _ HG2.out Tryz.underlying88 rfl info61 ?_)
        | (go_at_call 75; refine (HV1.out _).mono ?_))
      rintro e w2 rfl k1
      have HX2 := Lib.hid (HX1.out.trans k1.ch); have H2 := Lib.hid (H1.out.ext k1); have HZ2 := Lib.hid (heap_of_ext k1 HZ1.out); have HG3 := Lib.hid (heap_of_ext k1 HG2.out)
      clear k1
      go_wp2_with (go_at_call 26; refine (HF.out _ H2.out).mono ?_)
      rintro e w3 ⟨rfl, k1, k2⟩
      have HX3 := Lib.hid (HX2.out.trans k1); have H3 := Lib.hid k2
      have HZ3 := Lib.hid (heap_of_only k1 (by have := HLT.out; omega) HZ2.out); have HG4 := Lib.hid (heap_of_only k1 HRW.out HG3.out)
      clear k1 k2
      go_wp2_with (first
        | (refine wpList_load_row rfl _ _ rfl wr.heap.size rfl _ _ _ _ HG4.out Tryz.underlying88 rfl info61 ?_)
        | (go_at_call 81; refine (HO1.out _).mono ?_))
      rintro e w4 ⟨rfl, k1⟩
      have HX4 := Lib.hid (HX3.out.trans k1.ch); have H4 := Lib.hid (H3.out.ext k1); have HZ4 := Lib.hid (heap_of_ext k1 HZ3.out)
      clear k1
      go_wp2_with (refine wpList_store_rowTo rfl _ _ _ rfl rfl w.heap.size (pcv ⟨2, ⟨kind, 0, 0, 0, bs⟩⟩) rfl rfl _ _ HZ4.out infoPC rfl (pcv_one _) ?_)
      refine bodyPost_ret (results_cell_row rfl _ _ w.heap.size _ (pcv ⟨2, ⟨kind, 0, 0, 0, bs⟩⟩) _ _ rfl (setRow_heap _ _ _ _ _ _ HZ4.out) Tryz.underlying90 rfl infoPC) rfl ?_
      exact ⟨bs, rfl, HX4.out.setRow (.inr (Nat.le_refl _)) _, by rw [← HHS.out.1]; exact H4.out.above ((Ch.refl _ _).setRow (.inl HLT.out) _), HHS.out.2⟩
end Go.Proofs.YtegclfpmgilnpaaGreat
namespace Go.Proofs.YtegclfpmgilnpaaGreat
open Go.RowKit Go.Lac
section
variable {e : Int} (he : e ≠ 0)
include he
theorem rawR_gone (ver k : Nat) : (rawR ver k ([], e)).2 = ([], e) := by
  unfold rawR
  split
  · rw [byteR_gone' he]
  split
  · split
    · rw [wordR_gone' he]
    · rw [intR_gone' he]
  split
  · exact fltR_gone' he ver
  split
  · split
    · rw [wordR_gone' he]; simp only; rw [wordR_gone' he]
    · have := tCplx_gone he 2
      rw [tCplx_two] at this
      exact this
  split
  · rw [textR_gone' he]
  · rfl
theorem tPre_gone (ver k : Nat) : tPre ver k ([], e) = ([], e) := by
  unfold tPre
  simp only
  rw [failR_gone he]
  split <;> (split <;> first | rfl | exact failR_gone he _)
theorem tTake_gone (ver k : Nat) : tTake ver k ([], e) = vTake ver k ([], e) := by
  unfold tTake vTake
  rw [tPre_gone he, tRaw_gone he, if_pos he]
  split
  · rw [failR_gone he]
  · rw [rawR_gone he, failR_gone he, if_pos he]
theorem vTake_gone (ver k : Nat) : vTake ver k ([], e) = (.zero, ([], e)) := by
  rw [← tTake_gone he]
  unfold tTake
  rw [tPre_gone he, tRaw_gone he, if_pos he]
end
theorem tTake_any (ver k : Nat) {s : RS} (hp : s.2 ≠ 0 → s.1 = []) : tTake ver k s = vTake ver k s := by
  obtain ⟨l, e⟩ := s
  by_cases h : e = 0
  · subst h; exact tTake_eq ver k l
  · have := hp h
    simp only at this
    subst this
    exact tTake_gone h ver k
theorem vtake_any (r : Nat) (s : RS) (ver k : Nat) (w : World) (h : IsR w r s) :
    Calls Tryz.prog 82 #[RPtr r, .int .u8 (k : Nat), .int .u8 (ver : Nat)] w (TkPost r (vTake ver k s).1 (vTake ver k s).2 w) := by
  rw [← tTake_any ver k h.proper]
  by_cases hv : ver = 1 ∨ ver = 2
  · by_cases hk : 1 ≤ k ∧ k ≤ 6
    · have hk' : k = 1 ∨ k = 2 ∨ k = 3 ∨ k = 4 ∨ k = 5 ∨ k = 6 := by omega
      rcases hk' with h' | h' | h' | h' | h' | h'
      · exact take_ok_1 r _ ver k w h hv h'
      · exact take_ok_2 r _ ver k w h hv h'
      · exact take_ok_3 r _ ver k w h hv h'
      · exact take_ok_4 r _ ver k w h hv h'
      · exact take_ok_5 r _ ver k w h hv h'
      · exact take_ok_6 r _ ver k w h hv h'
    · exact take_ok_bt r _ ver k w h hv (by omega)
  · by_cases hk : 1 ≤ k ∧ k ≤ 6
    · have hk' : k = 1 ∨ k = 2 ∨ k = 3 ∨ k = 4 ∨ k = 5 ∨ k = 6 := by omega
      rcases hk' with h' | h' | h' | h' | h' | h'
      · exact take_bv_1 r _ ver k w h (by omega) h'
      · exact take_bv_2 r _ ver k w h (by omega) h'
      · exact take_bv_3 r _ ver k w h (by omega) h'
      · exact take_bv_4 r _ ver k w h (by omega) h'
      · exact take_bv_5 r _ ver k w h (by omega) h'
      · exact take_bv_6 r _ ver k w h (by omega) h'
    · exact take_bv_bt r _ ver k w h (by omega) (by omega)
def CkPost (r : Nat) (x : Cel × Nat) (s' : RS) (w : World) (e : Ending) (w' : World) : Prop :=
  ∃ (c : Cel) (n : Nat), e = .returned (.tuple #[pc c, .int .i64 (n : Nat)]) ∧ Only r w w' ∧ IsR w' r s' ∧ (s'.2 = 0 → (c, n) = x)
theorem buildPC_1 (w : World) : (Instr.build 90 #[(0, .int .u8 1)]).run Tryz.prog w = .ok (.agg #[.int .u8 1, .int .u8 0, .int .i64 0, .complex .f64 0 0, .string ⟨#[]⟩]) w := by kernel_rfl
set_option maxRecDepth 20000 in
set_option maxHeartbeats 2000000 in
theorem joined_same (r : Nat) (s : RS) (kind : Nat) (w : World) (h : IsR w r s) (hn : (uintR 66 s).1 = 0) :
    Calls Tryz.prog 80 #[RPtr r, .int .u8 (kind : Nat)] w (CkPost r (joinedR kind s).1 (joinedR kind s).2 w) := by
  have HV : Hid (joinedR kind s = ((sameC, 0), (uintR 66 s).2)) := Lib.hid (by unfold joinedR; rw [if_pos hn])
  have HP : Hid (∀ (c : Cel) (n : Nat) w', Only r w w' → IsR w' r ((sameC, 0), (uintR 66 s).2).2 → (((sameC, 0), (uintR 66 s).2).2.2 = 0 → (c, n) = ((sameC, 0), (uintR 66 s).2).1) → CkPost r (joinedR kind s).1 (joinedR kind s).2 w (.returned (.tuple #[pc c, .int .i64 (n : Nat)])) w') := Lib.hid fun c n w' h1 h2 h3 => by rw [HV.out]; exact ⟨c, n, rfl, h1, h2, h3⟩
  have hle := uintR_le 66 s
  have hlt := h.lt
  have hx0 : Ext w (w.alloc (.cells #[.int .u8 0, .int .u8 0, .int .i64 0, .complex .f64 0 0, .string ⟨#[]⟩] 90)) := (Ch.refl _ _).alloc _
  have HG0 := Lib.hid (heap_alloc_new w (.cells #[.int .u8 0, .int .u8 0, .int .i64 0, .complex .f64 0 0, .string ⟨#[]⟩] 90))
  have HX0 : Hid (Only r w (w.alloc (.cells #[.int .u8 0, .int .u8 0, .int .i64 0, .complex .f64 0 0, .string ⟨#[]⟩] 90))) := Lib.hid hx0.ch
  have HLT := Lib.hid hlt
  have HU := Lib.hid (uint_any r s 66 _ (h.ext hx0))
  generalize (uintR 66 s).1 = n at *
  generalize (uintR 66 s).2 = s1 at *
  subst hn
  clear h hx0 hlt HV
  have hb1 := fun w => buildPC_1 w
  unfold RPtr at *
  go_enter Tryz.func80, Tryz.ntmps80
  go_wp2_with (go_at_call 103; refine HU.out.mono ?_)
  rintro e w1 ⟨rfl, k1, k2⟩
  have HX1 := Lib.hid (HX0.out.trans k1); have H1 := Lib.hid k2
  have HG1 := Lib.hid (heap_of_only k1 (by have := HLT.out; omega) HG0.out)
  clear k1 k2
  go_wp2_with (first
    | (refine wpList_store_rowTo rfl _ _ _ rfl rfl w.heap.size #[.int .u8 1, .int .u8 0, .int .i64 0, .complex .f64 0 0, .string ⟨#[]⟩] rfl rfl _ _ HG1.out infoPC rfl (by simp [Value.oneCell']) ?_))
  refine bodyPost_ret (results_cell2 rfl _ _ w.heap.size _ (pcv sameC) _ _ rfl (setRow_heap _ _ _ _ _ _ HG1.out) Tryz.underlying90 rfl infoPC) rfl ?_
  exact HP.out sameC 0 _ (HX1.out.setRow (.inr (Nat.le_refl _)) _) (H1.out.above ((Ch.refl _ _).setRow (.inl HLT.out) _)) fun _ => rfl
set_option maxRecDepth 20000 in
set_option maxHeartbeats 2000000 in
theorem joined_away (r : Nat) (s : RS) (kind : Nat) (w : World) (h : IsR w r s) (hn : (uintR 66 s).1 = 1) :
    Calls Tryz.prog 80 #[RPtr r, .int .u8 (kind : Nat)] w (CkPost r (joinedR kind s).1 (joinedR kind s).2 w) := by
  have HV : Hid (joinedR kind s = ((bigC kind, (awayR (uintR 66 s).2).1), (awayR (uintR 66 s).2).2)) := Lib.hid (by unfold joinedR; rw [if_neg (by omega), if_pos hn])
  have HP : Hid (∀ (c : Cel) (n : Nat) w', Only r w w' → IsR w' r ((bigC kind, (awayR (uintR 66 s).2).1), (awayR (uintR 66 s).2).2).2 → (((bigC kind, (awayR (uintR 66 s).2).1), (awayR (uintR 66 s).2).2).2.2 = 0 → (c, n) = ((bigC kind, (awayR (uintR 66 s).2).1), (awayR (uintR 66 s).2).2).1) → CkPost r (joinedR kind s).1 (joinedR kind s).2 w (.returned (.tuple #[pc c, .int .i64 (n : Nat)])) w') := Lib.hid fun c n w' h1 h2 h3 => by rw [HV.out]; exact ⟨c, n, rfl, h1, h2, h3⟩
  have hle := uintR_le 66 s
  have hlt := h.lt
  have hx0 : Ext w (w.alloc (.cells #[.int .u8 0, .int .u8 0, .int .i64 0, .complex .f64 0 0, .string ⟨#[]⟩] 90)) := (Ch.refl _ _).alloc _
  have HG0 := Lib.hid (heap_alloc_new w (.cells #[.int .u8 0, .int .u8 0, .int .i64 0, .complex .f64 0 0, .string ⟨#[]⟩] 90))
  have HX0 : Hid (Only r w (w.alloc (.cells #[.int .u8 0, .int .u8 0, .int .i64 0, .complex .f64 0 0, .string ⟨#[]⟩] 90))) := Lib.hid hx0.ch
  have HLT := Lib.hid hlt
  have HU := Lib.hid (uint_any r s 66 _ (h.ext hx0))
  generalize (uintR 66 s).1 = n at *
  generalize (uintR 66 s).2 = s1 at *
  subst hn
  have HAW := Lib.hid (fun w h => takeAway_any r s1 kind w h)
  clear h hx0 hlt HV
  unfold RPtr at *
  go_enter Tryz.func80, Tryz.ntmps80
  go_wp2_with (go_at_call 103; refine HU.out.mono ?_)
  rintro e w1 ⟨rfl, k1, k2⟩
  have HX1 := Lib.hid (HX0.out.trans k1); have H1 := Lib.hid k2
  have HG1 := Lib.hid (heap_of_only k1 (by have := HLT.out; omega) HG0.out)
  clear k1 k2
  go_wp2_with (first
    | (go_at_call 101; refine (HAW.out _ H1.out).mono ?_))
  rintro e w9 ⟨rfl, k1, k2⟩
  have HX9 := Lib.hid (HX1.out.trans k1); have H9 := Lib.hid k2
  have HG9 := Lib.hid (heap_of_only k1 (by have := HLT.out; omega) HG1.out)
  clear k1 k2
  go_wp2_with (first
    | (refine wpList_store_rowTo rfl _ _ _ rfl rfl w.heap.size (pcv (bigC kind)) rfl rfl _ _ HG9.out infoPC rfl (pcv_one _) ?_))
  refine bodyPost_ret (results_cell2 rfl _ _ w.heap.size _ (pcv (bigC kind)) _ _ rfl (setRow_heap _ _ _ _ _ _ HG9.out) Tryz.underlying90 rfl infoPC) rfl ?_
  exact HP.out (bigC kind) _ _ (HX9.out.setRow (.inr (Nat.le_refl _)) _) (H9.out.above ((Ch.refl _ _).setRow (.inl HLT.out) _)) fun _ => rfl
set_option maxRecDepth 20000 in
set_option maxHeartbeats 2000000 in
theorem joined_here (r : Nat) (s : RS) (kind : Nat) (w : World) (h : IsR w r s) (hn : 2 ≤ (uintR 66 s).1) :
    Calls Tryz.prog 80 #[RPtr r, .int .u8 (kind : Nat)] w (CkPost r (joinedR kind s).1 (joinedR kind s).2 w) := by
  have HV : Hid (joinedR kind s = (((hereR kind ((uintR 66 s).1 - 2) (uintR 66 s).2).1, 0), (hereR kind ((uintR 66 s).1 - 2) (uintR 66 s).2).2)) := Lib.hid (by unfold joinedR; rw [if_neg (by omega), if_neg (by omega)])
  have HP : Hid (∀ (c : Cel) (n : Nat) w', Only r w w' → IsR w' r (((hereR kind ((uintR 66 s).1 - 2) (uintR 66 s).2).1, 0), (hereR kind ((uintR 66 s).1 - 2) (uintR 66 s).2).2).2 → ((((hereR kind ((uintR 66 s).1 - 2) (uintR 66 s).2).1, 0), (hereR kind ((uintR 66 s).1 - 2) (uintR 66 s).2).2).2.2 = 0 → (c, n) = (((hereR kind ((uintR 66 s).1 - 2) (uintR 66 s).2).1, 0), (hereR kind ((uintR 66 s).1 - 2) (uintR 66 s).2).2).1) → CkPost r (joinedR kind s).1 (joinedR kind s).2 w (.returned (.tuple #[pc c, .int .i64 (n : Nat)])) w') := Lib.hid fun c n w' h1 h2 h3 => by rw [HV.out]; exact ⟨c, n, rfl, h1, h2, h3⟩
  have hle := uintR_le 66 s
  have hlt := h.lt
  have hx0 : Ext w (w.alloc (.cells #[.int .u8 0, .int .u8 0, .int .i64 0, .complex .f64 0 0, .string ⟨#[]⟩] 90)) := (Ch.refl _ _).alloc _
  have HG0 := Lib.hid (heap_alloc_new w (.cells #[.int .u8 0, .int .u8 0, .int .i64 0, .complex .f64 0 0, .string ⟨#[]⟩] 90))
  have HX0 : Hid (Only r w (w.alloc (.cells #[.int .u8 0, .int .u8 0, .int .i64 0, .complex .f64 0 0, .string ⟨#[]⟩] 90))) := Lib.hid hx0.ch
  have HLT := Lib.hid hlt
  have HU := Lib.hid (uint_any r s 66 _ (h.ext hx0))
  generalize (uintR 66 s).1 = n at *
  generalize (uintR 66 s).2 = s1 at *
  have HHR := Lib.hid (fun w h => takeHere_any r s1 kind (n - 2) w h (by omega))
  have e0 : (((n : Nat) : Int) == 0) = false := by simp; omega
  have e1 : (((n : Nat) : Int) == 1) = false := by simp; omega
  have hw : IntKind.u64.wrap ((n : Int) - 2) = ((n - 2 : Nat) : Int) := by rw [IntKind.wrap_u64]; omega
  obtain ⟨m, hm⟩ : ∃ m, m = n - 2 := ⟨_, rfl⟩
  rw [← hm] at hw HHR HP
  clear hm
  clear h hx0 hlt HV
  unfold RPtr at *
  go_enter Tryz.func80, Tryz.ntmps80
  go_wp2_with (go_at_call 103; refine HU.out.mono ?_)
  rintro e w1 ⟨rfl, k1, k2⟩
  have HX1 := Lib.hid (HX0.out.trans k1); have H1 := Lib.hid k2
  have HG1 := Lib.hid (heap_of_only k1 (by have := HLT.out; omega) HG0.out)
  clear k1 k2
  go_wp2_with (first
    | (go_at_call 102; refine (HHR.out _ H1.out).mono ?_))
  rintro e w9 ⟨t, rfl, k1, k2, k3⟩
  have HX9 := Lib.hid (HX1.out.trans k1); have H9 := Lib.hid k2; have HT := Lib.hid k3
  have HG9 := Lib.hid (heap_of_only k1 (by have := HLT.out; omega) HG1.out)
  clear k1 k2 k3
  go_wp2_with (first
    | (refine wpList_store_rowTo rfl _ _ _ rfl rfl w.heap.size (pcv ⟨2, ⟨kind, 0, 0, 0, t⟩⟩) rfl rfl _ _ HG9.out infoPC rfl (pcv_one _) ?_))
  refine bodyPost_ret (results_cell2 rfl _ _ w.heap.size _ (pcv ⟨2, ⟨kind, 0, 0, 0, t⟩⟩) _ _ rfl (setRow_heap _ _ _ _ _ _ HG9.out) Tryz.underlying90 rfl infoPC) rfl ?_
  exact HP.out ⟨2, ⟨kind, 0, 0, 0, t⟩⟩ 0 _ (HX9.out.setRow (.inr (Nat.le_refl _)) _) (H9.out.above ((Ch.refl _ _).setRow (.inl HLT.out) _)) fun h0 => by rw [HT.out h0]; rfl
theorem joined_any (r : Nat) (s : RS) (kind : Nat) (w : World) (h : IsR w r s) :
    Calls Tryz.prog 80 #[RPtr r, .int .u8 (kind : Nat)] w (CkPost r (joinedR kind s).1 (joinedR kind s).2 w) := by
  by_cases h0 : (uintR 66 s).1 = 0
  · exact joined_same r s kind w h h0
  by_cases h1 : (uintR 66 s).1 = 1
  · exact joined_away r s kind w h h1
  · exact joined_here r s kind w h (by omega)
set_option maxRecDepth 20000 in
set_option maxHeartbeats 2000000 in
theorem parted_0T (r : Nat) (s : RS) (kind : Nat) (w : World) (h : IsR w r s) (hb : (byteR s).1 = 0) (ht : texty kind = true) :
    Calls Tryz.prog 78 #[RPtr r, .int .u8 (kind : Nat)] w (CkPost r (partedR kind s).1 (partedR kind s).2 w) := by
  have HV : Hid (partedR kind s = ((sameC, 0), (byteR s).2)) := Lib.hid (by have hh : headR kind s = (byteR s).2 := (by unfold headR; rw [if_neg (by rintro (h | h) <;> first | omega | (rw [ht] at h; simp at h))]); unfold partedR; rw [hh]; rw [if_pos hb])
  have HP : Hid (∀ (c : Cel) (n : Nat) w', Only r w w' → IsR w' r ((sameC, 0), (byteR s).2).2 → (((sameC, 0), (byteR s).2).2.2 = 0 → (c, n) = ((sameC, 0), (byteR s).2).1) → CkPost r (partedR kind s).1 (partedR kind s).2 w (.returned (.tuple #[pc c, .int .i64 (n : Nat)])) w') := Lib.hid fun c n w' h1 h2 h3 => by rw [HV.out]; exact ⟨c, n, rfl, h1, h2, h3⟩
  have hlt := h.lt
  have hx0 : Ext w (w.alloc (.cells #[.int .u8 0, .int .u8 0, .int .i64 0, .complex .f64 0 0, .string ⟨#[]⟩] 90)) := (Ch.refl _ _).alloc _
  have HG0 := Lib.hid (heap_alloc_new w (.cells #[.int .u8 0, .int .u8 0, .int .i64 0, .complex .f64 0 0, .string ⟨#[]⟩] 90))
  have HX0 : Hid (Only r w (w.alloc (.cells #[.int .u8 0, .int .u8 0, .int .i64 0, .complex .f64 0 0, .string ⟨#[]⟩] 90))) := Lib.hid hx0.ch
  have HLT := Lib.hid hlt
  have HU := Lib.hid (byte_any r s _ (h.ext hx0))
  generalize (byteR s).1 = b at *
  generalize (byteR s).2 = s1 at *
  have HIT := Lib.hid (fun w => cIsText_any kind w)
  rw [ht] at HIT
  subst hb
  have hb1 := fun w => buildPC_1 w
  clear h hx0 hlt HV
  unfold RPtr at *
  go_enter Tryz.func78, Tryz.ntmps78
  go_wp2_with (go_at_call 52; refine HU.out.mono ?_)
  rintro e w1 ⟨rfl, k1, k2⟩
  have HX1 := Lib.hid (HX0.out.trans k1); have H1 := Lib.hid k2
  have HG1 := Lib.hid (heap_of_only k1 (by have := HLT.out; omega) HG0.out)
  clear k1 k2
  go_wp2_with (first
    | (go_at_call 79; refine (HIT.out _).mono ?_; rintro e w' ⟨rfl, rfl⟩)
    | (refine wpList_store_rowTo rfl _ _ _ rfl rfl w.heap.size #[.int .u8 1, .int .u8 0, .int .i64 0, .complex .f64 0 0, .string ⟨#[]⟩] rfl rfl _ _ HG1.out infoPC rfl (by simp [Value.oneCell']) ?_))
  refine bodyPost_ret (results_cell2 rfl _ _ w.heap.size _ (pcv sameC) _ _ rfl (setRow_heap _ _ _ _ _ _ HG1.out) Tryz.underlying90 rfl infoPC) rfl ?_
  exact HP.out sameC 0 _ (HX1.out.setRow (.inr (Nat.le_refl _)) _) (H1.out.above ((Ch.refl _ _).setRow (.inl HLT.out) _)) fun _ => rfl
set_option maxRecDepth 20000 in
set_option maxHeartbeats 2000000 in
theorem parted_0F (r : Nat) (s : RS) (kind : Nat) (w : World) (h : IsR w r s) (hb : (byteR s).1 = 0) (ht : texty kind = false) :
    Calls Tryz.prog 78 #[RPtr r, .int .u8 (kind : Nat)] w (CkPost r (partedR kind s).1 (partedR kind s).2 w) := by
  have HV : Hid (partedR kind s = ((sameC, 0), failR (byteR s).2 7)) := Lib.hid (by have hh : headR kind s = failR (byteR s).2 7 := (by unfold headR; rw [if_pos (by exact .inr ⟨by omega, ht⟩)]); unfold partedR; rw [hh]; rw [if_pos hb])
  have HP : Hid (∀ (c : Cel) (n : Nat) w', Only r w w' → IsR w' r ((sameC, 0), failR (byteR s).2 7).2 → (((sameC, 0), failR (byteR s).2 7).2.2 = 0 → (c, n) = ((sameC, 0), failR (byteR s).2 7).1) → CkPost r (partedR kind s).1 (partedR kind s).2 w (.returned (.tuple #[pc c, .int .i64 (n : Nat)])) w') := Lib.hid fun c n w' h1 h2 h3 => by rw [HV.out]; exact ⟨c, n, rfl, h1, h2, h3⟩
  have hlt := h.lt
  have hx0 : Ext w (w.alloc (.cells #[.int .u8 0, .int .u8 0, .int .i64 0, .complex .f64 0 0, .string ⟨#[]⟩] 90)) := (Ch.refl _ _).alloc _
  have HG0 := Lib.hid (heap_alloc_new w (.cells #[.int .u8 0, .int .u8 0, .int .i64 0, .complex .f64 0 0, .string ⟨#[]⟩] 90))
  have HX0 : Hid (Only r w (w.alloc (.cells #[.int .u8 0, .int .u8 0, .int .i64 0, .complex .f64 0 0, .string ⟨#[]⟩] 90))) := Lib.hid hx0.ch
  have HLT := Lib.hid hlt
  have HU := Lib.hid (byte_any r s _ (h.ext hx0))
  generalize (byteR s).1 = b at *
  generalize (byteR s).2 = s1 at *
  have HIT := Lib.hid (fun w => cIsText_any kind w)
  rw [ht] at HIT
  subst hb
  have HF := Lib.hid (fun w h => fail_any r s1 7 w h)
  generalize failR s1 7 = s2 at *
  have hb1 := fun w => buildPC_1 w
  clear h hx0 hlt HV
  unfold RPtr at *
  go_enter Tryz.func78, Tryz.ntmps78
  go_wp2_with (go_at_call 52; refine HU.out.mono ?_)
  rintro e w1 ⟨rfl, k1, k2⟩
  have HX1 := Lib.hid (HX0.out.trans k1); have H1 := Lib.hid k2
  have HG1 := Lib.hid (heap_of_only k1 (by have := HLT.out; omega) HG0.out)
  clear k1 k2
  go_wp2_with (first
    | (go_at_call 79; refine (HIT.out _).mono ?_; rintro e w' ⟨rfl, rfl⟩)
    | (go_at_call 26; refine (HF.out _ H1.out).mono ?_))
  rintro e w2 ⟨rfl, k1, k2⟩
  have HX2 := Lib.hid (HX1.out.trans k1); have H2 := Lib.hid k2
  have HG2 := Lib.hid (heap_of_only k1 (by have := HLT.out; omega) HG1.out)
  clear k1 k2
  go_wp2_with (first
    | (go_at_call 79; refine (HIT.out _).mono ?_; rintro e w' ⟨rfl, rfl⟩)
    | (refine wpList_store_rowTo rfl _ _ _ rfl rfl w.heap.size #[.int .u8 1, .int .u8 0, .int .i64 0, .complex .f64 0 0, .string ⟨#[]⟩] rfl rfl _ _ HG2.out infoPC rfl (by simp [Value.oneCell']) ?_))
  refine bodyPost_ret (results_cell2 rfl _ _ w.heap.size _ (pcv sameC) _ _ rfl (setRow_heap _ _ _ _ _ _ HG2.out) Tryz.underlying90 rfl infoPC) rfl ?_
  exact HP.out sameC 0 _ (HX2.out.setRow (.inr (Nat.le_refl _)) _) (H2.out.above ((Ch.refl _ _).setRow (.inl HLT.out) _)) fun _ => rfl
set_option maxRecDepth 20000 in
set_option maxHeartbeats 2000000 in
theorem parted_1T (r : Nat) (s : RS) (kind : Nat) (w : World) (h : IsR w r s) (hb : (byteR s).1 = 1) (ht : texty kind = true) :
    Calls Tryz.prog 78 #[RPtr r, .int .u8 (kind : Nat)] w (CkPost r (partedR kind s).1 (partedR kind s).2 w) := by
  have HV : Hid (partedR kind s = (((hereR kind (uintR 64 ((byteR s).2)).1 (uintR 64 ((byteR s).2)).2).1, 0), (hereR kind (uintR 64 ((byteR s).2)).1 (uintR 64 ((byteR s).2)).2).2)) := Lib.hid (by have hh : headR kind s = (byteR s).2 := (by unfold headR; rw [if_neg (by rintro (h | h) <;> omega)]); unfold partedR; rw [hh]; rw [if_neg (by omega), if_neg (by omega), if_pos ht])
  have HP : Hid (∀ (c : Cel) (n : Nat) w', Only r w w' → IsR w' r (((hereR kind (uintR 64 ((byteR s).2)).1 (uintR 64 ((byteR s).2)).2).1, 0), (hereR kind (uintR 64 ((byteR s).2)).1 (uintR 64 ((byteR s).2)).2).2).2 → ((((hereR kind (uintR 64 ((byteR s).2)).1 (uintR 64 ((byteR s).2)).2).1, 0), (hereR kind (uintR 64 ((byteR s).2)).1 (uintR 64 ((byteR s).2)).2).2).2.2 = 0 → (c, n) = (((hereR kind (uintR 64 ((byteR s).2)).1 (uintR 64 ((byteR s).2)).2).1, 0), (hereR kind (uintR 64 ((byteR s).2)).1 (uintR 64 ((byteR s).2)).2).2).1) → CkPost r (partedR kind s).1 (partedR kind s).2 w (.returned (.tuple #[pc c, .int .i64 (n : Nat)])) w') := Lib.hid fun c n w' h1 h2 h3 => by rw [HV.out]; exact ⟨c, n, rfl, h1, h2, h3⟩
  have hlt := h.lt
  have hx0 : Ext w (w.alloc (.cells #[.int .u8 0, .int .u8 0, .int .i64 0, .complex .f64 0 0, .string ⟨#[]⟩] 90)) := (Ch.refl _ _).alloc _
  have HG0 := Lib.hid (heap_alloc_new w (.cells #[.int .u8 0, .int .u8 0, .int .i64 0, .complex .f64 0 0, .string ⟨#[]⟩] 90))
  have HX0 : Hid (Only r w (w.alloc (.cells #[.int .u8 0, .int .u8 0, .int .i64 0, .complex .f64 0 0, .string ⟨#[]⟩] 90))) := Lib.hid hx0.ch
  have HLT := Lib.hid hlt
  have HU := Lib.hid (byte_any r s _ (h.ext hx0))
  generalize (byteR s).1 = b at *
  generalize (byteR s).2 = s1 at *
  have HIT := Lib.hid (fun w => cIsText_any kind w)
  rw [ht] at HIT
  subst hb
  have hle := uintR_le 64 s1
  have HU2 := Lib.hid (fun w h => uint_any r s1 64 w h)
  have HHR := Lib.hid (fun w h => takeHere_any r (uintR 64 s1).2 kind (uintR 64 s1).1 w h (by omega))
  generalize (uintR 64 s1).1 = m at *
  generalize (uintR 64 s1).2 = s3 at *
  clear h hx0 hlt HV
  unfold RPtr at *
  go_enter Tryz.func78, Tryz.ntmps78
  go_wp2_with (go_at_call 52; refine HU.out.mono ?_)
  rintro e w1 ⟨rfl, k1, k2⟩
  have HX1 := Lib.hid (HX0.out.trans k1); have H1 := Lib.hid k2
  have HG1 := Lib.hid (heap_of_only k1 (by have := HLT.out; omega) HG0.out)
  clear k1 k2
  go_wp2_with (first
    | (go_at_call 79; refine (HIT.out _).mono ?_; rintro e w' ⟨rfl, rfl⟩)
    | (go_at_call 103; refine (HU2.out _ H1.out).mono ?_))
  rintro e w3 ⟨rfl, k1, k2⟩
  have HX3 := Lib.hid (HX1.out.trans k1); have H3 := Lib.hid k2
  have HG3 := Lib.hid (heap_of_only k1 (by have := HLT.out; omega) HG1.out)
  clear k1 k2
  go_wp2_with (first
    | (go_at_call 102; refine (HHR.out _ H3.out).mono ?_))
  rintro e w9 ⟨t, rfl, k1, k2, k3⟩
  have HX9 := Lib.hid (HX3.out.trans k1); have H9 := Lib.hid k2; have HT := Lib.hid k3
  have HG9 := Lib.hid (heap_of_only k1 (by have := HLT.out; omega) HG3.out)
  clear k1 k2 k3
  go_wp2_with (first
    | (refine wpList_store_rowTo rfl _ _ _ rfl rfl w.heap.size (pcv ⟨2, ⟨kind, 0, 0, 0, t⟩⟩) rfl rfl _ _ HG9.out infoPC rfl (pcv_one _) ?_))
  refine bodyPost_ret (results_cell2 rfl _ _ w.heap.size _ (pcv ⟨2, ⟨kind, 0, 0, 0, t⟩⟩) _ _ rfl (setRow_heap _ _ _ _ _ _ HG9.out) Tryz.underlying90 rfl infoPC) rfl ?_
  exact HP.out ⟨2, ⟨kind, 0, 0, 0, t⟩⟩ 0 _ (HX9.out.setRow (.inr (Nat.le_refl _)) _) (H9.out.above ((Ch.refl _ _).setRow (.inl HLT.out) _)) fun h0 => by rw [HT.out h0]; rfl
set_option maxRecDepth 20000 in
set_option maxHeartbeats 2000000 in
theorem parted_1F (r : Nat) (s : RS) (kind : Nat) (w : World) (h : IsR w r s) (hb : (byteR s).1 = 1) (ht : texty kind = false) :
    Calls Tryz.prog 78 #[RPtr r, .int .u8 (kind : Nat)] w (CkPost r (partedR kind s).1 (partedR kind s).2 w) := by
  have HV : Hid (partedR kind s = ((Cel.mk 2 (vTake 1 kind ((byteR s).2)).1, 0), (vTake 1 kind ((byteR s).2)).2)) := Lib.hid (by have hh : headR kind s = (byteR s).2 := (by unfold headR; rw [if_neg (by rintro (h | h) <;> omega)]); unfold partedR; rw [hh]; rw [if_neg (by omega), if_neg (by omega), if_neg (by rw [ht]; simp)])
  have HP : Hid (∀ (c : Cel) (n : Nat) w', Only r w w' → IsR w' r ((Cel.mk 2 (vTake 1 kind ((byteR s).2)).1, 0), (vTake 1 kind ((byteR s).2)).2).2 → (((Cel.mk 2 (vTake 1 kind ((byteR s).2)).1, 0), (vTake 1 kind ((byteR s).2)).2).2.2 = 0 → (c, n) = ((Cel.mk 2 (vTake 1 kind ((byteR s).2)).1, 0), (vTake 1 kind ((byteR s).2)).2).1) → CkPost r (partedR kind s).1 (partedR kind s).2 w (.returned (.tuple #[pc c, .int .i64 (n : Nat)])) w') := Lib.hid fun c n w' h1 h2 h3 => by rw [HV.out]; exact ⟨c, n, rfl, h1, h2, h3⟩
  have hlt := h.lt
  have hx0 : Ext w (w.alloc (.cells #[.int .u8 0, .int .u8 0, .int .i64 0, .complex .f64 0 0, .string ⟨#[]⟩] 90)) := (Ch.refl _ _).alloc _
  have HG0 := Lib.hid (heap_alloc_new w (.cells #[.int .u8 0, .int .u8 0, .int .i64 0, .complex .f64 0 0, .string ⟨#[]⟩] 90))
  have HX0 : Hid (Only r w (w.alloc (.cells #[.int .u8 0, .int .u8 0, .int .i64 0, .complex .f64 0 0, .string ⟨#[]⟩] 90))) := Lib.hid hx0.ch
  have HLT := Lib.hid hlt
  have HU := Lib.hid (byte_any r s _ (h.ext hx0))
  generalize (byteR s).1 = b at *
  generalize (byteR s).2 = s1 at *
  have HIT := Lib.hid (fun w => cIsText_any kind w)
  rw [ht] at HIT
  subst hb
  have HTK := Lib.hid (fun w h => vtake_any r s1 1 kind w h)
  generalize (vTake 1 kind s1).1 = tv at *
  generalize (vTake 1 kind s1).2 = s3 at *
  have HOF := Lib.hid (fun w => cof_any tv w)
  clear h hx0 hlt HV
  unfold RPtr at *
  go_enter Tryz.func78, Tryz.ntmps78
  go_wp2_with (go_at_call 52; refine HU.out.mono ?_)
  rintro e w1 ⟨rfl, k1, k2⟩
  have HX1 := Lib.hid (HX0.out.trans k1); have H1 := Lib.hid k2
  have HG1 := Lib.hid (heap_of_only k1 (by have := HLT.out; omega) HG0.out)
  clear k1 k2
  go_wp2_with (first
    | (go_at_call 79; refine (HIT.out _).mono ?_; rintro e w' ⟨rfl, rfl⟩)
    | (go_at_call 82; refine (HTK.out _ H1.out).mono ?_))
  rintro e w3 ⟨rfl, k1, k2⟩
  have HX3 := Lib.hid (HX1.out.trans k1); have H3 := Lib.hid k2
  have HG3 := Lib.hid (heap_of_only k1 (by have := HLT.out; omega) HG1.out)
  clear k1 k2
  go_wp2_with (go_at_call 81; refine (HOF.out _).mono ?_)
  rintro e w4 ⟨rfl, k1⟩
  have HX4 := Lib.hid (HX3.out.trans k1.ch); have H4 := Lib.hid (H3.out.ext k1)
  have HG4 := Lib.hid (heap_of_ext k1 HG3.out)
  clear k1
  go_wp2_with (first
    | (refine wpList_store_rowTo rfl _ _ _ rfl rfl w.heap.size (pcv ⟨2, tv⟩) rfl rfl _ _ HG4.out infoPC rfl (pcv_one _) ?_))
  refine bodyPost_ret (results_cell2 rfl _ _ w.heap.size _ (pcv ⟨2, tv⟩) _ _ rfl (setRow_heap _ _ _ _ _ _ HG4.out) Tryz.underlying90 rfl infoPC) rfl ?_
  exact HP.out ⟨2, tv⟩ 0 _ (HX4.out.setRow (.inr (Nat.le_refl _)) _) (H4.out.above ((Ch.refl _ _).setRow (.inl HLT.out) _)) fun _ => rfl
set_option maxRecDepth 20000 in
set_option maxHeartbeats 2000000 in
theorem parted_2T (r : Nat) (s : RS) (kind : Nat) (w : World) (h : IsR w r s) (hb : (byteR s).1 = 2) (ht : texty kind = true) :
    Calls Tryz.prog 78 #[RPtr r, .int .u8 (kind : Nat)] w (CkPost r (partedR kind s).1 (partedR kind s).2 w) := by
  have HV : Hid (partedR kind s = ((bigC kind, (awayR ((byteR s).2)).1), (awayR ((byteR s).2)).2)) := Lib.hid (by have hh : headR kind s = (byteR s).2 := (by unfold headR; rw [if_neg (by rintro (h | h) <;> first | omega | (rw [ht] at h; simp at h))]); unfold partedR; rw [hh]; rw [if_neg (by omega), if_pos hb])
  have HP : Hid (∀ (c : Cel) (n : Nat) w', Only r w w' → IsR w' r ((bigC kind, (awayR ((byteR s).2)).1), (awayR ((byteR s).2)).2).2 → (((bigC kind, (awayR ((byteR s).2)).1), (awayR ((byteR s).2)).2).2.2 = 0 → (c, n) = ((bigC kind, (awayR ((byteR s).2)).1), (awayR ((byteR s).2)).2).1) → CkPost r (partedR kind s).1 (partedR kind s).2 w (.returned (.tuple #[pc c, .int .i64 (n : Nat)])) w') := Lib.hid fun c n w' h1 h2 h3 => by rw [HV.out]; exact ⟨c, n, rfl, h1, h2, h3⟩
  have hlt := h.lt
  have hx0 : Ext w (w.alloc (.cells #[.int .u8 0, .int .u8 0, .int .i64 0, .complex .f64 0 0, .string ⟨#[]⟩] 90)) := (Ch.refl _ _).alloc _
  have HG0 := Lib.hid (heap_alloc_new w (.cells #[.int .u8 0, .int .u8 0, .int .i64 0, .complex .f64 0 0, .string ⟨#[]⟩] 90))
  have HX0 : Hid (Only r w (w.alloc (.cells #[.int .u8 0, .int .u8 0, .int .i64 0, .complex .f64 0 0, .string ⟨#[]⟩] 90))) := Lib.hid hx0.ch
  have HLT := Lib.hid hlt
  have HU := Lib.hid (byte_any r s _ (h.ext hx0))
  generalize (byteR s).1 = b at *
  generalize (byteR s).2 = s1 at *
  have HIT := Lib.hid (fun w => cIsText_any kind w)
  rw [ht] at HIT
  subst hb
  have HAW := Lib.hid (fun w h => takeAway_any r s1 kind w h)
  clear h hx0 hlt HV
  unfold RPtr at *
  go_enter Tryz.func78, Tryz.ntmps78
  go_wp2_with (go_at_call 52; refine HU.out.mono ?_)
  rintro e w1 ⟨rfl, k1, k2⟩
  have HX1 := Lib.hid (HX0.out.trans k1); have H1 := Lib.hid k2
  have HG1 := Lib.hid (heap_of_only k1 (by have := HLT.out; omega) HG0.out)
  clear k1 k2
  go_wp2_with (first
    | (go_at_call 79; refine (HIT.out _).mono ?_; rintro e w' ⟨rfl, rfl⟩)
    | (go_at_call 101; refine (HAW.out _ H1.out).mono ?_))
  rintro e w9 ⟨rfl, k1, k2⟩
  have HX9 := Lib.hid (HX1.out.trans k1); have H9 := Lib.hid k2
  have HG9 := Lib.hid (heap_of_only k1 (by have := HLT.out; omega) HG1.out)
  clear k1 k2
  go_wp2_with (first
    | (refine wpList_store_rowTo rfl _ _ _ rfl rfl w.heap.size (pcv (bigC kind)) rfl rfl _ _ HG9.out infoPC rfl (pcv_one _) ?_))
  refine bodyPost_ret (results_cell2 rfl _ _ w.heap.size _ (pcv (bigC kind)) _ _ rfl (setRow_heap _ _ _ _ _ _ HG9.out) Tryz.underlying90 rfl infoPC) rfl ?_
  exact HP.out (bigC kind) _ _ (HX9.out.setRow (.inr (Nat.le_refl _)) _) (H9.out.above ((Ch.refl _ _).setRow (.inl HLT.out) _)) fun _ => rfl
set_option maxRecDepth 20000 in
set_option maxHeartbeats 2000000 in
theorem parted_2F (r : Nat) (s : RS) (kind : Nat) (w : World) (h : IsR w r s) (hb : (byteR s).1 = 2) (ht : texty kind = false) :
    Calls Tryz.prog 78 #[RPtr r, .int .u8 (kind : Nat)] w (CkPost r (partedR kind s).1 (partedR kind s).2 w) := by
  have HV : Hid (partedR kind s = ((bigC kind, (awayR (failR (byteR s).2 7)).1), (awayR (failR (byteR s).2 7)).2)) := Lib.hid (by have hh : headR kind s = failR (byteR s).2 7 := (by unfold headR; rw [if_pos (by exact .inr ⟨by omega, ht⟩)]); unfold partedR; rw [hh]; rw [if_neg (by omega), if_pos hb])
  have HP : Hid (∀ (c : Cel) (n : Nat) w', Only r w w' → IsR w' r ((bigC kind, (awayR (failR (byteR s).2 7)).1), (awayR (failR (byteR s).2 7)).2).2 → (((bigC kind, (awayR (failR (byteR s).2 7)).1), (awayR (failR (byteR s).2 7)).2).2.2 = 0 → (c, n) = ((bigC kind, (awayR (failR (byteR s).2 7)).1), (awayR (failR (byteR s).2 7)).2).1) → CkPost r (partedR kind s).1 (partedR kind s).2 w (.returned (.tuple #[pc c, .int .i64 (n : Nat)])) w') := Lib.hid fun c n w' h1 h2 h3 => by rw [HV.out]; exact ⟨c, n, rfl, h1, h2, h3⟩
  have hlt := h.lt
  have hx0 : Ext w (w.alloc (.cells #[.int .u8 0, .int .u8 0, .int .i64 0, .complex .f64 0 0, .string ⟨#[]⟩] 90)) := (Ch.refl _ _).alloc _
  have HG0 := Lib.hid (heap_alloc_new w (.cells #[.int .u8 0, .int .u8 0, .int .i64 0, .complex .f64 0 0, .string ⟨#[]⟩] 90))
  have HX0 : Hid (Only r w (w.alloc (.cells #[.int .u8 0, .int .u8 0, .int .i64 0, .complex .f64 0 0, .string ⟨#[]⟩] 90))) := Lib.hid hx0.ch
  have HLT := Lib.hid hlt
  have HU := Lib.hid (byte_any r s _ (h.ext hx0))
  generalize (byteR s).1 = b at *
  generalize (byteR s).2 = s1 at *
  have HIT := Lib.hid (fun w => cIsText_any kind w)
  rw [ht] at HIT
  subst hb
  have HF := Lib.hid (fun w h => fail_any r s1 7 w h)
  generalize failR s1 7 = s2 at *
  have HAW := Lib.hid (fun w h => takeAway_any r s2 kind w h)
  clear h hx0 hlt HV
  unfold RPtr at *
  go_enter Tryz.func78, Tryz.ntmps78
  go_wp2_with (go_at_call 52; refine HU.out.mono ?_)
  rintro e w1 ⟨rfl, k1, k2⟩
  have HX1 := Lib.hid (HX0.out.trans k1); have H1 := Lib.hid k2
  have HG1 := Lib.hid (heap_of_only k1 (by have := HLT.out; omega) HG0.out)
  clear k1 k2
  go_wp2_with (first
    | (go_at_call 79; refine (HIT.out _).mono ?_; rintro e w' ⟨rfl, rfl⟩)
    | (go_at_call 26; refine (HF.out _ H1.out).mono ?_))
  rintro e w2 ⟨rfl, k1, k2⟩
  have HX2 := Lib.hid (HX1.out.trans k1); have H2 := Lib.hid k2
  have HG2 := Lib.hid (heap_of_only k1 (by have := HLT.out; omega) HG1.out)
  clear k1 k2
  go_wp2_with (first
    | (go_at_call 79; refine (HIT.out _).mono ?_; rintro e w' ⟨rfl, rfl⟩)
    | (go_at_call 101; refine (HAW.out _ H2.out).mono ?_))
  rintro e w9 ⟨rfl, k1, k2⟩
  have HX9 := Lib.hid (HX2.out.trans k1); have H9 := Lib.hid k2
  have HG9 := Lib.hid (heap_of_only k1 (by have := HLT.out; omega) HG2.out)
  clear k1 k2
  go_wp2_with (first
    | (refine wpList_store_rowTo rfl _ _ _ rfl rfl w.heap.size (pcv (bigC kind)) rfl rfl _ _ HG9.out infoPC rfl (pcv_one _) ?_))
  refine bodyPost_ret (results_cell2 rfl _ _ w.heap.size _ (pcv (bigC kind)) _ _ rfl (setRow_heap _ _ _ _ _ _ HG9.out) Tryz.underlying90 rfl infoPC) rfl ?_
  exact HP.out (bigC kind) _ _ (HX9.out.setRow (.inr (Nat.le_refl _)) _) (H9.out.above ((Ch.refl _ _).setRow (.inl HLT.out) _)) fun _ => rfl
set_option maxRecDepth 20000 in
set_option maxHeartbeats 2000000 in
theorem parted_xT (r : Nat) (s : RS) (kind : Nat) (w : World) (h : IsR w r s) (hb : 2 < (byteR s).1) (ht : texty kind = true) :
    Calls Tryz.prog 78 #[RPtr r, .int .u8 (kind : Nat)] w (CkPost r (partedR kind s).1 (partedR kind s).2 w) := by
  have HV : Hid (partedR kind s = (((hereR kind (uintR 64 (failR (byteR s).2 7)).1 (uintR 64 (failR (byteR s).2 7)).2).1, 0), (hereR kind (uintR 64 (failR (byteR s).2 7)).1 (uintR 64 (failR (byteR s).2 7)).2).2)) := Lib.hid (by have hh : headR kind s = failR (byteR s).2 7 := (by unfold headR; rw [if_pos (by exact .inl hb)]); unfold partedR; rw [hh]; rw [if_neg (by omega), if_neg (by omega), if_pos ht])
  have HP : Hid (∀ (c : Cel) (n : Nat) w', Only r w w' → IsR w' r (((hereR kind (uintR 64 (failR (byteR s).2 7)).1 (uintR 64 (failR (byteR s).2 7)).2).1, 0), (hereR kind (uintR 64 (failR (byteR s).2 7)).1 (uintR 64 (failR (byteR s).2 7)).2).2).2 → ((((hereR kind (uintR 64 (failR (byteR s).2 7)).1 (uintR 64 (failR (byteR s).2 7)).2).1, 0), (hereR kind (uintR 64 (failR (byteR s).2 7)).1 (uintR 64 (failR (byteR s).2 7)).2).2).2.2 = 0 → (c, n) = (((hereR kind (uintR 64 (failR (byteR s).2 7)).1 (uintR 64 (failR (byteR s).2 7)).2).1, 0), (hereR kind (uintR 64 (failR (byteR s).2 7)).1 (uintR 64 (failR (byteR s).2 7)).2).2).1) → CkPost r (partedR kind s).1 (partedR kind s).2 w (.returned (.tuple #[pc c, .int .i64 (n : Nat)])) w') := Lib.hid fun c n w' h1 h2 h3 => by rw [HV.out]; exact ⟨c, n, rfl, h1, h2, h3⟩
  have hlt := h.lt
  have hx0 : Ext w (w.alloc (.cells #[.int .u8 0, .int .u8 0, .int .i64 0, .complex .f64 0 0, .string ⟨#[]⟩] 90)) := (Ch.refl _ _).alloc _
  have HG0 := Lib.hid (heap_alloc_new w (.cells #[.int .u8 0, .int .u8 0, .int .i64 0, .complex .f64 0 0, .string ⟨#[]⟩] 90))
  have HX0 : Hid (Only r w (w.alloc (.cells #[.int .u8 0, .int .u8 0, .int .i64 0, .complex .f64 0 0, .string ⟨#[]⟩] 90))) := Lib.hid hx0.ch
  have HLT := Lib.hid hlt
  have HU := Lib.hid (byte_any r s _ (h.ext hx0))
  generalize (byteR s).1 = b at *
  generalize (byteR s).2 = s1 at *
  have HIT := Lib.hid (fun w => cIsText_any kind w)
  rw [ht] at HIT
  have e0 : (((b : Nat) : Int) == 0) = false := by simp; omega
  have e2 : (((b : Nat) : Int) == 2) = false := by simp; omega
  have HF := Lib.hid (fun w h => fail_any r s1 7 w h)
  generalize failR s1 7 = s2 at *
  have hle := uintR_le 64 s2
  have HU2 := Lib.hid (fun w h => uint_any r s2 64 w h)
  have HHR := Lib.hid (fun w h => takeHere_any r (uintR 64 s2).2 kind (uintR 64 s2).1 w h (by omega))
  generalize (uintR 64 s2).1 = m at *
  generalize (uintR 64 s2).2 = s3 at *
  clear h hx0 hlt HV
  unfold RPtr at *
  go_enter Tryz.func78, Tryz.ntmps78
  go_wp2_with (go_at_call 52; refine HU.out.mono ?_)
  rintro e w1 ⟨rfl, k1, k2⟩
  have HX1 := Lib.hid (HX0.out.trans k1); have H1 := Lib.hid k2
  have HG1 := Lib.hid (heap_of_only k1 (by have := HLT.out; omega) HG0.out)
  clear k1 k2
  go_wp2_with (first
    | (go_at_call 79; refine (HIT.out _).mono ?_; rintro e w' ⟨rfl, rfl⟩)
    | (go_at_call 26; refine (HF.out _ H1.out).mono ?_))
  rintro e w2 ⟨rfl, k1, k2⟩
  have HX2 := Lib.hid (HX1.out.trans k1); have H2 := Lib.hid k2
  have HG2 := Lib.hid (heap_of_only k1 (by have := HLT.out; omega) HG1.out)
  clear k1 k2
  go_wp2_with (first
    | (go_at_call 79; refine (HIT.out _).mono ?_; rintro e w' ⟨rfl, rfl⟩)
    | (go_at_call 103; refine (HU2.out _ H2.out).mono ?_))
  rintro e w3 ⟨rfl, k1, k2⟩
  have HX3 := Lib.hid (HX2.out.trans k1); have H3 := Lib.hid k2
  have HG3 := Lib.hid (heap_of_only k1 (by have := HLT.out; omega) HG2.out)
  clear k1 k2
  go_wp2_with (first
    | (go_at_call 102; refine (HHR.out _ H3.out).mono ?_))
  rintro e w9 ⟨t, rfl, k1, k2, k3⟩
  have HX9 := Lib.hid (HX3.out.trans k1); have H9 := Lib.hid k2; have HT := Lib.hid k3
  have HG9 := Lib.hid (heap_of_only k1 (by have := HLT.out; omega) HG3.out)
  clear k1 k2 k3
  go_wp2_with (first
    | (refine wpList_store_rowTo rfl _ _ _ rfl rfl w.heap.size (pcv ⟨2, ⟨kind, 0, 0, 0, t⟩⟩) rfl rfl _ _ HG9.out infoPC rfl (pcv_one _) ?_))
  refine bodyPost_ret (results_cell2 rfl _ _ w.heap.size _ (pcv ⟨2, ⟨kind, 0, 0, 0, t⟩⟩) _ _ rfl (setRow_heap _ _ _ _ _ _ HG9.out) Tryz.underlying90 rfl infoPC) rfl ?_
  exact HP.out ⟨2, ⟨kind, 0, 0, 0, t⟩⟩ 0 _ (HX9.out.setRow (.inr (Nat.le_refl _)) _) (H9.out.above ((Ch.refl _ _).setRow (.inl HLT.out) _)) fun h0 => by rw [HT.out h0]; rfl
set_option maxRecDepth 20000 in
set_option maxHeartbeats 2000000 in
theorem parted_xF (r : Nat) (s : RS) (kind : Nat) (w : World) (h : IsR w r s) (hb : 2 < (byteR s).1) (ht : texty kind = false) :
    Calls Tryz.prog 78 #[RPtr r, .int .u8 (kind : Nat)] w (CkPost r (partedR kind s).1 (partedR kind s).2 w) := by
  have HV : Hid (partedR kind s = ((Cel.mk 2 (vTake 1 kind (failR (byteR s).2 7)).1, 0), (vTake 1 kind (failR (byteR s).2 7)).2)) := Lib.hid (by have hh : headR kind s = failR (byteR s).2 7 := (by unfold headR; rw [if_pos (by exact .inl hb)]); unfold partedR; rw [hh]; rw [if_neg (by omega), if_neg (by omega), if_neg (by rw [ht]; simp)])
  have HP : Hid (∀ (c : Cel) (n : Nat) w', Only r w w' → IsR w' r ((Cel.mk 2 (vTake 1 kind (failR (byteR s).2 7)).1, 0), (vTake 1 kind (failR (byteR s).2 7)).2).2 → (((Cel.mk 2 (vTake 1 kind (failR (byteR s).2 7)).1, 0), (vTake 1 kind (failR (byteR s).2 7)).2).2.2 = 0 → (c, n) = ((Cel.mk 2 (vTake 1 kind (failR (byteR s).2 7)).1, 0), (vTake 1 kind (failR (byteR s).2 7)).2).1) → CkPost r (partedR kind s).1 (partedR kind s).2 w (.returned (.tuple #[pc c, .int .i64 (n : Nat)])) w') := Lib.hid fun c n w' h1 h2 h3 => by rw [HV.out]; exact ⟨c, n, rfl, h1, h2, h3⟩
  have hlt := h.lt
  have hx0 : Ext w (w.alloc (.cells #[.int .u8 0, .int .u8 0, .int .i64 0, .complex .f64 0 0, .string ⟨#[]⟩] 90)) := (Ch.refl _ _).alloc _
  have HG0 := Lib.hid (heap_alloc_new w (.cells #[.int .u8 0, .int .u8 0, .int .i64 0, .complex .f64 0 0, .string ⟨#[]⟩] 90))
  have HX0 : Hid (Only r w (w.alloc (.cells #[.int .u8 0, .int .u8 0, .int .i64 0, .complex .f64 0 0, .string ⟨#[]⟩] 90))) := Lib.hid hx0.ch
  have HLT := Lib.hid hlt
  have HU := Lib.hid (byte_any r s _ (h.ext hx0))
  generalize (byteR s).1 = b at *
  generalize (byteR s).2 = s1 at *
  have HIT := Lib.hid (fun w => cIsText_any kind w)
  rw [ht] at HIT
  have e0 : (((b : Nat) : Int) == 0) = false := by simp; omega
  have e2 : (((b : Nat) : Int) == 2) = false := by simp; omega
  have HF := Lib.hid (fun w h => fail_any r s1 7 w h)
  generalize failR s1 7 = s2 at *
  have HTK := Lib.hid (fun w h => vtake_any r s2 1 kind w h)
  generalize (vTake 1 kind s2).1 = tv at *
  generalize (vTake 1 kind s2).2 = s3 at *
  have HOF := Lib.hid (fun w => cof_any tv w)
  clear h hx0 hlt HV
  unfold RPtr at *
  go_enter Tryz.func78, Tryz.ntmps78
  go_wp2_with (go_at_call 52; refine HU.out.mono ?_)
  rintro e w1 ⟨rfl, k1, k2⟩
  have HX1 := Lib.hid (HX0.out.trans k1); have H1 := Lib.hid k2
  have HG1 := Lib.hid (heap_of_only k1 (by have := HLT.out; omega) HG0.out)
  clear k1 k2
  go_wp2_with (first
    | (go_at_call 79; refine (HIT.out _).mono ?_; rintro e w' ⟨rfl, rfl⟩)
    | (go_at_call 26; refine (HF.out _ H1.out).mono ?_))
  rintro e w2 ⟨rfl, k1, k2⟩
  have HX2 := Lib.hid (HX1.out.trans k1); have H2 := Lib.hid k2
  have HG2 := Lib.hid (heap_of_only k1 (by have := HLT.out; omega) HG1.out)
  clear k1 k2
  go_wp2_with (first
    | (go_at_call 79; refine (HIT.out _).mono ?_; rintro e w' ⟨rfl, rfl⟩)
    | (go_at_call 82; refine (HTK.out _ H2.out).mono ?_))
  rintro e w3 ⟨rfl, k1, k2⟩
  have HX3 := Lib.hid (HX2.out.trans k1); have H3 := Lib.hid k2
  have HG3 := Lib.hid (heap_of_only k1 (by have := HLT.out; omega) HG2.out)
  clear k1 k2
  go_wp2_with (go_at_call 81; refine (HOF.out _).mono ?_)
  rintro e w4 ⟨rfl, k1⟩
  have HX4 := Lib.hid (HX3.out.trans k1.ch); have H4 := Lib.hid (H3.out.ext k1)
  have HG4 := Lib.hid (heap_of_ext k1 HG3.out)
  clear k1
  go_wp2_with (first
    | (refine wpList_store_rowTo rfl _ _ _ rfl rfl w.heap.size (pcv ⟨2, tv⟩) rfl rfl _ _ HG4.out infoPC rfl (pcv_one _) ?_))
  refine bodyPost_ret (results_cell2 rfl _ _ w.heap.size _ (pcv ⟨2, tv⟩) _ _ rfl (setRow_heap _ _ _ _ _ _ HG4.out) Tryz.underlying90 rfl infoPC) rfl ?_
  exact HP.out ⟨2, tv⟩ 0 _ (HX4.out.setRow (.inr (Nat.le_refl _)) _) (H4.out.above ((Ch.refl _ _).setRow (.inl HLT.out) _)) fun _ => rfl
theorem parted_any (r : Nat) (s : RS) (kind : Nat) (w : World) (h : IsR w r s) :
    Calls Tryz.prog 78 #[RPtr r, .int .u8 (kind : Nat)] w (CkPost r (partedR kind s).1 (partedR kind s).2 w) := by
  have hb : (byteR s).1 = 0 ∨ (byteR s).1 = 1 ∨ (byteR s).1 = 2 ∨ 2 < (byteR s).1 := by omega
  cases ht : texty kind with
  | true =>
    rcases hb with hb | hb | hb | hb
    · exact parted_0T r s kind w h hb ht
    · exact parted_1T r s kind w h hb ht
    · exact parted_2T r s kind w h hb ht
    · exact parted_xT r s kind w h hb ht
  | false =>
    rcases hb with hb | hb | hb | hb
    · exact parted_0F r s kind w h hb ht
    · exact parted_1F r s kind w h hb ht
    · exact parted_2F r s kind w h hb ht
    · exact parted_xF r s kind w h hb ht
end Go.Proofs.YtegclfpmgilnpaaGreat
namespace Go.Proofs.YtegclfpmgilnpaaGreat
open Go.RowKit Go.Lac
theorem buildPC_0 (w : World) : (Instr.build 90 #[]).run Tryz.prog w = .ok (.agg #[.int .u8 0, .int .u8 0, .int .i64 0, .complex .f64 0 0, .string ⟨#[]⟩]) w := by kernel_rfl
set_option maxRecDepth 20000 in
set_option maxHeartbeats 2000000 in
theorem ctake_parted (r : Nat) (s : RS) (kind ver : Nat) (w : World) (h : IsR w r s) (hv : ver = 1) :
    Calls Tryz.prog 56 #[RPtr r, .int .u8 (kind : Nat), .int .u8 (ver : Nat)] w (CkPost r (cRaw ver kind s).1 (cRaw ver kind s).2 w) := by
  rw [show cRaw ver kind s = partedR kind s by unfold cRaw; rw [if_pos hv]]
  have HP : Hid (∀ (c : Cel) (n : Nat) w', Only r w w' → IsR w' r (partedR kind s).2 → ((partedR kind s).2.2 = 0 → (c, n) = (partedR kind s).1) → CkPost r (partedR kind s).1 (partedR kind s).2 w (.returned (.tuple #[pc c, .int .i64 (n : Nat)])) w') := Lib.hid fun c n w' h1 h2 h3 => ⟨c, n, rfl, h1, h2, h3⟩
  have hlt := h.lt
  have hx0 : Ext w (w.alloc (.cells #[.int .u8 0, .int .u8 0, .int .i64 0, .complex .f64 0 0, .string ⟨#[]⟩] 90)) := (Ch.refl _ _).alloc _
  have HG0 := Lib.hid (heap_alloc_new w (.cells #[.int .u8 0, .int .u8 0, .int .i64 0, .complex .f64 0 0, .string ⟨#[]⟩] 90))
  have HX0 : Hid (Only r w (w.alloc (.cells #[.int .u8 0, .int .u8 0, .int .i64 0, .complex .f64 0 0, .string ⟨#[]⟩] 90))) := Lib.hid hx0.ch
  have HLT := Lib.hid hlt
  subst hv
  have HC := Lib.hid (parted_any r s kind _ (h.ext hx0))
  generalize partedR kind s = R at *
  clear h hx0 hlt
  unfold RPtr at *
  go_enter Tryz.func56, Tryz.ntmps56
  go_wp2_with (first
    | fail
    | (go_at_call 78; refine HC.out.mono ?_))
  rintro e w1 ⟨c, n, rfl, k1, k2, k3⟩
  have HX1 := Lib.hid (HX0.out.trans k1); have H1 := Lib.hid k2; have HQ := Lib.hid k3
  have HG1 := Lib.hid (heap_of_only k1 (by have := HLT.out; omega) HG0.out)
  clear k1 k2 k3
  go_wp2_with (refine wpList_store_rowTo rfl _ _ _ rfl rfl w.heap.size (pcv c) rfl rfl _ _ HG1.out infoPC rfl (pcv_one _) ?_)
  refine bodyPost_ret (results_cell2 rfl _ _ w.heap.size _ (pcv c) _ _ rfl (setRow_heap _ _ _ _ _ _ HG1.out) Tryz.underlying90 rfl infoPC) rfl ?_
  exact HP.out c n _ (HX1.out.setRow (.inr (Nat.le_refl _)) _) (H1.out.above ((Ch.refl _ _).setRow (.inl HLT.out) _)) (HQ.out)
set_option maxRecDepth 20000 in
set_option maxHeartbeats 2000000 in
theorem ctake_joined (r : Nat) (s : RS) (kind ver : Nat) (w : World) (h : IsR w r s) (hv : ver ≠ 1) (ht : texty kind = true) :
    Calls Tryz.prog 56 #[RPtr r, .int .u8 (kind : Nat), .int .u8 (ver : Nat)] w (CkPost r (cRaw ver kind s).1 (cRaw ver kind s).2 w) := by
  rw [show cRaw ver kind s = joinedR kind s by unfold cRaw; rw [if_neg hv, if_pos ht]]
  have HP : Hid (∀ (c : Cel) (n : Nat) w', Only r w w' → IsR w' r (joinedR kind s).2 → ((joinedR kind s).2.2 = 0 → (c, n) = (joinedR kind s).1) → CkPost r (joinedR kind s).1 (joinedR kind s).2 w (.returned (.tuple #[pc c, .int .i64 (n : Nat)])) w') := Lib.hid fun c n w' h1 h2 h3 => ⟨c, n, rfl, h1, h2, h3⟩
  have hlt := h.lt
  have hx0 : Ext w (w.alloc (.cells #[.int .u8 0, .int .u8 0, .int .i64 0, .complex .f64 0 0, .string ⟨#[]⟩] 90)) := (Ch.refl _ _).alloc _
  have HG0 := Lib.hid (heap_alloc_new w (.cells #[.int .u8 0, .int .u8 0, .int .i64 0, .complex .f64 0 0, .string ⟨#[]⟩] 90))
  have HX0 : Hid (Only r w (w.alloc (.cells #[.int .u8 0, .int .u8 0, .int .i64 0, .complex .f64 0 0, .string ⟨#[]⟩] 90))) := Lib.hid hx0.ch
  have HLT := Lib.hid hlt
  have HIT := Lib.hid (fun w => cIsText_any kind w)
  rw [ht] at HIT
  have e1 : (((ver : Nat) : Int) == 1) = false := by simp; omega
  have HC := Lib.hid (joined_any r s kind _ (h.ext hx0))
  generalize joinedR kind s = R at *
  clear h hx0 hlt
  clear hv
  unfold RPtr at *
  go_enter Tryz.func56, Tryz.ntmps56
  go_wp2_with (first
    | (go_at_call 79; refine (HIT.out _).mono ?_; rintro e w' ⟨rfl, rfl⟩)
    | (go_at_call 80; refine HC.out.mono ?_))
  rintro e w1 ⟨c, n, rfl, k1, k2, k3⟩
  have HX1 := Lib.hid (HX0.out.trans k1); have H1 := Lib.hid k2; have HQ := Lib.hid k3
  have HG1 := Lib.hid (heap_of_only k1 (by have := HLT.out; omega) HG0.out)
  clear k1 k2 k3
  go_wp2_with (refine wpList_store_rowTo rfl _ _ _ rfl rfl w.heap.size (pcv c) rfl rfl _ _ HG1.out infoPC rfl (pcv_one _) ?_)
  refine bodyPost_ret (results_cell2 rfl _ _ w.heap.size _ (pcv c) _ _ rfl (setRow_heap _ _ _ _ _ _ HG1.out) Tryz.underlying90 rfl infoPC) rfl ?_
  exact HP.out c n _ (HX1.out.setRow (.inr (Nat.le_refl _)) _) (H1.out.above ((Ch.refl _ _).setRow (.inl HLT.out) _)) (HQ.out)
set_option maxRecDepth 20000 in
set_option maxHeartbeats 2000000 in
theorem ctake_plain (r : Nat) (s : RS) (kind ver : Nat) (w : World) (h : IsR w r s) (hv : ver ≠ 1) (ht : texty kind = false) :
    Calls Tryz.prog 56 #[RPtr r, .int .u8 (kind : Nat), .int .u8 (ver : Nat)] w (CkPost r (cRaw ver kind s).1 (cRaw ver kind s).2 w) := by
  rw [show cRaw ver kind s = ((Cel.mk 2 (vTake ver kind s).1, 0), (vTake ver kind s).2) by unfold cRaw; rw [if_neg hv, if_neg (by rw [ht]; simp)]]
  have HP : Hid (∀ (c : Cel) (n : Nat) w', Only r w w' → IsR w' r (((Cel.mk 2 (vTake ver kind s).1, 0), (vTake ver kind s).2)).2 → ((((Cel.mk 2 (vTake ver kind s).1, 0), (vTake ver kind s).2)).2.2 = 0 → (c, n) = (((Cel.mk 2 (vTake ver kind s).1, 0), (vTake ver kind s).2)).1) → CkPost r (((Cel.mk 2 (vTake ver kind s).1, 0), (vTake ver kind s).2)).1 (((Cel.mk 2 (vTake ver kind s).1, 0), (vTake ver kind s).2)).2 w (.returned (.tuple #[pc c, .int .i64 (n : Nat)])) w') := Lib.hid fun c n w' h1 h2 h3 => ⟨c, n, rfl, h1, h2, h3⟩
  have hlt := h.lt
  have hx0 : Ext w (w.alloc (.cells #[.int .u8 0, .int .u8 0, .int .i64 0, .complex .f64 0 0, .string ⟨#[]⟩] 90)) := (Ch.refl _ _).alloc _
  have HG0 := Lib.hid (heap_alloc_new w (.cells #[.int .u8 0, .int .u8 0, .int .i64 0, .complex .f64 0 0, .string ⟨#[]⟩] 90))
  have HX0 : Hid (Only r w (w.alloc (.cells #[.int .u8 0, .int .u8 0, .int .i64 0, .complex .f64 0 0, .string ⟨#[]⟩] 90))) := Lib.hid hx0.ch
  have HLT := Lib.hid hlt
  have HIT := Lib.hid (fun w => cIsText_any kind w)
  rw [ht] at HIT
  have e1 : (((ver : Nat) : Int) == 1) = false := by simp; omega
  have HC := Lib.hid (vtake_any r s ver kind _ (h.ext hx0))
  generalize (vTake ver kind s).1 = tv at *
  generalize (vTake ver kind s).2 = s3 at *
  have HOF := Lib.hid (fun w => cof_any tv w)
  clear h hx0 hlt
  clear hv
  unfold RPtr at *
  go_enter Tryz.func56, Tryz.ntmps56
  go_wp2_with (first
    | (go_at_call 79; refine (HIT.out _).mono ?_; rintro e w' ⟨rfl, rfl⟩)
    | (go_at_call 82; refine HC.out.mono ?_))
  rintro e w1 ⟨rfl, k1, k2⟩
  have HX1 := Lib.hid (HX0.out.trans k1); have H1 := Lib.hid k2
  have HG1 := Lib.hid (heap_of_only k1 (by have := HLT.out; omega) HG0.out)
  clear k1 k2
  go_wp2_with (go_at_call 81; refine (HOF.out _).mono ?_)
  rintro e w4 ⟨rfl, k1⟩
  have HX4 := Lib.hid (HX1.out.trans k1.ch); have H4 := Lib.hid (H1.out.ext k1)
  have HG4 := Lib.hid (heap_of_ext k1 HG1.out)
  clear k1
  go_wp2_with (refine wpList_store_rowTo rfl _ _ _ rfl rfl w.heap.size (pcv ⟨2, tv⟩) rfl rfl _ _ HG4.out infoPC rfl (pcv_one _) ?_)
  refine bodyPost_ret (results_cell2 rfl _ _ w.heap.size _ (pcv ⟨2, tv⟩) _ _ rfl (setRow_heap _ _ _ _ _ _ HG4.out) Tryz.underlying90 rfl infoPC) rfl ?_
  exact HP.out ⟨2, tv⟩ 0 _ (HX4.out.setRow (.inr (Nat.le_refl _)) _) (H4.out.above ((Ch.refl _ _).setRow (.inl HLT.out) _)) (fun _ => rfl)
theorem ctake_any (r : Nat) (s : RS) (kind ver : Nat) (w : World) (h : IsR w r s) :
    Calls Tryz.prog 56 #[RPtr r, .int .u8 (kind : Nat), .int .u8 (ver : Nat)] w (CkPost r (cRaw ver kind s).1 (cRaw ver kind s).2 w) := by
  by_cases hv : ver = 1
  · exact ctake_parted r s kind ver w h hv
  · cases ht : texty kind with
    | true => exact ctake_joined r s kind ver w h hv ht
    | false => exact ctake_plain r s kind ver w h hv ht
def CtPost (r : Nat) (x : Cel × Nat) (s' : RS) (w : World) (e : Ending) (w' : World) : Prop :=
  e = .returned (.tuple #[pc x.1, .int .i64 (x.2 : Nat)]) ∧ Only r w w' ∧ IsR w' r s'
set_option maxRecDepth 20000 in
set_option maxHeartbeats 2000000 in
theorem ctake_gvgt (r : Nat) (s : RS) (kind ver : Nat) (w : World) (h : IsR w r s) (hv : ver = 1 ∨ ver = 2) (hk : 1 ≤ kind ∧ kind ≤ 6) :
    Calls Tryz.prog 30 #[RPtr r, .int .u8 (kind : Nat), .int .u8 (ver : Nat)] w (CtPost r (cTake ver kind s).1 (cTake ver kind s).2 w) := by
  have hpre : tPre ver kind s = s := by unfold tPre; simp only; rw [if_pos hk, if_pos hv]
  unfold CtPost cTake
  rw [hpre]
  have HIV := Lib.hid (fun w => cIsVersion_any ver w)
  have HIY := Lib.hid (fun w => cIsType_any kind w)
  rw [decide_eq_true (by omega)] at HIV
  rw [decide_eq_true (by omega)] at HIY
  have hlt := h.lt
  have hx0 : Ext w (w.alloc (.cells #[.int .u8 0, .int .u8 0, .int .i64 0, .complex .f64 0 0, .string ⟨#[]⟩] 90)) := (Ch.refl _ _).alloc _
  have HG0 := Lib.hid (heap_alloc_new w (.cells #[.int .u8 0, .int .u8 0, .int .i64 0, .complex .f64 0 0, .string ⟨#[]⟩] 90))
  have HX0 : Hid (Only r w (w.alloc (.cells #[.int .u8 0, .int .u8 0, .int .i64 0, .complex .f64 0 0, .string ⟨#[]⟩] 90))) := Lib.hid hx0.ch
  have HLT := Lib.hid hlt
  have HCT := Lib.hid (fun w h => ctake_any r s kind ver w h)
  generalize cRaw ver kind s = R at *
  obtain ⟨⟨C, N⟩, s3⟩ := R
  simp only at HCT ⊢
  have H0 := Lib.hid (h.ext hx0)
  have HER := Lib.hid (fun w h => err_any r s3 w h)
  have hb0 := fun w => buildPC_0 w
  clear h hx0 hlt hpre hv hk
  unfold RPtr at *
  by_cases he : s3.2 ≠ 0
  · have HE := Lib.hid he
    have eb : (s3.2 != 0) = true := by simpa using he
    rw [if_pos he]
    clear he
    go_enter Tryz.func30, Tryz.ntmps30
    go_wp2_with (first
      | (go_at_call 54; refine (HIV.out _).mono ?_; rintro e w' ⟨rfl, rfl⟩)
      | (go_at_call 55; refine (HIY.out _).mono ?_))
    rintro e wY ⟨rfl, k1⟩
    have HXY := Lib.hid (HX0.out.trans k1.ch); have HY := Lib.hid (H0.out.ext k1); have HGY := Lib.hid (heap_of_ext k1 HG0.out)
    clear k1
    go_wp2_with (first
      | (go_at_call 54; refine (HIV.out _).mono ?_; rintro e w' ⟨rfl, rfl⟩)
      | (go_at_call 56; refine (HCT.out _ HY.out).mono ?_))
    rintro e w3 ⟨c, n, rfl, k1, k2, k3⟩
    have HX3 := Lib.hid (HXY.out.trans k1); have H3 := Lib.hid k2; have HQ := Lib.hid k3
    have HG3 := Lib.hid (heap_of_only k1 (by have := HLT.out; omega) HGY.out)
    clear k1 k2 k3
    have HK := Lib.hid (heap_alloc_new w3 (.cells #[.int .u8 0, .int .u8 0, .int .i64 0, .complex .f64 0 0, .string ⟨#[]⟩] 90))
    obtain ⟨W4, hW4⟩ : ∃ W4, W4 = (w3.alloc (.cells #[.int .u8 0, .int .u8 0, .int .i64 0, .complex .f64 0 0, .string ⟨#[]⟩] 90)).setRow w3.heap.size (pcv c) := ⟨_, rfl⟩
    have hx4 : Ext w3 W4 := by rw [hW4]; exact ((Ch.refl _ _).alloc _).setRow (.inr (Nat.le_refl _)) _
    have HK4 : Hid (W4.heap[w3.heap.size]? = some (.cells (pcv c) 90 (0, 0))) := Lib.hid (by rw [hW4]; exact setRow_heap _ _ _ _ _ _ HK.out)
    have HX4 := Lib.hid (HX3.out.trans hx4.ch); have H4 := Lib.hid (H3.out.ext hx4); have HG4 := Lib.hid (heap_of_ext hx4 HG3.out)
    have HW4 := Lib.hid hW4
    have HE4 := Lib.hid (HER.out _ H4.out)
    clear hW4 hx4
    go_wp2_with (first
      | (refine wpList_store_rowTo rfl _ _ _ rfl rfl w3.heap.size (pcv c) rfl rfl _ _ HK.out infoPC rfl (pcv_one _) ?_; rw [← HW4.out])
      | (go_at_call 14; refine HE4.out.mono ?_; rintro e w' ⟨rfl, rfl⟩)
      | (refine wpList_store_rowTo rfl _ _ _ rfl rfl w.heap.size #[.int .u8 0, .int .u8 0, .int .i64 0, .complex .f64 0 0, .string ⟨#[]⟩] rfl rfl _ _ HG4.out infoPC rfl (by simp [Value.oneCell']) ?_))
    refine bodyPost_ret (results_cell2 rfl _ _ w.heap.size _ #[.int .u8 0, .int .u8 0, .int .i64 0, .complex .f64 0 0, .string ⟨#[]⟩] _ _ rfl (setRow_heap _ _ _ _ _ _ HG4.out) Tryz.underlying90 rfl infoPC) rfl ?_
    exact ⟨rfl, HX4.out.setRow (.inr (Nat.le_refl _)) _, H4.out.above ((Ch.refl _ _).setRow (.inl HLT.out) _)⟩
  · have HE := Lib.hid he
    have eb : (s3.2 != 0) = false := by simpa using he
    rw [if_neg he]
    clear he
    go_enter Tryz.func30, Tryz.ntmps30
    go_wp2_with (first
      | (go_at_call 54; refine (HIV.out _).mono ?_; rintro e w' ⟨rfl, rfl⟩)
      | (go_at_call 55; refine (HIY.out _).mono ?_))
    rintro e wY ⟨rfl, k1⟩
    have HXY := Lib.hid (HX0.out.trans k1.ch); have HY := Lib.hid (H0.out.ext k1); have HGY := Lib.hid (heap_of_ext k1 HG0.out)
    clear k1
    go_wp2_with (first
      | (go_at_call 54; refine (HIV.out _).mono ?_; rintro e w' ⟨rfl, rfl⟩)
      | (go_at_call 56; refine (HCT.out _ HY.out).mono ?_))
    rintro e w3 ⟨c, n, rfl, k1, k2, k3⟩
    have HX3 := Lib.hid (HXY.out.trans k1); have H3 := Lib.hid k2; have HQ := Lib.hid k3
    have HG3 := Lib.hid (heap_of_only k1 (by have := HLT.out; omega) HGY.out)
    clear k1 k2 k3
    have HK := Lib.hid (heap_alloc_new w3 (.cells #[.int .u8 0, .int .u8 0, .int .i64 0, .complex .f64 0 0, .string ⟨#[]⟩] 90))
    obtain ⟨W4, hW4⟩ : ∃ W4, W4 = (w3.alloc (.cells #[.int .u8 0, .int .u8 0, .int .i64 0, .complex .f64 0 0, .string ⟨#[]⟩] 90)).setRow w3.heap.size (pcv c) := ⟨_, rfl⟩
    have hx4 : Ext w3 W4 := by rw [hW4]; exact ((Ch.refl _ _).alloc _).setRow (.inr (Nat.le_refl _)) _
    have HK4 : Hid (W4.heap[w3.heap.size]? = some (.cells (pcv c) 90 (0, 0))) := Lib.hid (by rw [hW4]; exact setRow_heap _ _ _ _ _ _ HK.out)
    have HX4 := Lib.hid (HX3.out.trans hx4.ch); have H4 := Lib.hid (H3.out.ext hx4); have HG4 := Lib.hid (heap_of_ext hx4 HG3.out)
    have HW4 := Lib.hid hW4
    have HE4 := Lib.hid (HER.out _ H4.out)
    clear hW4 hx4
    have hcn := HQ.out (by have := HE.out; simpa using this)
    simp only [Prod.mk.injEq] at hcn
    obtain ⟨rfl, rfl⟩ := hcn
    go_wp2_with (first
      | (refine wpList_store_rowTo rfl _ _ _ rfl rfl w3.heap.size (pcv c) rfl rfl _ _ HK.out infoPC rfl (pcv_one _) ?_; rw [← HW4.out])
      | (go_at_call 14; refine HE4.out.mono ?_; rintro e w' ⟨rfl, rfl⟩)
      | (refine wpList_load_row rfl _ _ rfl w3.heap.size rfl _ _ _ _ HK4.out Tryz.underlying90 rfl infoPC ?_)
      | (refine wpList_store_rowTo rfl _ _ _ rfl rfl w.heap.size (pcv c) rfl rfl _ _ HG4.out infoPC rfl (pcv_one _) ?_))
    refine bodyPost_ret (results_cell2 rfl _ _ w.heap.size _ (pcv c) _ _ rfl (setRow_heap _ _ _ _ _ _ HG4.out) Tryz.underlying90 rfl infoPC) rfl ?_
    exact ⟨rfl, HX4.out.setRow (.inr (Nat.le_refl _)) _, H4.out.above ((Ch.refl _ _).setRow (.inl HLT.out) _)⟩
set_option maxRecDepth 20000 in
set_option maxHeartbeats 2000000 in
theorem ctake_gvbt (r : Nat) (s : RS) (kind ver : Nat) (w : World) (h : IsR w r s) (hv : ver = 1 ∨ ver = 2) (hk : ¬ (1 ≤ kind ∧ kind ≤ 6)) :
    Calls Tryz.prog 30 #[RPtr r, .int .u8 (kind : Nat), .int .u8 (ver : Nat)] w (CtPost r (cTake ver kind s).1 (cTake ver kind s).2 w) := by
  have hpre : tPre ver kind s = failR s 11 := by unfold tPre; simp only; rw [if_neg hk, if_pos hv]
  unfold CtPost cTake
  rw [hpre]
  have HIV := Lib.hid (fun w => cIsVersion_any ver w)
  have HIY := Lib.hid (fun w => cIsType_any kind w)
  rw [decide_eq_true (by omega)] at HIV
  rw [decide_eq_false (by omega)] at HIY
  have hlt := h.lt
  have hx0 : Ext w (w.alloc (.cells #[.int .u8 0, .int .u8 0, .int .i64 0, .complex .f64 0 0, .string ⟨#[]⟩] 90)) := (Ch.refl _ _).alloc _
  have HG0 := Lib.hid (heap_alloc_new w (.cells #[.int .u8 0, .int .u8 0, .int .i64 0, .complex .f64 0 0, .string ⟨#[]⟩] 90))
  have HX0 : Hid (Only r w (w.alloc (.cells #[.int .u8 0, .int .u8 0, .int .i64 0, .complex .f64 0 0, .string ⟨#[]⟩] 90))) := Lib.hid hx0.ch
  have HLT := Lib.hid hlt
  have HF2 := Lib.hid (fun w h => fail_any r s 11 w h)
  generalize failR s 11 = sB at *
  have HCT := Lib.hid (fun w h => ctake_any r sB kind ver w h)
  generalize cRaw ver kind sB = R at *
  obtain ⟨⟨C, N⟩, s3⟩ := R
  simp only at HCT ⊢
  have H0 := Lib.hid (h.ext hx0)
  have HER := Lib.hid (fun w h => err_any r s3 w h)
  have hb0 := fun w => buildPC_0 w
  clear h hx0 hlt hpre hv hk
  unfold RPtr at *
  by_cases he : s3.2 ≠ 0
  · have HE := Lib.hid he
    have eb : (s3.2 != 0) = true := by simpa using he
    rw [if_pos he]
    clear he
    go_enter Tryz.func30, Tryz.ntmps30
    go_wp2_with (first
      | (go_at_call 54; refine (HIV.out _).mono ?_; rintro e w' ⟨rfl, rfl⟩)
      | (go_at_call 55; refine (HIY.out _).mono ?_))
    rintro e wY ⟨rfl, k1⟩
    have HXY := Lib.hid (HX0.out.trans k1.ch); have HY := Lib.hid (H0.out.ext k1); have HGY := Lib.hid (heap_of_ext k1 HG0.out)
    clear k1
    go_wp2_with (first
      | (go_at_call 54; refine (HIV.out _).mono ?_; rintro e w' ⟨rfl, rfl⟩)
      | (go_at_call 26; refine (HF2.out _ HY.out).mono ?_))
    rintro e wB ⟨rfl, k1, k2⟩
    have HXB := Lib.hid (HXY.out.trans k1); have HB := Lib.hid k2
    have HGB := Lib.hid (heap_of_only k1 (by have := HLT.out; omega) HGY.out)
    clear k1 k2
    go_wp2_with (first
      | (go_at_call 54; refine (HIV.out _).mono ?_; rintro e w' ⟨rfl, rfl⟩)
      | (go_at_call 56; refine (HCT.out _ HB.out).mono ?_))
    rintro e w3 ⟨c, n, rfl, k1, k2, k3⟩
    have HX3 := Lib.hid (HXB.out.trans k1); have H3 := Lib.hid k2; have HQ := Lib.hid k3
    have HG3 := Lib.hid (heap_of_only k1 (by have := HLT.out; omega) HGB.out)
    clear k1 k2 k3
    have HK := Lib.hid (heap_alloc_new w3 (.cells #[.int .u8 0, .int .u8 0, .int .i64 0, .complex .f64 0 0, .string ⟨#[]⟩] 90))
    obtain ⟨W4, hW4⟩ : ∃ W4, W4 = (w3.alloc (.cells #[.int .u8 0, .int .u8 0, .int .i64 0, .complex .f64 0 0, .string ⟨#[]⟩] 90)).setRow w3.heap.size (pcv c) := ⟨_, rfl⟩
    have hx4 : Ext w3 W4 := by rw [hW4]; exact ((Ch.refl _ _).alloc _).setRow (.inr (Nat.le_refl _)) _
    have HK4 : Hid (W4.heap[w3.heap.size]? = some (.cells (pcv c) 90 (0, 0))) := Lib.hid (by rw [hW4]; exact setRow_heap _ _ _ _ _ _ HK.out)
    have HX4 := Lib.hid (HX3.out.trans hx4.ch); have H4 := Lib.hid (H3.out.ext hx4); have HG4 := Lib.hid (heap_of_ext hx4 HG3.out)
    have HW4 := Lib.hid hW4
    have HE4 := Lib.hid (HER.out _ H4.out)
    clear hW4 hx4
    go_wp2_with (first
      | (refine wpList_store_rowTo rfl _ _ _ rfl rfl w3.heap.size (pcv c) rfl rfl _ _ HK.out infoPC rfl (pcv_one _) ?_; rw [← HW4.out])
      | (go_at_call 14; refine HE4.out.mono ?_; rintro e w' ⟨rfl, rfl⟩)
      | (refine wpList_store_rowTo rfl _ _ _ rfl rfl w.heap.size #[.int .u8 0, .int .u8 0, .int .i64 0, .complex .f64 0 0, .string ⟨#[]⟩] rfl rfl _ _ HG4.out infoPC rfl (by simp [Value.oneCell']) ?_))
    refine bodyPost_ret (results_cell2 rfl _ _ w.heap.size _ #[.int .u8 0, .int .u8 0, .int .i64 0, .complex .f64 0 0, .string ⟨#[]⟩] _ _ rfl (setRow_heap _ _ _ _ _ _ HG4.out) Tryz.underlying90 rfl infoPC) rfl ?_
    exact ⟨rfl, HX4.out.setRow (.inr (Nat.le_refl _)) _, H4.out.above ((Ch.refl _ _).setRow (.inl HLT.out) _)⟩
  · have HE := Lib.hid he
    have eb : (s3.2 != 0) = false := by simpa using he
    rw [if_neg he]
    clear he
    go_enter Tryz.func30, Tryz.ntmps30
    go_wp2_with (first
      | (go_at_call 54; refine (HIV.out _).mono ?_; rintro e w' ⟨rfl, rfl⟩)
      | (go_at_call 55; refine (HIY.out _).mono ?_))
    rintro e wY ⟨rfl, k1⟩
    have HXY := Lib.hid (HX0.out.trans k1.ch); have HY := Lib.hid (H0.out.ext k1); have HGY := Lib.hid (heap_of_ext k1 HG0.out)
    clear k1
    go_wp2_with (first
      | (go_at_call 54; refine (HIV.out _).mono ?_; rintro e w' ⟨rfl, rfl⟩)
      | (go_at_call 26; refine (HF2.out _ HY.out).mono ?_))
    rintro e wB ⟨rfl, k1, k2⟩
    have HXB := Lib.hid (HXY.out.trans k1); have HB := Lib.hid k2
    have HGB := Lib.hid (heap_of_only k1 (by have := HLT.out; omega) HGY.out)
    clear k1 k2
    go_wp2_with (first
      | (go_at_call 54; refine (HIV.out _).mono ?_; rintro e w' ⟨rfl, rfl⟩)
      | (go_at_call 56; refine (HCT.out _ HB.out).mono ?_))
    rintro e w3 ⟨c, n, rfl, k1, k2, k3⟩
    have HX3 := Lib.hid (HXB.out.trans k1); have H3 := Lib.hid k2; have HQ := Lib.hid k3
    have HG3 := Lib.hid (heap_of_only k1 (by have := HLT.out; omega) HGB.out)
    clear k1 k2 k3
    have HK := Lib.hid (heap_alloc_new w3 (.cells #[.int .u8 0, .int .u8 0, .int .i64 0, .complex .f64 0 0, .string ⟨#[]⟩] 90))
    obtain ⟨W4, hW4⟩ : ∃ W4, W4 = (w3.alloc (.cells #[.int .u8 0, .int .u8 0, .int .i64 0, .complex .f64 0 0, .string ⟨#[]⟩] 90)).setRow w3.heap.size (pcv c) := ⟨_, rfl⟩
    have hx4 : Ext w3 W4 := by rw [hW4]; exact ((Ch.refl _ _).alloc _).setRow (.inr (Nat.le_refl _)) _
    have HK4 : Hid (W4.heap[w3.heap.size]? = some (.cells (pcv c) 90 (0, 0))) := Lib.hid (by rw [hW4]; exact setRow_heap _ _ _ _ _ _ HK.out)
    have HX4 := Lib.hid (HX3.out.trans hx4.ch); have H4 := Lib.hid (H3.out.ext hx4); have HG4 := Lib.hid (heap_of_ext hx4 HG3.out)
    have HW4 := Lib.hid hW4
    have HE4 := Lib.hid (HER.out _ H4.out)
    clear hW4 hx4
    have hcn := HQ.out (by have := HE.out; simpa using this)
    simp only [Prod.mk.injEq] at hcn
    obtain ⟨rfl, rfl⟩ := hcn
    go_wp2_with (first
      | (refine wpList_store_rowTo rfl _ _ _ rfl rfl w3.heap.size (pcv c) rfl rfl _ _ HK.out infoPC rfl (pcv_one _) ?_; rw [← HW4.out])
      | (go_at_call 14; refine HE4.out.mono ?_; rintro e w' ⟨rfl, rfl⟩)
      | (refine wpList_load_row rfl _ _ rfl w3.heap.size rfl _ _ _ _ HK4.out Tryz.underlying90 rfl infoPC ?_)
      | (refine wpList_store_rowTo rfl _ _ _ rfl rfl w.heap.size (pcv c) rfl rfl _ _ HG4.out infoPC rfl (pcv_one _) ?_))
    refine bodyPost_ret (results_cell2 rfl _ _ w.heap.size _ (pcv c) _ _ rfl (setRow_heap _ _ _ _ _ _ HG4.out) Tryz.underlying90 rfl infoPC) rfl ?_
    exact ⟨rfl, HX4.out.setRow (.inr (Nat.le_refl _)) _, H4.out.above ((Ch.refl _ _).setRow (.inl HLT.out) _)⟩
set_option maxRecDepth 20000 in
set_option maxHeartbeats 2000000 in
theorem ctake_bvgt (r : Nat) (s : RS) (kind ver : Nat) (w : World) (h : IsR w r s) (hv : ¬ (ver = 1 ∨ ver = 2)) (hk : 1 ≤ kind ∧ kind ≤ 6) :
    Calls Tryz.prog 30 #[RPtr r, .int .u8 (kind : Nat), .int .u8 (ver : Nat)] w (CtPost r (cTake ver kind s).1 (cTake ver kind s).2 w) := by
  have hpre : tPre ver kind s = failR s 18 := by unfold tPre; simp only; rw [if_pos hk, if_neg hv]
  unfold CtPost cTake
  rw [hpre]
  have HIV := Lib.hid (fun w => cIsVersion_any ver w)
  have HIY := Lib.hid (fun w => cIsType_any kind w)
  rw [decide_eq_false (by omega)] at HIV
  rw [decide_eq_true (by omega)] at HIY
  have hlt := h.lt
  have hx0 : Ext w (w.alloc (.cells #[.int .u8 0, .int .u8 0, .int .i64 0, .complex .f64 0 0, .string ⟨#[]⟩] 90)) := (Ch.refl _ _).alloc _
  have HG0 := Lib.hid (heap_alloc_new w (.cells #[.int .u8 0, .int .u8 0, .int .i64 0, .complex .f64 0 0, .string ⟨#[]⟩] 90))
  have HX0 : Hid (Only r w (w.alloc (.cells #[.int .u8 0, .int .u8 0, .int .i64 0, .complex .f64 0 0, .string ⟨#[]⟩] 90))) := Lib.hid hx0.ch
  have HLT := Lib.hid hlt
  have HF1 := Lib.hid (fun w h => fail_any r s 18 w h)
  generalize failR s 18 = sA at *
  have HCT := Lib.hid (fun w h => ctake_any r sA kind ver w h)
  generalize cRaw ver kind sA = R at *
  obtain ⟨⟨C, N⟩, s3⟩ := R
  simp only at HCT ⊢
  have H0 := Lib.hid (h.ext hx0)
  have HER := Lib.hid (fun w h => err_any r s3 w h)
  have hb0 := fun w => buildPC_0 w
  clear h hx0 hlt hpre hv hk
  unfold RPtr at *
  by_cases he : s3.2 ≠ 0
  · have HE := Lib.hid he
    have eb : (s3.2 != 0) = true := by simpa using he
    rw [if_pos he]
    clear he
    go_enter Tryz.func30, Tryz.ntmps30
    go_wp2_with (first
      | (go_at_call 54; refine (HIV.out _).mono ?_; rintro e w' ⟨rfl, rfl⟩)
      | (go_at_call 26; refine (HF1.out _ H0.out).mono ?_))
    rintro e wA ⟨rfl, k1, k2⟩
    have HXA := Lib.hid (HX0.out.trans k1); have HA := Lib.hid k2
    have HGA := Lib.hid (heap_of_only k1 (by have := HLT.out; omega) HG0.out)
    clear k1 k2
    go_wp2_with (first
      | (go_at_call 54; refine (HIV.out _).mono ?_; rintro e w' ⟨rfl, rfl⟩)
      | (go_at_call 55; refine (HIY.out _).mono ?_))
    rintro e wY ⟨rfl, k1⟩
    have HXY := Lib.hid (HXA.out.trans k1.ch); have HY := Lib.hid (HA.out.ext k1); have HGY := Lib.hid (heap_of_ext k1 HGA.out)
    clear k1
    go_wp2_with (first
      | (go_at_call 54; refine (HIV.out _).mono ?_; rintro e w' ⟨rfl, rfl⟩)
      | (go_at_call 56; refine (HCT.out _ HY.out).mono ?_))
    rintro e w3 ⟨c, n, rfl, k1, k2, k3⟩
    have HX3 := Lib.hid (HXY.out.trans k1); have H3 := Lib.hid k2; have HQ := Lib.hid k3
    have HG3 := Lib.hid (heap_of_only k1 (by have := HLT.out; omega) HGY.out)
    clear k1 k2 k3
    have HK := Lib.hid (heap_alloc_new w3 (.cells #[.int .u8 0, .int .u8 0, .int .i64 0, .complex .f64 0 0, .string ⟨#[]⟩] 90))
    obtain ⟨W4, hW4⟩ : ∃ W4, W4 = (w3.alloc (.cells #[.int .u8 0, .int .u8 0, .int .i64 0, .complex .f64 0 0, .string ⟨#[]⟩] 90)).setRow w3.heap.size (pcv c) := ⟨_, rfl⟩
    have hx4 : Ext w3 W4 := by rw [hW4]; exact ((Ch.refl _ _).alloc _).setRow (.inr (Nat.le_refl _)) _
    have HK4 : Hid (W4.heap[w3.heap.size]? = some (.cells (pcv c) 90 (0, 0))) := Lib.hid (by rw [hW4]; exact setRow_heap _ _ _ _ _ _ HK.out)
    have HX4 := Lib.hid (HX3.out.trans hx4.ch); have H4 := Lib.hid (H3.out.ext hx4); have HG4 := Lib.hid (heap_of_ext hx4 HG3.out)
    have HW4 := Lib.hid hW4
    have HE4 := Lib.hid (HER.out _ H4.out)
    clear hW4 hx4
    go_wp2_with (first
      | (refine wpList_store_rowTo rfl _ _ _ rfl rfl w3.heap.size (pcv c) rfl rfl _ _ HK.out infoPC rfl (pcv_one _) ?_; rw [← HW4.out])
      | (go_at_call 14; refine HE4.out.mono ?_; rintro e w' ⟨rfl, rfl⟩)
      | (refine wpList_store_rowTo rfl _ _ _ rfl rfl w.heap.size #[.int .u8 0, .int .u8 0, .int .i64 0, .complex .f64 0 0, .string ⟨#[]⟩] rfl rfl _ _ HG4.out infoPC rfl (by simp [Value.oneCell']) ?_))
    refine bodyPost_ret (results_cell2 rfl _ _ w.heap.size _ #[.int .u8 0, .int .u8 0, .int .i64 0, .complex .f64 0 0, .string ⟨#[]⟩] _ _ rfl (setRow_heap _ _ _ _ _ _ HG4.out) Tryz.underlying90 rfl infoPC) rfl ?_
    exact ⟨rfl, HX4.out.setRow (.inr (Nat.le_refl _)) _, H4.out.above ((Ch.refl _ _).setRow (.inl HLT.out) _)⟩
  · have HE := Lib.hid he
    have eb : (s3.2 != 0) = false := by simpa using he
    rw [if_neg he]
    clear he
    go_enter Tryz.func30, Tryz.ntmps30
    go_wp2_with (first
      | (go_at_call 54; refine (HIV.out _).mono ?_; rintro e w' ⟨rfl, rfl⟩)
      | (go_at_call 26; refine (HF1.out _ H0.out).mono ?_))
    rintro e wA ⟨rfl, k1, k2⟩
    have HXA := Lib.hid (HX0.out.trans k1); have HA := Lib.hid k2
    have HGA := Lib.hid (heap_of_only k1 (by have := HLT.out; omega) HG0.out)
    clear k1 k2
    go_wp2_with (first
      | (go_at_call 54; refine (HIV.out _).mono ?_; rintro e w' ⟨rfl, rfl⟩)
      | (go_at_call 55; refine (HIY.out _).mono ?_))
    rintro e wY ⟨rfl, k1⟩
    have HXY := Lib.hid (HXA.out.trans k1.ch); have HY := Lib.hid (HA.out.ext k1); have HGY := Lib.hid (heap_of_ext k1 HGA.out)
    clear k1
    go_wp2_with (first
      | (go_at_call 54; refine (HIV.out _).mono ?_; rintro e w' ⟨rfl, rfl⟩)
      | (go_at_call 56; refine (HCT.out _ HY.out).mono ?_))
    rintro e w3 ⟨c, n, rfl, k1, k2, k3⟩
    have HX3 := Lib.hid (HXY.out.trans k1); have H3 := Lib.hid k2; have HQ := Lib.hid k3
    have HG3 := Lib.hid (heap_of_only k1 (by have := HLT.out; omega) HGY.out)
    clear k1 k2 k3
    have HK := Lib.hid (heap_alloc_new w3 (.cells #[.int .u8 0, .int .u8 0, .int .i64 0, .complex .f64 0 0, .string ⟨#[]⟩] 90))
    obtain ⟨W4, hW4⟩ : ∃ W4, W4 = (w3.alloc (.cells #[.int .u8 0, .int .u8 0, .int .i64 0, .complex .f64 0 0, .string ⟨#[]⟩] 90)).setRow w3.heap.size (pcv c) := ⟨_, rfl⟩
    have hx4 : Ext w3 W4 := by rw [hW4]; exact ((Ch.refl _ _).alloc _).setRow (.inr (Nat.le_refl _)) _
    have HK4 : Hid (W4.heap[w3.heap.size]? = some (.cells (pcv c) 90 (0, 0))) := Lib.hid (by rw [hW4]; exact setRow_heap _ _ _ _ _ _ HK.out)
    have HX4 := Lib.hid (HX3.out.trans hx4.ch); have H4 := Lib.hid (H3.out.ext hx4); have HG4 := Lib.hid (heap_of_ext hx4 HG3.out)
    have HW4 := Lib.hid hW4
    have HE4 := Lib.hid (HER.out _ H4.out)
    clear hW4 hx4
    have hcn := HQ.out (by have := HE.out; simpa using this)
    simp only [Prod.mk.injEq] at hcn
    obtain ⟨rfl, rfl⟩ := hcn
    go_wp2_with (first
      | (refine wpList_store_rowTo rfl _ _ _ rfl rfl w3.heap.size (pcv c) rfl rfl _ _ HK.out infoPC rfl (pcv_one _) ?_; rw [← HW4.out])
      | (go_at_call 14; refine HE4.out.mono ?_; rintro e w' ⟨rfl, rfl⟩)
      | (refine wpList_load_row rfl _ _ rfl w3.heap.size rfl _ _ _ _ HK4.out Tryz.underlying90 rfl infoPC ?_)
      | (refine wpList_store_rowTo rfl _ _ _ rfl rfl w.heap.size (pcv c) rfl rfl _ _ HG4.out infoPC rfl (pcv_one _) ?_))
    refine bodyPost_ret (results_cell2 rfl _ _ w.heap.size _ (pcv c) _ _ rfl (setRow_heap _ _ _ _ _ _ HG4.out) Tryz.underlying90 rfl infoPC) rfl ?_
    exact ⟨rfl, HX4.out.setRow (.inr (Nat.le_refl _)) _, H4.out.above ((Ch.refl _ _).setRow (.inl HLT.out) _)⟩
set_option maxRecDepth 20000 in
set_option maxHeartbeats 2000000 in
theorem ctake_bvbt (r : Nat) (s : RS) (kind ver : Nat) (w : World) (h : IsR w r s) (hv : ¬ (ver = 1 ∨ ver = 2)) (hk : ¬ (1 ≤ kind ∧ kind ≤ 6)) :
    Calls Tryz.prog 30 #[RPtr r, .int .u8 (kind : Nat), .int .u8 (ver : Nat)] w (CtPost r (cTake ver kind s).1 (cTake ver kind s).2 w) := by
  have hpre : tPre ver kind s = failR (failR s 18) 11 := by unfold tPre; simp only; rw [if_neg hk, if_neg hv]
  unfold CtPost cTake
  rw [hpre]
  have HIV := Lib.hid (fun w => cIsVersion_any ver w)
  have HIY := Lib.hid (fun w => cIsType_any kind w)
  rw [decide_eq_false (by omega)] at HIV
  rw [decide_eq_false (by omega)] at HIY
  have hlt := h.lt
  have hx0 : Ext w (w.alloc (.cells #[.int .u8 0, .int .u8 0, .int .i64 0, .complex .f64 0 0, .string ⟨#[]⟩] 90)) := (Ch.refl _ _).alloc _
  have HG0 := Lib.hid (heap_alloc_new w (.cells #[.int .u8 0, .int .u8 0, .int .i64 0, .complex .f64 0 0, .string ⟨#[]⟩] 90))
  have HX0 : Hid (Only r w (w.alloc (.cells #[.int .u8 0, .int .u8 0, .int .i64 0, .complex .f64 0 0, .string ⟨#[]⟩] 90))) := Lib.hid hx0.ch
  have HLT := Lib.hid hlt
  have HF1 := Lib.hid (fun w h => fail_any r s 18 w h)
  generalize failR s 18 = sA at *
  have HF2 := Lib.hid (fun w h => fail_any r sA 11 w h)
  generalize failR sA 11 = sB at *
  have HCT := Lib.hid (fun w h => ctake_any r sB kind ver w h)
  generalize cRaw ver kind sB = R at *
  obtain ⟨⟨C, N⟩, s3⟩ := R
  simp only at HCT ⊢
  have H0 := Lib.hid (h.ext hx0)
  have HER := Lib.hid (fun w h => err_any r s3 w h)
  have hb0 := fun w => buildPC_0 w
  clear h hx0 hlt hpre hv hk
  unfold RPtr at *
  by_cases he : s3.2 ≠ 0
  · have HE := Lib.hid he
    have eb : (s3.2 != 0) = true := by simpa using he
    rw [if_pos he]
    clear he
    go_enter Tryz.func30, Tryz.ntmps30
    go_wp2_with (first
      | (go_at_call 54; refine (HIV.out _).mono ?_; rintro e w' ⟨rfl, rfl⟩)
      | (go_at_call 26; refine (HF1.out _ H0.out).mono ?_))
    rintro e wA ⟨rfl, k1, k2⟩
    have HXA := Lib.hid (HX0.out.trans k1); have HA := Lib.hid k2
    have HGA := Lib.hid (heap_of_only k1 (by have := HLT.out; omega) HG0.out)
    clear k1 k2
    go_wp2_with (first
      | (go_at_call 54; refine (HIV.out _).mono ?_; rintro e w' ⟨rfl, rfl⟩)
      | (go_at_call 55; refine (HIY.out _).mono ?_))
    rintro e wY ⟨rfl, k1⟩
    have HXY := Lib.hid (HXA.out.trans k1.ch); have HY := Lib.hid (HA.out.ext k1); have HGY := Lib.hid (heap_of_ext k1 HGA.out)
    clear k1
    go_wp2_with (first
      | (go_at_call 54; refine (HIV.out _).mono ?_; rintro e w' ⟨rfl, rfl⟩)
      | (go_at_call 26; refine (HF2.out _ HY.out).mono ?_))
    rintro e wB ⟨rfl, k1, k2⟩
    have HXB := Lib.hid (HXY.out.trans k1); have HB := Lib.hid k2
    have HGB := Lib.hid (heap_of_only k1 (by have := HLT.out; omega) HGY.out)
    clear k1 k2
    go_wp2_with (first
      | (go_at_call 54; refine (HIV.out _).mono ?_; rintro e w' ⟨rfl, rfl⟩)
      | (go_at_call 56; refine (HCT.out _ HB.out).mono ?_))
    rintro e w3 ⟨c, n, rfl, k1, k2, k3⟩
    have HX3 := Lib.hid (HXB.out.trans k1); have H3 := Lib.hid k2; have HQ := Lib.hid k3
    have HG3 := Lib.hid (heap_of_only k1 (by have := HLT.out; omega) HGB.out)
    clear k1 k2 k3
    have HK := Lib.hid (heap_alloc_new w3 (.cells #[.int .u8 0, .int .u8 0, .int .i64 0, .complex .f64 0 0, .string ⟨#[]⟩] 90))
    obtain ⟨W4, hW4⟩ : ∃ W4, W4 = (w3.alloc (.cells #[.int .u8 0, .int .u8 0, .int .i64 0, .complex .f64 0 0, .string ⟨#[]⟩] 90)).setRow w3.heap.size (pcv c) := ⟨_, rfl⟩
    have hx4 : Ext w3 W4 := by rw [hW4]; exact ((Ch.refl _ _).alloc _).setRow (.inr (Nat.le_refl _)) _
    have HK4 : Hid (W4.heap[w3.heap.size]? = some (.cells (pcv c) 90 (0, 0))) := Lib.hid (by rw [hW4]; exact setRow_heap _ _ _ _ _ _ HK.out)
    have HX4 := Lib.hid (HX3.out.trans hx4.ch); have H4 := Lib.hid (H3.out.ext hx4); have HG4 := Lib.hid (heap_of_ext hx4 HG3.out)
    have HW4 := Lib.hid hW4
    have HE4 := Lib.hid (HER.out _ H4.out)
    clear hW4 hx4
    go_wp2_with (first
      | (refine wpList_store_rowTo rfl _ _ _ rfl rfl w3.heap.size (pcv c) rfl rfl _ _ HK.out infoPC rfl (pcv_one _) ?_; rw [← HW4.out])
      | (go_at_call 14; refine HE4.out.mono ?_; rintro e w' ⟨rfl, rfl⟩)
      | (refine wpList_store_rowTo rfl _ _ _ rfl rfl w.heap.size #[.int .u8 0, .int .u8 0, .int .i64 0, .complex .f64 0 0, .string ⟨#[]⟩] rfl rfl _ _ HG4.out infoPC rfl (by simp [Value.oneCell']) ?_))
    refine bodyPost_ret (results_cell2 rfl _ _ w.heap.size _ #[.int .u8 0, .int .u8 0, .int .i64 0, .complex .f64 0 0, .string ⟨#[]⟩] _ _ rfl (setRow_heap _ _ _ _ _ _ HG4.out) Tryz.underlying90 rfl infoPC) rfl ?_
    exact ⟨rfl, HX4.out.setRow (.inr (Nat.le_refl _)) _, H4.out.above ((Ch.refl _ _).setRow (.inl HLT.out) _)⟩
  · have HE := Lib.hid he
    have eb : (s3.2 != 0) = false := by simpa using he
    rw [if_neg he]
    clear he
    go_enter Tryz.func30, Tryz.ntmps30
    go_wp2_with (first
      | (go_at_call 54; refine (HIV.out _).mono ?_; rintro e w' ⟨rfl, rfl⟩)
      | (go_at_call 26; refine (HF1.out _ H0.out).mono ?_))
    rintro e wA ⟨rfl, k1, k2⟩
    have HXA := Lib.hid (HX0.out.trans k1); have HA := Lib.hid k2
    have HGA := Lib.hid (heap_of_only k1 (by have := HLT.out; omega) HG0.out)
    clear k1 k2
    go_wp2_with (first
      | (go_at_call 54; refine (HIV.out _).mono ?_; rintro e w' ⟨rfl, rfl⟩)
      | (go_at_call 55; refine (HIY.out _).mono ?_))
    rintro e wY ⟨rfl, k1⟩
    have HXY := Lib.hid (HXA.out.trans k1.ch); have HY := Lib.hid (HA.out.ext k1); have HGY := Lib.hid (heap_of_ext k1 HGA.out)
    clear k1
    go_wp2_with (first
      | (go_at_call 54; refine (HIV.out _).mono ?_; rintro e w' ⟨rfl, rfl⟩)
      | (go_at_call 26; refine (HF2.out _ HY.out).mono ?_))
    rintro e wB ⟨rfl, k1, k2⟩
    have HXB := Lib.hid (HXY.out.trans k1); have HB := Lib.hid k2
    have HGB := Lib.hid (heap_of_only k1 (by have := HLT.out; omega) HGY.out)
    clear k1 k2
    go_wp2_with (first
      | (go_at_call 54; refine (HIV.out _).mono ?_; rintro e w' ⟨rfl, rfl⟩)
      | (go_at_call 56; refine (HCT.out _ HB.out).mono ?_))
    rintro e w3 ⟨c, n, rfl, k1, k2, k3⟩
    have HX3 := Lib.hid (HXB.out.trans k1); have H3 := Lib.hid k2; have HQ := Lib.hid k3
    have HG3 := Lib.hid (heap_of_only k1 (by have := HLT.out; omega) HGB.out)
    clear k1 k2 k3
    have HK := Lib.hid (heap_alloc_new w3 (.cells #[.int .u8 0, .int .u8 0, .int .i64 0, .complex .f64 0 0, .string ⟨#[]⟩] 90))
    obtain ⟨W4, hW4⟩ : ∃ W4, W4 = (w3.alloc (.cells #[.int .u8 0, .int .u8 0, .int .i64 0, .complex .f64 0 0, .string ⟨#[]⟩] 90)).setRow w3.heap.size (pcv c) := ⟨_, rfl⟩
    have hx4 : Ext w3 W4 := by rw [hW4]; exact ((Ch.refl _ _).alloc _).setRow (.inr (Nat.le_refl _)) _
    have HK4 : Hid (W4.heap[w3.heap.size]? = some (.cells (pcv c) 90 (0, 0))) := Lib.hid (by rw [hW4]; exact setRow_heap _ _ _ _ _ _ HK.out)
    have HX4 := Lib.hid (HX3.out.trans hx4.ch); have H4 := Lib.hid (H3.out.ext hx4); have HG4 := Lib.hid (heap_of_ext hx4 HG3.out)
    have HW4 := Lib.hid hW4
    have HE4 := Lib.hid (HER.out _ H4.out)
    clear hW4 hx4
    have hcn := HQ.out (by have := HE.out; simpa using this)
    simp only [Prod.mk.injEq] at hcn
    obtain ⟨rfl, rfl⟩ := hcn
    go_wp2_with (first
      | (refine wpList_store_rowTo rfl _ _ _ rfl rfl w3.heap.size (pcv c) rfl rfl _ _ HK.out infoPC rfl (pcv_one _) ?_; rw [← HW4.out])
      | (go_at_call 14; refine HE4.out.mono ?_; rintro e w' ⟨rfl, rfl⟩)
      | (refine wpList_load_row rfl _ _ rfl w3.heap.size rfl _ _ _ _ HK4.out Tryz.underlying90 rfl infoPC ?_)
      | (refine wpList_store_rowTo rfl _ _ _ rfl rfl w.heap.size (pcv c) rfl rfl _ _ HG4.out infoPC rfl (pcv_one _) ?_))
    refine bodyPost_ret (results_cell2 rfl _ _ w.heap.size _ (pcv c) _ _ rfl (setRow_heap _ _ _ _ _ _ HG4.out) Tryz.underlying90 rfl infoPC) rfl ?_
    exact ⟨rfl, HX4.out.setRow (.inr (Nat.le_refl _)) _, H4.out.above ((Ch.refl _ _).setRow (.inl HLT.out) _)⟩
theorem cTake_any (r : Nat) (s : RS) (kind ver : Nat) (w : World) (h : IsR w r s) :
    Calls Tryz.prog 30 #[RPtr r, .int .u8 (kind : Nat), .int .u8 (ver : Nat)] w (CtPost r (cTake ver kind s).1 (cTake ver kind s).2 w) := by
  by_cases hv : ver = 1 ∨ ver = 2
  · by_cases hk : 1 ≤ kind ∧ kind ≤ 6
    · exact ctake_gvgt r s kind ver w h hv hk
    · exact ctake_gvbt r s kind ver w h hv hk
  · by_cases hk : 1 ≤ kind ∧ kind ≤ 6
    · exact ctake_bvgt r s kind ver w h hv hk
    · exact ctake_bvbt r s kind ver w h hv hk
end Go.Proofs.YtegclfpmgilnpaaGreat
