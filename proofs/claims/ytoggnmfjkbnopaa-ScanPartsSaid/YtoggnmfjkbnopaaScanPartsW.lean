/-
  ScanParts: the walk. MADE BY mkScParts.py
-/
import Derived.Test.YtoggnmfjkbnopaaScH
namespace Go.Proofs.Ytoggnmfjkbnopaa
open Go.RowKit Go.Lac

def PartsRel (b : List UInt8) (ps : List Nat) (w : World) (r g r2 g2 B0 : Nat) (all at' ix : Value) (wr : World) : Prop :=
  ∃ i n : Nat, ix = .int .i64 (i : Nat) ∧ at' = .int .i64 (n : Nat) ∧ i ≤ ps.length + 1 ∧ n ≤ b.length ∧ (i = ps.length + 1 → n = b.length) ∧ Fed wr r g (b.take n) ∧ Fed wr r2 g2 [] ∧ FdL wr B0 B0 50 .u64 all (sc 0 (b.take n)).1 ∧ Ext w wr ∧ B0 ≤ wr.heap.size
def PartTo (r g : Nat) (B : List UInt8) (l0 : List Fnd) (e1 : Nat) (w : World) (q : Ending) (w' : World) : Prop :=
  ∃ v nx, q = .returned (.tuple #[v, .int .i64 (e1 : Nat)]) ∧ Ch (fun i => i = g ∨ i = r) w w' ∧ FdL w' w.heap.size w.heap.size 50 .u64 v nx ∧ (sc 0 B).1 = l0 ++ nx ∧ Fed w' r g B
def ReadTo2 (fs1 : List Fnd) (a1 e1 : Nat) (w : World) (q : Ending) (w' : World) : Prop :=
  ∃ v, q = .returned (.tuple #[v, .int .i64 (a1 : Nat), .int .i64 (e1 : Nat)]) ∧ Ext w w' ∧ FdL w' w.heap.size w.heap.size 89 .i64 v fs1
theorem meas3 (n j : Nat) (h : j < n) : n - (intOf (.int .i64 ((j : Int) + 1))).toNat < n - (intOf (.int .i64 (j : Int))).toNat := by
  simp only [intOf]
  omega

set_option maxRecDepth 20000 in
set_option maxHeartbeats 4000000 in
theorem scanParts_walk (v pv : Value) (b : List UInt8) (ps : List Nat) (w : World) (h : Rd w v b) (hp : Us w pv ps) :
    Calls Try.prog 4 #[v, pv] w fun e w' => e = .returned (.bool true) ∧ Ext w w' := by
  obtain ⟨i, hi, hz, hsz, hby⟩ := info_parts infoU8
  obtain ⟨fi, fhi, fhz, fhsz, fhby⟩ := info_parts infoFound
  obtain ⟨ao, cap, rfl⟩ := h.shape
  have hlen : b.length ≤ maxLen := by obtain ⟨_, _, _, g1, g2, _⟩ := h; omega
  obtain ⟨po, pc, rfl, hpm, hpc⟩ := hp
  unfold maxLen at hlen hpm
  by_cases h5 : 9000 < b.length
  · clear h
    go_enter Try.func4, Try.ntmps4
    go_wp2
    go_ret
    exact ⟨rfl, Ch.refl _ _⟩
  by_cases h6 : 40 < ps.length
  · clear h
    go_enter Try.func4, Try.ntmps4
    go_wp2
    go_ret
    exact ⟨rfl, Ch.refl _ _⟩
  have HI := Lib.hid hi; have HSZ := Lib.hid hsz; have FHI := Lib.hid fhi; have FHZ := Lib.hid fhz; have FHSZ := Lib.hid fhsz; have FHBY := Lib.hid fhby
  have H := Lib.hid h; have HPC := Lib.hid hpc; have H5 := Lib.hid h5; have H6 := Lib.hid h6
  clear hi hz hsz hby fhi fhz fhsz fhby h hpc hlen hpm
  go_enter Try.func4, Try.ntmps4
  go_wp2_with (go_at_call 14; refine (new_any _).mono ?_)
  rintro e w1 ⟨r, g, rfl, hx1, hr, hg, hs⟩
  have HX1 := Lib.hid hx1; have HR := Lib.hid hr; have HG := Lib.hid hg; have HS := Lib.hid (Fed.nil hs)
  clear hx1 hr hg hs h5 h6
  go_wp2_with (go_at_call 14; refine (new_any _).mono ?_)
  rintro e w2 ⟨r2, g2, rfl, hx2, hr2, hg2, hs2⟩
  have HR2 : Hid (r < w1.heap.size ∧ g < w1.heap.size ∧ w1.heap.size ≤ r2 ∧ w1.heap.size ≤ g2 ∧ w.heap.size ≤ w1.heap.size) := Lib.hid ⟨HS.out.lt.1, HS.out.lt.2, hr2, hg2, HX1.out.size⟩
  have HS1 : Hid (Fed w2 r g []) := Lib.hid (HS.out.keep hx2 (fun f => f) (fun f => f))
  have HS2 := Lib.hid (Fed.nil hs2)
  have HX2 := Lib.hid (HX1.out.trans hx2)
  obtain ⟨B0, hB0⟩ : ∃ B0, B0 = w2.heap.size := ⟨_, rfl⟩
  have HB : Hid (B0 = w2.heap.size ∧ r < B0 ∧ g < B0 ∧ r2 < B0 ∧ g2 < B0 ∧ w.heap.size ≤ B0) := Lib.hid ⟨hB0, by rw [hB0]; exact HS1.out.lt.1, by rw [hB0]; exact HS1.out.lt.2, by rw [hB0]; exact HS2.out.lt.1, by rw [hB0]; exact HS2.out.lt.2, by rw [hB0]; exact HX2.out.size⟩
  clear hx2 hr2 hg2 hs2 hB0
  go_wp2
  go_loopw [7, 8, 9] (fun all at' ix wr => PartsRel b ps w r g r2 g2 B0 all at' ix wr) (fun _ _ ix _ => ps.length + 1 - (intOf ix).toNat)
  case atStart => exact ⟨0, 0, rfl, rfl, Nat.zero_le _, Nat.zero_le _, fun h => by omega, HS1.out, HS2.out, by rw [List.take_zero, sc_short 0 frErr_nil]; exact FdL.nil _ _ _ _ _, HX2.out, by rw [HB.out.1]; exact Nat.le_refl _⟩
  case round =>
    obtain ⟨i', n, rfl, rfl, hi1, hn1, hlast, hfed, hfed2, hall, hext, hbsz⟩ := hrel
    have HFED := Lib.hid hfed; have HFED2 := Lib.hid hfed2; have HALL := Lib.hid hall; have HEXT := Lib.hid hext; have HBSZ := Lib.hid hbsz
    clear hfed hfed2 hext hbsz
    obtain ⟨vo, vc, rfl⟩ := hall.shape
    clear hall
    obtain ⟨l0, hl0⟩ : ∃ x, x = (sc 0 (b.take n)).1 := ⟨_, rfl⟩
    rw [← hl0] at HALL ⊢
    have HL0 := Lib.hid hl0; clear hl0
    by_cases hlt : i' < ps.length + 1
    · have HLT := Lib.hid hlt; have HN1 := Lib.hid hn1
      clear hlast hi1
      by_cases hin : i' < ps.length
      · obtain ⟨bp, op, rfl, hc, hpl⟩ := HPC.out i' hin
        have hc' := HEXT.out.cell (p := ⟨bp, op + i', none⟩) (fun f => f) _ hc
        generalize ps[i'] = p at *
        clear hc
        have hw1 : IntKind.i64.wrap (p : Int) = (p : Int) := by rw [IntKind.wrap_i64]; omega
        have hw2 : IntKind.i64.wrap ((n : Int) + (p : Int)) = ((n + p : Nat) : Int) := by rw [IntKind.wrap_i64]; have := H5.out; omega
        have HIN := Lib.hid hin
        clear hpl hn1
        by_cases hmin : b.length ≤ n + p
        · have hM1 : n ≤ b.length := HN1.out
          have hM2 : b.length ≤ b.length := Nat.le_refl _
          have HLA : Hid (i' + 1 = ps.length + 1 → b.length = b.length) := Lib.hid fun _ => rfl
          obtain ⟨sv, hmid, hsr⟩ := run_mid Try.underlying22 HI.out HSZ.out (H.out.ext HEXT.out) n (b.length) hM1 hM2
          obtain ⟨so, sc', rfl⟩ := hsr.shape
          have hcat : b.take n ++ (b.take (b.length)).drop n = b.take (b.length) := by
            have := List.take_append_drop n (b.take (b.length))
            rwa [List.take_take, Nat.min_eq_left hM1] at this
          have hcl : (b.take n).length + ((b.take (b.length)).drop n).length ≤ 400000 := by
            rw [← List.length_append, hcat, List.length_take]; have := H5.out; omega
          obtain ⟨B, hB⟩ : ∃ B, B = b.take (b.length) := ⟨_, rfl⟩
          have hbl : B.length ≤ 9000 := by rw [hB, List.length_take]; have := H5.out; omega
          have hend : ∀ (w' : World) (all : Value) (l' : List Fnd), (sc 0 B).1 = l' → Fed w' r g B → Fed w' r2 g2 [] → FdL w' B0 B0 50 .u64 all l' → Ext w w' → B0 ≤ w'.heap.size → PartsRel b ps w r g r2 g2 B0 all (.int .i64 (((b.length) : Nat) : Int)) (.int .i64 ((i' + 1 : Nat) : Int)) w' := fun w' all l' k1 k2 k3 k4 k5 k6 => by
            refine ⟨i' + 1, b.length, rfl, rfl, HLT.out, hM2, HLA.out, by rw [← hB]; exact k2, k3, by rw [← hB, k1]; exact k4, k5, k6⟩
          have HEND := Lib.hid hend
          have hf : Calls Try.prog 15 #[.pointer (some ⟨r, 0, none⟩), .slice so ((b.take (b.length)).drop n).length sc'] wr (PartTo r g B l0 (sc 0 B).2.2 wr) := by
            refine (fed_any wr r g (b.take n) ((b.take (b.length)).drop n) _ HFED.out hsr hcl).mono ?_
            rintro q w' ⟨lv, nx, k1, k2, k3, k4, k5⟩
            rw [hcat, ← hB] at k1 k4 k5
            rw [← HL0.out] at k4
            exact ⟨lv, nx, k1, k2, k3, k4, k5⟩
          have HF := Lib.hid hf; have HM1 := Lib.hid hM1; have HM2 := Lib.hid hM2; have HBL := Lib.hid hbl
          clear hf hsr hcat hcl hM1 hM2 hbl hB hend HLA
          generalize hL : ((b.take (b.length)).drop n).length = L at hmid HF
          clear hL
          generalize (sc 0 B).2.2 = e1 at HF
          go_wp2_with (go_at_call 15; refine HF.out.mono ?_)
          clear hmid
          rintro e w3 ⟨lv, nx, rfl, hc3, hfd3, hsc3, hfed3⟩
          obtain ⟨lo, lc, rfl⟩ := hfd3.shape
          have hown := fun i (h : (Value.slice vo l0.length vc).ownBlock = some i) => HALL.out.ownlt h
          have hall3 : FdL w3 B0 B0 50 .u64 (.slice vo l0.length vc) l0 := HALL.out.keep hc3 (fun i hM => by have h1 := HB.out; rcases hM with rfl | rfl <;> omega)
          have hs2 : Fed w3 r2 g2 [] := HFED2.out.keep hc3 (fun f => by have := HR2.out; omega) (fun f => by have := HR2.out; omega)
          have hx3 : Ext w w3 := Ch.transNew HEXT.out (hc3.mono fun i _ h => .inr (by have := HR.out; have := HG.out; rcases h with rfl | rfl <;> assumption))
          obtain ⟨cs2, own2, fd2⟩ := hfd3
          have hln : l0.length + nx.length ≤ 9000 := by
            have h1 := sc_len B.length.succ 0 B (Nat.lt_succ_self _)
            rw [hsc3, List.length_append] at h1
            have := HBL.out
            omega
          have hsz3 := hc3.size
          obtain ⟨v', w', q1, q2, q3⟩ := run_append_fd (P := Try.prog) (w := w3) B0 B0 27 27 50 fi _ 48 Try.underlying27 FHI.out FHZ.out FHSZ.out FHBY.out rfl (v := .slice vo l0.length vc) (x := .slice lo nx.length lc) (l := l0) (l2 := nx) (cs2 := cs2) hall3 (Sl.ofOwns own2)
            (fd2.mono fun i _ h => ⟨Nat.le_trans HBSZ.out h.1, fun ho => by have h1 := (hown i ho).2; have h2 := h.1; omega⟩) (by omega) (by unfold maxLen; omega) (by have := HBSZ.out; omega)
          obtain ⟨v0, vc0, rfl⟩ := q2.shape
          have hne : ∀ i, i < B0 → ¬ (Value.slice vo l0.length vc).ownBlock = some i := fun i hi ho => by have h1 := (hown i ho).1; omega
          have hJ := HEND.out w' (.slice v0 (l0 ++ nx).length vc0) (l0 ++ nx) hsc3 (hfed3.keep q3 (hne r HB.out.2.1) (hne g HB.out.2.2.1)) (hs2.keep q3 (hne r2 HB.out.2.2.2.1) (hne g2 HB.out.2.2.2.2.1)) q2 (Ch.transNew hx3 (q3.mono fun i _ ho => .inr (by have h1 := (hown i ho).1; have h2 := HB.out.2.2.2.2.2; omega))) (by have h1 := q3.size; have h2 := HBSZ.out; omega)
          rw [List.length_append] at hJ
          have HJ := Lib.hid hJ; have R5 := Lib.hid q1
          clear hown hall3 hs2 hx3 own2 fd2 hln hsz3 q1 q2 q3 hne hJ hc3 hsc3 hfed3
          go_wp2_with (at_builtin; refine wpList_append_run rfl _ _ _ rfl rfl rfl R5.out ?_)
          exact ⟨HJ.out, meas3 (ps.length + 1) i' HLT.out⟩
        · obtain ⟨m, hm⟩ : ∃ m, m = n + p := ⟨_, rfl⟩
          rw [← hm] at hw2 hmin
          have hM1 : n ≤ m := by omega
          have hM2 : m ≤ b.length := by omega
          have HLA : Hid (i' + 1 = ps.length + 1 → m = b.length) := Lib.hid fun h => by have := HIN.out; omega
          clear hm
          obtain ⟨sv, hmid, hsr⟩ := run_mid Try.underlying22 HI.out HSZ.out (H.out.ext HEXT.out) n m hM1 hM2
          obtain ⟨so, sc', rfl⟩ := hsr.shape
          have hcat : b.take n ++ (b.take m).drop n = b.take m := by
            have := List.take_append_drop n (b.take m)
            rwa [List.take_take, Nat.min_eq_left hM1] at this
          have hcl : (b.take n).length + ((b.take m).drop n).length ≤ 400000 := by
            rw [← List.length_append, hcat, List.length_take]; have := H5.out; omega
          obtain ⟨B, hB⟩ : ∃ B, B = b.take m := ⟨_, rfl⟩
          have hbl : B.length ≤ 9000 := by rw [hB, List.length_take]; have := H5.out; omega
          have hend : ∀ (w' : World) (all : Value) (l' : List Fnd), (sc 0 B).1 = l' → Fed w' r g B → Fed w' r2 g2 [] → FdL w' B0 B0 50 .u64 all l' → Ext w w' → B0 ≤ w'.heap.size → PartsRel b ps w r g r2 g2 B0 all (.int .i64 ((m : Nat) : Int)) (.int .i64 ((i' + 1 : Nat) : Int)) w' := fun w' all l' k1 k2 k3 k4 k5 k6 => by
            refine ⟨i' + 1, m, rfl, rfl, HLT.out, hM2, HLA.out, by rw [← hB]; exact k2, k3, by rw [← hB, k1]; exact k4, k5, k6⟩
          have HEND := Lib.hid hend
          have hf : Calls Try.prog 15 #[.pointer (some ⟨r, 0, none⟩), .slice so ((b.take m).drop n).length sc'] wr (PartTo r g B l0 (sc 0 B).2.2 wr) := by
            refine (fed_any wr r g (b.take n) ((b.take m).drop n) _ HFED.out hsr hcl).mono ?_
            rintro q w' ⟨lv, nx, k1, k2, k3, k4, k5⟩
            rw [hcat, ← hB] at k1 k4 k5
            rw [← HL0.out] at k4
            exact ⟨lv, nx, k1, k2, k3, k4, k5⟩
          have HF := Lib.hid hf; have HM1 := Lib.hid hM1; have HM2 := Lib.hid hM2; have HBL := Lib.hid hbl
          clear hf hsr hcat hcl hM1 hM2 hbl hB hend HLA
          generalize hL : ((b.take m).drop n).length = L at hmid HF
          clear hL
          generalize (sc 0 B).2.2 = e1 at HF
          go_wp2_with (go_at_call 15; refine HF.out.mono ?_)
          clear hmid
          rintro e w3 ⟨lv, nx, rfl, hc3, hfd3, hsc3, hfed3⟩
          obtain ⟨lo, lc, rfl⟩ := hfd3.shape
          have hown := fun i (h : (Value.slice vo l0.length vc).ownBlock = some i) => HALL.out.ownlt h
          have hall3 : FdL w3 B0 B0 50 .u64 (.slice vo l0.length vc) l0 := HALL.out.keep hc3 (fun i hM => by have h1 := HB.out; rcases hM with rfl | rfl <;> omega)
          have hs2 : Fed w3 r2 g2 [] := HFED2.out.keep hc3 (fun f => by have := HR2.out; omega) (fun f => by have := HR2.out; omega)
          have hx3 : Ext w w3 := Ch.transNew HEXT.out (hc3.mono fun i _ h => .inr (by have := HR.out; have := HG.out; rcases h with rfl | rfl <;> assumption))
          obtain ⟨cs2, own2, fd2⟩ := hfd3
          have hln : l0.length + nx.length ≤ 9000 := by
            have h1 := sc_len B.length.succ 0 B (Nat.lt_succ_self _)
            rw [hsc3, List.length_append] at h1
            have := HBL.out
            omega
          have hsz3 := hc3.size
          obtain ⟨v', w', q1, q2, q3⟩ := run_append_fd (P := Try.prog) (w := w3) B0 B0 27 27 50 fi _ 48 Try.underlying27 FHI.out FHZ.out FHSZ.out FHBY.out rfl (v := .slice vo l0.length vc) (x := .slice lo nx.length lc) (l := l0) (l2 := nx) (cs2 := cs2) hall3 (Sl.ofOwns own2)
            (fd2.mono fun i _ h => ⟨Nat.le_trans HBSZ.out h.1, fun ho => by have h1 := (hown i ho).2; have h2 := h.1; omega⟩) (by omega) (by unfold maxLen; omega) (by have := HBSZ.out; omega)
          obtain ⟨v0, vc0, rfl⟩ := q2.shape
          have hne : ∀ i, i < B0 → ¬ (Value.slice vo l0.length vc).ownBlock = some i := fun i hi ho => by have h1 := (hown i ho).1; omega
          have hJ := HEND.out w' (.slice v0 (l0 ++ nx).length vc0) (l0 ++ nx) hsc3 (hfed3.keep q3 (hne r HB.out.2.1) (hne g HB.out.2.2.1)) (hs2.keep q3 (hne r2 HB.out.2.2.2.1) (hne g2 HB.out.2.2.2.2.1)) q2 (Ch.transNew hx3 (q3.mono fun i _ ho => .inr (by have h1 := (hown i ho).1; have h2 := HB.out.2.2.2.2.2; omega))) (by have h1 := q3.size; have h2 := HBSZ.out; omega)
          rw [List.length_append] at hJ
          have HJ := Lib.hid hJ; have R5 := Lib.hid q1
          clear hown hall3 hs2 hx3 own2 fd2 hln hsz3 q1 q2 q3 hne hJ hc3 hsc3 hfed3
          go_wp2_with (at_builtin; refine wpList_append_run rfl _ _ _ rfl rfl rfl R5.out ?_)
          exact ⟨HJ.out, meas3 (ps.length + 1) i' HLT.out⟩
      · have hM1 : n ≤ b.length := HN1.out
        have hM2 : b.length ≤ b.length := Nat.le_refl _
        have HLA : Hid (i' + 1 = ps.length + 1 → b.length = b.length) := Lib.hid fun _ => rfl
        clear hn1
        obtain ⟨sv, hmid, hsr⟩ := run_mid Try.underlying22 HI.out HSZ.out (H.out.ext HEXT.out) n (b.length) hM1 hM2
        obtain ⟨so, sc', rfl⟩ := hsr.shape
        have hcat : b.take n ++ (b.take (b.length)).drop n = b.take (b.length) := by
          have := List.take_append_drop n (b.take (b.length))
          rwa [List.take_take, Nat.min_eq_left hM1] at this
        have hcl : (b.take n).length + ((b.take (b.length)).drop n).length ≤ 400000 := by
          rw [← List.length_append, hcat, List.length_take]; have := H5.out; omega
        obtain ⟨B, hB⟩ : ∃ B, B = b.take (b.length) := ⟨_, rfl⟩
        have hbl : B.length ≤ 9000 := by rw [hB, List.length_take]; have := H5.out; omega
        have hend : ∀ (w' : World) (all : Value) (l' : List Fnd), (sc 0 B).1 = l' → Fed w' r g B → Fed w' r2 g2 [] → FdL w' B0 B0 50 .u64 all l' → Ext w w' → B0 ≤ w'.heap.size → PartsRel b ps w r g r2 g2 B0 all (.int .i64 (((b.length) : Nat) : Int)) (.int .i64 ((i' + 1 : Nat) : Int)) w' := fun w' all l' k1 k2 k3 k4 k5 k6 => by
          refine ⟨i' + 1, b.length, rfl, rfl, HLT.out, hM2, HLA.out, by rw [← hB]; exact k2, k3, by rw [← hB, k1]; exact k4, k5, k6⟩
        have HEND := Lib.hid hend
        have hf : Calls Try.prog 15 #[.pointer (some ⟨r, 0, none⟩), .slice so ((b.take (b.length)).drop n).length sc'] wr (PartTo r g B l0 (sc 0 B).2.2 wr) := by
          refine (fed_any wr r g (b.take n) ((b.take (b.length)).drop n) _ HFED.out hsr hcl).mono ?_
          rintro q w' ⟨lv, nx, k1, k2, k3, k4, k5⟩
          rw [hcat, ← hB] at k1 k4 k5
          rw [← HL0.out] at k4
          exact ⟨lv, nx, k1, k2, k3, k4, k5⟩
        have HF := Lib.hid hf; have HM1 := Lib.hid hM1; have HM2 := Lib.hid hM2; have HBL := Lib.hid hbl
        clear hf hsr hcat hcl hM1 hM2 hbl hB hend HLA
        generalize hL : ((b.take (b.length)).drop n).length = L at hmid HF
        clear hL
        generalize (sc 0 B).2.2 = e1 at HF
        go_wp2_with (go_at_call 15; refine HF.out.mono ?_)
        clear hmid
        rintro e w3 ⟨lv, nx, rfl, hc3, hfd3, hsc3, hfed3⟩
        obtain ⟨lo, lc, rfl⟩ := hfd3.shape
        have hown := fun i (h : (Value.slice vo l0.length vc).ownBlock = some i) => HALL.out.ownlt h
        have hall3 : FdL w3 B0 B0 50 .u64 (.slice vo l0.length vc) l0 := HALL.out.keep hc3 (fun i hM => by have h1 := HB.out; rcases hM with rfl | rfl <;> omega)
        have hs2 : Fed w3 r2 g2 [] := HFED2.out.keep hc3 (fun f => by have := HR2.out; omega) (fun f => by have := HR2.out; omega)
        have hx3 : Ext w w3 := Ch.transNew HEXT.out (hc3.mono fun i _ h => .inr (by have := HR.out; have := HG.out; rcases h with rfl | rfl <;> assumption))
        obtain ⟨cs2, own2, fd2⟩ := hfd3
        have hln : l0.length + nx.length ≤ 9000 := by
          have h1 := sc_len B.length.succ 0 B (Nat.lt_succ_self _)
          rw [hsc3, List.length_append] at h1
          have := HBL.out
          omega
        have hsz3 := hc3.size
        obtain ⟨v', w', q1, q2, q3⟩ := run_append_fd (P := Try.prog) (w := w3) B0 B0 27 27 50 fi _ 48 Try.underlying27 FHI.out FHZ.out FHSZ.out FHBY.out rfl (v := .slice vo l0.length vc) (x := .slice lo nx.length lc) (l := l0) (l2 := nx) (cs2 := cs2) hall3 (Sl.ofOwns own2)
          (fd2.mono fun i _ h => ⟨Nat.le_trans HBSZ.out h.1, fun ho => by have h1 := (hown i ho).2; have h2 := h.1; omega⟩) (by omega) (by unfold maxLen; omega) (by have := HBSZ.out; omega)
        obtain ⟨v0, vc0, rfl⟩ := q2.shape
        have hne : ∀ i, i < B0 → ¬ (Value.slice vo l0.length vc).ownBlock = some i := fun i hi ho => by have h1 := (hown i ho).1; omega
        have hJ := HEND.out w' (.slice v0 (l0 ++ nx).length vc0) (l0 ++ nx) hsc3 (hfed3.keep q3 (hne r HB.out.2.1) (hne g HB.out.2.2.1)) (hs2.keep q3 (hne r2 HB.out.2.2.2.1) (hne g2 HB.out.2.2.2.2.1)) q2 (Ch.transNew hx3 (q3.mono fun i _ ho => .inr (by have h1 := (hown i ho).1; have h2 := HB.out.2.2.2.2.2; omega))) (by have h1 := q3.size; have h2 := HBSZ.out; omega)
        rw [List.length_append] at hJ
        have HJ := Lib.hid hJ; have R5 := Lib.hid q1
        clear hown hall3 hs2 hx3 own2 fd2 hln hsz3 q1 q2 q3 hne hJ hc3 hsc3 hfed3
        go_wp2_with (at_builtin; refine wpList_append_run rfl _ _ _ rfl rfl rfl R5.out ?_)
        exact ⟨HJ.out, meas3 (ps.length + 1) i' HLT.out⟩
    · have hnb : n = b.length := hlast (by omega)
      subst hnb
      rw [List.take_length] at HL0 HFED
      obtain ⟨fs1, a1, e1, hS⟩ : ∃ fs1 a1 e1, sc 0 b = (fs1, a1, e1) := ⟨_, _, _, rfl⟩
      have hl1 : l0 = fs1 := by rw [HL0.out, hS]
      subst hl1
      obtain ⟨K, hK⟩ : ∃ K, K = if e1 = 0 then b.drop a1 else [] := ⟨_, rfl⟩
      have hsA : IsS wr r g K a1 e1 := by have := HFED.out; unfold Fed at this; rw [hS] at this; rw [hK]; exact this
      have hf2 := fed_whole wr r2 g2 b (.slice ao b.length cap) HFED2.out (H.out.ext HEXT.out) (by have := H5.out; omega) hS
      rw [← hK] at hf2
      have hbd : ∀ f ∈ l0, f.at' ≤ 1000000000 := fun f hf => by
        have h1 := sc_bd b.length.succ 0 b (Nat.lt_succ_self _) f (by rw [hS]; exact hf)
        have := H5.out; omega
      have HS5 := Lib.hid hS; have HSA := Lib.hid hsA; have HF2 := Lib.hid hf2; have HBD := Lib.hid hbd
      clear hS hsA hf2 hbd hK
      go_wp2_with fail
      refine HF2.out.mono ?_
      rintro e w3 ⟨mv, rfl, hc3, hfd3, hs3⟩
      obtain ⟨mo, mc, rfl⟩ := hfd3.shape
      have hall3 : FdL w3 B0 B0 50 .u64 (.slice vo l0.length vc) l0 := HALL.out.keep hc3 (fun i hM => by have h1 := HB.out; rcases hM with rfl | rfl <;> omega)
      have hsA3 : IsS w3 r g K a1 e1 := HSA.out.keep hc3 (fun f => by have := HR2.out; omega) (fun f => by have := HR2.out; omega)
      have hx3 : Ext w w3 := Ch.transNew HEXT.out (hc3.mono fun i _ h => .inr (by have := HR2.out; rcases h with rfl | rfl <;> omega))
      have hrd := read_any w3 (.slice ao b.length cap) b (H.out.ext hx3) (by have := H5.out; omega)
      have hrd2 : Calls Try.prog 18 #[.slice ao b.length cap] w3 (ReadTo2 l0 a1 e1 w3) := by
        refine hrd.mono ?_
        rintro q w' ⟨wv, k1, k2, k3⟩
        rw [HS5.out] at k1 k3
        exact ⟨wv, k1, k2, k3⟩
      have HRD := Lib.hid hrd2; have HX3 := Lib.hid hx3; have HALL3 := Lib.hid hall3; have HM3 := Lib.hid hfd3; have HSA3 := Lib.hid hsA3; have HS3 := Lib.hid hs3
      clear hrd hrd2 hx3 hall3 hfd3 hsA3 hs3 hc3
      go_wp2_with (go_at_call 18; refine HRD.out.mono ?_)
      rintro e w4 ⟨wv, rfl, hx4, hfd4⟩
      obtain ⟨wo, wc, rfl⟩ := hfd4.shape
      have HW4 := Lib.hid hfd4.toS; have HA4 := Lib.hid (HALL3.out.ext hx4).toS; have HM4 := Lib.hid (HM3.out.ext hx4).toS; have HX4 := Lib.hid (HX3.out.trans hx4)
      have HSA4 : Hid (IsS w4 r g K a1 e1) := Lib.hid (HSA3.out.keep hx4 (fun f => f) (fun f => f)); have HS4 : Hid (IsS w4 r2 g2 K a1 e1) := Lib.hid (HS3.out.keep hx4 (fun f => f) (fun f => f))
      clear hx4 hfd4
      go_wp2_with fail
      refine (same_true w4 _ _ l0 HA4.out HW4.out HBD.out).mono ?_
      rintro e w5 ⟨rfl, hx5⟩
      have HX5 := Lib.hid (HX4.out.trans hx5); have HW5 := Lib.hid (HW4.out.ext hx5); have HM5 := Lib.hid (HM4.out.ext hx5)
      have HSA5 : Hid (IsS w5 r g K a1 e1) := Lib.hid (HSA4.out.keep hx5 (fun f => f) (fun f => f)); have HS5' : Hid (IsS w5 r2 g2 K a1 e1) := Lib.hid (HS4.out.keep hx5 (fun f => f) (fun f => f))
      clear hx5
      go_wp2_with fail
      refine (same_true w5 _ _ l0 HM5.out HW5.out HBD.out).mono ?_
      rintro e w6 ⟨rfl, hx6⟩
      have HX6 := Lib.hid (HX5.out.trans hx6)
      have HSA6 : Hid (IsS w6 r g K a1 e1) := Lib.hid (HSA5.out.keep hx6 (fun f => f) (fun f => f)); have HS6 : Hid (IsS w6 r2 g2 K a1 e1) := Lib.hid (HS5'.out.keep hx6 (fun f => f) (fun f => f))
      clear hx6
      go_wp2_with fail
      refine (scErr_any w6 r g _ _ _ HSA6.out).mono ?_
      rintro e w7 ⟨rfl, rfl⟩
      go_wp2_with fail
      refine (scErr_any w7 r2 g2 _ _ _ HS6.out).mono ?_
      rintro e w8 ⟨rfl, rfl⟩
      go_wp2_with fail
      refine (scAt_any w8 r g _ _ _ HSA6.out).mono ?_
      rintro e w9 ⟨rfl, rfl⟩
      go_wp2_with fail
      refine (scAt_any w9 r2 g2 _ _ _ HS6.out).mono ?_
      rintro e w10 ⟨rfl, rfl⟩
      go_wp2_with fail
      refine (scKept_any w10 r g _ _ _ HSA6.out).mono ?_
      rintro e w11 ⟨rfl, rfl⟩
      go_wp2_with fail
      refine (scKept_any w11 r2 g2 _ _ _ HS6.out).mono ?_
      rintro e w12 ⟨rfl, rfl⟩
      go_wp2_with fail
      refine (awake5_any _).mono ?_
      rintro e w13 ⟨rfl, hx⟩
      have HX13 := Lib.hid (HX6.out.trans hx)
      clear hx
      go_wp2
      go_ret
      exact ⟨rfl, HX13.out⟩
end Go.Proofs.Ytoggnmfjkbnopaa
