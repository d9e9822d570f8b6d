/-
  ScanFeeds: the walk.
-/
import Derived.Test.YtoggnmfjkbnopaaScG
namespace Go.Proofs.Ytoggnmfjkbnopaa
open Go.RowKit Go.Lac

def FeedsRel (b : List UInt8) (ps : List Nat) (w : World) (r g : Nat) (at' told brk ix : Value) (wr : World) : Prop :=
  ∃ i n : Nat, ix = .int .i64 (i : Nat) ∧ at' = .int .i64 (n : Nat) ∧ told = .int .i64 ((sc 0 (b.take n)).1.length : Nat) ∧ brk = .int .i64 ((sc 0 (b.take n)).2.2 : Nat) ∧ i ≤ ps.length ∧ n ≤ b.length ∧ Fed wr r g (b.take n) ∧ Ext w wr

def FedPost (r g : Nat) (b c : List UInt8) (w : World) (q : Ending) (w' : World) : Prop :=
  ∃ v, q = .returned (.tuple #[v, .int .i64 ((sc 0 (b ++ c)).2.2 : Nat)]) ∧ Ch (fun i => i = g ∨ i = r) w w' ∧ FdL w' w.heap.size w.heap.size 50 .u64 v (nxt b c) ∧ Fed w' r g (b ++ c)
def FedTo (r g : Nat) (B : List UInt8) (nx : List Fnd) (a1 e1 : Nat) (w : World) (q : Ending) (w' : World) : Prop :=
  ∃ v, q = .returned (.tuple #[v, .int .i64 (e1 : Nat)]) ∧ Ch (fun i => i = g ∨ i = r) w w' ∧ FdL w' w.heap.size w.heap.size 50 .u64 v nx ∧ IsS w' r g (if e1 = 0 then B.drop a1 else []) a1 e1
def ReadTo (fs1 : List Fnd) (a1 e1 : Nat) (w : World) (q : Ending) (w' : World) : Prop :=
  ∃ v, q = .returned (.tuple #[v, .int .i64 (a1 : Nat), .int .i64 (e1 : Nat)]) ∧ Ext w w' ∧ FdL w' w.heap.size w.heap.size 89 .i64 v fs1
def StopTo (r g : Nat) (B : List UInt8) (e0 : Nat) (w : World) (q : Ending) (w' : World) : Prop :=
  q = .returned (.tuple #[.slice none 0 0, .int .i64 (e0 : Nat)]) ∧ Ext w w' ∧ Fed w' r g B
theorem meas2 (n j : Nat) (h : j < n) : n - (intOf (.int .i64 ((j : Int) + 1))).toNat < n - (intOf (.int .i64 (j : Int))).toNat := by
  simp only [intOf]
  omega
theorem sc_bound : ∀ (n a : Nat) (b : List UInt8), b.length < n → ∀ f ∈ (sc a b).1, f.at' ≤ a + b.length
  | 0, _, _, h => absurd h (Nat.not_lt_zero _)
  | n + 1, a, b, h => fun f hf => by
    by_cases h0 : frErr b = 0
    · obtain ⟨h1, h2, h3⟩ := frErr_zero h0
      rw [sc_ok a h0] at hf
      rcases List.mem_cons.1 hf with rfl | hf
      · simp
      · have hl : (b.drop (frSize b)).length = b.length - frSize b := List.length_drop
        have := sc_bound n (a + frSize b) (b.drop (frSize b)) (by omega) f hf
        omega
    · by_cases h1 : frErr b = 1
      · rw [sc_short a h1] at hf; simp at hf
      · rw [sc_err a h0 h1] at hf; simp at hf

set_option maxRecDepth 20000 in
set_option maxHeartbeats 4000000 in
theorem scanFeeds_walk (v pv : Value) (b : List UInt8) (ps : List Nat) (w : World) (h : Rd w v b) (hp : Us w pv ps) :
    Calls Try.prog 3 #[v, pv] w fun e w' => e = .returned (.bool true) ∧ Ext w w' := by
  obtain ⟨i, hi, hz, hsz, hby⟩ := info_parts infoU8
  obtain ⟨fi, fhi, fhz, fhsz, fhby⟩ := info_parts infoFound5
  obtain ⟨ao, cap, rfl⟩ := h.shape
  have hlen : b.length ≤ maxLen := by obtain ⟨_, _, _, g1, g2, _⟩ := h; omega
  obtain ⟨po, pc, rfl, hpm, hpc⟩ := hp
  unfold maxLen at hlen hpm
  by_cases h5 : 9000 < b.length
  · clear h
    go_enter Try.func3, Try.ntmps3
    go_wp2
    go_ret
    exact ⟨rfl, Ch.refl _ _⟩
  by_cases h6 : 40 < ps.length
  · clear h
    go_enter Try.func3, Try.ntmps3
    go_wp2
    go_ret
    exact ⟨rfl, Ch.refl _ _⟩
  have HI := Lib.hid hi; have HSZ := Lib.hid hsz; have FHI := Lib.hid fhi; have FHSZ := Lib.hid fhsz
  have H := Lib.hid h; have HPC := Lib.hid hpc; have H5 := Lib.hid h5; have H6 := Lib.hid h6
  clear hi hz hsz hby fhi fhz fhsz fhby h hpc hlen hpm
  go_enter Try.func3, Try.ntmps3
  go_wp2_with (go_at_call 14; refine (new_any _).mono ?_)
  rintro e w1 ⟨r, g, rfl, hx1, hr, hg, hs⟩
  have HX1 := Lib.hid hx1; have HR := Lib.hid hr; have HG := Lib.hid hg; have HS := Lib.hid (Fed.nil hs)
  clear hx1 hr hg hs h5 h6
  go_wp2
  go_loopw [6, 7, 8, 9] (fun at' told brk ix wr => FeedsRel b ps w r g at' told brk ix wr) (fun _ _ _ ix _ => ps.length - (intOf ix).toNat)
  case atStart => exact ⟨0, 0, rfl, rfl, by rw [List.take_zero, sc_short 0 frErr_nil]; rfl, by rw [List.take_zero, sc_short 0 frErr_nil]; rfl, Nat.zero_le _, Nat.zero_le _, HS.out, HX1.out⟩
  case round =>
    obtain ⟨i', n, rfl, rfl, rfl, rfl, hi1, hn1, hfed, hext⟩ := hrel
    have HFED := Lib.hid hfed; have HEXT := Lib.hid hext; clear hfed hext
    by_cases hlt : i' < ps.length
    · obtain ⟨bp, op, rfl, hc, hpl⟩ := HPC.out i' hlt
      have hc' := HEXT.out.cell (p := ⟨bp, op + i', none⟩) (fun f => f) _ hc
      generalize ps[i'] = p at *
      clear hc
      have hw1 : IntKind.i64.wrap (p : Int) = (p : Int) := by rw [IntKind.wrap_i64]; omega
      have hw2 : IntKind.i64.wrap ((n : Int) + (p : Int)) = ((n + p : Nat) : Int) := by rw [IntKind.wrap_i64]; have := H5.out; omega
      obtain ⟨fs0, hfs0⟩ : ∃ x, x = (sc 0 (b.take n)).1.length := ⟨_, rfl⟩
      obtain ⟨e0, he0⟩ : ∃ x, x = (sc 0 (b.take n)).2.2 := ⟨_, rfl⟩
      rw [← hfs0, ← he0]
      have HFS0 := Lib.hid hfs0; have HE0 := Lib.hid he0; have HPL := Lib.hid hpl; have HI1 := Lib.hid hi1; have HN1 := Lib.hid hn1
      clear hfs0 he0 hpl hi1 hn1
      by_cases hmin : b.length ≤ n + p
      · have hM1 : n ≤ b.length := HN1.out
        have hM2 : b.length ≤ b.length := Nat.le_refl _
        have HLT : Hid (i' < ps.length) := Lib.hid hlt
        obtain ⟨sv, hmid, hsr⟩ := run_mid Try.underlying22 HI.out HSZ.out (H.out.ext HEXT.out) n b.length hM1 hM2
        obtain ⟨so, sc', rfl⟩ := hsr.shape
        have htk := (run_take_all Try.underlying22 HI.out HSZ.out (H.out.ext HEXT.out) b.length hM2)
        have hcat : b.take n ++ (b.take b.length).drop n = b.take b.length := by
          have := List.take_append_drop n (b.take b.length)
          rwa [List.take_take, Nat.min_eq_left hM1] at this
        have hcl : (b.take n).length + ((b.take b.length).drop n).length ≤ 400000 := by
          rw [← List.length_append, hcat, List.length_take]; have := H5.out; omega
        have htl : (b.take b.length).length = b.length := by rw [List.length_take]; omega
        have HTK := Lib.hid htk; have HCAT := Lib.hid hcat; have HTL := Lib.hid htl
        have HM1 := Lib.hid hM1; have HM2 := Lib.hid hM2
        by_cases hE : e0 = 0
        · have hE0' : (sc 0 (b.take n)).2.2 = 0 := by rw [← HE0.out]; exact hE
          have hNX := nxt_ok (c := (b.take b.length).drop n) hE0'
          rw [hcat] at hNX
          have hal := sc_at_le (b.take b.length)
          rw [htl] at hal
          obtain ⟨nx, hnx⟩ : ∃ nx, nx = nxt (b.take n) ((b.take b.length).drop n) := ⟨_, rfl⟩
          rw [← hnx] at hNX
          have hS1 : (sc 0 (b.take b.length)).1 = (sc 0 (b.take n)).1 ++ nx := by rw [hNX]
          have hbnd : ∀ f ∈ nx, f.at' ≤ 1000000000 := fun f hf => by
            have h1 := sc_bound (b.take b.length).length.succ 0 (b.take b.length) (by omega) f (by rw [hNX]; exact List.mem_append_right _ hf)
            rw [htl] at h1; have := H5.out; omega
          obtain ⟨fs1, a1, e1, hS⟩ : ∃ fs1 a1 e1, sc 0 (b.take b.length) = (fs1, a1, e1) := ⟨_, _, _, rfl⟩
          have hf : Calls Try.prog 15 #[.pointer (some ⟨r, 0, none⟩), .slice so ((b.take b.length).drop n).length sc'] wr (FedTo r g (b.take b.length) nx a1 e1 wr) := by
            refine (fed_ok wr r g (b.take n) _ _ HFED.out hE0' hsr hcl).mono ?_
            rintro q w' ⟨lv, k1, k2, k3, k4⟩
            rw [hcat, hS] at k1
            rw [← hnx] at k3
            unfold Fed at k4
            rw [hcat, hS] at k4
            exact ⟨lv, k1, k2, k3, k4⟩
          rw [hS] at hal hS1
          simp only at hal hS1
          have hfl : fs1.length = fs0 + nx.length := by rw [hS1, List.length_append, HFS0.out]
          have hdrop : fs1.drop fs0 = nx := by rw [hS1, HFS0.out]; exact List.drop_left
          have HF := Lib.hid hf; have HAL := Lib.hid hal; have HBND := Lib.hid hbnd; have HFL := Lib.hid hfl; have HDROP := Lib.hid hdrop; have HS := Lib.hid hS.symm
          subst hE
          clear hf hsr hNX hE0' htk hcat hcl htl hM1 hM2 hal hbnd hfl hdrop hS hS1 hnx
          generalize hL : ((b.take b.length).drop n).length = L at hmid HF
          clear hL
          go_wp2_with (go_at_call 15; refine HF.out.mono ?_)
          clear hmid
          rintro e w2 ⟨lv, rfl, hc2, hfd2, hfed2⟩
          have hx2 : Ext w w2 := Ch.transNew HEXT.out (hc2.mono fun i _ h => .inr (by have := HR.out; have := HG.out; rcases h with rfl | rfl <;> assumption))
          obtain ⟨lo, lc, rfl⟩ := hfd2.shape
          have hrd := read_any w2 (.slice ao b.length cap) (b.take b.length) (by have := (run_take_all Try.underlying22 HI.out HSZ.out (H.out.ext hx2) b.length HM2.out).2; unfold Rd at this ⊢; rw [HTL.out] at this ⊢; exact this) (by rw [HTL.out]; have := HM2.out; have := H5.out; omega)
          have hrd2 : Calls Try.prog 18 #[.slice ao b.length cap] w2 (ReadTo fs1 a1 e1 w2) := by
            refine hrd.mono ?_
            rintro q w' ⟨wv, k1, k2, k3⟩
            rw [← HS.out] at k1 k3
            exact ⟨wv, k1, k2, k3⟩
          have HRD := Lib.hid hrd2; have HX2 := Lib.hid hx2; have HFD2 := Lib.hid hfd2; have HFED2 := Lib.hid hfed2
          clear hrd hrd2 hx2 hfd2 hfed2 hc2
          have htk : ∀ w0, (Instr.sliceAt 22 (.slice ao b.length cap) none (some (.int .i64 ((b.length : Nat) : Int))) none).run Try.prog w0 = .ok (.slice ao b.length cap) w0 := HTK.out.1
          go_wp2_with (go_at_call 18; refine HRD.out.mono ?_)
          clear htk
          rintro e w3 ⟨wv, rfl, hx3, hfd3⟩
          obtain ⟨wo, wc, rfl⟩ := hfd3.shape
          have hfl := HFL.out; have hal := HAL.out; have hfe := HFED2.out; have hdrop := HDROP.out
          obtain ⟨dv, hdr, hds⟩ := run_drop_fd Try.underlying33 FHI.out FHSZ.out (hfd3.toS) fs0 (by omega)
          rw [hdrop] at hds
          have hsame := same_true w3 (.slice lo nx.length lc) dv nx (HFD2.out.ext hx3).toS hds HBND.out
          have hlt2 : ¬ fs1.length < fs0 := by omega
          have hx3' := HX2.out.trans hx3
          have hkl := (hfe.keep hx3 (fun f => f) (fun f => f)).few
          have hk3 := hfe.keep hx3 (fun f => f) (fun f => f)
          have hkb : a1 ≤ 9000 := by have := HM2.out; have := H5.out; omega
          have HSAME := Lib.hid hsame; have HX3 := Lib.hid hx3'; have HK3 := Lib.hid hk3; have HDR := Lib.hid hdr; have HLT2 := Lib.hid hlt2; have HKL := Lib.hid hkl
          have hw3 : IntKind.u64.wrap (a1 : Int) = (a1 : Int) := wrap_u64_of (by omega) (by omega)
          obtain ⟨kk, hkk⟩ : ∃ kk, kk = b.length - a1 := ⟨_, rfl⟩
          have hsub : IntKind.i64.wrap (((b.length : Nat) : Int) - (a1 : Int)) = (kk : Int) := by rw [IntKind.wrap_i64, hkk]; have := HM2.out; have := H5.out; omega
          have HKK := Lib.hid hkk
          clear hsame hx3' hk3 hlt2 hkl hfl hfe hfd3 hds hdr hdrop hx3 hkk hal hkb
          have hend : ∀ w4, Ext w w4 → IsS w4 r g (if e1 = 0 then (b.take b.length).drop a1 else []) a1 e1 → FeedsRel b ps w r g (.int .i64 ((b.length : Nat) : Int)) (.int .i64 (fs1.length : Nat)) (.int .i64 (e1 : Nat)) (.int .i64 ((i' + 1 : Nat) : Int)) w4 := fun w4 h1 h2 => by
            refine ⟨i' + 1, b.length, rfl, rfl, by rw [← HS.out], by rw [← HS.out], hlt, HM2.out, ?_, h1⟩
            unfold Fed
            rw [← HS.out]
            exact h2
          have HEND := Lib.hid hend; clear hend
          have HMS := Lib.hid (meas_step ps.length i' hlt (by have := H6.out; omega))
          have hr9 := rel_step ps.length i' hlt (by have := H6.out; omega)
          have HR9 := Lib.hid hr9; clear hr9
          by_cases hE1 : e1 = 0
          · have hkv : ((b.take b.length).drop a1).length = kk := by rw [List.length_drop, HTL.out, HKK.out]
            have HKV := Lib.hid hkv
            have hkl := HKL.out
            rw [if_pos hE1, hkv] at hkl
            have hk3' : IsS w3 r g ((b.take b.length).drop a1) a1 e1 := by have := HK3.out; rwa [if_pos hE1] at this
            have HK3' := Lib.hid hk3'; clear hk3'
            have hend' : ∀ w4, Ext w w4 → IsS w4 r g ((b.take b.length).drop a1) a1 e1 → FeedsRel b ps w r g (.int .i64 ((b.length : Nat) : Int)) (.int .i64 (fs1.length : Nat)) (.int .i64 (e1 : Nat)) (.int .i64 ((i' + 1 : Nat) : Int)) w4 := fun w4 h1 h2 => HEND.out w4 h1 (by rwa [if_pos hE1])
            have HEND' := Lib.hid hend'; clear hend'
            subst hE1
            have hdr := HDR.out; have hlt2 := HLT2.out
            clear hkv
            go_wp2_with (go_at_call 19; refine HSAME.out.mono ?_)
            rintro e w4 ⟨rfl, hx4⟩
            have hkv0 := HKV.out
            have hk4 := HK3'.out.keep hx4 (fun f => f) (fun f => f)
            have hke := scKept_any w4 r g _ _ _ hk4
            rw [hkv0] at hke
            have HK4 := Lib.hid hk4; have HX4 := Lib.hid (HX3.out.trans hx4)
            clear hk4 hx4 hkv0
            have HKE := Lib.hid hke; clear hke
            have hb4 : decide ((4105 : Int) < (kk : Int)) = false := decide_eq_false (by omega)
            go_wp2_with (go_at_call 16; refine (scErr_any w4 r g _ _ _ HK4.out).mono ?_; rintro e w5 ⟨rfl, rfl⟩)
            go_wp2_with (go_at_call 20; refine (scAt_any w5 r g _ _ _ HK4.out).mono ?_; rintro e w6 ⟨rfl, rfl⟩)
            go_wp2_with (go_at_call 17; refine HKE.out.mono ?_; rintro e w7 ⟨rfl, rfl⟩)
            exact ⟨HEND'.out _ HX4.out HK4.out, meas2 ps.length i' HLT.out⟩
          · have hk3' : IsS w3 r g [] a1 e1 := by have := HK3.out; rwa [if_neg hE1] at this
            have HK3' := Lib.hid hk3'; clear hk3'
            have hend' : ∀ w4, Ext w w4 → IsS w4 r g [] a1 e1 → FeedsRel b ps w r g (.int .i64 ((b.length : Nat) : Int)) (.int .i64 (fs1.length : Nat)) (.int .i64 (e1 : Nat)) (.int .i64 ((i' + 1 : Nat) : Int)) w4 := fun w4 h1 h2 => HEND.out w4 h1 (by rwa [if_neg hE1])
            have HEND' := Lib.hid hend'; clear hend'
            have b1 : ((e1 : Int) != 0) = true := by simp; omega
            have hdr := HDR.out; have hlt2 := HLT2.out
            go_wp2_with (go_at_call 19; refine HSAME.out.mono ?_)
            rintro e w4 ⟨rfl, hx4⟩
            have hk4 := HK3'.out.keep hx4 (fun f => f) (fun f => f)
            have hke := scKept_any w4 r g _ _ _ hk4
            have HK4 := Lib.hid hk4; have HX4 := Lib.hid (HX3.out.trans hx4)
            clear hk4 hx4
            have HKE := Lib.hid hke; clear hke
            go_wp2_with (go_at_call 16; refine (scErr_any w4 r g _ _ _ HK4.out).mono ?_; rintro e w5 ⟨rfl, rfl⟩)
            go_wp2_with (go_at_call 20; refine (scAt_any w5 r g _ _ _ HK4.out).mono ?_; rintro e w6 ⟨rfl, rfl⟩)
            go_wp2_with (go_at_call 17; refine HKE.out.mono ?_; rintro e w7 ⟨rfl, rfl⟩)
            exact ⟨HEND'.out _ HX4.out HK4.out, meas2 ps.length i' HLT.out⟩
        · have hE0' : (sc 0 (b.take n)).2.2 ≠ 0 := by rw [← HE0.out]; exact hE
          have hst : sc 0 (b.take b.length) = sc 0 (b.take n) := by rw [← hcat]; exact sc_stop hE0'
          have hf : Calls Try.prog 15 #[.pointer (some ⟨r, 0, none⟩), .slice so ((b.take b.length).drop n).length sc'] wr (StopTo r g (b.take b.length) e0 wr) := by
            refine (fed_stop wr r g (b.take n) ((b.take b.length).drop n) _ HFED.out hE0').mono ?_
            rintro q w' ⟨k1, k2, k3⟩
            rw [← HE0.out] at k1
            rw [hcat] at k3
            exact ⟨k1, k2, k3⟩
          have HF := Lib.hid hf; have HST := Lib.hid hst
          have b8 : ((e0 : Int) != 0) = true := by simp; omega
          have hend : ∀ w4, Ext w w4 → Fed w4 r g (b.take b.length) → FeedsRel b ps w r g (.int .i64 ((b.length : Nat) : Int)) (.int .i64 (fs0 : Nat)) (.int .i64 (e0 : Nat)) (.int .i64 ((i' + 1 : Nat) : Int)) w4 := fun w4 h1 h2 => by
            refine ⟨i' + 1, b.length, rfl, rfl, by rw [HST.out, ← HFS0.out], by rw [HST.out, ← HE0.out], hlt, HM2.out, h2, h1⟩
          have HEND := Lib.hid hend
          clear hf hst hE0' hend htk hcat hcl htl hM1 hM2 hsr
          generalize hL : ((b.take b.length).drop n).length = L at hmid HF
          clear hL
          go_wp2_with (go_at_call 15; refine HF.out.mono ?_)
          clear hmid
          rintro e w2 ⟨rfl, hx2, hfed2⟩
          have hk2 := hfed2
          unfold Fed at hk2
          rw [HST.out, ← HE0.out, if_neg hE] at hk2
          have HX2 := Lib.hid (HEXT.out.trans hx2); have HFED2 := Lib.hid hfed2; have HK2 := Lib.hid hk2
          clear hx2 hfed2 hk2
          go_wp2_with (go_at_call 16; refine (scErr_any w2 r g _ _ _ HK2.out).mono ?_; rintro e w5 ⟨rfl, rfl⟩)
          go_wp2_with (go_at_call 17; refine (scKept_any w5 r g _ _ _ HK2.out).mono ?_; rintro e w7 ⟨rfl, rfl⟩)
          exact ⟨HEND.out _ HX2.out HFED2.out, meas2 ps.length i' HLT.out⟩
      · obtain ⟨m, hm⟩ : ∃ m, m = n + p := ⟨_, rfl⟩
        rw [← hm] at hw2 hmin
        have hM1 : n ≤ m := by omega
        have hM2 : m ≤ b.length := by omega
        clear hm
        have HLT : Hid (i' < ps.length) := Lib.hid hlt
        obtain ⟨sv, hmid, hsr⟩ := run_mid Try.underlying22 HI.out HSZ.out (H.out.ext HEXT.out) n m hM1 hM2
        obtain ⟨so, sc', rfl⟩ := hsr.shape
        have htk := (run_take_all Try.underlying22 HI.out HSZ.out (H.out.ext HEXT.out) m hM2)
        have hcat : b.take n ++ (b.take m).drop n = b.take m := by
          have := List.take_append_drop n (b.take m)
          rwa [List.take_take, Nat.min_eq_left hM1] at this
        have hcl : (b.take n).length + ((b.take m).drop n).length ≤ 400000 := by
          rw [← List.length_append, hcat, List.length_take]; have := H5.out; omega
        have htl : (b.take m).length = m := by rw [List.length_take]; omega
        have HTK := Lib.hid htk; have HCAT := Lib.hid hcat; have HTL := Lib.hid htl
        have HM1 := Lib.hid hM1; have HM2 := Lib.hid hM2
        by_cases hE : e0 = 0
        · have hE0' : (sc 0 (b.take n)).2.2 = 0 := by rw [← HE0.out]; exact hE
          have hNX := nxt_ok (c := (b.take m).drop n) hE0'
          rw [hcat] at hNX
          have hal := sc_at_le (b.take m)
          rw [htl] at hal
          obtain ⟨nx, hnx⟩ : ∃ nx, nx = nxt (b.take n) ((b.take m).drop n) := ⟨_, rfl⟩
          rw [← hnx] at hNX
          have hS1 : (sc 0 (b.take m)).1 = (sc 0 (b.take n)).1 ++ nx := by rw [hNX]
          have hbnd : ∀ f ∈ nx, f.at' ≤ 1000000000 := fun f hf => by
            have h1 := sc_bound (b.take m).length.succ 0 (b.take m) (by omega) f (by rw [hNX]; exact List.mem_append_right _ hf)
            rw [htl] at h1; have := H5.out; omega
          obtain ⟨fs1, a1, e1, hS⟩ : ∃ fs1 a1 e1, sc 0 (b.take m) = (fs1, a1, e1) := ⟨_, _, _, rfl⟩
          have hf : Calls Try.prog 15 #[.pointer (some ⟨r, 0, none⟩), .slice so ((b.take m).drop n).length sc'] wr (FedTo r g (b.take m) nx a1 e1 wr) := by
            refine (fed_ok wr r g (b.take n) _ _ HFED.out hE0' hsr hcl).mono ?_
            rintro q w' ⟨lv, k1, k2, k3, k4⟩
            rw [hcat, hS] at k1
            rw [← hnx] at k3
            unfold Fed at k4
            rw [hcat, hS] at k4
            exact ⟨lv, k1, k2, k3, k4⟩
          rw [hS] at hal hS1
          simp only at hal hS1
          have hfl : fs1.length = fs0 + nx.length := by rw [hS1, List.length_append, HFS0.out]
          have hdrop : fs1.drop fs0 = nx := by rw [hS1, HFS0.out]; exact List.drop_left
          have HF := Lib.hid hf; have HAL := Lib.hid hal; have HBND := Lib.hid hbnd; have HFL := Lib.hid hfl; have HDROP := Lib.hid hdrop; have HS := Lib.hid hS.symm
          subst hE
          clear hf hsr hNX hE0' htk hcat hcl htl hM1 hM2 hal hbnd hfl hdrop hS hS1 hnx
          generalize hL : ((b.take m).drop n).length = L at hmid HF
          clear hL
          go_wp2_with (go_at_call 15; refine HF.out.mono ?_)
          clear hmid
          rintro e w2 ⟨lv, rfl, hc2, hfd2, hfed2⟩
          have hx2 : Ext w w2 := Ch.transNew HEXT.out (hc2.mono fun i _ h => .inr (by have := HR.out; have := HG.out; rcases h with rfl | rfl <;> assumption))
          obtain ⟨lo, lc, rfl⟩ := hfd2.shape
          have hrd := read_any w2 (.slice ao m cap) (b.take m) (by have := (run_take_all Try.underlying22 HI.out HSZ.out (H.out.ext hx2) m HM2.out).2; unfold Rd at this ⊢; rw [HTL.out] at this ⊢; exact this) (by rw [HTL.out]; have := HM2.out; have := H5.out; omega)
          have hrd2 : Calls Try.prog 18 #[.slice ao m cap] w2 (ReadTo fs1 a1 e1 w2) := by
            refine hrd.mono ?_
            rintro q w' ⟨wv, k1, k2, k3⟩
            rw [← HS.out] at k1 k3
            exact ⟨wv, k1, k2, k3⟩
          have HRD := Lib.hid hrd2; have HX2 := Lib.hid hx2; have HFD2 := Lib.hid hfd2; have HFED2 := Lib.hid hfed2
          clear hrd hrd2 hx2 hfd2 hfed2 hc2
          have htk : ∀ w0, (Instr.sliceAt 22 (.slice ao b.length cap) none (some (.int .i64 ((m : Nat) : Int))) none).run Try.prog w0 = .ok (.slice ao m cap) w0 := HTK.out.1
          go_wp2_with (go_at_call 18; refine HRD.out.mono ?_)
          clear htk
          rintro e w3 ⟨wv, rfl, hx3, hfd3⟩
          obtain ⟨wo, wc, rfl⟩ := hfd3.shape
          have hfl := HFL.out; have hal := HAL.out; have hfe := HFED2.out; have hdrop := HDROP.out
          obtain ⟨dv, hdr, hds⟩ := run_drop_fd Try.underlying33 FHI.out FHSZ.out (hfd3.toS) fs0 (by omega)
          rw [hdrop] at hds
          have hsame := same_true w3 (.slice lo nx.length lc) dv nx (HFD2.out.ext hx3).toS hds HBND.out
          have hlt2 : ¬ fs1.length < fs0 := by omega
          have hx3' := HX2.out.trans hx3
          have hkl := (hfe.keep hx3 (fun f => f) (fun f => f)).few
          have hk3 := hfe.keep hx3 (fun f => f) (fun f => f)
          have hkb : a1 ≤ 9000 := by have := HM2.out; have := H5.out; omega
          have HSAME := Lib.hid hsame; have HX3 := Lib.hid hx3'; have HK3 := Lib.hid hk3; have HDR := Lib.hid hdr; have HLT2 := Lib.hid hlt2; have HKL := Lib.hid hkl
          have hw3 : IntKind.u64.wrap (a1 : Int) = (a1 : Int) := wrap_u64_of (by omega) (by omega)
          obtain ⟨kk, hkk⟩ : ∃ kk, kk = m - a1 := ⟨_, rfl⟩
          have hsub : IntKind.i64.wrap (((m : Nat) : Int) - (a1 : Int)) = (kk : Int) := by rw [IntKind.wrap_i64, hkk]; have := HM2.out; have := H5.out; omega
          have HKK := Lib.hid hkk
          clear hsame hx3' hk3 hlt2 hkl hfl hfe hfd3 hds hdr hdrop hx3 hkk hal hkb
          have hend : ∀ w4, Ext w w4 → IsS w4 r g (if e1 = 0 then (b.take m).drop a1 else []) a1 e1 → FeedsRel b ps w r g (.int .i64 ((m : Nat) : Int)) (.int .i64 (fs1.length : Nat)) (.int .i64 (e1 : Nat)) (.int .i64 ((i' + 1 : Nat) : Int)) w4 := fun w4 h1 h2 => by
            refine ⟨i' + 1, m, rfl, rfl, by rw [← HS.out], by rw [← HS.out], hlt, HM2.out, ?_, h1⟩
            unfold Fed
            rw [← HS.out]
            exact h2
          have HEND := Lib.hid hend; clear hend
          have HMS := Lib.hid (meas_step ps.length i' hlt (by have := H6.out; omega))
          have hr9 := rel_step ps.length i' hlt (by have := H6.out; omega)
          have HR9 := Lib.hid hr9; clear hr9
          by_cases hE1 : e1 = 0
          · have hkv : ((b.take m).drop a1).length = kk := by rw [List.length_drop, HTL.out, HKK.out]
            have HKV := Lib.hid hkv
            have hkl := HKL.out
            rw [if_pos hE1, hkv] at hkl
            have hk3' : IsS w3 r g ((b.take m).drop a1) a1 e1 := by have := HK3.out; rwa [if_pos hE1] at this
            have HK3' := Lib.hid hk3'; clear hk3'
            have hend' : ∀ w4, Ext w w4 → IsS w4 r g ((b.take m).drop a1) a1 e1 → FeedsRel b ps w r g (.int .i64 ((m : Nat) : Int)) (.int .i64 (fs1.length : Nat)) (.int .i64 (e1 : Nat)) (.int .i64 ((i' + 1 : Nat) : Int)) w4 := fun w4 h1 h2 => HEND.out w4 h1 (by rwa [if_pos hE1])
            have HEND' := Lib.hid hend'; clear hend'
            subst hE1
            have hdr := HDR.out; have hlt2 := HLT2.out
            clear hkv
            go_wp2_with (go_at_call 19; refine HSAME.out.mono ?_)
            rintro e w4 ⟨rfl, hx4⟩
            have hkv0 := HKV.out
            have hk4 := HK3'.out.keep hx4 (fun f => f) (fun f => f)
            have hke := scKept_any w4 r g _ _ _ hk4
            rw [hkv0] at hke
            have HK4 := Lib.hid hk4; have HX4 := Lib.hid (HX3.out.trans hx4)
            clear hk4 hx4 hkv0
            have HKE := Lib.hid hke; clear hke
            have hb4 : decide ((4105 : Int) < (kk : Int)) = false := decide_eq_false (by omega)
            go_wp2_with (go_at_call 16; refine (scErr_any w4 r g _ _ _ HK4.out).mono ?_; rintro e w5 ⟨rfl, rfl⟩)
            go_wp2_with (go_at_call 20; refine (scAt_any w5 r g _ _ _ HK4.out).mono ?_; rintro e w6 ⟨rfl, rfl⟩)
            go_wp2_with (go_at_call 17; refine HKE.out.mono ?_; rintro e w7 ⟨rfl, rfl⟩)
            exact ⟨HEND'.out _ HX4.out HK4.out, meas2 ps.length i' HLT.out⟩
          · have hk3' : IsS w3 r g [] a1 e1 := by have := HK3.out; rwa [if_neg hE1] at this
            have HK3' := Lib.hid hk3'; clear hk3'
            have hend' : ∀ w4, Ext w w4 → IsS w4 r g [] a1 e1 → FeedsRel b ps w r g (.int .i64 ((m : Nat) : Int)) (.int .i64 (fs1.length : Nat)) (.int .i64 (e1 : Nat)) (.int .i64 ((i' + 1 : Nat) : Int)) w4 := fun w4 h1 h2 => HEND.out w4 h1 (by rwa [if_neg hE1])
            have HEND' := Lib.hid hend'; clear hend'
            have b1 : ((e1 : Int) != 0) = true := by simp; omega
            have hdr := HDR.out; have hlt2 := HLT2.out
            go_wp2_with (go_at_call 19; refine HSAME.out.mono ?_)
            rintro e w4 ⟨rfl, hx4⟩
            have hk4 := HK3'.out.keep hx4 (fun f => f) (fun f => f)
            have hke := scKept_any w4 r g _ _ _ hk4
            have HK4 := Lib.hid hk4; have HX4 := Lib.hid (HX3.out.trans hx4)
            clear hk4 hx4
            have HKE := Lib.hid hke; clear hke
            go_wp2_with (go_at_call 16; refine (scErr_any w4 r g _ _ _ HK4.out).mono ?_; rintro e w5 ⟨rfl, rfl⟩)
            go_wp2_with (go_at_call 20; refine (scAt_any w5 r g _ _ _ HK4.out).mono ?_; rintro e w6 ⟨rfl, rfl⟩)
            go_wp2_with (go_at_call 17; refine HKE.out.mono ?_; rintro e w7 ⟨rfl, rfl⟩)
            exact ⟨HEND'.out _ HX4.out HK4.out, meas2 ps.length i' HLT.out⟩
        · have hE0' : (sc 0 (b.take n)).2.2 ≠ 0 := by rw [← HE0.out]; exact hE
          have hst : sc 0 (b.take m) = sc 0 (b.take n) := by rw [← hcat]; exact sc_stop hE0'
          have hf : Calls Try.prog 15 #[.pointer (some ⟨r, 0, none⟩), .slice so ((b.take m).drop n).length sc'] wr (StopTo r g (b.take m) e0 wr) := by
            refine (fed_stop wr r g (b.take n) ((b.take m).drop n) _ HFED.out hE0').mono ?_
            rintro q w' ⟨k1, k2, k3⟩
            rw [← HE0.out] at k1
            rw [hcat] at k3
            exact ⟨k1, k2, k3⟩
          have HF := Lib.hid hf; have HST := Lib.hid hst
          have b8 : ((e0 : Int) != 0) = true := by simp; omega
          have hend : ∀ w4, Ext w w4 → Fed w4 r g (b.take m) → FeedsRel b ps w r g (.int .i64 ((m : Nat) : Int)) (.int .i64 (fs0 : Nat)) (.int .i64 (e0 : Nat)) (.int .i64 ((i' + 1 : Nat) : Int)) w4 := fun w4 h1 h2 => by
            refine ⟨i' + 1, m, rfl, rfl, by rw [HST.out, ← HFS0.out], by rw [HST.out, ← HE0.out], hlt, HM2.out, h2, h1⟩
          have HEND := Lib.hid hend
          clear hf hst hE0' hend htk hcat hcl htl hM1 hM2 hsr
          generalize hL : ((b.take m).drop n).length = L at hmid HF
          clear hL
          go_wp2_with (go_at_call 15; refine HF.out.mono ?_)
          clear hmid
          rintro e w2 ⟨rfl, hx2, hfed2⟩
          have hk2 := hfed2
          unfold Fed at hk2
          rw [HST.out, ← HE0.out, if_neg hE] at hk2
          have HX2 := Lib.hid (HEXT.out.trans hx2); have HFED2 := Lib.hid hfed2; have HK2 := Lib.hid hk2
          clear hx2 hfed2 hk2
          go_wp2_with (go_at_call 16; refine (scErr_any w2 r g _ _ _ HK2.out).mono ?_; rintro e w5 ⟨rfl, rfl⟩)
          go_wp2_with (go_at_call 17; refine (scKept_any w5 r g _ _ _ HK2.out).mono ?_; rintro e w7 ⟨rfl, rfl⟩)
          exact ⟨HEND.out _ HX2.out HFED2.out, meas2 ps.length i' HLT.out⟩
    · go_wp2_with (fail)
      refine (awake5_any _).mono ?_
      rintro e w5 ⟨rfl, hx⟩
      have HX5 := Lib.hid (HEXT.out.trans hx)
      clear hx
      go_wp2
      go_ret
      exact ⟨rfl, HX5.out⟩
end Go.Proofs.Ytoggnmfjkbnopaa
