import Derived.Test.YtegclfpmgilnpaaGreatCelC
import Derived.Test.YtegclfpmgilnpaaGreatValO
namespace Go.Proofs.YtegclfpmgilnpaaGreat
open Go.RowKit Go.Lac
theorem concat_parts (w : World) (v : Value) (bss : List (List UInt8)) (h : Parts w v bss) (hn : bss ≠ []) (ht : total bss ≤ 2 ^ 47) (hl : bss.length ≤ 2 ^ 47) :
    Calls Tryz.prog 67 #[v] w (Made 5 bss.flatten w) := by
  obtain ⟨ao, cap, rfl, h1, h2⟩ := h
  have h0 : 0 < bss.length := List.length_pos_iff.2 hn
  obtain ⟨b, off, u, rfl, _, _⟩ := h2 0 h0
  refine concat_any bss b off cap w (fun k hk => ?_) ht hl
  obtain ⟨b', off', u', e, c1, c2⟩ := h2 k hk
  cases e
  exact ⟨u', c1, c2⟩
section
variable {P : Program} {ρ : Operand → Value} {o : Oper} {w : World} {T : Tmp → Kn} {d : Tmp}
theorem Exec.kbytes {src dst e : TypeId} {x : Operand} {bs : List UInt8} (ho : o.op = .convert src dst x) (hd : o.dst = some d) (hs : P.underlying src = some .string) (hdst : P.underlying dst = some (.slice e)) (he : P.underlying e = some (.int .u8))
    (hx : ρ x = .string ⟨bs.toArray⟩) (hl : bs.length ≤ maxLen) (hv : ∀ v w', Rd w' v bs → (T d).holds v w') :
    Exec P ρ o w fun v w' => (∀ d, o.dst = some d → knV T d v w') ∧ Ext w w' := by
  obtain ⟨cap, w', h1, h2, h3⟩ := run_toBytes (P := P) w bs src dst e hs hdst he hl
  refine Exec.value (v := .slice (some ⟨w.heap.size, 0, none⟩) bs.length cap) (w' := w') ?_ ⟨fun d' h => ?_, h2⟩
  · unfold execOp; rw [ho]
    simp only [hx, Sem.run_bind, h1, Result.andThen_ok, Sem.run_pure]
  · rw [hd] at h; cases h; exact hv _ _ h3
end
def formT (g n : Nat) (t : List UInt8) : Tmp → Kn
  | 48 => .is (.int .u64 (n : Nat))
  | 49 => .is (.int .u64 ((n + 2 : Nat) : Int))
  | 50 => .rd (sev (n + 2))
  | 51 => .is (.pointer (some ⟨g, 1, none⟩))
  | 52 => .is (.pointer (some ⟨g, 4, none⟩))
  | 53 => .is (.string ⟨t.toArray⟩)
  | 54 => .rd t
  | 55 => Kn.parts [sev (n + 2), t]
  | 56 => .rd (sev (n + 2) ++ t)
  | 4 => .rd (sev (n + 2) ++ t)
  | 5 => .is (.int .i64 0)
  | _ => .any
theorem field61_3' (w : World) (b : Nat) : (Instr.fieldAt 88 (.pointer (some ⟨b, 1, none⟩)) 3).run Tryz.prog w = .ok (.pointer (some ⟨b, 4, none⟩)) w := by kernel_rfl
theorem cBytes_len {ver : Nat} {c : Cel} {kind : Nat} (hc : c.ok) (h : cErr c kind = 0) (hk : c.k ≠ 0) : (cBytes ver c).length ≤ 2200 := by
  obtain ⟨e1, e2, e3, e4, e5, e6⟩ := cErr_zero h
  unfold cBytes
  split
  · simp
  · rename_i h1
    obtain ⟨hv, hty⟩ := e6 (by omega)
    have h48 : c.v.t.length ≤ 2048 := (vErr_zero hv).2.2.2.2.2.2.2.1
    have hl1 := vBytes_len (ver := 1) hc.2 hv
    have hl2 := vBytes_len (ver := 2) hc.2 hv
    have hs := sev_length_10 c.v.t.length (by omega)
    have hs2 := sev_length_10 (c.v.t.length + 2) (by omega)
    split
    · simp; omega
    split
    · simp; omega
    split
    · rw [List.length_append]; omega
    · omega
theorem infoSl7 : (Tryz.prog.info? 22).map (fun i => (i.zero, i.size, i.bytes)) = some (some (.slice none 0 0), 1, 24) := by kernel_rfl
def OkPost (bs : List UInt8) (w : World) (e : Ending) (w' : World) : Prop := ∃ s, e = .returned (.tuple #[s, .int .i64 0]) ∧ Ext w w' ∧ Rd w' s bs
theorem cells_one : (cellsB [1]).toArray = #[.int .u8 1] := rfl
theorem rd_one (w : World) : Rd (w.alloc (.cells #[.int .u8 1] 5)) (.slice (some ⟨w.heap.size, 0, none⟩) 1 1) [1] := by
  have := rd_new w [1] 5 (by unfold maxLen; simp)
  rw [cells_one] at this
  exact this
theorem put_one (v : Val) (w : World) (hok : v.ok) (he : vErr v = 0) : Calls Tryz.prog 93 #[.slice (some ⟨w.heap.size, 0, none⟩) 1 1, pv v, .int .u8 1] (w.alloc (.cells #[.int .u8 1] 5)) (OkPost (1 :: vBytes 1 v) (w.alloc (.cells #[.int .u8 1] 5))) := by
  have h := put_any (.slice (some ⟨w.heap.size, 0, none⟩) 1 1) [1] 1 v (w.alloc (.cells #[.int .u8 1] 5)) (rd_one w) (by simp) hok
  have hp1 : putE 1 v = 0 := by unfold putE; rw [if_neg (by omega)]; exact he
  unfold PutPost at h
  rw [hp1] at h
  generalize (w.alloc (.cells #[.int .u8 1] 5)) = W at *
  refine Calls.mono h ?_
  rintro e w' ⟨s, h1, h2, h3⟩
  rw [if_pos rfl] at h3
  exact ⟨s, h1, h2, h3⟩
theorem put_none (v : Val) (w : World) (hok : v.ok) (he : vErr v = 0) : Calls Tryz.prog 93 #[.slice none 0 0, pv v, .int .u8 2] w (OkPost (vBytes 2 v) w) := by
  have h := put_any (.slice none 0 0) [] 2 v w (rd_nil w) (by simp) hok
  have hp1 : putE 2 v = 0 := by unfold putE; rw [if_neg (by omega)]; exact he
  unfold PutPost at h
  rw [hp1] at h
  refine Calls.mono h ?_
  rintro e w' ⟨s, h1, h2, h3⟩
  rw [if_pos rfl, List.nil_append] at h3
  exact ⟨s, h1, h2, h3⟩
set_option maxRecDepth 20000 in
set_option maxHeartbeats 4000000 in
theorem cform_any (c : Cel) (kind ver : Nat) (w0 : World) (hc : c.ok) (h : cErr c kind = 0) (hk : c.k ≠ 0) (hver : ver = 1 ∨ ver = 2) :
    Calls Tryz.prog 66 #[pc c, .int .u8 (ver : Nat)] w0 (OkPost (cBytes ver c) w0) := by
  obtain ⟨i, hi, hz, hsz, hby⟩ := info_parts infoU8
  obtain ⟨e1, e2, e3, e4, e5, e6⟩ := cErr_zero h
  have HLG := Lib.hid (fun w => clarge_any c w)
  have HTX := Lib.hid (fun w => cIsText_any c.v.ty w)
  have hvl : c.v.t.length ≤ 2048 := by
    by_cases k1 : c.k = 1
    · rw [e4 (by omega)]; simp [Val.zero]
    · exact (vErr_zero (e6 (by omega)).1).2.2.2.2.2.2.2.1
  have HVL := Lib.hid hvl
  have HPU := Lib.hid (fun (x : UInt8) (w : World) => putUint_any (.slice (some ⟨w.heap.size, 0, none⟩) 1 1) [x] c.v.t.length (w.alloc (.cells (cellsB [x]).toArray 5)) (rd_new w [x] 5 (by unfold maxLen; simp)) (by simp) (by omega))
  obtain ⟨W, hW⟩ : ∃ W, W = w0.alloc (.cells (pcv c) 90) := ⟨_, rfl⟩
  have HX0 : Hid (Ext w0 W) := Lib.hid (by rw [hW]; exact (Ch.refl _ _).alloc _)
  have hP : PRow W w0.heap.size c := by rw [hW]; exact box_p c w0
  have HP := Lib.hid hP
  have hpc : pc c = .agg (pcv c) := rfl
  rw [hpc]
  obtain ⟨BS, hBS⟩ : ∃ BS, BS = cBytes ver c := ⟨_, rfl⟩
  rw [← hBS]
  unfold cBytes at hBS
  have hsa : (⟨c.v.t.toArray⟩ : ByteArray).size = c.v.t.length := by simp [ByteArray.size]
  obtain ⟨c0, l1, l2, l3, l4⟩ := hP.cells
  unfold strV at l4
  rw [hW] at c0 l1 l2 l3 l4
  have HW := Lib.hid hW
  have HI := Lib.hid hi; have HZ := Lib.hid hz; have HSZ := Lib.hid hsz; have HBY := Lib.hid hby
  clear hP hW hpc hi hz hsz hby
  have hn : IntKind.u64.wrap (c.v.t.length : Int) = (c.v.t.length : Int) := wrap_u64_of (by omega) (by omega)
  obtain ⟨n, hN⟩ : ∃ n, n = c.v.t.length := ⟨_, rfl⟩
  rw [← hN] at hn hsa HPU HVL hBS hvl
  have HN := Lib.hid hN; clear hN
  by_cases k1 : c.k = 1
  · rw [if_pos k1] at hBS
    have HBS := Lib.hid hBS
    have hrd := rd_new W [0] 5 (by unfold maxLen; simp)
    have hsw : W.heap.size = w0.heap.size + 1 := by rw [HW.out]; simp
    rw [hsw] at hrd
    have HRD := Lib.hid hrd
    rw [k1] at c0
    clear hBS hrd hsw e3 e4 e5 e6 hk k1 hc h hvl HPU
    go_enter Tryz.func66, Tryz.ntmps66
    go_wp2
    refine bodyPost_ret (results_tmp2 rfl _ _ _) rfl ?_
    rw [← HW.out, HBS.out]
    exact ⟨_, rfl, HX0.out.alloc _, HRD.out⟩
  have k2 : c.k = 2 := by omega
  rw [if_neg k1] at hBS
  have hv := (e6 k2).1
  have HPA := Lib.hid (fun w => put_one c.v w hc.2 hv)
  have HPB := Lib.hid (fun w => put_none c.v w hc.2 hv)
  have E1 : (((c.k : Nat) : Int) == 1) = false := by rw [k2]; rfl
  have HBS0 := Lib.hid hBS
  clear e3 e4 e5 e6 hk k1 k2 hc h hvl hv hBS
  by_cases hv1 : ver = 1
  · subst hv1
    go_enter Tryz.func66, Tryz.ntmps66
    go_wp2_with fail
    rw [← HW.out]
    refine (HLG.out _).mono ?_
    rintro e w1 ⟨rfl, hx⟩
    have HP1 := Lib.hid (HP.out.ext hx)
    have HX1 := Lib.hid (HX0.out.trans hx)
    obtain ⟨c0, l1, l2, l3, l4⟩ := HP1.out.cells
    clear hx
    by_cases hL : cLarge c = true
    · have hBS := HBS0.out
      rw [if_pos hL] at hBS
      have HBS := Lib.hid hBS
      have HLL := Lib.hid hL
      have hpu := HPU.out 2 w1
      have HU := Lib.hid hpu
      rw [hL]
      clear hBS hL hpu
      go_wp2_with (go_at_call 92; refine HU.out.mono ?_)
      intro e w2 hm
      obtain ⟨s, rfl, hx, hr⟩ := hm.rd
      have HX2 := Lib.hid ((HX1.out.alloc _).trans hx); have HR := Lib.hid hr
      clear hm hx hr
      go_wp2
      refine bodyPost_ret (results_tmp2 rfl _ _ _) rfl ?_
      rw [HBS.out]
      exact ⟨_, rfl, HX2.out, HR.out⟩
    · have hBS := HBS0.out
      rw [if_neg hL] at hBS
      have HBS := Lib.hid hBS
      have HU := Lib.hid (HPA.out w1)
      have hLf : cLarge c = false := by simpa using hL
      rw [hLf]
      obtain ⟨_, d1, d2, d3, d4⟩ := (HP1.out.ext ((Ch.refl _ _).alloc (.cells #[.int .u8 1] 5))).cells
      clear hBS hL hLf
      go_wp2_with (go_at_call 93; refine HU.out.mono ?_)
      intro e w2 hm
      obtain ⟨s, rfl, hx, hr⟩ := hm
      have HX2 := Lib.hid ((HX1.out.alloc _).trans hx); have HR := Lib.hid hr
      clear hx hr
      go_wp2
      refine bodyPost_ret (results_tmp2 rfl _ _ _) rfl ?_
      rw [HBS.out]
      exact ⟨_, rfl, HX2.out, HR.out⟩
  · have hv2 : ver = 2 := by omega
    subst hv2
    go_enter Tryz.func66, Tryz.ntmps66
    go_wp2_with fail
    rw [← HW.out]
    refine (HLG.out _).mono ?_
    rintro e w1 ⟨rfl, hx⟩
    have HP1 := Lib.hid (HP.out.ext hx)
    have HX1 := Lib.hid (HX0.out.trans hx)
    obtain ⟨c0, l1, l2, l3, l4⟩ := HP1.out.cells
    clear hx
    by_cases hL : cLarge c = true
    · have hBS := HBS0.out
      rw [if_pos hL] at hBS
      have HBS := Lib.hid hBS
      have HLL := Lib.hid hL
      have hpu := HPU.out 1 w1
      have HU := Lib.hid hpu
      rw [hL]
      clear hBS hL hpu
      go_wp2_with (go_at_call 92; refine HU.out.mono ?_)
      intro e w2 hm
      obtain ⟨s, rfl, hx, hr⟩ := hm.rd
      have HX2 := Lib.hid ((HX1.out.alloc _).trans hx); have HR := Lib.hid hr
      clear hm hx hr
      go_wp2
      refine bodyPost_ret (results_tmp2 rfl _ _ _) rfl ?_
      rw [HBS.out]
      exact ⟨_, rfl, HX2.out, HR.out⟩
    · have hBS := HBS0.out
      rw [if_neg hL, if_neg (by decide)] at hBS
      have hLf : cLarge c = false := by simpa using hL
      rw [hLf]
      by_cases ht : texty c.v.ty = true
      · rw [if_pos ht] at hBS
        have HBS := Lib.hid hBS
        rw [ht] at HTX
        clear hBS hL hLf ht
        go_wp2_with (go_at_call 79; refine (HTX.out _).mono ?_; rintro e w' ⟨rfl, rfl⟩)
        obtain ⟨i2, hi2, hz2, hsz2, _⟩ := info_parts infoSl7
        have HI2 := Lib.hid hi2; have HZ2 := Lib.hid hz2; have HSZ2 := Lib.hid hsz2
        have hw2 : IntKind.u64.wrap ((n : Int) + 2) = (n : Int) + 2 := by have := HVL.out; exact wrap_u64_of (by omega) (by omega)
        have HW2 := Lib.hid hw2
        clear hi2 hz2 hsz2 hw2
        refine wp_region_ext (formT w0.heap.size n c.v.t) mixedV (by rfl) (by rfl) ?all ?fin
        case all =>
          refine ⟨?_, ?_, ?_, ?_, ?_, ?_, ?_, ?_, ?_, ?_, ?_, trivial⟩
          · refine StepOK.plain (kn_stable _) rfl fun ρ w hρ hw hf => ?_
            have h6 : ρ (.tmp 6) = (.int .u64 (n : Nat)) := (hf 6).2 rfl rfl
            exact Exec.kmove rfl rfl h6
          · refine StepOK.plain (kn_stable _) rfl fun ρ w hρ hw hf => ?_
            have h48 : ρ (.tmp 48) = (.int .u64 (n : Nat)) := (hf 48).1 rfl
            exact Exec.same (v := .int .u64 ((n + 2 : Nat) : Int)) rfl (by simp [go_sem, hρ.const, h48, HW2.out]) rfl
          · refine StepOK.plain (kn_stable _) rfl fun ρ w hρ hw hf => ?_
            have h49 : ρ (.tmp 49) = (.int .u64 ((n + 2 : Nat) : Int)) := (hf 49).1 rfl
            refine Exec.kcall #[.slice none 0 0, .int .u64 ((n + 2 : Nat) : Int)] hρ rfl rfl (by simp [hρ.const, h49]) Tryz.func92 (by rfl) rfl ?_
            refine (putUint_any (.slice none 0 0) [] (n + 2) w (rd_nil w) (by simp) (by have := HVL.out; omega)).mono ?_
            intro e w' hm
            obtain ⟨q, rfl, hx, hr⟩ := hm.rd
            exact ⟨_, rfl, hr, hx⟩
          · refine StepOK.plain (kn_stable _) rfl fun ρ w hρ hw hf => ?_
            have h2 : ρ (.tmp 2) = .pointer (some ⟨w0.heap.size, 0, none⟩) := (hf 2).2 rfl rfl
            exact Exec.kfield rfl rfl h2 (fieldPC_1 w _) rfl
          · refine StepOK.plain (kn_stable _) rfl fun ρ w hρ hw hf => ?_
            have h51 : ρ (.tmp 51) = .pointer (some ⟨w0.heap.size, 1, none⟩) := (hf 51).1 rfl
            exact Exec.kfield rfl rfl h51 (field61_3' w _) rfl
          · refine StepOK.plain (kn_stable _) rfl fun ρ w hρ hw hf => ?_
            have h52 : ρ (.tmp 52) = .pointer (some ⟨w0.heap.size, 4, none⟩) := (hf 52).1 rfl
            have hc := (HP1.out.ext hw).text
            exact Exec.same (v := strV c.v.t) rfl (by simp [go_sem, hρ.const, h52, hc]) rfl
          · refine StepOK.plain (kn_stable _) rfl fun ρ w hρ hw hf => ?_
            have h53 : ρ (.tmp 53) = .string ⟨c.v.t.toArray⟩ := (hf 53).1 rfl
            exact Exec.kbytes rfl rfl Tryz.underlying9 Tryz.underlying22 Tryz.underlying5 h53 (by have h1 := HVL.out; have h2 := HN.out; unfold maxLen; omega) fun v w' hv => hv
          · refine StepOK.plain (kn_stable _) rfl fun ρ w hρ hw hf => ?_
            have h50 : Rd w (ρ (.tmp 50)) (sev (n + 2)) := (hf 50).1 rfl
            have h54 : Rd w (ρ (.tmp 54)) c.v.t := (hf 54).1 rfl
            exact Exec.ktwo rfl rfl Tryz.underlying152 HI2.out HZ2.out HSZ2.out h50 h54 fun v w' hv => hv
          · refine StepOK.plain (kn_stable _) rfl fun ρ w hρ hw hf => ?_
            have h55 : Parts w (ρ (.tmp 55)) [sev (n + 2), c.v.t] := (hf 55).1 rfl
            refine Exec.kcall #[ρ (.tmp 55)] hρ rfl rfl (by simp) Tryz.func67 (by rfl) rfl ?_
            refine (concat_parts w _ _ h55 (by simp) (by have h1 := HVL.out; have h2 := HN.out; have h3 := sev_length_10 (n + 2) (by omega); simp [total]; omega) (by simp)).mono ?_
            intro e w' hm
            obtain ⟨q, rfl, hx, hr⟩ := hm.rd
            have h9 : Rd w' q (sev (n + 2) ++ c.v.t) := by simpa using hr
            exact ⟨_, rfl, h9, hx⟩
          · refine StepOK.plain (kn_stable _) rfl fun ρ w hρ hw hf => ?_
            have h56 : Rd w (ρ (.tmp 56)) (sev (n + 2) ++ c.v.t) := (hf 56).1 rfl
            exact Exec.kassign rfl rfl h56
          · refine StepOK.plain (kn_stable _) rfl fun ρ w hρ hw hf => ?_
            exact Exec.kassign rfl rfl (hρ.const _)
        case fin =>
          intro ν w2 hfin hext
          have h4 : Rd w2 (ν 4) (sev (n + 2) ++ c.v.t) := hfin 9 4 rfl
          have h5 : ν 5 = .int .i64 0 := hfin 10 5 rfl
          have HX2 := Lib.hid (HX1.out.trans hext); have HR := Lib.hid h4
          simp only [Exit.then, ended, List.foldl_cons, List.foldl_nil, List.setIfInBounds_toArray, List.set_cons_succ, List.set_cons_zero, h5]
          clear hfin hext h4 h5
          go_wp2
          refine bodyPost_ret (results_tmp2 rfl _ _ _) rfl ?_
          rw [HBS.out]
          exact ⟨_, rfl, HX2.out, HR.out⟩
      · rw [if_neg ht] at hBS
        have HBS := Lib.hid hBS
        have htf : texty c.v.ty = false := by simpa using ht
        rw [htf] at HTX
        have HU := Lib.hid (HPB.out w1)
        clear hBS hL hLf ht htf
        go_wp2_with (first
          | (go_at_call 79; refine (HTX.out _).mono ?_; rintro e w' ⟨rfl, rfl⟩)
          | (go_at_call 93; refine HU.out.mono ?_))
        intro e w2 hm
        obtain ⟨s, rfl, hx, hr⟩ := hm
        have HX2 := Lib.hid (HX1.out.trans hx); have HR := Lib.hid hr
        clear hx hr
        go_wp2
        refine bodyPost_ret (results_tmp2 rfl _ _ _) rfl ?_
        rw [HBS.out]
        exact ⟨_, rfl, HX2.out, HR.out⟩
def CPutPost (b : List UInt8) (ver : Nat) (c : Cel) (kind : Nat) (w : World) (e : Ending) (w' : World) : Prop :=
  ∃ s, e = .returned (.tuple #[s, .int .i64 (cpErr ver c kind : Nat)]) ∧ Ext w w' ∧ Rd w' s (if cpErr ver c kind = 0 then b ++ cBytes ver c else [])
set_option maxRecDepth 20000 in
set_option maxHeartbeats 1600000 in
theorem cput_any (vb : Value) (b : List UInt8) (c : Cel) (kind ver : Nat) (w0 : World) (hb : Rd w0 vb b) (hl : b.length ≤ 100000) (hc : c.ok) :
    Calls Tryz.prog 43 #[vb, pc c, .int .u8 (kind : Nat), .int .u8 (ver : Nat)] w0 (CPutPost b ver c kind w0) := by
  obtain ⟨ao, cap, rfl⟩ := hb.shape
  have HIV := Lib.hid (cIsVersion_any ver)
  have HRI := Lib.hid (cright_any c kind)
  have HFO := Lib.hid (fun w h h' h'' => cform_any c kind ver w hc h h' h'')
  have HLB := Lib.hid hl
  obtain ⟨PO, hPO⟩ : ∃ PO, PO = CPutPost b ver c kind w0 := ⟨_, rfl⟩
  have HPE : Hid (∀ E w', cpErr ver c kind = E → E ≠ 0 → Ext w0 w' → PO (.returned (.tuple #[.slice none 0 0, .int .i64 (E : Nat)])) w') := Lib.hid fun E w' h h' hx => by
    rw [hPO]
    exact ⟨_, by first | (rw [h]; rfl) | rw [h], hx, by rw [h, if_neg h']; exact rd_nil _⟩
  have HP0 : Hid (∀ s w', cpErr ver c kind = 0 → Ext w0 w' → Rd w' s (b ++ cBytes ver c) → PO (.returned (.tuple #[s, .int .i64 0])) w') := Lib.hid fun s w' h hx hr => by
    rw [hPO]
    exact ⟨_, by first | (rw [h]; rfl) | rw [h], hx, by rw [if_pos h]; exact hr⟩
  have HCE : Hid (∀ x, cpErr ver c kind = x ↔ (if ver ≠ 1 ∧ ver ≠ 2 then 18 else if cErr c kind ≠ 0 then cErr c kind else if c.k = 0 then 12 else 0) = x) := Lib.hid fun x => Iff.rfl
  have HCL := Lib.hid (fun h h' => cBytes_len (ver := ver) (kind := kind) hc h h')
  rw [← hPO]
  obtain ⟨W, hW⟩ : ∃ W, W = w0.alloc (.cells (pcv c) 90) := ⟨_, rfl⟩
  have hx0 : Ext w0 W := by rw [hW]; exact (Ch.refl _ _).alloc _
  have hP : PRow W w0.heap.size c := by rw [hW]; exact box_p c w0
  have HP := Lib.hid hP; have HX0 := Lib.hid hx0; have HB := Lib.hid (hb.ext hx0)
  have hpc : pc c = .agg (pcv c) := rfl
  rw [hpc]
  obtain ⟨c0, l1, l2, l3, l4⟩ := hP.cells
  rw [hW] at c0 l1 l2 l3 l4
  have HW := Lib.hid hW
  clear hP hx0 hW hpc hPO hb hl hc
  by_cases hv : ver = 1 ∨ ver = 2
  · rw [decide_eq_true hv] at HIV
    have HV := Lib.hid hv
    clear hv
    go_enter Tryz.func43, Tryz.ntmps43
    go_wp2_with (go_at_call 54; refine (HIV.out _).mono ?_; rintro e w' ⟨rfl, rfl⟩)
    rw [← HW.out]
    refine (HRI.out _).mono ?_
    rintro e w1 ⟨rfl, hx⟩
    have HP1 := Lib.hid (HP.out.ext hx); have HX1 := Lib.hid (HX0.out.trans hx); have HB1 := Lib.hid (HB.out.ext hx)
    obtain ⟨c0, l1, l2, l3, l4⟩ := HP1.out.cells
    clear hx
    by_cases he : cErr c kind = 0
    · have HE := Lib.hid he
      rw [he]
      clear he
      by_cases hk : c.k = 0
      · have e1 : (((c.k : Nat) : Int) == 0) = true := by rw [hk]; rfl
        have HF := Lib.hid ((HCE.out 12).2 (by rw [if_neg (by have := HV.out; omega), if_neg (by rw [HE.out]; simp), if_pos hk]))
        clear hk
        go_wp2
        exact HPE.out 12 _ HF.out (by decide) HX1.out
      · have e1 : (((c.k : Nat) : Int) == 0) = false := by simp; omega
        have HF := Lib.hid ((HCE.out 0).2 (by rw [if_neg (by have := HV.out; omega), if_neg (by rw [HE.out]; simp), if_neg hk]))
        have HFM := Lib.hid (HFO.out w1 HE.out hk HV.out)
        have HL2 := Lib.hid (HCL.out HE.out hk)
        clear hk
        go_wp2_with fail
        refine HFM.out.mono ?_
        intro e w2 hm
        obtain ⟨s, rfl, hx, hr⟩ := hm
        obtain ⟨sa, sc', rfl⟩ := hr.shape
        have hcat := concat_any [b, cBytes ver c] w2.heap.size 0 2 _ (rdAll_two (HB1.out.ext hx) hr 22) (by have := HLB.out; have := HL2.out; simp [total]; omega) (by simp)
        have HC := Lib.hid hcat
        have HX2 := Lib.hid (HX1.out.trans hx)
        clear hx hr hcat c0 l1 l2 l3 l4
        go_wp2_with (go_at_call 67; refine HC.out.mono ?_)
        intro e w5 hm
        obtain ⟨s5, rfl, h5, h6⟩ := hm.rd
        have HX5 := Lib.hid ((HX2.out.alloc _).trans h5)
        have H6 : Hid (Rd w5 s5 (b ++ cBytes ver c)) := Lib.hid (by simpa using h6)
        clear h5 h6 hm
        go_wp2
        exact HP0.out _ _ HF.out HX5.out H6.out
    · have HF := Lib.hid ((HCE.out (cErr c kind)).2 (by rw [if_neg (by have := HV.out; omega), if_pos he]))
      have HE := Lib.hid he
      have e1 : (((cErr c kind : Nat) : Int) != 0) = true := by simp; omega
      clear he
      generalize cErr c kind = E at *
      go_wp2
      exact HPE.out E _ HF.out HE.out HX1.out
  · rw [decide_eq_false hv] at HIV
    have HF := Lib.hid ((HCE.out 18).2 (by rw [if_pos (by omega)]))
    clear hv
    go_enter Tryz.func43, Tryz.ntmps43
    go_wp2_with (go_at_call 54; refine (HIV.out _).mono ?_; rintro e w' ⟨rfl, rfl⟩)
    rw [← HW.out]
    exact HPE.out 18 _ HF.out (by decide) HX0.out
end Go.Proofs.YtegclfpmgilnpaaGreat
