/-
  ScanStops: the walk. MADE BY mkScStops.py
-/
import Derived.Test.YtoggnmfjkbnopaaScI
import Derived.Test.YtoggnmfjkbnopaaTurned
import Derived.Laws.OwnMore
namespace Go.Proofs.Ytoggnmfjkbnopaa
open Go.RowKit Go.Lac

def StopRel (l : List Mk) (k : Nat) (w : World) (bv fv ix : Value) (wr : World) : Prop :=
  ∃ i : Nat, ix = .int .i64 (i : Nat) ∧ i ≤ l.length ∧ (∀ j (h : j < l.length), j < i → Mk.right l[j] ∧ l[j].2.2.length ≤ 300) ∧ wr.ownsRow w.heap.size 5 1 bv (stopF l k i).length (cellsB (stopF l k i)) ∧
    (∃ fr : Nat, fv = .int .i64 (fr : Nat) ∧ fr = if k < i then ((l.take k).flatMap Mk.bytes).length else 0) ∧ Ext w wr
theorem infoFr4' : (Try.prog.info? 44).map (fun i => (i.size)) = some 3 := by kernel_rfl
theorem infoFr4'' : ∃ i, Try.prog.info? 44 = some i ∧ i.size = 3 := by
  have h := infoFr4'
  cases hq : Try.prog.info? 44 with
  | none => rw [hq] at h; cases h
  | some i => rw [hq] at h; exact ⟨i, rfl, by simpa using h⟩
theorem meas4 (n j : Nat) (h : j < n) : n - (intOf (.int .i64 ((j : Int) + 1))).toNat < n - (intOf (.int .i64 (j : Int))).toNat := by
  simp only [intOf]
  omega

def StopWh (r g k fr : Nat) (w : World) (q : Ending) (w' : World) : Prop :=
  ∃ lo lc, q = .returned (.tuple #[.slice lo k lc, .int .i64 3]) ∧ Ch (fun i => i = g ∨ i = r) w w' ∧ IsS w' r g [] fr 3
theorem own_keep' {M : Nat → Prop} {w w' : World} {base : Nat} {e : TypeId} {size n : Nat} {v : Value} {xs : List Value} (h : w.ownsRow base e size v n xs) (k : Ch M w w') (hm : ∀ g, v.ownBlock = some g → ¬ M g) : w'.ownsRow base e size v n xs := by
  refine ⟨h.1, ?_⟩
  rcases h.2 with h0 | ⟨g', cap', cur, hv, h1, h2, h3⟩
  · exact .inl h0
  · exact .inr ⟨g', cap', cur, hv, h1, by rw [k.block g' (Array.getElem?_eq_some_iff.1 h2).1 (hm g' (by rw [hv]; rfl))]; exact h2, h3⟩
set_option maxRecDepth 20000 in
set_option maxHeartbeats 4000000 in
theorem scanStops_walk (lv : Value) (l : List Mk) (a : Nat) (hv : Value) (bh : List UInt8) (w : World) (hl : FrS w lv l) (ha : a < 256) (hb : Rd w hv bh) :
    Calls Try.prog 6 #[lv, .int .u8 (a : Nat), hv] w fun e w' => e = .returned (.bool true) ∧ Ext w w' := by
  obtain ⟨i, hi, hz, hsz, hby⟩ := info_parts infoU8
  obtain ⟨fi, fhi, fhsz⟩ := infoFr4''
  obtain ⟨lo, lc, rfl, hlm, hel⟩ := hl
  obtain ⟨bo, bc, rfl⟩ := hb.shape
  have HI := Lib.hid hi; have HZ := Lib.hid hz; have HSZ := Lib.hid hsz; have HBY := Lib.hid hby; have FHI := Lib.hid fhi; have FHSZ := Lib.hid fhsz
  have HB := Lib.hid hb; have HEL := Lib.hid hel
  unfold maxLen at hlm
  clear hi hz hsz hby fhi fhsz hb hel
  obtain ⟨n, hn⟩ : ∃ n, n = l.length := ⟨_, rfl⟩
  rw [← hn] at hlm ⊢
  have HN := Lib.hid hn
  have hbm : bh.length ≤ 9223372036854775807 := by obtain ⟨_, _, _, g1, g2, _⟩ := HB.out; unfold maxLen at g2; omega
  generalize hbn : bh.length = bn at *
  have HBN := Lib.hid hbn
  clear hn hbn
  by_cases h12 : 12 < n
  · go_enter Try.func6, Try.ntmps6
    go_wp2
    go_ret
    exact ⟨rfl, Ch.refl _ _⟩
  by_cases h0 : n = 0
  · have e0 : (((n : Nat) : Int) == 0) = true := by rw [h0]; rfl
    clear h0
    go_enter Try.func6, Try.ntmps6
    go_wp2
    go_ret
    exact ⟨rfl, Ch.refl _ _⟩
  have e0 : (((n : Nat) : Int) == 0) = false := by simp; omega
  by_cases h60 : 60 < bn
  · go_enter Try.func6, Try.ntmps6
    go_wp2
    go_ret
    exact ⟨rfl, Ch.refl _ _⟩
  obtain ⟨k, hk⟩ : ∃ k, k = a % n := ⟨_, rfl⟩
  have hkn : k < n := by rw [hk]; exact Nat.mod_lt _ (by omega)
  have hw1 : IntKind.i64.wrap (a : Int) = (a : Int) := by rw [IntKind.wrap_i64]; omega
  have ht : (a : Int).tmod (n : Int) = (k : Int) := by rw [hk]; rfl
  have ht2 : (a : Int) % (n : Int) = (k : Int) := by rw [hk]; rfl
  have hw2 : IntKind.i64.wrap (k : Int) = (k : Int) := by rw [IntKind.wrap_i64]; omega
  have hn0 : ¬ ((n : Int) = 0) := by omega
  have HKN := Lib.hid hkn; have HLM := Lib.hid h12; have H60 := Lib.hid h60
  clear hk ha hkn
  go_enter Try.func6, Try.ntmps6
  go_wp2
  go_loopw [8, 9, 10] (fun bv fv ix wr => StopRel l k w bv fv ix wr) (fun _ _ ix _ => n - (intOf ix).toNat)
  case atStart => exact ⟨0, rfl, Nat.zero_le _, fun j _ h => absurd h (Nat.not_lt_zero _), ⟨rfl, .inl ⟨rfl, rfl⟩⟩, ⟨0, rfl, by rw [if_neg (by omega)]⟩, Ch.refl _ _⟩
  case round =>
    obtain ⟨i', rfl, hi1, hok, hown, ⟨fr, rfl, hfr⟩, hext⟩ := hrel
    have HFR := Lib.hid hfr; clear hfr
    have HOK := Lib.hid hok; have HOWN := Lib.hid hown; have HEXT := Lib.hid hext
    obtain ⟨vo, vc, rfl⟩ := owns_shape hown
    clear hok hown hext ht ht2 hw1 hn0
    by_cases hlt : i' < n
    · have hil : i' < l.length := by have := HN.out; omega
      obtain ⟨eb, eo, es, rfl, hra, hx1, hx2, hrd⟩ := HEL.out i' hil
      obtain ⟨sa, sc', rfl⟩ := hrd.shape
      obtain ⟨xx, hxx⟩ : ∃ xx, xx = l[i'] := ⟨_, rfl⟩
      have HXX : Hid (l[i']? = some xx ∧ ∀ h : i' < l.length, l[i'] = xx) := Lib.hid ⟨by rw [List.getElem?_eq_getElem hil, hxx], fun _ => hxx.symm⟩
      rw [← hxx] at hra hx1 hx2 hrd
      clear hxx
      obtain ⟨xv, xk, xp⟩ := xx
      simp only at hra hx1 hx2 hrd
      have c0 : wr.cell? ⟨eb, eo + i' * 3, none⟩ = some (.int .u8 (xv : Nat)) := HEXT.out.cell (p := ⟨eb, eo + i' * 3, none⟩) (fun f => f) _ (by have := hra 0 _ rfl; simpa using this)
      have c1 : wr.cell? ⟨eb, eo + i' * 3 + 1, none⟩ = some (.int .u8 (xk : Nat)) := HEXT.out.cell (p := ⟨eb, eo + i' * 3 + 1, none⟩) (fun f => f) _ (hra 1 _ rfl)
      have c2 : wr.cell? ⟨eb, eo + i' * 3 + 2, none⟩ = some (.slice sa xp.length sc') := HEXT.out.cell (p := ⟨eb, eo + i' * 3 + 2, none⟩) (fun f => f) _ (hra 2 _ rfl)
      have hidx : ∀ w0, (Instr.indexAt 41 (.slice (some ⟨eb, eo, none⟩) n lc) (.int .i64 (i' : Nat))).run Try.prog w0 = .ok (.pointer (some ⟨eb, eo + i' * 3, none⟩)) w0 := fun w0 => run_indexSl w0 Try.underlying41 FHI.out FHSZ.out eb eo n lc i' hlt
      have HIDX := Lib.hid hidx; have HRA := Lib.hid hra
      have HRD := Lib.hid hrd; have HX12 : Hid (xv < 256 ∧ xk < 256) := Lib.hid ⟨hx1, hx2⟩
      have HLT := Lib.hid hlt; have HI1 := Lib.hid hi1
      clear hrd hx1 hx2 hil hra hi1
      have HMK : Hid (∀ w, Rd w (.slice sa xp.length sc') xp → xp.length ≤ 5000 → frRight xv xk xp.length = 0 → Calls Try.prog 23 #[.agg #[.int .u8 (xv : Nat), .int .u8 (xk : Nat), .slice sa xp.length sc']] w (MakeOwn xv xk xp w)) := Lib.hid fun w h h1 h2 => refMake_own xv xk _ xp w HX12.out.1 HX12.out.2 h h1 h2
      have HRR : Hid (∀ w, Rd w (.slice sa xp.length sc') xp → Calls Try.prog 22 #[.agg #[.int .u8 (xv : Nat), .int .u8 (xk : Nat), .slice sa xp.length sc']] w fun e w' => e = .returned (.int .i64 (frRight xv xk xp.length : Nat)) ∧ Ext w w') := Lib.hid fun w h => refRight_any xv xk _ xp w HX12.out.1 HX12.out.2 h
      have HRW := Lib.hid (HRD.out.ext HEXT.out)
      generalize hpn : xp.length = pn at *
      have HPN := Lib.hid hpn
      clear hpn
      have hidx := HIDX.out wr
      by_cases h300 : 300 < pn
      · clear hidx
        have hidx := HIDX.out wr
        go_wp2
        try simp only [Exit.inBlock]
        go_ret
        exact ⟨rfl, HEXT.out⟩
      have H300 := Lib.hid h300
      go_wp2_with (go_at_call 22; refine (HRR.out _ HRW.out).mono ?_)
      intro e w2 hm
      obtain ⟨rfl, hx⟩ := hm
      have HX3 := Lib.hid (HEXT.out.trans hx)
      have c0 := hx.cell (p := ⟨eb, eo + i' * 3, none⟩) (fun f => f) _ c0
      have c1 := hx.cell (p := ⟨eb, eo + i' * 3 + 1, none⟩) (fun f => f) _ c1
      have c2 := hx.cell (p := ⟨eb, eo + i' * 3 + 2, none⟩) (fun f => f) _ c2
      have HR2 := Lib.hid (HRW.out.ext hx)
      have HOW2 := Lib.hid (HOWN.out.ext hx)
      clear hx hidx
      by_cases hE : frRight xv xk pn = 0
      case neg =>
        have e1 : (((frRight xv xk pn : Nat) : Int) != 0) = true := by simp; omega
        clear hE
        generalize frRight xv xk pn = E at *
        go_wp2
        try simp only [Exit.inBlock]
        go_ret
        exact ⟨rfl, HX3.out⟩
      have HE := Lib.hid hE
      rw [hE]
      clear hE
      have hidx := HIDX.out w2
      have HM2 := Lib.hid (HMK.out w2 HR2.out (by have := HPN.out; have := H300.out; omega) HE.out)
      go_wp2_with (go_at_call 23; refine HM2.out.mono ?_)
      intro e w4 hm
      obtain ⟨t, rfl, hx, ho⟩ := hm
      have HBL0 : Hid ((frBytes xv xk xp).length = pn + 10) := Lib.hid (by rw [made_length (by rw [HPN.out]; exact HE.out), HPN.out])
      have HM0 : Hid ((frBytes xv xk xp)[0]? = some 76) := Lib.hid (made_first (x := (xv, xk, xp)) (by show frRight xv xk xp.length = 0; rw [HPN.out]; exact HE.out))
      obtain ⟨bs, hbs⟩ : ∃ bs, bs = frBytes xv xk xp := ⟨_, rfl⟩
      rw [← hbs] at HBL0 HM0 ho
      have HBS : Hid (Mk.bytes (xv, xk, xp) = bs) := Lib.hid hbs.symm
      have HBL := Lib.hid HBL0.out
      obtain ⟨ta, tc, rfl⟩ := owns_shape ho
      obtain ⟨g, rfl, hge⟩ := owns_addr ho (by rw [HBL.out]; omega)
      rw [HBL.out] at ho ⊢
      have HO4 := Lib.hid ho; have HGE := Lib.hid hge; have HX4 := Lib.hid (HX3.out.trans hx); have HOW4 := Lib.hid (HOW2.out.ext hx)
      have HOK2 : Hid (∀ j (h : j < l.length), j < i' + 1 → Mk.right l[j] ∧ l[j].2.2.length ≤ 300) := Lib.hid fun j h hj => by
        by_cases hji : j < i'
        · exact HOK.out j h hji
        · have e : j = i' := by omega
          subst e
          rw [HXX.out.2 h]
          exact ⟨by show frRight xv xk xp.length = 0; rw [HPN.out]; exact HE.out, by show xp.length ≤ 300; have := HPN.out; have := H300.out; omega⟩
      have HLEN : Hid ((stopF l k i').length ≤ i' * 310) := Lib.hid (by
        have hgen : ∀ q, q ≤ i' → (stopF l k q).length ≤ q * 310 := fun q => by
          induction q with
          | zero => intro _; simp [stopF]
          | succ q ih =>
            intro hq
            have hql : q < l.length := by have := HN.out; have := HLT.out; omega
            have h1 := HOK.out q hql (by omega)
            have h2 : l[q].bytes.length = l[q].2.2.length + 10 := made_length h1.1
            have h3 := ih (by omega)
            rw [stopF, List.getElem?_eq_getElem hql, List.length_append]
            simp only
            split
            · rw [List.length_set]; omega
            · omega
        exact hgen i' (Nat.le_refl _))
      clear ho hge hx hbs HBL0 hidx c0 c1 c2
      by_cases hik : i' = k
      · have e2 : (((i' : Nat) : Int) == ((k : Nat) : Int)) = true := by rw [hik]; simp
        have hc0 : w4.cell? ⟨g, 0, none⟩ = some (.int .u8 76) := by
          rw [HO4.out.cellAt 0 (by omega)]
          rw [cellsB, List.getElem?_map, HM0.out]; rfl
        have hf0 := HO4.out.frozenAt 0
        have hi0 : (Instr.indexAt 22 (.slice (some ⟨g, 0, none⟩) (pn + 10) tc) (.int .i64 0)).run Try.prog w4 = .ok (.pointer (some ⟨g, 0, none⟩)) w4 := by
          have := run_indexSl w4 Try.underlying22 HI.out HSZ.out g 0 (pn + 10) tc 0 (by omega)
          simpa using this
        have hst : (store ⟨g, 0, none⟩ (.int .u8 77)).run Try.prog w4 = .ok () (w4.setCell ⟨g, 0, none⟩ (.int .u8 77)) := by
          rw [run_store Try.prog w4 _ _ _ rfl, hc0]; simp [hf0]
        have HX5 : Hid (Ext w (w4.setCell ⟨g, 0, none⟩ (.int .u8 77))) := Lib.hid (HX4.out.setCell (.inr (by have := HGE.out; have := HX4.out.size; have h3 := HX3.out.size; show _ ≤ g; omega)) _)
        have HOB : Hid ((w4.setCell ⟨g, 0, none⟩ (.int .u8 77)).ownsRow w.heap.size 5 1 (.slice vo (stopF l k i').length vc) (stopF l k i').length (cellsB (stopF l k i'))) := Lib.hid (own_keep' HOW4.out (Ch.setCell (M := fun i => i = g) (Ch.refl _ _) (.inl rfl) _) fun q hq e => by have := HGE.out; have h2 := (HOW2.out.lt q hq).2; omega)
        have HC5 : Hid (Rd (w4.setCell ⟨g, 0, none⟩ (.int .u8 77)) (.slice (some ⟨g, 0, none⟩) (pn + 10) tc) (bs.set 0 77)) := Lib.hid (by have h1 := (HO4.out.stored 0 (.int .u8 77)).1; rw [show (cellsB bs).set 0 (.int .u8 77) = cellsB (bs.set 0 77) by rw [cellsB, cellsB, List.map_set]; rfl] at h1; rw [← HBL.out, show bs.length = (bs.set 0 77).length by simp] at h1 ⊢; exact Rd.ofOwns h1)
        have hlb : (stopF l k i').length ≤ 4000 := by
          have h1 := HLEN.out; have h2 := HLM.out; have h3 := HLT.out; omega
        have hbl5 : (bs.set 0 77).length = pn + 10 := by have := HBL.out; simpa using this
        obtain ⟨v', w', q1, q2, q3⟩ := run_append_sl (P := Try.prog) (w4.setCell ⟨g, 0, none⟩ (.int .u8 77)) w.heap.size 22 22 5 i (.int .u8 0) 1 1 Try.underlying22 HI.out HZ.out HSZ.out HBY.out rfl (by decide) (.slice vo (stopF l k i').length vc) (stopF l k i').length (cellsB (stopF l k i')) HOB.out (.slice (some ⟨g, 0, none⟩) (pn + 10) tc) (pn + 10) (cellsB (bs.set 0 77))
          (by have := HC5.out; unfold Rd at this; rwa [hbl5] at this) (by rw [cellsB_length, hbl5, Nat.mul_one]) (cellsB_one _) (by have := H300.out; omega) (by have := H300.out; unfold maxLen; omega) HX5.out.size
        obtain ⟨v0, vc0, rfl⟩ := owns_shape q2
        rw [← hbl5, ← cellsB_append, ← List.length_append, show stopF l k i' ++ bs.set 0 77 = stopF l k (i' + 1) by rw [stopF, HXX.out.1]; simp only; rw [if_pos hik, HBS.out]] at q2
        have hJ : StopRel l k w (.slice v0 ((stopF l k i').length + (pn + 10)) vc0) (.int .i64 ((stopF l k i').length : Nat)) (.int .i64 ((i' + 1 : Nat) : Int)) w' :=
          ⟨i' + 1, rfl, by have := HN.out; have := HLT.out; omega, fun j hj hlt' => HOK2.out j hj hlt', by have e := q2.1; rw [show (stopF l k i').length + (pn + 10) = (stopF l k (i' + 1)).length by rw [← show stopF l k i' ++ bs.set 0 77 = stopF l k (i' + 1) by rw [stopF, HXX.out.1]; simp only; rw [if_pos hik, HBS.out], List.length_append, hbl5]]; exact q2, ⟨(stopF l k i').length, rfl, by rw [if_pos (by omega), stopF_le i' (by omega) (by have := HN.out; have := HLT.out; omega), hik]⟩, HX5.out.grown q3 fun kk hk => .inr (HOB.out.lt kk hk).1⟩
        have HJ := Lib.hid hJ; have R5 := Lib.hid q1
        clear hlb hbl5 q1 q2 q3 hJ
        clear hik
        go_wp2_with (at_builtin; refine wpList_append_run rfl _ _ _ rfl rfl rfl R5.out ?_)
        exact ⟨HJ.out, meas4 n i' HLT.out⟩
      · have e2 : (((i' : Nat) : Int) == ((k : Nat) : Int)) = false := by simp; omega
        have HX5 : Hid (Ext w w4) := HX4
        have HOB : Hid (w4.ownsRow w.heap.size 5 1 (.slice vo (stopF l k i').length vc) (stopF l k i').length (cellsB (stopF l k i'))) := HOW4
        have HC5 : Hid (Rd w4 (.slice (some ⟨g, 0, none⟩) (pn + 10) tc) bs) := Lib.hid (by have h1 := HO4.out; rw [← HBL.out] at h1 ⊢; exact Rd.ofOwns h1)
        have hlb : (stopF l k i').length ≤ 4000 := by
          have h1 := HLEN.out; have h2 := HLM.out; have h3 := HLT.out; omega
        have hbl5 : (bs).length = pn + 10 := by have := HBL.out; simpa using this
        obtain ⟨v', w', q1, q2, q3⟩ := run_append_sl (P := Try.prog) w4 w.heap.size 22 22 5 i (.int .u8 0) 1 1 Try.underlying22 HI.out HZ.out HSZ.out HBY.out rfl (by decide) (.slice vo (stopF l k i').length vc) (stopF l k i').length (cellsB (stopF l k i')) HOB.out (.slice (some ⟨g, 0, none⟩) (pn + 10) tc) (pn + 10) (cellsB (bs))
          (by have := HC5.out; unfold Rd at this; rwa [hbl5] at this) (by rw [cellsB_length, hbl5, Nat.mul_one]) (cellsB_one _) (by have := H300.out; omega) (by have := H300.out; unfold maxLen; omega) HX5.out.size
        obtain ⟨v0, vc0, rfl⟩ := owns_shape q2
        rw [← hbl5, ← cellsB_append, ← List.length_append, show stopF l k i' ++ bs = stopF l k (i' + 1) by rw [stopF, HXX.out.1]; simp only; rw [if_neg hik, HBS.out]] at q2
        have hJ : StopRel l k w (.slice v0 ((stopF l k i').length + (pn + 10)) vc0) (.int .i64 (fr : Nat)) (.int .i64 ((i' + 1 : Nat) : Int)) w' :=
          ⟨i' + 1, rfl, by have := HN.out; have := HLT.out; omega, fun j hj hlt' => HOK2.out j hj hlt', by have e := q2.1; rw [show (stopF l k i').length + (pn + 10) = (stopF l k (i' + 1)).length by rw [← show stopF l k i' ++ bs = stopF l k (i' + 1) by rw [stopF, HXX.out.1]; simp only; rw [if_neg hik, HBS.out], List.length_append, hbl5]]; exact q2, ⟨fr, rfl, by rw [HFR.out]; exact if hkl : k < i' then by rw [if_pos hkl, if_pos (by omega)] else by rw [if_neg hkl, if_neg (by omega)]⟩, HX5.out.grown q3 fun kk hk => .inr (HOB.out.lt kk hk).1⟩
        have HJ := Lib.hid hJ; have R5 := Lib.hid q1
        clear hlb hbl5 q1 q2 q3 hJ
        clear hik
        go_wp2_with (at_builtin; refine wpList_append_run rfl _ _ _ rfl rfl rfl R5.out ?_)
        exact ⟨HJ.out, meas4 n i' HLT.out⟩
    · have hin : i' = n := by have := HN.out; omega
      subst hin
      have hnl := HN.out
      have hkl : k < l.length := by have := HKN.out; omega
      have hrt : ∀ x ∈ l, Mk.right x ∧ x.2.2.length ≤ 300 := fun x hx => by
        obtain ⟨j, hj, rfl⟩ := List.mem_iff_getElem.1 hx
        exact HOK.out j hj (by omega)
      have hS := stop_sc hkl (fun x hx => (hrt x hx).1)
      have hlen := stopF_len (k := k) hrt l.length (Nat.le_refl _)
      have hfr2 : fr = ((l.take k).flatMap Mk.bytes).length := by rw [HFR.out, if_pos HKN.out]
      rw [← hfr2] at hS
      have hfl : (fndsOf 0 (l.take k)).length = k := by rw [fndsOf_length, List.length_take]; omega
      obtain ⟨fs1, hfs⟩ : ∃ x, x = fndsOf 0 (l.take k) := ⟨_, rfl⟩
      rw [← hfs] at hS hfl
      rw [← hnl] at hS hlen
      have HS5 := Lib.hid hS
      have hfrb : fr ≤ 4000 := by
        have := sc_at_le (stopF l k i')
        rw [hS] at this
        have h2 := HLM.out
        simp only at this
        omega
      have hwf : IntKind.u64.wrap (fr : Int) = (fr : Int) := wrap_u64_of (by omega) (by omega)
      have HFL := Lib.hid hfl
      have HRF := Lib.hid (Rd.ofOwns HOWN.out)
      have HLN : Hid ((stopF l k i').length ≤ 400000) := Lib.hid (by have := HLM.out; omega)
      clear hnl hkl hrt hS hlen hfr2 hfl hfs hfrb hi1 hlt
      go_wp2_with (go_at_call 14; refine (new_any _).mono ?_)
      rintro e w1 ⟨r, g, rfl, hx1, hr, hg, hs⟩
      have HX1 := Lib.hid (HEXT.out.trans hx1); have HR := Lib.hid hr; have HG := Lib.hid hg
      have hfw := fed_whole w1 r g (stopF l k i') (.slice vo (stopF l k i').length vc) (Fed.nil hs) (HRF.out.ext hx1) HLN.out HS5.out
      have hf : Calls Try.prog 15 #[.pointer (some ⟨r, 0, none⟩), .slice vo (stopF l k i').length vc] w1 (StopWh r g k fr w1) := by
        refine Calls.mono hfw ?_
        rintro q w' ⟨v, h1, h2, h3, h4⟩
        obtain ⟨lo', lc', rfl⟩ := h3.shape
        rw [HFL.out] at h1
        exact ⟨lo', lc', h1, h2, h4⟩
      have HF := Lib.hid hf
      clear hx1 hr hg hs hfw hf
      go_wp2_with (go_at_call 15; refine HF.out.mono ?_)
      intro e w2 hm
      obtain ⟨lo', lc', rfl, hc2, hs2⟩ := hm
      have HX2 : Hid (Ext w w2) := Lib.hid (Ch.transNew HX1.out (hc2.mono fun i _ h => .inr (by have h1 := HR.out; have h2 := HG.out; have h3 := HEXT.out.size; rcases h with rfl | rfl <;> omega)))
      have HS2 := Lib.hid hs2
      clear hc2 hs2
      go_wp2_with fail
      refine (feed_err w2 r g _ _ _ _ HS2.out (by decide)).mono ?_
      intro e w3 hm
      obtain ⟨rfl, hx⟩ := hm
      have HX3 := Lib.hid (HX2.out.trans hx)
      have HS3 : Hid (IsS w3 r g [] fr 3) := Lib.hid (HS2.out.keep hx (fun f => f) (fun f => f))
      clear hx
      go_wp2_with fail
      refine (scAt_any w3 r g _ _ _ HS3.out).mono ?_
      rintro e w4 ⟨rfl, rfl⟩
      go_wp2_with fail
      refine (scKept_any w4 r g _ _ _ HS3.out).mono ?_
      rintro e w5 ⟨rfl, rfl⟩
      go_wp2_with fail
      refine (awake5_any _).mono ?_
      rintro e w6 ⟨rfl, hx⟩
      have HX6 := Lib.hid (HX3.out.trans hx)
      clear hx
      go_wp2
      go_ret
      exact ⟨rfl, HX6.out⟩
end Go.Proofs.Ytoggnmfjkbnopaa
