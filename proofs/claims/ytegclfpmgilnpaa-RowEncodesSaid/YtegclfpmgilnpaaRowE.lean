/-
  Rows: Fill (the document's). MADE BY mkRowE.py
-/
import Derived.Test.YtegclfpmgilnpaaRowD
namespace Go.Proofs.Ytegclfpmgilnpaa
open Go.RowKit Go.Lac

/-- A store of a cell's last slots (from the d-th on), in the middle of a row of one's own. -/
theorem own_setRrD {base : Nat} {w : World} {v : Value} {l : List Cel} {k : Nat} (d : Nat) (hd : d ≤ 6) (c : Cel) (h : OwnRr base w v l) (hk : k < l.length) (hc : (rcv c).toList.take d = (rcv l[k]).toList.take d) :
    ∃ g cap, v = .slice (some ⟨g, 0, none⟩) l.length cap ∧ base ≤ g ∧ OwnRr base (w.setCells g (k * 6 + d) ((rcv c).toList.drop d)) v (l.set k c) ∧ w.there g (k * 6 + d) (6 - d) := by
  obtain ⟨h1, ⟨rfl, h2⟩ | ⟨g, cap, cur, rfl, hg, hh, hn, hm, hs, ht⟩⟩ := h
  · omega
  refine ⟨g, cap, rfl, hg, ?_, ?_⟩
  · have hvl : ((rcv c).toList.drop d).length = 6 - d := by simp [rcv]
    have hle : k * 6 + 6 ≤ l.length * 6 := by omega
    have hle2 : l.length * 6 ≤ cap * 6 := Nat.mul_le_mul_right _ hn
    obtain ⟨cur', k1, k2, k3⟩ := setCells_block g ((rcv c).toList.drop d) (k * 6 + d) w cur hh (by rw [hvl, hs]; omega)
    refine ⟨by rw [RcC_length], .inr ⟨g, cap, cur', by simp, hg, k1, by simpa using hn, hm, by omega, ?_⟩⟩
    have hsplit : RcC (l.set k c) = RcC (l.take k) ++ (rcv c).toList ++ RcC (l.drop (k + 1)) := by
      rw [List.set_eq_take_append_cons_drop, if_pos hk, RcC_append]
      simp [RcC]
    have hl : RcC l = RcC (l.take k) ++ (rcv l[k]).toList ++ RcC (l.drop (k + 1)) := by
      have e0 : l.take k ++ l[k] :: l.drop (k + 1) = l := by rw [← List.drop_eq_getElem_cons hk, List.take_append_drop]
      have e1 := (congrArg RcC e0).symm.trans (RcC_append _ _)
      rw [e1, show RcC (l[k] :: l.drop (k + 1)) = (rcv l[k]).toList ++ RcC (l.drop (k + 1)) from List.flatMap_cons, List.append_assoc]
    have hlt : (RcC (l.take k)).length = k * 6 := by rw [RcC_length, List.length_take, Nat.min_eq_left (by omega)]
    have hv2 : (rcv l[k]).toList.length = 6 := by simp [rcv]
    have hld : (RcC (l.drop (k + 1))).length = l.length * 6 - (k * 6 + 6) := by rw [RcC_length, List.length_drop]; omega
    have e1 : cur.toList.take (k * 6 + d) = RcC (l.take k) ++ (rcv c).toList.take d := by
      have : cur.toList.take (k * 6 + d) = (cur.toList.take (l.length * 6)).take (k * 6 + d) := by rw [List.take_take, Nat.min_eq_left (by omega)]
      rw [this, ht, hl, List.append_assoc, List.take_append, hlt, List.take_of_length_le (by omega), Nat.add_sub_cancel_left, List.take_append, hv2, Nat.sub_eq_zero_of_le hd, List.take_zero, List.append_nil, hc]
    have e2 : (cur.toList.take (l.length * 6)).drop (k * 6 + 6) = RcC (l.drop (k + 1)) := by
      rw [ht, hl, List.drop_append, List.drop_of_length_le (by rw [List.length_append]; omega), List.nil_append, List.length_append, hlt, hv2, Nat.sub_self, List.drop_zero]
    rw [List.length_set, hsplit, k3, hvl, e1, ← e2, show k * 6 + d + (6 - d) = k * 6 + 6 by omega]
    have hcl : k * 6 ≤ cur.toList.length := by simp; omega
    rw [List.append_assoc (RcC (l.take k)), List.take_append_drop]
    have hT : (RcC (l.take k) ++ (rcv c).toList).length = k * 6 + 6 := by rw [List.length_append, hlt]; simp [rcv]
    rw [List.take_append, List.take_of_length_le (by rw [hT]; exact hle), hT, List.drop_take]
  · intro j hj
    have hle2 : l.length * 6 ≤ cap * 6 := Nat.mul_le_mul_right _ hn
    have hj2 : k * 6 + d + j < cur.size := by rw [hs]; omega
    refine ⟨?_, frozen_of_row w g _ _ _ hh⟩
    rw [cell_of_row w g (k * 6 + d + j) _ _ _ hh, Array.getElem?_eq_getElem hj2]
    rfl
theorem infoHoR : (Try.prog.info? 92).map (fun i => (i.zero, i.size, i.bytes)) = some (some (.agg #[.int .i64 0, .int .i64 0]), 2, 16) := by kernel_rfl
theorem fieldRHo0 (w : World) (b o : Nat) : (Instr.fieldAt 92 (.pointer (some ⟨b, o, none⟩)) 0).run Try.prog w = .ok (.pointer (some ⟨b, o, none⟩)) w := by kernel_rfl
theorem fieldRHo1 (w : World) (b o : Nat) : (Instr.fieldAt 92 (.pointer (some ⟨b, o, none⟩)) 1).run Try.prog w = .ok (.pointer (some ⟨b, o + 1, none⟩)) w := by kernel_rfl
theorem fieldRP1 (w : World) (b o : Nat) : (Instr.fieldAt 124 (.pointer (some ⟨b, o, none⟩)) 1).run Try.prog w = .ok (.pointer (some ⟨b, o + 1, none⟩)) w := by kernel_rfl
theorem fieldRV4 (w : World) (b o : Nat) : (Instr.fieldAt 122 (.pointer (some ⟨b, o, none⟩)) 4).run Try.prog w = .ok (.pointer (some ⟨b, o + 4, none⟩)) w := by kernel_rfl
theorem emptyRr (w : World) : (Instr.buildSlice 71 0 #[]).run Try.prog w = .ok (.slice (some ⟨w.heap.size, 0, none⟩) 0 0) (w.alloc (.cells #[] 124)) := by kernel_rfl
def RFillPost (l : List Cel) (hs : List Ho) (ts : List (List UInt8)) (w : World) (e : Ending) (w' : World) : Prop :=
  ∃ y, e = .returned (.tuple #[y, .int .i64 (fillE l hs ts : Nat)]) ∧ Ext w w' ∧ OwnRr w.heap.size w' y (fillR l hs ts)
theorem ownRr_nil (base : Nat) (w : World) : OwnRr base w (.slice none 0 0) [] := World.ownsRow_nil _ _ _ _
def fr12T (tb to hb ho n tcap hcap k : Nat) (t : List UInt8) (s : Int) (D : Bool) : Tmp → Kn
  | 47 => .is (.slice (some ⟨tb, to, none⟩) n tcap)
  | 48 => .is (.int .i64 (k : Nat))
  | 49 => .is (.pointer (some ⟨tb, to + k * 1, none⟩))
  | 50 => .is (strV t)
  | 51 => .is (.int .i64 (t.length : Nat))
  | 52 => .is (.slice (some ⟨hb, ho, none⟩) n hcap)
  | 53 => .is (.int .i64 (k : Nat))
  | 54 => .is (.pointer (some ⟨hb, ho + k * 2, none⟩))
  | 55 => .is (.pointer (some ⟨hb, ho + k * 2 + 1, none⟩))
  | 56 => .is (.int .i64 s)
  | 57 => .is (.bool D)
  | _ => .any
def fr14T (og m ocap hb ho hcap j tb to n tcap k : Nat) (t : List UInt8) : Tmp → Kn
  | 58 => .is (.slice (some ⟨og, 0, none⟩) m ocap)
  | 59 => .is (.slice (some ⟨hb, ho, none⟩) n hcap)
  | 60 => .is (.int .i64 (k : Nat))
  | 61 => .is (.pointer (some ⟨hb, ho + k * 2, none⟩))
  | 62 => .is (.pointer (some ⟨hb, ho + k * 2, none⟩))
  | 63 => .is (.int .i64 (j : Nat))
  | 64 => .is (.slice (some ⟨tb, to, none⟩) n tcap)
  | 65 => .is (.int .i64 (k : Nat))
  | 66 => .is (.pointer (some ⟨tb, to + k * 1, none⟩))
  | 67 => .is (strV t)
  | 68 => .is (.pointer (some ⟨og, 0 + j * 6, none⟩))
  | 69 => .is (.pointer (some ⟨og, 0 + j * 6 + 1, none⟩))
  | 70 => .is (.pointer (some ⟨og, 0 + j * 6 + 1 + 4, none⟩))
  | _ => .any
theorem fr14T_pure (og m ocap hb ho hcap j tb to n tcap k : Nat) (t : List UInt8) : ∀ d, (fr14T og m ocap hb ho hcap j tb to n tcap k t d).pure := by
  intro d
  unfold fr14T
  split <;> first | exact Kn.is_pure _ | exact Kn.any_pure
set_option maxRecDepth 20000 in
set_option maxHeartbeats 8000000 in
theorem rfill_any (v hv tv : Value) (l : List Cel) (hs : List Ho) (ts : List (List UInt8)) (w : World) (h1 : RcS w v l) (h2 : HoS w hv hs) (h3 : TxR w tv ts) (hl : l.length ≤ 100000) (hh : hs.length ≤ 100000) :
    Calls Try.prog 43 #[v, hv, tv] w (RFillPost l hs ts w) := by
  have HV := Lib.hid h1; have HH := Lib.hid h2; have HT := Lib.hid h3; have HLL := Lib.hid hl; have HHL := Lib.hid hh
  obtain ⟨vo, vcap, rfl, -, -⟩ := h1.shape
  obtain ⟨hao, hcap, rfl, hm1, hm2⟩ := h2.shape
  obtain ⟨tao, tcap, rfl, -, -⟩ := h3.shape
  have hh63 : hs.length ≤ 9223372036854775807 := by omega
  clear h1 h2 h3 hl hh hm1 hm2
  by_cases hne : ts.length = hs.length
  case neg =>
    have HE : Hid (fillE l hs ts = 17) := Lib.hid (by unfold fillE; rw [if_pos hne])
    have en : ¬ ((hs.length : Nat) : Int) = ((ts.length : Nat) : Int) := by omega
    generalize hs.length = hn at *
    generalize ts.length = tn at *
    generalize l.length = n at *
    clear hne
    go_enter Try.func43, Try.ntmps43
    go_wp2
    refine bodyPost_ret (results_tmp2 rfl _ _ _) rfl ?_
    refine ⟨_, by rw [HE.out]; rfl, Ch.refl _ _, ?_⟩
    unfold fillR
    rw [HE.out, if_neg (by decide)]
    exact ownRr_nil _ _
  obtain ⟨ih, chh, _, csh, _⟩ := info_parts infoHoR
  obtain ⟨it, cht, _, cst, _⟩ := info_parts infoStrR
  obtain ⟨ir, chr, czr, csr, cbr⟩ := info_parts infoRrZ
  have CHH := Lib.hid chh; have CSH := Lib.hid csh; have CHT := Lib.hid cht; have CST := Lib.hid cst; have CHR := Lib.hid chr; have CSR := Lib.hid csr; have CZR := Lib.hid czr; have CBR := Lib.hid cbr
  have HNE := Lib.hid hne
  clear chh csh cht cst chr csr hne czr cbr
  generalize hA : hs.length = n at *
  generalize hB : ts.length = n' at *
  obtain rfl : n = n' := HNE.out.symm
  generalize hC : l.length = m at *
  have HA := Lib.hid hA; have HB := Lib.hid hB; have HC := Lib.hid hC
  clear hA hB hC
  have f0 := fieldRHo0
  go_enter Try.func43, Try.ntmps43
  go_wp2
  go_loopw [8] (fun ix wr => ∃ k : Nat, k ≤ n ∧ ix = .int .i64 k ∧ Hid (Ext w wr) ∧ Hid ((hs.take k).any (badC l.length) = false)) (fun ix _ => n - (intOf ix).toNat)
  case atStart => exact ⟨0, Nat.zero_le _, rfl, Lib.hid (Ch.refl _ _), Lib.hid rfl⟩
  case round =>
    obtain ⟨k, hk, rfl, HXr, HAny⟩ := hrel
    by_cases hlt : k < n
    · have hkh : k < hs.length := by have := HA.out; omega
      obtain ⟨hb, ho, rfl, q0, q1⟩ := (HH.out.ext HXr.out).at hkh
      have hidx := run_indexSl wr Try.underlying81 CHH.out CSH.out hb ho n hcap k hlt
      have HLT := Lib.hid hlt
      have HBT : Hid (badC l.length hs[k] = true → hs.any (badC l.length) = true) := Lib.hid (any_at _ hs k hkh)
      have HBF : Hid (badC l.length hs[k] = false → (hs.take (k + 1)).any (badC l.length) = false) := Lib.hid (any_snoc _ hs k hkh HAny.out)
      unfold badC at HBT HBF
      rw [HC.out] at HBT HBF
      generalize hs[k].c = c at *
      generalize hs[k].s = s at *
      by_cases hc0 : c < 0
      · have HE : Hid (hs.any (badC l.length) = true) := Lib.hid (by have := HBT.out (decide_eq_true (.inl hc0)); unfold badC; rw [HC.out]; exact this)
        have HE4 : Hid (fillE l hs ts = 4) := Lib.hid (by unfold fillE; rw [if_neg (by rw [HA.out, HB.out]; simp), if_pos HE.out])
        clear HBT HBF HE hkh hlt
        go_wp2
        refine bodyPost_ret (results_tmp2 rfl _ _ _) rfl ?_
        refine ⟨_, by rw [HE4.out]; rfl, HXr.out, ?_⟩
        unfold fillR
        rw [HE4.out, if_neg (by decide)]
        exact ownRr_nil _ _
      · by_cases hcn : (m : Int) ≤ c
        · have HE : Hid (hs.any (badC l.length) = true) := Lib.hid (by have := HBT.out (decide_eq_true (.inr hcn)); unfold badC; rw [HC.out]; exact this)
          have HE4 : Hid (fillE l hs ts = 4) := Lib.hid (by unfold fillE; rw [if_neg (by rw [HA.out, HB.out]; simp), if_pos HE.out])
          clear HBT HBF HE hkh hlt
          go_wp2
          refine bodyPost_ret (results_tmp2 rfl _ _ _) rfl ?_
          refine ⟨_, by rw [HE4.out]; rfl, HXr.out, ?_⟩
          unfold fillR
          rw [HE4.out, if_neg (by decide)]
          exact ownRr_nil _ _
        · have HF : Hid ((hs.take (k + 1)).any (badC l.length) = false) := Lib.hid (by have := HBF.out (decide_eq_false (by omega)); unfold badC; rw [HC.out]; exact this)
          have hcn' : c < (m : Int) := by omega
          clear HBT HBF hkh hlt
          go_wp2
          go_roundw
          case rel => exact ⟨k + 1, HLT.out, by simp, HXr, HF⟩
          case measure => simp [intOf]; have := HLT.out; omega
    · obtain rfl : n = k := by omega
      have HAN : Hid (hs.any (badC l.length) = false) := Lib.hid (by have := HAny.out; rwa [← HA.out, List.take_length] at this)
      have hempty := emptyRr
      have HO := Lib.hid (World.ownsRow_lit (base := w.heap.size) (e := 124) (size := 6) wr #[] 0 HXr.out.size (Nat.zero_le _) rfl)
      have HXa : Hid (Ext w (wr.alloc (.cells #[] 124))) := Lib.hid (HXr.out.alloc _)
      have HVa : Hid (RcS (wr.alloc (.cells #[] 124)) (.slice vo m vcap) l) := Lib.hid (RcS.ext HV.out HXa.out)
      clear HAny hlt
      go_wp2_with (at_builtin; refine wpList_append_sl _ rfl _ _ 71 rfl w.heap.size 124 ir (.agg #[.int .u8 0, .int .u8 0, .int .i64 0, .int .u64 0, .int .u64 0, .string ⟨#[]⟩]) 6 56 Try.underlying71 CHR.out CZR.out CSR.out CBR.out rfl (by decide) _ _ _ rfl HO.out _ _ _ rfl HVa.out (RcC_length l) (RcC_one l) (by have := HLL.out; have := HC.out; omega) (by have := HLL.out; have := HC.out; unfold maxLen; omega) (by have := HXa.out.size; exact this) ?_)
      intro yv w4 hown hgrow
      have HX4 : Hid (Ext w w4) := Lib.hid (HXa.out.grown hgrow (fun k hk => .inr (by simp [Value.ownBlock] at hk; have := HXr.out.size; omega)))
      have HO4 : Hid (OwnRr w.heap.size w4 yv l) := Lib.hid (by unfold OwnRr; simpa using hown)
      clear hown hgrow HO HVa hempty
      go_wp2
      go_loopw [10] (fun ix wr3 => ∃ k : Nat, k ≤ n ∧ ix = .int .i64 k ∧ Hid (Ext w wr3) ∧ Hid (((hs.zip ts).take k).any badS = false) ∧ Hid (OwnRr w.heap.size wr3 yv (fillZ l ((hs.zip ts).take k)))) (fun ix _ => n - (intOf ix).toNat)
      case atStart => exact ⟨0, Nat.zero_le _, rfl, HX4, Lib.hid rfl, HO4⟩
      case round =>
        obtain ⟨k, hk, rfl, HXr, HAny, HOr⟩ := hrel
        by_cases hlt : k < n
        · have hkh : k < hs.length := by have := HA.out; omega
          have hkt : k < ts.length := by have := HB.out; omega
          have hkz : k < (hs.zip ts).length := by rw [List.length_zip]; omega
          obtain ⟨hb, ho, rfl, q0, q1⟩ := (HH.out.ext HXr.out).at hkh
          obtain ⟨tb, to, rfl, r0⟩ := (HT.out.ext HXr.out).at hkt
          have HLT := Lib.hid hlt
          have HBT : Hid (decide ((ts[k].length : Int) ≠ hs[k].s) = true → (hs.zip ts).any badS = true) := Lib.hid (fun h => any_at _ _ k hkz (by rw [List.getElem_zip]; exact h))
          have HBF : Hid (decide ((ts[k].length : Int) ≠ hs[k].s) = false → ((hs.zip ts).take (k + 1)).any badS = false) := Lib.hid (fun h => any_snoc _ _ k hkz HAny.out (by rw [List.getElem_zip]; exact h))
          have hbc := any_none _ hs k hkh HAN.out
          unfold badC at hbc
          rw [HC.out] at hbc
          have hbc' := of_decide_eq_false hbc
          obtain ⟨j, hj⟩ : ∃ j : Nat, hs[k].c = (j : Int) := ⟨hs[k].c.toNat, by omega⟩
          have hjm : j < m := by omega
          have hzl := fillZ_length ((hs.zip ts).take k) l
          have hzn := fillZ_snoc l ((hs.zip ts).take k) (hs[k], ts[k])
          have hjL : j < (fillZ l ((hs.zip ts).take k)).length := by rw [hzl, HC.out]; exact hjm
          rw [fillOne_at hj hjL] at hzn
          have htk : (hs.zip ts).take (k + 1) = (hs.zip ts).take k ++ [(hs[k], ts[k])] := by rw [List.take_succ_eq_append_getElem hkz, List.getElem_zip]
          rw [← htk] at hzn
          have HZN := Lib.hid hzn
          rw [hj] at q0
          generalize hs[k].s = s at *
          generalize ts[k] = t at *
          clear htk hzn hj hbc hbc' hkh hkt hkz
          generalize hLP : fillZ l ((hs.zip ts).take (k + 1)) = L' at *
          have HLP := Lib.hid hLP; clear hLP
          generalize fillZ l ((hs.zip ts).take k) = L at *
          obtain ⟨og, ocap, hye, hbg0, -, -⟩ := own_setRrD 5 (by decide) ⟨L[j].k, { L[j].v with t := t }⟩ HOr.out hjL rfl
          rw [hzl, HC.out] at hye
          subst hye
          have RC := Lib.hid q0; have RS := Lib.hid q1; have RT := Lib.hid r0; have HJL := Lib.hid hjm
          have HST : Hid (∀ w'', Ext wr w'' → ∃ g cap, (.slice (some ⟨og, 0, none⟩) m ocap : Value) = .slice (some ⟨g, 0, none⟩) m cap ∧ w.heap.size ≤ g ∧ OwnRr w.heap.size (w''.setCell ⟨g, j * 6 + 5, none⟩ (strV t)) (.slice (some ⟨og, 0, none⟩) m ocap) L' ∧ w''.there g (j * 6 + 5) 1) := Lib.hid (fun w' hw' => by
            obtain ⟨g, cap, e1, e2, e3, e4⟩ := own_setRrD 5 (by decide) ⟨L[j].k, { L[j].v with t := t }⟩ (HOr.out.ext hw') hjL rfl
            rw [hzl, HC.out] at e1
            rw [← HZN.out] at e3
            exact ⟨g, cap, e1, e2, e3, e4⟩)
          obtain ⟨D, hD⟩ : ∃ D, D = decide ((t.length : Int) ≠ s) := ⟨_, rfl⟩
          have HDE : Hid ((((t.length : Nat) : Int) != s) = D) := Lib.hid (by rw [hD]; simp [bne, BEq.beq])
          rw [← hD] at HBT HBF
          clear HZN r0 q0 q1 hlt hjm hjL hzl hbg0 HOr HAny hD
          go_wp2
          refine wp_region_ext (fr12T tb to hb ho n tcap hcap k t s D) mixedR (by rfl) (by rfl) ?all ?fin
          case all =>
            refine ⟨?_, ?_, ?_, ?_, ?_, ?_, ?_, ?_, ?_, ?_, ?_, trivial⟩
            · -- 0: slot 47 := Op.move t2
              refine StepOK.plain (kn_stable _) rfl fun ρ w hρ hw hf => ?_
              have h2 : ρ (.tmp 2) = (.slice (some ⟨tb, to, none⟩) n tcap) := (hf 2).2 rfl rfl
              exact Exec.kmove rfl rfl h2
            · -- 1: slot 48 := Op.move t10
              refine StepOK.plain (kn_stable _) rfl fun ρ w hρ hw hf => ?_
              have h10 : ρ (.tmp 10) = (.int .i64 (k : Nat)) := (hf 10).2 rfl rfl
              exact Exec.kmove rfl rfl h10
            · -- 2: slot 49 := Op.indexAddr 82 t47 t48
              refine StepOK.plain (kn_stable _) rfl fun ρ w hρ hw hf => ?_
              have h47 : ρ (.tmp 47) = (.slice (some ⟨tb, to, none⟩) n tcap) := (hf 47).1 rfl
              have h48 : ρ (.tmp 48) = (.int .i64 (k : Nat)) := (hf 48).1 rfl
              exact Exec.kindex rfl rfl Try.underlying82 CHT.out CST.out h47 h48 HLT.out rfl
            · -- 3: slot 50 := Op.load 9 t49
              refine StepOK.plain (kn_stable _) rfl fun ρ w hρ hw hf => ?_
              have h49 : ρ (.tmp 49) = (.pointer (some ⟨tb, to + k * 1, none⟩)) := (hf 49).1 rfl
              have hc := hw.cell (p := ⟨tb, to + k, none⟩) (fun f => f) _ RT.out
              exact Exec.same (v := strV t) rfl (by simp [go_sem, hρ.const, h49, hc]) rfl
            · -- 4: slot 51 := Op.call { builtin len, args := #[t50], argTypes := #[9] }
              refine StepOK.plain (kn_stable _) rfl fun ρ w hρ hw hf => ?_
              have h50 : ρ (.tmp 50) = (strV t) := (hf 50).1 rfl
              exact Exec.same (v := .int .i64 (t.length : Nat)) rfl (by simp [go_sem, hρ.const, h50, strV, ByteArray.size]) rfl
            · -- 5: slot 52 := Op.move t1
              refine StepOK.plain (kn_stable _) rfl fun ρ w hρ hw hf => ?_
              have h1 : ρ (.tmp 1) = (.slice (some ⟨hb, ho, none⟩) n hcap) := (hf 1).2 rfl rfl
              exact Exec.kmove rfl rfl h1
            · -- 6: slot 53 := Op.move t10
              refine StepOK.plain (kn_stable _) rfl fun ρ w hρ hw hf => ?_
              have h10 : ρ (.tmp 10) = (.int .i64 (k : Nat)) := (hf 10).2 rfl rfl
              exact Exec.kmove rfl rfl h10
            · -- 7: slot 54 := Op.indexAddr 81 t52 t53
              refine StepOK.plain (kn_stable _) rfl fun ρ w hρ hw hf => ?_
              have h52 : ρ (.tmp 52) = (.slice (some ⟨hb, ho, none⟩) n hcap) := (hf 52).1 rfl
              have h53 : ρ (.tmp 53) = (.int .i64 (k : Nat)) := (hf 53).1 rfl
              exact Exec.kindex rfl rfl Try.underlying81 CHH.out CSH.out h52 h53 HLT.out rfl
            · -- 8: slot 55 := Op.fieldAddr 92 t54 1
              refine StepOK.plain (kn_stable _) rfl fun ρ w hρ hw hf => ?_
              have h54 : ρ (.tmp 54) = (.pointer (some ⟨hb, ho + k * 2, none⟩)) := (hf 54).1 rfl
              exact Exec.kfield rfl rfl h54 (fieldRHo1 w _ _) rfl
            · -- 9: slot 56 := Op.load 3 t55
              refine StepOK.plain (kn_stable _) rfl fun ρ w hρ hw hf => ?_
              have h55 : ρ (.tmp 55) = (.pointer (some ⟨hb, ho + k * 2 + 1, none⟩)) := (hf 55).1 rfl
              have hc := hw.cell (p := ⟨hb, ho + k * 2 + 1, none⟩) (fun f => f) _ RS.out
              exact Exec.same (v := .int .i64 s) rfl (by simp [go_sem, hρ.const, h55, hc]) rfl
            · -- 10: slot 57 := Op.binOp BinOp.neq 3 t51 t56 3
              refine StepOK.plain (kn_stable _) rfl fun ρ w hρ hw hf => ?_
              have h51 : ρ (.tmp 51) = (.int .i64 (t.length : Nat)) := (hf 51).1 rfl
              have h56 : ρ (.tmp 56) = (.int .i64 s) := (hf 56).1 rfl
              have hD := HDE.out
              exact Exec.same (v := .bool D) rfl (by simp [go_sem, hρ.const, h51, h56, hD]) rfl
          case fin =>
            intro ν w9 hfin hx9
            have e0 : ν 57 = .bool D := hfin 10 57 rfl
            simp only [Exit.then, ended, List.foldl_cons, List.foldl_nil, List.setIfInBounds_toArray, List.set_cons_succ, List.set_cons_zero, e0]
            have HXr := Lib.hid (HXr.out.trans hx9)
            have RC := Lib.hid (hx9.cell (p := ⟨hb, ho + k * 2, none⟩) (fun f => f) _ RC.out)
            have RT := Lib.hid (hx9.cell (p := ⟨tb, to + k, none⟩) (fun f => f) _ RT.out)
            have HST := Lib.hid (fun w'' (h : Ext w9 w'') => HST.out w'' (hx9.trans h))
            clear hfin hx9 e0
            cases D with
            | true =>
              have HE16 : Hid (fillE l hs ts = 16) := Lib.hid (by unfold fillE; rw [if_neg (by rw [HA.out, HB.out]; simp), if_neg (by rw [HAN.out]; decide), if_pos (HBT.out rfl)])
              clear HBT HBF
              go_wp2
              refine bodyPost_ret (results_tmp2 rfl _ _ _) rfl ?_
              refine ⟨_, by rw [HE16.out]; rfl, HXr.out, ?_⟩
              unfold fillR
              rw [HE16.out, if_neg (by decide)]
              exact ownRr_nil _ _
            | false =>
              have HF := Lib.hid (HBF.out rfl)
              clear HBT HBF
              go_wp2
              refine wp_region_last (fr14T og m ocap hb ho hcap j tb to n tcap k t) 13 (fun w' => Ext w w' ∧ OwnRr w.heap.size w' (.slice (some ⟨og, 0, none⟩) m ocap) L') mixedR (by rfl) (by rfl) (by decide) ?all2 ?fin2
              case all2 =>
                refine ⟨?_, ?_, ?_, ?_, ?_, ?_, ?_, ?_, ?_, ?_, ?_, ?_, ?_, ?_, trivial⟩
                · -- 0: slot 58 := Op.move t9
                  refine StepOK.early (fr14T_pure _ _ _ _ _ _ _ _ _ _ _ _ _) (by rfl) (by decide) rfl fun ρ w hρ hw hf => ?_
                  have h9 : ρ (.tmp 9) = (.slice (some ⟨og, 0, none⟩) m ocap) := (hf 9).2 rfl rfl
                  exact Exec.kmove rfl rfl h9
                · -- 1: slot 59 := Op.move t1
                  refine StepOK.early (fr14T_pure _ _ _ _ _ _ _ _ _ _ _ _ _) (by rfl) (by decide) rfl fun ρ w hρ hw hf => ?_
                  have h1 : ρ (.tmp 1) = (.slice (some ⟨hb, ho, none⟩) n hcap) := (hf 1).2 rfl rfl
                  exact Exec.kmove rfl rfl h1
                · -- 2: slot 60 := Op.move t10
                  refine StepOK.early (fr14T_pure _ _ _ _ _ _ _ _ _ _ _ _ _) (by rfl) (by decide) rfl fun ρ w hρ hw hf => ?_
                  have h10 : ρ (.tmp 10) = (.int .i64 (k : Nat)) := (hf 10).2 rfl rfl
                  exact Exec.kmove rfl rfl h10
                · -- 3: slot 61 := Op.indexAddr 81 t59 t60
                  refine StepOK.early (fr14T_pure _ _ _ _ _ _ _ _ _ _ _ _ _) (by rfl) (by decide) rfl fun ρ w hρ hw hf => ?_
                  have h59 : ρ (.tmp 59) = (.slice (some ⟨hb, ho, none⟩) n hcap) := (hf 59).1 rfl
                  have h60 : ρ (.tmp 60) = (.int .i64 (k : Nat)) := (hf 60).1 rfl
                  exact Exec.kindex rfl rfl Try.underlying81 CHH.out CSH.out h59 h60 HLT.out rfl
                · -- 4: slot 62 := Op.fieldAddr 92 t61 0
                  refine StepOK.early (fr14T_pure _ _ _ _ _ _ _ _ _ _ _ _ _) (by rfl) (by decide) rfl fun ρ w hρ hw hf => ?_
                  have h61 : ρ (.tmp 61) = (.pointer (some ⟨hb, ho + k * 2, none⟩)) := (hf 61).1 rfl
                  exact Exec.kfield rfl rfl h61 (fieldRHo0 w _ _) rfl
                · -- 5: slot 63 := Op.load 3 t62
                  refine StepOK.early (fr14T_pure _ _ _ _ _ _ _ _ _ _ _ _ _) (by rfl) (by decide) rfl fun ρ w hρ hw hf => ?_
                  have h62 : ρ (.tmp 62) = (.pointer (some ⟨hb, ho + k * 2, none⟩)) := (hf 62).1 rfl
                  have hc := hw.cell (p := ⟨hb, ho + k * 2, none⟩) (fun f => f) _ RC.out
                  exact Exec.same (v := .int .i64 (j : Nat)) rfl (by simp [go_sem, hρ.const, h62, hc]) rfl
                · -- 6: slot 64 := Op.move t2
                  refine StepOK.early (fr14T_pure _ _ _ _ _ _ _ _ _ _ _ _ _) (by rfl) (by decide) rfl fun ρ w hρ hw hf => ?_
                  have h2 : ρ (.tmp 2) = (.slice (some ⟨tb, to, none⟩) n tcap) := (hf 2).2 rfl rfl
                  exact Exec.kmove rfl rfl h2
                · -- 7: slot 65 := Op.move t10
                  refine StepOK.early (fr14T_pure _ _ _ _ _ _ _ _ _ _ _ _ _) (by rfl) (by decide) rfl fun ρ w hρ hw hf => ?_
                  have h10 : ρ (.tmp 10) = (.int .i64 (k : Nat)) := (hf 10).2 rfl rfl
                  exact Exec.kmove rfl rfl h10
                · -- 8: slot 66 := Op.indexAddr 82 t64 t65
                  refine StepOK.early (fr14T_pure _ _ _ _ _ _ _ _ _ _ _ _ _) (by rfl) (by decide) rfl fun ρ w hρ hw hf => ?_
                  have h64 : ρ (.tmp 64) = (.slice (some ⟨tb, to, none⟩) n tcap) := (hf 64).1 rfl
                  have h65 : ρ (.tmp 65) = (.int .i64 (k : Nat)) := (hf 65).1 rfl
                  exact Exec.kindex rfl rfl Try.underlying82 CHT.out CST.out h64 h65 HLT.out rfl
                · -- 9: slot 67 := Op.load 9 t66
                  refine StepOK.early (fr14T_pure _ _ _ _ _ _ _ _ _ _ _ _ _) (by rfl) (by decide) rfl fun ρ w hρ hw hf => ?_
                  have h66 : ρ (.tmp 66) = (.pointer (some ⟨tb, to + k * 1, none⟩)) := (hf 66).1 rfl
                  have hc := hw.cell (p := ⟨tb, to + k, none⟩) (fun f => f) _ RT.out
                  exact Exec.same (v := strV t) rfl (by simp [go_sem, hρ.const, h66, hc]) rfl
                · -- 10: slot 68 := Op.indexAddr 71 t58 t63
                  refine StepOK.early (fr14T_pure _ _ _ _ _ _ _ _ _ _ _ _ _) (by rfl) (by decide) rfl fun ρ w hρ hw hf => ?_
                  have h58 : ρ (.tmp 58) = (.slice (some ⟨og, 0, none⟩) m ocap) := (hf 58).1 rfl
                  have h63 : ρ (.tmp 63) = (.int .i64 (j : Nat)) := (hf 63).1 rfl
                  exact Exec.kindex rfl rfl Try.underlying71 CHR.out CSR.out h58 h63 HJL.out rfl
                · -- 11: slot 69 := Op.fieldAddr 124 t68 1
                  refine StepOK.early (fr14T_pure _ _ _ _ _ _ _ _ _ _ _ _ _) (by rfl) (by decide) rfl fun ρ w hρ hw hf => ?_
                  have h68 : ρ (.tmp 68) = (.pointer (some ⟨og, 0 + j * 6, none⟩)) := (hf 68).1 rfl
                  exact Exec.kfield rfl rfl h68 (fieldRP1 w _ _) rfl
                · -- 12: slot 70 := Op.fieldAddr 122 t69 4
                  refine StepOK.early (fr14T_pure _ _ _ _ _ _ _ _ _ _ _ _ _) (by rfl) (by decide) rfl fun ρ w hρ hw hf => ?_
                  have h69 : ρ (.tmp 69) = (.pointer (some ⟨og, 0 + j * 6 + 1, none⟩)) := (hf 69).1 rfl
                  exact Exec.kfield rfl rfl h69 (fieldRV4 w _ _) rfl
                · -- 13: the store
                  refine StepOK.last (fr14T_pure _ _ _ _ _ _ _ _ _ _ _ _ _) rfl fun ρ w' hρ hw hf => ?_
                  have h70 : ρ (.tmp 70) = (.pointer (some ⟨og, 0 + j * 6 + 1 + 4, none⟩)) := (hf 70).1 rfl
                  have h67 : ρ (.tmp 67) = (strV t) := (hf 67).1 rfl
                  obtain ⟨g', cp', e', hbg, hos, hth⟩ := HST.out w' hw
                  simp only [Value.slice.injEq, Option.some.injEq, Addr.mk.injEq] at e'
                  obtain ⟨⟨rfl, -⟩, -, -⟩ := e'
                  have hcf := hth 0 (by decide)
                  rw [Nat.add_zero] at hcf
                  obtain ⟨cv, hc⟩ := Option.isSome_iff_exists.1 hcf.1
                  have hfr := hcf.2
                  rw [show 0 + j * 6 + 1 + 4 = j * 6 + 5 by omega] at h70
                  refine Exec.skip (w' := w'.setCell ⟨og, j * 6 + 5, none⟩ (strV t)) (by simp [go_sem, h70, h67, hc, hfr, strV]) ⟨(fun d h => by cases h), ?_, ?_⟩
                  · exact (HXr.out.trans hw).setCell (.inr hbg) _
                  · exact hos
              case fin2 =>
                intro ν w9 _ hfin
                have HX9 := Lib.hid hfin.1; have HO9 := Lib.hid hfin.2
                clear hfin
                simp only [Exit.then, ended, List.foldl_cons, List.foldl_nil, List.setIfInBounds_toArray, List.set_cons_succ, List.set_cons_zero]
                go_wp2
                go_roundw
                case rel => exact ⟨k + 1, HLT.out, by simp, HX9, HF, by rw [HLP.out]; exact HO9⟩
                case measure => simp [intOf]; have := HLT.out; omega
        · obtain rfl : n = k := by omega
          have HZL : Hid ((hs.zip ts).length = n) := Lib.hid (by rw [List.length_zip, HA.out, HB.out]; simp)
          have HBN : Hid ((hs.zip ts).any badS = false) := Lib.hid (by have := HAny.out; rwa [← HZL.out, List.take_length] at this)
          have HE0 : Hid (fillE l hs ts = 0) := Lib.hid (by unfold fillE; rw [if_neg (by rw [HA.out, HB.out]; simp), if_neg (by rw [HAN.out]; decide), if_neg (by rw [HBN.out]; decide)])
          have HF : Hid (OwnRr w.heap.size wr yv (fillZ l (hs.zip ts))) := Lib.hid (by have := HOr.out; rwa [← HZL.out, List.take_length] at this)
          clear HOr hlt HAny
          go_wp2
          refine bodyPost_ret (results_tmp2 rfl _ _ _) rfl ?_
          refine ⟨_, by rw [HE0.out]; rfl, HXr.out, ?_⟩
          unfold fillR
          rw [HE0.out, if_pos rfl]
          exact HF.out
end Go.Proofs.Ytegclfpmgilnpaa
