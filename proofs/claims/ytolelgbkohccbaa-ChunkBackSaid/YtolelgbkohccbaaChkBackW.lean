/-
  ChunkBack: the walk. MADE BY mkChkBack.py
-/
import Derived.Test.YtolelgbkohccbaaChkI
import Derived.Test.YtolelgbkohccbaaChkH
import Derived.Test.YtolelgbkohccbaaChkShortW
import Derived.Test.YtolelgbkohccbaaLibG
namespace Go.Proofs.Ytolelgbkohccbaa
open Go.RowKit Go.Lac

theorem emptyTx (w : World) : (Instr.buildSlice 22 0 #[]).run Try.prog w = .ok (.slice (some ⟨w.heap.size, 0, none⟩) 0 0) (w.alloc (.cells #[] 9)) := by kernel_rfl
theorem twoTx (w : World) (a b : ByteArray) : (Instr.buildSlice 22 2 #[(0, .string a), (1, .string b)]).run Try.prog w = .ok (.slice (some ⟨w.heap.size, 0, none⟩) 2 2) (w.alloc (.cells #[.string a, .string b] 9)) := by kernel_rfl
theorem strV_one' {l : List Value} (h : ∀ u ∈ l, ∃ b, u = strV b) : ∀ u ∈ l, u.oneCell' = true := fun u hu => by obtain ⟨b, rfl⟩ := h u hu; rfl
def bk20 (pb px : Nat) (pn pc k : Nat) (dv : Option Addr) (dc B : Nat) (S : List (List UInt8)) (p : Nat) : Tmp → Kn
  | 81 => if p = 0 then Kn.empty B 9 else .any
  | 82 => .is (.slice (some ⟨pb, px, none⟩) pn pc)
  | 83 => .is (.int .i64 (k : Nat))
  | 84 => .is (.slice (some ⟨pb, px, none⟩) k pc)
  | 85 => if p = 0 then Kn.own B 9 k ((S.take k).map strV) else .any
  | 86 => .is (.slice (some ⟨pb, px, none⟩) pn pc)
  | 87 => .is (.int .i64 (k : Nat))
  | 88 => .is (.int .i64 (k + 1 : Nat))
  | 89 => .is (.slice dv (pn - (k + 1)) dc)
  | 90 => if p = 1 then Kn.own B 9 (k + (pn - (k + 1))) ((S.take k).map strV ++ (S.drop (k + 1)).map strV) else .any
  | 11 => if p = 1 then Kn.own B 9 (k + (pn - (k + 1))) ((S.take k).map strV ++ (S.drop (k + 1)).map strV) else .any
  | _ => .any

def bk21 (pb px pn pc k : Nat) (dv : Option Addr) (dc B : Nat) (S : List (List UInt8)) (x : List UInt8) (p : Nat) : Tmp → Kn
  | 91 => if p = 0 then Kn.empty B 9 else .any
  | 92 => .is (.slice (some ⟨pb, px, none⟩) pn pc)
  | 93 => .is (.int .i64 (k : Nat))
  | 94 => .is (.slice (some ⟨pb, px, none⟩) k pc)
  | 95 => if p = 0 then Kn.own B 9 k ((S.take k).map strV) else .any
  | 96 => .is (.slice (some ⟨pb, px, none⟩) pn pc)
  | 100 => .is (.slice (some ⟨pb, px, none⟩) pn pc)
  | 107 => .is (.slice (some ⟨pb, px, none⟩) pn pc)
  | 111 => .is (.slice (some ⟨pb, px, none⟩) pn pc)
  | 120 => .is (.slice (some ⟨pb, px, none⟩) pn pc)
  | 97 => .is (.int .i64 (k : Nat))
  | 101 => .is (.int .i64 (k : Nat))
  | 108 => .is (.int .i64 (k : Nat))
  | 112 => .is (.int .i64 (k : Nat))
  | 121 => .is (.int .i64 (k : Nat))
  | 98 => .is (.pointer (some ⟨pb, px + k * 1, none⟩))
  | 102 => .is (.pointer (some ⟨pb, px + k * 1, none⟩))
  | 109 => .is (.pointer (some ⟨pb, px + k * 1, none⟩))
  | 113 => .is (.pointer (some ⟨pb, px + k * 1, none⟩))
  | 99 => .is (strV x)
  | 103 => .is (strV x)
  | 110 => .is (strV x)
  | 114 => .is (strV x)
  | 104 => .is (.int .i64 (x.length : Nat))
  | 115 => .is (.int .i64 (x.length : Nat))
  | 105 => .is (.int .i64 (x.length / 2 : Nat))
  | 116 => .is (.int .i64 (x.length / 2 : Nat))
  | 106 => .is (strV (x.take (x.length / 2)))
  | 117 => .is (strV (x.drop (x.length / 2)))
  | 118 => if p = 0 then Kn.sl 2 [strV (x.take (x.length / 2)), strV (x.drop (x.length / 2))] else .any
  | 119 => if p = 1 then Kn.own B 9 (k + 2) ((S.take k).map strV ++ [strV (x.take (x.length / 2)), strV (x.drop (x.length / 2))]) else .any
  | 122 => .is (.int .i64 (k + 1 : Nat))
  | 123 => .is (.slice dv (pn - (k + 1)) dc)
  | 124 => if p = 2 then Kn.own B 9 (k + 2 + (pn - (k + 1))) ((S.take k).map strV ++ [strV (x.take (x.length / 2)), strV (x.drop (x.length / 2))] ++ (S.drop (k + 1)).map strV) else .any
  | 12 => if p = 2 then Kn.own B 9 (k + 2 + (pn - (k + 1))) ((S.take k).map strV ++ [strV (x.take (x.length / 2)), strV (x.drop (x.length / 2))] ++ (S.drop (k + 1)).map strV) else .any
  | _ => .any

/-- 'append(l, m...)', l one's own. -/
theorem wpList_txs {ops : Array Oper} {rest : List Oper} {o : Oper} {a : Act} {Q : Exit → Act → World → Prop} (hgd : o.guard = none) (s x : Operand)
    (ho : o.op = .call { callee := .builtin .append, args := #[s, x], argTypes := #[22, 22] }) {w0 w : World} {v xv : Value} {l m : List (List UInt8)} (hx0 : Ext w0 w)
    (hown : OwnTx w0.heap.size w v l) (hs : a.eval s = v) (htx : TxS w xv m) (hx : a.eval x = xv) (hl : l.length + m.length ≤ 200000000)
    (h : ∀ v' w', Ext w0 w' → OwnTx w0.heap.size w' v' (l ++ m) → wpList Try.prog ops Q rest (a.put o.dst v') w') :
    wpList Try.prog ops Q (o :: rest) a w := by
  obtain ⟨ci, chi, chz, chs, chb⟩ := info_parts infoStr
  refine wpList_append_sl _ hgd s x 22 ho w0.heap.size 9 ci (.string ⟨#[]⟩) 1 16 Try.underlying22 chi chz chs chb rfl (by decide) v _ _ hs hown xv _ _ hx htx (by simp) (strV_one _) (by omega) (by unfold maxLen; omega) hx0.size ?_
  intro v2 w3 hown' hgrow
  refine h v2 w3 (hx0.grown hgrow fun k hk => .inr (hown.lt k hk).1) ?_
  unfold OwnTx
  rw [List.length_append, List.map_append]
  exact hown'
theorem sizes_append (a b : List (List UInt8)) : sizesL (a ++ b) = sizesL a ++ sizesL b := by simp [sizesL]
theorem sizes_take_succ (l : List (List UInt8)) (i : Nat) (h : i < l.length) : sizesL (l.take (i + 1)) = sizesL (l.take i) ++ [((l[i].length : Nat) : Int)] := by
  rw [List.take_succ_eq_append_getElem h, sizes_append]; rfl
theorem drop_own {w : World} {base n : Nat} {v : Value} {xs : List Value} {l : List (List UInt8)} (h : w.ownsRow base 9 1 v n xs) (hn : n = l.length) (hx : xs = l.map strV) : TxS w v l := by
  subst hn; subst hx; exact Sl.ofOwns h
set_option maxRecDepth 100000 in
set_option maxHeartbeats 4000000 in
theorem chunkBack_walk (v : Value) (l : List (List UInt8)) (at_ : Nat) (w : World) (h : TxS w v l) (hat : at_ < 256) :
    Calls Try.prog 5 #[v, .int .u8 (at_ : Nat)] w fun e w' => e = .returned (.bool true) ∧ Ext w w' := by
  have HT := Lib.hid h
  have HG := Lib.hid (great_any v l (12 : Nat) w h)
  obtain ⟨ao, cap, rfl, h1, h2⟩ := h.shape
  obtain ⟨ci, chi, chz, chs, chb⟩ := info_parts infoStr
  have CHI := Lib.hid chi; have CHS := Lib.hid chs; have CHZ := Lib.hid chz; have CHB := Lib.hid chb
  clear h h1 h2 chi chs chz chb
  by_cases hg : GreatL l (12 : Nat)
  · rw [decide_eq_true hg] at HG
    clear hg
    go_enter Try.func5, Try.ntmps5
    go_wp2_with fail
    refine HG.out.mono ?_
    rintro e w1 ⟨rfl, rfl⟩
    go_wp2
    go_ret
    exact ⟨rfl, Ch.refl _ _⟩
  rw [decide_eq_false hg] at HG
  have HB := Lib.hid (not_great hg).2
  have hn12 := (not_great hg).1
  have HSP := Lib.hid (fun w2 (hx : Ext w w2) => split_any _ l w2 (HT.out.ext hx) (by omega) (fun b hb => by have := HB.out b hb; omega))
  have hpl : (splitL l).length ≤ 36000 := by
    have h1 := splitL_len_le (l := l) (M := 3000) HB.out
    have := Nat.mul_le_mul_right 3000 hn12
    omega
  clear hg
  generalize hn : l.length = n at *
  have HN := Lib.hid hn; clear hn
  go_enter Try.func5, Try.ntmps5
  go_wp2_with fail
  refine HG.out.mono ?_
  rintro e w1 ⟨rfl, rfl⟩
  go_wp2
  go_loopw [5, 6] (fun vs ix wr => ∃ (i : Nat), i ≤ n ∧ ix = .int .i64 i ∧ Hid (Ext w wr) ∧ Hid (OwnIn w.heap.size wr vs (sizesL (l.take i))) ∧ Hid (∀ j (h : j < l.length), j < i → l[j].length ≤ 2048)) (fun _ ix _ => n - (intOf ix).toNat)
  case atStart => exact ⟨0, Nat.zero_le _, rfl, Lib.hid (Ch.refl _ _), Lib.hid (World.ownsRow_nil _ _ _ _), Lib.hid fun j h hj => absurd hj (Nat.not_lt_zero _)⟩
  case round =>
    obtain ⟨i, hi, rfl, HX, HO, HC⟩ := hrel
    obtain ⟨vo, vc, rfl⟩ := owns_shape HO.out
    by_cases hilt : i < n
    · have hip : i < l.length := by have := HN.out; omega
      obtain ⟨b, o, rfl, hcp⟩ := (HT.out.ext HX.out).at hip
      have hidx := run_indexSl wr Try.underlying22 CHI.out CHS.out b o n cap i hilt
      rw [Nat.mul_one] at hidx
      have HST := Lib.hid (sizes_take_succ l i hip)
      have HOK : Hid (l[i].length ≤ 2048 → ∀ j (h : j < l.length), j < i + 1 → l[j].length ≤ 2048) := Lib.hid fun e j h hj => by
        by_cases hjk : j < i
        · exact HC.out j h hjk
        · have : j = i := by omega
          subst this
          exact e
      generalize l[i] = x at *
      have HLT := Lib.hid hilt
      have HLL : Hid ((sizesL (l.take i)).length ≤ 200000000) := Lib.hid (by simp [sizesL]; omega)
      clear hip
      unfold strV at hcp
      by_cases hx2 : ((x.length : Nat) : Int) > 2048
      · go_wp2
        go_ret
        exact ⟨rfl, HX.out⟩
      · have HE := Lib.hid (HOK.out (by omega))
        have hone := fun w => oneIn w ((x.length : Nat) : Int)
        generalize sizesL (l.take i) = S1 at *
        go_wp2_with (at_builtin; go_must (refine wpList_in rfl _ _ rfl HX.out HO.out rfl rfl HLL.out ?_))
        intro g3 cap3 w3 hx3 ho3
        have HX3 := Lib.hid hx3; have HO3 : Hid (OwnIn w.heap.size w3 (.slice (some ⟨g3, 0, none⟩) (S1.length + 1) cap3) (sizesL (l.take (i + 1)))) := Lib.hid (by rw [HST.out]; exact ho3)
        clear hx3 ho3 hone
        generalize S1.length + 1 = n3 at *
        go_wp2
        go_roundw
        case rel => exact ⟨i + 1, HLT.out, by simp, HX3, HO3, HE⟩
        case measure => simp [intOf]; have := HLT.out; omega
    · obtain rfl : i = n := by omega
      have HTL : Hid (l.take i = l) := Lib.hid (by rw [← HN.out, List.take_length])
      have HBB : Hid (∀ b ∈ l, b.length ≤ 2048) := Lib.hid fun b hb => by
        obtain ⟨j, hj, rfl⟩ := List.getElem_of_mem hb
        exact HC.out j hj (by have := HN.out; omega)
      have HIS : Hid (InS wr (.slice vo (sizesL (l.take i)).length vc) (sizesL l)) := Lib.hid (by have := HO.out.ins; rwa [HTL.out] at this ⊢)
      have HSN : Hid ((sizesL l).length = i) := Lib.hid (by simp [sizesL, HN.out])
      have HSM : Hid ((sizesL (l.take i)).length = i) := Lib.hid (by rw [HTL.out]; exact HSN.out)
      rw [HSM.out] at HIS ⊢
      have HSO : Hid (sizesOk (sizesL l)) := Lib.hid fun x hx => by
        obtain ⟨b, hb, rfl⟩ := List.mem_map.1 hx
        have := HBB.out b hb
        omega
      have HJS := Lib.hid (join_split HBB.out)
      have HCL := Lib.hid (splitL_length l)
      clear HO HSM
      go_wp2_with fail
      refine (HSP.out wr HX.out).mono ?_
      rintro e w1 ⟨pv, rfl, hx1, ho1⟩
      have HX1 := Lib.hid (HX.out.trans hx1); have HXX1 := Lib.hid hx1
      have HTP : Hid (TxS w1 pv (splitL l)) := Lib.hid (Sl.ofOwns ho1)
      obtain ⟨po, pc, rfl⟩ := owns_shape ho1
      generalize hpn : (splitL l).length = pn at *
      have HPN := Lib.hid hpn
      have HMEM : Hid (∀ b ∈ splitL l, 1 ≤ b.length ∧ b.length ≤ 256) := Lib.hid fun b hb => splitL_mem hb
      generalize splitL l = S at *
      clear hx1 ho1 hpn
      have HJ1 := Lib.hid (chunkJoin_any _ _ S (sizesL l) w1 HTP.out (HIS.out.ext HXX1.out) (by rw [HSN.out]; omega))
      rw [HJS.out] at HJ1
      go_wp2_with fail
      refine HJ1.out.mono ?_
      rintro e w2 ⟨r1, rfl, hx2, ht2⟩
      have HX2 := Lib.hid (HX1.out.trans hx2)
      have HTP2 := Lib.hid (HTP.out.ext hx2); have HIS2 := Lib.hid ((HIS.out.ext HXX1.out).ext hx2)
      have HSA := Lib.hid (same_any r1 _ l l w2 ht2 (HT.out.ext HX2.out))
      rw [decide_eq_true rfl] at HSA
      clear hx2 ht2 HJ1
      go_wp2_with fail
      refine HSA.out.mono ?_
      rintro e w3 ⟨rfl, hx3⟩
      have HX3 := Lib.hid (HX2.out.trans hx3)
      have HTP3 := Lib.hid (HTP2.out.ext hx3); have HIS3 := Lib.hid (HIS2.out.ext hx3)
      have HCN := Lib.hid (chunkCount_any _ (sizesL l) w3 HIS3.out (by rw [HSN.out]; omega) (fun x hx => by have := HSO.out x hx; omega))
      rw [← HCL.out] at HCN
      clear hx3
      go_wp2_with fail
      refine HCN.out.mono ?_
      rintro e w4 ⟨rfl, rfl⟩
      have hb : (((pn : Nat) : Int) == ((pn : Nat) : Int)) = true := by simp
      have hb2 : (((pn : Nat) : Int) != ((pn : Nat) : Int)) = false := by simp
      have hemp := emptyTx
      have hone := fun w => oneTx w (⟨[(120 : UInt8)].toArray⟩)
      have HOE : Hid (OwnTx w3.heap.size (w3.alloc (.cells #[] 9)) (.slice (some ⟨w3.heap.size, 0, none⟩) 0 0) []) := Lib.hid (World.ownsRow_made (e := 9) (size := 1) w3 #[] 0 (Nat.le_refl _) (by unfold maxLen; omega) (by simp))
      have HXE : Hid (Ext w3 (w3.alloc (.cells #[] 9))) := Lib.hid ((Ch.refl _ _).alloc _)
      have HTPE := Lib.hid (HTP3.out.ext HXE.out)
      generalize hw5 : w3.alloc (.cells #[] 9) = w5 at *
      have HW5 := Lib.hid hw5; clear hw5
      go_wp2_with (at_builtin; rw [HW5.out]; go_must (refine wpList_txs rfl _ _ rfl HXE.out HOE.out rfl HTPE.out rfl (by rw [HPN.out]; simp; omega) ?_))
      intro v6 w6 hx6 ho6
      have HX6 := Lib.hid hx6; have HO6 := Lib.hid ho6
      obtain ⟨ao6, cap6, rfl⟩ := owns_shape ho6
      clear hx6 ho6 HOE HTPE
      go_wp2_with (at_builtin; go_must (refine wpList_tx rfl _ _ rfl (q := [120]) rfl HX6.out HO6.out rfl rfl (by rw [HPN.out]; omega) ?_))
      intro g7 cap7 w7 hx7 ho7
      have HX7 := Lib.hid (HX3.out.trans hx7); have HI7 := Lib.hid (HIS3.out.ext hx7); have HTP7 := Lib.hid (HTP3.out.ext hx7)
      have HJ7 := Lib.hid (chunkJoin_any _ _ (S ++ [[120]]) (sizesL l) w7 ho7.tx HI7.out (by rw [HSN.out]; omega))
      rw [join_wrong HSO.out (join_count (by rw [List.length_append, HPN.out, ← HCL.out]; simp))] at HJ7
      clear hx7 ho7 HO6 hemp
      rw [HPN.out] at HJ7 ⊢
      generalize pn + 1 = pn1 at *
      go_wp2_with fail
      refine HJ7.out.mono ?_
      rintro e w8 ⟨r8, rfl, hx8, -⟩
      have HX8 := Lib.hid (HX7.out.trans hx8); have HI8 := Lib.hid (HI7.out.ext hx8); have HTP8 := Lib.hid (HTP7.out.ext hx8)
      clear hx8 HJ7 hb hb2 hone
      by_cases hp0 : pn = 0
      · subst hp0
        go_wp2_with (go_at_call 12; refine (awake11_any _).mono ?_)
        rintro e w9 ⟨rfl, hx9⟩
        have HX9 := Lib.hid (HX8.out.trans hx9)
        clear hx9
        go_wp2
        go_ret
        exact ⟨rfl, HX9.out⟩
      obtain ⟨k, hk⟩ : ∃ k, k = at_ % pn := ⟨_, rfl⟩
      have hkn : k < pn := by rw [hk]; exact Nat.mod_lt _ (by omega)
      have hm1 : (at_ : Int) % (pn : Int) = (k : Int) := by rw [hk]; rfl
      have hm2 : (at_ : Int).tmod (pn : Int) = (k : Int) := by rw [hk]; rfl
      have hp1 : (((pn : Nat) : Int) == 0) = false := by simp; omega
      have hp2 : ¬ ((pn : Nat) : Int) = 0 := by omega
      have HKN := Lib.hid hkn; have HKB : Hid (k < 36000 ∧ pn ≤ 36000) := Lib.hid ⟨by omega, hpl⟩
      clear hk
      go_wp2
      clear hm1 hm2
      have hkl : k < S.length := by rw [HPN.out]; exact HKN.out
      obtain ⟨pb, px, rfl, hpx⟩ := HTP8.out.at hkl
      have HXB := Lib.hid (show (S[k]).length ≤ 100000 from by
        have h1 : S[k] ∈ S := List.getElem_mem hkl
        have h2 := (HMEM.out _ h1).2
        omega)
      have hpcc : pn ≤ pc := by obtain ⟨_, _, e, g1, g2⟩ := HTP8.out.shape; cases e; have := HPN.out; omega
      have HTE := Lib.hid (fun w0 => run_takeT (P := Try.prog) (w := w8) (t := 22) Try.underlying22 CHI.out CHS.out (some ⟨pb, px, none⟩) pn pc k (by omega) w0)
      obtain ⟨dv, dc, hde, hds⟩ := run_dropT (P := Try.prog) (t := 22) Try.underlying22 CHI.out CHS.out (w := w8) (ao := some ⟨pb, px, none⟩) (n := pn) (cap := pc) (cs := S.map strV) (by have := HTP8.out; unfold TxS at this; rwa [HPN.out] at this) (by rw [List.length_map, HPN.out]) (k + 1) HKN.out
      have HDE := Lib.hid hde
      have HDS : Hid (Sl w8 (.slice dv (pn - (k + 1)) dc) (pn - (k + 1)) ((S.drop (k + 1)).map strV)) := Lib.hid (by rw [List.map_drop]; exact hds)
      have HTK : Hid (TxS w8 (.slice (some ⟨pb, px, none⟩) k pc) (S.take k)) := Lib.hid (HTP8.out.take k (by rw [HPN.out]; exact Nat.le_of_lt HKN.out))
      have HPX := Lib.hid hpx
      generalize S[k] = x at *
      obtain ⟨B, hB⟩ : ∃ B, B = w8.heap.size := ⟨_, rfl⟩
      have HBE := Lib.hid hB; have HB0 : Hid (B ≤ w8.heap.size) := Lib.hid (by omega)
      clear hB hde hds hpx hkl hpcc
      refine wp_region_ph [9] (bk20 pb px pn pc k dv dc B S) (fun _ w' => Ext w8 w') mixedV (by rfl) (by rfl) (by rfl) (Ch.drew (Ch.refl _ _)) ?all ?fin
      case all =>
        refine ⟨?_, ?_, ?_, ?_, ?_, ?_, ?_, ?_, ?_, ?_, ?_, trivial⟩
        · refine StepG.phPlain 0 0 (by decide) (by decide) (by rfl) rfl rfl (fun _ _ _ h k => h.trans k) fun p hp1 hp2 ρ w hρ hw hf => ?_
          obtain rfl : p = 0 := by omega
          exact Exec.kempty rfl rfl (base := B) emptyTx (Nat.le_trans HB0.out hw.size) (fun g w' h => ⟨g, rfl, h⟩)
        · refine StepG.phPlain 0 0 (by decide) (by decide) (by rfl) rfl rfl (fun _ _ _ h k => h.trans k) fun p hp1 hp2 ρ w hρ hw hf => ?_
          have h7 : ρ (.tmp 7) = .slice (some ⟨pb, px, none⟩) pn pc := (hf 7).2 rfl rfl
          exact Exec.kmove rfl rfl h7
        · refine StepG.phPlain 0 0 (by decide) (by decide) (by rfl) rfl rfl (fun _ _ _ h k => h.trans k) fun p hp1 hp2 ρ w hρ hw hf => ?_
          have h10 : ρ (.tmp 10) = .int .i64 (k : Nat) := (hf 10).2 rfl rfl
          exact Exec.kmove rfl rfl h10
        · refine StepG.phPlain 0 0 (by decide) (by decide) (by rfl) rfl rfl (fun _ _ _ h k => h.trans k) fun p hp1 hp2 ρ w hρ hw hf => ?_
          have ha : ρ (.tmp 82) = .slice (some ⟨pb, px, none⟩) pn pc := (hf 82).1 rfl
          have hb : ρ (.tmp 83) = .int .i64 (k : Nat) := (hf 83).1 rfl
          exact Exec.same (v := (.slice (some ⟨pb, px, none⟩) k pc)) rfl (by unfold execOp; simp only [Option.map_some, Option.map_none, ha, hb, Sem.run_bind, HTE.out, Result.andThen_ok, Sem.run_pure]) rfl
        · refine StepG.phPlain 0 0 (by decide) (by decide) (by rfl) rfl rfl (fun _ _ _ h k => h.trans k) fun p hp1 hp2 ρ w hρ hw hf => ?_
          obtain rfl : p = 0 := by omega
          have he : (Kn.empty B 9).holds (ρ (.tmp 81)) w := (hf 81).1 rfl
          have hb : ρ (.tmp 84) = .slice (some ⟨pb, px, none⟩) k pc := (hf 84).1 rfl
          have hx := (HTK.out.ext hw)
          refine Exec.kfresh rfl rfl Try.underlying22 CHI.out CHZ.out CHS.out CHB.out rfl he (n := k) (news := (S.take k).map strV) (by rw [hb]; have := hx; unfold TxS at this; rwa [List.length_take, Nat.min_eq_left (by have := HKN.out; have := HPN.out; omega)] at this) (by simp; have := HKN.out; have := HPN.out; omega) (strV_one _) (by have := HKB.out; omega) (by have := HKB.out; unfold maxLen; omega) (Nat.le_trans HB0.out hw.size) fun v w' h => ?_
          exact h
        · refine StepG.phPlain 0 0 (by decide) (by decide) (by rfl) rfl rfl (fun _ _ _ h k => h.trans k) fun p hp1 hp2 ρ w hρ hw hf => ?_
          have h7 : ρ (.tmp 7) = .slice (some ⟨pb, px, none⟩) pn pc := (hf 7).2 rfl rfl
          exact Exec.kmove rfl rfl h7
        · refine StepG.phPlain 0 0 (by decide) (by decide) (by rfl) rfl rfl (fun _ _ _ h k => h.trans k) fun p hp1 hp2 ρ w hρ hw hf => ?_
          have h10 : ρ (.tmp 10) = .int .i64 (k : Nat) := (hf 10).2 rfl rfl
          exact Exec.kmove rfl rfl h10
        · refine StepG.phPlain 0 0 (by decide) (by decide) (by rfl) rfl rfl (fun _ _ _ h k => h.trans k) fun p hp1 hp2 ρ w hρ hw hf => ?_
          have ha : ρ (.tmp 87) = .int .i64 (k : Nat) := (hf 87).1 rfl
          have hwr : IntKind.i64.wrap (((k : Nat) : Int) + 1) = ((k + 1 : Nat) : Int) := by have := HKB.out; rw [IntKind.wrap_i64]; omega
          exact Exec.same (v := .int .i64 (k + 1 : Nat)) rfl (by simp only [go_sem, execOp, hρ.const, ha, hwr]; rfl) rfl
        · refine StepG.phPlain 0 0 (by decide) (by decide) (by rfl) rfl rfl (fun _ _ _ h k => h.trans k) fun p hp1 hp2 ρ w hρ hw hf => ?_
          have ha : ρ (.tmp 86) = .slice (some ⟨pb, px, none⟩) pn pc := (hf 86).1 rfl
          have hb : ρ (.tmp 88) = .int .i64 (k + 1 : Nat) := (hf 88).1 rfl
          exact Exec.same (v := (.slice dv (pn - (k + 1)) dc)) rfl (by unfold execOp; simp only [Option.map_some, Option.map_none, ha, hb, Sem.run_bind, HDE.out, Result.andThen_ok, Sem.run_pure]) rfl
        · refine StepG.phWrite [81, 82, 83, 84, 85, 86, 87, 88, 89] (by rfl) 0 (by decide) (by decide) (by rfl) rfl rfl fun ρ w hρ hw hf => ?_
          have hs : (Kn.own B 9 k ((S.take k).map strV)).holds (ρ (.tmp 85)) w := (hf 85).1 rfl
          have hx : ρ (.tmp 89) = .slice dv (pn - (k + 1)) dc := (hf 89).1 rfl
          have hxs : Sl w (ρ (.tmp 89)) (pn - (k + 1)) ((S.drop (k + 1)).map strV) := by rw [hx]; exact Sl.ext HDS.out hw
          refine (Exec.kappend rfl B Try.underlying22 CHI.out CHZ.out CHS.out CHB.out rfl (by decide) rfl hs hxs (by simp; have := HPN.out; omega) (strV_one _) (by have := HKB.out; have := HPN.out; omega) (by have := HKB.out; unfold maxLen; omega) (Nat.le_trans HB0.out hw.size)).mono ?_
          rintro v w' ⟨h1, h2⟩
          refine ⟨fun d hd => by cases hd; exact h1, ?_, hw.grown h2 fun j hj => .inr (by have := (hs.lt j hj).1; rw [HBE.out] at this; exact this)⟩
          intro d v hd h; unfold bk20 at h ⊢; revert h; split <;> first | exact fun h => h | exact fun _ => trivial | exact absurd hd (by decide)
        · refine StepG.phPlain 1 1 (by decide) (by decide) (by rfl) rfl rfl (fun _ _ _ h k => h.trans k) fun p hp1 hp2 ρ w hρ hw hf => ?_
          obtain rfl : p = 1 := by omega
          have ha : (Kn.own B 9 (k + (pn - (k + 1))) ((S.take k).map strV ++ (S.drop (k + 1)).map strV)).holds (ρ (.tmp 90)) w := (hf 90).1 rfl
          exact Exec.kassign rfl rfl ha
      case fin =>
        intro ν w9 hfin hx9
        have hv : (Kn.own B 9 (k + (pn - (k + 1))) ((S.take k).map strV ++ (S.drop (k + 1)).map strV)).holds (ν 11) w9 := hfin 10 11 rfl
        simp only [Exit.then, ended, List.foldl_cons, List.foldl_nil, List.setIfInBounds_toArray, List.set_cons_succ, List.set_cons_zero]
        have HTL9 : Hid (TxS w9 (ν 11) (S.take k ++ S.drop (k + 1))) := Lib.hid (drop_own hv (by rw [List.length_append, List.length_take, List.length_drop, HPN.out]; have := HKN.out; omega) (by rw [List.map_append]))
        have HX9 := Lib.hid (HX8.out.trans hx9); have HI9 := Lib.hid (HI8.out.ext hx9)
        have HTK9 := Lib.hid (HTK.out.ext hx9); have HDS9 := Lib.hid (Sl.ext HDS.out hx9); have HPX9 := Lib.hid (hx9.cell (p := ⟨pb, px + k, none⟩) (fun f => f) _ HPX.out)
        have HLL9 : Hid (joinL (S.take k ++ S.drop (k + 1)) (sizesL l) = ([], 16)) := Lib.hid (join_wrong HSO.out (join_count (by rw [List.length_append, List.length_take, List.length_drop, HPN.out, ← HCL.out]; have := HKN.out; omega)))
        clear hfin hv hx9 HTK HDS HPX HBE HB0
        obtain ⟨s11, hs11⟩ : ∃ s, s = ν 11 := ⟨_, rfl⟩
        rw [← hs11] at HTL9 ⊢
        obtain ⟨o11, c11, h11, _⟩ := HTL9.out.shape
        rw [h11] at HTL9 ⊢
        clear h11 hs11
        generalize (S.take k ++ S.drop (k + 1)).length = n11 at *
        have HTK := HTK9; have HDS := HDS9; have HPX := HPX9
        clear HTK9 HDS9 HPX9
        obtain ⟨B, hB⟩ : ∃ B, B = w9.heap.size := ⟨_, rfl⟩
        have HBE := Lib.hid hB; have HB0 : Hid (B ≤ w9.heap.size) := Lib.hid (by omega)
        clear hB
        generalize ν 81 = v81 at *
        generalize ν 82 = v82 at *
        generalize ν 83 = v83 at *
        generalize ν 84 = v84 at *
        generalize ν 85 = v85 at *
        generalize ν 86 = v86 at *
        generalize ν 87 = v87 at *
        generalize ν 88 = v88 at *
        generalize ν 89 = v89 at *
        generalize ν 90 = v90 at *
        go_wp2
        refine wp_region_ph [28, 33] (bk21 pb px pn pc k dv dc B S x) (fun _ w' => Ext w9 w') mixedV (by rfl) (by rfl) (by rfl) (Ch.drew (Ch.refl _ _)) ?all ?fin
        case all =>
          refine ⟨?_, ?_, ?_, ?_, ?_, ?_, ?_, ?_, ?_, ?_, ?_, ?_, ?_, ?_, ?_, ?_, ?_, ?_, ?_, ?_, ?_, ?_, ?_, ?_, ?_, ?_, ?_, ?_, ?_, ?_, ?_, ?_, ?_, ?_, ?_, trivial⟩
          · refine StepG.phPlain 0 0 (by decide) (by decide) (by rfl) rfl rfl (fun _ _ _ h k => h.trans k) fun p hp1 hp2 ρ w hρ hw hf => ?_
            obtain rfl : p = 0 := by omega
            exact Exec.kempty rfl rfl (base := B) emptyTx (Nat.le_trans HB0.out hw.size) (fun g w' h => ⟨g, rfl, h⟩)
          · refine StepG.phPlain 0 0 (by decide) (by decide) (by rfl) rfl rfl (fun _ _ _ h k => h.trans k) fun p hp1 hp2 ρ w hρ hw hf => ?_
            have h7 : ρ (.tmp 7) = .slice (some ⟨pb, px, none⟩) pn pc := (hf 7).2 rfl rfl
            exact Exec.kmove rfl rfl h7
          · refine StepG.phPlain 0 0 (by decide) (by decide) (by rfl) rfl rfl (fun _ _ _ h k => h.trans k) fun p hp1 hp2 ρ w hρ hw hf => ?_
            have h10 : ρ (.tmp 10) = .int .i64 (k : Nat) := (hf 10).2 rfl rfl
            exact Exec.kmove rfl rfl h10
          · refine StepG.phPlain 0 0 (by decide) (by decide) (by rfl) rfl rfl (fun _ _ _ h k => h.trans k) fun p hp1 hp2 ρ w hρ hw hf => ?_
            have ha : ρ (.tmp 92) = .slice (some ⟨pb, px, none⟩) pn pc := (hf 92).1 rfl
            have hb : ρ (.tmp 93) = .int .i64 (k : Nat) := (hf 93).1 rfl
            exact Exec.same (v := (.slice (some ⟨pb, px, none⟩) k pc)) rfl (by unfold execOp; simp only [Option.map_some, Option.map_none, ha, hb, Sem.run_bind, HTE.out, Result.andThen_ok, Sem.run_pure]) rfl
          · refine StepG.phPlain 0 0 (by decide) (by decide) (by rfl) rfl rfl (fun _ _ _ h k => h.trans k) fun p hp1 hp2 ρ w hρ hw hf => ?_
            obtain rfl : p = 0 := by omega
            have he : (Kn.empty B 9).holds (ρ (.tmp 91)) w := (hf 91).1 rfl
            have hb : ρ (.tmp 94) = .slice (some ⟨pb, px, none⟩) k pc := (hf 94).1 rfl
            have hx := (HTK.out.ext hw)
            refine Exec.kfresh rfl rfl Try.underlying22 CHI.out CHZ.out CHS.out CHB.out rfl he (n := k) (news := (S.take k).map strV) (by rw [hb]; have := hx; unfold TxS at this; rwa [List.length_take, Nat.min_eq_left (by have := HKN.out; have := HPN.out; omega)] at this) (by simp; have := HKN.out; have := HPN.out; omega) (strV_one _) (by have := HKB.out; omega) (by have := HKB.out; unfold maxLen; omega) (Nat.le_trans HB0.out hw.size) fun v w' h => ?_
            exact h
          · refine StepG.phPlain 0 0 (by decide) (by decide) (by rfl) rfl rfl (fun _ _ _ h k => h.trans k) fun p hp1 hp2 ρ w hρ hw hf => ?_
            have h7 : ρ (.tmp 7) = .slice (some ⟨pb, px, none⟩) pn pc := (hf 7).2 rfl rfl
            exact Exec.kmove rfl rfl h7
          · refine StepG.phPlain 0 0 (by decide) (by decide) (by rfl) rfl rfl (fun _ _ _ h k => h.trans k) fun p hp1 hp2 ρ w hρ hw hf => ?_
            have h10 : ρ (.tmp 10) = .int .i64 (k : Nat) := (hf 10).2 rfl rfl
            exact Exec.kmove rfl rfl h10
          · refine StepG.phPlain 0 0 (by decide) (by decide) (by rfl) rfl rfl (fun _ _ _ h k => h.trans k) fun p hp1 hp2 ρ w hρ hw hf => ?_
            have ha : ρ (.tmp 96) = .slice (some ⟨pb, px, none⟩) pn pc := (hf 96).1 rfl
            have hb : ρ (.tmp 97) = .int .i64 (k : Nat) := (hf 97).1 rfl
            exact Exec.kindex rfl rfl Try.underlying22 CHI.out CHS.out ha hb HKN.out rfl
          · refine StepG.phPlain 0 0 (by decide) (by decide) (by rfl) rfl rfl (fun _ _ _ h k => h.trans k) fun p hp1 hp2 ρ w hρ hw hf => ?_
            have ha : ρ (.tmp 98) = .pointer (some ⟨pb, px + k * 1, none⟩) := (hf 98).1 rfl
            have hc := hw.cell (p := ⟨pb, px + k, none⟩) (fun f => f) _ HPX.out
            exact Exec.same (v := strV x) rfl (by simp [go_sem, hρ.const, ha, hc]) rfl
          · refine StepG.phPlain 0 0 (by decide) (by decide) (by rfl) rfl rfl (fun _ _ _ h k => h.trans k) fun p hp1 hp2 ρ w hρ hw hf => ?_
            have h7 : ρ (.tmp 7) = .slice (some ⟨pb, px, none⟩) pn pc := (hf 7).2 rfl rfl
            exact Exec.kmove rfl rfl h7
          · refine StepG.phPlain 0 0 (by decide) (by decide) (by rfl) rfl rfl (fun _ _ _ h k => h.trans k) fun p hp1 hp2 ρ w hρ hw hf => ?_
            have h10 : ρ (.tmp 10) = .int .i64 (k : Nat) := (hf 10).2 rfl rfl
            exact Exec.kmove rfl rfl h10
          · refine StepG.phPlain 0 0 (by decide) (by decide) (by rfl) rfl rfl (fun _ _ _ h k => h.trans k) fun p hp1 hp2 ρ w hρ hw hf => ?_
            have ha : ρ (.tmp 100) = .slice (some ⟨pb, px, none⟩) pn pc := (hf 100).1 rfl
            have hb : ρ (.tmp 101) = .int .i64 (k : Nat) := (hf 101).1 rfl
            exact Exec.kindex rfl rfl Try.underlying22 CHI.out CHS.out ha hb HKN.out rfl
          · refine StepG.phPlain 0 0 (by decide) (by decide) (by rfl) rfl rfl (fun _ _ _ h k => h.trans k) fun p hp1 hp2 ρ w hρ hw hf => ?_
            have ha : ρ (.tmp 102) = .pointer (some ⟨pb, px + k * 1, none⟩) := (hf 102).1 rfl
            have hc := hw.cell (p := ⟨pb, px + k, none⟩) (fun f => f) _ HPX.out
            exact Exec.same (v := strV x) rfl (by simp [go_sem, hρ.const, ha, hc]) rfl
          · refine StepG.phPlain 0 0 (by decide) (by decide) (by rfl) rfl rfl (fun _ _ _ h k => h.trans k) fun p hp1 hp2 ρ w hρ hw hf => ?_
            have ha : ρ (.tmp 103) = strV x := (hf 103).1 rfl
            exact Exec.same (v := .int .i64 (x.length : Nat)) rfl (by simp [go_sem, hρ.const, ha, strV, ByteArray.size]) rfl
          · refine StepG.phPlain 0 0 (by decide) (by decide) (by rfl) rfl rfl (fun _ _ _ h k => h.trans k) fun p hp1 hp2 ρ w hρ hw hf => ?_
            have ha : ρ (.tmp 104) = .int .i64 (x.length : Nat) := (hf 104).1 rfl
            have hxb := HXB.out
            exact Exec.same (v := .int .i64 (x.length / 2 : Nat)) rfl (by generalize x.length = n0 at ha hxb ⊢; have htd : ((n0 : Nat) : Int).tdiv 2 = ((n0 / 2 : Nat) : Int) := rfl; have hw2 : IntKind.i64.wrap ((n0 / 2 : Nat) : Int) = ((n0 / 2 : Nat) : Int) := (by rw [IntKind.wrap_i64]; omega); simp only [go_sem, execOp, hρ.const, ha, htd, hw2]; rfl) rfl
          · refine StepG.phPlain 0 0 (by decide) (by decide) (by rfl) rfl rfl (fun _ _ _ h k => h.trans k) fun p hp1 hp2 ρ w hρ hw hf => ?_
            have ha : ρ (.tmp 99) = strV x := (hf 99).1 rfl
            have hb : ρ (.tmp 105) = .int .i64 (x.length / 2 : Nat) := (hf 105).1 rfl
            have hr := run_strtake (P := Try.prog) Try.underlying9 x (x.length / 2) (by omega) w
            exact Exec.same (v := strV (x.take (x.length / 2))) rfl (by unfold execOp; simp only [Option.map_some, Option.map_none, ha, hb, Sem.run_bind, strV, hr, Result.andThen_ok, Sem.run_pure]) rfl
          · refine StepG.phPlain 0 0 (by decide) (by decide) (by rfl) rfl rfl (fun _ _ _ h k => h.trans k) fun p hp1 hp2 ρ w hρ hw hf => ?_
            have h7 : ρ (.tmp 7) = .slice (some ⟨pb, px, none⟩) pn pc := (hf 7).2 rfl rfl
            exact Exec.kmove rfl rfl h7
          · refine StepG.phPlain 0 0 (by decide) (by decide) (by rfl) rfl rfl (fun _ _ _ h k => h.trans k) fun p hp1 hp2 ρ w hρ hw hf => ?_
            have h10 : ρ (.tmp 10) = .int .i64 (k : Nat) := (hf 10).2 rfl rfl
            exact Exec.kmove rfl rfl h10
          · refine StepG.phPlain 0 0 (by decide) (by decide) (by rfl) rfl rfl (fun _ _ _ h k => h.trans k) fun p hp1 hp2 ρ w hρ hw hf => ?_
            have ha : ρ (.tmp 107) = .slice (some ⟨pb, px, none⟩) pn pc := (hf 107).1 rfl
            have hb : ρ (.tmp 108) = .int .i64 (k : Nat) := (hf 108).1 rfl
            exact Exec.kindex rfl rfl Try.underlying22 CHI.out CHS.out ha hb HKN.out rfl
          · refine StepG.phPlain 0 0 (by decide) (by decide) (by rfl) rfl rfl (fun _ _ _ h k => h.trans k) fun p hp1 hp2 ρ w hρ hw hf => ?_
            have ha : ρ (.tmp 109) = .pointer (some ⟨pb, px + k * 1, none⟩) := (hf 109).1 rfl
            have hc := hw.cell (p := ⟨pb, px + k, none⟩) (fun f => f) _ HPX.out
            exact Exec.same (v := strV x) rfl (by simp [go_sem, hρ.const, ha, hc]) rfl
          · refine StepG.phPlain 0 0 (by decide) (by decide) (by rfl) rfl rfl (fun _ _ _ h k => h.trans k) fun p hp1 hp2 ρ w hρ hw hf => ?_
            have h7 : ρ (.tmp 7) = .slice (some ⟨pb, px, none⟩) pn pc := (hf 7).2 rfl rfl
            exact Exec.kmove rfl rfl h7
          · refine StepG.phPlain 0 0 (by decide) (by decide) (by rfl) rfl rfl (fun _ _ _ h k => h.trans k) fun p hp1 hp2 ρ w hρ hw hf => ?_
            have h10 : ρ (.tmp 10) = .int .i64 (k : Nat) := (hf 10).2 rfl rfl
            exact Exec.kmove rfl rfl h10
          · refine StepG.phPlain 0 0 (by decide) (by decide) (by rfl) rfl rfl (fun _ _ _ h k => h.trans k) fun p hp1 hp2 ρ w hρ hw hf => ?_
            have ha : ρ (.tmp 111) = .slice (some ⟨pb, px, none⟩) pn pc := (hf 111).1 rfl
            have hb : ρ (.tmp 112) = .int .i64 (k : Nat) := (hf 112).1 rfl
            exact Exec.kindex rfl rfl Try.underlying22 CHI.out CHS.out ha hb HKN.out rfl
          · refine StepG.phPlain 0 0 (by decide) (by decide) (by rfl) rfl rfl (fun _ _ _ h k => h.trans k) fun p hp1 hp2 ρ w hρ hw hf => ?_
            have ha : ρ (.tmp 113) = .pointer (some ⟨pb, px + k * 1, none⟩) := (hf 113).1 rfl
            have hc := hw.cell (p := ⟨pb, px + k, none⟩) (fun f => f) _ HPX.out
            exact Exec.same (v := strV x) rfl (by simp [go_sem, hρ.const, ha, hc]) rfl
          · refine StepG.phPlain 0 0 (by decide) (by decide) (by rfl) rfl rfl (fun _ _ _ h k => h.trans k) fun p hp1 hp2 ρ w hρ hw hf => ?_
            have ha : ρ (.tmp 114) = strV x := (hf 114).1 rfl
            exact Exec.same (v := .int .i64 (x.length : Nat)) rfl (by simp [go_sem, hρ.const, ha, strV, ByteArray.size]) rfl
          · refine StepG.phPlain 0 0 (by decide) (by decide) (by rfl) rfl rfl (fun _ _ _ h k => h.trans k) fun p hp1 hp2 ρ w hρ hw hf => ?_
            have ha : ρ (.tmp 115) = .int .i64 (x.length : Nat) := (hf 115).1 rfl
            have hxb := HXB.out
            exact Exec.same (v := .int .i64 (x.length / 2 : Nat)) rfl (by generalize x.length = n0 at ha hxb ⊢; have htd : ((n0 : Nat) : Int).tdiv 2 = ((n0 / 2 : Nat) : Int) := rfl; have hw2 : IntKind.i64.wrap ((n0 / 2 : Nat) : Int) = ((n0 / 2 : Nat) : Int) := (by rw [IntKind.wrap_i64]; omega); simp only [go_sem, execOp, hρ.const, ha, htd, hw2]; rfl) rfl
          · refine StepG.phPlain 0 0 (by decide) (by decide) (by rfl) rfl rfl (fun _ _ _ h k => h.trans k) fun p hp1 hp2 ρ w hρ hw hf => ?_
            have ha : ρ (.tmp 110) = strV x := (hf 110).1 rfl
            have hb : ρ (.tmp 116) = .int .i64 (x.length / 2 : Nat) := (hf 116).1 rfl
            have hr := run_strdrop (P := Try.prog) Try.underlying9 x (x.length / 2) (by omega) w
            exact Exec.same (v := strV (x.drop (x.length / 2))) rfl (by unfold execOp; simp only [Option.map_some, Option.map_none, ha, hb, Sem.run_bind, strV, hr, Result.andThen_ok, Sem.run_pure]) rfl
          · refine StepG.phPlain 0 0 (by decide) (by decide) (by rfl) rfl rfl (fun _ _ _ h k => h.trans k) fun p hp1 hp2 ρ w hρ hw hf => ?_
            obtain rfl : p = 0 := by omega
            have ha : ρ (.tmp 106) = strV (x.take (x.length / 2)) := (hf 106).1 rfl
            have hb : ρ (.tmp 117) = strV (x.drop (x.length / 2)) := (hf 117).1 rfl
            refine Exec.kalloc (v := .slice (some ⟨w.heap.size, 0, none⟩) 2 2) (ob := .cells #[strV (x.take (x.length / 2)), strV (x.drop (x.length / 2))] 9) rfl ?_ ?_
            · unfold execOp
              simp only [List.map_toArray, List.map_cons, List.map_nil, ha, hb, strV, Sem.run_bind, twoTx, Result.andThen_ok, Sem.run_pure]
            · exact (sl_row (cs := #[strV (x.take (x.length / 2)), strV (x.drop (x.length / 2))]) (heap_alloc_new w _) (by unfold maxLen; simp) : Sl _ _ 2 _)
          · refine StepG.phWrite [91, 92, 93, 94, 95, 96, 97, 98, 99, 100, 101, 102, 103, 104, 105, 106, 107, 108, 109, 110, 111, 112, 113, 114, 115, 116, 117, 118, 120, 121, 122, 123] (by rfl) 0 (by decide) (by decide) (by rfl) rfl rfl fun ρ w hρ hw hf => ?_
            have hs : (Kn.own B 9 k ((S.take k).map strV)).holds (ρ (.tmp 95)) w := (hf 95).1 rfl
            have hxs : Sl w (ρ (.tmp 118)) 2 [strV (x.take (x.length / 2)), strV (x.drop (x.length / 2))] := (hf 118).1 rfl
            refine (Exec.kappend rfl B Try.underlying22 CHI.out CHZ.out CHS.out CHB.out rfl (by decide) rfl hs hxs (by simp) (by simp [Value.oneCell', strV]) (by have := HKB.out; have := HPN.out; omega) (by have := HKB.out; unfold maxLen; omega) (Nat.le_trans HB0.out hw.size)).mono ?_
            rintro v w' ⟨h1, h2⟩
            refine ⟨fun d hd => by cases hd; exact h1, ?_, hw.grown h2 fun j hj => .inr (by have := (hs.lt j hj).1; rw [HBE.out] at this; exact this)⟩
            intro d v hd h; unfold bk21 at h ⊢; revert h; split <;> first | exact fun h => h | exact fun _ => trivial | exact absurd hd (by decide)
          · refine StepG.phPlain 0 1 (by decide) (by decide) (by rfl) rfl rfl (fun _ _ _ h k => h.trans k) fun p hp1 hp2 ρ w hρ hw hf => ?_
            have h7 : ρ (.tmp 7) = .slice (some ⟨pb, px, none⟩) pn pc := (hf 7).2 rfl rfl
            exact Exec.kmove rfl rfl h7
          · refine StepG.phPlain 0 1 (by decide) (by decide) (by rfl) rfl rfl (fun _ _ _ h k => h.trans k) fun p hp1 hp2 ρ w hρ hw hf => ?_
            have h10 : ρ (.tmp 10) = .int .i64 (k : Nat) := (hf 10).2 rfl rfl
            exact Exec.kmove rfl rfl h10
          · refine StepG.phPlain 0 1 (by decide) (by decide) (by rfl) rfl rfl (fun _ _ _ h k => h.trans k) fun p hp1 hp2 ρ w hρ hw hf => ?_
            have ha : ρ (.tmp 121) = .int .i64 (k : Nat) := (hf 121).1 rfl
            have hwr : IntKind.i64.wrap (((k : Nat) : Int) + 1) = ((k + 1 : Nat) : Int) := by have := HKB.out; rw [IntKind.wrap_i64]; omega
            exact Exec.same (v := .int .i64 (k + 1 : Nat)) rfl (by simp only [go_sem, execOp, hρ.const, ha, hwr]; rfl) rfl
          · refine StepG.phPlain 0 1 (by decide) (by decide) (by rfl) rfl rfl (fun _ _ _ h k => h.trans k) fun p hp1 hp2 ρ w hρ hw hf => ?_
            have ha : ρ (.tmp 120) = .slice (some ⟨pb, px, none⟩) pn pc := (hf 120).1 rfl
            have hb : ρ (.tmp 122) = .int .i64 (k + 1 : Nat) := (hf 122).1 rfl
            exact Exec.same (v := (.slice dv (pn - (k + 1)) dc)) rfl (by unfold execOp; simp only [Option.map_some, Option.map_none, ha, hb, Sem.run_bind, HDE.out, Result.andThen_ok, Sem.run_pure]) rfl
          · refine StepG.phWrite [91, 92, 93, 94, 95, 96, 97, 98, 99, 100, 101, 102, 103, 104, 105, 106, 107, 108, 109, 110, 111, 112, 113, 114, 115, 116, 117, 118, 119, 120, 121, 122, 123] (by rfl) 1 (by decide) (by decide) (by rfl) rfl rfl fun ρ w hρ hw hf => ?_
            have hs : (Kn.own B 9 (k + 2) ((S.take k).map strV ++ [strV (x.take (x.length / 2)), strV (x.drop (x.length / 2))])).holds (ρ (.tmp 119)) w := (hf 119).1 rfl
            have hx : ρ (.tmp 123) = .slice dv (pn - (k + 1)) dc := (hf 123).1 rfl
            have hxs : Sl w (ρ (.tmp 123)) (pn - (k + 1)) ((S.drop (k + 1)).map strV) := by rw [hx]; exact Sl.ext HDS.out hw
            refine (Exec.kappend rfl B Try.underlying22 CHI.out CHZ.out CHS.out CHB.out rfl (by decide) rfl hs hxs (by simp; have := HPN.out; omega) (strV_one _) (by have := HKB.out; have := HPN.out; omega) (by have := HKB.out; unfold maxLen; omega) (Nat.le_trans HB0.out hw.size)).mono ?_
            rintro v w' ⟨h1, h2⟩
            refine ⟨fun d hd => by cases hd; exact h1, ?_, hw.grown h2 fun j hj => .inr (by have := (hs.lt j hj).1; rw [HBE.out] at this; exact this)⟩
            intro d v hd h; unfold bk21 at h ⊢; revert h; split <;> first | exact fun h => h | exact fun _ => trivial | exact absurd hd (by decide)
          · refine StepG.phPlain 2 2 (by decide) (by decide) (by rfl) rfl rfl (fun _ _ _ h k => h.trans k) fun p hp1 hp2 ρ w hρ hw hf => ?_
            obtain rfl : p = 2 := by omega
            have ha : (Kn.own B 9 (k + 2 + (pn - (k + 1))) ((S.take k).map strV ++ [strV (x.take (x.length / 2)), strV (x.drop (x.length / 2))] ++ (S.drop (k + 1)).map strV)).holds (ρ (.tmp 124)) w := (hf 124).1 rfl
            exact Exec.kassign rfl rfl ha
        case fin =>
          intro ν2 w10 hfin hx10
          have hv : (Kn.own B 9 (k + 2 + (pn - (k + 1))) ((S.take k).map strV ++ [strV (x.take (x.length / 2)), strV (x.drop (x.length / 2))] ++ (S.drop (k + 1)).map strV)).holds (ν2 12) w10 := hfin 34 12 rfl
          simp only [Exit.then, ended, List.foldl_cons, List.foldl_nil, List.setIfInBounds_toArray, List.set_cons_succ, List.set_cons_zero]
          have HTLA : Hid (TxS w10 (ν2 12) (S.take k ++ [x.take (x.length / 2), x.drop (x.length / 2)] ++ S.drop (k + 1))) := Lib.hid (drop_own hv (by rw [List.length_append, List.length_append, List.length_take, List.length_drop, HPN.out]; have := HKN.out; simp; omega) (by simp))
          have HXA := Lib.hid (HX9.out.trans hx10); have HIA := Lib.hid (HI9.out.ext hx10); have HTLB := Lib.hid (HTL9.out.ext hx10)
          have HLLA : Hid (joinL (S.take k ++ [x.take (x.length / 2), x.drop (x.length / 2)] ++ S.drop (k + 1)) (sizesL l) = ([], 16)) := Lib.hid (join_wrong HSO.out (join_count (by rw [List.length_append, List.length_append, List.length_take, List.length_drop, HPN.out, ← HCL.out]; have := HKN.out; simp; omega)))
          clear hfin hv hx10
          obtain ⟨s12, hs12⟩ : ∃ s, s = ν2 12 := ⟨_, rfl⟩
          rw [← hs12] at HTLA ⊢
          obtain ⟨o12, c12, h12, _⟩ := HTLA.out.shape
          rw [h12] at HTLA ⊢
          clear h12 hs12
          have HJA := Lib.hid (chunkJoin_any _ _ _ (sizesL l) w10 HTLB.out HIA.out (by rw [HSN.out]; omega))
          have HJB := Lib.hid (fun w2 (hx : Ext w10 w2) => chunkJoin_any _ _ _ (sizesL l) w2 (HTLA.out.ext hx) (HIA.out.ext hx) (by rw [HSN.out]; omega))
          rw [HLL9.out] at HJA
          rw [HLLA.out] at HJB
          generalize (S.take k ++ [x.take (x.length / 2), x.drop (x.length / 2)] ++ S.drop (k + 1)).length = n12 at *
          generalize ν2 91 = y91 at *
          generalize ν2 92 = y92 at *
          generalize ν2 93 = y93 at *
          generalize ν2 94 = y94 at *
          generalize ν2 95 = y95 at *
          generalize ν2 96 = y96 at *
          generalize ν2 97 = y97 at *
          generalize ν2 98 = y98 at *
          generalize ν2 99 = y99 at *
          generalize ν2 100 = y100 at *
          generalize ν2 101 = y101 at *
          generalize ν2 102 = y102 at *
          generalize ν2 103 = y103 at *
          generalize ν2 104 = y104 at *
          generalize ν2 105 = y105 at *
          generalize ν2 106 = y106 at *
          generalize ν2 107 = y107 at *
          generalize ν2 108 = y108 at *
          generalize ν2 109 = y109 at *
          generalize ν2 110 = y110 at *
          generalize ν2 111 = y111 at *
          generalize ν2 112 = y112 at *
          generalize ν2 113 = y113 at *
          generalize ν2 114 = y114 at *
          generalize ν2 115 = y115 at *
          generalize ν2 116 = y116 at *
          generalize ν2 117 = y117 at *
          generalize ν2 118 = y118 at *
          generalize ν2 119 = y119 at *
          generalize ν2 120 = y120 at *
          generalize ν2 121 = y121 at *
          generalize ν2 122 = y122 at *
          generalize ν2 123 = y123 at *
          generalize ν2 124 = y124 at *
          go_wp2_with fail
          refine HJA.out.mono ?_
          rintro e wa ⟨ra, rfl, hxa, -⟩
          have HXB2 := Lib.hid (HXA.out.trans hxa); have HXAA := Lib.hid hxa
          clear hxa HJA
          go_wp2_with fail
          refine (HJB.out wa HXAA.out).mono ?_
          rintro e wb ⟨rb, rfl, hxb, -⟩
          have HXC := Lib.hid (HXB2.out.trans hxb)
          clear hxb HJB
          go_wp2_with (go_at_call 12; refine (awake11_any _).mono ?_)
          rintro e wc ⟨rfl, hxc⟩
          have HXD := Lib.hid (HXC.out.trans hxc)
          clear hxc
          go_wp2
          go_ret
          exact ⟨rfl, HXD.out⟩
end Go.Proofs.Ytolelgbkohccbaa
