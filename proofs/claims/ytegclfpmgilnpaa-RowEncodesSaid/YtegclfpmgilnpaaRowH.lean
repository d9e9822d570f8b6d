/-
  Rows: the document's Holes.
-/
import Derived.Test.YtegclfpmgilnpaaRowG
import Derived.Test.YtegclfpmgilnpaaCelB
namespace Go.Proofs.Ytegclfpmgilnpaa
open Go.RowKit Go.Lac

set_option maxRecDepth 20000 in
set_option maxHeartbeats 4000000 in
theorem rHoles_any (v : Value) (l : List Cel) (w : World) (h : RcS w v l) (hl : l.length ≤ 100000) :
    Calls Try.prog 35 #[v] w fun e w' => ∃ a b, e = .returned (.tuple #[a, b]) ∧ Ext w w' ∧ OwnHoR w.heap.size w' a (holesL l) ∧ OwnTxR w.heap.size w' b (textsL l) := by
  have HT := Lib.hid h; have HLL := Lib.hid hl
  obtain ⟨ao, cap, rfl, -, -⟩ := h.shape
  obtain ⟨ci, chi, _, chs, _⟩ := info_parts infoRrZ
  have CHI := Lib.hid chi; have CHS := Lib.hid chs
  have hm1 : l.length ≤ 9223372036854775807 := by omega
  have HLA : Hid (∀ (c : Cel) w, Calls Try.prog 66 #[.agg #[.int .u8 (c.k : Nat), .int .u8 (c.v.ty : Nat), .int .i64 c.v.i, .int .u64 (c.v.re : Nat), .int .u64 (c.v.im : Nat), .string ⟨c.v.t.toArray⟩]] w fun e w' => e = .returned (.bool (cLarge c)) ∧ Ext w w') := Lib.hid (fun (c : Cel) w => rlarge_any c w)
  clear h chi chs hl
  generalize hn : l.length = n at *
  have HN := Lib.hid hn; clear hn
  have f1 := fieldRP1; have f2 := fieldRV4
  go_enter Try.func35, Try.ntmps35
  go_wp2
  go_loopw [4, 5, 6] (fun va vb ix wr => ∃ k : Nat, k ≤ n ∧ ix = .int .i64 k ∧ Hid (Ext w wr) ∧ Hid (OwnHoR w.heap.size wr va (holesL (l.take k))) ∧ Hid (OwnTxR w.heap.size wr vb (textsL (l.take k)))) (fun _ _ ix _ => n - (intOf ix).toNat)
  case atStart => exact ⟨0, Nat.zero_le _, rfl, Lib.hid (Ch.refl _ _), Lib.hid (World.ownsRow_nil _ _ _ _), Lib.hid (World.ownsRow_nil _ _ _ _)⟩
  case round =>
    obtain ⟨k, hk, rfl, HX, HO, HP⟩ := hrel
    by_cases hlt : k < n
    · have hkl : k < l.length := by have := HN.out; omega
      obtain ⟨b, o, rfl, hra0⟩ := HT.out.at hkl
      have hra := rangeAt_ext hra0 HX.out
      have hidx := run_indexSl wr Try.underlying71 CHI.out CHS.out b o n cap k hlt
      have HT1 := Lib.hid (holesL_take hkl); have HT2 := Lib.hid (textsL_take hkl)
      have HQ1 : Hid ((holesL (l.take k)).length ≤ 200000000) := Lib.hid (by have := holesL_length (l.take k); rw [List.length_take] at this; have := HLL.out; omega)
      have HQ2 : Hid ((textsL (l.take k)).length ≤ 200000000) := Lib.hid (by have := textsL_length (l.take k); rw [List.length_take] at this; have := HLL.out; omega)
      have HLT := Lib.hid hlt
      generalize hck : l[k] = c at *
      have HCK : Hid (c = l[k]) := Lib.hid hck.symm
      clear hck
      have q0 : wr.cell? ⟨b, o + k * 6, none⟩ = some (.int .u8 (c.k : Nat)) := by have := hra 0 _ rfl; simpa using this
      have q1 : wr.cell? ⟨b, o + k * 6 + 1, none⟩ = some (.int .u8 (c.v.ty : Nat)) := hra 1 _ rfl
      have q2 : wr.cell? ⟨b, o + k * 6 + 2, none⟩ = some (.int .i64 c.v.i) := hra 2 _ rfl
      have q3 : wr.cell? ⟨b, o + k * 6 + 3, none⟩ = some (.int .u64 (c.v.re : Nat)) := hra 3 _ rfl
      have q4 : wr.cell? ⟨b, o + k * 6 + 4, none⟩ = some (.int .u64 (c.v.im : Nat)) := hra 4 _ rfl
      have q5 : wr.cell? ⟨b, o + k * 6 + 5, none⟩ = some (.string ⟨c.v.t.toArray⟩) := hra 5 _ rfl
      have HRA := Lib.hid hra
      have HLC := Lib.hid (HLA.out c wr)
      clear hra0 hra
      go_wp2_with fail
      refine HLC.out.mono ?_
      rintro e w3 ⟨rfl, hx3⟩
      have HX3 := Lib.hid (HX.out.trans hx3); have HO3 := Lib.hid (HO.out.ext hx3); have HP3 := Lib.hid (HP.out.ext hx3)
      have r5 : w3.cell? ⟨b, o + k * 6 + 5, none⟩ = some (.string ⟨c.v.t.toArray⟩) := hx3.cell (p := ⟨b, o + k * 6 + 5, none⟩) (fun f => f) _ q5
      have HXQ := Lib.hid r5
      clear hx3 q0 q1 q2 q3 q4 q5 hidx HLC
      have hidx := run_indexSl w3 Try.underlying71 CHI.out CHS.out b o n cap k hlt
      cases hL : cLarge c with
      | false =>
        rw [hL, if_neg (by decide), List.append_nil] at HT1 HT2
        clear hL
        go_wp2
        go_roundw
        case rel => exact ⟨k + 1, HLT.out, by simp, HX3, by rw [HT1.out]; exact HO3, by rw [HT2.out]; exact HP3⟩
        case measure => simp [intOf]; have := HLT.out; omega
      | true =>
        rw [hL, if_pos rfl] at HT1 HT2
        clear hL
        have hsz : (⟨c.v.t.toArray⟩ : ByteArray).size = c.v.t.length := by simp [ByteArray.size]
        have hbl := bldHoR; have hone := oneHoR
        obtain ⟨vo, vc, rfl⟩ := owns_shape HO3.out
        obtain ⟨po, pc', rfl⟩ := owns_shape HP3.out
        go_wp2_with (at_builtin; go_must (refine wpList_hoR rfl _ _ rfl HX3.out HO3.out HP3.out rfl rfl HQ1.out ?_))
        intro g3 cap3 w4 hx4 ho4 hp4
        have HX4 := Lib.hid hx4
        have HO4 : Hid (OwnHoR w.heap.size w4 (.slice (some ⟨g3, 0, none⟩) ((holesL (l.take k)).length + 1) cap3) (holesL (l.take (k + 1)))) := Lib.hid (by rw [HT1.out]; exact ho4)
        have HP4 := Lib.hid hp4
        obtain ⟨b', o', e, hra4⟩ := (RcS.ext HT.out hx4).at (show k < l.length by have := HN.out; have := HLT.out; omega)
        cases e
        have HLK : Hid (c = l[k]'(by have := HN.out; have := HLT.out; omega)) := HCK
        rw [← HLK.out] at hra4
        have q5 : w4.cell? ⟨b, o + k * 6 + 5, none⟩ = some (.string ⟨c.v.t.toArray⟩) := hra4 5 _ rfl
        clear hx4 ho4 hp4 hidx hone hbl hra4 HXQ r5
        have hidx := run_indexSl w4 Try.underlying71 CHI.out CHS.out b o n cap k hlt
        have hone := oneTxR
        generalize (holesL (l.take k)).length + 1 = n3 at *
        go_wp2_with (at_builtin; go_must (refine wpList_txR rfl _ _ rfl rfl HX4.out HP4.out HO4.out rfl rfl HQ2.out ?_))
        intro g5 cap5 w5 hx5 hp5 ho5
        have HX5 := Lib.hid hx5; have HO5 := Lib.hid ho5
        have HP5 : Hid (OwnTxR w.heap.size w5 (.slice (some ⟨g5, 0, none⟩) ((textsL (l.take k)).length + 1) cap5) (textsL (l.take (k + 1)))) := Lib.hid (by rw [HT2.out]; exact hp5)
        clear hx5 ho5 hp5 q5 hidx
        generalize (textsL (l.take k)).length + 1 = n5 at *
        go_wp2
        go_roundw
        case rel => exact ⟨k + 1, HLT.out, by simp, HX5, HO5, HP5⟩
        case measure => simp [intOf]; have := HLT.out; omega
    · obtain rfl : n = k := by omega
      have E : l.take n = l := by rw [← HN.out, List.take_length]
      rw [E] at HO HP
      clear E hlt
      go_wp2
      refine bodyPost_ret (results_tmp2 rfl _ _ _) rfl ?_
      exact ⟨_, _, rfl, HX.out, HO.out, HP.out⟩
end Go.Proofs.Ytegclfpmgilnpaa
