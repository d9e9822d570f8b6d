/-
  Rows: awake: what the chapter's example says; a store in the middle of a cell of a row.
-/
import Derived.Test.YtegclfpmgilnpaaRowB
import Derived.Test.YtegclfpmgilnpaaImgB
namespace Go.Proofs.Ytegclfpmgilnpaa
open Go.RowKit Go.Lac

/-- A store of a cell's last slots (from the d-th on), in the middle of a row of one's own. -/
theorem own_setPrD {base : Nat} {w : World} {v : Value} {l : List Cel} {k : Nat} (d : Nat) (hd : d ≤ 5) (c : Cel) (h : OwnPr base w v l) (hk : k < l.length) (hc : (pcv c).toList.take d = (pcv l[k]).toList.take d) :
    ∃ g cap, v = .slice (some ⟨g, 0, none⟩) l.length cap ∧ base ≤ g ∧ OwnPr base (w.setCells g (k * 5 + d) ((pcv c).toList.drop d)) v (l.set k c) ∧ w.there g (k * 5 + d) (5 - d) := by
  obtain ⟨h1, ⟨rfl, h2⟩ | ⟨g, cap, cur, rfl, hg, hh, hn, hm, hs, ht⟩⟩ := h
  · omega
  refine ⟨g, cap, rfl, hg, ?_, ?_⟩
  · have hvl : ((pcv c).toList.drop d).length = 5 - d := by simp [pcv]
    have hle : k * 5 + 5 ≤ l.length * 5 := by omega
    have hle2 : l.length * 5 ≤ cap * 5 := Nat.mul_le_mul_right _ hn
    obtain ⟨cur', k1, k2, k3⟩ := setCells_block g ((pcv c).toList.drop d) (k * 5 + d) w cur hh (by rw [hvl, hs]; omega)
    refine ⟨by rw [PcC_length], .inr ⟨g, cap, cur', by simp, hg, k1, by simpa using hn, hm, by omega, ?_⟩⟩
    have hsplit : PcC (l.set k c) = PcC (l.take k) ++ (pcv c).toList ++ PcC (l.drop (k + 1)) := by
      rw [List.set_eq_take_append_cons_drop, if_pos hk, PcC_append]
      simp [PcC]
    have hl : PcC l = PcC (l.take k) ++ (pcv l[k]).toList ++ PcC (l.drop (k + 1)) := by
      have e0 : l.take k ++ l[k] :: l.drop (k + 1) = l := by rw [← List.drop_eq_getElem_cons hk, List.take_append_drop]
      have e1 := (congrArg PcC e0).symm.trans (PcC_append _ _)
      rw [e1, show PcC (l[k] :: l.drop (k + 1)) = (pcv l[k]).toList ++ PcC (l.drop (k + 1)) from List.flatMap_cons, List.append_assoc]
    have hlt : (PcC (l.take k)).length = k * 5 := by rw [PcC_length, List.length_take, Nat.min_eq_left (by omega)]
    have hv2 : (pcv l[k]).toList.length = 5 := by simp [pcv]
    have hld : (PcC (l.drop (k + 1))).length = l.length * 5 - (k * 5 + 5) := by rw [PcC_length, List.length_drop]; omega
    have e1 : cur.toList.take (k * 5 + d) = PcC (l.take k) ++ (pcv c).toList.take d := by
      have : cur.toList.take (k * 5 + d) = (cur.toList.take (l.length * 5)).take (k * 5 + d) := by rw [List.take_take, Nat.min_eq_left (by omega)]
      rw [this, ht, hl, List.append_assoc, List.take_append, hlt, List.take_of_length_le (by omega), Nat.add_sub_cancel_left, List.take_append, hv2, Nat.sub_eq_zero_of_le hd, List.take_zero, List.append_nil, hc]
    have e2 : (cur.toList.take (l.length * 5)).drop (k * 5 + 5) = PcC (l.drop (k + 1)) := by
      rw [ht, hl, List.drop_append, List.drop_of_length_le (by rw [List.length_append]; omega), List.nil_append, List.length_append, hlt, hv2, Nat.sub_self, List.drop_zero]
    rw [List.length_set, hsplit, k3, hvl, e1, ← e2, show k * 5 + d + (5 - d) = k * 5 + 5 by omega]
    have hcl : k * 5 ≤ cur.toList.length := by simp; omega
    rw [List.append_assoc (PcC (l.take k)), List.take_append_drop]
    have hT : (PcC (l.take k) ++ (pcv c).toList).length = k * 5 + 5 := by rw [List.length_append, hlt]; simp [pcv]
    rw [List.take_append, List.take_of_length_le (by rw [hT]; exact hle), hT, List.drop_take]
  · intro j hj
    have hle2 : l.length * 5 ≤ cap * 5 := Nat.mul_le_mul_right _ hn
    have hj2 : k * 5 + d + j < cur.size := by rw [hs]; omega
    refine ⟨?_, frozen_of_row w g _ _ _ hh⟩
    rw [cell_of_row w g (k * 5 + d + j) _ _ _ hh, Array.getElem?_eq_getElem hj2]
    rfl
def awR : Rl := ⟨1, 1, [116], 0, [⟨[97], 1, false⟩, ⟨[98], 5, false⟩]⟩
def awC : List Cel := [Cel.zero, ⟨2, ⟨5, 0, 0, 0, [97, 98]⟩⟩]
theorem aw10_e : encE 2 awR awC = 0 := by decide
theorem aw10_sev : sev 4 = [4] := by rw [sev_small (by decide)]; rfl
theorem aw10_b : encB 2 awC = [1, 4, 97, 98] := by
  unfold encB encC awC
  simp [nullsOf, Cel.zero, cBytes, cLarge, texty, aw10_sev]
  decide
def awB : List Cel := [Cel.zero, ⟨2, Val.zero⟩]
theorem awBC : awB.set 1 ⟨2, ⟨5, 0, 0, 0, [97, 98]⟩⟩ = awC := rfl
theorem rcS_heap {w : World} {g : Nat} {l : List Cel} {T : TypeId} (h : w.heap[g]? = some (.cells (RcC l).toArray T (0, 0))) (hl : l.length ≤ maxLen) : RcS w (.slice (some ⟨g, 0, none⟩) l.length l.length) l := by
  refine ⟨_, l.length, rfl, Nat.le_refl _, hl, (fun h => by cases h), fun x hx j u hu => ?_⟩
  cases hx
  refine ⟨g, 0, rfl, ?_⟩
  rw [Nat.zero_add, cell_of_row w _ j _ _ _ h]
  simpa using hu
theorem aRf (w : World) : (Instr.build 36 #[(0, .int .u32 1), (1, .int .u32 1)]).run Try.prog w = .ok (.agg #[.int .u32 1, .int .u32 1]) w := by kernel_rfl
theorem aC1 (w : World) : (Instr.build 69 #[(0, .string ⟨#[97]⟩), (1, .int .u8 1)]).run Try.prog w = .ok (.agg #[.string ⟨#[97]⟩, .int .u8 1, .bool false]) w := by kernel_rfl
theorem aC2 (w : World) : (Instr.build 69 #[(0, .string ⟨#[98]⟩), (1, .int .u8 5)]).run Try.prog w = .ok (.agg #[.string ⟨#[98]⟩, .int .u8 5, .bool false]) w := by kernel_rfl
theorem aCs (w : World) : (Instr.buildSlice 37 2 #[(0, .agg #[.string ⟨#[97]⟩, .int .u8 1, .bool false]), (1, .agg #[.string ⟨#[98]⟩, .int .u8 5, .bool false])]).run Try.prog w = .ok (.slice (some ⟨w.heap.size, 0, none⟩) 2 2) (w.alloc (.cells #[.string ⟨#[97]⟩, .int .u8 1, .bool false, .string ⟨#[98]⟩, .int .u8 5, .bool false] 69)) := by kernel_rfl
theorem aRl (w : World) (b : Nat) : (Instr.build 39 #[(0, .agg #[.int .u32 1, .int .u32 1]), (1, .string ⟨#[116]⟩), (3, .slice (some ⟨b, 0, none⟩) 2 2)]).run Try.prog w = .ok (.agg #[.int .u32 1, .int .u32 1, .string ⟨#[116]⟩, .int .u8 0, .slice (some ⟨b, 0, none⟩) 2 2]) w := by kernel_rfl
theorem aZ (w : World) : (Instr.build 124 #[]).run Try.prog w = .ok (.agg #[.int .u8 0, .int .u8 0, .int .i64 0, .int .u64 0, .int .u64 0, .string ⟨#[]⟩]) w := by kernel_rfl
theorem aK (w : World) : (Instr.build 124 #[(0, .int .u8 2)]).run Try.prog w = .ok (.agg #[.int .u8 2, .int .u8 0, .int .i64 0, .int .u64 0, .int .u64 0, .string ⟨#[]⟩]) w := by kernel_rfl
theorem aRow (w : World) : (Instr.buildSlice 71 2 #[(0, .agg #[.int .u8 0, .int .u8 0, .int .i64 0, .int .u64 0, .int .u64 0, .string ⟨#[]⟩]), (1, .agg #[.int .u8 2, .int .u8 0, .int .i64 0, .int .u64 0, .int .u64 0, .string ⟨#[]⟩])]).run Try.prog w = .ok (.slice (some ⟨w.heap.size, 0, none⟩) 2 2) (w.alloc (.cells #[.int .u8 0, .int .u8 0, .int .i64 0, .int .u64 0, .int .u64 0, .string ⟨#[]⟩, .int .u8 2, .int .u8 0, .int .i64 0, .int .u64 0, .int .u64 0, .string ⟨#[]⟩] 124)) := by kernel_rfl
theorem aV (w : World) : (Instr.build 127 #[(0, .int .u8 5), (3, .string ⟨#[97, 98]⟩)]).run Try.prog w = .ok (.agg #[.int .u8 5, .int .i64 0, .complex .f64 0 0, .string ⟨#[97, 98]⟩]) w := by kernel_rfl
theorem fieldP1 (w : World) (b o : Nat) : (Instr.fieldAt 129 (.pointer (some ⟨b, o, none⟩)) 1).run Try.prog w = .ok (.pointer (some ⟨b, o + 1, none⟩)) w := by kernel_rfl
theorem infoSV : (Try.prog.info? 127).map (·.size) = some 4 := by kernel_rfl
set_option maxRecDepth 20000 in
set_option maxHeartbeats 4000000 in
theorem awake10_any (w : World) : Calls Try.prog 41 #[] w fun e w' => e = .returned (.bool true) ∧ Ext w w' := by
  obtain ⟨W, hW⟩ : ∃ W, W = ((w.alloc (.cells #[.string ⟨#[97]⟩, .int .u8 1, .bool false, .string ⟨#[98]⟩, .int .u8 5, .bool false] 69)).alloc (.cells #[.int .u32 1, .int .u32 1, .string ⟨#[116]⟩, .int .u8 0, .slice (some ⟨w.heap.size, 0, none⟩) 2 2] 39)).alloc (.cells #[.int .u8 0, .int .u8 0, .int .i64 0, .int .u64 0, .int .u64 0, .string ⟨#[]⟩, .int .u8 2, .int .u8 0, .int .i64 0, .int .u64 0, .int .u64 0, .string ⟨#[]⟩] 124) := ⟨_, rfl⟩
  have hx : Ext w W := by rw [hW]; exact (((Ch.refl _ _).alloc _).alloc _).alloc _
  have hcol : W.heap[w.heap.size]? = some (.cells (colC awR.cols).toArray 69 (0, 0)) := by rw [hW]; exact heap_ext ((Ch.refl _ _).alloc _) (heap_alloc2_old _ _ _)
  have hbox : W.heap[w.heap.size + 1]? = some (.cells (relv awR (.slice (some ⟨w.heap.size, 0, none⟩) 2 2)) 39 (0, 0)) := by rw [hW]; exact heap_ext ((Ch.refl _ _).alloc _) (heap_alloc2_new _ _ _)
  have hrow : W.heap[w.heap.size + 1 + 1]? = some (.cells (RcC awB).toArray 124 (0, 0)) := by
    rw [hW]
    have := heap_alloc_new ((w.alloc (.cells #[.string ⟨#[97]⟩, .int .u8 1, .bool false, .string ⟨#[98]⟩, .int .u8 5, .bool false] 69)).alloc (.cells #[.int .u32 1, .int .u32 1, .string ⟨#[116]⟩, .int .u8 0, .slice (some ⟨w.heap.size, 0, none⟩) 2 2] 39)) (.cells #[.int .u8 0, .int .u8 0, .int .i64 0, .int .u64 0, .int .u64 0, .string ⟨#[]⟩, .int .u8 2, .int .u8 0, .int .i64 0, .int .u64 0, .int .u64 0, .string ⟨#[]⟩] 124)
    rw [show ((w.alloc (.cells #[.string ⟨#[97]⟩, .int .u8 1, .bool false, .string ⟨#[98]⟩, .int .u8 5, .bool false] 69)).alloc (.cells #[.int .u32 1, .int .u32 1, .string ⟨#[116]⟩, .int .u8 0, .slice (some ⟨w.heap.size, 0, none⟩) 2 2] 39)).heap.size = w.heap.size + 1 + 1 by simp] at this
    exact this
  have HCOL : Hid (ColS W (.slice (some ⟨w.heap.size, 0, none⟩) 2 2) awR.cols) := Lib.hid (colS_heap (l := awR.cols) hcol (by decide))
  have HBOX := Lib.hid hbox; have HX := Lib.hid hx; have HW := Lib.hid hW
  have HOW := Lib.hid (own10_any (.slice (some ⟨w.heap.size + 1 + 1, 0, none⟩) 2 2) awB W (rcS_heap (l := awB) hrow (by decide)) (by decide))
  have b1 := aRf; have b2 := aC1; have b3 := aC2; have b4 := aCs; have b5 := aRl; have b6 := aZ; have b7 := aK; have b8 := aRow; have b9 := aV; have f1 := fieldP1
  clear hW hx hcol hbox hrow
  go_enter Try.func41, Try.ntmps41
  go_wp2_with fail
  rw [← HW.out]
  refine HOW.out.mono ?_
  rintro e w2 ⟨v, rfl, hx2, ho2⟩
  obtain ⟨g, cap, rfl, hbg, hos, hth⟩ := own_setPrD (k := 1) 1 (by decide) ⟨2, ⟨5, 0, 0, 0, [97, 98]⟩⟩ ho2 (by decide) rfl
  rw [awBC] at hos
  have HX2 := Lib.hid (HX.out.trans hx2)
  obtain ⟨W5, hW5⟩ : ∃ W5, W5 = w2.setCells g (1 * 5 + 1) ((pcv ⟨2, ⟨5, 0, 0, 0, [97, 98]⟩⟩).toList.drop 1) := ⟨_, rfl⟩
  have HX5 : Hid (Ext w W5) := Lib.hid (by rw [hW5]; exact Ch.setCells (.inr (Nat.le_trans HX.out.size hbg)) _ _ _ HX2.out)
  have HX25 : Hid (Ext W W5) := Lib.hid (by rw [hW5]; exact Ch.setCells (.inr hbg) _ _ _ hx2)
  rw [← hW5] at hos
  have HO5 := Lib.hid hos.s; have HTH : Hid (w2.there g 6 4) := Lib.hid hth
  have HW5 : Hid (W5 = w2.setCells g 6 (#[.int .u8 5, .int .i64 0, .complex .f64 0 0, .string ⟨#[97, 98]⟩] : Array Value).toList) := Lib.hid (by rw [hW5]; rfl)
  have hb5 := heap_ext HX25.out HBOX.out
  have d0 : W5.cell? ⟨w.heap.size + 1, 0, none⟩ = some (.int .u32 1) := by rw [cell_of_row _ _ _ _ _ _ hb5]; rfl
  have d1 : W5.cell? ⟨w.heap.size + 1, 1, none⟩ = some (.int .u32 1) := by rw [cell_of_row _ _ _ _ _ _ hb5]; rfl
  have d2 : W5.cell? ⟨w.heap.size + 1, 2, none⟩ = some (.string ⟨#[116]⟩) := by rw [cell_of_row _ _ _ _ _ _ hb5]; rfl
  have d3 : W5.cell? ⟨w.heap.size + 1, 3, none⟩ = some (.int .u8 0) := by rw [cell_of_row _ _ _ _ _ _ hb5]; rfl
  have d4 : W5.cell? ⟨w.heap.size + 1, 4, none⟩ = some (.slice (some ⟨w.heap.size, 0, none⟩) 2 2) := by rw [cell_of_row _ _ _ _ _ _ hb5]; rfl
  have HEN : Hid (Calls Try.prog 33 #[.slice (some ⟨g, 0, none⟩) 2 cap, .agg #[.int .u32 1, .int .u32 1, .string ⟨#[116]⟩, .int .u8 0, .slice (some ⟨w.heap.size, 0, none⟩) 2 2], .int .u8 2] W5 fun e w' => Ext W5 w' ∧ ∃ s, e = .returned (.tuple #[s, .int .i64 0]) ∧ Rd w' s [1, 4, 97, 98]) := Lib.hid ((rowEncode_any awR (.slice (some ⟨w.heap.size, 0, none⟩) 2 2) (.slice (some ⟨g, 0, none⟩) 2 cap) awC 2 W5 (ColS.ext HCOL.out HX25.out) (by simp [Rl.fits, awR]) HO5.out (by intro c hc; simp [awC] at hc; rcases hc with rfl | rfl <;> simp [Cel.ok, Val.ok, Cel.zero, Val.zero])).mono (by
    rintro e w' ⟨k1, s, rfl, k2⟩
    rw [aw10_e, if_pos rfl, aw10_b] at k2
    exact ⟨k1, s, by rw [aw10_e]; rfl, k2⟩))
  obtain ⟨ci, chi, _, chs, _⟩ := info_parts infoPrZ
  have hi1 : (Instr.indexAt 74 (.slice (some ⟨g, 0, none⟩) 2 cap) (.int .i64 1)).run Try.prog w2 = .ok (.pointer (some ⟨g, 0 + 5, none⟩)) w2 := run_indexSl w2 Try.underlying74 chi chs g 0 2 cap 1 (by decide)
  have hlen : (.slice (some ⟨g, 0, none⟩) awB.length cap : Value) = .slice (some ⟨g, 0, none⟩) 2 cap := rfl
  rw [hlen]
  clear hx2 ho2 hbg hos hth hW5 hb5 chi chs hlen b1 b2 b3 b4 b5 b6 b7 b8 HOW
  go_wp2_with (refine wpList_store_mid rfl 127 (.tmp 17) (.tmp 15) rfl g 6 #[.int .u8 5, .int .i64 0, .complex .f64 0 0, .string ⟨#[97, 98]⟩] rfl rfl HTH.out infoSV (by simp [Value.oneCell']) ?_; rw [← HW5.out])
  refine HEN.out.mono ?_
  rintro e w6 ⟨hx6, s, rfl, hs⟩
  have HX6 := Lib.hid (HX5.out.trans hx6)
  have hst := run_toString (P := Try.prog) hs (src := 76) (dst := 9) Try.underlying76 Try.underlying5 Try.underlying9
  unfold strV at hst
  obtain ⟨so, sc, rfl⟩ := hs.shape
  have z1 : ((⟨#[1, 4, 97, 98]⟩ : ByteArray).toList == (⟨#[1, 4, 97, 98]⟩ : ByteArray).toList) = true := by rw [beq_self_eq_true]
  simp only [List.length_cons, List.length_nil, Nat.zero_add, Nat.reduceAdd] at hst
  clear hx6 hs d0 d1 d2 d3 d4 hi1 b9 f1 HEN
  go_wp2
  go_ret
  exact ⟨rfl, HX6.out⟩
end Go.Proofs.Ytegclfpmgilnpaa
