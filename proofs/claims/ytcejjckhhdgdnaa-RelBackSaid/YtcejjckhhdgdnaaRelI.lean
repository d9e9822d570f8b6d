/-
  Relations: the walk through Keys; hasKey.
-/
import Derived.Test.YtcejjckhhdgdnaaRelF
import Derived.RangeFuncNested
import Derived.RangeFuncBound
import Derived.RangeFuncCalls
import Derived.RangeFuncLeaves
import Derived.Shelf.Abstract
import Derived.Shelf.RegionOpen
import Derived.WalkKit
import Derived.OwnWalkIn
import Derived.TacticsInMore
import Derived.LoopNIn
import Derived.LoopIn
import Derived.RangeFuncBox
namespace Go.Proofs.Ytcejjckhhdgdnaa
open Go.RowKit Go.Lac Go.Shelf
attribute [local go_sem] Oper.semAt_some

/-- The columns of the key, with their places. -/
def kd : Nat → List Col → List (Nat × Col)
  | _, [] => []
  | k, c :: l => if c.key = true then (k, c) :: kd (k + 1) l else kd (k + 1) l
theorem kd_append : ∀ (a b : List Col) (k : Nat), kd k (a ++ b) = kd k a ++ kd (k + a.length) b
  | [], b, k => by simp [kd]
  | c :: a, b, k => by
    have := kd_append a b (k + 1)
    rw [List.cons_append, kd, kd, this, List.length_cons, show k + 1 + a.length = k + (a.length + 1) by omega]
    split <;> simp
theorem kd_take_succ (l : List Col) (j : Nat) (hj : j < l.length) : kd 0 (l.take (j + 1)) = kd 0 (l.take j) ++ (if l[j].key = true then [(j, l[j])] else []) := by
  rw [List.take_succ_eq_append_getElem hj, kd_append]
  congr 1
  simp only [List.length_take, Nat.zero_add, kd]
  rw [show min j l.length = j by omega]
theorem kd_length : ∀ (l : List Col) (k : Nat), (kd k l).length ≤ l.length
  | [], _ => Nat.le_refl _
  | c :: l, k => by
    have := kd_length l (k + 1)
    rw [kd]
    split <;> simp <;> omega
theorem kd_prefix (l : List Col) (j : Nat) : kd 0 (l.take j) <+: kd 0 l := by
  have := kd_append (l.take j) (l.drop j) 0
  rw [List.take_append_drop] at this
  exact ⟨_, this.symm⟩
theorem kd_mem {c : Col} : ∀ {l : List Col} (k : Nat), c ∈ l → c.key = true → ∃ j, (j, c) ∈ kd k l
  | x :: l, k, h, hk => by
    rw [kd]
    rcases List.mem_cons.1 h with rfl | h
    · exact ⟨k, by rw [if_pos hk]; exact List.mem_cons_self⟩
    · obtain ⟨j, hj⟩ := kd_mem (k + 1) h hk
      refine ⟨j, ?_⟩
      split
      · exact List.mem_cons_of_mem _ hj
      · exact hj
theorem mem_kd {x : Nat × Col} : ∀ {l : List Col} (k : Nat), x ∈ kd k l → x.2 ∈ l ∧ x.2.key = true
  | c :: l, k, h => by
    rw [kd] at h
    split at h
    · rename_i hc
      rcases List.mem_cons.1 h with rfl | h
      · exact ⟨List.mem_cons_self, hc⟩
      · have := mem_kd _ h; exact ⟨List.mem_cons_of_mem _ this.1, this.2⟩
    · have := mem_kd _ h; exact ⟨List.mem_cons_of_mem _ this.1, this.2⟩

def encK (x : Nat × Col) : Array Value := #[.int .i64 (x.1 : Int), pcol x.2]
def KeyG (g : Nat) : Array Value := #[.pointer (some ⟨g, 0, none⟩)]

set_option maxRecDepth 100000 in
set_option maxHeartbeats 2000000 in
/-- The walk itself: for every loop body that changes but what is in N. -/
theorem keysWalk_in (F : Fence) (n : Nat) (hF : F.fn 57) (hro : F.round = none) (hn : 1 ≤ n) (l g : Nat) (v : Value) (cs : List Col) (N : Nat → Prop) (J Jx : List (Nat × Col) → World → Prop) (W : World)
    (hg : W.heap[g]? = some (.cells #[v] 30 (0, 0))) (hS : ∀ W', Ch N W W' → ColS W' v cs) (hNb : ∀ k, W.heap.size ≤ k → N k)
    (hJ : AbidesFrom W.heap.size J)
    (hY : ∀ pre x W1, J pre W1 → pre.length < cs.length → YieldAt F (n - 1) Try.prog l (encK x) W1 fun e W' =>
      (e = .returned (.bool true) ∧ J (pre ++ [x]) W' ∧ Ch N W1 W') ∨ (e = .returned (.bool false) ∧ Jx (pre ++ [x]) W'))
    (h0 : J [] W) :
    CallsIn F n Try.prog 57 #[.func (.yield l) #[] #[], .pointer (some ⟨g, 0, none⟩)] W fun e W' => (∃ v, e = .returned v) ∧
      ((∃ ys, ys = kd 0 cs ∧ J ys W') ∨ (∃ pre, pre <+: kd 0 cs ∧ Jx pre W')) := by
  obtain ⟨ao, cap, rfl, hb'⟩ := hS W (Ch.refl _ _)
  have hcl : W.cell? ⟨g, 0, none⟩ = some (.slice ao cs.length cap) := by rw [cell_of_row _ _ _ _ _ _ hg]; rfl
  obtain ⟨ci, chi, _, chs, _⟩ := info_parts infoCoZ
  have CHI := Lib.hid chi; have CHS := Lib.hid chs
  have HS := Lib.hid hS; have HJ := Lib.hid hJ; have HY := Lib.hid hY; have H0 := Lib.hid h0; have HNB := Lib.hid hNb
  obtain ⟨m, hm⟩ : ∃ m, m = cs.length := ⟨_, rfl⟩
  have HM := Lib.hid hm
  have hm63 : m ≤ 9223372036854775807 := by have := hb'.1; have h2 := hb'.2.1; unfold maxLen at h2; omega
  rw [← hm] at hcl
  clear hg hS hJ hY h0 hb' chi chs hNb
  refine callsIn_of_wp Try.func57 rfl hF ?_ hro
  simp only [Try.ntmps57, List.size_toArray, List.length_cons, List.length_nil, Nat.reduceAdd, Nat.reduceSub, Array.replicate_succ, Array.replicate_zero, List.push_toArray, List.append_toArray, List.nil_append, List.cons_append]
  gi_wp2
  gi_loopw [7] (fun ix wr => ∃ k : Nat, k ≤ m ∧ ix = .int .i64 k ∧ Hid (J (kd 0 (cs.take k)) wr) ∧ Hid (Ch N W wr)) (fun ix _ => m - (intOf ix).toNat)
  case atStart => exact ⟨0, Nat.zero_le _, rfl, Lib.hid (by simpa [kd] using H0.out), Lib.hid (Ch.refl _ _)⟩
  case round =>
    obtain ⟨k, hk, rfl, HJs, HX⟩ := hrel
    by_cases hlt : k < m
    · have hkl : k < cs.length := by have := HM.out; omega
      have hcs := HS.out wr HX.out
      obtain ⟨b, o, rfl, hra⟩ := colS_at hcs hkl
      have hidx := run_indexSl wr Try.underlying30 CHI.out CHS.out b o m cap k hlt
      have c0 : wr.cell? ⟨b, o + k * 3, none⟩ = some (.string ⟨cs[k].name.toArray⟩) := by have := hra 0 _ rfl; simpa [strV] using this
      have c1 : wr.cell? ⟨b, o + k * 3 + 1, none⟩ = some (.int .u8 (cs[k].ty : Nat)) := hra 1 _ rfl
      have c2 : wr.cell? ⟨b, o + k * 3 + 2, none⟩ = some (.bool cs[k].key) := hra 2 _ rfl
      obtain ⟨x, hx⟩ : ∃ x, x = cs[k] := ⟨_, rfl⟩
      have hT := kd_take_succ cs k hkl
      rw [← hx] at c0 c1 c2 hT
      have HT := Lib.hid hT
      have hlen : (kd 0 (cs.take k)).length < cs.length := by have := kd_length (cs.take k) 0; rw [List.length_take] at this; omega
      have HL := Lib.hid hlen
      have hW1 : AbidesFrom W.heap.size J := HJ.out
      obtain ⟨W1, hW1⟩ : ∃ W1, W1 = wr.alloc (.cells (colv x) 49) := ⟨_, rfl⟩
      have HX1 : Hid (Ch N W W1) := Lib.hid (by rw [hW1]; exact HX.out.alloc _)
      have HJ1 : Hid (J (kd 0 (cs.take k)) W1) := Lib.hid (HJ.out _ _ _ none HJs.out (by rw [hW1]; exact World.grownBy_alloc _ _ _) (fun r e => by cases e))
      have HW1 := Lib.hid hW1
      have hrow := heap_alloc_new wr (.cells (colv x) 49)
      rw [← hW1] at hrow
      have HROW := Lib.hid hrow
      clear hra hT hlen hcs hx hW1 hrow
      cases hkey : x.key with
      | true =>
        rw [hkey] at c2
        have HN : Hid (kd 0 (cs.take (k + 1)) = kd 0 (cs.take k) ++ [(k, x)]) := Lib.hid (by rw [HT.out, if_pos hkey])
        obtain ⟨fn, tmps, assign, body, hy, hR⟩ := HY.out _ (k, x) W1 HJ1.out HL.out
        rw [HW1.out] at hy hR
        unfold encK pcol colv strV at hy
        unfold colv strV at hR
        dsimp only at hy hR
        rw [hkey] at hy hR
        have hxx := HX1.out
        rw [HW1.out] at hxx
        unfold colv strV at hxx
        rw [hkey] at hxx
        have HXX := Lib.hid hxx; clear hxx
        gi_wp2
        refine hR.mono ?_
        rintro e W3 (⟨rfl, hJ3, hk3⟩ | ⟨rfl, hJx3⟩)
        · have HJ3 := Lib.hid hJ3; have HK3 := Lib.hid (HXX.out.trans hk3)
          clear hJ3 hk3 hy hR
          gi_wp2
          go_roundw
          case rel => exact ⟨k + 1, by omega, by simp, Lib.hid (by rw [HN.out]; exact HJ3.out), HK3⟩
          case measure => simp [intOf]; omega
        · have HJ3 := Lib.hid hJx3
          clear hJx3 hy hR
          gi_wp2
          refine bodyPost_ret (results_none rfl _ _ _) rfl ?_
          exact ⟨⟨_, rfl⟩, .inr ⟨_, by have := kd_prefix cs (k + 1); rwa [HN.out] at this, HJ3.out⟩⟩
      | false =>
        rw [hkey] at c2
        have HN : Hid (kd 0 (cs.take (k + 1)) = kd 0 (cs.take k)) := Lib.hid (by rw [HT.out, if_neg (by rw [hkey]; decide), List.append_nil])
        gi_wp2
        refine ⟨fun _ h => (by cases h), ?_⟩
        gi_wp2
        go_roundw
        case rel => exact ⟨k + 1, by omega, by simp, Lib.hid (by have := HJ1.out; rw [HW1.out] at this; unfold colv strV at this; rw [hkey] at this; rw [HN.out]; exact this), Lib.hid (by have := HX1.out; rw [HW1.out] at this; unfold colv strV at this; rw [hkey] at this; exact this)⟩
        case measure => simp [intOf]; omega
    · obtain rfl : k = m := by omega
      gi_wp2
      go_end0
      exact ⟨⟨_, rfl⟩, .inl ⟨_, rfl, by have := HJs.out; rwa [HM.out, List.take_length] at this⟩⟩

theorem keys_stops (F : Fence) (n : Nat) (hF : F.fn 57) (hro : F.round = none) (hn : 1 ≤ n) (g : Nat) (v : Value) (cs : List Col) (N : Nat → Prop) (w : World)
    (hg : w.heap[g]? = some (.cells #[v] 30 (0, 0))) (hgN : ¬ N g) (hS : ∀ W', Ch N w W' → ColS W' v cs) (hNb : ∀ k, w.heap.size ≤ k → N k) :
    SeqStopsK F n Try.prog 57 #[.pointer (some ⟨g, 0, none⟩)] encK (Ch N) (fun ys => ys = kd 0 cs) (fun pre => pre <+: kd 0 cs) cs.length w := fun l J Jx W hW hJ hJx hY h0 => by
  have hx : Ext w W := Ext.ofBelow hW
  exact keysWalk_in F n hF hro hn l g v cs N J Jx W (heap_of_ext hx hg) (fun W' h => hS W' (hx.ch.trans h)) (fun k hk => hNb k (Nat.le_trans hx.size hk)) hJ hY h0

theorem chK_b {N : Nat → Prop} {w : World} (hN : ∀ k, w.heap.size ≤ k → N k) (W : World) (l : Nat) (o o' : Obj) (hl : w.heap.size ≤ l) (h : W.heap[l]? = some o) (_ : o.isCells = false) (_ : o.isWalk = false) : Ch N W (W.putObj l o') :=
  (Ch.refl N W).grown (grownBy_putObj' W l o') (fun k e => by cases e; exact .inl (hN _ hl))

set_option maxRecDepth 100000 in
set_option maxHeartbeats 2000000 in
theorem hasKey_any (r : Rl) (cv : Value) (w : World) (hb : ColS w cv r.cols) (hl : r.cols.length ≤ 1000000) :
    Calls Try.prog 52 #[.agg (relv r cv)] w fun e w' => e = .returned (.bool (decide (∃ c ∈ r.cols, c.key = true))) ∧ Ext w w' := by
  refine (callsIn_wide (n := 3)).1 ?_
  have hrow := heap_alloc2_old w (.cells (relv r cv) 32) (.cells #[.bool false] 4)
  have hres := heap_alloc2_new w (.cells (relv r cv) 32) (.cells #[.bool false] 4)
  obtain ⟨W0, hW0⟩ : ∃ W0, W0 = (w.alloc (.cells (relv r cv) 32)).alloc (.cells #[.bool false] 4) := ⟨_, rfl⟩
  have hx0 : Ext w W0 := by rw [hW0]; exact ((Ch.refl _ _).alloc _).alloc _
  rw [← hW0] at hrow hres
  have HK := Lib.hid (keys_any r cv W0 (ColS.ext hb hx0) hl)
  have HX0 := Lib.hid hx0; have HW0 := Lib.hid hW0; have HRES := Lib.hid hres
  obtain ⟨ao, cap, rfl, _⟩ := id hb
  refine callsIn_of_wp_marks Try.func52 rfl trivial ?_ rfl
  simp only [Try.ntmps52, List.size_toArray, List.length_cons, List.length_nil, Nat.reduceAdd, Nat.reduceSub, Array.replicate_succ, Array.replicate_zero, List.push_toArray, List.append_toArray, List.nil_append, List.cons_append]
  clear hrow hres hW0 hx0 hb
  unfold relv strV at *
  generalize (⟨r.name.toArray⟩ : ByteArray) = A1 at *
  generalize r.oid = o1 at *
  generalize r.ver = o2 at *
  generalize r.ident = o3 at *
  gi_wp2_with fail
  refine ⟨trivial, ?_⟩
  rw [← HW0.out]
  refine (callsIn_wide.2 HK.out).mono ?_
  rintro e w1 ⟨g, v, rfl, hx1, hg, hr, hc⟩
  have hB1 : Below w.heap.size w w1 := Ext.below (HX0.out.trans hx1)
  have hres : w1.cell? ⟨w.heap.size + 1, 0, none⟩ = some (.bool false) := by rw [cell_of_row w1 (w.heap.size + 1) 0 _ _ _ (heap_of_ext hx1 HRES.out)]; rfl
  have hfz := frozen_of_row w1 (w.heap.size + 1) 0 _ _ (heap_of_ext hx1 HRES.out)
  have hsz : w.heap.size + 2 ≤ w1.heap.size := by
    have := hx1.size
    have h2 := (Array.getElem?_eq_some_iff.1 HRES.out).1
    omega
  gi_wp2_with fail
  refine wpIn_rangeFunc_ownF rfl (by decide) (gf := 57) (lb := #[.pointer (some ⟨g, 0, none⟩)]) rfl trivial (enters_of Try.func57 (by kernel_rfl) rfl)
    (keys_stops Fence.wide (3 - 1) trivial rfl (by decide) g v r.cols (fun k => w1.heap.size ≤ k) w1 hr (by have := (Array.getElem?_eq_some_iff.1 hr).1; omega) (fun W' h => ColS.ext hc (h.mono fun k hk h => absurd h (by omega))) (fun k hk => hk)) (fun h k => h.trans k) (chK_b (fun k hk => hk)) (Below.refl _ _) (fun _ => rfl)
    (fun pre W => (pre = [] ∧ W.cell? ⟨w.heap.size + 1, 0, none⟩ = some (.bool false) ∧ W.frozen? ⟨w.heap.size + 1, 0, none⟩ = false) ∧ Below w.heap.size w W)
    (fun c pre W => (c = .ret ∧ pre ≠ [] ∧ W.cell? ⟨w.heap.size + 1, 0, none⟩ = some (.bool true)) ∧ Below w.heap.size w W)
    (OwnFrom.and (Own.from (fun s A B row hs hg hr => ⟨hs.1, cell_kept hs.2.1 hg hr, (frozen_kept hs.2.1 hg hr).trans hs.2.2⟩) _) (ownFrom_below (Nat.le_refl _) (by omega)))
    (fun c => OwnFrom.and (Own.from (fun s A B row hs hg hr => ⟨hs.1, hs.2.1, cell_kept hs.2.2 hg hr⟩) _) (ownFrom_below (Nat.le_refl _) (by omega)))
    ⟨⟨rfl, hres, hfz⟩, hB1⟩
    (fun x => { tmps := #[.agg #[.int .u32 (o1 : Nat), .int .u32 (o2 : Nat), .string A1, .int .u8 (o3 : Nat), .slice ao r.cols.length cap], .pointer (some ⟨w.heap.size, 0, none⟩), .pointer (some ⟨w.heap.size + 1, 0, none⟩), .agg #[.int .u32 (o1 : Nat), .int .u32 (o2 : Nat), .string A1, .int .u8 (o3 : Nat), .slice ao r.cols.length cap], .func (.func 57) #[] #[.pointer (some ⟨g, 0, none⟩)], .int .i64 (x.1 : Int), pcol x.2], defers := [] }) ?assign ?body ?done ?stop
  case assign =>
    intro l x W K hK
    unfold encK
    gi_wp2
    simpa using hK
  case body =>
    rintro l pre x W ⟨⟨hp, hc, hf⟩, hB⟩ _
    gi_wp2
    exact ⟨KeepsOthers.setCell _ _ _, ⟨rfl, by simp, World.cell?_setCell_same' _ _ _ (by rw [hc]; rfl)⟩, hB.setCell (p := ⟨w.heap.size + 1, 0, none⟩) (by simp) _⟩
  case done =>
    rintro D ys W hD rfl ⟨⟨hp, hc, hf⟩, hB⟩ hK
    have hno : decide (∃ c ∈ r.cols, c.key = true) = false := decide_eq_false fun ⟨c, h1, h2⟩ => by
      obtain ⟨j, hj⟩ := kd_mem 0 h1 h2
      rw [hp] at hj; cases hj
    gi_wp2
    have hK' := (KeepsOthers.setCell W ⟨w.heap.size + 1, 0, none⟩ (.bool false)).same D _ hK rfl
    refine ⟨by simp, .inl ⟨_, _, rfl, run_takeDeferred hK', ?_⟩⟩
    have hc5 := cell_kept (World.cell?_setCell_same' W ⟨w.heap.size + 1, 0, none⟩ (.bool false) (by rw [hc]; rfl)) (grownBy_putObj' _ D (.deferred none)) (fun r e => by cases e; exact ⟨_, hK', rfl⟩)
    refine ⟨.bool false, ?_, by rw [hno], ?_⟩
    · simp [results, Try.f52, go_sem, hc5]
    · exact Ext.ofBelow ((hB.setCell (p := ⟨w.heap.size + 1, 0, none⟩) (by simp) _).trans (belowK_b (w := w) (Nat.le_refl _) _ D _ _ (by omega) hK' rfl rfl))
  case stop =>
    rintro D c pre W hD hSp ⟨⟨rfl, hne, hc⟩, hB⟩ hK
    have hyes : decide (∃ c ∈ r.cols, c.key = true) = true := decide_eq_true (by
      obtain ⟨t, ht⟩ := hSp
      match pre, hne with
      | x :: pre, _ =>
        have := mem_kd (l := r.cols) (x := x) 0 (by rw [← ht]; simp)
        exact ⟨_, this⟩)
    gi_wp2
    refine ⟨by simp, .inl ⟨_, _, rfl, run_takeDeferred hK, ?_⟩⟩
    have hc5 := cell_kept hc (grownBy_putObj' _ D (.deferred none)) (fun r e => by cases e; exact ⟨_, hK, rfl⟩)
    refine ⟨.bool true, ?_, by rw [hyes], ?_⟩
    · simp [results, Try.f52, go_sem, hc5]
    · exact Ext.ofBelow (hB.trans (belowK_b (w := w) (Nat.le_refl _) _ D _ _ (by omega) hK rfl rfl))
end Go.Proofs.Ytcejjckhhdgdnaa
