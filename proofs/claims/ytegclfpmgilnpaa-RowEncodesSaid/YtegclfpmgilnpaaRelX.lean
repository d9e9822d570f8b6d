/-
  Relations: the walk through the columns of the key, its body told what comes; their places in order.
-/
import Derived.Test.YtegclfpmgilnpaaGRelA
import Derived.Test.YtegclfpmgilnpaaGLib
import Derived.RangeFuncNested
import Derived.RangeFuncLeaves
import Derived.Shelf.Abstract
import Derived.Shelf.RegionOpen
import Derived.WalkKit
import Derived.OwnWalkIn
import Derived.TacticsInMore
import Derived.LoopNIn
import Derived.LoopIn
import Derived.RangeFuncBox
namespace Go.Proofs.Ytegclfpmgilnpaa
open Go.RowKit Go.Lac Go.Shelf
attribute [local go_sem] Oper.semAt_some

theorem mem_kd_pos : ∀ (l : List Col) (k : Nat) {x : Nat × Col}, x ∈ kd k l → k ≤ x.1 ∧ x.1 < k + l.length ∧ l[x.1 - k]? = some x.2 ∧ x.2.key = true
  | c :: l, k, x, h => by
    rw [kd] at h
    have hr : ∀ h : x ∈ kd (k + 1) l, k ≤ x.1 ∧ x.1 < k + (c :: l).length ∧ (c :: l)[x.1 - k]? = some x.2 ∧ x.2.key = true := fun h => by
      obtain ⟨h1, h2, h3, h4⟩ := mem_kd_pos l (k + 1) h
      refine ⟨by omega, by rw [List.length_cons]; omega, ?_, h4⟩
      rw [show x.1 - k = (x.1 - (k + 1)) + 1 by omega, List.getElem?_cons_succ]
      exact h3
    split at h
    · rename_i hc
      rcases List.mem_cons.1 h with rfl | h
      · exact ⟨Nat.le_refl _, by simp, by simp, hc⟩
      · exact hr h
    · exact hr h
theorem kd_has : ∀ (l : List Col) (k j : Nat) {c : Col}, l[j]? = some c → c.key = true → (k + j, c) ∈ kd k l
  | x :: l, k, j, c, h, hk => by
    rw [kd]
    cases j with
    | zero =>
      simp only [List.getElem?_cons_zero, Option.some.injEq] at h
      subst h
      rw [if_pos hk]
      exact List.mem_cons_self
    | succ j =>
      rw [List.getElem?_cons_succ] at h
      have := kd_has l (k + 1) j h hk
      rw [show k + (j + 1) = k + 1 + j by omega]
      split
      · exact List.mem_cons_of_mem _ this
      · exact this
theorem kd_pairwise : ∀ (l : List Col) (k : Nat), (kd k l).Pairwise fun a b => a.1 < b.1
  | [], k => by simp [kd]
  | c :: l, k => by
    rw [kd]
    split
    · exact List.pairwise_cons.2 ⟨fun x hx => by have := (mem_kd_pos l (k + 1) hx).1; simp only; omega, kd_pairwise l (k + 1)⟩
    · exact kd_pairwise l (k + 1)
/-- The place of the last of these; -1: of none. -/
def lastOf (p : List (Nat × Col)) : Int := match p.getLast? with | some x => (x.1 : Int) | none => -1
theorem lastOf_nil : lastOf [] = -1 := rfl
theorem lastOf_snoc (p : List (Nat × Col)) (x : Nat × Col) : lastOf (p ++ [x]) = x.1 := by simp [lastOf]
theorem lastOf_ge {p : List (Nat × Col)} (h : p.Pairwise fun a b => a.1 < b.1) {x : Nat × Col} (hx : x ∈ p) : (x.1 : Int) ≤ lastOf p := by
  obtain rfl | ⟨q, y, rfl⟩ := List.eq_nil_or_concat p
  · cases hx
  · rw [List.concat_eq_append] at h hx ⊢
    rw [lastOf_snoc]
    rcases List.mem_append.1 hx with h1 | h1
    · have := (List.pairwise_append.1 h).2.2 x h1 y (by simp)
      omega
    · simp only [List.mem_cons, List.not_mem_nil, or_false] at h1
      subst h1
      exact Int.le_refl _
theorem lastOf_lt {p : List (Nat × Col)} {l : List Col} (h : ∀ x ∈ p, x ∈ kd 0 l) : lastOf p < l.length ∨ lastOf p = -1 := by
  obtain rfl | ⟨q, y, rfl⟩ := List.eq_nil_or_concat p
  · exact .inr rfl
  · rw [List.concat_eq_append] at h ⊢
    rw [lastOf_snoc]
    have := (mem_kd_pos l 0 (h y (by simp))).2.1
    left; omega
theorem lastOf_min (p : List (Nat × Col)) : -1 ≤ lastOf p := by
  unfold lastOf
  split <;> omega
/-- What comes next lies behind the last one. -/
theorem next_gt {l : List Col} {p : List (Nat × Col)} {x : Nat × Col} (h : p ++ [x] <+: kd 0 l) : lastOf p < x.1 := by
  have h1 := (kd_pairwise l 0).sublist h.sublist
  obtain rfl | ⟨q, y, rfl⟩ := List.eq_nil_or_concat p
  · rw [lastOf_nil]; omega
  · rw [List.concat_eq_append] at h1 ⊢
    rw [lastOf_snoc]
    have := (List.pairwise_append.1 h1).2.2 y (by simp) x (by simp)
    omega
/-- Between the last one and what comes next none is of the key. -/
theorem next_none {l : List Col} {p : List (Nat × Col)} {x : Nat × Col} (h : p ++ [x] <+: kd 0 l) {j : Nat} {c : Col} (h1 : lastOf p < j) (h2 : j < x.1) (hc : l[j]? = some c) : c.key = false := by
  cases hk : c.key with
  | false => rfl
  | true =>
    exfalso
    have hm := kd_has l 0 j hc hk
    rw [Nat.zero_add] at hm
    obtain ⟨t, ht⟩ := h
    have hp := kd_pairwise l 0
    rw [← ht] at hm hp
    rcases List.mem_append.1 hm with h3 | h3
    · rcases List.mem_append.1 h3 with h4 | h4
      · have := lastOf_ge (List.pairwise_append.1 (List.pairwise_append.1 hp).1).1 h4
        simp only at this
        omega
      · simp only [List.mem_cons, List.not_mem_nil, or_false] at h4
        rw [← h4] at h2
        simp only at h2
        omega
    · have := (List.pairwise_append.1 hp).2.2 x (by simp) _ h3
      simp only at this
      omega
theorem behind_none {l : List Col} {j : Nat} {c : Col} (h1 : lastOf (kd 0 l) < j) (hc : l[j]? = some c) : c.key = false := by
  cases hk : c.key with
  | false => rfl
  | true =>
    exfalso
    have hm := kd_has l 0 j hc hk
    rw [Nat.zero_add] at hm
    have := lastOf_ge (kd_pairwise l 0) hm
    simp only at this
    omega

set_option maxRecDepth 100000 in
set_option maxHeartbeats 2000000 in
/-- The walk itself: for every loop body that changes but what is in N. -/
theorem keysWalk_mem (F : Fence) (n : Nat) (hF : F.fn 128) (hro : F.round = none) (hn : 1 ≤ n) (l g : Nat) (v : Value) (cs : List Col) (N : Nat → Prop) (J Jx : List (Nat × Col) → World → Prop) (W : World)
    (hg : W.heap[g]? = some (.cells #[v] 37 (0, 0))) (hS : ∀ W', Ch N W W' → ColS W' v cs) (hNb : ∀ k, W.heap.size ≤ k → N k)
    (hJ : AbidesFrom W.heap.size J)
    (hY : ∀ pre x W1, pre ++ [x] <+: kd 0 cs → J pre W1 → pre.length < cs.length → YieldAt F (n - 1) Try.prog l (encK x) W1 fun e W' =>
      (e = .returned (.bool true) ∧ J (pre ++ [x]) W' ∧ Ch N W1 W') ∨ (e = .returned (.bool false) ∧ Jx (pre ++ [x]) W'))
    (h0 : J [] W) :
    CallsIn F n Try.prog 128 #[.func (.yield l) #[] #[], .pointer (some ⟨g, 0, none⟩)] W fun e W' => (∃ v, e = .returned v) ∧
      ((∃ ys, ys = kd 0 cs ∧ J ys W') ∨ (∃ pre, pre <+: kd 0 cs ∧ Jx pre W')) := by
  obtain ⟨ao, cap, rfl, hb'⟩ := hS W (Ch.refl _ _)
  have hcl : W.cell? ⟨g, 0, none⟩ = some (.slice ao cs.length cap) := by rw [cell_of_row _ _ _ _ _ _ hg]; rfl
  obtain ⟨ci, chi, _, chs, _⟩ := info_parts infoCoZ
  have CHI := Lib.hid chi; have CHS := Lib.hid chs
  have HS := Lib.hid hS; have HJ := Lib.hid hJ; have HY := Lib.hid hY; have H0 := Lib.hid h0; have HNB := Lib.hid hNb
  obtain ⟨m, hm⟩ : ∃ m, m = cs.length := ⟨_, rfl⟩
  have HM := Lib.hid hm
  have hm63 : m ≤ 9223372036854775807 := by have := hb'.1; have h2 := hb'.2.1; unfold maxLen at h2; omega
  rw [← hm] at hcl
  clear hg hS hJ hY h0 hb' chi chs hNb
  refine callsIn_of_wp Try.func128 rfl hF ?_ hro
  simp only [Try.ntmps128, List.size_toArray, List.length_cons, List.length_nil, Nat.reduceAdd, Nat.reduceSub, Array.replicate_succ, Array.replicate_zero, List.push_toArray, List.append_toArray, List.nil_append, List.cons_append]
  gi_wp2
  gi_loopw [7] (fun ix wr => ∃ k : Nat, k ≤ m ∧ ix = .int .i64 k ∧ Hid (J (kd 0 (cs.take k)) wr) ∧ Hid (Ch N W wr)) (fun ix _ => m - (intOf ix).toNat)
  case atStart => exact ⟨0, Nat.zero_le _, rfl, Lib.hid (by simpa [kd] using H0.out), Lib.hid (Ch.refl _ _)⟩
  case round =>
    obtain ⟨k, hk, rfl, HJs, HX⟩ := hrel
    by_cases hlt : k < m
    · have hkl : k < cs.length := by have := HM.out; omega
      have hcs := HS.out wr HX.out
      obtain ⟨b, o, rfl, hra⟩ := colS_at hcs hkl
      have hidx := run_indexSl wr Try.underlying37 CHI.out CHS.out b o m cap k hlt
      have c0 : wr.cell? ⟨b, o + k * 3, none⟩ = some (.string ⟨cs[k].name.toArray⟩) := by have := hra 0 _ rfl; simpa [strV] using this
      have c1 : wr.cell? ⟨b, o + k * 3 + 1, none⟩ = some (.int .u8 (cs[k].ty : Nat)) := hra 1 _ rfl
      have c2 : wr.cell? ⟨b, o + k * 3 + 2, none⟩ = some (.bool cs[k].key) := hra 2 _ rfl
      obtain ⟨x, hx⟩ : ∃ x, x = cs[k] := ⟨_, rfl⟩
      have hT := kd_take_succ cs k hkl
      rw [← hx] at c0 c1 c2 hT
      have HT := Lib.hid hT
      have hlen : (kd 0 (cs.take k)).length < cs.length := by have := kd_length (cs.take k) 0; rw [List.length_take] at this; omega
      have HL := Lib.hid hlen
      have hW1 : AbidesFrom W.heap.size J := HJ.out
      obtain ⟨W1, hW1⟩ : ∃ W1, W1 = wr.alloc (.cells (colv x) 69) := ⟨_, rfl⟩
      have HX1 : Hid (Ch N W W1) := Lib.hid (by rw [hW1]; exact HX.out.alloc _)
      have HJ1 : Hid (J (kd 0 (cs.take k)) W1) := Lib.hid (HJ.out _ _ _ none HJs.out (by rw [hW1]; exact World.grownBy_alloc _ _ _) (fun r e => by cases e))
      have HW1 := Lib.hid hW1
      have hrow := heap_alloc_new wr (.cells (colv x) 69)
      rw [← hW1] at hrow
      have HROW := Lib.hid hrow
      clear hra hT hlen hcs hx hW1 hrow
      cases hkey : x.key with
      | true =>
        rw [hkey] at c2
        have HN : Hid (kd 0 (cs.take (k + 1)) = kd 0 (cs.take k) ++ [(k, x)]) := Lib.hid (by rw [HT.out, if_pos hkey])
        obtain ⟨fn, tmps, assign, body, hy, hR⟩ := HY.out _ (k, x) W1 (by rw [← HN.out]; exact kd_prefix cs (k + 1)) HJ1.out HL.out
        rw [HW1.out] at hy hR
        unfold encK pcol colv strV at hy
        unfold colv strV at hR
        dsimp only at hy hR
        rw [hkey] at hy hR
        have hxx := HX1.out
        rw [HW1.out] at hxx
        unfold colv strV at hxx
        rw [hkey] at hxx
        have HXX := Lib.hid hxx; clear hxx
        gi_wp2
        refine hR.mono ?_
        rintro e W3 (⟨rfl, hJ3, hk3⟩ | ⟨rfl, hJx3⟩)
        · have HJ3 := Lib.hid hJ3; have HK3 := Lib.hid (HXX.out.trans hk3)
          clear hJ3 hk3 hy hR
          gi_wp2
          go_roundw
          case rel => exact ⟨k + 1, by omega, by simp, Lib.hid (by rw [HN.out]; exact HJ3.out), HK3⟩
          case measure => simp [intOf]; omega
        · have HJ3 := Lib.hid hJx3
          clear hJx3 hy hR
          gi_wp2
          refine bodyPost_ret (results_none rfl _ _ _) rfl ?_
          exact ⟨⟨_, rfl⟩, .inr ⟨_, by have := kd_prefix cs (k + 1); rwa [HN.out] at this, HJ3.out⟩⟩
      | false =>
        rw [hkey] at c2
        have HN : Hid (kd 0 (cs.take (k + 1)) = kd 0 (cs.take k)) := Lib.hid (by rw [HT.out, if_neg (by rw [hkey]; decide), List.append_nil])
        gi_wp2
        refine ⟨fun _ h => (by cases h), ?_⟩
        gi_wp2
        go_roundw
        case rel => exact ⟨k + 1, by omega, by simp, Lib.hid (by have := HJ1.out; rw [HW1.out] at this; unfold colv strV at this; rw [hkey] at this; rw [HN.out]; exact this), Lib.hid (by have := HX1.out; rw [HW1.out] at this; unfold colv strV at this; rw [hkey] at this; exact this)⟩
        case measure => simp [intOf]; omega
    · obtain rfl : k = m := by omega
      gi_wp2
      go_end0
      exact ⟨⟨_, rfl⟩, .inl ⟨_, rfl, by have := HJs.out; rwa [HM.out, List.take_length] at this⟩⟩


/-- A column of the key, with its place. -/
abbrev KdT (cs : List Col) := {x : Nat × Col // x ∈ kd 0 cs}
def encKd {cs : List Col} (x : KdT cs) : Array Value := encK x.1
theorem keys_stops_mem (F : Fence) (n : Nat) (hF : F.fn 128) (hro : F.round = none) (hn : 1 ≤ n) (g : Nat) (v : Value) (cs : List Col) (N : Nat → Prop) (w : World)
    (hg : w.heap[g]? = some (.cells #[v] 37 (0, 0))) (hS : ∀ W', Ch N w W' → ColS W' v cs) (hNb : ∀ k, w.heap.size ≤ k → N k) :
    SeqStopsK F n Try.prog 128 #[.pointer (some ⟨g, 0, none⟩)] (encKd (cs := cs)) (Ch N) (fun ys => ys.map Subtype.val = kd 0 cs) (fun pre => pre.map Subtype.val <+: kd 0 cs) cs.length w := fun l J Jx W hW hJ hJx hY h0 => by
  have hx : Ext w W := Ext.ofBelow hW
  refine (keysWalk_mem F n hF hro hn l g v cs N (fun pre W => ∃ q : List (KdT cs), q.map Subtype.val = pre ∧ J q W) (fun pre W => ∃ q : List (KdT cs), q.map Subtype.val = pre ∧ Jx q W) W (heap_of_ext hx hg) (fun W' h => hS W' (hx.ch.trans h)) (fun k hk => hNb k (Nat.le_trans hx.size hk)) ?_ ?_ ⟨[], rfl, h0⟩).mono ?_
  · rintro s A B row ⟨q, e, hq⟩ hgr hrow
    exact ⟨q, e, hJ q A B row hq hgr hrow⟩
  · rintro pre x W1 hp ⟨q, e, hq⟩ hl
    have hm : x ∈ kd 0 cs := hp.subset (by simp)
    have := hY q ⟨x, hm⟩ W1 hq (by rw [← e, List.length_map] at hl; exact hl)
    obtain ⟨fn, tmps, assign, body, hy, hR⟩ := this
    refine ⟨fn, tmps, assign, body, hy, hR.mono ?_⟩
    rintro e' W' (⟨h1, h2, h3⟩ | ⟨h1, h2⟩)
    · exact .inl ⟨h1, ⟨q ++ [⟨x, hm⟩], by simp [e], h2⟩, h3⟩
    · exact .inr ⟨h1, ⟨q ++ [⟨x, hm⟩], by simp [e], h2⟩⟩
  · rintro e' W' ⟨h1, ⟨ys, h2, q, h3, h4⟩ | ⟨pre, h2, q, h3, h4⟩⟩
    · exact ⟨h1, .inl ⟨q, (show q.map Subtype.val = kd 0 cs by rw [h3, h2]), h4⟩⟩
    · exact ⟨h1, .inr ⟨q, (show q.map Subtype.val <+: kd 0 cs by rw [h3]; exact h2), h4⟩⟩

/-- What owns its row keeps it where blocks of other types change. -/
theorem own_tyb {Ts : TypeId → Prop} {w w' : World} {base : Nat} {e : TypeId} {size : Nat} {v : Value} {n : Nat} {xs : List Value} (h : w.ownsRow base e size v n xs) (he : ¬ Ts e) (hx : Ch (TyB Ts w) w w') : w'.ownsRow base e size v n xs := by
  refine ⟨h.1, ?_⟩
  rcases h.2 with h1 | ⟨g, cap, cur, h1, h2, h3, h4⟩
  · exact .inl h1
  · refine .inr ⟨g, cap, cur, h1, h2, ?_, h4⟩
    rw [hx.block g (Array.getElem?_eq_some_iff.1 h3).1 (fun ⟨c, T, o, hT, hh⟩ => by rw [h3] at hh; cases hh; exact he hT)]
    exact h3
def KnT.relO {Ts : TypeId → Prop} (hT : ¬ Ts 69) (r : Rl) : KnT Ts :=
  ⟨fun v w => ∃ c, v = .agg (relv r c) ∧ w.ownsRow 0 69 3 c r.cols.length (colC r.cols), fun _ _ _ hx ⟨c, h1, h2⟩ => ⟨c, h1, own_tyb h2 hT hx⟩⟩
/-- Columns lie in no number's box. -/
theorem colS_box {N : Nat → Prop} {w w' : World} {v : Value} {l : List Col} (h : ColS w v l) (hx : Ch N w w') {G : Nat} {z : Int} {T : TypeId} (hG : w.heap[G]? = some (.cells #[.int .i64 z] T (0, 0))) (hN : ∀ k, k < w.heap.size → N k → k = G) : ColS w' v l := by
  obtain ⟨ao, cap, h1, h2, h3, h4, h5⟩ := h
  refine ⟨ao, cap, h1, h2, h3, h4, fun x hx' j u hu => ?_⟩
  obtain ⟨b, off, rfl, h6⟩ := h5 x hx' j u hu
  have hb : b ≠ G := by
    rintro rfl
    cases l with
    | nil => simp [colC] at hu
    | cons c l =>
      obtain ⟨b', off', e, h7⟩ := h5 _ hx' 0 (strV c.name) (by simp [colC, colv])
      cases e
      have h8 : w.cell? ⟨b, off + 0, none⟩ = (#[Value.int .i64 z] : Array Value)[off + 0]? := by simp [World.cell?, hG]
      rw [h8] at h7
      cases off with
      | zero => simp [strV] at h7
      | succ o => simp at h7
  exact ⟨b, off, rfl, hx.cell (fun hn => hb (hN b (World.block_lt_of_cell? w _ h6) hn)) u h6⟩
end Go.Proofs.Ytegclfpmgilnpaa
