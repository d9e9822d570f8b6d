/-
  Images: a row with the columns of the key alone (the program's KeyOf). MADE BY mkImgG.py
-/
import Derived.Test.YtdpebdbfphlmeaaImgF
import Derived.Laws.OwnMore
namespace Go.Proofs.Ytdpebdbfphlmeaa
open Go.RowKit Go.Lac Go.Shelf
attribute [local go_sem] Oper.semAt_some

theorem Exec.kstoremid {P : Program} {ρ : Operand → Value} {o : Oper} {w : World} {t : TypeId} {x y : Operand} {b o' : Nat} {cells : Array Value} (ho : o.op = .store t x y) (hx : ρ x = .pointer (some ⟨b, o', none⟩)) (hy : ρ y = .agg cells)
    (ht : w.there b o' cells.size) (hi : (P.info? t).map (·.size) = some cells.size) (h1 : cells.all (·.oneCell') = true) :
    Exec P ρ o w fun _ w' => w' = w.setCells b o' cells.toList :=
  Exec.skip (by unfold execOp; rw [ho]; simp only [hx, hy, run_storeAt_mid w b o' t cells ht hi h1, Sem.run_bind, Sem.run_pure, Result.andThen_ok]) rfl
theorem keepsO_ext {W W' : World} (h : Ext W W') : KeepsOthers W W' := ⟨h.size, fun k o hk _ => by
  rw [h.block k (Array.getElem?_eq_some_iff.1 hk).1 (fun f => f)]; exact hk⟩
theorem keepsO_setCells (g : Nat) : ∀ (vs : List Value) (o : Nat) (W : World), KeepsOthers W (W.setCells g o vs)
  | [], _, W => KeepsOthers.refl W
  | v :: r, o, W => (KeepsOthers.setCell W ⟨g, o, none⟩ v).trans (keepsO_setCells g r (o + 1) _)
theorem below_setC {B g : Nat} {a : World} (hb : B ≤ g) : ∀ (vs : List Value) (o : Nat) (w : World), Below B a w → Below B a (w.setCells g o vs)
  | [], _, _, h => h
  | v :: r, o, _, h => below_setC hb r (o + 1) _ (h.setCell (p := ⟨g, o, none⟩) hb v)
theorem own_noobP {w : World} {base : Nat} {e : TypeId} {size : Nat} {v : Value} {n : Nat} {xs : List Value} (h : w.ownsRow base e size v n xs) {g : Nat} {o : Obj} (hg : w.heap[g]? = some o) (hT : ∀ cur, o ≠ .cells cur e (0, 0)) : v.ownBlock ≠ some g := by
  rcases h.2 with ⟨rfl, _⟩ | ⟨g', cap, cur, rfl, hb, hh, _⟩
  · simp [Value.ownBlock]
  · intro e
    simp only [Value.ownBlock, Option.some.injEq] at e
    subst e
    rw [hg] at hh
    cases hh
    exact hT _ rfl
theorem own_keptP {A B : World} {row : Option Nat} {base : Nat} {e : TypeId} {size : Nat} {v : Value} {n : Nat} {xs : List Value} (h : A.ownsRow base e size v n xs) (hg : A.grownBy B row) (hrow : ∀ r, row = some r → ∃ o : Obj, A.heap[r]? = some o ∧ o.isCells = false) : B.ownsRow base e size v n xs := by
  refine h.kept hg ?_
  cases hv : v.ownBlock with
  | none => exact .inl rfl
  | some k =>
    refine .inr fun e' => ?_
    obtain ⟨o, ho, hc⟩ := hrow k e'.symm
    exact own_noobP h ho (fun cur e => by subst e; cases hc) hv
theorem made_zero (n : Nat) : (madeCells #[.int .u8 0, .int .u8 0, .int .i64 0, .complex .f64 0 0, .string ⟨#[]⟩] (n * 5)).toList = PcC (List.replicate n Cel.zero) := by
  apply List.ext_getElem?
  intro i
  by_cases hi : i < n * 5
  · have hq : i % 5 < 5 := Nat.mod_lt _ (by omega)
    have hj : i / 5 < (List.replicate n Cel.zero).length := by simp; omega
    have he : i / 5 * 5 + i % 5 = i := by omega
    have hk : ∀ q, q < 5 → ∃ u, (pcv Cel.zero).toList[q]? = some u ∧ (#[.int .u8 0, .int .u8 0, .int .i64 0, .complex .f64 0 0, .string ⟨#[]⟩] : Array Value)[q]! = u := by
      intro q hq
      have : q = 0 ∨ q = 1 ∨ q = 2 ∨ q = 3 ∨ q = 4 := by omega
      rcases this with rfl | rfl | rfl | rfl | rfl <;> exact ⟨_, rfl, rfl⟩
    obtain ⟨u, h1, h2⟩ := hk _ hq
    have h3 := PcC_at (List.replicate n Cel.zero) (i / 5) hj (i % 5) u (by rw [List.getElem_replicate]; exact h1)
    rw [he] at h3
    rw [h3]
    unfold madeCells
    rw [Array.toList_map, List.getElem?_map, Array.toList_range, List.getElem?_range hi]
    simp only [Option.map_some, Option.some.injEq]
    exact h2
  · rw [List.getElem?_eq_none (by simp [madeCells]; omega), List.getElem?_eq_none (by rw [PcC_length]; simp; omega)]
/-- Columns lie in no row without truths. -/
theorem colS_row {N : Nat → Prop} {w w' : World} {v : Value} {l : List Col} (h : ColS w v l) (hx : Ch N w w') {G : Nat} {cur : Array Value} {T : TypeId} (hG : w.heap[G]? = some (.cells cur T (0, 0))) (hnb : ∀ (i : Nat) (b : Bool), cur[i]? ≠ some (.bool b)) (hN : ∀ k, k < w.heap.size → N k → k = G) : ColS w' v l := by
  obtain ⟨ao, cap, h1, h2, h3, h4, h5⟩ := h
  refine ⟨ao, cap, h1, h2, h3, h4, fun x hx' j u hu => ?_⟩
  obtain ⟨b, off, rfl, h6⟩ := h5 x hx' j u hu
  have hb : b ≠ G := by
    rintro rfl
    cases l with
    | nil => simp [colC] at hu
    | cons c l =>
      obtain ⟨b', off', e, h7⟩ := h5 _ hx' 2 (.bool c.key) (by simp [colC, colv])
      cases e
      have h8 : w.cell? ⟨b, off + 2, none⟩ = cur[off + 2]? := by simp [World.cell?, hG]
      rw [h8] at h7
      exact hnb _ _ h7
  exact ⟨b, off, rfl, hx.cell (fun hn => hb (hN b (World.block_lt_of_cell? w _ h6) hn)) u h6⟩
def kp (pre : List (Nat × Col)) (w : List Cel) (j : Nat) : Cel := if (pre.any fun x => x.1 == j) = true then w.getD j Cel.zero else Cel.zero
theorem kp_end (cs : List Col) (w : List Cel) (j : Nat) : kp (kd 0 cs) w j = kc cs w j := by
  have e : ((kd 0 cs).any fun x => x.1 == j) = isKeyAt cs j := by
    rw [Bool.eq_iff_iff, List.any_eq_true]
    unfold isKeyAt
    constructor
    · rintro ⟨x, hx, he⟩
      obtain ⟨_, h2, h3, h4⟩ := mem_kd_pos cs 0 hx
      have : x.1 = j := by simpa using he
      rw [Nat.sub_zero, this] at h3
      rw [h3]; exact h4
    · intro h
      split at h
      · rename_i q hq
        have := kd_has cs 0 j hq h
        rw [Nat.zero_add] at this
        exact ⟨_, this, by simp⟩
      · cases h
  unfold kp kc; rw [e]
theorem kp_set {pre : List (Nat × Col)} {w : List Cel} {x : Nat × Col} {n : Nat} (hn : n = w.length) (hj : x.1 < w.length) : ((List.range n).map (kp pre w)).set x.1 w[x.1] = (List.range n).map (kp (pre ++ [x]) w) := by
  refine map_range_set (by omega) ?_ fun j _ hne => ?_
  · unfold kp
    rw [if_pos (by simp), getD_at hj]
  · unfold kp
    rw [List.any_append, List.any_cons, List.any_nil, show (x.1 == j) = false from beq_eq_false_iff_ne.2 (Ne.symm hne), Bool.or_false, Bool.or_false]
theorem kp_skip {pre : List (Nat × Col)} {w : List Cel} {x : Nat × Col} {n : Nat} (hj : ¬ x.1 < n) : (List.range n).map (kp pre w) = (List.range n).map (kp (pre ++ [x]) w) := by
  refine List.map_congr_left fun j hjn => ?_
  have := List.mem_range.1 hjn
  unfold kp
  rw [List.any_append, List.any_cons, List.any_nil, show (x.1 == j) = false from beq_eq_false_iff_ne.2 (by omega), Bool.or_false, Bool.or_false]
theorem kp_nil (w : List Cel) (n : Nat) : (List.range n).map (kp [] w) = List.replicate n Cel.zero := by
  apply List.ext_getElem
  · simp
  · intro j h1 h2; simp [kp]
def koT (go gb gr vb vo2 n vcap j : Nat) (c : Cel) : Tmp → Kn
  | 18 => .is (.slice (some ⟨go, 0, none⟩) n n)
  | 19 => .is (.int .i64 (j : Nat))
  | 20 => .is (.slice (some ⟨vb, vo2, none⟩) n vcap)
  | 21 => .is (.int .i64 (j : Nat))
  | 22 => .is (.pointer (some ⟨vb, vo2 + j * 5, none⟩))
  | 23 => .is (pc c)
  | 24 => .is (.pointer (some ⟨go, 0 + j * 5, none⟩))
  | _ => .any
theorem koT_pure (go gb gr vb vo2 n vcap j : Nat) (c : Cel) (d : Tmp) : (koT go gb gr vb vo2 n vcap j c d).pure := by
  unfold koT
  split <;> first | exact Kn.is_pure _ | exact Kn.any_pure
set_option maxRecDepth 100000 in
set_option maxHeartbeats 4000000 in
theorem keyOf_any (r : Rl) (cv vw : Value) (l : List Cel) (w : World) (hb : ColS w cv r.cols) (hl : r.cols.length ≤ 1000000) (hv : PcS w vw l) (hll : l.length ≤ 100000) :
    Calls Try.prog 13 #[.agg (relv r cv), vw] w (PrPost (keyOf r.cols l) w) := by
  obtain ⟨W1, hW1⟩ : ∃ W1, W1 = (w.alloc (.cells (relv r cv) 33)).alloc (.cells #[vw] 36) := ⟨_, rfl⟩
  have hx1 : Ext w W1 := by rw [hW1]; exact ((Ch.refl _ _).alloc _).alloc _
  have hs1 : W1.heap.size = w.heap.size + 2 := by rw [hW1]; simp
  obtain ⟨i, hi, hz, hs, hby⟩ := info_parts infoPrZ
  obtain ⟨w2, hmk, hown, hgrow⟩ := run_makeSlice_full (P := Try.prog) W1 w.heap.size 36 59 i (.agg #[.int .u8 0, .int .u8 0, .int .i64 0, .complex .f64 0 0, .string ⟨#[]⟩]) 5 Try.underlying36 hi hz hs .i64 .i64 l.length (by omega) (by rw [hby]; omega) (by unfold maxLen; omega) (by omega)
  have hown' : OwnPr w.heap.size w2 (.slice (some ⟨W1.heap.size, 0, none⟩) l.length l.length) ((List.range l.length).map (kp [] l)) := by
    rw [kp_nil]
    have e : (madeCells (Value.agg #[.int .u8 0, .int .u8 0, .int .i64 0, .complex .f64 0 0, .string ⟨#[]⟩]).cells (l.length * 5)).toList = PcC (List.replicate l.length Cel.zero) := made_zero l.length
    rw [e] at hown
    unfold OwnPr
    rw [List.length_replicate]; exact hown
  have hx2 : Ext W1 w2 := (Ch.refl _ _).grown hgrow (fun k e => by cases e)
  obtain ⟨W3, hW3⟩ : ∃ W3, W3 = w2.alloc (.cells #[.slice (some ⟨W1.heap.size, 0, none⟩) l.length l.length] 36) := ⟨_, rfl⟩
  have hx3 : Ext w2 W3 := by rw [hW3]; exact (Ch.refl _ _).alloc _
  have hX3 : Ext w W3 := (hx1.trans hx2).trans hx3
  have HBOX : Hid (W3.heap[w.heap.size]? = some (.cells (relv r cv) 33 (0, 0))) := Lib.hid (heap_ext (hx2.trans hx3) (by rw [hW1]; exact heap_alloc2_old _ _ _))
  have hROW1 : W1.heap[w.heap.size + 1]? = some (.cells #[vw] 36 (0, 0)) := by rw [hW1]; exact heap_alloc2_new _ _ _
  have HROW : Hid (W3.heap[w.heap.size + 1]? = some (.cells #[vw] 36 (0, 0))) := Lib.hid (heap_ext (hx2.trans hx3) hROW1)
  have HRES : Hid (W3.heap[w2.heap.size]? = some (.cells #[.slice (some ⟨W1.heap.size, 0, none⟩) l.length l.length] 36 (0, 0))) := Lib.hid (by rw [hW3]; exact heap_alloc_new _ _)
  have HKY := Lib.hid (keys_any r cv W3 (ColS.ext hb hX3) hl)
  have HOW3 : Hid (OwnPr w.heap.size W3 (.slice (some ⟨W1.heap.size, 0, none⟩) l.length l.length) ((List.range l.length).map (kp [] l))) := Lib.hid (hown'.ext hx3)
  have hgo2 : W1.heap.size < w2.heap.size := by
    rcases hown.2 with ⟨h, _⟩ | ⟨g, cp, cur, h, _, h3, _⟩
    · cases h
    · cases h; exact (Array.getElem?_eq_some_iff.1 h3).1
  have HNB : Hid (∃ (cur : Array Value), W3.heap[W1.heap.size]? = some (.cells cur 59 (0, 0)) ∧ ∀ (i : Nat) (b : Bool), cur[i]? ≠ some (.bool b)) := Lib.hid (by
    have hO := HOW3.out
    unfold OwnPr at hO
    have hlen : ((List.range l.length).map (kp [] l)).length = l.length := by simp
    rw [hlen] at hO
    obtain ⟨h1, ⟨h, _⟩ | ⟨g, cp, cur, h, _, h3, h4, _, h5, h6⟩⟩ := hO
    · cases h
    · cases h
      refine ⟨cur, h3, fun i b he => ?_⟩
      have h7 : cur.toList = PcC ((List.range l.length).map (kp [] l)) := by rw [← h6, List.take_of_length_le (by simp [h5])]
      have h8 : (.bool b : Value) ∈ PcC ((List.range l.length).map (kp [] l)) := by
        rw [← h7]
        exact List.mem_of_getElem? (i := i) (by simpa using he)
      obtain ⟨c, _, hc⟩ := List.mem_flatMap.1 h8
      simp [pcv, strV] at hc)
  obtain ⟨gb, hgb⟩ : ∃ gb, gb = w2.heap.size := ⟨_, rfl⟩
  have hsz3 : gb < W3.heap.size := by rw [hgb, hW3]; simp
  have HV := Lib.hid hv
  obtain ⟨ao, cap, rfl, _⟩ := id hb
  obtain ⟨vo, vcap, rfl, k1, k2⟩ := hv.shape
  have HX3 := Lib.hid hX3
  rw [← hgb] at HRES
  have CHV := Lib.hid hi; have CSV := Lib.hid hs
  have hvl : l.length ≤ 9223372036854775807 := by omega
  have HMK := Lib.hid hmk; have HW1 := Lib.hid hW1; have HW3 := Lib.hid hW3; have HGB := Lib.hid hgb; have HGO2 := Lib.hid hgo2; have HS1 := Lib.hid hs1; have HSZ3 := Lib.hid hsz3; have HLL := Lib.hid hll
  clear hi hz hs hby hown hown' hgrow hx1 hx2 hx3 hX3 hROW1 hv hb k1 k2 hgo2 hsz3 hll hl hs1 hmk hW1 hW3 hgb
  refine (callsIn_wide (n := 3)).1 ?_
  refine callsIn_of_wp_marks Try.func13 rfl trivial ?_ rfl
  simp only [Try.ntmps13, List.size_toArray, List.length_cons, List.length_nil, Nat.reduceAdd, Nat.reduceSub, Array.replicate_succ, Array.replicate_zero, List.push_toArray, List.append_toArray, List.nil_append, List.cons_append]
  generalize hqs : r.cols = qs at *
  unfold relv strV at *
  rw [hqs] at *
  generalize (⟨r.name.toArray⟩ : ByteArray) = A1 at *
  generalize r.oid = o1 at *
  generalize r.ver = o2 at *
  generalize r.ident = o3 at *
  have hmk := HMK.out
  rw [HW1.out] at hmk
  obtain ⟨go, hgo⟩ : ∃ go, go = W1.heap.size := ⟨_, rfl⟩
  rw [← HW1.out, ← hgo, HW1.out] at hmk
  rw [← hgo] at HRES HOW3 HNB HGO2 HS1 HW3
  have HGO := Lib.hid hgo
  clear HMK hgo
  have d0 : W3.cell? ⟨w.heap.size, 0, none⟩ = some (.int .u32 (o1 : Nat)) := by rw [cell_of_row _ _ _ _ _ _ HBOX.out]; rfl
  have d1 : W3.cell? ⟨w.heap.size, 1, none⟩ = some (.int .u32 (o2 : Nat)) := by rw [cell_of_row _ _ _ _ _ _ HBOX.out]; rfl
  have d2 : W3.cell? ⟨w.heap.size, 2, none⟩ = some (.string A1) := by rw [cell_of_row _ _ _ _ _ _ HBOX.out]; rfl
  have d3 : W3.cell? ⟨w.heap.size, 3, none⟩ = some (.int .u8 (o3 : Nat)) := by rw [cell_of_row _ _ _ _ _ _ HBOX.out]; rfl
  have d4 : W3.cell? ⟨w.heap.size, 4, none⟩ = some (.slice ao qs.length cap) := by rw [cell_of_row _ _ _ _ _ _ HBOX.out]; rfl
  rw [HW3.out] at d0 d1 d2 d3 d4
  gi_wp2_with fail
  refine ⟨trivial, ?_⟩
  rw [← HW3.out]
  clear d0 d1 d2 d3 d4 hmk
  refine (callsIn_wide.2 HKY.out).mono ?_
  rintro e w4 ⟨g, v, rfl, hx4, hg, hr, hc⟩
  have HX4 := Lib.hid (HX3.out.trans hx4)
  have hres := heap_ext hx4 HRES.out
  have hrow := heap_ext hx4 HROW.out
  have HOW4 := Lib.hid (HOW3.out.ext hx4)
  have HNB4 : Hid (∃ (cur : Array Value), w4.heap[go]? = some (.cells cur 59 (0, 0)) ∧ ∀ (i : Nat) (b : Bool), cur[i]? ≠ some (.bool b)) := Lib.hid (by obtain ⟨cur, h1, h2⟩ := HNB.out; exact ⟨cur, heap_ext hx4 h1, h2⟩)
  have hB4 : Below w.heap.size w w4 := Ext.below HX4.out
  have hgz : W3.heap.size ≤ g := hg
  have hww : w.heap.size ≤ w4.heap.size := HX4.out.size
  have hsz : W3.heap.size ≤ w4.heap.size := hx4.size
  have hcr : w4.cell? ⟨w.heap.size + 1, 0, none⟩ = some (.slice vo l.length vcap) := by rw [cell_of_row _ _ _ _ _ _ hrow]; rfl
  have hcs : w4.cell? ⟨gb, 0, none⟩ = some (.slice (some ⟨go, 0, none⟩) l.length l.length) := by rw [cell_of_row _ _ _ _ _ _ hres]; rfl
  have HGBE : Hid (w2.heap.size = gb) := Lib.hid HGB.out.symm
  rw [HGBE.out]
  obtain ⟨N, hN⟩ : ∃ N : Nat → Prop, N = fun k => k = go ∨ w4.heap.size ≤ k := ⟨_, rfl⟩
  have HNb : Hid (∀ j, w4.heap.size ≤ j → N j) := Lib.hid (by rw [hN]; exact fun j h => .inr h)
  have HNgo : Hid (N go) := Lib.hid (by rw [hN]; exact .inl rfl)
  have HNo : Hid (∀ k, k < w4.heap.size → N k → k = go) := Lib.hid (by rw [hN]; rintro k hk (h | h); exact h; omega)
  have hgo3 : go < gb := by have := HGO2.out; have := HGB.out; omega
  have HGO3 := Lib.hid hgo3
  have hgb3 := HSZ3.out
  have HC := Lib.hid hc; have HR := Lib.hid hr
  clear HKY HNB HBOX HROW HRES hrow hres hx4 hN hc HOW3 hgo3
  gi_wp2_with fail
  refine with_frameL fun L hL => ?_
  refine wpIn_rangeFunc_ownF rfl (by decide) (gf := 41) (lb := #[.pointer (some ⟨g, 0, none⟩)]) (by rw [hL]; rfl) trivial (enters_of Try.func41 (by kernel_rfl) rfl)
    (keys_stops_mem Fence.wide (3 - 1) trivial rfl (by decide) g v qs N w4 hr (fun W' h => by obtain ⟨cur, h1, h2⟩ := HNB4.out; exact colS_row HC.out h h1 h2 HNo.out) HNb.out) (fun h k => h.trans k) (chK_b HNb.out) (Below.refl _ _) (fun _ => rfl)
    (fun (pre : List (KdT qs)) W => (W.cell? ⟨gb, 0, none⟩ = some (.slice (some ⟨go, 0, none⟩) l.length l.length) ∧ W.cell? ⟨w.heap.size + 1, 0, none⟩ = some (.slice vo l.length vcap) ∧ OwnPr w.heap.size W (.slice (some ⟨go, 0, none⟩) l.length l.length) ((List.range l.length).map (kp (pre.map Subtype.val) l))) ∧ Below w.heap.size w W)
    (fun _ _ _ => False)
    (OwnFrom.and (Own.from (fun s A B row hs hg hr => ⟨cell_kept hs.1 hg hr, cell_kept hs.2.1 hg hr, own_keptP hs.2.2 hg hr⟩) _) (ownFrom_below (Nat.le_refl _) (by omega)))
    (fun c s A B row h _ _ => h)
    ⟨⟨hcs, hcr, HOW4.out⟩, hB4⟩
    (fun x => ⟨(((L.set 12 (.int .i64 (x.1.1 : Nat))).set 13 (pcol x.1.2)).set 6 (.int .i64 (x.1.1 : Nat))).toArray, []⟩) ?assign ?body ?done ?stop
  case assign =>
    intro l' x W K hK
    subst hL
    unfold encKd encK
    gi_wp2
    simpa using hK
  case stop => exact fun D c pre W hD hSp hIx hK => hIx.elim
  case body =>
    rintro l' pre x W ⟨⟨hc1, hc2, ho⟩, hB⟩ _
    subst hL
    obtain ⟨⟨j, q⟩, hx⟩ := x
    simp only [List.set_cons_succ, List.set_cons_zero]
    have HB := Lib.hid hB; have HO := Lib.hid ho; have HC1 := Lib.hid hc1; have HC2 := Lib.hid hc2
    have hsw : w4.heap.size ≤ w4.heap.size := Nat.le_refl _
    clear hB ho
    by_cases hjl : j < l.length
    · obtain ⟨vb, vo2, rfl, hra0⟩ := HV.out.at hjl
      have HRA := Lib.hid (rangeAt_ext hra0 (Ext.ofBelow HB.out))
      have HJL := Lib.hid hjl
      have HST : Hid (((List.range l.length).map (kp (pre.map Subtype.val) l)).set j l[j] = (List.range l.length).map (kp ((pre ++ [(⟨(j, q), hx⟩ : KdT qs)]).map Subtype.val) l)) := Lib.hid (by rw [List.map_append]; exact kp_set (x := (j, q)) rfl hjl)
      generalize l[j] = c at *
      have HOS := Lib.hid (fun W' (h : Ext W W') => own_setPr (base := w.heap.size) (k := j) c (HO.out.ext h) (by simpa using HJL.out))
      have HTH : Hid (∀ W', Ext W W' → W'.there go (j * 5) 5) := Lib.hid fun W' h => by
        obtain ⟨g', cp, e, _, _, h5⟩ := HOS.out W' h
        simp only [Value.slice.injEq, Option.some.injEq, Addr.mk.injEq] at e
        obtain ⟨⟨rfl, _⟩, _⟩ := e
        exact h5
      clear hra0
      gi_wp2
      refine wpIn_region_last (koT go gb (w.heap.size + 1) vb vo2 l.length vcap j c) 7 (fun W'' => ∃ W', Ext W W' ∧ W'' = W'.setCells go (j * 5) (pcv c).toList) mixedR (by rfl) (by rfl) (by rfl) (by decide) ?all ?fin
      case all =>
        refine ⟨?_, ?_, ?_, ?_, ?_, ?_, ?_, ?_, trivial⟩
        · refine StepOK.early (koT_pure _ _ _ _ _ _ _ _ _) (by rfl) (by decide) rfl fun ρ w' hρ hw hf => ?_
          have h5 : ρ (.tmp 5) = (.pointer (some ⟨gb, 0, none⟩)) := (hf 5).2 rfl rfl
          have hc : w'.cell? ⟨gb, 0, none⟩ = some (.slice (some ⟨go, 0, none⟩) l.length l.length) := hw.cell (p := ⟨gb, 0, none⟩) (fun f => f) _ (HC1.out)
          exact Exec.same (v := (.slice (some ⟨go, 0, none⟩) l.length l.length)) rfl (by simp [go_sem, hρ.const, h5, hc, strV]) rfl
        · refine StepOK.early (koT_pure _ _ _ _ _ _ _ _ _) (by rfl) (by decide) rfl fun ρ w' hρ hw hf => ?_
          have h6 : ρ (.tmp 6) = (.int .i64 (j : Nat)) := (hf 6).2 rfl rfl
          exact Exec.kmove rfl rfl h6
        · refine StepOK.early (koT_pure _ _ _ _ _ _ _ _ _) (by rfl) (by decide) rfl fun ρ w' hρ hw hf => ?_
          have h3 : ρ (.tmp 3) = (.pointer (some ⟨(w.heap.size + 1), 0, none⟩)) := (hf 3).2 rfl rfl
          have hc : w'.cell? ⟨(w.heap.size + 1), 0, none⟩ = some (.slice (some ⟨vb, vo2, none⟩) l.length vcap) := hw.cell (p := ⟨(w.heap.size + 1), 0, none⟩) (fun f => f) _ (HC2.out)
          exact Exec.same (v := (.slice (some ⟨vb, vo2, none⟩) l.length vcap)) rfl (by simp [go_sem, hρ.const, h3, hc, strV]) rfl
        · refine StepOK.early (koT_pure _ _ _ _ _ _ _ _ _) (by rfl) (by decide) rfl fun ρ w' hρ hw hf => ?_
          have h6 : ρ (.tmp 6) = (.int .i64 (j : Nat)) := (hf 6).2 rfl rfl
          exact Exec.kmove rfl rfl h6
        · refine StepOK.early (koT_pure _ _ _ _ _ _ _ _ _) (by rfl) (by decide) rfl fun ρ w' hρ hw hf => ?_
          have h20 : ρ (.tmp 20) = (.slice (some ⟨vb, vo2, none⟩) l.length vcap) := (hf 20).1 rfl
          have h21 : ρ (.tmp 21) = (.int .i64 (j : Nat)) := (hf 21).1 rfl
          exact Exec.kindex rfl rfl Try.underlying36 CHV.out CSV.out h20 h21 HJL.out rfl
        · refine StepOK.early (koT_pure _ _ _ _ _ _ _ _ _) (by rfl) (by decide) rfl fun ρ w' hρ hw hf => ?_
          have h22 : ρ (.tmp 22) = (.pointer (some ⟨vb, vo2 + j * 5, none⟩)) := (hf 22).1 rfl
          exact Exec.kloadmid rfl rfl h22 (load_P (rangeAt_ext HRA.out hw)) rfl
        · refine StepOK.early (koT_pure _ _ _ _ _ _ _ _ _) (by rfl) (by decide) rfl fun ρ w' hρ hw hf => ?_
          have h18 : ρ (.tmp 18) = (.slice (some ⟨go, 0, none⟩) l.length l.length) := (hf 18).1 rfl
          have h19 : ρ (.tmp 19) = (.int .i64 (j : Nat)) := (hf 19).1 rfl
          exact Exec.kindex rfl rfl Try.underlying36 CHV.out CSV.out h18 h19 HJL.out rfl
        · refine StepOK.last (koT_pure _ _ _ _ _ _ _ _ _) rfl fun ρ w' hρ hw hf => ?_
          have h24 : ρ (.tmp 24) = (.pointer (some ⟨go, 0 + j * 5, none⟩)) := (hf 24).1 rfl
          have h23 : ρ (.tmp 23) = (pc c) := (hf 23).1 rfl
          have hth := HTH.out w' hw
          refine (Exec.kstoremid rfl (by rw [h24, Nat.zero_add]) h23 hth infoSPr (by simp [pcv, strV, Value.oneCell'])).mono fun v w'' h => ⟨fun d hd => (by cases hd), w', hw, h⟩
      case fin =>
        rintro ν W9 hfin ⟨W8, hx8, rfl⟩
        simp only [Exit.then, ended, List.foldl_cons, List.foldl_nil, List.setIfInBounds_toArray, List.set_cons_succ, List.set_cons_zero]
        obtain ⟨g', cp, e, hg', ho9, _⟩ := HOS.out W8 hx8
        simp only [Value.slice.injEq, Option.some.injEq, Addr.mk.injEq] at e
        obtain ⟨⟨rfl, _⟩, _⟩ := e
        have hch : Ch N W (W8.setCells go (j * 5) (pcv c).toList) := Ch.setCells (.inl HNgo.out) _ _ _ hx8.ch
        have hne1 : gb ≠ go := by have := HGO3.out; omega
        have hne2 : w.heap.size + 1 ≠ go := by have := HS1.out; have := HGO.out; omega
        have e1 : (W8.setCells go (j * 5) (pcv c).toList).cell? ⟨gb, 0, none⟩ = some (.slice (some ⟨go, 0, none⟩) l.length l.length) := by
          rw [World.cell?_setCells_out go _ _ _ _ (fun h => absurd h hne1)]; exact hx8.cell (p := ⟨gb, 0, none⟩) (fun f => f) _ HC1.out
        have e2 : (W8.setCells go (j * 5) (pcv c).toList).cell? ⟨w.heap.size + 1, 0, none⟩ = some (.slice (some ⟨vb, vo2, none⟩) l.length vcap) := by
          rw [World.cell?_setCells_out go _ _ _ _ (fun h => absurd h hne2)]; exact hx8.cell (p := ⟨w.heap.size + 1, 0, none⟩) (fun f => f) _ HC2.out
        have hbl : Below w.heap.size w (W8.setCells go (j * 5) (pcv c).toList) := below_setC (by have := HS1.out; have := HGO.out; omega) _ _ _ (Ext.below ((Ext.ofBelow HB.out).trans hx8))
        rw [HST.out] at ho9
        gi_wp2
        exact ⟨(keepsO_ext hx8).trans (keepsO_setCells go _ _ _), hch, ⟨e1, e2, ho9⟩, hbl⟩
    · have HST : Hid ((List.range l.length).map (kp (pre.map Subtype.val) l) = (List.range l.length).map (kp ((pre ++ [(⟨(j, q), hx⟩ : KdT qs)]).map Subtype.val) l)) := Lib.hid (by rw [List.map_append]; exact kp_skip (x := (j, q)) hjl)
      have hlt : ¬ ((j : Nat) : Int) < ((l.length : Nat) : Int) := by omega
      clear hjl
      gi_wp2
      exact ⟨KeepsOthers.refl _, Ch.refl _ _, ⟨hc1, hc2, by rw [← HST.out]; exact HO.out⟩, HB.out⟩
  case done =>
    rintro D ys W hD hys ⟨⟨hc1, hc2, ho⟩, hB⟩ hK
    subst hL
    have HOE : Hid (OwnPr w.heap.size W (.slice (some ⟨go, 0, none⟩) l.length l.length) (keyOf qs l)) := Lib.hid (by
      rw [hys] at ho
      have e : (List.range l.length).map (kp (kd 0 qs) l) = keyOf qs l := List.map_congr_left fun j _ => kp_end qs l j
      rwa [e] at ho)
    clear ho
    gi_wp2
    refine ⟨by simp, .inl ⟨_, _, rfl, run_takeDeferred hK, ?_⟩⟩
    refine ⟨.slice (some ⟨go, 0, none⟩) l.length l.length, by simp [results, Try.f13, go_sem], _, rfl, ?_, ?_⟩
    · exact Ext.ofBelow (hB.trans (belowK_b (w := w) (Nat.le_refl _) _ D _ _ (by omega) hK rfl rfl))
    · exact own_keptP HOE.out (grownBy_putObj' _ D (.deferred none)) (fun r e => by cases e; exact ⟨_, hK, rfl⟩)
end Go.Proofs.Ytdpebdbfphlmeaa
