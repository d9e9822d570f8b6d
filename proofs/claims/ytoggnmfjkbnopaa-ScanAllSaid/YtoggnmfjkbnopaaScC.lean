/-
  Feed: the walk. MADE BY mkScC.py
-/
import Derived.Test.YtoggnmfjkbnopaaScB
import Derived.Test.YtoggnmfjkbnopaaFrF
import Derived.Test.YtoggnmfjkbnopaaLibB
import Derived.Deep.QuietTactic
import Derived.BigQuiet
import Derived.Scope
namespace Go.Proofs.Ytoggnmfjkbnopaa
open Go.RowKit Go.Lac

/-- An 'append' whose run is known. -/
theorem wpList_append_run {P : Program} {w : World} {ops : Array Oper} {rest : List Oper} {o : Oper} {a : Act} {Q : Exit → Act → World → Prop} (hgd : o.guard = none) (s xo : Operand) (t : TypeId)
    (ho : o.op = .call { callee := .builtin .append, args := #[s, xo], argTypes := #[t, t] }) {v x v' : Value} {w' : World} (hs : a.eval s = v) (hxo : a.eval xo = x)
    (hrun : (Builtin.append_ #[t, t] o.type #[v, x]).run P w = .ok v' w') (h : wpList P ops Q rest (a.put o.dst v') w') : wpList P ops Q (o :: rest) a w := by
  refine wpList_plain hgd fun K hK => ?_
  unfold Oper.wp execOp
  simp only [ho, resolve, invoke, builtin, Sem.run_bind, Sem.run_pure, Result.andThen_ok, List.map_toArray, List.map_cons, List.map_nil, hs, hxo, hrun]
  exact hK _ _ h

theorem rd_row {w w' : World} {q : Nat} {v : Value} {bs : List UInt8} {cs : Array Value} {E : TypeId} (h : Rd w v bs) (hq : w.heap[q]? = some (.cells cs E (0, 0))) (hn : ∀ u ∈ cs, NoByte u) (k : Ch (fun i => i = q) w w') : Rd w' v bs := by
  obtain ⟨ao, cap, g1, g2, g3, g4, g5⟩ := h
  refine ⟨ao, cap, g1, g2, g3, g4, fun x hx j c hc => ?_⟩
  obtain ⟨b, off, rfl, h6⟩ := g5 x hx j c hc
  refine ⟨b, off, rfl, k.cell (p := ⟨b, off + j, none⟩) ?_ c h6⟩
  rintro (rfl : b = q)
  obtain ⟨y, _, rfl⟩ := List.mem_map.1 (List.mem_of_getElem? hc)
  rw [cell_of_row w b (off + j) _ _ _ hq] at h6
  exact hn _ (Array.mem_of_getElem? h6) y rfl
theorem run_drop_all {P : Program} {w : World} {t e : TypeId} {inf : TypeInfo} (h : P.underlying t = some (.slice e)) (hinf : P.info? e = some inf) (hsz : inf.size = 1) {v : Value} {bs : List UInt8} (hr : Rd w v bs) (n : Nat) (hn : n ≤ bs.length) :
    ∃ v', (∀ w0, (Instr.sliceAt t v (some (.int .i64 (n : Nat))) none none).run P w0 = .ok v' w0) ∧ Rd w v' (bs.drop n) := by
  obtain ⟨v1, r1, h1⟩ := run_drop h hinf hsz hr n hn
  refine ⟨v1, fun w0 => ?_, h1⟩
  obtain ⟨ao, cap, rfl⟩ := hr.shape
  obtain ⟨_, _, g0, g1, g2, g3, g4⟩ := hr
  cases g0
  have he := elem_eq h
  have h' : P.underlying t = some (.slice (P.elem t)) := by rw [he]; exact h
  have key : ∀ w1 : World, (Instr.sliceAt t (.slice ao bs.length cap) (some (.int .i64 (n : Nat))) none none).run P w1 = .ok (sliced ao n bs.length cap 1) w1 := fun w1 => by
    rw [run_sliceAt_slice (h := h'), run_slice_l (ht := h') (h0 := by omega) (h1 := by omega), he]
    simp [sizeOf, typeInfo, hinf, hsz]
  have k1 := key w
  rw [r1] at k1
  injection k1 with k1
  rw [k1]
  exact key w0

/-- The scanner has stopped. -/
theorem feed_err (w : World) (r g : Nat) (k : List UInt8) (a e : Nat) (x : Value) (h : IsS w r g k a e) (he : e ≠ 0) :
    Calls Try.prog 15 #[.pointer (some ⟨r, 0, none⟩), x] w fun q w' => q = .returned (.tuple #[.slice none 0 0, .int .i64 (e : Nat)]) ∧ Ext w w' := by
  have hc : w.cell? ⟨r, 2, none⟩ = some (.int .i64 (e : Nat)) := by rw [cell_of_row _ _ _ _ _ _ h.cells]; rfl
  have hb : ((e : Int) != 0) = true := by simp; omega
  clear he h
  go_enter Try.func15, Try.ntmps15
  refine wp_seq_k (fun K hK => ?_); have HK := Lib.hid hK; clear hK
  go_wp2
  refine HK.out _ _ ?_; clear HK K
  refine wp_scope_straight ?_
  go_wp2
  go_quiet (fail)
  go_wp2
  simp only [Exit.noGoto]
  refine bodyPost_ret (results_tmp2 rfl _ _ _) rfl ?_
  exact ⟨rfl, Ext.drewN _ _⟩

def fdRow (f : Fnd) (t : Value) (ak : IntKind) : List Value := [.int .u8 (f.v : Nat), .int .u8 (f.k : Nat), t, .int ak (f.at' : Nat), .int .i64 (f.size : Nat)]

/-- What Feed answers. -/
def FeedPost (r g : Nat) (k b : List UInt8) (a : Nat) (w : World) (q : Ending) (w' : World) : Prop :=
  ∃ v, q = .returned (.tuple #[v, .int .i64 ((sc a (k ++ b)).2.2 : Nat)]) ∧ Ch (fun i => i = g ∨ i = r) w w' ∧ FdL w' w.heap.size w.heap.size 50 .u64 v (sc a (k ++ b)).1 ∧
    IsS w' r g (if (sc a (k ++ b)).2.2 = 0 then (k ++ b).drop ((sc a (k ++ b)).2.1 - a) else []) (sc a (k ++ b)).2.1 (sc a (k ++ b)).2.2

theorem bld50 (w : World) (x y a' n' : Nat) (a : Option Addr) (n c : Nat) : (Instr.build 50 #[(0, .agg #[.int .u8 (x : Nat), .int .u8 (y : Nat), .slice a n c]), (1, .int .u64 (a' : Nat)), (2, .int .i64 (n' : Nat))]).run Try.prog w = .ok (.agg #[.int .u8 (x : Nat), .int .u8 (y : Nat), .slice a n c, .int .u64 (a' : Nat), .int .i64 (n' : Nat)]) w := by kernel_rfl
theorem one27 (w : World) (x y a' n' : Nat) (a : Option Addr) (n c : Nat) : (Instr.buildSlice 27 1 #[(0, .agg #[.int .u8 (x : Nat), .int .u8 (y : Nat), .slice a n c, .int .u64 (a' : Nat), .int .i64 (n' : Nat)])]).run Try.prog w = .ok (.slice (some ⟨w.heap.size, 0, none⟩) 1 1) (w.alloc (.cells #[.int .u8 (x : Nat), .int .u8 (y : Nat), .slice a n c, .int .u64 (a' : Nat), .int .i64 (n' : Nat)] 50)) := by kernel_rfl
theorem infoFound : (Try.prog.info? 50).map (fun i => (i.zero, i.size, i.bytes)) = some (some (.agg #[.int .u8 0, .int .u8 0, .slice none 0 0, .int .u64 0, .int .i64 0]), 5, 48) := by kernel_rfl
theorem infoFr : (Try.prog.info? 48).map (·.size) = some 3 := by kernel_rfl
theorem mixedS : Try.prog.follows .mixedOrders = true := by kernel_rfl
theorem Exec.kappendrun {P : Program} {ρ : Operand → Value} {o : Oper} {w : World} {t : TypeId} {s xo : Operand} (ho : o.op = .call { callee := .builtin .append, args := #[s, xo], argTypes := #[t, t] }) {v x v' : Value} {w' : World} (hs : ρ s = v) (hx : ρ xo = x)
    (hr : (Builtin.append_ #[t, t] o.type #[v, x]).run P w = .ok v' w') {Φ : Value → World → Prop} (h : Φ v' w') : Exec P ρ o w Φ := by
  refine Exec.value (v := v') (w' := w') ?_ h
  unfold execOp
  rw [ho]
  simp only [resolve, invoke, builtin, Sem.run_bind, Sem.run_pure, Result.andThen_ok, List.map_toArray, List.map_cons, List.map_nil, hs, hx, hr]
def Kn.fd (base B : Nat) (E : TypeId) (ak : IntKind) (l : List Fnd) : Kn := ⟨fun v w => FdL w base B E ak v l, fun _ _ _ k h => FdL.ext h k⟩
def foundT (r g8 : Nat) (lv : Value) (V K at' n : Nat) (ta : Option Addr) (pl tc : Nat) : Tmp → Kn
  | 34 => .is lv
  | 35 => .is (.agg #[.int .u8 (V : Nat), .int .u8 (K : Nat), .slice ta pl tc])
  | 36 => .is (.pointer (some ⟨r, 0, none⟩))
  | 37 => .is (.pointer (some ⟨r, 0, none⟩))
  | 38 => .is (.pointer (some ⟨r, 1, none⟩))
  | 39 => .is (.int .u64 (at' : Nat))
  | 40 => .is (.int .i64 (n : Nat))
  | 41 => .is (.agg #[.int .u8 (V : Nat), .int .u8 (K : Nat), .slice ta pl tc, .int .u64 (at' : Nat), .int .i64 (n : Nat)])
  | 42 => .sl 1 [.int .u8 (V : Nat), .int .u8 (K : Nat), .slice ta pl tc, .int .u64 (at' : Nat), .int .i64 (n : Nat)]
  | _ => .any
def foundT' (B : Nat) (l : List Fnd) : Tmp → Kn
  | 43 => Kn.fd B B 50 .u64 l
  | 7 => Kn.fd B B 50 .u64 l
  | _ => .any

/-- At the label. -/
def FeedJ (r : Nat) (x : Value) (w1 : World) (kv : Value) (a : Nat) (all : List UInt8) (ac : Act) (w : World) : Prop :=
  ∃ (fs : List Fnd) (at' : Nat) (rest : List UInt8) (left lv : Value), Ch (fun i => i = r) w1 w ∧ w.heap[r]? = some (.cells #[kv, .int .u64 (at' : Nat), .int .i64 0] 83 (0, 0)) ∧
    FdL w w1.heap.size w1.heap.size 50 .u64 lv fs ∧ Rd w1 left rest ∧ sc a all = (fs ++ (sc at' rest).1, (sc at' rest).2) ∧ rest = all.drop (at' - a) ∧ a ≤ at' ∧ at' ≤ a + all.length ∧ fs.length + rest.length ≤ all.length ∧
    ac.defers = [] ∧ ∃ u8 u9 u10 u11 u12 u13 u14 u15 u16 u17 u18 u19 u20 u21 u22 u23 u24 u25 u26 u27 u28 u29 u30 u31 u32 u33 u34 u35 u36 u37 u38 u39 u40 u41 u42 u43 u44 u45 u46 u47 u48 u49 u50 u51 u52 u53 u54 u55 u56 u57 u58 u59 u60 u61 u62 u63 u64 u65 u66 u67 u68 u69 u70 u71 u72 u73 u74 u75 u76 u77 : Value, ac.tmps = #[.pointer (some ⟨r, 0, none⟩), x, undef, undef, .slice none 0 0, .int .i64 0, left, lv, u8, u9, u10, u11, u12, u13, u14, u15, u16, u17, u18, u19, u20, u21, u22, u23, u24, u25, u26, u27, u28, u29, u30, u31, u32, u33, u34, u35, u36, u37, u38, u39, u40, u41, u42, u43, u44, u45, u46, u47, u48, u49, u50, u51, u52, u53, u54, u55, u56, u57, u58, u59, u60, u61, u62, u63, u64, u65, u66, u67, u68, u69, u70, u71, u72, u73, u74, u75, u76, u77]
def leftLen (ac : Act) : Nat := match ac.tmps.getD 6 undef with | .slice _ n _ => n | _ => 0

set_option maxRecDepth 20000 in
set_option maxHeartbeats 4000000 in
theorem feed_ok (w : World) (r g : Nat) (k : List UInt8) (a : Nat) (x : Value) (b : List UInt8) (h : IsS w r g k a 0) (hx : Rd w x b) (hl : k.length + b.length ≤ 500000) (ha : a ≤ 1000000000) :
    Calls Try.prog 15 #[.pointer (some ⟨r, 0, none⟩), x] w (FeedPost r g k b a w) := by
  obtain ⟨i, hi, hz, hsz, hby⟩ := info_parts infoU8
  have hrow := h.cells
  rw [if_pos rfl] at hrow
  obtain ⟨v1, w1, r1, c1, rd1, own1, room1⟩ := run_append_kept w 22 22 5 i Try.underlying22 hi hz hsz hby g 4105 k b x h.own hx (by omega)
  have hlt := h.lt
  have hne := h.ne
  have row1 : w1.heap[r]? = some (.cells #[.slice (some ⟨g, 0, none⟩) k.length 4105, .int .u64 (a : Nat), .int .i64 0] 83 (0, 0)) := by rw [c1.block r hlt.1 (fun e => hne e.symm)]; exact hrow
  have hc0 : w.cell? ⟨r, 0, none⟩ = some (.slice (some ⟨g, 0, none⟩) k.length 4105) := by rw [cell_of_row _ _ _ _ _ _ hrow]; rfl
  have hc2 : w.cell? ⟨r, 2, none⟩ = some (.int .i64 0) := by rw [cell_of_row _ _ _ _ _ _ hrow]; rfl
  have R1 := Lib.hid r1; have C1 := Lib.hid c1; have RD1 := Lib.hid rd1; have OWN1 := Lib.hid own1; have ROW1 := Lib.hid row1; have LT := Lib.hid hlt; have NE := Lib.hid hne; have HI := Lib.hid hi; have HSZ := Lib.hid hsz
  have HX := Lib.hid hx; have H := Lib.hid h; have HL := Lib.hid hl; have HA := Lib.hid ha; have HZ := Lib.hid hz; have HBY := Lib.hid hby
  clear r1 c1 rd1 own1 row1 hlt hne hi hsz hx h hl ha hrow hz hby room1
  go_enter Try.func15, Try.ntmps15
  refine wp_seq_k (fun K hK => ?_); have HK := Lib.hid hK; clear hK
  go_wp2
  refine HK.out _ _ ?_; clear HK K
  refine wp_scope_label 0 (FeedJ r x w1 (.slice (some ⟨g, 0, none⟩) k.length 4105) a (k ++ b)) (fun ac _ => leftLen ac) rfl ?pass ?first
  case first =>
    intro hrest
    have HR := Lib.hid hrest; clear hrest
    refine wp_seq_k (fun K hK => ?_); have HK := Lib.hid hK; clear hK
    go_wp2
    refine HK.out _ _ ?_; clear HK K
    refine wp_seq_k (fun K hK => ?_); have HK := Lib.hid hK; clear hK
    go_wp2_with (at_builtin; refine wpList_append_run rfl _ _ _ rfl rfl rfl R1.out ?_)
    go_wp2
    refine HK.out _ _ ?_; clear HK K
    refine wp_seq_k (fun K hK => ?_); have HK := Lib.hid hK; clear hK
    go_wp2
    refine HK.out _ _ ?_; clear HK K
    refine wp_seq ?_
    refine wp_label ?_
    refine HR.out _ _ ?_
    exact ⟨[], a, k ++ b, v1, .slice none 0 0, Ch.refl _ _, ROW1.out, FdL.nil _ _ _ _ _, RD1.out, by simp, by simp, Nat.le_refl _, Nat.le_add_right _ _, by simp, rfl, _, _, _, _, _, _, _, _, _, _, _, _, _, _, _, _, _, _, _, _, _, _, _, _, _, _, _, _, _, _, _, _, _, _, _, _, _, _, _, _, _, _, _, _, _, _, _, _, _, _, _, _, _, _, _, _, _, _, _, _, _, _, _, _, _, _, _, _, _, _, rfl⟩
  case pass =>
    rintro ⟨tmps, defers⟩ w2 ⟨fs, at', rest, left, lv, hch, hrow, hfd, hrd, hsc, hrs, hge, hle, hln, hdf, u8, u9, u10, u11, u12, u13, u14, u15, u16, u17, u18, u19, u20, u21, u22, u23, u24, u25, u26, u27, u28, u29, u30, u31, u32, u33, u34, u35, u36, u37, u38, u39, u40, u41, u42, u43, u44, u45, u46, u47, u48, u49, u50, u51, u52, u53, u54, u55, u56, u57, u58, u59, u60, u61, u62, u63, u64, u65, u66, u67, u68, u69, u70, u71, u72, u73, u74, u75, u76, u77, htm⟩
    simp only at hdf htm
    subst hdf htm
    obtain ⟨lo, lc, rfl⟩ := hrd.shape
    obtain ⟨vo, vc, rfl⟩ := hfd.shape
    have hrd2 : Rd w2 (.slice lo rest.length lc) rest := rd_row hrd ROW1.out (fun u hu => by simp at hu; rcases hu with rfl | rfl | rfl; exact noByte_slice _ _ _; exact noByte_u64 _; exact noByte_i64 _) hch
    have hall : (k ++ b).length ≤ 500000 := by rw [List.length_append]; exact HL.out
    have hr1 : r < w1.heap.size := by have := C1.out.size; have := LT.out.1; omega
    have hg1 : g < w1.heap.size := by have := C1.out.size; have := LT.out.2; omega
    have hp := parse_any (.slice lo rest.length lc) rest w2 hrd2 (by omega)
    have HP := Lib.hid hp; have HCH := Lib.hid hch; have HROW := Lib.hid hrow; have HFD := Lib.hid hfd; have HRD := Lib.hid hrd; have HRD2 := Lib.hid hrd2; have HSC := Lib.hid hsc; have HRS := Lib.hid hrs; have HGE := Lib.hid hge; have HLE := Lib.hid hle; have HLN := Lib.hid hln; have HALL := Lib.hid hall; have HR1 := Lib.hid hr1; have HG1 := Lib.hid hg1
    clear hp hch hrow hfd hrd hrd2 hsc hrs hge hle hln hall hr1 hg1 hc0 hc2
    go_wp2_with (go_at_call 41; refine HP.out.mono ?_)
    rintro e w3 ⟨t, rfl, hx3, hrd3, hfr⟩
    obtain ⟨ta, tc, rfl⟩ := hrd3.shape
    have hx4 : Ext w2 (w3.alloc (.cells #[.int .u8 (frV rest : Nat), .int .u8 (frK rest : Nat), .slice ta (frP rest).length tc] 48)) := hx3.alloc _
    have hrow4 : (w3.alloc (.cells #[.int .u8 (frV rest : Nat), .int .u8 (frK rest : Nat), .slice ta (frP rest).length tc] 48)).heap[r]? = some (.cells #[.slice (some ⟨g, 0, none⟩) k.length 4105, .int .u64 (at' : Nat), .int .i64 0] 83 (0, 0)) := by
      rw [hx4.block r (Array.getElem?_eq_some_iff.1 HROW.out).1 (fun f => f)]; exact HROW.out
    have HX4 := Lib.hid hx4; have HROW4 := Lib.hid hrow4; have HRD3 := Lib.hid hrd3; have HFR := Lib.hid hfr; have HX3 := Lib.hid hx3
    have c0 : (w3.alloc (.cells #[.int .u8 (frV rest : Nat), .int .u8 (frK rest : Nat), .slice ta (frP rest).length tc] 48)).cell? ⟨r, 0, none⟩ = some (.slice (some ⟨g, 0, none⟩) k.length 4105) := by rw [cell_of_row _ _ _ _ _ _ hrow4]; rfl
    have c1 : (w3.alloc (.cells #[.int .u8 (frV rest : Nat), .int .u8 (frK rest : Nat), .slice ta (frP rest).length tc] 48)).cell? ⟨r, 1, none⟩ = some (.int .u64 (at' : Nat)) := by rw [cell_of_row _ _ _ _ _ _ hrow4]; rfl
    have c2 : (w3.alloc (.cells #[.int .u8 (frV rest : Nat), .int .u8 (frK rest : Nat), .slice ta (frP rest).length tc] 48)).cell? ⟨r, 2, none⟩ = some (.int .i64 0) := by rw [cell_of_row _ _ _ _ _ _ hrow4]; rfl
    have f0 := frozen_of_row _ r 0 _ _ hrow4
    have f1 := frozen_of_row _ r 1 _ _ hrow4
    have f2 := frozen_of_row _ r 2 _ _ hrow4
    have C0 := Lib.hid c0; have C1' := Lib.hid c1; have C2 := Lib.hid c2; have F0 := Lib.hid f0; have F1 := Lib.hid f1; have F2 := Lib.hid f2
    clear hx4 hrow4 hrd3 hfr hx3 c0 c1 c2 f0 f1 f2
    have hbase : w.heap.size ≤ w1.heap.size := C1.out.size
    have HBASE := Lib.hid hbase; clear hbase
    by_cases hE0 : frErr rest = 0
    · have b33 : ((frErr rest : Int) == 0) = true := by simp; omega
      go_wp2
      refine wp_region_late (foundT r w3.heap.size (.slice vo fs.length vc) (frV rest) (frK rest) at' (frSize rest) ta (frP rest).length tc) (foundT' w1.heap.size (fs ++ [⟨frV rest, frK rest, frP rest, at', frSize rest⟩])) 9 (fun w' => Ch (fun i => w1.heap.size ≤ i) w2 w') mixedS (by rfl) (by rfl) (by decide) ?all ?fin
      case all =>
        refine ⟨?_, ?_, ?_, ?_, ?_, ?_, ?_, ?_, ?_, ?_, ?_, trivial⟩
        · refine StepG.early (by rfl) (by decide) rfl fun ρ w5 hρ hw hf => ?_
          have h7 : ρ (.tmp 7) = (.slice vo fs.length vc) := (hf 7).2 rfl rfl
          exact Exec.kmove rfl rfl h7
        · refine StepG.early (by rfl) (by decide) rfl fun ρ w5 hρ hw hf => ?_
          have h8 : ρ (.tmp 8) = (.pointer (some ⟨w3.heap.size, 0, none⟩)) := (hf 8).2 rfl rfl
          have hg : w5.heap[w3.heap.size]? = some (.cells #[.int .u8 (frV rest : Nat), .int .u8 (frK rest : Nat), .slice ta (frP rest).length tc] 48 (0, 0)) := by
            rw [hw.block _ (by simp) (fun f => f)]; exact heap_alloc_new w3 _
          exact Exec.kloadrow rfl rfl h8 hg Try.underlying48 rfl infoFr rfl
        · refine StepG.early (by rfl) (by decide) rfl fun ρ w5 hρ hw hf => ?_
          have h0 : ρ (.tmp 0) = (.pointer (some ⟨r, 0, none⟩)) := (hf 0).2 rfl rfl
          exact Exec.kmove rfl rfl h0
        · refine StepG.early (by rfl) (by decide) rfl fun ρ w5 hρ hw hf => ?_
          have h36 : ρ (.tmp 36) = (.pointer (some ⟨r, 0, none⟩)) := (hf 36).1 rfl
          exact Exec.same (v := .pointer (some ⟨r, 0, none⟩)) rfl (by simp [go_sem, hρ.const, h36]) rfl
        · refine StepG.early (by rfl) (by decide) rfl fun ρ w5 hρ hw hf => ?_
          have h37 : ρ (.tmp 37) = (.pointer (some ⟨r, 0, none⟩)) := (hf 37).1 rfl
          exact Exec.kfield rfl rfl h37 (fld83_1 w5 r) rfl
        · refine StepG.early (by rfl) (by decide) rfl fun ρ w5 hρ hw hf => ?_
          have h38 : ρ (.tmp 38) = (.pointer (some ⟨r, 1, none⟩)) := (hf 38).1 rfl
          have hc := hw.cell (p := ⟨r, 1, none⟩) (fun f => f) _ C1'.out
          exact Exec.same (v := .int .u64 (at' : Nat)) rfl (by simp [go_sem, hρ.const, h38, hc]) rfl
        · refine StepG.early (by rfl) (by decide) rfl fun ρ w5 hρ hw hf => ?_
          have h9 : ρ (.tmp 9) = (.int .i64 (frSize rest : Nat)) := (hf 9).2 rfl rfl
          exact Exec.kmove rfl rfl h9
        · refine StepG.early (by rfl) (by decide) rfl fun ρ w5 hρ hw hf => ?_
          have h35 : ρ (.tmp 35) = (.agg #[.int .u8 (frV rest : Nat), .int .u8 (frK rest : Nat), .slice ta (frP rest).length tc]) := (hf 35).1 rfl
          have h39 : ρ (.tmp 39) = (.int .u64 (at' : Nat)) := (hf 39).1 rfl
          have h40 : ρ (.tmp 40) = (.int .i64 (frSize rest : Nat)) := (hf 40).1 rfl
          exact Exec.kbuild3 rfl rfl h35 h39 h40 (bld50 w5 _ _ _ _ _ _ _) rfl
        · refine StepG.early (by rfl) (by decide) rfl fun ρ w5 hρ hw hf => ?_
          have h41 : ρ (.tmp 41) = (.agg #[.int .u8 (frV rest : Nat), .int .u8 (frK rest : Nat), .slice ta (frP rest).length tc, .int .u64 (at' : Nat), .int .i64 (frSize rest : Nat)]) := (hf 41).1 rfl
          refine Exec.kalloc (v := .slice (some ⟨w5.heap.size, 0, none⟩) 1 1) (ob := .cells #[.int .u8 (frV rest : Nat), .int .u8 (frK rest : Nat), .slice ta (frP rest).length tc, .int .u64 (at' : Nat), .int .i64 (frSize rest : Nat)] 50) rfl ?_ ?_
          · unfold execOp
            simp only [List.map_toArray, List.map_cons, List.map_nil, h41, Sem.run_bind, one27, Result.andThen_ok, Sem.run_pure]
          · exact Sl.ofOwns (base := 0) (e := 50) (size := 5) (World.ownsRow_lit w5 #[.int .u8 (frV rest : Nat), .int .u8 (frK rest : Nat), .slice ta (frP rest).length tc, .int .u64 (at' : Nat), .int .i64 (frSize rest : Nat)] 1 (Nat.zero_le _) (by decide) rfl)
        · refine StepG.write (late := [43, 7]) (by rfl) rfl (fun d v w w' hd _ => ?_) fun ρ w5 hρ hw hf => ?_
          · unfold foundT'
            split
            · exact absurd (by decide) hd
            · exact absurd (by decide) hd
            · exact trivial
          · have h34 : ρ (.tmp 34) = (.slice vo fs.length vc) := (hf 34).1 rfl
            have h42 : Sl w5 (ρ (.tmp 42)) 1 [.int .u8 (frV rest : Nat), .int .u8 (frK rest : Nat), .slice ta (frP rest).length tc, .int .u64 (at' : Nat), .int .i64 (frSize rest : Nat)] := (hf 42).1 rfl
            obtain ⟨fi, fhi, fhz, fhsz, fhby⟩ := info_parts infoFound
            have hx5 : Ext w2 w5 := HX4.out.trans hw
            have hx35 : Ext w3 w5 := ((Ch.refl _ _).alloc _).trans hw
            have hbs : w1.heap.size ≤ w2.heap.size := HCH.out.size
            have hb5 := hx5.size
            have hall := HALL.out; have hln := HLN.out
            have hfd5 := HFD.out.ext hx5
            obtain ⟨v', w', q1, q2, q3⟩ := run_append_fd (P := Try.prog) (w := w5) w1.heap.size w1.heap.size 27 27 50 fi _ 48 Try.underlying27 fhi fhz fhsz fhby rfl (l2 := [⟨frV rest, frK rest, frP rest, at', frSize rest⟩]) hfd5 h42
              ⟨_, [], rfl, HRD3.out.ext hx35, fun x l c e _ _ => ⟨Nat.le_trans hbs (HFR.out x l c e), fun ho => by have h1 := (HFD.out.ownlt ho).2; have h2 := HFR.out x l c e; omega⟩, rfl⟩ (by simp; omega) (by unfold maxLen; simp; omega) (by omega)
            refine Exec.kappendrun rfl h34 rfl q1 ⟨fun d hd => by cases hd; exact q2, ?_⟩
            exact (hx5.ch (M := fun i => w1.heap.size ≤ i)).trans (q3.mono fun i _ ho => (hfd5.ownlt ho).1)
        · refine StepG.later (late := [43, 7]) (by rfl) (by decide) rfl rfl fun ρ w5 hρ hw hf => ?_
          have h43 : (Kn.fd w1.heap.size w1.heap.size 50 .u64 (fs ++ [⟨frV rest, frK rest, frP rest, at', frSize rest⟩])).holds (ρ (.tmp 43)) w5 := (hf 43).1 rfl
          exact Exec.assign rfl ⟨fun d hd => by cases hd; exact h43, rfl⟩
      case fin =>
        intro ν w6 hfin hc6
        have h7 : FdL w6 w1.heap.size w1.heap.size 50 .u64 (ν 7) (fs ++ [⟨frV rest, frK rest, frP rest, at', frSize rest⟩]) := hfin 10 7 rfl
        simp only [Exit.then, ended, List.foldl_cons, List.foldl_nil, List.setIfInBounds_toArray, List.set_cons_succ, List.set_cons_zero]
        obtain ⟨z1, z2, z3⟩ := frErr_zero hE0
        have hrow6 : w6.heap[r]? = some (.cells #[.slice (some ⟨g, 0, none⟩) k.length 4105, .int .u64 (at' : Nat), .int .i64 0] 83 (0, 0)) := by
          rw [hc6.block r (Array.getElem?_eq_some_iff.1 HROW.out).1 (fun f => by have := HR1.out; omega)]; exact HROW.out
        have c1 : w6.cell? ⟨r, 1, none⟩ = some (.int .u64 (at' : Nat)) := by rw [cell_of_row _ _ _ _ _ _ hrow6]; rfl
        have f1 := frozen_of_row _ r 1 _ _ hrow6
        obtain ⟨left', hd1, hd2⟩ := run_drop_all Try.underlying22 HI.out HSZ.out HRD.out (frSize rest) (by omega)
        obtain ⟨lo', lc', rfl⟩ := hd2.shape
        obtain ⟨sn, hsn⟩ : ∃ sn : Nat, sn = at' + frSize rest := ⟨_, rfl⟩
        have hle := HLE.out; have hall := HALL.out; have hA := HA.out; have hln := HLN.out; have hge := HGE.out
        have hrl : rest.length = (k ++ b).length - (at' - a) := by have := congrArg List.length HRS.out; rwa [List.length_drop] at this
        have hdl : (rest.drop (frSize rest)).length = rest.length - frSize rest := List.length_drop
        have hw1 : IntKind.u64.wrap (frSize rest : Int) = (frSize rest : Int) := wrap_u64_of (by omega) (by omega)
        have hw2 : IntKind.u64.wrap ((at' : Int) + (frSize rest : Int)) = (sn : Int) := by rw [hsn]; rw [wrap_u64_of (by omega) (by omega)]; omega
        have hc7 : Ch (fun i => i = r) w1 (w6.setCell ⟨r, 1, none⟩ (.int .u64 (sn : Nat))) := Ch.setCell (Ch.transNew HCH.out (hc6.mono fun _ _ h => .inr h)) (.inl rfl) _
        have hr7 := heap_setCell_same w6 r 1 _ _ (.int .u64 (sn : Nat)) hrow6
        have hf7 := h7.keep (Ch.setCell (M := fun i => i = r) (p := ⟨r, 1, none⟩) (Ch.refl _ w6) (.inl rfl) (.int .u64 (sn : Nat))) fun i h => by have := HR1.out; subst h; exact ⟨by assumption, by assumption⟩
        have hs7 : sc a (k ++ b) = ((fs ++ [⟨frV rest, frK rest, frP rest, at', frSize rest⟩]) ++ (sc sn (rest.drop (frSize rest))).1, (sc sn (rest.drop (frSize rest))).2) := by rw [HSC.out, sc_ok at' hE0, hsn]; simp
        have hd7 : rest.drop (frSize rest) = (k ++ b).drop (sn - a) := by
          have e := congrArg (List.drop (frSize rest)) HRS.out
          rw [List.drop_drop] at e
          rw [e]
          congr 1
          omega
        have HJ : Hid (∀ u8 u9 u10 u11 u12 u13 u14 u15 u16 u17 u18 u19 u20 u21 u22 u23 u24 u25 u26 u27 u28 u29 u30 u31 u32 u33 u34 u35 u36 u37 u38 u39 u40 u41 u42 u43 u44 u45 u46 u47 u48 u49 u50 u51 u52 u53 u54 u55 u56 u57 u58 u59 u60 u61 u62 u63 u64 u65 u66 u67 u68 u69 u70 u71 u72 u73 u74 u75 u76 u77 : Value, FeedJ r x w1 (.slice (some ⟨g, 0, none⟩) k.length 4105) a (k ++ b) ⟨#[.pointer (some ⟨r, 0, none⟩), x, undef, undef, .slice none 0 0, .int .i64 0, .slice lo' (rest.drop (frSize rest)).length lc', ν 7, u8, u9, u10, u11, u12, u13, u14, u15, u16, u17, u18, u19, u20, u21, u22, u23, u24, u25, u26, u27, u28, u29, u30, u31, u32, u33, u34, u35, u36, u37, u38, u39, u40, u41, u42, u43, u44, u45, u46, u47, u48, u49, u50, u51, u52, u53, u54, u55, u56, u57, u58, u59, u60, u61, u62, u63, u64, u65, u66, u67, u68, u69, u70, u71, u72, u73, u74, u75, u76, u77], []⟩ (w6.setCell ⟨r, 1, none⟩ (.int .u64 (sn : Nat)))) := Lib.hid (by
          intro u8 u9 u10 u11 u12 u13 u14 u15 u16 u17 u18 u19 u20 u21 u22 u23 u24 u25 u26 u27 u28 u29 u30 u31 u32 u33 u34 u35 u36 u37 u38 u39 u40 u41 u42 u43 u44 u45 u46 u47 u48 u49 u50 u51 u52 u53 u54 u55 u56 u57 u58 u59 u60 u61 u62 u63 u64 u65 u66 u67 u68 u69 u70 u71 u72 u73 u74 u75 u76 u77
          refine ⟨_, sn, rest.drop (frSize rest), _, ν 7, hc7, hr7, hf7, hd2, hs7, hd7, by omega, by omega, ?_, rfl, u8, u9, u10, u11, u12, u13, u14, u15, u16, u17, u18, u19, u20, u21, u22, u23, u24, u25, u26, u27, u28, u29, u30, u31, u32, u33, u34, u35, u36, u37, u38, u39, u40, u41, u42, u43, u44, u45, u46, u47, u48, u49, u50, u51, u52, u53, u54, u55, u56, u57, u58, u59, u60, u61, u62, u63, u64, u65, u66, u67, u68, u69, u70, u71, u72, u73, u74, u75, u76, u77, rfl⟩
          have e1 : (fs ++ [(⟨frV rest, frK rest, frP rest, at', frSize rest⟩ : Fnd)]).length = fs.length + 1 := by simp
          rw [hdl, e1]
          omega)
        have HDL : Hid ((rest.drop (frSize rest)).length < rest.length) := Lib.hid (by omega)
        generalize hdn : (rest.drop (frSize rest)).length = dn at *
        clear hfin hc6 h7 hd2 hrl hdl hc7 hr7 hf7 hs7 hd7 hdn hsn hle hall hA hln hge z1 z2 z3 hrow6
        go_wp2
        refine wp_goto ?_
        simp only [Exit.then, Exit.jump]
        refine ⟨rfl, HJ.out _ _ _ _ _ _ _ _ _ _ _ _ _ _ _ _ _ _ _ _ _ _ _ _ _ _ _ _ _ _ _ _ _ _ _ _ _ _ _ _ _ _ _ _ _ _ _ _ _ _ _ _ _ _ _ _ _ _ _ _ _ _ _ _ _ _ _ _ _ _, ?_⟩
        simp [leftLen]
        exact HDL.out
    by_cases hE1 : frErr rest = 1
    · have b33 : ((frErr rest : Int) == 0) = false := by simp; omega
      have b57 : ((frErr rest : Int) != 1) = false := by simp; omega
      have hown3 := own_keep (own_less OWN1.out 0 (Nat.zero_le _)) HCH.out NE.out
      have hown4 := own_keep hown3 HX4.out (fun f => f)
      rw [Nat.zero_mul, List.take_zero] at hown4
      obtain ⟨v5, w5, r5, c5, rd5, own5, room5⟩ := run_append_kept (w3.alloc (.cells #[.int .u8 (frV rest : Nat), .int .u8 (frK rest : Nat), .slice ta (frP rest).length tc] 48)) 22 22 5 i Try.underlying22 HI.out HZ.out HSZ.out HBY.out g 4105 [] rest (.slice lo rest.length lc) hown4 (HRD2.out.ext HX4.out) (by have := HALL.out; have := HLN.out; simp; omega)
      obtain ⟨rfl, own5'⟩ := room5 (by have := frErr_one hE1; simpa using this)
      have hrow5 : w5.heap[r]? = some (.cells #[.slice (some ⟨g, 0, none⟩) k.length 4105, .int .u64 (at' : Nat), .int .i64 0] 83 (0, 0)) := by
        rw [c5.block r (Array.getElem?_eq_some_iff.1 HROW4.out).1 (fun e => NE.out e.symm)]; exact HROW4.out
      have f5 := frozen_of_row _ r 0 _ _ hrow5
      have c50 : w5.cell? ⟨r, 0, none⟩ = some (.slice (some ⟨g, 0, none⟩) k.length 4105) := by rw [cell_of_row _ _ _ _ _ _ hrow5]; rfl
      have hcut : ∀ w, (Instr.sliceAt 22 (.slice (some ⟨g, 0, none⟩) k.length 4105) none (some (.int .i64 0)) none).run Try.prog w = .ok (.slice (some ⟨g, 0, none⟩) 0 4105) w := fun w => by
        simpa using run_cut_h (P := Try.prog) (w := w) Try.underlying22 HI.out HSZ.out g 0 k.length 4105 0 (Nat.zero_le _)
      have hsc' : sc a (k ++ b) = (fs, at', 0) := by rw [HSC.out, sc_short at' hE1]; simp
      have hP : FeedPost r g k b a w (.returned (.tuple #[.slice vo fs.length vc, .int .i64 0])) (w5.setCell ⟨r, 0, none⟩ (.slice (some ⟨g, 0, none⟩) ([] ++ rest).length 4105)) := by
        have hk : Ch (fun i => i = g ∨ i = r) w2 (w5.setCell ⟨r, 0, none⟩ (.slice (some ⟨g, 0, none⟩) ([] ++ rest).length 4105)) := Ch.setCell (((HX4.out.ch (M := fun i => i = g ∨ i = r)).trans (c5.mono fun _ _ h => .inl h))) (.inl (.inr rfl)) _
        have ho : (w5.setCell ⟨r, 0, none⟩ (.slice (some ⟨g, 0, none⟩) ([] ++ rest).length 4105)).ownsRow g 5 1 (.slice (some ⟨g, 0, none⟩) ([] ++ rest).length 4105) ([] ++ rest).length (cellsB ([] ++ rest)) :=
          own_keep own5' (Ch.setCell (M := fun i => i = r) (Ch.refl _ _) (.inl rfl) _) NE.out
        have hcr := heap_setCell_same w5 r 0 _ _ (.slice (some ⟨g, 0, none⟩) ([] ++ rest).length 4105) hrow5
        unfold FeedPost
        rw [hsc']
        simp only
        rw [if_pos trivial, ← HRS.out]
        refine ⟨.slice vo fs.length vc, rfl, ((C1.out.mono fun _ _ h => .inl h).trans (HCH.out.mono fun _ _ h => .inr h)).trans hk, ?_, ?_, ?_, NE.out, fun h => absurd rfl h⟩
        · exact (HFD.out.keep hk fun i h => by have := HR1.out; have := HG1.out; rcases h with rfl | rfl <;> exact ⟨by assumption, by assumption⟩).less HBASE.out HBASE.out
        · rw [if_pos rfl]; exact hcr
        · exact ho
      have HP5 := Lib.hid hP
      have R5 := Lib.hid r5
      have c0 := C0.out; have f0 := F0.out
      clear hP r5 hsc' hown3 hown4 c5 rd5 own5 own5' hrow5 room5
      have hln0 : ([] ++ rest).length = rest.length := rfl
      go_wp2_with (at_builtin; refine wpList_append_run rfl _ _ _ rfl rfl rfl R5.out ?_)
      go_wp2
      simp only [Exit.jump]
      refine bodyPost_ret (results_tmp2 rfl _ _ _) rfl ?_
      exact HP5.out
    · have b33 : ((frErr rest : Int) == 0) = false := by simp; omega
      have b57 : ((frErr rest : Int) != 1) = true := by simp; omega
      have c0 := C0.out; have c2 := C2.out; have f0 := F0.out; have f2 := F2.out
      have hsc' : sc a (k ++ b) = (fs, at', frErr rest) := by rw [HSC.out, sc_err at' hE0 hE1]; simp
      have hP : FeedPost r g k b a w (.returned (.tuple #[.slice vo fs.length vc, .int .i64 (frErr rest : Nat)])) (((w3.alloc (.cells #[.int .u8 (frV rest : Nat), .int .u8 (frK rest : Nat), .slice ta (frP rest).length tc] 48)).setCell ⟨r, 0, none⟩ (.slice none 0 0)).setCell ⟨r, 2, none⟩ (.int .i64 (frErr rest : Nat))) := by
        have hk1 : Ch (fun i => i = r) (w3.alloc (.cells #[.int .u8 (frV rest : Nat), .int .u8 (frK rest : Nat), .slice ta (frP rest).length tc] 48)) (((w3.alloc (.cells #[.int .u8 (frV rest : Nat), .int .u8 (frK rest : Nat), .slice ta (frP rest).length tc] 48)).setCell ⟨r, 0, none⟩ (.slice none 0 0)).setCell ⟨r, 2, none⟩ (.int .i64 (frErr rest : Nat))) := Ch.setCell (M := fun i => i = r) (p := ⟨r, 2, none⟩) (Ch.setCell (M := fun i => i = r) (p := ⟨r, 0, none⟩) (Ch.refl _ _) (.inl rfl) _) (.inl rfl) _
        have hk : Ch (fun i => i = g ∨ i = r) w2 (((w3.alloc (.cells #[.int .u8 (frV rest : Nat), .int .u8 (frK rest : Nat), .slice ta (frP rest).length tc] 48)).setCell ⟨r, 0, none⟩ (.slice none 0 0)).setCell ⟨r, 2, none⟩ (.int .i64 (frErr rest : Nat))) := (HX4.out.ch).trans (hk1.mono fun _ _ h => .inr h)
        have ho := own_keep (own_keep (own_keep (own_less OWN1.out 0 (Nat.zero_le _)) HCH.out NE.out) HX4.out (fun f => f)) hk1 NE.out
        rw [Nat.zero_mul, List.take_zero] at ho
        have hcr := heap_setCell_same _ r 2 _ _ (.int .i64 (frErr rest : Nat)) (heap_setCell_same _ r 0 _ _ (.slice none 0 0) HROW4.out)
        unfold FeedPost
        rw [hsc']
        simp only
        rw [if_neg hE0]
        refine ⟨.slice vo fs.length vc, rfl, ((C1.out.mono fun _ _ h => .inl h).trans (HCH.out.mono fun _ _ h => .inr h)).trans hk, ?_, ?_, ?_, NE.out, fun _ => rfl⟩
        · exact (HFD.out.keep hk fun i h => by have := HR1.out; have := HG1.out; rcases h with rfl | rfl <;> exact ⟨by assumption, by assumption⟩).less HBASE.out HBASE.out
        · rw [if_neg hE0]; exact hcr
        · exact ho
      have HP5 := Lib.hid hP
      clear hP hsc'
      go_wp2
      simp only [Exit.jump]
      refine bodyPost_ret (results_tmp2 rfl _ _ _) rfl ?_
      exact HP5.out
end Go.Proofs.Ytoggnmfjkbnopaa
