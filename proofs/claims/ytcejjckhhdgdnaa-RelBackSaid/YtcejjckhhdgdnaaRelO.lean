/-
  Relations: the law's Own. MADE BY mkRelOwn.py
-/
import Derived.Test.YtcejjckhhdgdnaaRelL
import Derived.Test.YtcejjckhhdgdnaaLibF
import Derived.Test.YtcejjckhhdgdnaaLibG
namespace Go.Proofs.Ytcejjckhhdgdnaa
open Go.RowKit Go.Lac

theorem fieldOw_D3 (w : World) (b : Nat) : (Instr.fieldAt 32 (.pointer (some ⟨b, 0, none⟩)) 3).run Try.prog w = .ok (.pointer (some ⟨b, 4, none⟩)) w := by kernel_rfl
theorem fieldOw_S3 (w : World) (b : Nat) : (Instr.fieldAt 27 (.pointer (some ⟨b, 0, none⟩)) 3).run Try.prog w = .ok (.pointer (some ⟨b, 4, none⟩)) w := by kernel_rfl
theorem fieldOw_C0 (w : World) (b o : Nat) : (Instr.fieldAt 50 (.pointer (some ⟨b, o, none⟩)) 0).run Try.prog w = .ok (.pointer (some ⟨b, o, none⟩)) w := by kernel_rfl
theorem fieldOw_C1 (w : World) (b o : Nat) : (Instr.fieldAt 50 (.pointer (some ⟨b, o, none⟩)) 1).run Try.prog w = .ok (.pointer (some ⟨b, o + 1, none⟩)) w := by kernel_rfl
theorem fieldOw_C2 (w : World) (b o : Nat) : (Instr.fieldAt 50 (.pointer (some ⟨b, o, none⟩)) 2).run Try.prog w = .ok (.pointer (some ⟨b, o + 2, none⟩)) w := by kernel_rfl
theorem buildOw (w : World) (A : ByteArray) (n : Int) (k : Bool) : (Instr.build 49 #[(0, .string A), (1, .int .u8 n), (2, .bool k)]).run Try.prog w = .ok (.agg #[.string A, .int .u8 n, .bool k]) w := by kernel_rfl
theorem oneOw (w : World) (A : ByteArray) (n : Int) (k : Bool) : (Instr.buildSlice 30 1 #[(0, .agg #[.string A, .int .u8 n, .bool k])]).run Try.prog w = .ok (.slice (some ⟨w.heap.size, 0, none⟩) 1 1) (w.alloc (.cells #[.string A, .int .u8 n, .bool k] 49)) := by kernel_rfl
theorem brfOw (w : World) (x y : Int) : (Instr.build 29 #[(0, .int .u32 x), (1, .int .u32 y)]).run Try.prog w = .ok (.agg #[.int .u32 x, .int .u32 y]) w := by kernel_rfl
theorem brlOw (w : World) (x y i : Int) (A : ByteArray) : (Instr.build 32 #[(0, .agg #[.int .u32 x, .int .u32 y]), (1, .string A), (2, .int .u8 i)]).run Try.prog w = .ok (.agg #[.int .u32 x, .int .u32 y, .string A, .int .u8 i, .slice none 0 0]) w := by kernel_rfl
theorem infoOw : (Try.prog.info? 32).map (·.size) = some 5 := by kernel_rfl
theorem infoSOw : (Try.prog.info? 50).map (fun i => (i.zero, i.size, i.bytes)) = some (some (.agg #[.string ⟨#[]⟩, .int .u8 0, .bool false]), 3, 24) := by kernel_rfl
theorem infoDOw : (Try.prog.info? 49).map (fun i => (i.zero, i.size, i.bytes)) = some (some (.agg #[.string ⟨#[]⟩, .int .u8 0, .bool false]), 3, 24) := by kernel_rfl
theorem own_ne {w : World} {base : Nat} {e : TypeId} {size : Nat} {v : Value} {n : Nat} {xs : List Value} (h : w.ownsRow base e size v n xs) {g : Nat} {c : Array Value} {T : TypeId} {o : Nat × Nat} (hg : w.heap[g]? = some (.cells c T o)) (hT : T ≠ e) : ∀ k, v.ownBlock = some k → k ≠ g := by
  rcases h.2 with ⟨rfl, _⟩ | ⟨g', cap, cur, rfl, hb, hh, _⟩
  · intro k hk; simp [Value.ownBlock] at hk
  · intro k hk e
    simp only [Value.ownBlock, Option.some.injEq] at hk
    subst hk; subst e
    rw [hg] at hh
    cases hh
    exact hT rfl
theorem gby_heap {w w' : World} {row : Option Nat} {g : Nat} {o : Obj} (h : w.grownBy w' row) (hg : w.heap[g]? = some o) (hne : row ≠ some g) : w'.heap[g]? = some o :=
  (h.block g (Array.getElem?_eq_some_iff.1 hg).1 (fun e => hne e.symm)).trans hg
theorem gby_setCell (w : World) (p : Addr) (v : Value) : w.grownBy (w.setCell p v) (some p.block) :=
  ⟨rfl, rfl, rfl, (KeepsWalks.setCell w p v).size, fun k _ hk => Below.heap_setCell _ _ _ k (fun e => hk (by rw [e]))⟩
theorem ownsRow_succ' {w : World} {base : Nat} {e : TypeId} {size : Nat} {v : Value} {k : Nat} {xs : List Value} (h : w.ownsRow base e size v (k + 1) xs) : ∃ g cap, v = .slice (some ⟨g, 0, none⟩) (k + 1) cap := by
  rcases h.2 with ⟨_, h0⟩ | ⟨g, cap, _, rfl, _⟩
  · omega
  · exact ⟨g, cap, rfl⟩
theorem gby_setRow (w : World) (g : Nat) (cs : Array Value) : w.grownBy (w.setRow g cs) (some g) :=
  ⟨rfl, rfl, rfl, by simp, fun k _ hk => setRow_other _ _ _ _ (fun e => hk (by rw [e]))⟩
theorem relv_one (r : Rl) (ao : Option Addr) (n cap : Nat) : ((relv r (.slice ao n cap)).all fun x => x.oneCell') = true := by simp [relv, strV, Value.oneCell']
def Kn.colS (l : List Col) : Kn := ⟨fun v w => ColS w v l, fun _ _ _ k h => ColS.ext h k⟩
def Kn.ownC (base : Nat) (T : TypeId) (n : Nat) (l : List Col) : Kn := ⟨fun v w => w.ownsRow base T 3 v n (colC l), fun _ _ _ k h => h.ext k⟩
/-- A relation copied: its columns lie in new memory. -/
def OwnPost (T : TypeId) (r : Rl) (w : World) (e : Ending) (w' : World) : Prop :=
  ∃ cv, e = .returned (.agg (relv r cv)) ∧ Ext w w' ∧ w'.ownsRow w.heap.size T 3 cv r.cols.length (colC r.cols)
def ownT (TC : TypeId) (base g1 g3 b o m cap k : Nat) (v' : Value) (x : Col) (r : Rl) : Nat → Tmp → Kn
  | 0 => fun d => match d with
    | 24 => .is (.pointer (some ⟨g3, 4, none⟩))
    | 25 => .is v'
    | 26 => .is (.pointer (some ⟨g1, 4, none⟩))
    | 27 => .is (.slice (some ⟨b, o, none⟩) m cap)
    | 28 => .is (.int .i64 (k : Nat))
    | 29 => .is (.pointer (some ⟨b, o + k * 3, none⟩))
    | 30 => .is (.pointer (some ⟨b, o + k * 3, none⟩))
    | 31 => .is (.string ⟨x.name.toArray⟩)
    | 32 => .is (.pointer (some ⟨g1, 4, none⟩))
    | 33 => .is (.slice (some ⟨b, o, none⟩) m cap)
    | 34 => .is (.int .i64 (k : Nat))
    | 35 => .is (.pointer (some ⟨b, o + k * 3, none⟩))
    | 36 => .is (.pointer (some ⟨b, o + k * 3 + 1, none⟩))
    | 37 => .is (.int .u8 (x.ty : Nat))
    | 38 => .is (.pointer (some ⟨g1, 4, none⟩))
    | 39 => .is (.slice (some ⟨b, o, none⟩) m cap)
    | 40 => .is (.int .i64 (k : Nat))
    | 41 => .is (.pointer (some ⟨b, o + k * 3, none⟩))
    | 42 => .is (.pointer (some ⟨b, o + k * 3 + 2, none⟩))
    | 43 => .is (.bool x.key)
    | 44 => .is (pcol x)
    | 45 => Kn.colS [x]
    | 47 => .is (.pointer (some ⟨g3, 4, none⟩))
    | _ => .any
  | 1 => fun d => match d with
    | 46 => Kn.ownC base TC (k + 1) (r.cols.take (k + 1))
    | 47 => .is (.pointer (some ⟨g3, 4, none⟩))
    | _ => .any
  | _ => fun _ => .any
theorem ownT_1 {TC : TypeId} {base g1 g3 b o m cap k : Nat} {v' : Value} {x : Col} {r : Rl} {d : Tmp} (h1 : d ≠ 46) (h2 : d ≠ 47) : ownT TC base g1 g3 b o m cap k v' x r 1 d = .any := by
  show (match d with | 46 => Kn.ownC base TC (k + 1) (r.cols.take (k + 1)) | 47 => Kn.is (.pointer (some ⟨g3, 4, none⟩)) | _ => Kn.any) = _
  split
  · exact absurd rfl h1
  · exact absurd rfl h2
  · rfl
def ownF (TS TD TC : TypeId) (w wr : World) (g1 g2 g3 : Nat) (r : Rl) (cv v' z : Value) (k : Nat) : Nat → World → Prop
  | 0 => fun w2 => Ext wr w2
  | 1 => fun w2 => Ext w w2 ∧ w2.heap[g1]? = some (.cells (relv r cv) TS (0, 0)) ∧ w2.heap[g2]? = some (.cells (relv .zero z) TD (0, 0)) ∧ w2.heap[g3]? = some (.cells (relv r v') TD (0, 0))
  | _ => fun w2 => Ext w w2 ∧ w2.heap[g1]? = some (.cells (relv r cv) TS (0, 0)) ∧ w2.heap[g2]? = some (.cells (relv .zero z) TD (0, 0)) ∧ ∃ vn, w2.heap[g3]? = some (.cells (relv r vn) TD (0, 0)) ∧ w2.ownsRow w.heap.size TC 3 vn (k + 1) (colC (r.cols.take (k + 1)))
theorem ownF_ext {TS TD TC : TypeId} {w wr : World} {g1 g2 g3 : Nat} {r : Rl} {cv v' z : Value} {k : Nat} : ∀ p w2 w3, ownF TS TD TC w wr g1 g2 g3 r cv v' z k p w2 → Ext w2 w3 → ownF TS TD TC w wr g1 g2 g3 r cv v' z k p w3
  | 0, _, _, h, hx => Ch.trans h hx
  | 1, _, _, ⟨h0, h1, h2, h3⟩, hx => ⟨h0.trans hx, heap_ext hx h1, heap_ext hx h2, heap_ext hx h3⟩
  | _ + 2, _, _, ⟨h0, h1, h2, vn, h3, h4⟩, hx => ⟨h0.trans hx, heap_ext hx h1, heap_ext hx h2, vn, heap_ext hx h3, h4.ext hx⟩
set_option maxRecDepth 20000 in
set_option maxHeartbeats 4000000 in
theorem relOwn_any (r : Rl) (cv : Value) (w : World) (hb : ColS w cv r.cols) (hl : r.cols.length ≤ 1000000000000) :
    Calls Try.prog 13 #[.agg (relv r cv)] w (OwnPost 49 r w) := by
  have h1 := heap_alloc_new w (.cells (relv r cv) 27)
  obtain ⟨W, hW⟩ : ∃ W, W = ((w.alloc (.cells (relv r cv) 27)).alloc (.cells (relv .zero (.slice none 0 0)) 32)).alloc (.cells (relv r (.slice none 0 0)) 32) := ⟨_, rfl⟩
  obtain ⟨ga, gb, gc⟩ := heap_alloc3 w (.cells (relv r cv) 27) (.cells (relv .zero (.slice none 0 0)) 32) (.cells (relv r (.slice none 0 0)) 32)
  rw [← hW] at ga gb gc
  have hx : Ext w W := by rw [hW]; exact (((Ch.refl _ _).alloc _).alloc _).alloc _
  obtain ⟨ao, cap, rfl, hlc, hcm, _⟩ := id hb
  obtain ⟨c0, c1, c2, c3, c4⟩ := row_cells h1
  have GA := Lib.hid ga; have GB := Lib.hid gb; have GC := Lib.hid gc; have HX := Lib.hid hx; have HB := Lib.hid hb
  have HW : Hid (W = ((w.alloc (.cells #[.int .u32 (r.oid : Nat), .int .u32 (r.ver : Nat), .string ⟨r.name.toArray⟩, .int .u8 (r.ident : Nat), .slice ao r.cols.length cap] 27)).alloc (.cells #[.int .u32 0, .int .u32 0, .string ⟨#[]⟩, .int .u8 0, .slice none 0 0] 32)).alloc (.cells #[.int .u32 (r.oid : Nat), .int .u32 (r.ver : Nat), .string ⟨r.name.toArray⟩, .int .u8 (r.ident : Nat), .slice none 0 0] 32)) := Lib.hid hW
  obtain ⟨si, sxi, _, sxs, _⟩ := info_parts infoSOw
  obtain ⟨di, dxi, dz, dxs, db⟩ := info_parts infoDOw
  have CSI := Lib.hid sxi; have CSS := Lib.hid sxs; have CDI := Lib.hid dxi; have CDZ := Lib.hid dz; have CDS := Lib.hid dxs; have CDB := Lib.hid db
  have hm63 : r.cols.length ≤ 9223372036854775807 := by omega
  have HL := Lib.hid hl
  generalize hm : r.cols.length = m at *
  have HM := Lib.hid hm
  have bd1 := fun w => brfOw w (r.oid : Nat) (r.ver : Nat)
  have bd2 := fun w => brlOw w (r.oid : Nat) (r.ver : Nat) (r.ident : Nat) ⟨r.name.toArray⟩
  clear h1 ga gb gc hx hb hW sxi sxs dxi dz dxs db hm hl hlc hcm
  unfold relv strV at c0 c1 c2 c3 c4
  unfold relv strV
  go_enter Try.func13, Try.ntmps13
  go_wp2
  rw [← HW.out]
  clear HW c0 c1 c2 c3 c4 bd1 bd2
  go_loopw [4] (fun ix wr => ∃ (k : Nat) (v' : Value), k ≤ m ∧ ix = .int .i64 k ∧ Hid (Ext w wr) ∧ Hid (wr.heap[w.heap.size]? = some (.cells (relv r (.slice ao m cap)) 27 (0, 0))) ∧ Hid (wr.heap[w.heap.size + 1]? = some (.cells (relv .zero (.slice none 0 0)) 32 (0, 0))) ∧
    Hid (wr.heap[w.heap.size + 1 + 1]? = some (.cells (relv r v') 32 (0, 0))) ∧ Hid (wr.ownsRow w.heap.size 49 3 v' k (colC (r.cols.take k)))) (fun ix _ => m - (intOf ix).toNat)
  case atStart => exact ⟨0, .slice none 0 0, Nat.zero_le _, rfl, HX, GA, GB, GC, Lib.hid (World.ownsRow_nil _ _ _ _)⟩
  case round =>
    obtain ⟨k, v', hk, rfl, HXr, G1, G2, G3, HOW⟩ := hrel
    have c4 : wr.cell? ⟨w.heap.size, 4, none⟩ = some (.slice ao m cap) := by rw [cell_of_row _ _ _ _ _ _ G1.out]; rfl
    by_cases hlt : k < m
    · have hkl : k < r.cols.length := by have := HM.out; omega
      have hcs := ColS.ext HB.out HXr.out
      obtain ⟨b, o, rfl, hra⟩ := colS_at hcs hkl
      have hnx : colC (r.cols.take (k + 1)) = colC (r.cols.take k) ++ colC [r.cols[k]] := by rw [List.take_succ_eq_append_getElem hkl, colC_append]
      obtain ⟨x, hx⟩ : ∃ x, x = r.cols[k] := ⟨_, rfl⟩
      rw [← hx] at hra hnx
      have HQ := Lib.hid hra; have HNX := Lib.hid hnx; have HLT := Lib.hid hlt
      have HK : Hid (k < 1000000000000) := Lib.hid (by have := HL.out; omega)
      have HC1 := Lib.hid c4
      have HC3 : Hid (wr.cell? ⟨w.heap.size + 1 + 1, 4, none⟩ = some v') := Lib.hid (by rw [cell_of_row _ _ _ _ _ _ G3.out]; rfl)
      obtain ⟨av, cv', hsv⟩ := owns_shape HOW.out
      have hFs := fun p w2 w3 => ownF_ext (TS := 27) (TD := 32) (TC := 49) (w := w) (wr := wr) (g1 := w.heap.size) (g2 := w.heap.size + 1) (g3 := w.heap.size + 1 + 1) (r := r) (cv := .slice (some ⟨b, o, none⟩) m cap) (v' := v') (z := .slice none 0 0) (k := k) p w2 w3
      have HSV := Lib.hid hsv
      clear hra hnx hx hcs hsv
      go_wp2
      refine wp_region_ph [22, 24] (ownT 49 w.heap.size w.heap.size (w.heap.size + 1 + 1) b o m cap k v' x r) (ownF 27 32 49 w wr w.heap.size (w.heap.size + 1) (w.heap.size + 1 + 1) r (.slice (some ⟨b, o, none⟩) m cap) v' (.slice none 0 0) k) mixedV (by rfl) (by rfl) (by decide) (Ch.drew (Ch.refl _ _)) ?all ?fin
      case all =>
        refine ⟨?_, ?_, ?_, ?_, ?_, ?_, ?_, ?_, ?_, ?_, ?_, ?_, ?_, ?_, ?_, ?_, ?_, ?_, ?_, ?_, ?_, ?_, ?_, ?_, ?_, trivial⟩
        · refine StepG.phPlain 0 0 (by decide) (by decide) (by rfl) rfl rfl hFs fun p hlo hhi ρ w2 hρ hF hf => ?_
          obtain rfl : p = 0 := by omega
          have h : ρ (.tmp 3) = .pointer (some ⟨w.heap.size + 1 + 1, 0, none⟩) := (hf 3).2 rfl rfl
          exact Exec.kfield rfl rfl h (fieldOw_D3 w2 _) rfl
        · refine StepG.phPlain 0 0 (by decide) (by decide) (by rfl) rfl rfl hFs fun p hlo hhi ρ w2 hρ hF hf => ?_
          obtain rfl : p = 0 := by omega
          have h : ρ (.tmp 24) = .pointer (some ⟨w.heap.size + 1 + 1, 4, none⟩) := (hf 24).1 rfl
          have hw : Ext wr w2 := hF
          have hc := hw.cell (p := ⟨w.heap.size + 1 + 1, 4, none⟩) (fun f => f) _ HC3.out
          exact Exec.same (v := v') rfl (by simp [go_sem, hρ.const, h, hc]) rfl
        · refine StepG.phPlain 0 0 (by decide) (by decide) (by rfl) rfl rfl hFs fun p hlo hhi ρ w2 hρ hF hf => ?_
          obtain rfl : p = 0 := by omega
          have h : ρ (.tmp 1) = .pointer (some ⟨w.heap.size, 0, none⟩) := (hf 1).2 rfl rfl
          exact Exec.kfield rfl rfl h (fieldOw_S3 w2 _) rfl
        · refine StepG.phPlain 0 0 (by decide) (by decide) (by rfl) rfl rfl hFs fun p hlo hhi ρ w2 hρ hF hf => ?_
          obtain rfl : p = 0 := by omega
          have h : ρ (.tmp 26) = .pointer (some ⟨w.heap.size, 4, none⟩) := (hf 26).1 rfl
          have hw : Ext wr w2 := hF
          have hc := hw.cell (p := ⟨w.heap.size, 4, none⟩) (fun f => f) _ HC1.out
          exact Exec.same (v := .slice (some ⟨b, o, none⟩) m cap) rfl (by simp [go_sem, hρ.const, h, hc]) rfl
        · refine StepG.phPlain 0 0 (by decide) (by decide) (by rfl) rfl rfl hFs fun p hlo hhi ρ w2 hρ hF hf => ?_
          obtain rfl : p = 0 := by omega
          have h : ρ (.tmp 4) = .int .i64 (k : Nat) := (hf 4).2 rfl rfl
          exact Exec.kmove rfl rfl h
        · refine StepG.phPlain 0 0 (by decide) (by decide) (by rfl) rfl rfl hFs fun p hlo hhi ρ w2 hρ hF hf => ?_
          obtain rfl : p = 0 := by omega
          have h1 : ρ (.tmp 27) = .slice (some ⟨b, o, none⟩) m cap := (hf 27).1 rfl
          have h2 : ρ (.tmp 28) = .int .i64 (k : Nat) := (hf 28).1 rfl
          exact Exec.kindex rfl rfl Try.underlying25 CSI.out CSS.out h1 h2 HLT.out rfl
        · refine StepG.phPlain 0 0 (by decide) (by decide) (by rfl) rfl rfl hFs fun p hlo hhi ρ w2 hρ hF hf => ?_
          obtain rfl : p = 0 := by omega
          have h : ρ (.tmp 29) = .pointer (some ⟨b, o + k * 3, none⟩) := (hf 29).1 rfl
          exact Exec.kfield rfl rfl h (fieldOw_C0 w2 _ _) rfl
        · refine StepG.phPlain 0 0 (by decide) (by decide) (by rfl) rfl rfl hFs fun p hlo hhi ρ w2 hρ hF hf => ?_
          obtain rfl : p = 0 := by omega
          have h : ρ (.tmp 30) = .pointer (some ⟨b, o + k * 3, none⟩) := (hf 30).1 rfl
          have hw : Ext wr w2 := hF
          have hc : w2.cell? ⟨b, o + k * 3, none⟩ = some (.string ⟨x.name.toArray⟩) := hw.cell (p := ⟨b, o + k * 3, none⟩) (fun f => f) _ (HQ.out 0 _ rfl)
          exact Exec.same (v := .string ⟨x.name.toArray⟩) rfl (by simp [go_sem, hρ.const, h, hc]) rfl
        · refine StepG.phPlain 0 0 (by decide) (by decide) (by rfl) rfl rfl hFs fun p hlo hhi ρ w2 hρ hF hf => ?_
          obtain rfl : p = 0 := by omega
          have h : ρ (.tmp 1) = .pointer (some ⟨w.heap.size, 0, none⟩) := (hf 1).2 rfl rfl
          exact Exec.kfield rfl rfl h (fieldOw_S3 w2 _) rfl
        · refine StepG.phPlain 0 0 (by decide) (by decide) (by rfl) rfl rfl hFs fun p hlo hhi ρ w2 hρ hF hf => ?_
          obtain rfl : p = 0 := by omega
          have h : ρ (.tmp 32) = .pointer (some ⟨w.heap.size, 4, none⟩) := (hf 32).1 rfl
          have hw : Ext wr w2 := hF
          have hc := hw.cell (p := ⟨w.heap.size, 4, none⟩) (fun f => f) _ HC1.out
          exact Exec.same (v := .slice (some ⟨b, o, none⟩) m cap) rfl (by simp [go_sem, hρ.const, h, hc]) rfl
        · refine StepG.phPlain 0 0 (by decide) (by decide) (by rfl) rfl rfl hFs fun p hlo hhi ρ w2 hρ hF hf => ?_
          obtain rfl : p = 0 := by omega
          have h : ρ (.tmp 4) = .int .i64 (k : Nat) := (hf 4).2 rfl rfl
          exact Exec.kmove rfl rfl h
        · refine StepG.phPlain 0 0 (by decide) (by decide) (by rfl) rfl rfl hFs fun p hlo hhi ρ w2 hρ hF hf => ?_
          obtain rfl : p = 0 := by omega
          have h1 : ρ (.tmp 33) = .slice (some ⟨b, o, none⟩) m cap := (hf 33).1 rfl
          have h2 : ρ (.tmp 34) = .int .i64 (k : Nat) := (hf 34).1 rfl
          exact Exec.kindex rfl rfl Try.underlying25 CSI.out CSS.out h1 h2 HLT.out rfl
        · refine StepG.phPlain 0 0 (by decide) (by decide) (by rfl) rfl rfl hFs fun p hlo hhi ρ w2 hρ hF hf => ?_
          obtain rfl : p = 0 := by omega
          have h : ρ (.tmp 35) = .pointer (some ⟨b, o + k * 3, none⟩) := (hf 35).1 rfl
          exact Exec.kfield rfl rfl h (fieldOw_C1 w2 _ _) rfl
        · refine StepG.phPlain 0 0 (by decide) (by decide) (by rfl) rfl rfl hFs fun p hlo hhi ρ w2 hρ hF hf => ?_
          obtain rfl : p = 0 := by omega
          have h : ρ (.tmp 36) = .pointer (some ⟨b, o + k * 3 + 1, none⟩) := (hf 36).1 rfl
          have hw : Ext wr w2 := hF
          have hc : w2.cell? ⟨b, o + k * 3 + 1, none⟩ = some (.int .u8 (x.ty : Nat)) := hw.cell (p := ⟨b, o + k * 3 + 1, none⟩) (fun f => f) _ (HQ.out 1 _ rfl)
          exact Exec.same (v := .int .u8 (x.ty : Nat)) rfl (by simp [go_sem, hρ.const, h, hc]) rfl
        · refine StepG.phPlain 0 0 (by decide) (by decide) (by rfl) rfl rfl hFs fun p hlo hhi ρ w2 hρ hF hf => ?_
          obtain rfl : p = 0 := by omega
          have h : ρ (.tmp 1) = .pointer (some ⟨w.heap.size, 0, none⟩) := (hf 1).2 rfl rfl
          exact Exec.kfield rfl rfl h (fieldOw_S3 w2 _) rfl
        · refine StepG.phPlain 0 0 (by decide) (by decide) (by rfl) rfl rfl hFs fun p hlo hhi ρ w2 hρ hF hf => ?_
          obtain rfl : p = 0 := by omega
          have h : ρ (.tmp 38) = .pointer (some ⟨w.heap.size, 4, none⟩) := (hf 38).1 rfl
          have hw : Ext wr w2 := hF
          have hc := hw.cell (p := ⟨w.heap.size, 4, none⟩) (fun f => f) _ HC1.out
          exact Exec.same (v := .slice (some ⟨b, o, none⟩) m cap) rfl (by simp [go_sem, hρ.const, h, hc]) rfl
        · refine StepG.phPlain 0 0 (by decide) (by decide) (by rfl) rfl rfl hFs fun p hlo hhi ρ w2 hρ hF hf => ?_
          obtain rfl : p = 0 := by omega
          have h : ρ (.tmp 4) = .int .i64 (k : Nat) := (hf 4).2 rfl rfl
          exact Exec.kmove rfl rfl h
        · refine StepG.phPlain 0 0 (by decide) (by decide) (by rfl) rfl rfl hFs fun p hlo hhi ρ w2 hρ hF hf => ?_
          obtain rfl : p = 0 := by omega
          have h1 : ρ (.tmp 39) = .slice (some ⟨b, o, none⟩) m cap := (hf 39).1 rfl
          have h2 : ρ (.tmp 40) = .int .i64 (k : Nat) := (hf 40).1 rfl
          exact Exec.kindex rfl rfl Try.underlying25 CSI.out CSS.out h1 h2 HLT.out rfl
        · refine StepG.phPlain 0 0 (by decide) (by decide) (by rfl) rfl rfl hFs fun p hlo hhi ρ w2 hρ hF hf => ?_
          obtain rfl : p = 0 := by omega
          have h : ρ (.tmp 41) = .pointer (some ⟨b, o + k * 3, none⟩) := (hf 41).1 rfl
          exact Exec.kfield rfl rfl h (fieldOw_C2 w2 _ _) rfl
        · refine StepG.phPlain 0 0 (by decide) (by decide) (by rfl) rfl rfl hFs fun p hlo hhi ρ w2 hρ hF hf => ?_
          obtain rfl : p = 0 := by omega
          have h : ρ (.tmp 42) = .pointer (some ⟨b, o + k * 3 + 2, none⟩) := (hf 42).1 rfl
          have hw : Ext wr w2 := hF
          have hc : w2.cell? ⟨b, o + k * 3 + 2, none⟩ = some (.bool x.key) := hw.cell (p := ⟨b, o + k * 3 + 2, none⟩) (fun f => f) _ (HQ.out 2 _ rfl)
          exact Exec.same (v := .bool x.key) rfl (by simp [go_sem, hρ.const, h, hc]) rfl
        · refine StepG.phPlain 0 0 (by decide) (by decide) (by rfl) rfl rfl hFs fun p hlo hhi ρ w2 hρ hF hf => ?_
          obtain rfl : p = 0 := by omega
          have h1 : ρ (.tmp 31) = .string ⟨x.name.toArray⟩ := (hf 31).1 rfl
          have h2 : ρ (.tmp 37) = .int .u8 (x.ty : Nat) := (hf 37).1 rfl
          have h3 : ρ (.tmp 43) = .bool x.key := (hf 43).1 rfl
          exact Exec.same (v := pcol x) rfl (by unfold execOp; simp only [List.map_toArray, List.map_cons, List.map_nil, h1, h2, h3, Sem.run_bind, buildOw, Result.andThen_ok, Sem.run_pure]; rfl) rfl
        · refine StepG.phPlain 0 0 (by decide) (by decide) (by rfl) rfl rfl hFs fun p hlo hhi ρ w2 hρ hF hf => ?_
          obtain rfl : p = 0 := by omega
          have h1 : ρ (.tmp 44) = pcol x := (hf 44).1 rfl
          refine Exec.kalloc (v := .slice (some ⟨w2.heap.size, 0, none⟩) 1 1) (ob := .cells (colv x) 49) rfl ?_ (colS_heap (l := [x]) (T := 49) (heap_alloc_new w2 _) (by unfold maxLen; simp))
          unfold execOp; simp only [List.map_toArray, List.map_cons, List.map_nil, h1, Sem.run_bind, Result.andThen_ok, Sem.run_pure]
          rw [show pcol x = .agg #[.string ⟨x.name.toArray⟩, .int .u8 (x.ty : Nat), .bool x.key] from rfl, oneOw]
          rfl
        · refine StepG.phWrite [24, 25, 26, 27, 28, 29, 30, 31, 32, 33, 34, 35, 36, 37, 38, 39, 40, 41, 42, 43, 44, 45] (by rfl) 0 (by decide) (by decide) (by rfl) rfl rfl fun ρ w2 hρ hF hf => ?_
          have h1 : ρ (.tmp 25) = v' := (hf 25).1 rfl
          have h2 : ColS w2 (ρ (.tmp 45)) [x] := (hf 45).1 rfl
          have hw : Ext wr w2 := hF
          have ho := HOW.out.ext hw
          refine (Exec.kappend (m := 1) rfl w.heap.size Try.underlying30 CDI.out CDZ.out CDS.out CDB.out rfl (by decide) h1 ho h2 (by rfl) (colC_one _) (by have := HK.out; omega) (by have := HK.out; unfold maxLen; omega) (Nat.le_trans HXr.out.size hw.size)).mono ?_
          rintro v2 w3 ⟨r1, r2⟩
          have hne1 := own_ne ho (heap_ext hw G1.out) (by decide)
          have hne2 := own_ne ho (heap_ext hw G2.out) (by decide)
          have hne3 := own_ne ho (heap_ext hw G3.out) (by decide)
          refine ⟨fun d hd => ?_, fun d v hd hv => ?_, (HXr.out.trans hw).grown r2 (fun kk hk => .inr (ho.lt kk hk).1), ?_, ?_, ?_⟩
          · cases hd
            rw [← HNX.out] at r1
            exact r1
          · by_cases e47 : d = 47
            · subst e47; exact hv
            · by_cases e46 : d = 46
              · subst e46; exact absurd hd (by decide)
              · rw [show ownT _ _ _ _ _ _ _ _ _ _ _ _ (0 + 1) d = Kn.any from ownT_1 e46 e47]; trivial
          · exact gby_heap r2 (heap_ext hw G1.out) (fun e => hne1 _ e rfl)
          · exact gby_heap r2 (heap_ext hw G2.out) (fun e => hne2 _ e rfl)
          · exact gby_heap r2 (heap_ext hw G3.out) (fun e => hne3 _ e rfl)
        · refine StepG.phPlain 1 1 (by decide) (by decide) (by rfl) rfl rfl hFs fun p hlo hhi ρ w2 hρ hF hf => ?_
          obtain rfl : p = 1 := by omega
          have h : ρ (.tmp 3) = .pointer (some ⟨w.heap.size + 1 + 1, 0, none⟩) := (hf 3).2 rfl rfl
          exact Exec.kfield rfl rfl h (fieldOw_D3 w2 _) rfl
        · refine StepG.phWrite [24, 25, 26, 27, 28, 29, 30, 31, 32, 33, 34, 35, 36, 37, 38, 39, 40, 41, 42, 43, 44, 45, 46, 47] (by rfl) 1 (by decide) (by decide) (by rfl) rfl rfl fun ρ w2 hρ hF hf => ?_
          have h1 : w2.ownsRow w.heap.size 49 3 (ρ (.tmp 46)) (k + 1) (colC (r.cols.take (k + 1))) := (hf 46).1 rfl
          have h2 : ρ (.tmp 47) = .pointer (some ⟨w.heap.size + 1 + 1, 4, none⟩) := (hf 47).1 rfl
          obtain ⟨f0, f1, f2, f3⟩ := (hF : Ext w w2 ∧ _ ∧ _ ∧ _)
          obtain ⟨vv, hvv⟩ : ∃ vv, vv = ρ (.tmp 46) := ⟨_, rfl⟩
          rw [← hvv] at h1
          have hne3 := own_ne h1 f3 (by decide)
          obtain ⟨g', cap', rfl⟩ := ownsRow_succ' h1
          have hc4 : w2.cell? ⟨w.heap.size + 1 + 1, 4, none⟩ = some v' := by rw [cell_of_row _ _ _ _ _ _ f3]; rfl
          have hfz : w2.frozen? ⟨w.heap.size + 1 + 1, 4, none⟩ = false := frozen_of_row w2 (w.heap.size + 1 + 1) 4 _ _ f3
          refine Exec.skip (w' := w2.setCell ⟨w.heap.size + 1 + 1, 4, none⟩ (.slice (some ⟨g', 0, none⟩) (k + 1) cap')) ?_ ⟨(fun d hd => by cases hd), (fun d v _ _ => trivial), f0.setCell (.inr (show w.heap.size ≤ w.heap.size + 1 + 1 by omega)) _, ?_, ?_, .slice (some ⟨g', 0, none⟩) (k + 1) cap', ?_, ?_⟩
          · rw [HSV.out] at hc4
            simp only [go_sem, hρ.const, h2, ← hvv]
            simp [go_sem, hc4, hfz]
          · rw [(gby_setCell w2 ⟨w.heap.size + 1 + 1, 4, none⟩ _).block w.heap.size (Array.getElem?_eq_some_iff.1 f1).1 (fun e => by have := Option.some.inj e; simp only at this; omega)]; exact f1
          · rw [(gby_setCell w2 ⟨w.heap.size + 1 + 1, 4, none⟩ _).block (w.heap.size + 1) (Array.getElem?_eq_some_iff.1 f2).1 (fun e => by have := Option.some.inj e; simp only at this; omega)]; exact f2
          · exact heap_setCell_same w2 (w.heap.size + 1 + 1) 4 _ _ _ f3
          · exact h1.kept (gby_setCell w2 ⟨w.heap.size + 1 + 1, 4, none⟩ _) (.inr (fun e => hne3 g' rfl (Option.some.inj e)))
      case fin =>
        intro ν w8 _ hF
        obtain ⟨f0, f1, f2, vn, f3, f4⟩ := hF
        simp only [Exit.then, ended, List.foldl_cons, List.foldl_nil, List.setIfInBounds_toArray, List.set_cons_succ, List.set_cons_zero]
        have F0 := Lib.hid f0; have F1 := Lib.hid f1; have F2 := Lib.hid f2; have F3 := Lib.hid f3; have F4 := Lib.hid f4
        clear f0 f1 f2 f3 f4 c4 hFs
        have hk1 : k < 1000000000000 := HK.out
        go_wp2
        exact ⟨⟨k + 1, vn, HLT.out, rfl, F0, F1, F2, F3, F4⟩, by simp only [intOf]; have := HLT.out; omega⟩
    · obtain rfl : k = m := by omega
      obtain ⟨av, cv', rfl⟩ := owns_shape HOW.out
      obtain ⟨d0, d1, d2, d3, d4⟩ := row_cells G3.out
      have HFIN : Hid (wr.ownsRow w.heap.size 49 3 (.slice av k cv') k (colC r.cols)) := Lib.hid (by have e : r.cols.take k = r.cols := (by rw [← HM.out, List.take_length]); have := HOW.out; rw [e] at this; exact this)
      go_wp2_with (refine wpList_store_rowTo rfl _ _ _ rfl rfl (w.heap.size + 1) (relv r (.slice av k cv')) rfl rfl _ _ G2.out infoOw rfl (relv_one _ _ _ _) ?_)
      refine bodyPost_ret (results_cell_row rfl _ _ (w.heap.size + 1) _ (relv r (.slice av k cv')) _ _ rfl (setRow_heap _ _ _ _ _ _ G2.out) Try.underlying32 rfl infoOw) rfl ?_
      refine ⟨_, rfl, HXr.out.setRow (.inr (Nat.le_succ _)) _, ?_⟩
      rw [HM.out]
      exact HFIN.out.kept (gby_setRow wr (w.heap.size + 1) _) (.inr (fun e => own_ne HFIN.out G2.out (by decide) _ e rfl))
end Go.Proofs.Ytcejjckhhdgdnaa
