import Derived.Test.YtegclfpmgilnpaaGreatGRelB
import Derived.Test.YtegclfpmgilnpaaGreatGLib
namespace Go.Proofs.YtegclfpmgilnpaaGreat
open Go.RowKit Go.Lac
theorem fieldOw_D3 (w : World) (b : Nat) : (Instr.fieldAt 43 (.pointer (some ⟨b, 0, none⟩)) 3).run Tryz.prog w = .ok (.pointer (some ⟨b, 4, none⟩)) w := by kernel_rfl
theorem fieldOw_S3 (w : World) (b : Nat) : (Instr.fieldAt 28 (.pointer (some ⟨b, 0, none⟩)) 3).run Tryz.prog w = .ok (.pointer (some ⟨b, 4, none⟩)) w := by kernel_rfl
theorem fieldOw_C0 (w : World) (b o : Nat) : (Instr.fieldAt 78 (.pointer (some ⟨b, o, none⟩)) 0).run Tryz.prog w = .ok (.pointer (some ⟨b, o, none⟩)) w := by kernel_rfl
theorem fieldOw_C1 (w : World) (b o : Nat) : (Instr.fieldAt 78 (.pointer (some ⟨b, o, none⟩)) 1).run Tryz.prog w = .ok (.pointer (some ⟨b, o + 1, none⟩)) w := by kernel_rfl
theorem fieldOw_C2 (w : World) (b o : Nat) : (Instr.fieldAt 78 (.pointer (some ⟨b, o, none⟩)) 2).run Tryz.prog w = .ok (.pointer (some ⟨b, o + 2, none⟩)) w := by kernel_rfl
theorem buildOw (w : World) (A : ByteArray) (n : Int) (k : Bool) : (Instr.build 93 #[(0, .string A), (1, .int .u8 n), (2, .bool k)]).run Tryz.prog w = .ok (.agg #[.string A, .int .u8 n, .bool k]) w := by kernel_rfl
theorem oneOw (w : World) (A : ByteArray) (n : Int) (k : Bool) : (Instr.buildSlice 41 1 #[(0, .agg #[.string A, .int .u8 n, .bool k])]).run Tryz.prog w = .ok (.slice (some ⟨w.heap.size, 0, none⟩) 1 1) (w.alloc (.cells #[.string A, .int .u8 n, .bool k] 93)) := by kernel_rfl
theorem brfOw (w : World) (x y : Int) : (Instr.build 40 #[(0, .int .u32 x), (1, .int .u32 y)]).run Tryz.prog w = .ok (.agg #[.int .u32 x, .int .u32 y]) w := by kernel_rfl
theorem brlOw (w : World) (x y i : Int) (A : ByteArray) : (Instr.build 43 #[(0, .agg #[.int .u32 x, .int .u32 y]), (1, .string A), (2, .int .u8 i)]).run Tryz.prog w = .ok (.agg #[.int .u32 x, .int .u32 y, .string A, .int .u8 i, .slice none 0 0]) w := by kernel_rfl
theorem infoOw : (Tryz.prog.info? 43).map (·.size) = some 5 := by kernel_rfl
theorem infoSOw : (Tryz.prog.info? 78).map (fun i => (i.zero, i.size, i.bytes)) = some (some (.agg #[.string ⟨#[]⟩, .int .u8 0, .bool false]), 3, 24) := by kernel_rfl
theorem infoDOw : (Tryz.prog.info? 93).map (fun i => (i.zero, i.size, i.bytes)) = some (some (.agg #[.string ⟨#[]⟩, .int .u8 0, .bool false]), 3, 24) := by kernel_rfl
theorem own_ne {w : World} {base : Nat} {e : TypeId} {size : Nat} {v : Value} {n : Nat} {xs : List Value} (h : w.ownsRow base e size v n xs) {g : Nat} {c : Array Value} {T : TypeId} {o : Nat × Nat} (hg : w.heap[g]? = some (.cells c T o)) (hT : T ≠ e) : ∀ k, v.ownBlock = some k → k ≠ g := by
  rcases h.2 with ⟨rfl, _⟩ | ⟨g', cap, cur, rfl, hb, hh, _⟩
  · intro k hk; simp [Value.ownBlock] at hk
  · intro k hk e
    simp only [Value.ownBlock, Option.some.injEq] at hk
    subst hk; subst e
    rw [hg] at hh
    cases hh
    exact hT rfl
theorem gby_heap {w w' : World} {row : Option Nat} {g : Nat} {o : Obj} (h : w.grownBy w' row) (hg : w.heap[g]? = some o) (hne : row ≠ some g) : w'.heap[g]? = some o :=
  (h.block g (Array.getElem?_eq_some_iff.1 hg).1 (fun e => hne e.symm)).trans hg
theorem gby_setCell (w : World) (p : Addr) (v : Value) : w.grownBy (w.setCell p v) (some p.block) :=
  ⟨rfl, rfl, rfl, (KeepsWalks.setCell w p v).size, fun k _ hk => Below.heap_setCell _ _ _ k (fun e => hk (by rw [e]))⟩
theorem ownsRow_succ' {w : World} {base : Nat} {e : TypeId} {size : Nat} {v : Value} {k : Nat} {xs : List Value} (h : w.ownsRow base e size v (k + 1) xs) : ∃ g cap, v = .slice (some ⟨g, 0, none⟩) (k + 1) cap := by
  rcases h.2 with ⟨_, h0⟩ | ⟨g, cap, _, rfl, _⟩
  · omega
  · exact ⟨g, cap, rfl⟩
theorem gby_setRow (w : World) (g : Nat) (cs : Array Value) : w.grownBy (w.setRow g cs) (some g) :=
  ⟨rfl, rfl, rfl, by simp, fun k _ hk => setRow_other _ _ _ _ (fun e => hk (by rw [e]))⟩
theorem relv_one (r : Rl) (ao : Option Addr) (n cap : Nat) : ((relv r (.slice ao n cap)).all fun x => x.oneCell') = true := by simp [relv, strV, Value.oneCell']
def Kn.colS (l : List Col) : Kn := ⟨fun v w => ColS w v l, fun _ _ _ k h => ColS.ext h k⟩
def Kn.ownC (base : Nat) (T : TypeId) (n : Nat) (l : List Col) : Kn := ⟨fun v w => w.ownsRow base T 3 v n (colC l), fun _ _ _ k h => h.ext k⟩
def OwnPost (T : TypeId) (r : Rl) (w : World) (e : Ending) (w' : World) : Prop :=
  ∃ cv, e = .returned (.agg (relv r cv)) ∧ Ext w w' ∧ w'.ownsRow w.heap.size T 3 cv r.cols.length (colC r.cols)
def ownT (TC : TypeId) (base g1 g3 b o m cap k : Nat) (v' : Value) (x : Col) (r : Rl) : Nat → Tmp → Kn
  | 0 => fun d => match d with
    | 24 => .is (.pointer (some ⟨g3, 4, none⟩))
    | 25 => .is v'
    | 26 => .is (.pointer (some ⟨g1, 4, none⟩))
    | 27 => .is (.slice (some ⟨b, o, none⟩) m cap)
    | 28 => .is (.int .i64 (k : Nat))
    | 29 => .is (.pointer (some ⟨b, o + k * 3, none⟩))
    | 30 => .is (.pointer (some ⟨b, o + k * 3, none⟩))
    | 31 => .is (.string ⟨x.name.toArray⟩)
    | 32 => .is (.pointer (some ⟨g1, 4, none⟩))
    | 33 => .is (.slice (some ⟨b, o, none⟩) m cap)
    | 34 => .is (.int .i64 (k : Nat))
    | 35 => .is (.pointer (some ⟨b, o + k * 3, none⟩))
    | 36 => .is (.pointer (some ⟨b, o + k * 3 + 1, none⟩))
    | 37 => .is (.int .u8 (x.ty : Nat))
    | 38 => .is (.pointer (some ⟨g1, 4, none⟩))
    | 39 => .is (.slice (some ⟨b, o, none⟩) m cap)
    | 40 => .is (.int .i64 (k : Nat))
    | 41 => .is (.pointer (some ⟨b, o + k * 3, none⟩))
    | 42 => .is (.pointer (some ⟨b, o + k * 3 + 2, none⟩))
    | 43 => .is (.bool x.key)
    | 44 => .is (pcol x)
    | 45 => Kn.colS [x]
    | 47 => .is (.pointer (some ⟨g3, 4, none⟩))
    | _ => .any
  | 1 => fun d => match d with
    | 46 => Kn.ownC base TC (k + 1) (r.cols.take (k + 1))
    | 47 => .is (.pointer (some ⟨g3, 4, none⟩))
    | _ => .any
  | _ => fun _ => .any
theorem ownT_1 {TC : TypeId} {base g1 g3 b o m cap k : Nat} {v' : Value} {x : Col} {r : Rl} {d : Tmp} (h1 : d ≠ 46) (h2 : d ≠ 47) : ownT TC base g1 g3 b o m cap k v' x r 1 d = .any := by
  show (match d with | 46 => Kn.ownC base TC (k + 1) (r.cols.take (k + 1)) | 47 => Kn.is (.pointer (some ⟨g3, 4, none⟩)) | _ => Kn.any) = _
  split
  · exact absurd rfl h1
  · exact absurd rfl h2
  · rfl
def ownF (TS TD TC : TypeId) (w wr : World) (g1 g2 g3 : Nat) (r : Rl) (cv v' z : Value) (k : Nat) : Nat → World → Prop
  | 0 => fun w2 => Ext wr w2
  | 1 => fun w2 => Ext w w2 ∧ w2.heap[g1]? = some (.cells (relv r cv) TS (0, 0)) ∧ w2.heap[g2]? = some (.cells (relv .zero z) TD (0, 0)) ∧ w2.heap[g3]? = some (.cells (relv r v') TD (0, 0))
  | _ => fun w2 => Ext w w2 ∧ w2.heap[g1]? = some (.cells (relv r cv) TS (0, 0)) ∧ w2.heap[g2]? = some (.cells (relv .zero z) TD (0, 0)) ∧ ∃ vn, w2.heap[g3]? = some (.cells (relv r vn) TD (0, 0)) ∧ w2.ownsRow w.heap.size TC 3 vn (k + 1) (colC (r.cols.take (k + 1)))
theorem ownF_ext {TS TD TC : TypeId} {w wr : World} {g1 g2 g3 : Nat} {r : Rl} {cv v' z : Value} {k : Nat} : ∀ p w2 w3, ownF TS TD TC w wr g1 g2 g3 r cv v' z k p w2 → Ext w2 w3 → ownF TS TD TC w wr g1 g2 g3 r cv v' z k p w3
  | 0, _, _, h, hx => Ch.trans h hx
  | 1, _, _, ⟨h0, h1, h2, h3⟩, hx => ⟨h0.trans hx, heap_ext hx h1, heap_ext hx h2, heap_ext hx h3⟩
  | _ + 2, _, _, ⟨h0, h1, h2, vn, h3, h4⟩, hx => ⟨h0.trans hx, heap_ext hx h1, heap_ext hx h2, vn, heap_ext hx h3, h4.ext hx⟩
set_option maxRecDepth 20000 in
set_option maxHeartbeats 4000000 in
theorem relOwn_any (r : Rl) (cv : Value) (w : World) (hb : ColS w cv r.cols) (hl : r.cols.length ≤ 5864062014805) :
    Calls Tryz.prog 9 #[.agg (relv r cv)] w (OwnPost 93 r w) := by
  have h1 := heap_alloc_new w (.cells (relv r cv) 28)
  obtain ⟨W, hW⟩ : ∃ W, W = ((w.alloc (.cells (relv r cv) 28)).alloc (.cells (relv .zero (.slice none 0 0)) 43)).alloc (.cells (relv r (.slice none 0 0)) 43) := ⟨_, rfl⟩
  obtain ⟨ga, gb, gc⟩ := heap_alloc3 w (.cells (relv r cv) 28) (.cells (relv .zero (.slice none 0 0)) 43) (.cells (relv r (.slice none 0 0)) 43)
  rw [← hW] at ga gb gc
  have hx : Ext w W := by rw [hW]; exact (((Ch.refl _ _).alloc _).alloc _).alloc _
  obtain ⟨ao, cap, rfl, hlc, hcm, _⟩ := id hb
  obtain ⟨c0, c1, c2, c3, c4⟩ := row_cells h1
  have GA := Lib.hid ga; have GB := Lib.hid gb; have GC := Lib.hid gc; have HX := Lib.hid hx; have HB := Lib.hid hb
  have HW : Hid (W = ((w.alloc (.cells #[.int .u32 (r.oid : Nat), .int .u32 (r.ver : Nat), .string ⟨r.name.toArray⟩, .int .u8 (r.ident : Nat), .slice ao r.cols.length cap] 28)).alloc (.cells #[.int .u32 0, .int .u32 0, .string ⟨#[]⟩, .int .u8 0, .slice none 0 0] 43)).alloc (.cells #[.int .u32 (r.oid : Nat), .int .u32 (r.ver : Nat), .string ⟨r.name.toArray⟩, .int .u8 (r.ident : Nat), .slice none 0 0] 43)) := Lib.hid hW
  obtain ⟨si, sxi, _, sxs, _⟩ := info_parts infoSOw
  obtain ⟨di, dxi, dz, dxs, db⟩ := info_parts infoDOw
  have CSI := Lib.hid sxi; have CSS := Lib.hid sxs; have CDI := Lib.hid dxi; have CDZ := Lib.hid dz; have CDS := Lib.hid dxs; have CDB := Lib.hid db
  have hm63 : r.cols.length ≤ 9223372036854775807 := by omega
  have HL := Lib.hid hl
  generalize hm : r.cols.length = m at *
  have HM := Lib.hid hm
  have bd1 := fun w => brfOw w (r.oid : Nat) (r.ver : Nat)
  have bd2 := fun w => brlOw w (r.oid : Nat) (r.ver : Nat) (r.ident : Nat) ⟨r.name.toArray⟩
  clear h1 ga gb gc hx hb hW sxi sxs dxi dz dxs db hm hl hlc hcm
  unfold relv strV at c0 c1 c2 c3 c4
  unfold relv strV
  go_enter Tryz.func9, Tryz.ntmps9
  go_wp2
  rw [← HW.out]
  clear HW c0 c1 c2 c3 c4 bd1 bd2
  go_loopw [4] (fun ix wr => ∃ (k : Nat) (v' : Value), k ≤ m ∧ ix = .int .i64 k ∧ Hid (Ext w wr) ∧ Hid (wr.heap[w.heap.size]? = some (.cells (relv r (.slice ao m cap)) 28 (0, 0))) ∧ Hid (wr.heap[w.heap.size + 1]? = some (.cells (relv .zero (.slice none 0 0)) 43 (0, 0))) ∧
    Hid (wr.heap[w.heap.size + 1 + 1]? = some (.cells (relv r v') 43 (0, 0))) ∧ Hid (wr.ownsRow w.heap.size 93 3 v' k (colC (r.cols.take k)))) (fun ix _ => m - (intOf ix).toNat)
  case atStart => exact ⟨0, .slice none 0 0, Nat.zero_le _, rfl, HX, GA, GB, GC, Lib.hid (World.ownsRow_nil _ _ _ _)⟩
  case round =>
    obtain ⟨k, v', hk, rfl, HXr, G1, G2, G3, HOW⟩ := hrel
    have c4 : wr.cell? ⟨w.heap.size, 4, none⟩ = some (.slice ao m cap) := by rw [cell_of_row _ _ _ _ _ _ G1.out]; rfl
    by_cases hlt : k < m
    · have hkl : k < r.cols.length := by have := HM.out; omega
      have hcs := ColS.ext HB.out HXr.out
      obtain ⟨b, o, rfl, hra⟩ := colS_at hcs hkl
      have hnx : colC (r.cols.take (k + 1)) = colC (r.cols.take k) ++ colC [r.cols[k]] := by rw [List.take_succ_eq_append_getElem hkl, colC_append]
      obtain ⟨x, hx⟩ : ∃ x, x = r.cols[k] := ⟨_, rfl⟩
      rw [← hx] at hra hnx
      have HQ := Lib.hid hra; have HNX := Lib.hid hnx; have HLT := Lib.hid hlt
      have HK : Hid (k < 5864062014805) := Lib.hid (by have := HL.out; omega)
      have HC1 := Lib.hid c4
      have HC3 : Hid (wr.cell? ⟨w.heap.size + 1 + 1, 4, none⟩ = some v') := Lib.hid (by rw [cell_of_row _ _ _ _ _ _ G3.out]; rfl)
      obtain ⟨av, cv', hsv⟩ := owns_shape HOW.out
      have hFs := fun p w2 w3 => ownF_ext (TS := 28) (TD := 43) (TC := 93) (w := w) (wr := wr) (g1 := w.heap.size) (g2 := w.heap.size + 1) (g3 := w.heap.size + 1 + 1) (r := r) (cv := .slice (some ⟨b, o, none⟩) m cap) (v' := v') (z := .slice none 0 0) (k := k) p w2 w3
      have HSV := Lib.hid hsv
      clear hra hnx hx hcs hsv
      go_wp2
      refine wp_region_ph [22, 24] (ownT 93 w.heap.size w.heap.size (w.heap.size + 1 + 1) b o m cap k v' x r) (ownF 28 43 93 w wr w.heap.size (w.heap.size + 1) (w.heap.size + 1 + 1) r (.slice (some ⟨b, o, none⟩) m cap) v' (.slice none 0 0) k) mixedV (by rfl) (by rfl) (by decide) (Ch.drew (Ch.refl _ _)) ?all ?fin
      case all =>
        refine ⟨?_, ?_, ?_, ?_, ?_, ?_, ?_, ?_, ?_, ?_, ?_, ?_, ?_, ?_, ?_, ?_, ?_, ?_, ?_, ?_, ?_, ?_, ?_, ?_, ?_, trivial⟩
        · refine StepG.phPlain 0 0 (by decide) (by decide) (by rfl) rfl rfl hFs fun p hlo hhi ρ w2 hρ hF hf => ?_
          obtain rfl : p = 0 := by omega
          have h : ρ (.tmp 3) = .pointer (some ⟨w.heap.size + 1 + 1, 0, none⟩) := (hf 3).2 rfl rfl
          exact Exec.kfield rfl rfl h (fieldOw_D3 w2 _) rfl
        · refine StepG.phPlain 0 0 (by decide) (by decide) (by rfl) rfl rfl hFs fun p hlo hhi ρ w2 hρ hF hf => ?_
          obtain rfl : p = 0 := by omega
          have h : ρ (.tmp 24) = .pointer (some ⟨w.heap.size + 1 + 1, 4, none⟩) := (hf 24).1 rfl
          have hw : Ext wr w2 := hF
          have hc := hw.cell (p := ⟨w.heap.size + 1 + 1, 4, none⟩) (fun f => f) _ HC3.out
          exact Exec.same (v := v') rfl (by simp [go_sem, hρ.const, h, hc]) rfl
        · refine StepG.phPlain 0 0 (by decide) (by decide) (by rfl) rfl rfl hFs fun p hlo hhi ρ w2 hρ hF hf => ?_
          obtain rfl : p = 0 := by omega
          have h : ρ (.tmp 1) = .pointer (some ⟨w.heap.size, 0, none⟩) := (hf 1).2 rfl rfl
          exact Exec.kfield rfl rfl h (fieldOw_S3 w2 _) rfl
        · refine StepG.phPlain 0 0 (by decide) (by decide) (by rfl) rfl rfl hFs fun p hlo hhi ρ w2 hρ hF hf => ?_
          obtain rfl : p = 0 := by omega
          have h : ρ (.tmp 26) = .pointer (some ⟨w.heap.size, 4, none⟩) := (hf 26).1 rfl
          have hw : Ext wr w2 := hF
          have hc := hw.cell (p := ⟨w.heap.size, 4, none⟩) (fun f => f) _ HC1.out
          exact Exec.same (v := .slice (some ⟨b, o, none⟩) m cap) rfl (by simp [go_sem, hρ.const, h, hc]) rfl
        · refine StepG.phPlain 0 0 (by decide) (by decide) (by rfl) rfl rfl hFs fun p hlo hhi ρ w2 hρ hF hf => ?_
          obtain rfl : p = 0 := by omega
          have h : ρ (.tmp 4) = .int .i64 (k : Nat) := (hf 4).2 rfl rfl
          exact Exec.kmove rfl rfl h
        · refine StepG.phPlain 0 0 (by decide) (by decide) (by rfl) rfl rfl hFs fun p hlo hhi ρ w2 hρ hF hf => ?_
          obtain rfl : p = 0 := by omega
          have h1 : ρ (.tmp 27) = .slice (some ⟨b, o, none⟩) m cap := (hf 27).1 rfl
          have h2 : ρ (.tmp 28) = .int .i64 (k : Nat) := (hf 28).1 rfl
          exact Exec.kindex rfl rfl Tryz.underlying26 CSI.out CSS.out h1 h2 HLT.out rfl
        · refine StepG.phPlain 0 0 (by decide) (by decide) (by rfl) rfl rfl hFs fun p hlo hhi ρ w2 hρ hF hf => ?_
          obtain rfl : p = 0 := by omega
          have h : ρ (.tmp 29) = .pointer (some ⟨b, o + k * 3, none⟩) := (hf 29).1 rfl
          exact Exec.kfield rfl rfl h (fieldOw_C0 w2 _ _) rfl
        · refine StepG.phPlain 0 0 (by decide) (by decide) (by rfl) rfl rfl hFs fun p hlo hhi ρ w2 hρ hF hf => ?_
          obtain rfl : p = 0 := by omega
          have h : ρ (.tmp 30) = .pointer (some ⟨b, o + k * 3, none⟩) := (hf 30).1 rfl
          have hw : Ext wr w2 := hF
          have hc : w2.cell? ⟨b, o + k * 3, none⟩ = some (.string ⟨x.name.toArray⟩) := hw.cell (p := ⟨b, o + k * 3, none⟩) (fun f => f) _ (HQ.out 0 _ rfl)
          exact Exec.same (v := .string ⟨x.name.toArray⟩) rfl (by simp [go_sem, hρ.const, h, hc]) rfl
        · refine StepG.phPlain 0 0 (by decide) (by decide) (by rfl) rfl rfl hFs fun p hlo hhi ρ w2 hρ hF hf => ?_
          obtain rfl : p = 0 := by omega
          have h : ρ (.tmp 1) = .pointer (some ⟨w.heap.size, 0, none⟩) := (hf 1).2 rfl rfl
          exact Exec.kfield rfl rfl h (fieldOw_S3 w2 _) rfl
        · refine StepG.phPlain 0 0 (by decide) (by decide) (by rfl) rfl rfl hFs fun p hlo hhi ρ w2 hρ hF hf => ?_
          obtain rfl : p = 0 := by omega
          have h : ρ (.tmp 32) = .pointer (some ⟨w.heap.size, 4, none⟩) := (hf 32).1 rfl
          have hw : Ext wr w2 := hF
          have hc := hw.cell (p := ⟨w.heap.size, 4, none⟩) (fun f => f) _ HC1.out
          exact Exec.same (v := .slice (some ⟨b, o, none⟩) m cap) rfl (by simp [go_sem, hρ.const, h, hc]) rfl
        · refine StepG.phPlain 0 0 (by decide) (by decide) (by rfl) rfl rfl hFs fun p hlo hhi ρ w2 hρ hF hf => ?_
          obtain rfl : p = 0 := by omega
          have h : ρ (.tmp 4) = .int .i64 (k : Nat) := (hf 4).2 rfl rfl
          exact Exec.kmove rfl rfl h
        · refine StepG.phPlain 0 0 (by decide) (by decide) (by rfl) rfl rfl hFs fun p hlo hhi ρ w2 hρ hF hf => ?_
          obtain rfl : p = 0 := by omega
          have h1 : ρ (.tmp 33) = .slice (some ⟨b, o, none⟩) m cap := (hf 33).1 rfl
          have h2 : ρ (.tmp 34) = .int .i64 (k : Nat) := (hf 34).1 rfl
          exact Exec.kindex rfl rfl Tryz.underlying26 CSI.out CSS.out h1 h2 HLT.out rfl
        · refine StepG.phPlain 0 0 (by decide) (by decide) (by rfl) rfl rfl hFs fun p hlo hhi ρ w2 hρ hF hf => ?_
          obtain rfl : p = 0 := by omega
          have h : ρ (.tmp 35) = .pointer (some ⟨b, o + k * 3, none⟩) := (hf 35).1 rfl
          exact Exec.kfield rfl rfl h (fieldOw_C1 w2 _ _) rfl
        · refine StepG.phPlain 0 0 (by decide) (by decide) (by rfl) rfl rfl hFs fun p hlo hhi ρ w2 hρ hF hf => ?_
          obtain rfl : p = 0 := by omega
          have h : ρ (.tmp 36) = .pointer (some ⟨b, o + k * 3 + 1, none⟩) := (hf 36).1 rfl
          have hw : Ext wr w2 := hF
          have hc : w2.cell? ⟨b, o + k * 3 + 1, none⟩ = some (.int .u8 (x.ty : Nat)) := hw.cell (p := ⟨b, o + k * 3 + 1, none⟩) (fun f => f) _ (HQ.out 1 _ rfl)
          exact Exec.same (v := .int .u8 (x.ty : Nat)) rfl (by simp [go_sem, hρ.const, h, hc]) rfl
        · refine StepG.phPlain 0 0 (by decide) (by decide) (by rfl) rfl rfl hFs fun p hlo hhi ρ w2 hρ hF hf => ?_
          obtain rfl : p = 0 := by omega
          have h : ρ (.tmp 1) = .pointer (some ⟨w.heap.size, 0, none⟩) := (hf 1).2 rfl rfl
          exact Exec.kfield rfl rfl h (fieldOw_S3 w2 _) rfl
        · refine StepG.phPlain 0 0 (by decide) (by decide) (by rfl) rfl rfl hFs fun p hlo hhi ρ w2 hρ hF hf => ?_
          obtain rfl : p = 0 := by omega
          have h : ρ (.tmp 38) = .pointer (some ⟨w.heap.size, 4, none⟩) := (hf 38).1 rfl
          have hw : Ext wr w2 := hF
          have hc := hw.cell (p := ⟨w.heap.size, 4, none⟩) (fun f => f) _ HC1.out
          exact Exec.same (v := .slice (some ⟨b, o, none⟩) m cap) rfl (by simp [go_sem, hρ.const, h, hc]) rfl
        · refine StepG.phPlain 0 0 (by decide) (by decide) (by rfl) rfl rfl hFs fun p hlo hhi ρ w2 hρ hF hf => ?_
          obtain rfl : p = 0 := by omega
          have h : ρ (.tmp 4) = .int .i64 (k : Nat) := (hf 4).2 rfl rfl
          exact Exec.kmove rfl rfl h
        · refine StepG.phPlain 0 0 (by decide) (by decide) (by rfl) rfl rfl hFs fun p hlo hhi ρ w2 hρ hF hf => ?_
          obtain rfl : p = 0 := by omega
          have h1 : ρ (.tmp 39) = .slice (some ⟨b, o, none⟩) m cap := (hf 39).1 rfl
          have h2 : ρ (.tmp 40) = .int .i64 (k : Nat) := (hf 40).1 rfl
          exact Exec.kindex rfl rfl Tryz.underlying26 CSI.out CSS.out h1 h2 HLT.out rfl
        · refine StepG.phPlain 0 0 (by decide) (by decide) (by rfl) rfl rfl hFs fun p hlo hhi ρ w2 hρ hF hf => ?_
          obtain rfl : p = 0 := by omega
          have h : ρ (.tmp 41) = .pointer (some ⟨b, o + k * 3, none⟩) := (hf 41).1 rfl
          exact Exec.kfield rfl rfl h (fieldOw_C2 w2 _ _) rfl
        · refine StepG.phPlain 0 0 (by decide) (by decide) (by rfl) rfl rfl hFs fun p hlo hhi ρ w2 hρ hF hf => ?_
          obtain rfl : p = 0 := by omega
          have h : ρ (.tmp 42) = .pointer (some ⟨b, o + k * 3 + 2, none⟩) := (hf 42).1 rfl
          have hw : Ext wr w2 := hF
          have hc : w2.cell? ⟨b, o + k * 3 + 2, none⟩ = some (.bool x.key) := hw.cell (p := ⟨b, o + k * 3 + 2, none⟩) (fun f => f) _ (HQ.out 2 _ rfl)
          exact Exec.same (v := .bool x.key) rfl (by simp [go_sem, hρ.const, h, hc]) rfl
        · refine StepG.phPlain 0 0 (by decide) (by decide) (by rfl) rfl rfl hFs fun p hlo hhi ρ w2 hρ hF hf => ?_
          obtain rfl : p = 0 := by omega
          have h1 : ρ (.tmp 31) = .string ⟨x.name.toArray⟩ := (hf 31).1 rfl
          have h2 : ρ (.tmp 37) = .int .u8 (x.ty : Nat) := (hf 37).1 rfl
          have h3 : ρ (.tmp 43) = .bool x.key := (hf 43).1 rfl
          exact Exec.same (v := pcol x) rfl (by unfold execOp; simp only [List.map_toArray, List.map_cons, List.map_nil, h1, h2, h3, Sem.run_bind, buildOw, Result.andThen_ok, Sem.run_pure]; rfl) rfl
        · refine StepG.phPlain 0 0 (by decide) (by decide) (by rfl) rfl rfl hFs fun p hlo hhi ρ w2 hρ hF hf => ?_
          obtain rfl : p = 0 := by omega
          have h1 : ρ (.tmp 44) = pcol x := (hf 44).1 rfl
          refine Exec.kalloc (v := .slice (some ⟨w2.heap.size, 0, none⟩) 1 1) (ob := .cells (colv x) 93) rfl ?_ (colS_heap (l := [x]) (T := 93) (heap_alloc_new w2 _) (by unfold maxLen; simp))
          unfold execOp; simp only [List.map_toArray, List.map_cons, List.map_nil, h1, Sem.run_bind, Result.andThen_ok, Sem.run_pure]
          rw [show pcol x = .agg #[.string ⟨x.name.toArray⟩, .int .u8 (x.ty : Nat), .bool x.key] from rfl, oneOw]
          rfl
        · refine StepG.phWrite [24, 25, 26, 27, 28, 29, 30, 31, 32, 33, 34, 35, 36, 37, 38, 39, 40, 41, 42, 43, 44, 45] (by rfl) 0 (by decide) (by decide) (by rfl) rfl rfl fun ρ w2 hρ hF hf => ?_
          have h1 : ρ (.tmp 25) = v' := (hf 25).1 rfl
          have h2 : ColS w2 (ρ (.tmp 45)) [x] := (hf 45).1 rfl
          have hw : Ext wr w2 := hF
          have ho := HOW.out.ext hw
          refine (Exec.kappend (m := 1) rfl w.heap.size Tryz.underlying41 CDI.out CDZ.out CDS.out CDB.out rfl (by decide) h1 ho h2 (by rfl) (colC_one _) (by have := HK.out; omega) (by have := HK.out; unfold maxLen; omega) (Nat.le_trans HXr.out.size hw.size)).mono ?_
          rintro v2 w3 ⟨r1, r2⟩
          have hne1 := own_ne ho (heap_ext hw G1.out) (by decide)
          have hne2 := own_ne ho (heap_ext hw G2.out) (by decide)
          have hne3 := own_ne ho (heap_ext hw G3.out) (by decide)
          refine ⟨fun d hd => ?_, fun d v hd hv => ?_, (HXr.out.trans hw).grown r2 (fun kk hk => .inr (ho.lt kk hk).1), ?_, ?_, ?_⟩
          · cases hd
            rw [← HNX.out] at r1
            exact r1
          · by_cases e47 : d = 47
            · subst e47; exact hv
            · by_cases e46 : d = 46
              · subst e46; exact absurd hd (by decide)
              · rw [show ownT _ _ _ _ _ _ _ _ _ _ _ _ (0 + 1) d = Kn.any from ownT_1 e46 e47]; trivial
          · exact gby_heap r2 (heap_ext hw G1.out) (fun e => hne1 _ e rfl)
          · exact gby_heap r2 (heap_ext hw G2.out) (fun e => hne2 _ e rfl)
          · exact gby_heap r2 (heap_ext hw G3.out) (fun e => hne3 _ e rfl)
        · refine StepG.phPlain 1 1 (by decide) (by decide) (by rfl) rfl rfl hFs fun p hlo hhi ρ w2 hρ hF hf => ?_
          obtain rfl : p = 1 := by omega
          have h : ρ (.tmp 3) = .pointer (some ⟨w.heap.size + 1 + 1, 0, none⟩) := (hf 3).2 rfl rfl
          exact Exec.kfield rfl rfl h (fieldOw_D3 w2 _) rfl
        · refine StepG.phWrite [24, 25, 26, 27, 28, 29, 30, 31, 32, 33, 34, 35, 36, 37, 38, 39, 40, 41, 42, 43, 44, 45, 46, 47] (by rfl) 1 (by decide) (by decide) (by rfl) rfl rfl fun ρ w2 hρ hF hf => ?_
          have h1 : w2.ownsRow w.heap.size 93 3 (ρ (.tmp 46)) (k + 1) (colC (r.cols.take (k + 1))) := (hf 46).1 rfl
          have h2 : ρ (.tmp 47) = .pointer (some ⟨w.heap.size + 1 + 1, 4, none⟩) := (hf 47).1 rfl
          obtain ⟨f0, f1, f2, f3⟩ := (hF : Ext w w2 ∧ _ ∧ _ ∧ _)
          obtain ⟨vv, hvv⟩ : ∃ vv, vv = ρ (.tmp 46) := ⟨_, rfl⟩
          rw [← hvv] at h1
          have hne3 := own_ne h1 f3 (by decide)
          obtain ⟨g', cap', rfl⟩ := ownsRow_succ' h1
          have hc4 : w2.cell? ⟨w.heap.size + 1 + 1, 4, none⟩ = some v' := by rw [cell_of_row _ _ _ _ _ _ f3]; rfl
          have hfz : w2.frozen? ⟨w.heap.size + 1 + 1, 4, none⟩ = false := frozen_of_row w2 (w.heap.size + 1 + 1) 4 _ _ f3
          refine Exec.skip (w' := w2.setCell ⟨w.heap.size + 1 + 1, 4, none⟩ (.slice (some ⟨g', 0, none⟩) (k + 1) cap')) ?_ ⟨(fun d hd => by cases hd), (fun d v _ _ => trivial), f0.setCell (.inr (show w.heap.size ≤ w.heap.size + 1 + 1 by omega)) _, ?_, ?_, .slice (some ⟨g', 0, none⟩) (k + 1) cap', ?_, ?_⟩
          · rw [HSV.out] at hc4
            simp only [go_sem, hρ.const, h2, ← hvv]
            simp [go_sem, hc4, hfz]
          · rw [(gby_setCell w2 ⟨w.heap.size + 1 + 1, 4, none⟩ _).block w.heap.size (Array.getElem?_eq_some_iff.1 f1).1 (fun e => by have := Option.some.inj e; simp only at this; omega)]; exact f1
          · rw [(gby_setCell w2 ⟨w.heap.size + 1 + 1, 4, none⟩ _).block (w.heap.size + 1) (Array.getElem?_eq_some_iff.1 f2).1 (fun e => by have := Option.some.inj e; simp only at this; omega)]; exact f2
          · exact heap_setCell_same w2 (w.heap.size + 1 + 1) 4 _ _ _ f3
          · exact h1.kept (gby_setCell w2 ⟨w.heap.size + 1 + 1, 4, none⟩ _) (.inr (fun e => hne3 g' rfl (Option.some.inj e)))
      case fin =>
        intro ν w8 _ hF
        obtain ⟨f0, f1, f2, vn, f3, f4⟩ := hF
        simp only [Exit.then, ended, List.foldl_cons, List.foldl_nil, List.setIfInBounds_toArray, List.set_cons_succ, List.set_cons_zero]
        have F0 := Lib.hid f0; have F1 := Lib.hid f1; have F2 := Lib.hid f2; have F3 := Lib.hid f3; have F4 := Lib.hid f4
        clear f0 f1 f2 f3 f4 c4 hFs
        have hk1 : k < 5864062014805 := HK.out
        go_wp2
        exact ⟨⟨k + 1, vn, HLT.out, rfl, F0, F1, F2, F3, F4⟩, by simp only [intOf]; have := HLT.out; omega⟩
    · obtain rfl : k = m := by omega
      obtain ⟨av, cv', rfl⟩ := owns_shape HOW.out
      obtain ⟨d0, d1, d2, d3, d4⟩ := row_cells G3.out
      have HFIN : Hid (wr.ownsRow w.heap.size 93 3 (.slice av k cv') k (colC r.cols)) := Lib.hid (by have e : r.cols.take k = r.cols := (by rw [← HM.out, List.take_length]); have := HOW.out; rw [e] at this; exact this)
      go_wp2_with (refine wpList_store_rowTo rfl _ _ _ rfl rfl (w.heap.size + 1) (relv r (.slice av k cv')) rfl rfl _ _ G2.out infoOw rfl (relv_one _ _ _ _) ?_)
      refine bodyPost_ret (results_cell_row rfl _ _ (w.heap.size + 1) _ (relv r (.slice av k cv')) _ _ rfl (setRow_heap _ _ _ _ _ _ G2.out) Tryz.underlying43 rfl infoOw) rfl ?_
      refine ⟨_, rfl, HXr.out.setRow (.inr (Nat.le_succ _)) _, ?_⟩
      rw [HM.out]
      exact HFIN.out.kept (gby_setRow wr (w.heap.size + 1) _) (.inr (fun e => own_ne HFIN.out G2.out (by decide) _ e rfl))
end Go.Proofs.YtegclfpmgilnpaaGreat
namespace Go.Proofs.YtegclfpmgilnpaaGreat
open Go.RowKit Go.Lac
theorem infoBk : (Tryz.prog.info? 28).map (·.size) = some 5 := by kernel_rfl
end Go.Proofs.YtegclfpmgilnpaaGreat
namespace Go.Proofs.YtegclfpmgilnpaaGreat
open Go.RowKit Go.Lac
theorem fieldRCo_0 (w : World) (b o : Nat) : (Instr.fieldAt 78 (.pointer (some ⟨b, o, none⟩)) 0).run Tryz.prog w = .ok (.pointer (some ⟨b, o, none⟩)) w := by kernel_rfl
def rrT (g gx b o m cap j : Nat) (x y : Col) : Tmp → Kn
  | 55 => .is (.pointer (some ⟨g, 4, none⟩))
  | 56 => .is (.slice (some ⟨b, o, none⟩) m cap)
  | 57 => .is (.int .i64 (j : Nat))
  | 58 => .is (.pointer (some ⟨b, o + j * 3, none⟩))
  | 59 => .is (.pointer (some ⟨b, o + j * 3, none⟩))
  | 60 => .is (strV y.name)
  | 61 => .is (.pointer (some ⟨gx, 0, none⟩))
  | 62 => .is (strV x.name)
  | 63 => .is (.bool (decide (y.name = x.name)))
  | _ => .any
theorem colErr_facts (ahead : List Col) (c : Col) : (¬ NameOk c.name → colErr ahead c = 3) ∧ (NameOk c.name → (∃ o ∈ ahead, o.name = c.name) → colErr ahead c = 9) ∧
    (NameOk c.name → ¬ (∃ o ∈ ahead, o.name = c.name) → (c.ty < 1 ∨ 6 < c.ty) → colErr ahead c = 11) ∧ (NameOk c.name → ¬ (∃ o ∈ ahead, o.name = c.name) → ¬ (c.ty < 1 ∨ 6 < c.ty) → colErr ahead c = 0) := by
  unfold colErr
  refine ⟨fun h => by rw [if_pos h], fun h h' => by rw [if_neg (by simpa using h), if_pos h'], fun h h' h3 => by rw [if_neg (by simpa using h), if_neg h', if_pos h3], fun h h' h3 => by rw [if_neg (by simpa using h), if_neg h', if_neg h3]⟩
theorem key_take (l : List Col) (k : Nat) (hk : k < l.length) : (l.take (k + 1)).any (·.key) = ((l.take k).any (·.key) || l[k].key) := by
  rw [List.take_succ_eq_append_getElem hk, List.any_append]
  simp
set_option maxRecDepth 20000 in
set_option maxHeartbeats 4000000 in
theorem rRight_any (r : Rl) (cv : Value) (w : World) (hb : ColS w cv r.cols) (hf : r.fits) :
    Calls Tryz.prog 31 #[.agg (relv r cv)] w fun e w' => e = .returned (.int .i64 (rlErr r : Nat)) ∧ Ext w w' := by
  have h1 := heap_alloc_new w (.cells (relv r cv) 28)
  obtain ⟨W, hW⟩ : ∃ W, W = w.alloc (.cells (relv r cv) 28) := ⟨_, rfl⟩
  have hx : Ext w W := by rw [hW]; exact (Ch.refl _ _).alloc _
  rw [← hW] at h1
  have HB := Lib.hid (ColS.ext hb hx)
  obtain ⟨ao, cap, rfl, hlc, hcm, _⟩ := id hb
  have c0 : W.cell? ⟨w.heap.size, 0, none⟩ = some (.int .u32 (r.oid : Nat)) := by rw [cell_of_row _ _ _ _ _ _ h1]; rfl
  have c1 : W.cell? ⟨w.heap.size, 1, none⟩ = some (.int .u32 (r.ver : Nat)) := by rw [cell_of_row _ _ _ _ _ _ h1]; rfl
  have c2 : W.cell? ⟨w.heap.size, 2, none⟩ = some (.string ⟨r.name.toArray⟩) := by rw [cell_of_row _ _ _ _ _ _ h1]; rfl
  have c3 : W.cell? ⟨w.heap.size, 3, none⟩ = some (.int .u8 (r.ident : Nat)) := by rw [cell_of_row _ _ _ _ _ _ h1]; rfl
  have c4 : W.cell? ⟨w.heap.size, 4, none⟩ = some (.slice ao r.cols.length cap) := by rw [cell_of_row _ _ _ _ _ _ h1]; rfl
  have HG := Lib.hid h1; have HX := Lib.hid hx; have HW := Lib.hid hW
  have HIN := Lib.hid (named_any r.name W hf.1)
  have HF := Lib.hid hf.2
  obtain ⟨E, hE⟩ : ∃ E, E = rlErr r := ⟨_, rfl⟩
  have HE1 : Hid (r.oid = 0 ∨ r.ver = 0 → E = 4) := Lib.hid fun h => by rw [hE]; unfold rlErr; rw [if_pos h]
  have HE2 : Hid (¬ (r.oid = 0 ∨ r.ver = 0) → ¬ NameOk r.name → E = 3) := Lib.hid fun h h' => by rw [hE]; unfold rlErr; rw [if_neg h, if_pos h']
  have HE3 : Hid (¬ (r.oid = 0 ∨ r.ver = 0) → NameOk r.name → 2 < r.ident → E = 7) := Lib.hid fun h h' h'' => by rw [hE]; unfold rlErr; rw [if_neg h, if_neg (by simpa using h'), if_pos h'']
  have HE4 : Hid (¬ (r.oid = 0 ∨ r.ver = 0) → NameOk r.name → ¬ 2 < r.ident → (r.cols.length = 0 ∨ 16 < r.cols.length) → E = 17) := Lib.hid fun h h' h'' h3 => by rw [hE]; unfold rlErr; rw [if_neg h, if_neg (by simpa using h'), if_neg h'', if_pos h3]
  have HE5 : Hid (¬ (r.oid = 0 ∨ r.ver = 0) → NameOk r.name → ¬ 2 < r.ident → ¬ (r.cols.length = 0 ∨ 16 < r.cols.length) → (colsErr [] r.cols ≠ 0 → E = colsErr [] r.cols) ∧ (colsErr [] r.cols = 0 → (r.ident = 1 ∧ ¬ (∃ c ∈ r.cols, c.key = true) → E = 13) ∧ (¬ (r.ident = 1 ∧ ¬ (∃ c ∈ r.cols, c.key = true)) → E = 0))) := Lib.hid fun h h' h'' h3 => by
    rw [hE]; unfold rlErr; rw [if_neg h, if_neg (by simpa using h'), if_neg h'', if_neg h3]
    refine ⟨fun h4 => by rw [if_pos h4], fun h4 => ?_⟩
    rw [if_neg (by simpa using h4)]
    exact ⟨fun h5 => by rw [if_pos h5], fun h5 => by rw [if_neg h5]⟩
  rw [← hE]
  have hcl : r.cols.length ≤ 9223372036854775807 := by unfold maxLen at hcm; omega
  rw [hW] at c0 c1 c2 c3 c4
  clear h1 hx hW hb hE hf hcm
  generalize hrv : relv r (.slice ao r.cols.length cap) = rv at *
  have HRV := Lib.hid hrv.symm
  unfold relv strV at HRV
  clear hrv
  by_cases h0 : r.oid = 0
  · have HEE := Lib.hid (HE1.out (.inl h0))
    clear HE1 HE2 HE3 HE4 HE5
    rw [h0, Int.natCast_zero] at c0
    generalize r.cols.length = n at *
    generalize r.ver = n2 at *
    go_enter Tryz.func31, Tryz.ntmps31
    go_wp2
    go_ret
    rw [← HW.out]
    exact ⟨by rw [HEE.out]; rfl, HX.out⟩
  by_cases h0' : r.ver = 0
  · have HEE := Lib.hid (HE1.out (.inr h0'))
    have e0 : (((r.oid : Nat) : Int) == 0) = false := by simp; omega
    clear HE1 HE2 HE3 HE4 HE5
    rw [h0', Int.natCast_zero] at c1
    generalize r.cols.length = n at *
    generalize r.oid = n2 at *
    clear h0
    go_enter Tryz.func31, Tryz.ntmps31
    go_wp2
    go_ret
    rw [← HW.out]
    exact ⟨by rw [HEE.out]; rfl, HX.out⟩
  have e0 : (((r.oid : Nat) : Int) == 0) = false := by simp; omega
  have e1 : (((r.ver : Nat) : Int) == 0) = false := by simp; omega
  have hnz : ¬ (r.oid = 0 ∨ r.ver = 0) := fun h => h.elim h0 h0'
  clear HE1 h0 h0'
  by_cases hnm : NameOk r.name
  case neg =>
    have HEE := Lib.hid (HE2.out hnz hnm)
    rw [decide_eq_false hnm] at HIN
    unfold strV at HIN
    clear HE2 HE3 HE4 HE5 hnz hnm
    generalize r.cols.length = n at *
    generalize (⟨r.name.toArray⟩ : ByteArray) = A1 at *
    generalize r.oid = n1 at *
    generalize r.ver = n2 at *
    go_enter Tryz.func31, Tryz.ntmps31
    go_wp2_with (go_at_call 57; rw [← HW.out]; refine HIN.out.mono ?_; rintro e w' ⟨rfl, rfl⟩)
    go_ret
    exact ⟨by rw [HEE.out]; rfl, HX.out⟩
  rw [decide_eq_true hnm] at HIN
  unfold strV at HIN
  have HE3' := Lib.hid (HE3.out hnz hnm); have HE4' := Lib.hid (HE4.out hnz hnm); have HE5' := Lib.hid (HE5.out hnz hnm)
  clear HE2 HE3 HE4 HE5 hnz hnm
  generalize (⟨r.name.toArray⟩ : ByteArray) = A1 at *
  generalize r.oid = n1 at *
  generalize r.ver = n2 at *
  by_cases hid : 2 < r.ident
  · have HEE := Lib.hid (HE3'.out hid)
    clear HE3' HE4' HE5'
    generalize r.cols.length = n at *
    generalize r.ident = n3 at *
    go_enter Tryz.func31, Tryz.ntmps31
    go_wp2_with (go_at_call 57; rw [← HW.out]; refine HIN.out.mono ?_; rintro e w' ⟨rfl, rfl⟩; rw [← HW.out] at c0 c1 c2 c3 c4)
    go_ret
    exact ⟨by rw [HEE.out]; rfl, HX.out⟩
  have hid' : r.ident ≤ 2 := by omega
  have HE4 := Lib.hid (HE4'.out hid); have HE5 := Lib.hid (HE5'.out hid)
  clear HE3' HE4' HE5' hid
  by_cases hlen : r.cols.length = 0 ∨ 16 < r.cols.length
  · have HEE := Lib.hid (HE4.out hlen)
    clear HE4 HE5
    generalize r.ident = n3 at *
    rcases hlen with hlen | hlen
    · rw [hlen] at c4
      generalize r.cols.length = n at *
      clear hlc hcl hlen
      go_enter Tryz.func31, Tryz.ntmps31
      go_wp2_with (go_at_call 57; rw [← HW.out]; refine HIN.out.mono ?_; rintro e w' ⟨rfl, rfl⟩; rw [← HW.out] at c0 c1 c2 c3 c4)
      go_ret
      exact ⟨by rw [HEE.out]; rfl, HX.out⟩
    · have e3 : (((r.cols.length : Nat) : Int) == 0) = false := beq_eq_false_iff_ne.2 (by omega)
      generalize r.cols.length = n at *
      clear hlc
      go_enter Tryz.func31, Tryz.ntmps31
      go_wp2_with (go_at_call 57; rw [← HW.out]; refine HIN.out.mono ?_; rintro e w' ⟨rfl, rfl⟩; rw [← HW.out] at c0 c1 c2 c3 c4)
      go_ret
      exact ⟨by rw [HEE.out]; rfl, HX.out⟩
  have e3 : (((r.cols.length : Nat) : Int) == 0) = false := beq_eq_false_iff_ne.2 (by omega)
  have HEE := Lib.hid (HE5.out hlen)
  have hl16 : r.cols.length ≤ 16 := by omega
  clear HE4 HE5 hlen hcl
  obtain ⟨ci, chi, _, chs, _⟩ := info_parts infoRCZ
  have CHI := Lib.hid chi; have CHS := Lib.hid chs
  have HHK : Hid ((∃ c ∈ r.cols, c.key = true) → decide (∃ c ∈ r.cols, c.key = true) = true) := Lib.hid decide_eq_true
  have HHN : Hid (¬ (∃ c ∈ r.cols, c.key = true) → decide (∃ c ∈ r.cols, c.key = true) = false) := Lib.hid decide_eq_false
  generalize decide (∃ c ∈ r.cols, c.key = true) = DK at *
  have HLC := Lib.hid hlc
  generalize hm : r.cols.length = m at *
  have HM := Lib.hid hm
  clear hm hlc chi chs
  generalize hcs : r.cols = cs at *
  clear hcs
  generalize r.ident = n3 at *
  have hrv := HRV.out
  subst hrv
  go_enter Tryz.func31, Tryz.ntmps31
  go_wp2_with (go_at_call 57; rw [← HW.out]; refine HIN.out.mono ?_; rintro e w' ⟨rfl, rfl⟩; rw [← HW.out] at c0 c1 c2 c3 c4)
  clear HIN
  go_loopw [3, 4] (fun kv ix wr => ∃ (k : Nat) (D : Bool), k ≤ m ∧ ix = .int .i64 k ∧ kv = .bool D ∧ Hid ((cs.take k).any (·.key) = D) ∧ Hid (Ext W wr) ∧ Hid (colsErr (cs.take k) (cs.drop k) = colsErr [] cs)) (fun _ ix _ => m - (intOf ix).toNat)
  case atStart => exact ⟨0, false, Nat.zero_le _, rfl, rfl, Lib.hid (by simp), Lib.hid (Ch.refl _ _), Lib.hid (by simp)⟩
  case round =>
    obtain ⟨k, D, hk, rfl, rfl, HD, HX1, HP⟩ := hrel
    have c4w := HX1.out.cell (p := ⟨w.heap.size, 4, none⟩) (fun f => f) _ c4
    by_cases hlt : k < m
    · have hkl : k < cs.length := by have := HM.out; omega
      have hcs := ColS.ext HB.out HX1.out
      obtain ⟨b, o, rfl, hra⟩ := colS_at hcs hkl
      have hidx := run_indexSl wr Tryz.underlying26 CHI.out CHS.out b o m cap k hlt
      have q0 : wr.cell? ⟨b, o + k * 3, none⟩ = some (.string ⟨cs[k].name.toArray⟩) := by have := hra 0 _ rfl; simpa [strV] using this
      have q1 : wr.cell? ⟨b, o + k * 3 + 1, none⟩ = some (.int .u8 (cs[k].ty : Nat)) := hra 1 _ rfl
      have q2 : wr.cell? ⟨b, o + k * 3 + 2, none⟩ = some (.bool cs[k].key) := hra 2 _ rfl
      have HQ := Lib.hid (colsErr_at cs k hkl HP.out)
      have HKT := Lib.hid (key_take cs k hkl)
      have hxl := HF.out cs[k] (List.getElem_mem hkl)
      obtain ⟨x, hx⟩ : ∃ x, x = cs[k] := ⟨_, rfl⟩
      rw [← hx] at q0 q1 q2 HQ hxl HKT
      rw [HD.out] at HKT
      have HCF := Lib.hid (colErr_facts (cs.take k) x)
      have HXL := Lib.hid hxl
      have HCS := Lib.hid hcs; have HLT := Lib.hid hlt
      have hrow := heap_alloc_new wr (.cells (colv x) 78)
      obtain ⟨w2, hw2⟩ : ∃ w2, w2 = wr.alloc (.cells (colv x) 78) := ⟨_, rfl⟩
      rw [← hw2] at hrow
      have hxa : Ext wr w2 := by rw [hw2]; exact (Ch.refl _ _).alloc _
      have HW2 : Hid (w2 = wr.alloc (.cells #[.string ⟨x.name.toArray⟩, .int .u8 (x.ty : Nat), .bool x.key] 78)) := Lib.hid hw2
      have HROW := Lib.hid hrow; have HXA := Lib.hid (HX1.out.trans hxa)
      have HNM := Lib.hid (named_any x.name w2 HXL.out)
      have HC2 := Lib.hid (ColS.ext HCS.out hxa)
      obtain ⟨E2, hE2⟩ : ∃ E2, E2 = colErr (cs.take k) x := ⟨_, rfl⟩
      rw [← hE2] at HQ HCF
      have HC4 := Lib.hid c4
      clear hra hcs hx hxl hrow hxa hw2 hE2 c0 c1 c2 c3 HD HP
      unfold strV at HNM
      by_cases hn : NameOk x.name
      case neg =>
        rw [decide_eq_false hn] at HNM
        have hE3 := HCF.out.1 hn
        have HEF : Hid (E = 3) := Lib.hid (by rw [← hE3, ← HQ.out.1 (by omega)]; exact HEE.out.1 (by rw [HQ.out.1 (by omega)]; omega))
        clear hE3 hn HCF HQ
        go_wp2_with (go_at_call 57; rw [← HW2.out]; refine HNM.out.mono ?_; rintro e w' ⟨rfl, rfl⟩)
        go_ret
        exact ⟨by rw [HEF.out]; rfl, HX.out.trans HXA.out⟩
      rw [decide_eq_true hn] at HNM
      have HCF2 := Lib.hid (And.intro (HCF.out.2.1 hn) (And.intro (HCF.out.2.2.1 hn) (HCF.out.2.2.2 hn)))
      clear hn HCF
      go_wp2_with (go_at_call 57; rw [← HW2.out]; refine HNM.out.mono ?_; rintro e w' ⟨rfl, rfl⟩)
      clear HNM q0 q1 q2 c4w
      generalize wr.heap.size = gx at *
      go_loopw [6] (fun jx w3 => ∃ j : Nat, j ≤ k ∧ jx = .int .i64 j ∧ Hid (Ext w2 w3) ∧ Hid (∀ i (h : i < cs.length), i < j → cs[i].name ≠ x.name)) (fun jx _ => k - (intOf jx).toNat)
      case atStart => exact ⟨0, Nat.zero_le _, rfl, Lib.hid (Ch.refl _ _), Lib.hid fun i h hi => absurd hi (Nat.not_lt_zero _)⟩
      case round =>
        obtain ⟨j, hj, rfl, HX3, HJ⟩ := hrel
        by_cases hjk : j < k
        · have hjl : j < cs.length := by have := HM.out; have := HLT.out; omega
          have hcs3 := ColS.ext HC2.out HX3.out
          obtain ⟨b', o', e0, hra⟩ := colS_at hcs3 hjl
          cases e0
          have hyl := HF.out cs[j] (List.getElem_mem hjl)
          obtain ⟨y, hy⟩ : ∃ y, y = cs[j] := ⟨_, rfl⟩
          rw [← hy] at hra hyl
          have HYY : Hid (∀ h : j < cs.length, cs[j] = y) := Lib.hid fun _ => hy.symm
          have HRA := Lib.hid hra; have HJK := Lib.hid hjk
          have HJM : Hid (j < m) := Lib.hid (by have := HLT.out; omega)
          have HIN : Hid (y.name = x.name → ∃ o ∈ cs.take k, o.name = x.name) := Lib.hid fun h => ⟨y, by rw [hy]; exact List.mem_take_iff_getElem.2 ⟨j, by omega, rfl⟩, h⟩
          have HC4w := Lib.hid ((HXA.out.trans HX3.out).cell (p := ⟨w.heap.size, 4, none⟩) (fun f => f) _ c4)
          have HRW := Lib.hid (heap_ext HX3.out HROW.out)
          clear hra hcs3 hy hyl
          go_wp2
          refine wp_region_ext (rrT w.heap.size gx b o m cap j x y) mixedV (by rfl) (by rfl) ?all ?fin
          case all =>
            refine ⟨?_, ?_, ?_, ?_, ?_, ?_, ?_, ?_, ?_, trivial⟩
            · refine StepOK.plain (kn_stable _) rfl fun ρ w' hρ hw hf => ?_
              have h : ρ (.tmp 1) = .pointer (some ⟨w.heap.size, 0, none⟩) := (hf 1).2 rfl rfl
              exact Exec.kfield rfl rfl h (fieldRR_3 w' _) rfl
            · refine StepOK.plain (kn_stable _) rfl fun ρ w' hρ hw hf => ?_
              have h : ρ (.tmp 55) = .pointer (some ⟨w.heap.size, 4, none⟩) := (hf 55).1 rfl
              have hc := hw.cell (p := ⟨w.heap.size, 4, none⟩) (fun f => f) _ HC4w.out
              exact Exec.same (v := .slice (some ⟨b, o, none⟩) m cap) rfl (by simp [go_sem, hρ.const, h, hc]) rfl
            · refine StepOK.plain (kn_stable _) rfl fun ρ w' hρ hw hf => ?_
              have h1 : ρ (.tmp 6) = .int .i64 (j : Nat) := (hf 6).2 rfl rfl
              exact Exec.kmove rfl rfl h1
            · refine StepOK.plain (kn_stable _) rfl fun ρ w' hρ hw hf => ?_
              have h1 : ρ (.tmp 56) = .slice (some ⟨b, o, none⟩) m cap := (hf 56).1 rfl
              have h2 : ρ (.tmp 57) = .int .i64 (j : Nat) := (hf 57).1 rfl
              exact Exec.kindex rfl rfl Tryz.underlying26 CHI.out CHS.out h1 h2 HJM.out rfl
            · refine StepOK.plain (kn_stable _) rfl fun ρ w' hρ hw hf => ?_
              have h : ρ (.tmp 58) = .pointer (some ⟨b, o + j * 3, none⟩) := (hf 58).1 rfl
              exact Exec.kfield rfl rfl h (fieldRCo_0 w' _ _) rfl
            · refine StepOK.plain (kn_stable _) rfl fun ρ w' hρ hw hf => ?_
              have h : ρ (.tmp 59) = .pointer (some ⟨b, o + j * 3, none⟩) := (hf 59).1 rfl
              have hc : w'.cell? ⟨b, o + j * 3, none⟩ = some (.string ⟨y.name.toArray⟩) := hw.cell (p := ⟨b, o + j * 3, none⟩) (fun f => f) _ (HRA.out 0 _ rfl)
              exact Exec.same (v := strV y.name) rfl (by simp [go_sem, hρ.const, h, hc, strV]) rfl
            · refine StepOK.plain (kn_stable _) rfl fun ρ w' hρ hw hf => ?_
              have h : ρ (.tmp 5) = .pointer (some ⟨gx, 0, none⟩) := (hf 5).2 rfl rfl
              exact Exec.kfield rfl rfl h (fieldRCo_0 w' _ _) rfl
            · refine StepOK.plain (kn_stable _) rfl fun ρ w' hρ hw hf => ?_
              have h : ρ (.tmp 61) = .pointer (some ⟨gx, 0, none⟩) := (hf 61).1 rfl
              have hc : w'.cell? ⟨gx, 0, none⟩ = some (.string ⟨x.name.toArray⟩) := by rw [cell_of_row _ _ _ _ _ _ (heap_ext hw HRW.out)]; rfl
              exact Exec.same (v := strV x.name) rfl (by simp [go_sem, hρ.const, h, hc, strV]) rfl
            · refine StepOK.plain (kn_stable _) rfl fun ρ w' hρ hw hf => ?_
              have h1 : ρ (.tmp 60) = strV y.name := (hf 60).1 rfl
              have h2 : ρ (.tmp 62) = strV x.name := (hf 62).1 rfl
              exact Exec.kstreq rfl rfl Tryz.underlying9 h1 h2 rfl
          case fin =>
            intro ν w8 hfin hx8
            have h63 : ν 63 = .bool (decide (y.name = x.name)) := hfin 8 63 rfl
            simp only [Exit.then, ended, List.foldl_cons, List.foldl_nil, List.setIfInBounds_toArray, List.set_cons_succ, List.set_cons_zero, h63]
            have HX8 := Lib.hid (HX3.out.trans hx8)
            clear hfin hx8 h63
            by_cases hyx : y.name = x.name
            · have hE9 := HCF2.out.1 (HIN.out hyx)
              have HEF : Hid (E = 9) := Lib.hid (by rw [← hE9, ← HQ.out.1 (by omega)]; exact HEE.out.1 (by rw [HQ.out.1 (by omega)]; omega))
              rw [decide_eq_true hyx]
              clear hE9 hyx
              go_wp2
              go_ret
              exact ⟨by rw [HEF.out]; rfl, HX.out.trans (HXA.out.trans HX8.out)⟩
            · have HJ2 : Hid (∀ i (h : i < cs.length), i < j + 1 → cs[i].name ≠ x.name) := Lib.hid fun i h hi => by
                by_cases hij : i < j
                · exact HJ.out i h hij
                · have : i = j := by omega
                  subst this
                  rw [HYY.out h]; exact hyx
              rw [decide_eq_false hyx]
              have hkm : k < 9223372036854775807 := by have := HLT.out; omega
              clear hyx
              go_wp2
              exact ⟨⟨j + 1, HJK.out, rfl, HX8, HJ2⟩, by simp only [intOf]; have := HJK.out; omega⟩
        · obtain rfl : j = k := by omega
          have HNO : Hid (¬ ∃ o ∈ cs.take j, o.name = x.name) := Lib.hid fun ⟨y, hy, h⟩ => by
            obtain ⟨i, hi, e⟩ := List.mem_take_iff_getElem.1 hy
            exact HJ.out i (by omega) (by omega) (by rw [e]; exact h)
          have HCF3 := Lib.hid (And.intro (HCF2.out.2.1 HNO.out) (HCF2.out.2.2 HNO.out))
          have hrw := heap_ext HX3.out HROW.out
          have y1 : wr.cell? ⟨gx, 1, none⟩ = some (.int .u8 (x.ty : Nat)) := by rw [cell_of_row _ _ _ _ _ _ hrw]; rfl
          have y2 : wr.cell? ⟨gx, 2, none⟩ = some (.bool x.key) := by rw [cell_of_row _ _ _ _ _ _ hrw]; rfl
          have hjm : j < m := HLT.out
          clear hrw HCF2 HNO
          generalize hty : x.ty = ty at *
          have HKX : Hid ((cs.take (j + 1)).any (·.key) = (D || x.key)) := HKT
          generalize x.key = ky at *
          clear hty HKT
          by_cases t1 : ty < 1
          · have hE := HCF3.out.1 (.inl t1)
            have HEF : Hid (E = 11) := Lib.hid (by rw [← hE, ← HQ.out.1 (by omega)]; exact HEE.out.1 (by rw [HQ.out.1 (by omega)]; omega))
            clear hE HCF3 HQ
            go_wp2
            go_ret
            exact ⟨by rw [HEF.out]; rfl, HX.out.trans (HXA.out.trans HX3.out)⟩
          by_cases t6 : 6 < ty
          · have hE := HCF3.out.1 (.inr t6)
            have HEF : Hid (E = 11) := Lib.hid (by rw [← hE, ← HQ.out.1 (by omega)]; exact HEE.out.1 (by rw [HQ.out.1 (by omega)]; omega))
            have t1' : 1 ≤ ty := by omega
            clear hE HCF3 HQ t1
            go_wp2
            go_ret
            exact ⟨by rw [HEF.out]; rfl, HX.out.trans (HXA.out.trans HX3.out)⟩
          have HPK := Lib.hid (HQ.out.2 (HCF3.out.2 (by omega)))
          have t1' : 1 ≤ ty := by omega
          have t6' : ty ≤ 6 := by omega
          clear HCF3 HQ t1 t6
          have HXX := Lib.hid (HXA.out.trans HX3.out)
          cases D with
          | true =>
            go_wp2
            exact ⟨⟨j + 1, true, HLT.out, rfl, rfl, Lib.hid (by rw [HKX.out]; rfl), HXX, HPK⟩, by simp only [intOf]; have := HLT.out; omega⟩
          | false =>
            go_wp2
            exact ⟨⟨j + 1, ky, HLT.out, rfl, rfl, Lib.hid (by rw [HKX.out]; simp), HXX, HPK⟩, by simp only [intOf]; have := HLT.out; omega⟩
    · obtain rfl : k = m := by omega
      have HP0 : Hid (colsErr [] cs = 0) := Lib.hid (by have := HP.out; rw [← HM.out, List.drop_length, colsErr] at this; exact this.symm)
      have HEE2 := Lib.hid (HEE.out.2 HP0.out)
      have c3 := HX1.out.cell (p := ⟨w.heap.size, 3, none⟩) (fun f => f) _ c3
      have HDK : Hid (cs.any (·.key) = D) := Lib.hid (by have := HD.out; have e : cs.take k = cs := (by rw [← HM.out, List.take_length]); rw [e] at this; exact this)
      by_cases hi1 : n3 = 1
      · have e4 : (((n3 : Nat) : Int) == 1) = true := by rw [hi1]; rfl
        by_cases hk1 : ∃ c ∈ cs, c.key = true
        · have HD1 : Hid (D = true) := Lib.hid (by rw [← HDK.out, List.any_eq_true]; exact hk1)
          have HF0 := Lib.hid (HEE2.out.2 fun h => h.2 hk1)
          rw [HD1.out]
          clear hi1 hk1 HD HDK
          go_wp2
          go_ret
          exact ⟨by rw [HF0.out]; rfl, HX.out.trans HX1.out⟩
        · have HD1 : Hid (D = false) := Lib.hid (by rw [← HDK.out, List.any_eq_false]; exact fun c hc h => hk1 ⟨c, hc, h⟩)
          have HF0 := Lib.hid (HEE2.out.1 ⟨hi1, hk1⟩)
          rw [HD1.out]
          clear hi1 hk1 HD HDK
          go_wp2
          go_ret
          exact ⟨by rw [HF0.out]; rfl, HX.out.trans HX1.out⟩
      · have e4 : (((n3 : Nat) : Int) == 1) = false := by simp; omega
        have HF0 := Lib.hid (HEE2.out.2 fun h => hi1 h.1)
        clear hi1
        go_wp2
        go_ret
        exact ⟨by rw [HF0.out]; rfl, HX.out.trans HX1.out⟩
end Go.Proofs.YtegclfpmgilnpaaGreat
