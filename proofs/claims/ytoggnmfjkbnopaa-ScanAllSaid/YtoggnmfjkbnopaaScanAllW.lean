/-
  ScanAll: the walk. MADE BY mkScAll.py
-/
import Derived.Test.YtoggnmfjkbnopaaScI
import Derived.Test.YtoggnmfjkbnopaaScE
import Derived.Test.YtoggnmfjkbnopaaTurned
import Derived.Laws.OwnMore
import Derived.Maps.AppendAt
namespace Go.Proofs.Ytoggnmfjkbnopaa
open Go.RowKit Go.Lac

/-- 'append(s, x...)', and where its row lies. -/
theorem run_append_where {P : Program} (w : World) (base : Nat) (t ty e : TypeId) (i : TypeInfo) (z : Value) (size bytes : Nat) (ht : P.underlying t = some (.slice e)) (hi : P.info? e = some i) (hz : i.zero = some z)
    (hsize : i.size = size) (hby : i.bytes = bytes) (hzs : z.cells.size = size) (hsz : 0 < size)
    (v : Value) (n : Nat) (xs : List Value) (hown : w.ownsRow base e size v n xs)
    (x : Value) (m : Nat) (news : List Value) (hx : Sl w x m news) (hl : news.length = m * size) (h1 : ∀ u ∈ news, u.oneCell' = true)
    (hbytes : (n + m) * bytes ≤ 140737488355328) (h63 : n + m ≤ maxLen) (hbase : base ≤ w.heap.size) :
    ∃ v' w', (Builtin.append_ #[t, t] ty #[v, x]).run P w = .ok v' w' ∧ w'.ownsRow base e size v' (n + m) (xs ++ news) ∧ w.grownBy w' v.ownBlock ∧ (v'.ownBlock = v.ownBlock ∨ v'.ownBlock = some w.heap.size) := by
  obtain ⟨ao, cap, rfl, g1, g2, g3, g4⟩ := hx
  cases ao with
  | none =>
    have hc := g3 rfl
    obtain rfl : m = 0 := by omega
    have hn : news = [] := List.eq_nil_of_length_eq_zero (by simpa using hl)
    subst hn
    subst hc
    exact ⟨v, w, run_append_owned_none w base t ty e i size ht hi v n xs hown, by simpa using hown, World.grownBy.refl _ _, .inl rfl⟩
  | some a =>
    obtain ⟨v', w', r1, r2, r3, _, r5⟩ := run_append_own_at w base t ty e i z size bytes ht hi hz hsize hby hzs hsz v n xs hown a m cap news hl
      (fun j u hu => by obtain ⟨b, off, rfl, g5⟩ := g4 a rfl j u hu; rw [Addr.add_lit]; exact g5) h1 h63 hbytes hbase
    exact ⟨v', w', r1, r2, r3, r5⟩

/-- The first i frames' bytes; where each of them ends. -/
def allB (l : List Mk) (i : Nat) : List UInt8 := (l.take i).flatMap Mk.bytes
theorem allB_succ {l : List Mk} {i : Nat} {x : Mk} (h : l[i]? = some x) : allB l (i + 1) = allB l i ++ x.bytes := by
  obtain ⟨hi, he⟩ := List.getElem?_eq_some_iff.1 h
  unfold allB
  rw [List.take_succ_eq_append_getElem hi, List.flatMap_append, he]
  simp
def endsC (l : List Mk) (i : Nat) : List Value := (List.range i).map fun j => .int .i64 (((allB l (j + 1)).length : Nat) : Int)
theorem endsC_succ (l : List Mk) (i : Nat) : endsC l (i + 1) = endsC l i ++ [.int .i64 (((allB l (i + 1)).length : Nat) : Int)] := by simp [endsC, List.range_succ]
theorem endsC_get {l : List Mk} {i j : Nat} (h : j < i) : (endsC l i)[j]? = some (.int .i64 (((allB l (j + 1)).length : Nat) : Int)) := by simp [endsC, h]
theorem fndsOf_get : ∀ (l : List Mk) (a : Nat), (∀ x ∈ l, Mk.right x) → ∀ j (h : j < l.length), (fndsOf a l)[j]? = some ⟨l[j].1, l[j].2.1, l[j].2.2, a + (allB l j).length, l[j].2.2.length + 10⟩
  | [], _, _, _, h => by simp at h
  | x :: l, a, hr, 0, _ => by simp [fndsOf, allB]
  | x :: l, a, hr, j + 1, h => by
    have hx : x.bytes.length = x.2.2.length + 10 := made_length (hr x (List.mem_cons_self ..))
    rw [fndsOf, List.getElem?_cons_succ, fndsOf_get l _ (fun y hy => hr y (List.mem_cons_of_mem _ hy)) j (by simpa using h)]
    simp only [List.getElem_cons_succ, allB, List.take_succ_cons, List.flatMap_cons, List.length_append, hx]
    simp
    omega
theorem infoInt : (Try.prog.info? 3).map (fun i => (i.zero, i.size, i.bytes)) = some (some (.int .i64 0), 1, 8) := by kernel_rfl
theorem fldG_0 (w : World) (b o : Nat) : (Instr.fieldAt 48 (.pointer (some ⟨b, o, none⟩)) 0).run Try.prog w = .ok (.pointer (some ⟨b, o, none⟩)) w := by kernel_rfl
theorem fldG_1 (w : World) (b o : Nat) : (Instr.fieldAt 48 (.pointer (some ⟨b, o, none⟩)) 1).run Try.prog w = .ok (.pointer (some ⟨b, o + 1, none⟩)) w := by kernel_rfl
theorem fldG_2 (w : World) (b o : Nat) : (Instr.fieldAt 48 (.pointer (some ⟨b, o, none⟩)) 2).run Try.prog w = .ok (.pointer (some ⟨b, o + 2, none⟩)) w := by kernel_rfl
theorem fldR_0 (w : World) (b o : Nat) : (Instr.fieldAt 44 (.pointer (some ⟨b, o, none⟩)) 0).run Try.prog w = .ok (.pointer (some ⟨b, o, none⟩)) w := by kernel_rfl
theorem fldR_1 (w : World) (b o : Nat) : (Instr.fieldAt 44 (.pointer (some ⟨b, o, none⟩)) 1).run Try.prog w = .ok (.pointer (some ⟨b, o + 1, none⟩)) w := by kernel_rfl
theorem fldR_2 (w : World) (b o : Nat) : (Instr.fieldAt 44 (.pointer (some ⟨b, o, none⟩)) 2).run Try.prog w = .ok (.pointer (some ⟨b, o + 2, none⟩)) w := by kernel_rfl
theorem infoFrA' : (Try.prog.info? 44).map (fun i => (i.size)) = some 3 := by kernel_rfl
theorem infoFrA : ∃ i, Try.prog.info? 44 = some i ∧ i.size = 3 := by
  have h := infoFrA'
  cases hq : Try.prog.info? 44 with
  | none => rw [hq] at h; cases h
  | some i => rw [hq] at h; exact ⟨i, rfl, by simpa using h⟩
theorem meas6 (n j : Nat) (h : j < n) : n - (intOf (.int .i64 ((j : Int) + 1))).toNat < n - (intOf (.int .i64 (j : Int))).toNat := by
  simp only [intOf]
  omega
theorem own_keep6 {M : Nat → Prop} {w w' : World} {base : Nat} {e : TypeId} {size n : Nat} {v : Value} {xs : List Value} (h : w.ownsRow base e size v n xs) (k : Ch M w w') (hm : ∀ g, v.ownBlock = some g → ¬ M g) : w'.ownsRow base e size v n xs := by
  refine ⟨h.1, ?_⟩
  rcases h.2 with h0 | ⟨g', cap', cur, hv, h1, h2, h3⟩
  · exact .inl h0
  · exact .inr ⟨g', cap', cur, hv, h1, by rw [k.block g' (Array.getElem?_eq_some_iff.1 h2).1 (hm g' (by rw [hv]; rfl))]; exact h2, h3⟩

def AllRel (l : List Mk) (w : World) (bv ev ix : Value) (wr : World) : Prop :=
  ∃ i m : Nat, ix = .int .i64 (i : Nat) ∧ i ≤ l.length ∧ (∀ j (h : j < l.length), j < i → Mk.right l[j] ∧ l[j].2.2.length ≤ 300) ∧ Hid (m = (allB l i).length) ∧ m ≤ i * 310 ∧ wr.ownsRow w.heap.size 5 1 bv m (cellsB (allB l i)) ∧
    wr.ownsRow w.heap.size 3 1 ev i (endsC l i) ∧ (∀ g, bv.ownBlock = some g → ev.ownBlock ≠ some g) ∧ Ext w wr
def AllWh (r g n m : Nat) (fs : List Fnd) (w : World) (q : Ending) (w' : World) : Prop :=
  ∃ lo lc, q = .returned (.tuple #[.slice lo n lc, .int .i64 0]) ∧ Ch (fun i => i = g ∨ i = r) w w' ∧ IsS w' r g [] m 0 ∧ FdS w' .u64 (.slice lo n lc) fs
/-- A row of numbers, the j-th. -/
theorem ints_at {w : World} {base n cap : Nat} {ao : Option Addr} {e : TypeId} {cs : List Value} (h : w.ownsRow base e 1 (.slice ao n cap) n cs) {j : Nat} (hj : j < n) : ∃ b, ao = some ⟨b, 0, none⟩ ∧ ∀ u, cs[j]? = some u → w.cell? ⟨b, 0 + j * 1, none⟩ = some u := by
  obtain ⟨ao', cap', e0, g1, g2, g3, g5⟩ := Sl.ofOwns h
  cases e0
  rcases h.2 with ⟨h0, _⟩ | ⟨g, c, cur, hv, _⟩
  · cases h0; omega
  · cases hv
    refine ⟨g, rfl, fun u hu => ?_⟩
    obtain ⟨b', off, e1, h6⟩ := g5 _ rfl j u hu
    cases e1
    rw [Nat.mul_one]; exact h6

def all5T (b1 o1 k1 b2 o2 k2 b3 o3 k3 n j x y : Nat) (p : List UInt8) (at' sz E : Nat) (a1 : Option Addr) (c1 : Nat) (a2 : Option Addr) (c2 : Nat) : Tmp → Kn
  | 89 => .is (.slice (some ⟨b1, o1, none⟩) n k1)
  | 90 => .is (.int .i64 (j : Nat))
  | 91 => .is (.pointer (some ⟨b1, o1 + j * 5, none⟩))
  | 92 => .is (.pointer (some ⟨b1, o1 + j * 5, none⟩))
  | 93 => .is (.pointer (some ⟨b1, o1 + j * 5 + 1, none⟩))
  | 94 => .is (.int .u8 (y : Nat))
  | 95 => .is (.slice (some ⟨b2, o2, none⟩) n k2)
  | 96 => .is (.int .i64 (j : Nat))
  | 97 => .is (.pointer (some ⟨b2, o2 + j * 3, none⟩))
  | 98 => .is (.pointer (some ⟨b2, o2 + j * 3 + 1, none⟩))
  | 99 => .is (.int .u8 (y : Nat))
  | 100 => .is (.bool false)
  | 101 => .is (.bool false)
  | 102 => .is (.slice (some ⟨b1, o1, none⟩) n k1)
  | 103 => .is (.int .i64 (j : Nat))
  | 104 => .is (.pointer (some ⟨b1, o1 + j * 5, none⟩))
  | 105 => .is (.pointer (some ⟨b1, o1 + j * 5, none⟩))
  | 106 => .is (.pointer (some ⟨b1, o1 + j * 5, none⟩))
  | 107 => .is (.int .u8 (x : Nat))
  | 108 => .is (.slice (some ⟨b2, o2, none⟩) n k2)
  | 109 => .is (.int .i64 (j : Nat))
  | 110 => .is (.pointer (some ⟨b2, o2 + j * 3, none⟩))
  | 111 => .is (.pointer (some ⟨b2, o2 + j * 3, none⟩))
  | 112 => .is (.int .u8 (x : Nat))
  | 113 => .is (.bool false)
  | 114 => .is (.bool false)
  | 115 => .is (.bool false)
  | 116 => .is (.slice (some ⟨b1, o1, none⟩) n k1)
  | 117 => .is (.int .i64 (j : Nat))
  | 118 => .is (.pointer (some ⟨b1, o1 + j * 5, none⟩))
  | 119 => .is (.pointer (some ⟨b1, o1 + j * 5, none⟩))
  | 120 => .is (.pointer (some ⟨b1, o1 + j * 5 + 2, none⟩))
  | 121 => .is (.slice a1 p.length c1)
  | 122 => .is (strV p)
  | 123 => .is (.slice (some ⟨b2, o2, none⟩) n k2)
  | 124 => .is (.int .i64 (j : Nat))
  | 125 => .is (.pointer (some ⟨b2, o2 + j * 3, none⟩))
  | 126 => .is (.pointer (some ⟨b2, o2 + j * 3 + 2, none⟩))
  | 127 => .is (.slice a2 p.length c2)
  | 128 => .is (strV p)
  | 129 => .is (.bool false)
  | 130 => .is (.bool false)
  | 131 => .is (.bool false)
  | 132 => .is (.slice (some ⟨b1, o1, none⟩) n k1)
  | 133 => .is (.int .i64 (j : Nat))
  | 134 => .is (.pointer (some ⟨b1, o1 + j * 5, none⟩))
  | 135 => .is (.pointer (some ⟨b1, o1 + j * 5 + 3, none⟩))
  | 136 => .is (.int .u64 (at' : Nat))
  | 137 => .is (.int .i64 (at' : Nat))
  | 138 => .is (.slice (some ⟨b1, o1, none⟩) n k1)
  | 139 => .is (.int .i64 (j : Nat))
  | 140 => .is (.pointer (some ⟨b1, o1 + j * 5, none⟩))
  | 141 => .is (.pointer (some ⟨b1, o1 + j * 5 + 4, none⟩))
  | 142 => .is (.int .i64 (sz : Nat))
  | 143 => .is (.int .i64 (E : Nat))
  | 144 => .is (.slice (some ⟨b3, o3, none⟩) n k3)
  | 145 => .is (.int .i64 (j : Nat))
  | 146 => .is (.pointer (some ⟨b3, o3 + j * 1, none⟩))
  | 147 => .is (.int .i64 (E : Nat))
  | 148 => .is (.bool false)
  | 149 => .is (.bool false)
  | _ => .any

set_option maxRecDepth 20000 in
set_option maxHeartbeats 6000000 in
theorem scanAll_walk (lv : Value) (l : List Mk) (w : World) (hl : FrS w lv l) :
    Calls Try.prog 5 #[lv] w fun e w' => e = .returned (.bool true) ∧ Ext w w' := by
  obtain ⟨i, hi, hz, hsz, hby⟩ := info_parts infoU8
  obtain ⟨ni, nhi, nhz, nhsz, nhby⟩ := info_parts infoInt
  obtain ⟨gi, ghi, ghsz⟩ := infoFrA
  obtain ⟨fi, fhi, fhz, fhsz, fhby⟩ := info_parts infoFound
  obtain ⟨lo, lc, rfl, hlm, hel⟩ := hl
  have HI := Lib.hid hi; have HZ := Lib.hid hz; have HSZ := Lib.hid hsz; have HBY := Lib.hid hby; have GHI := Lib.hid ghi; have GHSZ := Lib.hid ghsz
  have NHI := Lib.hid nhi; have NHZ := Lib.hid nhz; have NHSZ := Lib.hid nhsz; have NHBY := Lib.hid nhby; have FHI := Lib.hid fhi; have FHSZ := Lib.hid fhsz
  have HEL := Lib.hid hel
  unfold maxLen at hlm
  clear hi hz hsz hby nhi nhz nhsz nhby fhi fhz fhsz fhby ghi ghsz hel
  obtain ⟨n, hn⟩ : ∃ n, n = l.length := ⟨_, rfl⟩
  rw [← hn] at hlm ⊢
  have HN := Lib.hid hn
  clear hn
  by_cases h12 : 12 < n
  · go_enter Try.func5, Try.ntmps5
    go_wp2
    go_ret
    exact ⟨rfl, Ch.refl _ _⟩
  have HLM := Lib.hid h12
  go_enter Try.func5, Try.ntmps5
  go_wp2
  go_loopw [3, 4, 5] (fun bv ev ix wr => AllRel l w bv ev ix wr) (fun _ _ ix _ => n - (intOf ix).toNat)
  case atStart => exact ⟨0, 0, rfl, Nat.zero_le _, fun j _ h => absurd h (Nat.not_lt_zero _), Lib.hid rfl, Nat.le_refl _, ⟨rfl, .inl ⟨rfl, rfl⟩⟩, ⟨rfl, .inl ⟨rfl, rfl⟩⟩, fun g h => by simp [Value.ownBlock] at h, Ch.refl _ _⟩
  case round =>
    obtain ⟨i', m, rfl, hi1, hok, HM, hlen, hown, hoe, hdis, hext⟩ := hrel
    have HOK := Lib.hid hok; have HOWN := Lib.hid hown; have HOE := Lib.hid hoe; have HDIS := Lib.hid hdis; have HEXT := Lib.hid hext; have HLEN := Lib.hid hlen
    obtain ⟨vo, vc, rfl⟩ := owns_shape hown
    obtain ⟨eo3, ec3, rfl⟩ := owns_shape hoe
    clear hok hown hoe hdis hext hlen
    by_cases hlt : i' < n
    · have hil : i' < l.length := by have := HN.out; omega
      obtain ⟨eb, eo, es, rfl, hra, hx1, hx2, hrd⟩ := HEL.out i' hil
      obtain ⟨sa, sc', rfl⟩ := hrd.shape
      obtain ⟨xx, hxx⟩ : ∃ xx, xx = l[i'] := ⟨_, rfl⟩
      have HXX : Hid (l[i']? = some xx ∧ ∀ h : i' < l.length, l[i'] = xx) := Lib.hid ⟨by rw [List.getElem?_eq_getElem hil, hxx], fun _ => hxx.symm⟩
      rw [← hxx] at hra hx1 hx2 hrd
      clear hxx
      obtain ⟨xv, xk, xp⟩ := xx
      simp only at hra hx1 hx2 hrd
      have c0 : wr.cell? ⟨eb, eo + i' * 3, none⟩ = some (.int .u8 (xv : Nat)) := HEXT.out.cell (p := ⟨eb, eo + i' * 3, none⟩) (fun f => f) _ (by have := hra 0 _ rfl; simpa using this)
      have c1 : wr.cell? ⟨eb, eo + i' * 3 + 1, none⟩ = some (.int .u8 (xk : Nat)) := HEXT.out.cell (p := ⟨eb, eo + i' * 3 + 1, none⟩) (fun f => f) _ (hra 1 _ rfl)
      have c2 : wr.cell? ⟨eb, eo + i' * 3 + 2, none⟩ = some (.slice sa xp.length sc') := HEXT.out.cell (p := ⟨eb, eo + i' * 3 + 2, none⟩) (fun f => f) _ (hra 2 _ rfl)
      have hidx : ∀ w0, (Instr.indexAt 41 (.slice (some ⟨eb, eo, none⟩) n lc) (.int .i64 (i' : Nat))).run Try.prog w0 = .ok (.pointer (some ⟨eb, eo + i' * 3, none⟩)) w0 := fun w0 => run_indexSl w0 Try.underlying41 GHI.out GHSZ.out eb eo n lc i' hlt
      have HIDX := Lib.hid hidx; have HRA := Lib.hid hra
      have HRD := Lib.hid hrd; have HX12 : Hid (xv < 256 ∧ xk < 256) := Lib.hid ⟨hx1, hx2⟩
      have HLT := Lib.hid hlt; have HI1 := Lib.hid hi1
      clear hrd hx1 hx2 hil hra hi1
      have HMK : Hid (∀ w, Rd w (.slice sa xp.length sc') xp → xp.length ≤ 5000 → frRight xv xk xp.length = 0 → Calls Try.prog 23 #[.agg #[.int .u8 (xv : Nat), .int .u8 (xk : Nat), .slice sa xp.length sc']] w (MakeOwn xv xk xp w)) := Lib.hid fun w h h1 h2 => refMake_own xv xk _ xp w HX12.out.1 HX12.out.2 h h1 h2
      have HRR : Hid (∀ w, Rd w (.slice sa xp.length sc') xp → Calls Try.prog 22 #[.agg #[.int .u8 (xv : Nat), .int .u8 (xk : Nat), .slice sa xp.length sc']] w fun e w' => e = .returned (.int .i64 (frRight xv xk xp.length : Nat)) ∧ Ext w w') := Lib.hid fun w h => refRight_any xv xk _ xp w HX12.out.1 HX12.out.2 h
      have HRW := Lib.hid (HRD.out.ext HEXT.out)
      generalize hpn : xp.length = pn at *
      have HPN := Lib.hid hpn
      clear hpn
      have hidx := HIDX.out wr
      by_cases h300 : 300 < pn
      · clear hidx
        have hidx := HIDX.out wr
        go_wp2
        try simp only [Exit.inBlock]
        go_ret
        exact ⟨rfl, HEXT.out⟩
      have H300 := Lib.hid h300
      go_wp2_with (go_at_call 22; refine (HRR.out _ HRW.out).mono ?_)
      intro e w2 hm
      obtain ⟨rfl, hx⟩ := hm
      have HX3 := Lib.hid (HEXT.out.trans hx)
      have c0 := hx.cell (p := ⟨eb, eo + i' * 3, none⟩) (fun f => f) _ c0
      have c1 := hx.cell (p := ⟨eb, eo + i' * 3 + 1, none⟩) (fun f => f) _ c1
      have c2 := hx.cell (p := ⟨eb, eo + i' * 3 + 2, none⟩) (fun f => f) _ c2
      have HR2 := Lib.hid (HRW.out.ext hx)
      have HOW2 := Lib.hid (HOWN.out.ext hx); have HOE2 := Lib.hid (HOE.out.ext hx)
      clear hx hidx
      by_cases hE : frRight xv xk pn = 0
      case neg =>
        have e1 : (((frRight xv xk pn : Nat) : Int) != 0) = true := by simp; omega
        clear hE
        generalize frRight xv xk pn = E at *
        go_wp2
        try simp only [Exit.inBlock]
        go_ret
        exact ⟨rfl, HX3.out⟩
      have HE := Lib.hid hE
      rw [hE]
      clear hE
      have hidx := HIDX.out w2
      have HM2 := Lib.hid (HMK.out w2 HR2.out (by have := HPN.out; have := H300.out; omega) HE.out)
      go_wp2_with (go_at_call 23; refine HM2.out.mono ?_)
      intro e w4 hm
      obtain ⟨t, rfl, hx, ho⟩ := hm
      have HBL0 : Hid ((frBytes xv xk xp).length = pn + 10) := Lib.hid (by rw [made_length (by rw [HPN.out]; exact HE.out), HPN.out])
      obtain ⟨bs, hbs⟩ : ∃ bs, bs = frBytes xv xk xp := ⟨_, rfl⟩
      rw [← hbs] at HBL0 ho
      have HBS : Hid (Mk.bytes (xv, xk, xp) = bs) := Lib.hid hbs.symm
      have HBL := Lib.hid HBL0.out
      obtain ⟨ta, tc, rfl⟩ := owns_shape ho
      obtain ⟨g, rfl, hge⟩ := owns_addr ho (by rw [HBL.out]; omega)
      rw [HBL.out] at ho ⊢
      have HO4 := Lib.hid ho; have HX4 := Lib.hid (HX3.out.trans hx); have HOW4 := Lib.hid (HOW2.out.ext hx); have HOE4 := Lib.hid (HOE2.out.ext hx)
      have HOK2 : Hid (∀ j (h : j < l.length), j < i' + 1 → Mk.right l[j] ∧ l[j].2.2.length ≤ 300) := Lib.hid fun j h hj => by
        by_cases hji : j < i'
        · exact HOK.out j h hji
        · have e : j = i' := by omega
          subst e
          rw [HXX.out.2 h]
          exact ⟨by show frRight xv xk xp.length = 0; rw [HPN.out]; exact HE.out, by show xp.length ≤ 300; have := HPN.out; have := H300.out; omega⟩
      have HAL : Hid (allB l (i' + 1) = allB l i' ++ bs) := Lib.hid (by rw [allB_succ HXX.out.1, HBS.out])
      clear ho hge hx hbs HBL0 hidx c0 c1 c2
      have HC5 : Hid (Rd w4 (.slice (some ⟨g, 0, none⟩) (pn + 10) tc) bs) := Lib.hid (by have h1 := HO4.out; rw [← HBL.out] at h1 ⊢; exact Rd.ofOwns h1)
      have hlb : m ≤ 4000 := by
        have h1 := HLEN.out; have h2 := HLM.out; have h3 := HLT.out; omega
      obtain ⟨v', w5, q1, q2, q3, q4⟩ := run_append_where (P := Try.prog) w4 w.heap.size 22 22 5 i (.int .u8 0) 1 1 Try.underlying22 HI.out HZ.out HSZ.out HBY.out rfl (by decide) (.slice vo m vc) m (cellsB (allB l i')) HOW4.out (.slice (some ⟨g, 0, none⟩) (pn + 10) tc) (pn + 10) (cellsB bs)
        (by have := HC5.out; unfold Rd at this; rwa [HBL.out] at this) (by rw [cellsB_length, HBL.out, Nat.mul_one]) (cellsB_one _) (by have := H300.out; omega) (by have := H300.out; unfold maxLen; omega) HX4.out.size
      obtain ⟨v0, vc0, rfl⟩ := owns_shape q2
      rw [← cellsB_append, ← HAL.out] at q2
      obtain ⟨M, hM⟩ : ∃ M, M = m + (pn + 10) := ⟨_, rfl⟩
      have HMM : Hid (M = (allB l (i' + 1)).length ∧ M ≤ (i' + 1) * 310) := Lib.hid ⟨by rw [hM, HAL.out, List.length_append, ← HM.out, HBL.out], by have := HLEN.out; have := H300.out; omega⟩
      rw [← hM] at q1 q2 q4
      have HX5 : Hid (Ext w w5) := Lib.hid (HX4.out.grown q3 fun kk hk => .inr (HOW4.out.lt kk hk).1)
      have HOE5 : Hid (w5.ownsRow w.heap.size 3 1 (.slice eo3 i' ec3) i' (endsC l i')) := Lib.hid (own_keep6 HOE4.out (Ch.ofGrown q3) fun q hq e => HDIS.out q e.symm hq)
      have HOA5 := Lib.hid q2
      have hlit := World.ownsRow_lit (base := w5.heap.size) (e := 3) (size := 1) w5 #[.int .i64 (M : Nat)] 1 (Nat.le_refl _) (by decide) rfl
      have hsl := Sl.ofOwns hlit
      obtain ⟨v2, w6, p1, p2, p3, p4⟩ := run_append_where (P := Try.prog) (w5.alloc (.cells #[.int .i64 (M : Nat)] 3)) w.heap.size 42 42 3 ni (.int .i64 0) 1 8 Try.underlying42 NHI.out NHZ.out NHSZ.out NHBY.out rfl (by decide) (.slice eo3 i' ec3) i' (endsC l i') (HOE5.out.ext ((Ch.refl _ _).alloc _)) (.slice (some ⟨w5.heap.size, 0, none⟩) 1 1) 1 [.int .i64 (M : Nat)]
        hsl rfl (by intro u hu; simp at hu; subst hu; rfl) (by have := HLT.out; have := HLM.out; omega) (by have := HLT.out; have := HLM.out; unfold maxLen; omega) (by have := HX5.out.size; simp; omega)
      obtain ⟨v02, vc2, rfl⟩ := owns_shape p2
      have hes : endsC l i' ++ [.int .i64 (M : Nat)] = endsC l (i' + 1) := by rw [endsC_succ, HMM.out.1]
      rw [hes] at p2
      have hJ : AllRel l w (.slice v0 M vc0) (.slice v02 (i' + 1) vc2) (.int .i64 ((i' + 1 : Nat) : Int)) w6 := by
        refine ⟨i' + 1, M, rfl, by have := HN.out; have := HLT.out; omega, HOK2.out, Lib.hid HMM.out.1, HMM.out.2, ?_, p2, ?_, ?_⟩
        · refine own_keep6 (HOA5.out.ext ((Ch.refl _ _).alloc _)) (Ch.ofGrown p3) fun q hq e => ?_
          rcases q4 with q4 | q4
          · exact HDIS.out q (by rw [← q4]; exact hq) e.symm
          · rw [q4] at hq
            have h9 := (HOE4.out.lt q e.symm).2
            cases hq
            omega
        · intro q hq e
          rcases p4 with p4 | p4
          · rw [p4] at e
            rcases q4 with q4 | q4
            · exact HDIS.out q (by rw [← q4]; exact hq) e
            · rw [q4] at hq
              have h9 := (HOE4.out.lt q e).2
              cases hq
              omega
          · rw [p4] at e
            have h9 := (HOA5.out.lt q hq).2
            cases e
            simp at h9
            omega
        · exact (HX5.out.trans ((Ch.refl _ _).alloc _)).grown p3 fun kk hk => .inr (HOE5.out.lt kk hk).1
      have HJ := Lib.hid hJ; have R5 := Lib.hid q1; have R6 := Lib.hid p1
      clear hlb q1 q2 q3 q4 p1 p2 p3 p4 hJ hlit hsl hes hM
      go_wp2_with (first | (at_builtin; refine wpList_append_run rfl _ _ _ rfl rfl rfl R5.out ?_) | (at_builtin; refine wpList_append_run rfl _ _ _ rfl rfl rfl R6.out ?_))
      exact ⟨HJ.out, meas6 n i' HLT.out⟩
    · have hin : i' = n := by have := HN.out; omega
      subst hin
      have hnl := HN.out
      have hrt : ∀ x ∈ l, Mk.right x ∧ x.2.2.length ≤ 300 := fun x hx => by
        obtain ⟨j, hj, rfl⟩ := List.mem_iff_getElem.1 hx
        exact HOK.out j hj (by omega)
      have HRT := Lib.hid hrt
      obtain ⟨B, hB⟩ : ∃ B, B = allB l i' := ⟨_, rfl⟩
      have hS : sc 0 B = (fndsOf 0 l, m, 0) := by
        have := sc_made l 0 [] (fun x hx => (hrt x hx).1)
        rw [sc_short _ frErr_nil, List.append_nil, List.append_nil] at this
        rw [hB, HM.out, allB, hnl, List.take_length, this]
        simp
      have hBm : B.length = m := by rw [hB, HM.out]
      rw [← hB] at HOWN
      have hfl : (fndsOf 0 l).length = i' := by rw [fndsOf_length]; omega
      obtain ⟨fs1, hfs⟩ : ∃ x, x = fndsOf 0 l := ⟨_, rfl⟩
      have HFS := Lib.hid hfs
      rw [← hfs] at hS hfl
      have HS5 := Lib.hid hS
      have hmb : m ≤ 4000 := by have := HLEN.out; have := HLM.out; omega
      have hwf : IntKind.u64.wrap (m : Int) = (m : Int) := wrap_u64_of (by omega) (by omega)
      have HFL := Lib.hid hfl; have HMB := Lib.hid hmb
      have HRF : Hid (Rd wr (.slice vo m vc) B) := Lib.hid (by have h1 := HOWN.out; rw [← hBm] at h1 ⊢; exact Rd.ofOwns h1)
      have HLN : Hid (B.length ≤ 400000) := Lib.hid (by omega)
      have HBM := Lib.hid hBm
      clear hnl hrt hS hfl hfs hmb hi1 hlt hB hBm
      go_wp2_with (go_at_call 14; refine (new_any _).mono ?_)
      rintro e w1 ⟨r, g, rfl, hx1, hr, hg, hs⟩
      have HX1 := Lib.hid (HEXT.out.trans hx1); have HR := Lib.hid hr; have HG := Lib.hid hg
      have hfw := fed_whole w1 r g B (.slice vo m vc) (Fed.nil hs) (HRF.out.ext hx1) HLN.out HS5.out
      have hf : Calls Try.prog 15 #[.pointer (some ⟨r, 0, none⟩), .slice vo m vc] w1 (AllWh r g i' m fs1 w1) := by
        refine Calls.mono hfw ?_
        rintro q w' ⟨v, h1, h2, h3, h4⟩
        obtain ⟨lo', lc', rfl⟩ := h3.shape
        rw [HFL.out] at h1
        rw [if_pos rfl, show B.drop m = [] from List.drop_eq_nil_of_le (by rw [HBM.out]; exact Nat.le_refl _)] at h4
        have h5 := h3.toS
        rw [HFL.out] at h5
        exact ⟨lo', lc', h1, h2, h4, h5⟩
      have HOE1 := Lib.hid (HOE.out.ext hx1)
      have HF := Lib.hid hf
      clear hx1 hr hg hs hfw hf
      go_wp2_with (go_at_call 15; refine HF.out.mono ?_)
      intro e w2 hm
      obtain ⟨lo', lc', rfl, hc2, hs2, hfd⟩ := hm
      have HX2 : Hid (Ext w w2) := Lib.hid (Ch.transNew HX1.out (hc2.mono fun i _ h => .inr (by have h1 := HR.out; have h2 := HG.out; have h3 := HEXT.out.size; rcases h with rfl | rfl <;> omega)))
      have HS2 := Lib.hid hs2; have HFD := Lib.hid hfd
      have HOE2 : Hid (w2.ownsRow w.heap.size 3 1 (.slice eo3 i' ec3) i' (endsC l i')) := Lib.hid (own_keep6 HOE1.out hc2 fun q hq e => by have h1 := HR.out; have h2 := HG.out; have h3 := (HOE.out.lt q hq).2; rcases e with rfl | rfl <;> omega)
      clear hc2 hs2 hfd
      go_wp2_with fail
      refine (scAt_any w2 r g _ _ _ HS2.out).mono ?_
      rintro e w4 ⟨rfl, rfl⟩
      go_wp2_with fail
      refine (scKept_any w4 r g _ _ _ HS2.out).mono ?_
      rintro e w5 ⟨rfl, rfl⟩
      go_wp2
      go_loopw [11] (fun ix wr => ∃ k : Nat, k ≤ i' ∧ ix = .int .i64 (k : Nat) ∧ Ext w5 wr) (fun ix _ => i' - (intOf ix).toNat)
      case atStart => exact ⟨0, Nat.zero_le _, rfl, Ch.refl _ _⟩
      case round =>
        obtain ⟨j, hj, rfl, hxq⟩ := hrel
        have HXQ := Lib.hid hxq; have HX7 := Lib.hid (HX2.out.trans hxq); clear hxq
        by_cases hlt : j < i'
        · have hjl : j < l.length := by have := HN.out; omega
          have hjf : j < fs1.length := by rw [HFL.out]; exact hlt
          have hfg : fs1[j] = ⟨l[j].1, l[j].2.1, l[j].2.2, 0 + (allB l j).length, l[j].2.2.length + 10⟩ := by
            have h1 := fndsOf_get l 0 (fun x hx => (HRT.out x hx).1) j hjl
            rw [← HFS.out, List.getElem?_eq_getElem hjf] at h1
            exact Option.some.inj h1
          obtain ⟨b1, o1, a1, c1, rfl, m1, p3, p4, r1⟩ := (HFD.out.ext HXQ.out).at' hjf
          obtain ⟨b2, o2, s2, rfl, hra, hx1, hx2, hrd⟩ := HEL.out j hjl
          obtain ⟨a2, c2, rfl⟩ := hrd.shape
          obtain ⟨b3, rfl, he3⟩ := ints_at HOE2.out hlt
          have he4 := he3 _ (endsC_get hlt)
          have hE1 : (allB l (j + 1)).length = (allB l j).length + (l[j].2.2.length + 10) := by
            have h2 : l[j].bytes.length = l[j].2.2.length + 10 := made_length (HRT.out _ (List.getElem_mem hjl)).1
            rw [allB_succ (List.getElem?_eq_getElem hjl), List.length_append, h2]
          have hbd : (allB l j).length ≤ 4000 := by
            have hle : (allB l j).length ≤ (allB l i').length := by
              have hgen : ∀ q, j ≤ q → q ≤ l.length → (allB l j).length ≤ (allB l q).length := fun q => by
                induction q with
                | zero => intro h _; rw [show j = 0 by omega]; exact Nat.le_refl _
                | succ q ih =>
                  intro h hq
                  rcases Nat.lt_or_ge q j with h1 | h1
                  · rw [show j = q + 1 by omega]; exact Nat.le_refl _
                  · rw [allB_succ (List.getElem?_eq_getElem (show q < l.length by omega)), List.length_append]
                    have := ih h1 (by omega)
                    omega
              exact hgen i' (by omega) (by have := HN.out; omega)
            have h2 := HM.out; have h3 := HMB.out
            omega
          have hpl : l[j].2.2.length ≤ 300 := (HRT.out _ (List.getElem_mem hjl)).2
          have hA0 := m1 0 _ rfl; have hA1 := m1 1 _ rfl; have hA2 := m1 2 _ rfl
          have hB0 : wr.cell? ⟨b2, o2 + j * 3, none⟩ = some (.int .u8 (l[j].1 : Nat)) := HX7.out.cell (p := ⟨b2, o2 + j * 3, none⟩) (fun f => f) _ (by have := hra 0 _ rfl; simpa using this)
          have hB1 : wr.cell? ⟨b2, o2 + j * 3 + 1, none⟩ = some (.int .u8 (l[j].2.1 : Nat)) := HX7.out.cell (p := ⟨b2, o2 + j * 3 + 1, none⟩) (fun f => f) _ (hra 1 _ rfl)
          have hB2 : wr.cell? ⟨b2, o2 + j * 3 + 2, none⟩ = some (.slice a2 l[j].2.2.length c2) := HX7.out.cell (p := ⟨b2, o2 + j * 3 + 2, none⟩) (fun f => f) _ (hra 2 _ rfl)
          have hr2 := hrd.ext HX7.out
          have he5 := HXQ.out.cell (p := ⟨b3, 0 + j * 1, none⟩) (fun f => f) _ he4
          simp only [hfg] at hA0 hA1 hA2 p3 p4 r1
          rw [Nat.zero_add] at p3
          rw [Nat.add_zero] at hA0
          rw [hE1] at he5
          clear hfg m1 hra he3 he4 hE1 hx1 hx2 hrd
          generalize l[j].1 = x at *
          generalize l[j].2.1 = y at *
          generalize l[j].2.2 = p at *
          generalize (allB l j).length = at' at *
          obtain ⟨sz, hsz⟩ : ∃ sz, sz = p.length + 10 := ⟨_, rfl⟩
          rw [← hsz] at p4 he5
          obtain ⟨E, hE⟩ : ∃ E, E = at' + sz := ⟨_, rfl⟩
          rw [← hE] at he5
          have HW : Hid (IntKind.i64.wrap (at' : Int) = (at' : Int) ∧ wrap64 (at' : Int) = (at' : Int)) := Lib.hid ⟨by rw [IntKind.wrap_i64]; omega, by unfold wrap64; omega⟩
          have HADD : Hid (IntKind.i64.wrap ((at' : Int) + (sz : Int)) = (E : Int) ∧ wrap64 ((at' : Int) + (sz : Int)) = (E : Int)) := Lib.hid ⟨by rw [IntKind.wrap_i64]; omega, by unfold wrap64; omega⟩
          have HA0 := Lib.hid hA0; have HA1 := Lib.hid hA1; have HA2 := Lib.hid hA2; have HA3 := Lib.hid p3; have HA4 := Lib.hid p4; have HR1 := Lib.hid r1
          have HB0 := Lib.hid hB0; have HB1 := Lib.hid hB1; have HB2 := Lib.hid hB2; have HR2 := Lib.hid hr2; have HE := Lib.hid he5
          have HN1 : Hid (j < i') := Lib.hid hlt
          have H63 : Hid (i' ≤ 9223372036854775807) := Lib.hid hlm
          clear hA0 hA1 hA2 p3 p4 r1 hB0 hB1 hB2 hr2 he5 hbd hjl hjf hsz hE hpl
          have HJN := Lib.hid hj
          clear hj
          have hd1 : decide ((j : Int) < (i' : Int)) = true := decide_eq_true (by omega)
          go_wp2
          refine wp_region_ext (all5T b1 o1 lc' b2 o2 lc b3 0 ec3 i' j x y p at' sz E a1 c1 a2 c2) mixedS (by rfl) (by rfl) ?all ?fin
          case all =>
            refine ⟨?_, ?_, ?_, ?_, ?_, ?_, ?_, ?_, ?_, ?_, ?_, ?_, ?_, ?_, ?_, ?_, ?_, ?_, ?_, ?_, ?_, ?_, ?_, ?_, ?_, ?_, ?_, ?_, ?_, ?_, ?_, ?_, ?_, ?_, ?_, ?_, ?_, ?_, ?_, ?_, ?_, ?_, ?_, ?_, ?_, ?_, ?_, ?_, ?_, ?_, ?_, ?_, ?_, ?_, ?_, ?_, ?_, ?_, ?_, ?_, ?_, trivial⟩
            · -- 0: slot 89 := Op.move t9
              refine StepOK.plain (kn_stable _) rfl fun ρ w hρ hw hf => ?_
              have h9 : ρ (.tmp 9) = (.slice (some ⟨b1, o1, none⟩) i' lc') := (hf 9).2 rfl rfl
              exact Exec.kmove rfl rfl h9
            · -- 1: slot 90 := Op.move t11
              refine StepOK.plain (kn_stable _) rfl fun ρ w hρ hw hf => ?_
              have h11 : ρ (.tmp 11) = (.int .i64 (j : Nat)) := (hf 11).2 rfl rfl
              exact Exec.kmove rfl rfl h11
            · -- 2: slot 91 := Op.indexAddr 27 t89 t90
              refine StepOK.plain (kn_stable _) rfl fun ρ w hρ hw hf => ?_
              have h89 : ρ (.tmp 89) = (.slice (some ⟨b1, o1, none⟩) i' lc') := (hf 89).1 rfl
              have h90 : ρ (.tmp 90) = (.int .i64 (j : Nat)) := (hf 90).1 rfl
              exact Exec.kindex rfl rfl Try.underlying27 FHI.out FHSZ.out h89 h90 HN1.out rfl
            · -- 3: slot 92 := Op.fieldAddr 50 t91 0
              refine StepOK.plain (kn_stable _) rfl fun ρ w hρ hw hf => ?_
              have h91 : ρ (.tmp 91) = (.pointer (some ⟨b1, o1 + j * 5, none⟩)) := (hf 91).1 rfl
              exact Exec.kfield rfl rfl h91 (fld50_0 w _ _) rfl
            · -- 4: slot 93 := Op.fieldAddr 48 t92 1
              refine StepOK.plain (kn_stable _) rfl fun ρ w hρ hw hf => ?_
              have h92 : ρ (.tmp 92) = (.pointer (some ⟨b1, o1 + j * 5, none⟩)) := (hf 92).1 rfl
              exact Exec.kfield rfl rfl h92 (fldG_1 w _ _) rfl
            · -- 5: slot 94 := Op.load 5 t93
              refine StepOK.plain (kn_stable _) rfl fun ρ w hρ hw hf => ?_
              have h93 : ρ (.tmp 93) = (.pointer (some ⟨b1, o1 + j * 5 + 1, none⟩)) := (hf 93).1 rfl
              have hc := hw.cell (fun f => f) _ HA1.out
              exact Exec.same (v := .int .u8 (y : Nat)) rfl (by simp [go_sem, hρ.const, h93, hc]) rfl
            · -- 6: slot 95 := Op.move t0
              refine StepOK.plain (kn_stable _) rfl fun ρ w hρ hw hf => ?_
              have h0 : ρ (.tmp 0) = (.slice (some ⟨b2, o2, none⟩) i' lc) := (hf 0).2 rfl rfl
              exact Exec.kmove rfl rfl h0
            · -- 7: slot 96 := Op.move t11
              refine StepOK.plain (kn_stable _) rfl fun ρ w hρ hw hf => ?_
              have h11 : ρ (.tmp 11) = (.int .i64 (j : Nat)) := (hf 11).2 rfl rfl
              exact Exec.kmove rfl rfl h11
            · -- 8: slot 97 := Op.indexAddr 41 t95 t96
              refine StepOK.plain (kn_stable _) rfl fun ρ w hρ hw hf => ?_
              have h95 : ρ (.tmp 95) = (.slice (some ⟨b2, o2, none⟩) i' lc) := (hf 95).1 rfl
              have h96 : ρ (.tmp 96) = (.int .i64 (j : Nat)) := (hf 96).1 rfl
              exact Exec.kindex rfl rfl Try.underlying41 GHI.out GHSZ.out h95 h96 HN1.out rfl
            · -- 9: slot 98 := Op.fieldAddr 44 t97 1
              refine StepOK.plain (kn_stable _) rfl fun ρ w hρ hw hf => ?_
              have h97 : ρ (.tmp 97) = (.pointer (some ⟨b2, o2 + j * 3, none⟩)) := (hf 97).1 rfl
              exact Exec.kfield rfl rfl h97 (fldR_1 w _ _) rfl
            · -- 10: slot 99 := Op.load 5 t98
              refine StepOK.plain (kn_stable _) rfl fun ρ w hρ hw hf => ?_
              have h98 : ρ (.tmp 98) = (.pointer (some ⟨b2, o2 + j * 3 + 1, none⟩)) := (hf 98).1 rfl
              have hc := hw.cell (fun f => f) _ HB1.out
              exact Exec.same (v := .int .u8 (y : Nat)) rfl (by simp [go_sem, hρ.const, h98, hc]) rfl
            · -- 11: slot 100 := Op.binOp BinOp.neq 5 t94 t99 5
              refine StepOK.plain (kn_stable _) rfl fun ρ w hρ hw hf => ?_
              have h94 : ρ (.tmp 94) = (.int .u8 (y : Nat)) := (hf 94).1 rfl
              have h99 : ρ (.tmp 99) = (.int .u8 (y : Nat)) := (hf 99).1 rfl
              exact Exec.same (v := .bool false) rfl (by simp [go_sem, hρ.const, h94, h99]) rfl
            · -- 12: slot 101 := Op.move t100
              refine StepOK.plain (kn_stable _) rfl fun ρ w hρ hw hf => ?_
              have h100 : ρ (.tmp 100) = (.bool false) := (hf 100).1 rfl
              exact Exec.kmove rfl rfl h100
            · -- 13: slot 102 := Op.move t9
              refine StepOK.guarded (kn_stable _) 12 false 101 rfl rfl (fun ρ w _ _ hf => (hf 101).1 rfl) fun ρ w hρ hw hf => ?_
              have h9 : ρ (.tmp 9) = (.slice (some ⟨b1, o1, none⟩) i' lc') := (hf 9).2 rfl rfl
              exact Exec.kmove rfl rfl h9
            · -- 14: slot 103 := Op.move t11
              refine StepOK.guarded (kn_stable _) 12 false 101 rfl rfl (fun ρ w _ _ hf => (hf 101).1 rfl) fun ρ w hρ hw hf => ?_
              have h11 : ρ (.tmp 11) = (.int .i64 (j : Nat)) := (hf 11).2 rfl rfl
              exact Exec.kmove rfl rfl h11
            · -- 15: slot 104 := Op.indexAddr 27 t102 t103
              refine StepOK.guarded (kn_stable _) 12 false 101 rfl rfl (fun ρ w _ _ hf => (hf 101).1 rfl) fun ρ w hρ hw hf => ?_
              have h102 : ρ (.tmp 102) = (.slice (some ⟨b1, o1, none⟩) i' lc') := (hf 102).1 rfl
              have h103 : ρ (.tmp 103) = (.int .i64 (j : Nat)) := (hf 103).1 rfl
              exact Exec.kindex rfl rfl Try.underlying27 FHI.out FHSZ.out h102 h103 HN1.out rfl
            · -- 16: slot 105 := Op.fieldAddr 50 t104 0
              refine StepOK.guarded (kn_stable _) 12 false 101 rfl rfl (fun ρ w _ _ hf => (hf 101).1 rfl) fun ρ w hρ hw hf => ?_
              have h104 : ρ (.tmp 104) = (.pointer (some ⟨b1, o1 + j * 5, none⟩)) := (hf 104).1 rfl
              exact Exec.kfield rfl rfl h104 (fld50_0 w _ _) rfl
            · -- 17: slot 106 := Op.fieldAddr 48 t105 0
              refine StepOK.guarded (kn_stable _) 12 false 101 rfl rfl (fun ρ w _ _ hf => (hf 101).1 rfl) fun ρ w hρ hw hf => ?_
              have h105 : ρ (.tmp 105) = (.pointer (some ⟨b1, o1 + j * 5, none⟩)) := (hf 105).1 rfl
              exact Exec.kfield rfl rfl h105 (fldG_0 w _ _) rfl
            · -- 18: slot 107 := Op.load 5 t106
              refine StepOK.guarded (kn_stable _) 12 false 101 rfl rfl (fun ρ w _ _ hf => (hf 101).1 rfl) fun ρ w hρ hw hf => ?_
              have h106 : ρ (.tmp 106) = (.pointer (some ⟨b1, o1 + j * 5, none⟩)) := (hf 106).1 rfl
              have hc := hw.cell (fun f => f) _ HA0.out
              exact Exec.same (v := .int .u8 (x : Nat)) rfl (by simp [go_sem, hρ.const, h106, hc]) rfl
            · -- 19: slot 108 := Op.move t0
              refine StepOK.guarded (kn_stable _) 12 false 101 rfl rfl (fun ρ w _ _ hf => (hf 101).1 rfl) fun ρ w hρ hw hf => ?_
              have h0 : ρ (.tmp 0) = (.slice (some ⟨b2, o2, none⟩) i' lc) := (hf 0).2 rfl rfl
              exact Exec.kmove rfl rfl h0
            · -- 20: slot 109 := Op.move t11
              refine StepOK.guarded (kn_stable _) 12 false 101 rfl rfl (fun ρ w _ _ hf => (hf 101).1 rfl) fun ρ w hρ hw hf => ?_
              have h11 : ρ (.tmp 11) = (.int .i64 (j : Nat)) := (hf 11).2 rfl rfl
              exact Exec.kmove rfl rfl h11
            · -- 21: slot 110 := Op.indexAddr 41 t108 t109
              refine StepOK.guarded (kn_stable _) 12 false 101 rfl rfl (fun ρ w _ _ hf => (hf 101).1 rfl) fun ρ w hρ hw hf => ?_
              have h108 : ρ (.tmp 108) = (.slice (some ⟨b2, o2, none⟩) i' lc) := (hf 108).1 rfl
              have h109 : ρ (.tmp 109) = (.int .i64 (j : Nat)) := (hf 109).1 rfl
              exact Exec.kindex rfl rfl Try.underlying41 GHI.out GHSZ.out h108 h109 HN1.out rfl
            · -- 22: slot 111 := Op.fieldAddr 44 t110 0
              refine StepOK.guarded (kn_stable _) 12 false 101 rfl rfl (fun ρ w _ _ hf => (hf 101).1 rfl) fun ρ w hρ hw hf => ?_
              have h110 : ρ (.tmp 110) = (.pointer (some ⟨b2, o2 + j * 3, none⟩)) := (hf 110).1 rfl
              exact Exec.kfield rfl rfl h110 (fldR_0 w _ _) rfl
            · -- 23: slot 112 := Op.load 5 t111
              refine StepOK.guarded (kn_stable _) 12 false 101 rfl rfl (fun ρ w _ _ hf => (hf 101).1 rfl) fun ρ w hρ hw hf => ?_
              have h111 : ρ (.tmp 111) = (.pointer (some ⟨b2, o2 + j * 3, none⟩)) := (hf 111).1 rfl
              have hc := hw.cell (fun f => f) _ HB0.out
              exact Exec.same (v := .int .u8 (x : Nat)) rfl (by simp [go_sem, hρ.const, h111, hc]) rfl
            · -- 24: slot 113 := Op.binOp BinOp.neq 5 t107 t112 5
              refine StepOK.guarded (kn_stable _) 12 false 101 rfl rfl (fun ρ w _ _ hf => (hf 101).1 rfl) fun ρ w hρ hw hf => ?_
              have h107 : ρ (.tmp 107) = (.int .u8 (x : Nat)) := (hf 107).1 rfl
              have h112 : ρ (.tmp 112) = (.int .u8 (x : Nat)) := (hf 112).1 rfl
              exact Exec.same (v := .bool false) rfl (by simp [go_sem, hρ.const, h107, h112]) rfl
            · -- 25: slot 114 := Op.pick t101 (const (Value.bool true)) t113
              refine StepOK.plain (kn_stable _) rfl fun ρ w hρ hw hf => ?_
              have h101 : ρ (.tmp 101) = (.bool false) := (hf 101).1 rfl
              have h113 : ρ (.tmp 113) = (.bool false) := (hf 113).1 rfl
              exact Exec.kpickF rfl rfl h101 h113
            · -- 26: slot 115 := Op.move t114
              refine StepOK.plain (kn_stable _) rfl fun ρ w hρ hw hf => ?_
              have h114 : ρ (.tmp 114) = (.bool false) := (hf 114).1 rfl
              exact Exec.kmove rfl rfl h114
            · -- 27: slot 116 := Op.move t9
              refine StepOK.guarded (kn_stable _) 26 false 115 rfl rfl (fun ρ w _ _ hf => (hf 115).1 rfl) fun ρ w hρ hw hf => ?_
              have h9 : ρ (.tmp 9) = (.slice (some ⟨b1, o1, none⟩) i' lc') := (hf 9).2 rfl rfl
              exact Exec.kmove rfl rfl h9
            · -- 28: slot 117 := Op.move t11
              refine StepOK.guarded (kn_stable _) 26 false 115 rfl rfl (fun ρ w _ _ hf => (hf 115).1 rfl) fun ρ w hρ hw hf => ?_
              have h11 : ρ (.tmp 11) = (.int .i64 (j : Nat)) := (hf 11).2 rfl rfl
              exact Exec.kmove rfl rfl h11
            · -- 29: slot 118 := Op.indexAddr 27 t116 t117
              refine StepOK.guarded (kn_stable _) 26 false 115 rfl rfl (fun ρ w _ _ hf => (hf 115).1 rfl) fun ρ w hρ hw hf => ?_
              have h116 : ρ (.tmp 116) = (.slice (some ⟨b1, o1, none⟩) i' lc') := (hf 116).1 rfl
              have h117 : ρ (.tmp 117) = (.int .i64 (j : Nat)) := (hf 117).1 rfl
              exact Exec.kindex rfl rfl Try.underlying27 FHI.out FHSZ.out h116 h117 HN1.out rfl
            · -- 30: slot 119 := Op.fieldAddr 50 t118 0
              refine StepOK.guarded (kn_stable _) 26 false 115 rfl rfl (fun ρ w _ _ hf => (hf 115).1 rfl) fun ρ w hρ hw hf => ?_
              have h118 : ρ (.tmp 118) = (.pointer (some ⟨b1, o1 + j * 5, none⟩)) := (hf 118).1 rfl
              exact Exec.kfield rfl rfl h118 (fld50_0 w _ _) rfl
            · -- 31: slot 120 := Op.fieldAddr 48 t119 2
              refine StepOK.guarded (kn_stable _) 26 false 115 rfl rfl (fun ρ w _ _ hf => (hf 115).1 rfl) fun ρ w hρ hw hf => ?_
              have h119 : ρ (.tmp 119) = (.pointer (some ⟨b1, o1 + j * 5, none⟩)) := (hf 119).1 rfl
              exact Exec.kfield rfl rfl h119 (fldG_2 w _ _) rfl
            · -- 32: slot 121 := Op.load 22 t120
              refine StepOK.guarded (kn_stable _) 26 false 115 rfl rfl (fun ρ w _ _ hf => (hf 115).1 rfl) fun ρ w hρ hw hf => ?_
              have h120 : ρ (.tmp 120) = (.pointer (some ⟨b1, o1 + j * 5 + 2, none⟩)) := (hf 120).1 rfl
              have hc := hw.cell (fun f => f) _ HA2.out
              exact Exec.same (v := .slice a1 p.length c1) rfl (by simp [go_sem, hρ.const, h120, hc]) rfl
            · -- 33: slot 122 := Op.convert 22 9 t121
              refine StepOK.guarded (kn_stable _) 26 false 115 rfl rfl (fun ρ w _ _ hf => (hf 115).1 rfl) fun ρ w hρ hw hf => ?_
              have h121 : ρ (.tmp 121) = (.slice a1 p.length c1) := (hf 121).1 rfl
              exact Exec.kstr rfl rfl Try.underlying22 Try.underlying5 Try.underlying9 (by rw [h121]; exact HR1.out.ext hw) rfl
            · -- 34: slot 123 := Op.move t0
              refine StepOK.guarded (kn_stable _) 26 false 115 rfl rfl (fun ρ w _ _ hf => (hf 115).1 rfl) fun ρ w hρ hw hf => ?_
              have h0 : ρ (.tmp 0) = (.slice (some ⟨b2, o2, none⟩) i' lc) := (hf 0).2 rfl rfl
              exact Exec.kmove rfl rfl h0
            · -- 35: slot 124 := Op.move t11
              refine StepOK.guarded (kn_stable _) 26 false 115 rfl rfl (fun ρ w _ _ hf => (hf 115).1 rfl) fun ρ w hρ hw hf => ?_
              have h11 : ρ (.tmp 11) = (.int .i64 (j : Nat)) := (hf 11).2 rfl rfl
              exact Exec.kmove rfl rfl h11
            · -- 36: slot 125 := Op.indexAddr 41 t123 t124
              refine StepOK.guarded (kn_stable _) 26 false 115 rfl rfl (fun ρ w _ _ hf => (hf 115).1 rfl) fun ρ w hρ hw hf => ?_
              have h123 : ρ (.tmp 123) = (.slice (some ⟨b2, o2, none⟩) i' lc) := (hf 123).1 rfl
              have h124 : ρ (.tmp 124) = (.int .i64 (j : Nat)) := (hf 124).1 rfl
              exact Exec.kindex rfl rfl Try.underlying41 GHI.out GHSZ.out h123 h124 HN1.out rfl
            · -- 37: slot 126 := Op.fieldAddr 44 t125 2
              refine StepOK.guarded (kn_stable _) 26 false 115 rfl rfl (fun ρ w _ _ hf => (hf 115).1 rfl) fun ρ w hρ hw hf => ?_
              have h125 : ρ (.tmp 125) = (.pointer (some ⟨b2, o2 + j * 3, none⟩)) := (hf 125).1 rfl
              exact Exec.kfield rfl rfl h125 (fldR_2 w _ _) rfl
            · -- 38: slot 127 := Op.load 22 t126
              refine StepOK.guarded (kn_stable _) 26 false 115 rfl rfl (fun ρ w _ _ hf => (hf 115).1 rfl) fun ρ w hρ hw hf => ?_
              have h126 : ρ (.tmp 126) = (.pointer (some ⟨b2, o2 + j * 3 + 2, none⟩)) := (hf 126).1 rfl
              have hc := hw.cell (fun f => f) _ HB2.out
              exact Exec.same (v := .slice a2 p.length c2) rfl (by simp [go_sem, hρ.const, h126, hc]) rfl
            · -- 39: slot 128 := Op.convert 22 9 t127
              refine StepOK.guarded (kn_stable _) 26 false 115 rfl rfl (fun ρ w _ _ hf => (hf 115).1 rfl) fun ρ w hρ hw hf => ?_
              have h127 : ρ (.tmp 127) = (.slice a2 p.length c2) := (hf 127).1 rfl
              exact Exec.kstr rfl rfl Try.underlying22 Try.underlying5 Try.underlying9 (by rw [h127]; exact HR2.out.ext hw) rfl
            · -- 40: slot 129 := Op.binOp BinOp.neq 9 t122 t128 9
              refine StepOK.guarded (kn_stable _) 26 false 115 rfl rfl (fun ρ w _ _ hf => (hf 115).1 rfl) fun ρ w hρ hw hf => ?_
              have h122 : ρ (.tmp 122) = (strV p) := (hf 122).1 rfl
              have h128 : ρ (.tmp 128) = (strV p) := (hf 128).1 rfl
              exact Exec.kstrne rfl rfl Try.underlying9 h122 h128 (by simp; exact rfl)
            · -- 41: slot 130 := Op.pick t115 (const (Value.bool true)) t129
              refine StepOK.plain (kn_stable _) rfl fun ρ w hρ hw hf => ?_
              have h115 : ρ (.tmp 115) = (.bool false) := (hf 115).1 rfl
              have h129 : ρ (.tmp 129) = (.bool false) := (hf 129).1 rfl
              exact Exec.kpickF rfl rfl h115 h129
            · -- 42: slot 131 := Op.move t130
              refine StepOK.plain (kn_stable _) rfl fun ρ w hρ hw hf => ?_
              have h130 : ρ (.tmp 130) = (.bool false) := (hf 130).1 rfl
              exact Exec.kmove rfl rfl h130
            · -- 43: slot 132 := Op.move t9
              refine StepOK.guarded (kn_stable _) 42 false 131 rfl rfl (fun ρ w _ _ hf => (hf 131).1 rfl) fun ρ w hρ hw hf => ?_
              have h9 : ρ (.tmp 9) = (.slice (some ⟨b1, o1, none⟩) i' lc') := (hf 9).2 rfl rfl
              exact Exec.kmove rfl rfl h9
            · -- 44: slot 133 := Op.move t11
              refine StepOK.guarded (kn_stable _) 42 false 131 rfl rfl (fun ρ w _ _ hf => (hf 131).1 rfl) fun ρ w hρ hw hf => ?_
              have h11 : ρ (.tmp 11) = (.int .i64 (j : Nat)) := (hf 11).2 rfl rfl
              exact Exec.kmove rfl rfl h11
            · -- 45: slot 134 := Op.indexAddr 27 t132 t133
              refine StepOK.guarded (kn_stable _) 42 false 131 rfl rfl (fun ρ w _ _ hf => (hf 131).1 rfl) fun ρ w hρ hw hf => ?_
              have h132 : ρ (.tmp 132) = (.slice (some ⟨b1, o1, none⟩) i' lc') := (hf 132).1 rfl
              have h133 : ρ (.tmp 133) = (.int .i64 (j : Nat)) := (hf 133).1 rfl
              exact Exec.kindex rfl rfl Try.underlying27 FHI.out FHSZ.out h132 h133 HN1.out rfl
            · -- 46: slot 135 := Op.fieldAddr 50 t134 1
              refine StepOK.guarded (kn_stable _) 42 false 131 rfl rfl (fun ρ w _ _ hf => (hf 131).1 rfl) fun ρ w hρ hw hf => ?_
              have h134 : ρ (.tmp 134) = (.pointer (some ⟨b1, o1 + j * 5, none⟩)) := (hf 134).1 rfl
              exact Exec.kfield rfl rfl h134 (fld50_1 w _ _) rfl
            · -- 47: slot 136 := Op.load 37 t135
              refine StepOK.guarded (kn_stable _) 42 false 131 rfl rfl (fun ρ w _ _ hf => (hf 131).1 rfl) fun ρ w hρ hw hf => ?_
              have h135 : ρ (.tmp 135) = (.pointer (some ⟨b1, o1 + j * 5 + 3, none⟩)) := (hf 135).1 rfl
              have hc := hw.cell (fun f => f) _ HA3.out
              exact Exec.same (v := .int .u64 (at' : Nat)) rfl (by simp [go_sem, hρ.const, h135, hc]) rfl
            · -- 48: slot 137 := Op.convert 37 3 t136
              refine StepOK.guarded (kn_stable _) 42 false 131 rfl rfl (fun ρ w _ _ hf => (hf 131).1 rfl) fun ρ w hρ hw hf => ?_
              have h136 : ρ (.tmp 136) = (.int .u64 (at' : Nat)) := (hf 136).1 rfl
              exact Exec.same (v := .int .i64 (at' : Nat)) rfl (by simp [go_sem, hρ.const, h136, HW.out.1, HW.out.2]) rfl
            · -- 49: slot 138 := Op.move t9
              refine StepOK.guarded (kn_stable _) 42 false 131 rfl rfl (fun ρ w _ _ hf => (hf 131).1 rfl) fun ρ w hρ hw hf => ?_
              have h9 : ρ (.tmp 9) = (.slice (some ⟨b1, o1, none⟩) i' lc') := (hf 9).2 rfl rfl
              exact Exec.kmove rfl rfl h9
            · -- 50: slot 139 := Op.move t11
              refine StepOK.guarded (kn_stable _) 42 false 131 rfl rfl (fun ρ w _ _ hf => (hf 131).1 rfl) fun ρ w hρ hw hf => ?_
              have h11 : ρ (.tmp 11) = (.int .i64 (j : Nat)) := (hf 11).2 rfl rfl
              exact Exec.kmove rfl rfl h11
            · -- 51: slot 140 := Op.indexAddr 27 t138 t139
              refine StepOK.guarded (kn_stable _) 42 false 131 rfl rfl (fun ρ w _ _ hf => (hf 131).1 rfl) fun ρ w hρ hw hf => ?_
              have h138 : ρ (.tmp 138) = (.slice (some ⟨b1, o1, none⟩) i' lc') := (hf 138).1 rfl
              have h139 : ρ (.tmp 139) = (.int .i64 (j : Nat)) := (hf 139).1 rfl
              exact Exec.kindex rfl rfl Try.underlying27 FHI.out FHSZ.out h138 h139 HN1.out rfl
            · -- 52: slot 141 := Op.fieldAddr 50 t140 2
              refine StepOK.guarded (kn_stable _) 42 false 131 rfl rfl (fun ρ w _ _ hf => (hf 131).1 rfl) fun ρ w hρ hw hf => ?_
              have h140 : ρ (.tmp 140) = (.pointer (some ⟨b1, o1 + j * 5, none⟩)) := (hf 140).1 rfl
              exact Exec.kfield rfl rfl h140 (fld50_2 w _ _) rfl
            · -- 53: slot 142 := Op.load 3 t141
              refine StepOK.guarded (kn_stable _) 42 false 131 rfl rfl (fun ρ w _ _ hf => (hf 131).1 rfl) fun ρ w hρ hw hf => ?_
              have h141 : ρ (.tmp 141) = (.pointer (some ⟨b1, o1 + j * 5 + 4, none⟩)) := (hf 141).1 rfl
              have hc := hw.cell (fun f => f) _ HA4.out
              exact Exec.same (v := .int .i64 (sz : Nat)) rfl (by simp [go_sem, hρ.const, h141, hc]) rfl
            · -- 54: slot 143 := Op.binOp BinOp.add 3 t137 t142 3
              refine StepOK.guarded (kn_stable _) 42 false 131 rfl rfl (fun ρ w _ _ hf => (hf 131).1 rfl) fun ρ w hρ hw hf => ?_
              have h137 : ρ (.tmp 137) = (.int .i64 (at' : Nat)) := (hf 137).1 rfl
              have h142 : ρ (.tmp 142) = (.int .i64 (sz : Nat)) := (hf 142).1 rfl
              exact Exec.same (v := .int .i64 (E : Nat)) rfl (by simp [go_sem, hρ.const, h137, h142, HADD.out.1, HADD.out.2]) rfl
            · -- 55: slot 144 := Op.move t4
              refine StepOK.guarded (kn_stable _) 42 false 131 rfl rfl (fun ρ w _ _ hf => (hf 131).1 rfl) fun ρ w hρ hw hf => ?_
              have h4 : ρ (.tmp 4) = (.slice (some ⟨b3, 0, none⟩) i' ec3) := (hf 4).2 rfl rfl
              exact Exec.kmove rfl rfl h4
            · -- 56: slot 145 := Op.move t11
              refine StepOK.guarded (kn_stable _) 42 false 131 rfl rfl (fun ρ w _ _ hf => (hf 131).1 rfl) fun ρ w hρ hw hf => ?_
              have h11 : ρ (.tmp 11) = (.int .i64 (j : Nat)) := (hf 11).2 rfl rfl
              exact Exec.kmove rfl rfl h11
            · -- 57: slot 146 := Op.indexAddr 42 t144 t145
              refine StepOK.guarded (kn_stable _) 42 false 131 rfl rfl (fun ρ w _ _ hf => (hf 131).1 rfl) fun ρ w hρ hw hf => ?_
              have h144 : ρ (.tmp 144) = (.slice (some ⟨b3, 0, none⟩) i' ec3) := (hf 144).1 rfl
              have h145 : ρ (.tmp 145) = (.int .i64 (j : Nat)) := (hf 145).1 rfl
              exact Exec.kindex rfl rfl Try.underlying42 NHI.out NHSZ.out h144 h145 HN1.out rfl
            · -- 58: slot 147 := Op.load 3 t146
              refine StepOK.guarded (kn_stable _) 42 false 131 rfl rfl (fun ρ w _ _ hf => (hf 131).1 rfl) fun ρ w hρ hw hf => ?_
              have h146 : ρ (.tmp 146) = (.pointer (some ⟨b3, 0 + j * 1, none⟩)) := (hf 146).1 rfl
              have hc := hw.cell (fun f => f) _ HE.out
              simp only [Nat.zero_add, Nat.mul_one] at hc
              exact Exec.same (v := .int .i64 (E : Nat)) rfl (by simp [go_sem, hρ.const, h146, hc]) rfl
            · -- 59: slot 148 := Op.binOp BinOp.neq 3 t143 t147 3
              refine StepOK.guarded (kn_stable _) 42 false 131 rfl rfl (fun ρ w _ _ hf => (hf 131).1 rfl) fun ρ w hρ hw hf => ?_
              have h143 : ρ (.tmp 143) = (.int .i64 (E : Nat)) := (hf 143).1 rfl
              have h147 : ρ (.tmp 147) = (.int .i64 (E : Nat)) := (hf 147).1 rfl
              exact Exec.same (v := .bool false) rfl (by simp [go_sem, hρ.const, h143, h147]) rfl
            · -- 60: slot 149 := Op.pick t131 (const (Value.bool true)) t148
              refine StepOK.plain (kn_stable _) rfl fun ρ w hρ hw hf => ?_
              have h131 : ρ (.tmp 131) = (.bool false) := (hf 131).1 rfl
              have h148 : ρ (.tmp 148) = (.bool false) := (hf 148).1 rfl
              exact Exec.kpickF rfl rfl h131 h148
          case fin =>
            intro ν w8 hfin hx8
            have h149 : ν 149 = .bool false := hfin 60 149 rfl
            simp only [Exit.then, ended, List.foldl_cons, List.foldl_nil, List.setIfInBounds_toArray, List.set_cons_succ, List.set_cons_zero, h149]
            have HX8 := Lib.hid (HXQ.out.trans hx8)
            clear hfin hx8 h149
            go_wp2
            exact ⟨⟨j + 1, HN1.out, rfl, HX8.out⟩, meas6 i' j HN1.out⟩
        · go_wp2_with fail
          refine (awake5_any _).mono ?_
          rintro e w6 ⟨rfl, hx⟩
          have HX6 := Lib.hid (HX7.out.trans hx)
          clear hx
          go_wp2
          go_ret
          exact ⟨rfl, HX6.out⟩
end Go.Proofs.Ytoggnmfjkbnopaa
