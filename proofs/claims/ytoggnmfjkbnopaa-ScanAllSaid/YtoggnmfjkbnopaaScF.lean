/-
  awake: what the chapter's example says: the walk. MADE BY mkScF.py
-/
import Derived.Test.YtoggnmfjkbnopaaScE
import Derived.Test.YtoggnmfjkbnopaaRefM
import Derived.Test.YtoggnmfjkbnopaaFrM
namespace Go.Proofs.Ytoggnmfjkbnopaa
open Go.RowKit Go.Lac

theorem fld48_1 (w : World) (b o : Nat) : (Instr.fieldAt 48 (.pointer (some ⟨b, o, none⟩)) 1).run Try.prog w = .ok (.pointer (some ⟨b, o + 1, none⟩)) w := by kernel_rfl
theorem run_take_all {P : Program} {t e : TypeId} {inf : TypeInfo} (h : P.underlying t = some (.slice e)) (hinf : P.info? e = some inf) (hsz : inf.size = 1) {w : World} {ao : Option Addr} {cap : Nat} {bs : List UInt8} (hr : Rd w (.slice ao bs.length cap) bs) (n : Nat) (hn : n ≤ bs.length) :
    (∀ w0, (Instr.sliceAt t (.slice ao bs.length cap) none (some (.int .i64 (n : Nat))) none).run P w0 = .ok (.slice ao n cap) w0) ∧ Rd w (.slice ao n cap) (bs.take n) := by
  refine ⟨fun w0 => ?_, hr.take n hn⟩
  obtain ⟨ao', cap', e0, g1, g2, g3, g4⟩ := hr
  cases e0
  have he := elem_eq h
  have h' : P.underlying t = some (.slice (P.elem t)) := by rw [he]; exact h
  have hs : sliced ao 0 n cap 1 = .slice ao n cap := by
    cases ao with
    | none => have := g3 rfl; subst this; unfold sliced; split <;> simp
    | some a => unfold sliced; split <;> simp_all [Addr.add]
  rw [run_sliceAt_slice (h := h'), run_slice_h (ht := h') (h0 := by omega) (h2 := by omega), he]
  simp [sizeOf, typeInfo, hinf, hsz, hs]

def FdPost (r g : Nat) (w : World) (fs : List Fnd) (at' e : Nat) (k' : List UInt8) (q : Ending) (w' : World) : Prop :=
  ∃ v, q = .returned (.tuple #[v, .int .i64 (e : Nat)]) ∧ Ch (fun i => i = g ∨ i = r) w w' ∧ FdL w' w.heap.size w.heap.size 50 .u64 v fs ∧ IsS w' r g k' at' e
/-- Feed, where what is found is known. -/
theorem feed_sc (w : World) (r g : Nat) (k : List UInt8) (a : Nat) (x : Value) (b : List UInt8) (h : IsS w r g k a 0) (hx : Rd w x b) (hl : k.length + b.length ≤ 500000) (ha : a ≤ 1000000000)
    {fs : List Fnd} {at' e : Nat} {k' : List UInt8} (hs : sc a (k ++ b) = (fs, at', e)) (hk : (if e = 0 then (k ++ b).drop (at' - a) else []) = k') :
    Calls Try.prog 15 #[.pointer (some ⟨r, 0, none⟩), x] w (FdPost r g w fs at' e k') := by
  refine (feed_ok w r g k a x b h hx hl ha).mono ?_
  rintro q w' ⟨v, h1, h2, h3, h4⟩
  rw [hs] at h1 h3 h4
  simp only at h1 h3 h4
  rw [hk] at h4
  exact ⟨v, h1, h2, h3, h4⟩

theorem exSc : sc 0 (frBytes 1 8 [7]) = ([⟨1, 8, [7], 0, 11⟩], 11, 0) := by
  have h : Mk.right (1, 8, [7]) := by unfold Mk.right; decide
  have := sc_made [(1, 8, [7])] 0 [] (fun x hx => by simp at hx; subst hx; exact h)
  have hl : (List.flatMap Mk.bytes [((1, 8, [7]) : Mk)]).length = 11 := by
    simp only [List.flatMap_cons, List.flatMap_nil, List.append_nil]
    exact made_length h
  rw [hl, sc_short _ frErr_nil] at this
  simpa [Mk.bytes, fndsOf] using this
theorem exLen : (frBytes 1 8 [7]).length = 11 := made_length (by decide)
theorem exCut : sc 0 ((frBytes 1 8 [7]).take 10) = ([], 0, 0) := sc_short 0 (made_cut (v := 1) (k := 8) (p := [7]) (by decide) 10 (by decide))

def awake5T (a4 : Option Addr) (c4 b o c6 : Nat) : Tmp → Kn
  | 0 => .is (.bool true)
  | 31 => .is (.int .i64 0)
  | 32 => .is (.bool true)
  | 33 => .is (.bool true)
  | 34 => .is (.slice a4 0 c4)
  | 35 => .is (.int .i64 0)
  | 36 => .is (.bool true)
  | 37 => .is (.bool true)
  | 38 => .is (.bool true)
  | 39 => .is (.int .i64 0)
  | 40 => .is (.bool true)
  | 41 => .is (.bool true)
  | 42 => .is (.bool true)
  | 43 => .is (.slice (some ⟨b, o, none⟩) 1 c6)
  | 44 => .is (.int .i64 1)
  | 45 => .is (.bool true)
  | 46 => .is (.bool true)
  | 47 => .is (.bool true)
  | 48 => .is (.slice (some ⟨b, o, none⟩) 1 c6)
  | 49 => .is (.pointer (some ⟨b, o + 0 * 5, none⟩))
  | 50 => .is (.pointer (some ⟨b, o + 0 * 5 + 3, none⟩))
  | 51 => .is (.int .u64 0)
  | 52 => .is (.bool true)
  | 53 => .is (.bool true)
  | 54 => .is (.bool true)
  | 55 => .is (.slice (some ⟨b, o, none⟩) 1 c6)
  | 56 => .is (.pointer (some ⟨b, o + 0 * 5, none⟩))
  | 57 => .is (.pointer (some ⟨b, o + 0 * 5 + 4, none⟩))
  | 58 => .is (.int .i64 11)
  | 59 => .is (.bool true)
  | 60 => .is (.bool true)
  | 61 => .is (.bool true)
  | 62 => .is (.slice (some ⟨b, o, none⟩) 1 c6)
  | 63 => .is (.pointer (some ⟨b, o + 0 * 5, none⟩))
  | 64 => .is (.pointer (some ⟨b, o + 0 * 5, none⟩))
  | 65 => .is (.pointer (some ⟨b, o + 0 * 5 + 1, none⟩))
  | 66 => .is (.int .u8 8)
  | 67 => .is (.bool true)
  | 68 => .is (.bool true)
  | _ => .any

set_option maxRecDepth 20000 in
set_option maxHeartbeats 4000000 in
theorem awake5_any (w : World) : Calls Try.prog 21 #[] w fun e w' => e = .returned (.bool true) ∧ Ext w w' := by
  obtain ⟨i, hi, hz, hsz, hby⟩ := info_parts infoU8
  obtain ⟨fi, fhi, fhz, fhsz, fhby⟩ := info_parts infoFound
  have hr0 : Rd (w.alloc (.cells #[.int .u8 7] 5)) (.slice (some ⟨w.heap.size, 0, none⟩) 1 1) [7] := rd_new w [7] 5 (by decide)
  have hm : Calls Try.prog 23 #[.agg #[.int .u8 1, .int .u8 8, .slice (some ⟨w.heap.size, 0, none⟩) 1 1]] (w.alloc (.cells #[.int .u8 7] 5)) (MakePost 1 8 [7] _) := refMake_any 1 8 _ [7] _ (by decide) (by decide) hr0 (by decide)
  have HM := Lib.hid hm; have HI := Lib.hid hi; have HSZ := Lib.hid hsz; have FHI := Lib.hid fhi; have FHSZ := Lib.hid fhsz
  clear hr0 hm hi hz hsz hby fhi fhz fhsz fhby
  go_enter Try.func21, Try.ntmps21
  go_wp2_with (go_at_call 23; refine HM.out.mono ?_)
  rintro e w1 ⟨t, rfl, hx1, hrd⟩
  have hext1 : Ext w w1 := ((Ch.refl _ _).alloc _).trans hx1
  obtain ⟨ta, tc, rfl⟩ := hrd.shape
  rw [exLen]
  have hrd' : Rd w1 (.slice ta 11 tc) (frBytes 1 8 [7]) := by have := hrd; rwa [exLen] at this
  obtain ⟨t1, t2⟩ := run_take_all Try.underlying22 HI.out HSZ.out (ao := ta) (cap := tc) hrd 10 (by rw [exLen]; decide)
  obtain ⟨tv, d1, d2⟩ := run_drop_all Try.underlying22 HI.out HSZ.out hrd 10 (by rw [exLen]; decide)
  obtain ⟨td, tdc, rfl⟩ := d2.shape
  rw [exLen] at t1 d1
  have t1 : ∀ w0, (Instr.sliceAt 22 (.slice ta 11 tc) none (some (.int .i64 10)) none).run Try.prog w0 = .ok (.slice ta 10 tc) w0 := t1
  have d1 : ∀ w0, (Instr.sliceAt 22 (.slice ta 11 tc) (some (.int .i64 10)) none none).run Try.prog w0 = .ok (.slice td ((frBytes 1 8 [7]).drop 10).length tdc) w0 := d1
  have T2 := Lib.hid t2; have D2 := Lib.hid d2; have HEXT1 := Lib.hid hext1; have T1 := Lib.hid t1; have D1 := Lib.hid d1
  clear hrd hrd' hx1 hext1 t1 t2 d1 d2
  go_wp2_with (go_at_call 14; refine (new_any _).mono ?_)
  rintro e w2 ⟨r, g, rfl, hx2, hr, hg, hs⟩
  have hf := feed_sc w2 r g [] 0 (.slice ta 10 tc) ((frBytes 1 8 [7]).take 10) hs (T2.out.ext hx2) (by rw [List.length_take, exLen]; decide) (by decide) (fs := []) (at' := 0) (e := 0) (by rw [List.nil_append]; exact exCut) rfl
  have HF := Lib.hid hf; have HX2 := Lib.hid hx2; have HR := Lib.hid hr; have HG := Lib.hid hg
  clear hf hx2 hr hg hs
  have t1 := T1.out
  go_wp2_with (go_at_call 15; refine HF.out.mono ?_)
  clear t1
  rintro e w3 ⟨v3, rfl, hc3, hf3, hs3⟩
  have hx3 : Ext w1 w3 := Ch.transNew HX2.out (hc3.mono fun i _ h => .inr (by have := HR.out; have := HG.out; rcases h with rfl | rfl <;> assumption))
  obtain ⟨a4, c4, rfl⟩ := hf3.shape
  have hf := feed_sc w3 r g _ 0 _ ((frBytes 1 8 [7]).drop 10) hs3 (D2.out.ext hx3) (by simp [exLen]) (by decide) (fs := [⟨1, 8, [7], 0, 11⟩]) (at' := 11) (e := 0) (by rw [List.take_append_drop]; exact exSc) rfl
  have HF3 := Lib.hid hf; have HX3 := Lib.hid hx3
  clear hf hx3 hc3 hf3 hs3
  have d1 := D1.out
  go_wp2_with (go_at_call 15; refine HF3.out.mono ?_)
  clear d1
  rintro e w4 ⟨v4, rfl, hc4, hf4, hs4⟩
  have hx4 : Ext w1 w4 := Ch.transNew HX3.out (hc4.mono fun i _ h => .inr (by have := HR.out; have := HG.out; rcases h with rfl | rfl <;> assumption))
  obtain ⟨q6, c6, rfl⟩ := hf4.shape
  obtain ⟨b, o, p6, k6, rfl, m6, p3, p4, _⟩ := (hf4.toS).at' (j := 0) (by decide)
  have c1 : w4.cell? ⟨b, o + 1, none⟩ = some (.int .u8 8) := by have := m6 1 _ rfl; simpa using this
  have c3 : w4.cell? ⟨b, o + 3, none⟩ = some (.int .u64 0) := by simpa using p3
  have c4' : w4.cell? ⟨b, o + 4, none⟩ = some (.int .i64 11) := by simpa using p4
  have HX4 := Lib.hid (HEXT1.out.trans hx4)
  clear hx4 m6 p3 p4 hc4 hf4 hs4 t1
  go_wp2
  go_ret
  exact ⟨rfl, HX4.out⟩
end Go.Proofs.Ytoggnmfjkbnopaa
