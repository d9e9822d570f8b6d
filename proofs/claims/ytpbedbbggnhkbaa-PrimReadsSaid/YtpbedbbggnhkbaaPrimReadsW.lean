/-
  PrimReads: whatever a reader is asked: the walk.
-/
import Derived.Test.YtpbedbbggnhkbaaProg
import Derived.Test.YtpbedbbggnhkbaaLib
import Derived.Test.YtpbedbbggnhkbaaPrimF
import Derived.Test.YtpbedbbggnhkbaaPrimG
import Derived.Test.YtpbedbbggnhkbaaRefE
import Derived.Test.YtpbedbbggnhkbaaActs
import Derived.Test.YtpbedbbggnhkbaaTwo
import Derived.Test.YtpbedbbggnhkbaaBitB
import Derived.WalkKit
import Derived.Deep.QuietTactic
import Derived.BigQuiet
import Derived.Lib.Hide
namespace Go.Proofs.Ytpbedbbggnhkbaa
open Go.RowKit Go.Lac

theorem infoAct : (Try.prog.info? 39).map (fun i => (i.size)) = some 2 := by kernel_rfl
theorem quiet_left {w : World} {r : Nat} {s : RS} (h : IsR w r s) : ∀ n, Calls Try.prog 33 #[RPtr r] (w.drewN n) fun e w'' => e = .returned (.int .i64 s.1.length) ∧ ∃ m, w'' = w.drewN m :=
  fun n => (left_any r s (w.drewN n) (h.ext (ext_drewN w n))).mono fun e w' ⟨h1, h2⟩ => ⟨h1, n, h2.symm⟩
theorem quiet_err {w : World} {r : Nat} {s : RS} (h : IsR w r s) : ∀ n, Calls Try.prog 35 #[RPtr r] (w.drewN n) fun e w'' => e = .returned (.int .i64 s.2) ∧ ∃ m, w'' = w.drewN m :=
  fun n => (err_any r s (w.drewN n) (h.ext (ext_drewN w n))).mono fun e w' ⟨h1, h2⟩ => ⟨h1, n, h2.symm⟩
theorem quiet_end {w : World} {r : Nat} {s : RS} (h : IsR w r s) : ∀ n, Calls Try.prog 36 #[RPtr r] (w.drewN n) fun e w'' => e = .returned (.int .i64 (endR s)) ∧ ∃ m, w'' = w.drewN m :=
  fun n => (end_any r s (w.drewN n) (h.ext (ext_drewN w n))).mono fun e w' ⟨h1, h2⟩ => ⟨h1, n, h2.symm⟩
theorem quiet_qleft {w : World} {q : Nat} {s : RS} (h : IsQ w q s) : ∀ n, Calls Try.prog 34 #[QPtr q] (w.drewN n) fun e w'' => e = .returned (.int .i64 s.1.length) ∧ ∃ m, w'' = w.drewN m :=
  fun n => (qleft_any q s (w.drewN n) (h.ext (ext_drewN w n))).mono fun e w' ⟨h1, m, h2⟩ => ⟨h1, n + m, by rw [h2, World.drewN_drewN]⟩
theorem quiet_qend {w : World} {q : Nat} {s : RS} (h : IsQ w q s) : ∀ n, Calls Try.prog 37 #[QPtr q] (w.drewN n) fun e w'' => e = .returned (.int .i64 (endR s)) ∧ ∃ m, w'' = w.drewN m :=
  fun n => (qend_any q s (w.drewN n) (h.ext (ext_drewN w n))).mono fun e w' ⟨h1, m, h2⟩ => ⟨h1, n + m, by rw [h2, World.drewN_drewN]⟩

def twoA (r q : Nat) (w0 : World) (s s' : RS) (a b : Bool) (w : World) : Prop :=
  Ch (fun k => k = r ∨ k = q) w0 w ∧ IsR w r (if a then s' else s) ∧ IsQ w q (if b then s' else s)
theorem twoA_ext (r q : Nat) (w0 : World) (s s' : RS) : ∀ a b w w', twoA r q w0 s s' a b w → Ext w w' → twoA r q w0 s s' a b w' :=
  fun _ _ _ _ ⟨h1, h2, h3⟩ k => ⟨h1.trans k.ch, h2.ext k, h3.ext k⟩

def readsT12 (r q b off len cap i N : Nat) (v : Nat) : Tmp → Kn
  | 39 => .is (.pointer (some ⟨r, 0, none⟩))
  | 40 => .is (.slice (some ⟨b, off, none⟩) len cap)
  | 41 => .is (.int .i64 i)
  | 42 => .is (.pointer (some ⟨b, off + i * 2, none⟩))
  | 43 => .is (.pointer (some ⟨b, off + i * 2 + 1, none⟩))
  | 44 => .is (.int .u64 N)
  | 45 => .is (.int .u64 v)
  | 46 => .is (.pointer (some ⟨q, 0, none⟩))
  | 47 => .is (.slice (some ⟨b, off, none⟩) len cap)
  | 48 => .is (.int .i64 i)
  | 49 => .is (.pointer (some ⟨b, off + i * 2, none⟩))
  | 50 => .is (.pointer (some ⟨b, off + i * 2 + 1, none⟩))
  | 51 => .is (.int .u64 N)
  | 52 => .is (.int .u64 v)
  | 53 => .is (.bool true)
  | 8 => .is (.bool true)
  | _ => .any
theorem readsT12_pure (r q b off len cap i N : Nat) (v : Nat) : ∀ d, (readsT12 r q b off len cap i N v d).pure := by
  intro d
  unfold readsT12
  split <;> first | exact Kn.is_pure _ | exact Kn.any_pure

def readsT16 (r q b off len cap i N : Nat) (tb : List UInt8) : Tmp → Kn
  | 63 => .is (.pointer (some ⟨r, 0, none⟩))
  | 64 => .is (.slice (some ⟨b, off, none⟩) len cap)
  | 65 => .is (.int .i64 i)
  | 66 => .is (.pointer (some ⟨b, off + i * 2, none⟩))
  | 67 => .is (.pointer (some ⟨b, off + i * 2 + 1, none⟩))
  | 68 => .is (.int .u64 N)
  | 69 => .is (.int .i64 (IntKind.i64.wrap (N : Int)))
  | 70 => .is (strV tb)
  | 71 => .is (.pointer (some ⟨q, 0, none⟩))
  | 72 => .is (.slice (some ⟨b, off, none⟩) len cap)
  | 73 => .is (.int .i64 i)
  | 74 => .is (.pointer (some ⟨b, off + i * 2, none⟩))
  | 75 => .is (.pointer (some ⟨b, off + i * 2 + 1, none⟩))
  | 76 => .is (.int .u64 N)
  | 77 => .is (.int .i64 (IntKind.i64.wrap (N : Int)))
  | 78 => .is (strV tb)
  | 79 => .is (.bool true)
  | 8 => .is (.bool true)
  | _ => .any
theorem readsT16_pure (r q b off len cap i N : Nat) (tb : List UInt8) : ∀ d, (readsT16 r q b off len cap i N tb d).pure := by
  intro d
  unfold readsT16
  split <;> first | exact Kn.is_pure _ | exact Kn.any_pure


set_option maxRecDepth 100000 in
set_option maxHeartbeats 8000000 in
theorem primReads_walk (vb va : Value) (bs : List UInt8) (l : List (Nat × Nat)) (w : World) (hb : Rd w vb bs) (ha : Sl w va l.length (actsV l)) (hbd : ∀ x ∈ l, x.1 < 256 ∧ x.2 < 2 ^ 64) :
    Calls Try.prog 4 #[vb, va] w fun e w' => e = .returned (.bool true) ∧ Ext w w' := by
  obtain ⟨iu, hiu, hzu, hsu, hbu⟩ := info_parts infoU8
  obtain ⟨ab, capb, rfl⟩ := hb.shape
  obtain ⟨aa, capa, rfl⟩ : ∃ ao cap, va = .slice ao l.length cap := by obtain ⟨ao, cap, rfl, _⟩ := ha; exact ⟨_, _, rfl⟩
  have hlen : l.length ≤ maxLen := by obtain ⟨_, _, _, g1, g2, _⟩ := ha; omega
  have hlenb : bs.length ≤ maxLen := by obtain ⟨_, _, _, g1, g2, _⟩ := hb; omega
  unfold maxLen at hlen hlenb
  have HB := Lib.hid hb; have HAA := Lib.hid ha; have HBD := Lib.hid hbd; clear hb ha hbd
  by_cases h300 : 300 < bs.length
  · go_enter Try.func4, Try.ntmps4
    go_wp2
    go_ret
    exact ⟨rfl, Ch.refl _ _⟩
  by_cases h40 : 40 < l.length
  · go_enter Try.func4, Try.ntmps4
    go_wp2
    go_ret
    exact ⟨rfl, Ch.refl _ _⟩
  have HRD := Lib.hid (read_any _ bs w HB.out (by omega)); 
  go_enter Try.func4, Try.ntmps4
  go_wp2_with fail
  refine HRD.out.mono ?_
  rintro e w1 ⟨r, rfl, x1, r1, hr1⟩
  have HB1 := Lib.hid (Rd.ext HB.out x1); have X1 := Lib.hid x1; have R1 := Lib.hid r1; have HR1 := Lib.hid hr1; clear x1 r1 hr1
  unfold RPtr
  go_wp2_with (at_builtin; refine wpList_append_sl (P := Try.prog) _ rfl _ _ 22 rfl (w1.heap.size) 5 iu (.int .u8 0) 1 1 Try.underlying22 hiu hzu hsu hbu rfl (by decide) _ 0 [] rfl ?c0 _ bs.length (cellsB bs) rfl ?c1 ?c2 ?c3 ?c4 ?c5 ?c6 ?_)
  case c0 => exact owns_empty w1 _
  case c1 => exact Sl.ext HB1.out ((Ch.refl _ _).alloc _)
  case c2 => simp [cellsB]
  case c3 => exact cellsB_one bs
  case c4 => omega
  case c5 => unfold maxLen; omega
  case c6 => simp
  intro v2 w2 hown hgrow
  have hx2 := ((Ch.refl (fun _ => False) w1).alloc (.cells #[] 5)).grown hgrow fun k hk => .inr ((owns_empty w1 5).lt k hk).1
  have X2 := Lib.hid (X1.out.trans hx2); have R2 := Lib.hid (R1.out.ext hx2)
  have hq : IsQ (w2.alloc (.cells #[v2, .int .i64 0, .int .i64 0] 37)) w2.heap.size (bs, 0) :=
    ⟨v2, bs, 0, heap_alloc_new w2 _, ⟨(Rd.ofOwns hown).ext ((Ch.refl _ _).alloc _), strict_owns hown⟩, Nat.zero_le _, rfl⟩
  have hx3 : Ext w (w2.alloc (.cells #[v2, .int .i64 0, .int .i64 0] 37)) := X2.out.alloc _
  have hr3 : IsR (w2.alloc (.cells #[v2, .int .i64 0, .int .i64 0] 37)) r (bs, 0) := R2.out.ext ((Ch.refl _ _).alloc _)
  have hne : r ≠ w2.heap.size := fun e => by have := R2.out.lt; omega
  have hge : w.heap.size ≤ w2.heap.size := X2.out.size
  obtain ⟨ao2, cp2, rfl⟩ := owns_shape hown
  have HQ3 := Lib.hid hq; have HX3 := Lib.hid hx3; have HR3 := Lib.hid hr3; have HNE := Lib.hid hne; have HGE := Lib.hid hge
  clear hown hgrow hx2 hq hx3 hr3 hne hge X2 R2 R1 HB1 X1 HRD hiu hzu hsu hbu
  go_wp2
  generalize hq0 : w2.heap.size = q at *
  clear hq0
  generalize w2.alloc (.cells #[.slice ao2 bs.length cp2, .int .i64 0, .int .i64 0] 37) = w3 at *
  go_loopw [7] (fun ix wr => ∃ (i : Nat) (s : RS), i ≤ l.length ∧ ix = .int .i64 i ∧ IsR wr r s ∧ IsQ wr q s ∧ Ext w wr) (fun ix _ => l.length - (intOf ix).toNat)
  case atStart => exact ⟨0, _, Nat.zero_le _, rfl, HR3.out, HQ3.out, HX3.out⟩
  case round =>
    obtain ⟨i, s, hi, rfl, hR, hQ, hX⟩ := hrel
    have HR := Lib.hid hR; have HQ := Lib.hid hQ; have HX := Lib.hid hX; clear hR hQ hX
    by_cases hlt : i < l.length
    · obtain ⟨b, off, rfl, hcap1, hcap2, hcells⟩ := acts_cell (Sl.ext HAA.out HX.out) rfl (by omega)
      have hbw : b < w.heap.size := by
        obtain ⟨_, _, e, _, _, _, h5⟩ := HAA.out
        cases e
        obtain ⟨b', off', e', h6⟩ := h5 _ rfl 0 (.int .u8 ((l[0]'(by omega)).1 : Nat)) (by rw [actsV_get]; simp [show 0 < l.length by omega])
        cases e'
        exact World.block_lt_of_cell? w _ h6
      obtain ⟨hc0, hc1⟩ := hcells i hlt
      have hbd := HBD.out l[i] (List.getElem_mem hlt)
      unfold maxLen at hcap2
      generalize l[i].1 = dd at *
      generalize l[i].2 = N at *
      obtain ⟨inf, hinf, hsa⟩ : ∃ inf, Try.prog.info? 39 = some inf ∧ inf.size = 2 := by
        have := infoAct
        rw [Option.map_eq_some_iff] at this
        exact this
      have HIA := Lib.hid hinf; have HSA := Lib.hid hsa; have HIL := Lib.hid hlt; have HC1 := Lib.hid hc1; have HN64 := Lib.hid hbd.2
      have HBN : Hid (¬ (b = r ∨ b = q)) := Lib.hid (by have := HR1.out; have := HGE.out; omega)
      have HW64 : Hid (IntKind.i64.wrap (N : Int) ≤ 9223372036854775807) := Lib.hid (by rw [IntKind.wrap_i64]; omega)
      have HXT : Hid (∀ w3, Ch (fun k => k = r ∨ k = q) wr w3 → Ext w w3) := Lib.hid fun w3 h => HX.out.transNew (h.mono fun k _ hk => .inr (by have := HR1.out; have := HGE.out; omega))
      have hd256 := hbd.1
      clear hcells hinf hsa hc1 hbd hbw hlt
      have HA := Lib.hid (twoA_ext r q wr s ((uintR N s).2))
      by_cases d0 : dd = 0
      · subst d0
        go_wp2
        refine wp_region_two (readsT12 r q b off l.length capa i N (uintR N s).1) (twoA r q wr s (uintR N s).2) 6 13 mixed (by rfl) (by rfl) (by decide) (by decide) ⟨Ch.drew (Ch.refl _ _), HR.out.ext (Ch.drew (Ch.refl _ _)), HQ.out.ext (Ch.drew (Ch.refl _ _))⟩ ?all ?fin
        case all =>
          refine ⟨?_, ?_, ?_, ?_, ?_, ?_, ?_, ?_, ?_, ?_, ?_, ?_, ?_, ?_, ?_, ?_, trivial⟩
          · -- 0: slot 39 := Op.move t5
            refine StepOK.twoRead (readsT12_pure _ _ _ _ _ _ _ _ _) HA.out (by rfl) (by rfl) rfl fun ρ w hρ hw hf => ?_
            have h5 : ρ (.tmp 5) = .pointer (some ⟨r, 0, none⟩) := (hf 5).2 rfl rfl
            exact Exec.kmove rfl rfl h5
          · -- 1: slot 40 := Op.move t1
            refine StepOK.twoRead (readsT12_pure _ _ _ _ _ _ _ _ _) HA.out (by rfl) (by rfl) rfl fun ρ w hρ hw hf => ?_
            have h1 : ρ (.tmp 1) = .slice (some ⟨b, off, none⟩) l.length capa := (hf 1).2 rfl rfl
            exact Exec.kmove rfl rfl h1
          · -- 2: slot 41 := Op.move t7
            refine StepOK.twoRead (readsT12_pure _ _ _ _ _ _ _ _ _) HA.out (by rfl) (by rfl) rfl fun ρ w hρ hw hf => ?_
            have h7 : ρ (.tmp 7) = .int .i64 i := (hf 7).2 rfl rfl
            exact Exec.kmove rfl rfl h7
          · -- 3: slot 42 := Op.indexAddr 32 t40 t41
            refine StepOK.twoRead (readsT12_pure _ _ _ _ _ _ _ _ _) HA.out (by rfl) (by rfl) rfl fun ρ w hρ hw hf => ?_
            have h40 : ρ (.tmp 40) = (.slice (some ⟨b, off, none⟩) l.length capa) := (hf 40).1 rfl
            have h41 : ρ (.tmp 41) = (.int .i64 i) := (hf 41).1 rfl
            exact Exec.kindex (i := i) rfl rfl Try.underlying32 HIA.out HSA.out h40 h41 HIL.out rfl
          · -- 4: slot 43 := Op.fieldAddr 39 t42 1
            refine StepOK.twoRead (readsT12_pure _ _ _ _ _ _ _ _ _) HA.out (by rfl) (by rfl) rfl fun ρ w hρ hw hf => ?_
            have h42 : ρ (.tmp 42) = (.pointer (some ⟨b, off + i * 2, none⟩)) := (hf 42).1 rfl
            exact Exec.same (v := .pointer (some ⟨b, off + i * 2 + 1, none⟩)) rfl (by simp [go_sem, hρ.const, h42, Try.underlying39]) rfl
          · -- 5: slot 44 := Op.load 23 t43
            refine StepOK.twoRead (readsT12_pure _ _ _ _ _ _ _ _ _) HA.out (by rfl) (by rfl) rfl fun ρ w hρ hw hf => ?_
            have h43 : ρ (.tmp 43) = (.pointer (some ⟨b, off + i * 2 + 1, none⟩)) := (hf 43).1 rfl
            obtain ⟨_, _, hch, _, _⟩ := hw
            have hc := hch.cell (p := ⟨b, off + i * 2 + 1, none⟩) HBN.out _ HC1.out
            exact Exec.same (v := .int .u64 N) rfl (by simp [go_sem, hρ.const, h43, hc]) rfl
          · -- 6: slot 45 := Op.call { value (Operand.func 21), args := #[t39, t44], argTypes := #[
            refine StepOK.twoFirst (readsT12_pure _ _ _ _ _ _ _ _ _) (by rfl) rfl fun ρ w bb hρ hw hf => ?_
            have h39 : ρ (.tmp 39) = (.pointer (some ⟨r, 0, none⟩)) := (hf 39).1 rfl
            have h44 : ρ (.tmp 44) = (.int .u64 N) := (hf 44).1 rfl
            obtain ⟨hch, hR, hQ⟩ := hw
            refine Exec.call #[RPtr r, .int .u64 N] hρ rfl (by simp [h39, h44, RPtr]) Try.func21 (by rfl) rfl ?_
            refine (uint_any r s N w hR).mono ?_
            rintro e w' ⟨rfl, k1, k2⟩
            exact ⟨_, rfl, fun d h => by cases h; rfl, hch.trans (k1.mono fun _ _ h => .inl h), k2, hQ.otherR hR (Ne.symm HNE.out) k1⟩
          · -- 7: slot 46 := Op.move t6
            refine StepOK.twoRead (readsT12_pure _ _ _ _ _ _ _ _ _) HA.out (by rfl) (by rfl) rfl fun ρ w hρ hw hf => ?_
            have h6 : ρ (.tmp 6) = .pointer (some ⟨q, 0, none⟩) := (hf 6).2 rfl rfl
            exact Exec.kmove rfl rfl h6
          · -- 8: slot 47 := Op.move t1
            refine StepOK.twoRead (readsT12_pure _ _ _ _ _ _ _ _ _) HA.out (by rfl) (by rfl) rfl fun ρ w hρ hw hf => ?_
            have h1 : ρ (.tmp 1) = .slice (some ⟨b, off, none⟩) l.length capa := (hf 1).2 rfl rfl
            exact Exec.kmove rfl rfl h1
          · -- 9: slot 48 := Op.move t7
            refine StepOK.twoRead (readsT12_pure _ _ _ _ _ _ _ _ _) HA.out (by rfl) (by rfl) rfl fun ρ w hρ hw hf => ?_
            have h7 : ρ (.tmp 7) = .int .i64 i := (hf 7).2 rfl rfl
            exact Exec.kmove rfl rfl h7
          · -- 10: slot 49 := Op.indexAddr 32 t47 t48
            refine StepOK.twoRead (readsT12_pure _ _ _ _ _ _ _ _ _) HA.out (by rfl) (by rfl) rfl fun ρ w hρ hw hf => ?_
            have h47 : ρ (.tmp 47) = (.slice (some ⟨b, off, none⟩) l.length capa) := (hf 47).1 rfl
            have h48 : ρ (.tmp 48) = (.int .i64 i) := (hf 48).1 rfl
            exact Exec.kindex (i := i) rfl rfl Try.underlying32 HIA.out HSA.out h47 h48 HIL.out rfl
          · -- 11: slot 50 := Op.fieldAddr 39 t49 1
            refine StepOK.twoRead (readsT12_pure _ _ _ _ _ _ _ _ _) HA.out (by rfl) (by rfl) rfl fun ρ w hρ hw hf => ?_
            have h49 : ρ (.tmp 49) = (.pointer (some ⟨b, off + i * 2, none⟩)) := (hf 49).1 rfl
            exact Exec.same (v := .pointer (some ⟨b, off + i * 2 + 1, none⟩)) rfl (by simp [go_sem, hρ.const, h49, Try.underlying39]) rfl
          · -- 12: slot 51 := Op.load 23 t50
            refine StepOK.twoRead (readsT12_pure _ _ _ _ _ _ _ _ _) HA.out (by rfl) (by rfl) rfl fun ρ w hρ hw hf => ?_
            have h50 : ρ (.tmp 50) = (.pointer (some ⟨b, off + i * 2 + 1, none⟩)) := (hf 50).1 rfl
            obtain ⟨_, _, hch, _, _⟩ := hw
            have hc := hch.cell (p := ⟨b, off + i * 2 + 1, none⟩) HBN.out _ HC1.out
            exact Exec.same (v := .int .u64 N) rfl (by simp [go_sem, hρ.const, h50, hc]) rfl
          · -- 13: slot 52 := Op.call { value (Operand.func 22), args := #[t46, t51], argTypes := #[
            refine StepOK.twoSecond (readsT12_pure _ _ _ _ _ _ _ _ _) (by rfl) rfl fun ρ w aa hρ hw hf => ?_
            have h46 : ρ (.tmp 46) = (.pointer (some ⟨q, 0, none⟩)) := (hf 46).1 rfl
            have h51 : ρ (.tmp 51) = (.int .u64 N) := (hf 51).1 rfl
            obtain ⟨hch, hR, hQ⟩ := hw
            refine Exec.call #[QPtr q, .int .u64 N] hρ rfl (by simp [h46, h51, QPtr]) Try.func22 (by rfl) rfl ?_
            refine (quint_any q s N w hQ HN64.out).mono ?_
            rintro e w' ⟨rfl, k1, k2⟩
            exact ⟨_, rfl, fun d h => by cases h; rfl, hch.trans (k1.mono fun _ _ h => .inr h), hR.otherQ hQ HNE.out k1, k2⟩
          · -- 14: slot 53 := Op.binOp BinOp.eql 23 t45 t52 23
            refine StepOK.twoRead (readsT12_pure _ _ _ _ _ _ _ _ _) HA.out (by rfl) (by rfl) rfl fun ρ w hρ hw hf => ?_
            have h45 : ρ (.tmp 45) = (.int .u64 ((uintR N s).1 : Nat)) := (hf 45).1 rfl
            have h52 : ρ (.tmp 52) = (.int .u64 ((uintR N s).1 : Nat)) := (hf 52).1 rfl
            exact Exec.same (v := .bool true) rfl (by simp [go_sem, hρ.const, h45, h52]) rfl
          · -- 15: slot 8 := Op.assign t53
            refine StepOK.twoRead (readsT12_pure _ _ _ _ _ _ _ _ _) HA.out (by rfl) (by rfl) rfl fun ρ w hρ hw hf => ?_
            have h53 : ρ (.tmp 53) = (.bool true) := (hf 53).1 rfl
            exact Exec.kassign rfl rfl h53

        case fin =>
          intro ν w3 hfin hA3
          have h0 : ν 8 = .bool true := hfin 15 8 rfl
          simp only [Exit.then, ended, List.foldl_cons, List.foldl_nil, List.setIfInBounds_toArray, List.set_cons_succ, List.set_cons_zero, h0]
          obtain ⟨hch3, hR3, hQ3⟩ := hA3
          have hX3 := HXT.out w3 hch3
          simp only [if_true] at hR3 hQ3
          clear hfin h0 hch3
          have HRF := Lib.hid hR3; have HQF := Lib.hid hQ3; have HXF := Lib.hid hX3
          have HL1 := Lib.hid (quiet_left hR3); have HL2 := Lib.hid (quiet_qleft hQ3); have HE1 := Lib.hid (quiet_err hR3); have HE2 := Lib.hid (quiet_end hR3); have HE3 := Lib.hid (quiet_qend hQ3)
          obtain ⟨_, _, _, _, _, _, c2, _⟩ := hQ3.cells
          clear hR3 hQ3 hX3
          generalize hns : (uintR N s).2 = s3 at *
          clear hns
          unfold RPtr at HL1 HE1 HE2
          unfold QPtr at HL2 HE3
          go_wp2
          go_quiet (first | (go_at_call 33; exact HL1.out _) | (go_at_call 34; exact HL2.out _) | (go_at_call 35; exact HE1.out _) | (go_at_call 36; exact HE2.out _) | (go_at_call 37; exact HE3.out _))
          go_wp2
          go_roundw
          case rel => exact ⟨i + 1, s3, by omega, by go_num, HRF.out.ext (ext_drewN _ _), HQF.out.ext (ext_drewN _ _), HXF.out.trans (ext_drewN _ _)⟩
          case measure => simp [intOf] <;> omega
      clear HA
      by_cases d1 : dd = 1
      · subst d1
        go_wp2_with fail
        refine (int_any r s _ HR.out).mono ?_
        rintro e w2 ⟨rfl, k1, k2⟩
        have hq2 := HQ.out.otherR HR.out (Ne.symm HNE.out) k1
        have HQ2 := Lib.hid hq2; have HR2 := Lib.hid k2; have HX2 := Lib.hid (Ch.mono k1 (N := fun k => k = r ∨ k = q) fun _ _ h => .inl h)
        clear k1 k2 hq2
        go_wp2_with fail
        refine (qint_any q s _ HQ2.out).mono ?_
        rintro e w3 ⟨rfl, k1, k2⟩
        have hR3 : IsR w3 r ((intR s).2) := HR2.out.otherQ HQ2.out HNE.out k1
        have hQ3 : IsQ w3 q ((intR s).2) := k2
        have hX3 := HXT.out w3 (HX2.out.trans (Ch.mono k1 (N := fun k => k = r ∨ k = q) fun _ _ h => .inr h))
        clear k1 k2
        have HRF := Lib.hid hR3; have HQF := Lib.hid hQ3; have HXF := Lib.hid hX3
        have HL1 := Lib.hid (quiet_left hR3); have HL2 := Lib.hid (quiet_qleft hQ3); have HE1 := Lib.hid (quiet_err hR3); have HE2 := Lib.hid (quiet_end hR3); have HE3 := Lib.hid (quiet_qend hQ3)
        obtain ⟨_, _, _, _, _, _, c2, _⟩ := hQ3.cells
        clear hR3 hQ3 hX3
        generalize hns : (intR s).2 = s3 at *
        clear hns
        unfold RPtr at HL1 HE1 HE2
        unfold QPtr at HL2 HE3
        go_wp2
        go_quiet (first | (go_at_call 33; exact HL1.out _) | (go_at_call 34; exact HL2.out _) | (go_at_call 35; exact HE1.out _) | (go_at_call 36; exact HE2.out _) | (go_at_call 37; exact HE3.out _))
        go_wp2
        go_roundw
        case rel => exact ⟨i + 1, s3, by omega, by go_num, HRF.out.ext (ext_drewN _ _), HQF.out.ext (ext_drewN _ _), HXF.out.trans (ext_drewN _ _)⟩
        case measure => simp [intOf] <;> omega
      by_cases d2 : dd = 2
      · subst d2
        have HA := Lib.hid (twoA_ext r q wr s ((textR (IntKind.i64.wrap (N : Int)).toNat s).2))
        go_wp2
        refine wp_region_two (readsT16 r q b off l.length capa i N (textR (IntKind.i64.wrap (N : Int)).toNat s).1) (twoA r q wr s (textR (IntKind.i64.wrap (N : Int)).toNat s).2) 7 15 mixed (by rfl) (by rfl) (by decide) (by decide) ⟨Ch.drew (Ch.refl _ _), HR.out.ext (Ch.drew (Ch.refl _ _)), HQ.out.ext (Ch.drew (Ch.refl _ _))⟩ ?all ?fin
        case all =>
          refine ⟨?_, ?_, ?_, ?_, ?_, ?_, ?_, ?_, ?_, ?_, ?_, ?_, ?_, ?_, ?_, ?_, ?_, ?_, trivial⟩
          · -- 0: slot 63 := Op.move t5
            refine StepOK.twoRead (readsT16_pure _ _ _ _ _ _ _ _ _) HA.out (by rfl) (by rfl) rfl fun ρ w hρ hw hf => ?_
            have h5 : ρ (.tmp 5) = .pointer (some ⟨r, 0, none⟩) := (hf 5).2 rfl rfl
            exact Exec.kmove rfl rfl h5
          · -- 1: slot 64 := Op.move t1
            refine StepOK.twoRead (readsT16_pure _ _ _ _ _ _ _ _ _) HA.out (by rfl) (by rfl) rfl fun ρ w hρ hw hf => ?_
            have h1 : ρ (.tmp 1) = .slice (some ⟨b, off, none⟩) l.length capa := (hf 1).2 rfl rfl
            exact Exec.kmove rfl rfl h1
          · -- 2: slot 65 := Op.move t7
            refine StepOK.twoRead (readsT16_pure _ _ _ _ _ _ _ _ _) HA.out (by rfl) (by rfl) rfl fun ρ w hρ hw hf => ?_
            have h7 : ρ (.tmp 7) = .int .i64 i := (hf 7).2 rfl rfl
            exact Exec.kmove rfl rfl h7
          · -- 3: slot 66 := Op.indexAddr 32 t64 t65
            refine StepOK.twoRead (readsT16_pure _ _ _ _ _ _ _ _ _) HA.out (by rfl) (by rfl) rfl fun ρ w hρ hw hf => ?_
            have h64 : ρ (.tmp 64) = (.slice (some ⟨b, off, none⟩) l.length capa) := (hf 64).1 rfl
            have h65 : ρ (.tmp 65) = (.int .i64 i) := (hf 65).1 rfl
            exact Exec.kindex (i := i) rfl rfl Try.underlying32 HIA.out HSA.out h64 h65 HIL.out rfl
          · -- 4: slot 67 := Op.fieldAddr 39 t66 1
            refine StepOK.twoRead (readsT16_pure _ _ _ _ _ _ _ _ _) HA.out (by rfl) (by rfl) rfl fun ρ w hρ hw hf => ?_
            have h66 : ρ (.tmp 66) = (.pointer (some ⟨b, off + i * 2, none⟩)) := (hf 66).1 rfl
            exact Exec.same (v := .pointer (some ⟨b, off + i * 2 + 1, none⟩)) rfl (by simp [go_sem, hρ.const, h66, Try.underlying39]) rfl
          · -- 5: slot 68 := Op.load 23 t67
            refine StepOK.twoRead (readsT16_pure _ _ _ _ _ _ _ _ _) HA.out (by rfl) (by rfl) rfl fun ρ w hρ hw hf => ?_
            have h67 : ρ (.tmp 67) = (.pointer (some ⟨b, off + i * 2 + 1, none⟩)) := (hf 67).1 rfl
            obtain ⟨_, _, hch, _, _⟩ := hw
            have hc := hch.cell (p := ⟨b, off + i * 2 + 1, none⟩) HBN.out _ HC1.out
            exact Exec.same (v := .int .u64 N) rfl (by simp [go_sem, hρ.const, h67, hc]) rfl
          · -- 6: slot 69 := Op.convert 23 3 t68
            refine StepOK.twoRead (readsT16_pure _ _ _ _ _ _ _ _ _) HA.out (by rfl) (by rfl) rfl fun ρ w hρ hw hf => ?_
            have h68 : ρ (.tmp 68) = (.int .u64 N) := (hf 68).1 rfl
            exact Exec.same (v := .int .i64 (IntKind.i64.wrap (N : Int))) rfl (by simp [go_sem, hρ.const, h68]) rfl
          · -- 7: slot 70 := Op.call { value (Operand.func 25), args := #[t63, t69], argTypes := #[
            refine StepOK.twoFirst (readsT16_pure _ _ _ _ _ _ _ _ _) (by rfl) rfl fun ρ w bb hρ hw hf => ?_
            have h63 : ρ (.tmp 63) = (.pointer (some ⟨r, 0, none⟩)) := (hf 63).1 rfl
            have h69 : ρ (.tmp 69) = (.int .i64 (IntKind.i64.wrap (N : Int))) := (hf 69).1 rfl
            obtain ⟨hch, hR, hQ⟩ := hw
            refine Exec.call #[RPtr r, .int .i64 (IntKind.i64.wrap (N : Int))] hρ rfl (by simp [h63, h69, RPtr]) Try.func25 (by rfl) rfl ?_
            refine (text_any r s _ w hR HW64.out).mono ?_
            rintro e w' ⟨rfl, k1, k2⟩
            exact ⟨_, rfl, fun d h => by cases h; rfl, hch.trans (k1.mono fun _ _ h => .inl h), k2, hQ.otherR hR (Ne.symm HNE.out) k1⟩
          · -- 8: slot 71 := Op.move t6
            refine StepOK.twoRead (readsT16_pure _ _ _ _ _ _ _ _ _) HA.out (by rfl) (by rfl) rfl fun ρ w hρ hw hf => ?_
            have h6 : ρ (.tmp 6) = .pointer (some ⟨q, 0, none⟩) := (hf 6).2 rfl rfl
            exact Exec.kmove rfl rfl h6
          · -- 9: slot 72 := Op.move t1
            refine StepOK.twoRead (readsT16_pure _ _ _ _ _ _ _ _ _) HA.out (by rfl) (by rfl) rfl fun ρ w hρ hw hf => ?_
            have h1 : ρ (.tmp 1) = .slice (some ⟨b, off, none⟩) l.length capa := (hf 1).2 rfl rfl
            exact Exec.kmove rfl rfl h1
          · -- 10: slot 73 := Op.move t7
            refine StepOK.twoRead (readsT16_pure _ _ _ _ _ _ _ _ _) HA.out (by rfl) (by rfl) rfl fun ρ w hρ hw hf => ?_
            have h7 : ρ (.tmp 7) = .int .i64 i := (hf 7).2 rfl rfl
            exact Exec.kmove rfl rfl h7
          · -- 11: slot 74 := Op.indexAddr 32 t72 t73
            refine StepOK.twoRead (readsT16_pure _ _ _ _ _ _ _ _ _) HA.out (by rfl) (by rfl) rfl fun ρ w hρ hw hf => ?_
            have h72 : ρ (.tmp 72) = (.slice (some ⟨b, off, none⟩) l.length capa) := (hf 72).1 rfl
            have h73 : ρ (.tmp 73) = (.int .i64 i) := (hf 73).1 rfl
            exact Exec.kindex (i := i) rfl rfl Try.underlying32 HIA.out HSA.out h72 h73 HIL.out rfl
          · -- 12: slot 75 := Op.fieldAddr 39 t74 1
            refine StepOK.twoRead (readsT16_pure _ _ _ _ _ _ _ _ _) HA.out (by rfl) (by rfl) rfl fun ρ w hρ hw hf => ?_
            have h74 : ρ (.tmp 74) = (.pointer (some ⟨b, off + i * 2, none⟩)) := (hf 74).1 rfl
            exact Exec.same (v := .pointer (some ⟨b, off + i * 2 + 1, none⟩)) rfl (by simp [go_sem, hρ.const, h74, Try.underlying39]) rfl
          · -- 13: slot 76 := Op.load 23 t75
            refine StepOK.twoRead (readsT16_pure _ _ _ _ _ _ _ _ _) HA.out (by rfl) (by rfl) rfl fun ρ w hρ hw hf => ?_
            have h75 : ρ (.tmp 75) = (.pointer (some ⟨b, off + i * 2 + 1, none⟩)) := (hf 75).1 rfl
            obtain ⟨_, _, hch, _, _⟩ := hw
            have hc := hch.cell (p := ⟨b, off + i * 2 + 1, none⟩) HBN.out _ HC1.out
            exact Exec.same (v := .int .u64 N) rfl (by simp [go_sem, hρ.const, h75, hc]) rfl
          · -- 14: slot 77 := Op.convert 23 3 t76
            refine StepOK.twoRead (readsT16_pure _ _ _ _ _ _ _ _ _) HA.out (by rfl) (by rfl) rfl fun ρ w hρ hw hf => ?_
            have h76 : ρ (.tmp 76) = (.int .u64 N) := (hf 76).1 rfl
            exact Exec.same (v := .int .i64 (IntKind.i64.wrap (N : Int))) rfl (by simp [go_sem, hρ.const, h76]) rfl
          · -- 15: slot 78 := Op.call { value (Operand.func 26), args := #[t71, t77], argTypes := #[
            refine StepOK.twoSecond (readsT16_pure _ _ _ _ _ _ _ _ _) (by rfl) rfl fun ρ w aa hρ hw hf => ?_
            have h71 : ρ (.tmp 71) = (.pointer (some ⟨q, 0, none⟩)) := (hf 71).1 rfl
            have h77 : ρ (.tmp 77) = (.int .i64 (IntKind.i64.wrap (N : Int))) := (hf 77).1 rfl
            obtain ⟨hch, hR, hQ⟩ := hw
            refine Exec.call #[QPtr q, .int .i64 (IntKind.i64.wrap (N : Int))] hρ rfl (by simp [h71, h77, QPtr]) Try.func26 (by rfl) rfl ?_
            refine (qtext_any q s _ w hQ HW64.out).mono ?_
            rintro e w' ⟨rfl, k1, k2⟩
            exact ⟨_, rfl, fun d h => by cases h; rfl, hch.trans (k1.mono fun _ _ h => .inr h), hR.otherQ hQ HNE.out k1, k2⟩
          · -- 16: slot 79 := Op.binOp BinOp.eql 9 t70 t78 9
            refine StepOK.twoRead (readsT16_pure _ _ _ _ _ _ _ _ _) HA.out (by rfl) (by rfl) rfl fun ρ w hρ hw hf => ?_
            have h70 : ρ (.tmp 70) = (strV (textR (IntKind.i64.wrap (N : Int)).toNat s).1) := (hf 70).1 rfl
            have h78 : ρ (.tmp 78) = (strV (textR (IntKind.i64.wrap (N : Int)).toNat s).1) := (hf 78).1 rfl
            exact Exec.kstreq rfl rfl Try.underlying9 h70 h78 (congrArg Value.bool (decide_eq_true rfl))
          · -- 17: slot 8 := Op.assign t79
            refine StepOK.twoRead (readsT16_pure _ _ _ _ _ _ _ _ _) HA.out (by rfl) (by rfl) rfl fun ρ w hρ hw hf => ?_
            have h79 : ρ (.tmp 79) = (.bool true) := (hf 79).1 rfl
            exact Exec.kassign rfl rfl h79

        case fin =>
          intro ν w3 hfin hA3
          have h0 : ν 8 = .bool true := hfin 17 8 rfl
          simp only [Exit.then, ended, List.foldl_cons, List.foldl_nil, List.setIfInBounds_toArray, List.set_cons_succ, List.set_cons_zero, h0]
          obtain ⟨hch3, hR3, hQ3⟩ := hA3
          have hX3 := HXT.out w3 hch3
          simp only [if_true] at hR3 hQ3
          clear hfin h0 hch3
          have HRF := Lib.hid hR3; have HQF := Lib.hid hQ3; have HXF := Lib.hid hX3
          have HL1 := Lib.hid (quiet_left hR3); have HL2 := Lib.hid (quiet_qleft hQ3); have HE1 := Lib.hid (quiet_err hR3); have HE2 := Lib.hid (quiet_end hR3); have HE3 := Lib.hid (quiet_qend hQ3)
          obtain ⟨_, _, _, _, _, _, c2, _⟩ := hQ3.cells
          clear hR3 hQ3 hX3
          generalize hns : (textR (IntKind.i64.wrap (N : Int)).toNat s).2 = s3 at *
          clear hns
          unfold RPtr at HL1 HE1 HE2
          unfold QPtr at HL2 HE3
          go_wp2
          go_quiet (first | (go_at_call 33; exact HL1.out _) | (go_at_call 34; exact HL2.out _) | (go_at_call 35; exact HE1.out _) | (go_at_call 36; exact HE2.out _) | (go_at_call 37; exact HE3.out _))
          go_wp2
          go_roundw
          case rel => exact ⟨i + 1, s3, by omega, by go_num, HRF.out.ext (ext_drewN _ _), HQF.out.ext (ext_drewN _ _), HXF.out.trans (ext_drewN _ _)⟩
          case measure => simp [intOf] <;> omega
      by_cases d3 : dd = 3
      · subst d3
        go_wp2_with fail
        refine (byte_any r s _ HR.out).mono ?_
        rintro e w2 ⟨rfl, k1, k2⟩
        have hq2 := HQ.out.otherR HR.out (Ne.symm HNE.out) k1
        have HQ2 := Lib.hid hq2; have HR2 := Lib.hid k2; have HX2 := Lib.hid (Ch.mono k1 (N := fun k => k = r ∨ k = q) fun _ _ h => .inl h)
        clear k1 k2 hq2
        go_wp2_with fail
        refine (qbyte_any q s _ HQ2.out).mono ?_
        rintro e w3 ⟨rfl, k1, k2⟩
        have hR3 : IsR w3 r ((byteR s).2) := HR2.out.otherQ HQ2.out HNE.out k1
        have hQ3 : IsQ w3 q ((byteR s).2) := k2
        have hX3 := HXT.out w3 (HX2.out.trans (Ch.mono k1 (N := fun k => k = r ∨ k = q) fun _ _ h => .inr h))
        clear k1 k2
        have HRF := Lib.hid hR3; have HQF := Lib.hid hQ3; have HXF := Lib.hid hX3
        have HL1 := Lib.hid (quiet_left hR3); have HL2 := Lib.hid (quiet_qleft hQ3); have HE1 := Lib.hid (quiet_err hR3); have HE2 := Lib.hid (quiet_end hR3); have HE3 := Lib.hid (quiet_qend hQ3)
        obtain ⟨_, _, _, _, _, _, c2, _⟩ := hQ3.cells
        clear hR3 hQ3 hX3
        generalize hns : (byteR s).2 = s3 at *
        clear hns
        unfold RPtr at HL1 HE1 HE2
        unfold QPtr at HL2 HE3
        go_wp2
        go_quiet (first | (go_at_call 33; exact HL1.out _) | (go_at_call 34; exact HL2.out _) | (go_at_call 35; exact HE1.out _) | (go_at_call 36; exact HE2.out _) | (go_at_call 37; exact HE3.out _))
        go_wp2
        go_roundw
        case rel => exact ⟨i + 1, s3, by omega, by go_num, HRF.out.ext (ext_drewN _ _), HQF.out.ext (ext_drewN _ _), HXF.out.trans (ext_drewN _ _)⟩
        case measure => simp [intOf] <;> omega
      by_cases d4 : dd = 4
      · subst d4
        go_wp2_with fail
        refine (word_any r s _ HR.out).mono ?_
        rintro e w2 ⟨rfl, k1, k2⟩
        have hq2 := HQ.out.otherR HR.out (Ne.symm HNE.out) k1
        have HQ2 := Lib.hid hq2; have HR2 := Lib.hid k2; have HX2 := Lib.hid (Ch.mono k1 (N := fun k => k = r ∨ k = q) fun _ _ h => .inl h)
        clear k1 k2 hq2
        go_wp2_with fail
        refine (qword_any q s _ HQ2.out).mono ?_
        rintro e w3 ⟨rfl, k1, k2⟩
        have hR3 : IsR w3 r ((wordR s).2) := HR2.out.otherQ HQ2.out HNE.out k1
        have hQ3 : IsQ w3 q ((wordR s).2) := k2
        have hX3 := HXT.out w3 (HX2.out.trans (Ch.mono k1 (N := fun k => k = r ∨ k = q) fun _ _ h => .inr h))
        clear k1 k2
        have HRF := Lib.hid hR3; have HQF := Lib.hid hQ3; have HXF := Lib.hid hX3
        have HL1 := Lib.hid (quiet_left hR3); have HL2 := Lib.hid (quiet_qleft hQ3); have HE1 := Lib.hid (quiet_err hR3); have HE2 := Lib.hid (quiet_end hR3); have HE3 := Lib.hid (quiet_qend hQ3)
        obtain ⟨_, _, _, _, _, _, c2, _⟩ := hQ3.cells
        clear hR3 hQ3 hX3
        generalize hns : (wordR s).2 = s3 at *
        clear hns
        unfold RPtr at HL1 HE1 HE2
        unfold QPtr at HL2 HE3
        go_wp2
        go_quiet (first | (go_at_call 33; exact HL1.out _) | (go_at_call 34; exact HL2.out _) | (go_at_call 35; exact HE1.out _) | (go_at_call 36; exact HE2.out _) | (go_at_call 37; exact HE3.out _))
        go_wp2
        go_roundw
        case rel => exact ⟨i + 1, s3, by omega, by go_num, HRF.out.ext (ext_drewN _ _), HQF.out.ext (ext_drewN _ _), HXF.out.trans (ext_drewN _ _)⟩
        case measure => simp [intOf] <;> omega
      by_cases d6 : dd = 6
      · subst d6
        have hc1 := HC1.out
        go_wp2_with fail
        refine (fail_any r s _ _ HR.out).mono ?_
        rintro e w2 ⟨rfl, k1, k2⟩
        have hc2 := (Ch.mono k1 (N := fun k => k = r ∨ k = q) fun _ _ h => .inl h).cell (p := ⟨b, off + i * 2 + 1, none⟩) HBN.out _ hc1
        have hq2 := HQ.out.otherR HR.out (Ne.symm HNE.out) k1
        have HQ2 := Lib.hid hq2; have HR2 := Lib.hid k2; have HX2 := Lib.hid (Ch.mono k1 (N := fun k => k = r ∨ k = q) fun _ _ h => .inl h)
        clear k1 k2 hq2
        go_wp2_with fail
        refine (giveUp_any q s _ _ HQ2.out).mono ?_
        rintro e w3 ⟨rfl, k1, k2⟩
        have hR3 : IsR w3 r (failR s (wrap64 (N : Int))) := HR2.out.otherQ HQ2.out HNE.out k1
        have hQ3 : IsQ w3 q (failR s (wrap64 (N : Int))) := k2
        have hX3 := HXT.out w3 (HX2.out.trans (Ch.mono k1 (N := fun k => k = r ∨ k = q) fun _ _ h => .inr h))
        clear k1 k2
        have HRF := Lib.hid hR3; have HQF := Lib.hid hQ3; have HXF := Lib.hid hX3
        have HL1 := Lib.hid (quiet_left hR3); have HL2 := Lib.hid (quiet_qleft hQ3); have HE1 := Lib.hid (quiet_err hR3); have HE2 := Lib.hid (quiet_end hR3); have HE3 := Lib.hid (quiet_qend hQ3)
        obtain ⟨_, _, _, _, _, _, c2, _⟩ := hQ3.cells
        clear hR3 hQ3 hX3
        generalize hns : failR s (wrap64 (N : Int)) = s3 at *
        clear hns
        unfold RPtr at HL1 HE1 HE2
        unfold QPtr at HL2 HE3
        go_wp2
        go_quiet (first | (go_at_call 33; exact HL1.out _) | (go_at_call 34; exact HL2.out _) | (go_at_call 35; exact HE1.out _) | (go_at_call 36; exact HE2.out _) | (go_at_call 37; exact HE3.out _))
        go_wp2
        go_roundw
        case rel => exact ⟨i + 1, s3, by omega, by go_num, HRF.out.ext (ext_drewN _ _), HQF.out.ext (ext_drewN _ _), HXF.out.trans (ext_drewN _ _)⟩
        case measure => simp [intOf] <;> omega
      have e0 : ((dd : Int) == 0) = false := beq_eq_false_iff_ne.2 (by omega)
      have e1 : ((dd : Int) == 1) = false := beq_eq_false_iff_ne.2 (by omega)
      have e2 : ((dd : Int) == 2) = false := beq_eq_false_iff_ne.2 (by omega)
      have e3 : ((dd : Int) == 3) = false := beq_eq_false_iff_ne.2 (by omega)
      have e4 : ((dd : Int) == 4) = false := beq_eq_false_iff_ne.2 (by omega)
      have e6 : ((dd : Int) == 6) = false := beq_eq_false_iff_ne.2 (by omega)
      have hR3 := HR.out; have hQ3 := HQ.out; have hX3 := HX.out
      have HRF := Lib.hid hR3; have HQF := Lib.hid hQ3; have HXF := Lib.hid hX3
      have HL1 := Lib.hid (quiet_left hR3); have HL2 := Lib.hid (quiet_qleft hQ3); have HE1 := Lib.hid (quiet_err hR3); have HE2 := Lib.hid (quiet_end hR3); have HE3 := Lib.hid (quiet_qend hQ3)
      obtain ⟨_, _, _, _, _, _, c2, _⟩ := hQ3.cells
      clear hR3 hQ3 hX3
      unfold RPtr at HL1 HE1 HE2
      unfold QPtr at HL2 HE3
      go_wp2
      go_quiet (first | (go_at_call 33; exact HL1.out _) | (go_at_call 34; exact HL2.out _) | (go_at_call 35; exact HE1.out _) | (go_at_call 36; exact HE2.out _) | (go_at_call 37; exact HE3.out _))
      go_wp2
      go_roundw
      case rel => exact ⟨i + 1, s, by omega, by go_num, HRF.out.ext (ext_drewN _ _), HQF.out.ext (ext_drewN _ _), HXF.out.trans (ext_drewN _ _)⟩
      case measure => simp [intOf] <;> omega

    · have hkn : i = l.length := by omega
      subst hkn
      go_wp2_with fail
      refine (awake_any _).mono ?_
      rintro e w5 ⟨rfl, hx⟩
      have HF := Lib.hid (HX.out.trans hx); clear hx
      go_wp2
      go_ret
      exact ⟨rfl, HF.out⟩
end Go.Proofs.Ytpbedbbggnhkbaa
