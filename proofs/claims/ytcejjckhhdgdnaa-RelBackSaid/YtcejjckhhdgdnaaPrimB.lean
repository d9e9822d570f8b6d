/-
  PutUint, PutInt, PutText, and the reference's Zig and Text.
-/
import Derived.Test.YtcejjckhhdgdnaaProg
import Derived.Test.YtcejjckhhdgdnaaLib
import Derived.Test.YtcejjckhhdgdnaaPrimA
import Derived.Test.YtcejjckhhdgdnaaConcat
import Derived.WalkKit
import Derived.Lib.Hide
import Derived.Lib.ConvBytes
import Derived.Lib.Zigzag
namespace Go.Proofs.Ytcejjckhhdgdnaa
open Go.RowKit Go.Lac

theorem sev_length (v : Nat) : (sev v).length ≤ v + 1 := by
  induction v using Nat.strongRecOn with
  | _ v ih =>
    rw [sev]
    split
    · simp
    · have := ih (v / 128) (by omega)
      simp only [List.length_cons]
      omega

theorem sev_length_le (n : Nat) : ∀ v, v < 128 ^ (n + 1) → (sev v).length ≤ n + 1 := by
  induction n with
  | zero => intro v hv; rw [sev_small (by simpa using hv)]; simp
  | succ n ih =>
    intro v hv
    by_cases h : v < 128
    · rw [sev_small h]; simp
    · rw [sev_big h]
      have := ih (v / 128) (by rw [Nat.div_lt_iff_lt_mul (by omega)]; rw [Nat.pow_succ] at hv; exact hv)
      simp only [List.length_cons]; omega

theorem sev_length_10 (v : Nat) (h : v < 2 ^ 64) : (sev v).length ≤ 10 := sev_length_le 9 v (Nat.lt_of_lt_of_le h (by decide))

/-- Two slices, side by side in a new block. -/
theorem rdAll_two {w : World} {a b : Value} {x y : List UInt8} (ha : Rd w a x) (hb : Rd w b y) (E : TypeId) : RdAll (w.alloc (.cells #[a, b] E)) w.heap.size 0 [x, y] := by
  have hx : Ext w (w.alloc (.cells #[a, b] E)) := (Ch.refl _ _).alloc _
  intro k hk
  match k, hk with
  | 0, _ => exact ⟨a, by rw [World.cell?_alloc_new w]; rfl, ha.ext hx⟩
  | 1, _ => exact ⟨b, by rw [World.cell?_alloc_new w]; rfl, hb.ext hx⟩

theorem rdAll_three {w : World} {a b c : Value} {x y z : List UInt8} (ha : Rd w a x) (hb : Rd w b y) (hc : Rd w c z) (E : TypeId) : RdAll (w.alloc (.cells #[a, b, c] E)) w.heap.size 0 [x, y, z] := by
  have hx : Ext w (w.alloc (.cells #[a, b, c] E)) := (Ch.refl _ _).alloc _
  intro k hk
  match k, hk with
  | 0, _ => exact ⟨a, by rw [World.cell?_alloc_new w]; rfl, ha.ext hx⟩
  | 1, _ => exact ⟨b, by rw [World.cell?_alloc_new w]; rfl, hb.ext hx⟩
  | 2, _ => exact ⟨c, by rw [World.cell?_alloc_new w]; rfl, hc.ext hx⟩

set_option maxRecDepth 20000 in
set_option maxHeartbeats 400000 in
theorem putUint_any (vb : Value) (b : List UInt8) (v : Nat) (w : World) (hb : Rd w vb b) (hl : b.length ≤ 2 ^ 46) (hv : v < 2 ^ 64) :
    Calls Try.prog 44 #[vb, .int .u64 v] w (Made 5 (b ++ sev v) w) := by
  have HB := Lib.hid hb; have HV := Lib.hid hv; have HL := Lib.hid hl
  obtain ⟨ao, cap, rfl⟩ := hb.shape
  clear hb hv hl
  go_enter Try.func44, Try.ntmps44
  go_wp2_with (go_at_call 74; refine (sevens_any v _ HV.out).mono ?_)
  rintro e w1 ⟨s, rfl, hx1, ho1⟩
  have HX := Lib.hid hx1; have HO := Lib.hid ho1
  obtain ⟨ao', cap', rfl⟩ := owns_shape ho1
  clear hx1 ho1
  have hcat := concat_any [b, sev v] w1.heap.size 0 2 _ (rdAll_two (HB.out.ext HX.out) (Rd.ofOwns HO.out) 34) (by have := sev_length_10 v HV.out; have := HL.out; simp [total]; omega) (by simp)
  have HC := Lib.hid hcat; clear hcat
  go_wp2_with (go_at_call 73; refine HC.out.mono ?_)
  rintro e w2 ⟨s2, rfl, hx2, ho2⟩
  have hfin : Made 5 (b ++ sev v) w (.returned s2) w2 := Made.after ⟨s2, rfl, hx2, by simpa using ho2⟩ (HX.out.alloc _)
  have HF := Lib.hid hfin; clear hfin hx2 ho2
  go_wp2
  go_ret
  exact HF.out

theorem wrap64_id {x : Int} (h0 : -9223372036854775808 ≤ x) (h1 : x ≤ 9223372036854775807) : IntKind.i64.wrap x = x := by
  rw [IntKind.wrap_i64]; omega

theorem zig_lt (x : Int) (h0 : -9223372036854775808 ≤ x) (h1 : x ≤ 9223372036854775807) : Lib.zigzag x < 2 ^ 64 := Lib.zigzag_lt h0 h1

/-- A text with its length ahead. -/
def txt (s : List UInt8) : List UInt8 := sev s.length ++ s

set_option maxRecDepth 20000 in
set_option maxHeartbeats 400000 in
theorem putText_any (vb : Value) (b s : List UInt8) (w : World) (hb : Rd w vb b) (hl : b.length ≤ 2 ^ 45) (hs : s.length ≤ 2 ^ 45) :
    Calls Try.prog 45 #[vb, .string ⟨s.toArray⟩] w (Made 5 (b ++ txt s) w) := by
  have HB := Lib.hid hb; have HL := Lib.hid hl; have HS := Lib.hid hs
  obtain ⟨ao, cap, rfl⟩ := hb.shape
  have hs' : (s.length : Int) ≤ 35184372088832 := by omega
  clear hb hl hs
  go_enter Try.func45, Try.ntmps45
  go_wp2_with (go_at_call 74; refine (sevens_any s.length _ (by have := HS.out; omega)).mono ?_)
  rintro e w1 ⟨sv, rfl, hx1, ho1⟩
  have HX := Lib.hid hx1; have HO := Lib.hid ho1
  obtain ⟨ao', cap', rfl⟩ := owns_shape ho1
  clear hx1 ho1
  obtain ⟨cap2, w2, hr2, hx2, hrd2⟩ := run_toBytes (P := Try.prog) w1 s 9 34 5 Try.underlying9 Try.underlying34 Try.underlying5 (by have := HS.out; unfold maxLen; omega)
  have HX2 := Lib.hid hx2; have HR2 := Lib.hid hrd2; clear hx2 hrd2
  have hcat := concat_any [b, sev s.length, s] w2.heap.size 0 3 _ (rdAll_three (HB.out.ext (HX.out.trans HX2.out)) ((Rd.ofOwns HO.out).ext HX2.out) HR2.out 34) (by have := sev_length_10 s.length (by have := HS.out; omega); have := HL.out; have := HS.out; simp [total]; omega) (by simp)
  have HC := Lib.hid hcat; clear hcat
  go_wp2_with (go_at_call 73; refine HC.out.mono ?_)
  rintro e w3 ⟨s3, rfl, hx3, ho3⟩
  have hfin : Made 5 (b ++ txt s) w (.returned s3) w3 := Made.after ⟨s3, rfl, hx3, by simpa [txt] using ho3⟩ ((HX.out.trans HX2.out).alloc _)
  have HF := Lib.hid hfin; clear hfin hx3 ho3
  go_wp2
  go_ret
  exact HF.out

set_option maxRecDepth 20000 in
set_option maxHeartbeats 400000 in
theorem refText_any (s : List UInt8) (w : World) (hs : s.length ≤ 2 ^ 45) :
    Calls Try.prog 49 #[.string ⟨s.toArray⟩] w (Made 5 (txt s) w) := by
  obtain ⟨i, hi, hz, hs1, hb⟩ := info_parts infoU8
  have HS := Lib.hid hs
  have hs' : (s.length : Int) ≤ 35184372088832 := by omega
  clear hs
  go_enter Try.func49, Try.ntmps49
  go_wp2_with (go_at_call 48; refine (refUint_any s.length _ (by have := HS.out; omega)).mono ?_)
  rintro e w1 ⟨sv, rfl, hx1, ho1⟩
  have HX := Lib.hid hx1; have HO := Lib.hid ho1
  obtain ⟨ao', cap', rfl⟩ := owns_shape ho1
  clear hx1 ho1
  obtain ⟨cap2, w2, hr2, hx2, hrd2⟩ := run_toBytes (P := Try.prog) w1 s 9 34 5 Try.underlying9 Try.underlying34 Try.underlying5 (by have := HS.out; unfold maxLen; omega)
  have HX2 := Lib.hid hx2; have HR2 := Lib.hid hrd2; clear hx2 hrd2
  have HO2 := Lib.hid (HO.out.ext HX2.out)
  go_wp2_with (at_builtin; refine wpList_append_sl _ rfl _ _ 34 rfl w.heap.size 5 i (.int .u8 0) 1 1 Try.underlying34 hi hz hs1 hb rfl (by decide) _ _ _ rfl HO2.out _ _ _ rfl HR2.out (by rw [cellsB_length, Nat.mul_one]) (cellsB_one _) (by have := sev_length_10 s.length (by have := HS.out; omega); have := HS.out; omega) (by have := sev_length_10 s.length (by have := HS.out; omega); have := HS.out; unfold maxLen; omega) (HX.out.trans HX2.out).size ?_)
  intro v' w' hown hgrow
  have hlt := HO2.out.lt
  have hfin : Made 5 (txt s) w (.returned v') w' := ⟨v', rfl, (HX.out.trans HX2.out).grown hgrow (fun k hk => .inr (hlt k hk).1), by rw [txt, List.length_append, cellsB_append]; exact hown⟩
  have HF := Lib.hid hfin; clear hfin hown hgrow hlt
  go_wp2
  go_ret
  exact HF.out
end Go.Proofs.Ytcejjckhhdgdnaa
