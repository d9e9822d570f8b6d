/-
  The chapter's examples hold (lacunalaw06.awake).
-/
import Derived.Test.YtoggnmfjkbnopaaValO
namespace Go.Proofs.Ytoggnmfjkbnopaa
open Go.RowKit Go.Lac

theorem sev_1 : sev 1 = [1] := by rw [sev_small (by decide)]; rfl
theorem sev_64 : sev 64 = [64] := by rw [sev_small (by decide)]; rfl
theorem flt_2i : flt 2 4611686018427387904 = [64] := by
  unfold flt
  rw [if_neg (by decide), show rev8 4611686018427387904 = 64 by decide, sev_64]

def PutsAs (a : Array Value) (bs : List UInt8) : Prop := ∀ w, Calls Try.prog 31 a w fun e w' => ∃ s, e = .returned (.tuple #[s, .int .i64 0]) ∧ Ext w w' ∧ Rd w' s bs

theorem puts1 : PutsAs #[.slice none 0 0, .agg #[.int .u8 2, .int .i64 (-1), .complex .f64 0 0, .string ⟨#[]⟩], .int .u8 2] [1] := fun w => by
  have h := put_any (.slice none 0 0) [] 2 ⟨2, -1, 0, 0, []⟩ w (rd_nil w) (by simp) (by unfold Val.ok; simp)
  refine Calls.mono h ?_
  rintro e w' ⟨s, h1, h2, h3⟩
  have e0 : putE 2 ⟨2, -1, 0, 0, []⟩ = 0 := by decide
  rw [e0] at h1 h3
  refine ⟨s, h1, h2, ?_⟩
  have e1 : vBytes 2 ⟨2, -1, 0, 0, []⟩ = [1] := by
    unfold vBytes
    simp only
    rw [if_neg (by decide), if_pos trivial, if_neg (by decide), show Lib.zigzag (-1) = 1 by decide, sev_1]
  rw [if_pos rfl, e1] at h3
  exact h3
theorem puts2 : PutsAs #[.slice none 0 0, .agg #[.int .u8 4, .int .i64 0, .complex .f64 0 4611686018427387904, .string ⟨#[]⟩], .int .u8 2] [2, 64] := fun w => by
  have h := put_any (.slice none 0 0) [] 2 ⟨4, 0, 0, 4611686018427387904, []⟩ w (rd_nil w) (by simp) (by unfold Val.ok; simp)
  refine Calls.mono h ?_
  rintro e w' ⟨s, h1, h2, h3⟩
  have e0 : putE 2 ⟨4, 0, 0, 4611686018427387904, []⟩ = 0 := by decide
  rw [e0] at h1 h3
  refine ⟨s, h1, h2, ?_⟩
  have e1 : vBytes 2 ⟨4, 0, 0, 4611686018427387904, []⟩ = [2, 64] := by
    unfold vBytes
    simp only
    rw [if_neg (by decide), if_neg (by decide), if_neg (by decide), if_pos trivial, if_neg (by decide)]
    unfold cplx cplxM partB
    rw [flt_2i]
    rfl
  rw [if_pos rfl, e1] at h3
  exact h3
theorem puts3 : PutsAs #[.slice none 0 0, .agg #[.int .u8 4, .int .i64 0, .complex .f64 0 4611686018427387904, .string ⟨#[]⟩], .int .u8 1] [0, 0, 0, 0, 0, 0, 0, 0, 0, 0, 0, 0, 0, 0, 0, 64] := fun w => by
  have h := put_any (.slice none 0 0) [] 1 ⟨4, 0, 0, 4611686018427387904, []⟩ w (rd_nil w) (by simp) (by unfold Val.ok; simp)
  refine Calls.mono h ?_
  rintro e w' ⟨s, h1, h2, h3⟩
  have e0 : putE 1 ⟨4, 0, 0, 4611686018427387904, []⟩ = 0 := by decide
  rw [e0] at h1 h3
  refine ⟨s, h1, h2, ?_⟩
  have e1 : vBytes 1 ⟨4, 0, 0, 4611686018427387904, []⟩ = [0, 0, 0, 0, 0, 0, 0, 0, 0, 0, 0, 0, 0, 0, 0, 64] := by decide
  rw [if_pos rfl, e1] at h3
  exact h3

set_option maxRecDepth 20000 in
set_option maxHeartbeats 1600000 in
theorem awake6_any (w : World) : Calls Try.prog 30 #[] w fun e w' => e = .returned (.bool true) ∧ Ext w w' := by
  have P1 := Lib.hid puts1; have P2 := Lib.hid puts2; have P3 := Lib.hid puts3
  go_enter Try.func30, Try.ntmps30
  go_wp2_with fail
  refine (P1.out _).mono ?_
  rintro e w1 ⟨s1, rfl, h1, r1⟩
  have X1 := Lib.hid h1; have R1 := Lib.hid r1
  obtain ⟨a1, c1, rfl⟩ := r1.shape
  clear h1 r1
  go_wp2_with fail
  refine (P2.out _).mono ?_
  rintro e w2 ⟨s2, rfl, h1, r1⟩
  have X2 := Lib.hid h1; have R2 := Lib.hid r1
  obtain ⟨a2, c2, rfl⟩ := r1.shape
  clear h1 r1
  go_wp2_with fail
  refine (P3.out _).mono ?_
  rintro e w3 ⟨s3, rfl, h1, r1⟩
  have X3 := Lib.hid h1; have R3 := Lib.hid r1
  obtain ⟨a3, c3, rfl⟩ := r1.shape
  clear h1 r1
  have hx4 : Ext w3 (w3.alloc (.cells #[.int .u8 2, .int .u8 64] 5)) := (Ch.refl _ _).alloc _
  have hx5 : Ext (w3.alloc (.cells #[.int .u8 2, .int .u8 64] 5)) ((w3.alloc (.cells #[.int .u8 2, .int .u8 64] 5)).alloc (.cells #[.int .u8 0, .int .u8 0, .int .u8 0, .int .u8 0, .int .u8 0, .int .u8 0, .int .u8 0, .int .u8 0, .int .u8 0, .int .u8 0, .int .u8 0, .int .u8 0, .int .u8 0, .int .u8 0, .int .u8 0, .int .u8 64] 5)) := (Ch.refl _ _).alloc _
  have hs1 := run_toString (P := Try.prog) (R1.out.ext (X2.out.trans X3.out)) (src := 22) (dst := 9) Try.underlying22 Try.underlying5 Try.underlying9
  have hs2 := run_toString (P := Try.prog) (R2.out.ext X3.out) (src := 22) (dst := 9) Try.underlying22 Try.underlying5 Try.underlying9
  have hs3 := run_toString (P := Try.prog) (R3.out.ext hx4) (src := 22) (dst := 9) Try.underlying22 Try.underlying5 Try.underlying9
  have hs4 := run_toString (P := Try.prog) (rd_new w3 [2, 64] 5 (by unfold maxLen; simp)) (src := 22) (dst := 9) Try.underlying22 Try.underlying5 Try.underlying9
  have hs5 := run_toString (P := Try.prog) (rd_new (w3.alloc (.cells #[.int .u8 2, .int .u8 64] 5)) [0, 0, 0, 0, 0, 0, 0, 0, 0, 0, 0, 0, 0, 0, 0, 64] 5 (by unfold maxLen; simp)) (src := 22) (dst := 9) Try.underlying22 Try.underlying5 Try.underlying9
  have HX := Lib.hid (((X1.out.trans X2.out).trans X3.out).trans (hx4.trans hx5))
  have hb4 : cellsB [2, 64] = [.int .u8 2, .int .u8 64] := rfl
  have hb5 : cellsB [0, 0, 0, 0, 0, 0, 0, 0, 0, 0, 0, 0, 0, 0, 0, 64] = [.int .u8 0, .int .u8 0, .int .u8 0, .int .u8 0, .int .u8 0, .int .u8 0, .int .u8 0, .int .u8 0, .int .u8 0, .int .u8 0, .int .u8 0, .int .u8 0, .int .u8 0, .int .u8 0, .int .u8 0, .int .u8 64] := rfl
  rw [hb4] at hs4
  rw [hb5] at hs5
  have hsz : (w3.alloc (.cells #[.int .u8 2, .int .u8 64] 5)).heap.size = w3.heap.size + 1 := by simp
  rw [hsz] at hs5
  have z1 : ((⟨#[1]⟩ : ByteArray).toList == (⟨#[1]⟩ : ByteArray).toList) = true := by rw [beq_self_eq_true]
  unfold strV at hs1 hs2 hs3 hs4 hs5
  simp only [List.length_cons, List.length_nil, Nat.zero_add, Nat.reduceAdd] at hs1 hs2 hs3 hs4 hs5
  clear hx4 hx5 hb4 hb5 hsz
  go_wp2
  go_ret
  exact ⟨rfl, HX.out⟩
end Go.Proofs.Ytoggnmfjkbnopaa
