/-
  The chapter's examples hold (lacunalaw07.awake).
-/
import Derived.Test.YteechmgcjfnjbaaCelF
namespace Go.Proofs.Yteechmgcjfnjbaa
open Go.RowKit Go.Lac

theorem sev_300 : sev 300 = [172, 2] := by rw [sev_big (by decide), sev_small (by decide)]; rfl
theorem sev_2 : sev 2 = [2] := by rw [sev_small (by decide)]; rfl
theorem sev_4 : sev 4 = [4] := by rw [sev_small (by decide)]; rfl
def CPuts (a : Array Value) (bs : List UInt8) : Prop := ∀ w, Calls Try.prog 21 a w (OkPost bs w)
theorem cput_ok (c : Cel) (kind ver : Nat) (hv : ver = 1 ∨ ver = 2) (hc : c.ok) (he : cErr c kind = 0) (hk : c.k ≠ 0) : CPuts #[.slice none 0 0, pc c, .int .u8 (kind : Nat), .int .u8 (ver : Nat)] (cBytes ver c) := fun w => by
  have h := cput_any (.slice none 0 0) [] c kind ver w (rd_nil w) (by simp) hc
  have h0 : cpErr ver c kind = 0 := by unfold cpErr; rw [if_neg (by omega), if_neg (by omega), if_neg hk]
  refine Calls.mono h ?_
  rintro e w' ⟨s, h1, h2, h3⟩
  rw [h0] at h1 h3
  rw [if_pos rfl, List.nil_append] at h3
  exact ⟨s, h1, h2, h3⟩
theorem cel_ab : cErr ⟨2, ⟨5, 0, 0, 0, [97, 98]⟩⟩ 5 = 0 := by decide
theorem big_err : cErr ⟨2, ⟨5, 0, 0, 0, List.replicate 300 97⟩⟩ 5 = 0 := cErr_full (by decide) (by decide) (fill_err (by decide) (by decide)) rfl
theorem big_bytes : cBytes 2 ⟨2, ⟨5, 0, 0, 0, List.replicate 300 97⟩⟩ = [1, 172, 2] := by
  rw [cBytes_large (big_large (by decide) (by decide))]
  simp only [List.length_replicate]
  rw [sev_300]
  rfl
theorem ab_bytes1 : cBytes 1 ⟨2, ⟨5, 0, 0, 0, [97, 98]⟩⟩ = [1, 2, 97, 98] := by
  rw [cBytes_1 (by decide), vBytes_text (by decide)]
  unfold txt
  simp only [List.length_cons, List.length_nil, Nat.zero_add, Nat.reduceAdd]
  rw [sev_2]; rfl
theorem ab_bytes2 : cBytes 2 ⟨2, ⟨5, 0, 0, 0, [97, 98]⟩⟩ = [4, 97, 98] := by
  rw [cBytes_2t (by decide) (by decide)]
  simp only [List.length_cons, List.length_nil, Nat.zero_add, Nat.reduceAdd]
  rw [sev_4]; rfl
theorem build61_t (w : World) (A : ByteArray) : (Instr.build 29 #[(0, .int .u8 5), (3, .string A)]).run Try.prog w = .ok (.agg #[.int .u8 5, .int .i64 0, .complex .f64 0 0, .string A]) w := by kernel_rfl

set_option maxRecDepth 20000 in
set_option maxHeartbeats 1600000 in
theorem awake7_any (w : World) : Calls Try.prog 20 #[] w fun e w' => e = .returned (.bool true) ∧ Ext w w' := by
  have hok : Cel.ok ⟨2, ⟨5, 0, 0, 0, [97, 98]⟩⟩ := okText (by decide)
  have hok2 : Cel.ok ⟨2, ⟨5, 0, 0, 0, List.replicate 300 97⟩⟩ := okText (by decide)
  have p1 := cput_ok _ 5 1 (.inl rfl) hok cel_ab (by decide)
  have p2 := cput_ok _ 5 2 (.inr rfl) hok cel_ab (by decide)
  have p3 := cput_ok _ 5 2 (.inr rfl) hok2 big_err (by decide)
  rw [ab_bytes1] at p1
  rw [ab_bytes2] at p2
  rw [big_bytes] at p3
  have hof := fun w => cof_any ⟨5, 0, 0, 0, [97, 98]⟩ w
  have hof2 := fun w => cof_any ⟨5, 0, 0, 0, List.replicate 300 97⟩ w
  have hre := fun w => repeat_any [97] 300 w (by decide) (by decide)
  have hb := fun w => build61_t w ⟨#[97, 98]⟩
  have hb3 := fun w => build61_t w ⟨(List.replicate 300 97).toArray⟩
  have er : Lib.repeatL [97] 300 = List.replicate 300 97 := Lib.repeatL_replicate 97 1 300
  rw [er] at hre
  unfold PcPost at hof hof2
  have hp1 : pc ⟨2, ⟨5, 0, 0, 0, [97, 98]⟩⟩ = .agg #[.int .u8 2, .int .u8 5, .int .i64 0, .complex .f64 0 0, .string ⟨#[97, 98]⟩] := rfl
  have hp2 : pc ⟨2, ⟨5, 0, 0, 0, List.replicate 300 97⟩⟩ = .agg #[.int .u8 2, .int .u8 5, .int .i64 0, .complex .f64 0 0, .string ⟨(List.replicate 300 97).toArray⟩] := rfl
  have hv1 : pv ⟨5, 0, 0, 0, [97, 98]⟩ = .agg #[.int .u8 5, .int .i64 0, .complex .f64 0 0, .string ⟨#[97, 98]⟩] := rfl
  have hv2 : pv ⟨5, 0, 0, 0, List.replicate 300 97⟩ = .agg #[.int .u8 5, .int .i64 0, .complex .f64 0 0, .string ⟨(List.replicate 300 97).toArray⟩] := rfl
  have hs : strV (List.replicate 300 97) = .string ⟨(List.replicate 300 97).toArray⟩ := rfl
  have hs1 : strV [97] = .string ⟨#[97]⟩ := rfl
  rw [hp1] at p1 p2 hof
  rw [hp2] at p3 hof2
  rw [hv1] at hof
  rw [hv2] at hof2
  rw [hs, hs1] at hre
  generalize (⟨(List.replicate 300 97).toArray⟩ : ByteArray) = A at *
  have P1 := Lib.hid p1; have P2 := Lib.hid p2; have P3 := Lib.hid p3; have HOF := Lib.hid hof; have HOF2 := Lib.hid hof2; have HRE := Lib.hid hre; have HB3 := Lib.hid hb3
  clear p1 p2 p3 hof hof2 hre er hp1 hp2 hv1 hv2 hs hs1 hok hok2 hb3
  have hbw := hb w
  go_enter Try.func20, Try.ntmps20
  go_wp2_with fail
  refine (HOF.out _).mono ?_
  rintro e w1 ⟨rfl, hx⟩
  have hg := heap_alloc_new w1 (.cells #[.int .u8 0, .int .u8 0, .int .i64 0, .complex .f64 0 0, .string ⟨#[]⟩] 31)
  obtain ⟨W1, hW1⟩ : ∃ W1, W1 = (w1.alloc (.cells #[.int .u8 0, .int .u8 0, .int .i64 0, .complex .f64 0 0, .string ⟨#[]⟩] 31)).setRow w1.heap.size #[.int .u8 2, .int .u8 5, .int .i64 0, .complex .f64 0 0, .string ⟨#[97, 98]⟩] := ⟨_, rfl⟩
  have HX1 : Hid (Ext w W1) := Lib.hid (by rw [hW1]; exact (hx.alloc _).setRow (.inr hx.size) _)
  have hrow : W1.heap[w1.heap.size]? = some (.cells #[.int .u8 2, .int .u8 5, .int .i64 0, .complex .f64 0 0, .string ⟨#[97, 98]⟩] 31 (0, 0)) := by rw [hW1]; exact setRow_heap _ _ _ _ _ _ hg
  have HR1 := Lib.hid hrow
  have HW1 := Lib.hid hW1
  have HG := Lib.hid hg
  clear hx hrow hW1 hbw hb hg
  go_wp2_with (first
    | (refine wpList_store_rowTo rfl _ _ _ rfl rfl w1.heap.size #[.int .u8 2, .int .u8 5, .int .i64 0, .complex .f64 0 0, .string ⟨#[97, 98]⟩] rfl rfl _ _ HG.out infoPC rfl (by simp [Value.oneCell']) ?_; rw [← HW1.out])
    | (refine wpList_load_row rfl _ _ rfl w1.heap.size rfl _ _ _ _ HR1.out Try.underlying31 rfl infoPC ?_)
    | (go_at_call 21; refine (P1.out _).mono ?_))
  intro e w2 hm
  obtain ⟨s2, rfl, h2, r2⟩ := hm
  obtain ⟨a2, c2, rfl⟩ := r2.shape
  have HX2 := Lib.hid (HX1.out.trans h2); have HR2 := Lib.hid (heap_of_ext h2 HR1.out); have R2 := Lib.hid r2
  clear h2 r2
  go_wp2_with (first
    | (refine wpList_load_row rfl _ _ rfl w1.heap.size rfl _ _ _ _ HR2.out Try.underlying31 rfl infoPC ?_)
    | (go_at_call 21; refine (P2.out _).mono ?_))
  intro e w3 hm
  obtain ⟨s3, rfl, h3, r3⟩ := hm
  obtain ⟨a3, c3, rfl⟩ := r3.shape
  have HX3 := Lib.hid (HX2.out.trans h3); have R23 := Lib.hid (R2.out.ext h3); have R3 := Lib.hid r3
  clear h3 r3
  go_wp2_with (go_at_call 52; refine (HRE.out _).mono ?_)
  rintro e w4 ⟨rfl, h4⟩
  have hb4 := HB3.out w4
  have HX4 := Lib.hid (HX3.out.trans h4); have R24 := Lib.hid (R23.out.ext h4); have R34 := Lib.hid (R3.out.ext h4)
  clear h4
  go_wp2_with (go_at_call 19; refine (HOF2.out _).mono ?_)
  rintro e w5 ⟨rfl, h5⟩
  have HX5 := Lib.hid (HX4.out.trans h5); have R25 := Lib.hid (R24.out.ext h5); have R35 := Lib.hid (R34.out.ext h5)
  clear h5 hb4
  go_wp2_with (go_at_call 21; refine (P3.out _).mono ?_)
  intro e w6 hm
  obtain ⟨s6, rfl, h6, r6⟩ := hm
  obtain ⟨a6, c6, rfl⟩ := r6.shape
  have hs1 := run_toString (P := Try.prog) (R25.out.ext h6) (src := 45) (dst := 9) Try.underlying45 Try.underlying5 Try.underlying9
  have hs2 := run_toString (P := Try.prog) (R35.out.ext h6) (src := 45) (dst := 9) Try.underlying45 Try.underlying5 Try.underlying9
  have hx7 : Ext w6 (w6.alloc (.cells #[.int .u8 1, .int .u8 172, .int .u8 2] 5)) := (Ch.refl _ _).alloc _
  have hs3 := run_toString (P := Try.prog) (r6.ext hx7) (src := 45) (dst := 9) Try.underlying45 Try.underlying5 Try.underlying9
  have hs3' := run_toString (P := Try.prog) r6 (src := 45) (dst := 9) Try.underlying45 Try.underlying5 Try.underlying9
  have hs4 := run_toString (P := Try.prog) (rd_new w6 [1, 172, 2] 5 (by unfold maxLen; simp)) (src := 45) (dst := 9) Try.underlying45 Try.underlying5 Try.underlying9
  have HX7 := Lib.hid ((HX5.out.trans h6).trans hx7)
  have hb4 : cellsB [1, 172, 2] = [.int .u8 1, .int .u8 172, .int .u8 2] := rfl
  rw [hb4] at hs4
  unfold strV at hs1 hs2 hs3 hs3' hs4
  simp only [List.length_cons, List.length_nil, Nat.zero_add, Nat.reduceAdd] at hs1 hs2 hs3 hs3' hs4
  clear h6 r6 hx7 hb4
  go_wp2
  go_ret
  exact ⟨rfl, HX7.out⟩
end Go.Proofs.Yteechmgcjfnjbaa
