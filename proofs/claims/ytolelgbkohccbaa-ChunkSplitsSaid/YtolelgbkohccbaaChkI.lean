/-
  chunk: what the chapter's example says.
-/
import Derived.Test.YtolelgbkohccbaaChkC
import Derived.Test.YtolelgbkohccbaaChkE
import Derived.Deep.DeepMust
namespace Go.Proofs.Ytolelgbkohccbaa
open Go.RowKit Go.Lac

theorem repeat_length (c : Nat) : (Lib.repeatL [97] c).length = c := by rw [Lib.repeatL_length]; simp
theorem twoIn (w : World) : (Instr.buildSlice 32 2 #[(0, .int .i64 0), (1, .int .i64 512)]).run Try.prog w = .ok (.slice (some ⟨w.heap.size, 0, none⟩) 2 2) (w.alloc (.cells #[.int .i64 0, .int .i64 512] 3)) := by kernel_rfl
theorem ins_two (w : World) : InS (w.alloc (.cells #[.int .i64 0, .int .i64 512] 3)) (.slice (some ⟨w.heap.size, 0, none⟩) 2 2) [0, 512] := sl_row (heap_alloc_new w _) (by unfold maxLen; simp)
theorem txs_one (w : World) (q : List UInt8) : TxS (w.alloc (.cells #[strV q] 9)) (.slice (some ⟨w.heap.size, 0, none⟩) 1 1) [q] := sl_row (heap_alloc_new w _) (by unfold maxLen; simp)
set_option maxRecDepth 20000 in
set_option maxHeartbeats 1600000 in
theorem awake11_any (w : World) : Calls Try.prog 12 #[] w fun e w' => e = .returned (.bool true) ∧ Ext w w' := by
  have HR := Lib.hid (repeat_any [97] 300 w (by decide) (by decide))
  obtain ⟨x, hx⟩ : ∃ x, x = Lib.repeatL [97] 300 := ⟨_, rfl⟩
  have HXL : Hid (x.length = 300) := Lib.hid (by rw [hx, repeat_length])
  rw [← hx] at HR
  clear hx
  obtain ⟨ci, chi, chz, chs, chb⟩ := info_parts infoStr
  have CHI := Lib.hid chi; have CHS := Lib.hid chs
  clear chi chz chs chb
  unfold strV at HR
  go_enter Try.func12, Try.ntmps12
  go_wp2_with fail
  refine HR.out.mono ?_
  rintro e w1 ⟨rfl, hx1⟩
  have HX1 := Lib.hid hx1
  have hone := fun w => oneTx w ⟨x.toArray⟩
  have HSP := Lib.hid (split_any _ [x] _ (txs_one w1 x) (by simp) (by intro b hb; simp at hb; subst hb; rw [HXL.out]; decide))
  unfold strV at HSP
  clear hx1
  go_wp2_with fail
  refine HSP.out.mono ?_
  rintro e w2 ⟨v, rfl, hx2, ho2⟩
  have HX2 : Hid (Ext w w2) := Lib.hid ((HX1.out.alloc _).trans hx2)
  have hl : (splitL [x]).length = 2 := by simp [splitL, pcs_length, HXL.out, cnt]
  have hts : TxS w2 v (splitL [x]) := Sl.ofOwns ho2
  obtain ⟨so, sc, rfl⟩ := owns_shape ho2
  obtain ⟨b, o, rfl, c0⟩ := hts.at (j := 0) (by omega)
  obtain ⟨b', o', e, c1⟩ := hts.at (j := 1) (by omega)
  cases e
  have e0 : (splitL [x])[0]'(by omega) = piece x 0 := by simp [splitL, pcs]
  have e1 : (splitL [x])[1]'(by omega) = piece x 1 := by simp [splitL, pcs]
  rw [e0] at c0
  rw [e1] at c1
  have l0 := piece_length x 0
  have l1 := piece_length x 1
  rw [HXL.out] at l0 l1
  rw [hl]
  generalize piece x 0 = p0 at *
  generalize piece x 1 = p1 at *
  have L0 : ((p0.length : Nat) : Int) = 256 := by omega
  have L1 : ((p1.length : Nat) : Int) = 44 := by omega
  have b0 : (((p0.length : Nat) : Int) == 256) = true := by rw [L0]; rfl
  have b1 : (((p1.length : Nat) : Int) == 44) = true := by rw [L1]; rfl
  have hi0 := run_indexSl w2 Try.underlying22 CHI.out CHS.out b o 2 sc 0 (by omega)
  have hi1 := run_indexSl w2 Try.underlying22 CHI.out CHS.out b o 2 sc 1 (by omega)
  have htwo := fun w => twoIn w
  have HCC := Lib.hid (chunkCount_any _ [0, 512] _ (ins_two w2) (by simp) (by simp))
  clear l0 l1 L0 L1 hl hts ho2 e0 e1 hx2 hone
  unfold strV at c0 c1
  rw [Nat.add_zero] at c0
  go_wp2_with fail
  refine HCC.out.mono ?_
  rintro e w3 ⟨rfl, rfl⟩
  go_wp2
  go_ret
  exact ⟨rfl, HX2.out.alloc _⟩
end Go.Proofs.Ytolelgbkohccbaa
