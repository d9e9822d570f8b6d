/-
  crc.And, crc.Of.
-/
import Derived.Test.YtoggnmfjkbnopaaProg
import Derived.Test.YtoggnmfjkbnopaaLib
import Derived.Test.YtoggnmfjkbnopaaInfo
import Derived.Test.YtoggnmfjkbnopaaCrcM
import Derived.Test.YtoggnmfjkbnopaaCrcA
import Derived.Test.YtoggnmfjkbnopaaLibC
import Derived.WalkKit
import Derived.Lib.Hide
import Derived.Outline
import Derived.Great.BuildSlice
import Derived.Laws.BitsAllLaws
import Derived.Laws.Rows
namespace Go.Proofs.Ytoggnmfjkbnopaa
open Go.RowKit Go.Lac

theorem flatten_take_succ' (bss : List (List UInt8)) (k : Nat) (h : k < bss.length) : (bss.take (k + 1)).flatten = (bss.take k).flatten ++ bss[k] := by
  rw [List.take_succ_eq_append_getElem h, List.flatten_append]
  simp only [List.flatten_cons, List.flatten_nil, List.append_nil]

theorem u32_not (s : Nat) (h : s < 2 ^ 32) : bits .xor .u32 IntKind.u32.max (s : Int) = ((4294967295 - s : Nat) : Int) := by
  rw [show IntKind.u32.max = ((4294967295 : Nat) : Int) from rfl, u32_xor _ _ (by decide) h, Nat.xor_comm]
  have h1 := xor_compl (r := s) (by omega)
  congr 1
  rw [← h1, ← Nat.xor_assoc, Nat.xor_self, Nat.zero_xor]
  omega

set_option maxRecDepth 20000 in
set_option maxHeartbeats 800000 in
theorem and_any (s : Nat) (v : Value) (bss : List (List UInt8)) (w : World) (hs : s < 2 ^ 32) (h : Parts w v bss) :
    Calls Try.prog 105 #[.int .u32 (s : Nat), v] w fun e w' => e = .returned (.int .u32 (crcAnd s bss.flatten : Nat)) ∧ Ext w w' := by
  obtain ⟨ao, cap, rfl, hlen, hcell⟩ := h
  have HC := Lib.hid hcell; clear hcell
  unfold maxLen at hlen
  have hal := zeroTab
  have hnot := u32_not s hs
  have hand : crcAnd s bss.flatten = 4294967295 - crcReg (4294967295 - s) bss.flatten := rfl
  have HAND := Lib.hid hand; clear hand
  have hr0 : 4294967295 - s < 2 ^ 32 := by omega
  generalize 4294967295 - s = r0 at *
  have HR0 := Lib.hid hr0
  have HNOT := Lib.hid hnot
  clear hs hr0 hnot
  go_enter Try.func105, Try.ntmps105
  go_wp2_with fail
  refine (table_any _).mono ?_
  rintro e w1 ⟨rfl, hx⟩
  have HX := Lib.hid hx; clear hx
  have hT1 := tabV_size crcT
  have hT2 := tabV_one crcT
  generalize hT : tabV crcT = T at *
  have HT := Lib.hid hT; have HT1 := Lib.hid hT1; have HT2 := Lib.hid hT2; clear hT hT1 hT2
  have hnew := heap_alloc_new w1 (.cells (tabV fun _ => 0) 142)
  have HNEW := Lib.hid hnew; clear hnew
  go_wp2_with (refine wpList_store_rowTo rfl _ _ _ rfl rfl w1.heap.size T rfl rfl _ _ HNEW.out (by rw [infoTab, HT1.out]) (by rw [HT1.out, tabV_size]) HT2.out ?_)
  have hg : ((w1.alloc (.cells (tabV fun _ => 0) 142)).setRow w1.heap.size T).heap[w1.heap.size]? = some (.cells T 142 (0, 0)) := setRow_heap _ _ _ _ _ _ HNEW.out
  have hcl : ∀ x, x < 256 → ((w1.alloc (.cells (tabV fun _ => 0) 142)).setRow w1.heap.size T).cell? ⟨w1.heap.size, x, none⟩ = some (.int .u32 ((crcT x : Nat) : Int)) := fun x hx => by
    rw [cell_of_row _ _ _ _ _ _ hg, ← HT.out, tabV_get _ _ hx]
  have hext : Ext w ((w1.alloc (.cells (tabV fun _ => 0) 142)).setRow w1.heap.size T) := chSetRow (HX.out.alloc _) HX.out.size _
  have HCL := Lib.hid hcl; have HEXT := Lib.hid hext
  generalize (w1.alloc (.cells (tabV fun _ => 0) 142)).setRow w1.heap.size T = w2 at *
  generalize w1.heap.size = gt at *
  clear hg hcl hext HNEW HX HT HT1 HT2 hal
  go_loop [6, 16] (fun r i => ∃ k : Nat, k ≤ bss.length ∧ i = .int .i64 (k : Nat) ∧ r = .int .u32 ((crcReg r0 (bss.take k).flatten : Nat) : Int)) (fun _ i => bss.length - (intOf i).toNat)
  case atStart => exact ⟨0, Nat.zero_le _, rfl, by rw [HNOT.out]; simp [crcReg]⟩
  case round =>
    obtain ⟨k, hk, rfl, rfl⟩ := hrel
    by_cases hlt : k < bss.length
    · obtain ⟨b, off, u, rfl, hc, hrd⟩ := HC.out k hlt
      have hc2 := HEXT.out.cell (p := ⟨b, off + k, none⟩) (fun f => f) _ hc
      have hrd2 := hrd.ext HEXT.out
      obtain ⟨a2, c2, rfl⟩ := hrd2.shape
      have hfl := flatten_take_succ' bss k hlt
      have hR := crcReg_lt (bss.take k).flatten HR0.out
      have hln2 : (bss[k]'hlt).length ≤ maxLen := by obtain ⟨_, _, _, g1, g2, _⟩ := hrd2; omega
      have HRD := Lib.hid hrd2; have HFL := Lib.hid hfl; have HR := Lib.hid hR; clear hc hrd hrd2 hfl hR HC HAND
      have HNX : Hid (crcReg r0 (bss.take (k + 1)).flatten = crcReg (crcReg r0 (bss.take k).flatten) (bss[k]'hlt)) := Lib.hid (by rw [HFL.out, crcReg_append])
      generalize crcReg r0 (bss.take k).flatten = R at *
      generalize (bss[k]'hlt) = p at *
      clear HFL
      unfold maxLen at hln2
      have hkb : (k : Int) + 1 ≤ bss.length := by omega
      generalize hbl : bss.length = bl at *
      have HBL := Lib.hid hbl; clear hbl
      go_wp2
      go_loop [6, 22] (fun r i => ∃ j : Nat, j ≤ p.length ∧ i = .int .i64 (j : Nat) ∧ r = .int .u32 ((crcReg R (p.take j) : Nat) : Int)) (fun _ i => p.length - (intOf i).toNat)
      case atStart => exact ⟨0, Nat.zero_le _, rfl, by simp [crcReg]⟩
      case round =>
        obtain ⟨j, hj, rfl, rfl⟩ := hrel
        by_cases hltj : j < p.length
        · obtain ⟨b3, off3, rfl, g1, g2, g3⟩ := bytes_cell HRD.out rfl (by omega)
          have hcj := g3 j hltj
          have hq := crcReg_lt (p.take j) HR.out
          have hnx := crcReg_take R p j hltj
          rw [crcByte_table] at hnx
          have hx8 := (p[j]).toNat_lt
          generalize crcReg R (p.take j) = q at *
          have HNX2 := Lib.hid hnx; clear hnx
          generalize hpx : (p[j]).toNat = x at *
          have hy : q % 256 ^^^ x < 256 := Nat.xor_lt_two_pow (n := 8) (by omega) hx8
          have hb1 : bits .xor .u8 ((q : Int) % 256) (x : Int) = ((q % 256 ^^^ x : Nat) : Int) := u8_xor_nat (q % 256) x (by omega) hx8
          have hcy := HCL.out _ hy
          have hb2 : bits .xor .u32 ((q : Int) / 256) ((crcT (q % 256 ^^^ x) : Nat) : Int) = ((q / 256 ^^^ crcT (q % 256 ^^^ x) : Nat) : Int) := u32_xor (q / 256) _ (by omega) (crcT_lt hy)
          unfold maxLen at g2
          generalize q % 256 ^^^ x = y at *
          have HB2 := Lib.hid hb2
          rw [← HNX2.out] at hb2
          clear hpx g3 HRD HB2 hq
          go_wp2
          go_round
          case rel => exact ⟨j + 1, by omega, by go_num, rfl⟩
          case measure => simp [intOf]; omega
        · have hjl : j = p.length := by omega
          subst hjl
          have hfull : p.take p.length = p := List.take_of_length_le (Nat.le_refl _)
          rw [hfull, ← HNX.out]
          clear hfull HNX
          go_wp2
          go_round
          case rel => exact ⟨k + 1, by omega, by go_num, rfl⟩
          case measure => simp [intOf]; omega
    · have hkl : k = bss.length := by omega
      subst hkl
      have hfull : bss.take bss.length = bss := List.take_of_length_le (Nat.le_refl _)
      rw [hfull]
      have hlast := u32_not (crcReg r0 bss.flatten) (crcReg_lt _ HR0.out)
      rw [← HAND.out] at hlast
      clear hfull HC
      go_wp2
      go_ret
      exact ⟨rfl, HEXT.out⟩
end Go.Proofs.Ytoggnmfjkbnopaa
