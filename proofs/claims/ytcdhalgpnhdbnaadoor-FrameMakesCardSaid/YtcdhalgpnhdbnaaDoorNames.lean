/-
  The kinds' names: the program's table and the reference's list.
-/
import Derived.Test.YtcdhalgpnhdbnaaDoorProg
import Derived.Test.YtcdhalgpnhdbnaaDoorLib
import Derived.Test.YtcdhalgpnhdbnaaDoorLibC
import Derived.Test.YtcdhalgpnhdbnaaDoorLibD
import Derived.Test.YtcdhalgpnhdbnaaDoorInfo
import Derived.WalkKit
import Derived.Lib.Hide
import Derived.Outline
namespace Go.Proofs.YtcdhalgpnhdbnaaDoor
open Go.RowKit Go.Lac

/-- The kinds' names, from 0 on. -/
def nmL : List (List UInt8) := [[], [98, 101, 103, 105, 110], [114, 101, 108, 97, 116, 105, 111, 110], [112, 105, 101, 99, 101], [105, 110, 115, 101, 114, 116], [117, 112, 100, 97, 116, 101], [100, 101, 108, 101, 116, 101], [116, 114, 117, 110, 99, 97, 116, 101], [99, 111, 109, 109, 105, 116]]
def nmB (k : Nat) : List UInt8 := nmL.getD k []
def nmC : List Value := nmL.map strV
theorem nmC_length : nmC.length = 9 := rfl
theorem nmC_get (k : Nat) (h : k < 9) : nmC[k]? = some (strV (nmB k)) := by
  have hl : nmL.length = 9 := rfl
  unfold nmC nmB
  rw [List.getElem?_map, List.getD_eq_getElem?_getD, List.getElem?_eq_getElem (by omega)]
  rfl
theorem nmB_out (k : Nat) (h : 9 ≤ k) : nmB k = [] := by
  unfold nmB
  rw [List.getD_eq_getElem?_getD, List.getElem?_eq_none (by show 9 ≤ k; exact h)]
  rfl

theorem nine (w : World) : (Instr.buildSlice 32 9 #[(0, .string { data := #[] }), (1, .string { data := #[98, 101, 103, 105, 110] }), (2, .string { data := #[114, 101, 108, 97, 116, 105, 111, 110] }), (3, .string { data := #[112, 105, 101, 99, 101] }), (4, .string { data := #[105, 110, 115, 101, 114, 116] }), (5, .string { data := #[117, 112, 100, 97, 116, 101] }), (6, .string { data := #[100, 101, 108, 101, 116, 101] }), (7, .string { data := #[116, 114, 117, 110, 99, 97, 116, 101] }), (8, .string { data := #[99, 111, 109, 109, 105, 116] })]).run Tryd.prog w = .ok (.slice (some ⟨w.heap.size, 0, none⟩) 9 9) (w.alloc (.cells nmC.toArray 9)) := by kernel_rfl

set_option maxRecDepth 20000 in
set_option maxHeartbeats 800000 in
theorem names_any (w : World) : Calls Tryd.prog 7 #[] w fun e w' => ∃ v, e = .returned v ∧ Ext w w' ∧ Sl w' v 9 nmC := by
  have hpost : ∀ w', w' = w.alloc (.cells nmC.toArray 9) → ∃ v, Ending.returned (.slice (some ⟨w.heap.size, 0, none⟩) 9 9) = .returned v ∧ Ext w w' ∧ Sl w' v 9 nmC := by
    rintro w' rfl
    exact ⟨_, rfl, (Ch.refl _ w).alloc _, Sl.ofOwns (World.ownsRow_lit (base := w.heap.size) (size := 1) w nmC.toArray 9 (Nat.le_refl _) (by decide) (by simp [nmC_length]))⟩
  have HP := Lib.hid hpost
  clear hpost
  go_enter Tryd.func7, Tryd.ntmps7
  go_wp2
  go_ret
  exact HP.out _ rfl

set_option maxRecDepth 20000 in
set_option maxHeartbeats 800000 in
theorem name_any (k : Nat) (w : World) {E : TypeId} {F : Nat × Nat} (hk : k < 256) (hg : w.heap[0]? = some (.cells nmC.toArray E F)) :
    Calls Tryd.prog 10 #[.int .u8 (k : Nat)] w fun e w' => e = .returned (strV (nmB k)) ∧ w' = w := by
  by_cases h : 9 ≤ k
  · rw [nmB_out k h]
    clear hg
    go_enter Tryd.func10, Tryd.ntmps10
    go_wp2
    go_ret
    exact ⟨rfl, rfl⟩
  · have hc : w.cell? ⟨0, k, none⟩ = some (strV (nmB k)) := by
      rw [cell_of_row _ _ _ _ _ _ hg]
      simpa using nmC_get k (by omega)
    generalize nmB k = nb at *
    clear hg
    go_enter Tryd.func10, Tryd.ntmps10
    go_wp2
    go_ret
    exact ⟨rfl, rfl⟩
/-- A pointer to a cell that holds u. -/
def Kn.spot (u : Value) : Kn := ⟨fun v w => ∃ a, v = .pointer (some a) ∧ w.cell? a = some u, fun _ _ _ k h => by obtain ⟨a, h1, h2⟩ := h; exact ⟨a, h1, k.cell (fun f => f) u h2⟩⟩
/-- A record of two numbers and bytes. -/
def Kn.frm (x y : Nat) (p : List UInt8) : Kn := ⟨fun v w => ∃ s, v = .agg #[.int .u8 (x : Nat), .int .u8 (y : Nat), s] ∧ Rd w s p, fun _ _ _ k h => by obtain ⟨a, h1, h2⟩ := h; exact ⟨a, h1, h2.ext k⟩⟩
theorem run_indexSl8 {P : Program} (w : World) {t e : TypeId} {inf : TypeInfo} (h : P.underlying t = some (.slice e)) (hinf : P.info? e = some inf) (hsz : inf.size = 1) (b off len cap i : Nat) (hi : i < len) :
    (Instr.indexAt t (.slice (some ⟨b, off, none⟩) len cap) (.int .u8 (i : Int))).run P w = .ok (.pointer (some ⟨b, off + i, none⟩)) w := by
  have h1 : ((i : Nat) : Int) < (len : Int) := by omega
  simp [go_sem, h, hi, h1, sizeOf, typeInfo, hinf, hsz]
section
variable {P : Program} {ρ : Operand → Value} {o : Oper} {w : World} {T : Tmp → Kn} {d : Tmp} {t e : TypeId} {inf : TypeInfo}
/-- '&x[i]' of a list whose cells are known. -/
theorem Exec.kspot {x y : Operand} {i n : Nat} {cs : List Value} {u : Value} (ho : o.op = .indexAddr t x y) (hd : o.dst = some d) (h : P.underlying t = some (.slice e)) (hinf : P.info? e = some inf) (hsz : inf.size = 1)
    (hx : Sl w (ρ x) n cs) (hy : ρ y = .int .u8 (i : Int)) (hi : i < n) (hu : cs[i]? = some u) (hv : ∀ v, (Kn.spot u).holds v w → (T d).holds v w) :
    Exec P ρ o w fun v w' => (∀ d, o.dst = some d → knV T d v w') ∧ Ext w w' := by
  obtain ⟨ao, cap, e1, h1, h2, h3, h5⟩ := hx
  cases ao with
  | none => have := h3 rfl; omega
  | some a =>
    obtain ⟨b, off, rfl, hc⟩ := h5 a rfl i u hu
    exact Exec.same hd (by unfold execOp; rw [ho]; simp only [e1, hy, Sem.run_bind, run_indexSl8 w h hinf hsz b off n cap i hi, Result.andThen_ok, Sem.run_pure]) (hv _ ⟨_, rfl, hc⟩)
/-- What a pointer points at, a text. -/
theorem Exec.kloadspot {x : Operand} {bs : List UInt8} (ho : o.op = .load t x) (hd : o.dst = some d) (h : P.underlying t = some .string) (hx : (Kn.spot (strV bs)).holds (ρ x) w) (hv : (T d).holds (strV bs) w) :
    Exec P ρ o w fun v w' => (∀ d, o.dst = some d → knV T d v w') ∧ Ext w w' := by
  obtain ⟨a, hx, hc⟩ := hx
  refine Exec.same (v := strV bs) hd ?_ hv
  unfold execOp
  rw [ho]
  simp [go_sem, hx, hc, isAgg, run_underlying h]
end
theorem info44 : (Tryd.prog.info? 24).map (·.size) = some 3 := by kernel_rfl
theorem infoStr : ∃ i, Tryd.prog.info? 9 = some i ∧ i.size = 1 := ⟨_, rfl, rfl⟩
end Go.Proofs.YtcdhalgpnhdbnaaDoor
