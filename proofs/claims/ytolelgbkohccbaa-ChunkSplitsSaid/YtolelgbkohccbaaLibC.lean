/-
  A library of the verifier's own, over no program, third part: operations of a drawn region by what their operands read as.
-/
import Derived.Test.YtolelgbkohccbaaLib
import Derived.Test.YtolelgbkohccbaaLibB
import Derived.Deep.Quiet
namespace Go.Lac
open Go Go.RowKit

/-- v is a slice of slices that read as bss. -/
def Parts (w : World) (v : Value) (bss : List (List UInt8)) : Prop :=
  ∃ ao cap, v = .slice ao bss.length cap ∧ bss.length ≤ maxLen ∧ ∀ k (h : k < bss.length), ∃ b off u, ao = some ⟨b, off, none⟩ ∧ w.cell? ⟨b, off + k, none⟩ = some u ∧ Rd w u bss[k]
theorem Parts.ext {w w' : World} {v : Value} {bss : List (List UInt8)} (h : Parts w v bss) (k : Ext w w') : Parts w' v bss := by
  obtain ⟨ao, cap, h1, h2, h3⟩ := h
  refine ⟨ao, cap, h1, h2, fun j hj => ?_⟩
  obtain ⟨b, off, u, g1, g2, g3⟩ := h3 j hj
  exact ⟨b, off, u, g1, k.cell (fun f => f) u g2, g3.ext k⟩
/-- Slices of these bytes. -/
def Kn.parts (bss : List (List UInt8)) : Kn := ⟨fun v w => Parts w v bss, fun _ _ _ k h => h.ext k⟩
theorem parts_one {w : World} {v : Value} {bs : List UInt8} (h : Rd w v bs) (E : TypeId) : Parts (w.alloc (.cells #[v] E)) (.slice (some ⟨w.heap.size, 0, none⟩) 1 1) [bs] := by
  refine ⟨_, _, rfl, by unfold maxLen; simp, fun k hk => ⟨w.heap.size, 0, v, rfl, ?_, ?_⟩⟩
  · have hk0 : k = 0 := by simpa using hk
    subst hk0
    rw [cell_of_row _ _ _ _ _ _ (heap_alloc_new w _)]; rfl
  · have hk0 : k = 0 := by simpa using hk
    subst hk0
    exact h.ext ((Ch.refl _ _).alloc _)
theorem parts_two {w : World} {v v' : Value} {bs bs' : List UInt8} (h : Rd w v bs) (h' : Rd w v' bs') (E : TypeId) : Parts (w.alloc (.cells #[v, v'] E)) (.slice (some ⟨w.heap.size, 0, none⟩) 2 2) [bs, bs'] := by
  refine ⟨_, _, rfl, by unfold maxLen; simp, fun k hk => ?_⟩
  match k, hk with
  | 0, _ => exact ⟨w.heap.size, 0, v, rfl, by rw [cell_of_row _ _ _ _ _ _ (heap_alloc_new w _)]; rfl, h.ext ((Ch.refl _ _).alloc _)⟩
  | 1, _ => exact ⟨w.heap.size, 0, v', rfl, by rw [cell_of_row _ _ _ _ _ _ (heap_alloc_new w _)]; rfl, h'.ext ((Ch.refl _ _).alloc _)⟩
theorem parts_nil (w : World) : Parts w (.slice none 0 0) [] := ⟨_, _, rfl, by unfold maxLen; simp, fun k hk => absurd hk (by simp)⟩
theorem rd_nil (w : World) : Rd w (.slice none 0 0) [] :=
  ⟨none, 0, rfl, Nat.le_refl _, by unfold maxLen; simp, fun _ => rfl, fun x hx => by cases hx⟩

theorem bytes_cell {w : World} {v : Value} {l : List UInt8} (h : Rd w v l) {ao : Option Addr} {cap : Nat} (hv : v = .slice ao l.length cap) (h0 : 0 < l.length) :
    ∃ b off, ao = some ⟨b, off, none⟩ ∧ l.length ≤ cap ∧ cap ≤ maxLen ∧ ∀ j (hj : j < l.length), w.cell? ⟨b, off + j, none⟩ = some (.int .u8 (l[j].toNat : Nat)) := by
  obtain ⟨ao', cap', e, h1, h2, h3, h4⟩ := h
  rw [hv] at e
  simp only [Value.slice.injEq, true_and] at e
  obtain ⟨rfl, rfl⟩ := e
  cases ao with
  | none => have := h3 rfl; omega
  | some x =>
    obtain ⟨b, off, rfl, _⟩ := h4 x rfl 0 (cellB l[0]) (by simp [cellsB, h0])
    refine ⟨b, off, rfl, h1, h2, fun j hj => ?_⟩
    obtain ⟨b', off', e', h5⟩ := h4 _ rfl j (cellB l[j]) (by simp [cellsB, hj])
    cases e'
    exact h5

section
variable {P : Program} {w : World} {t e : TypeId} {inf : TypeInfo}
/-- A slice cut off behind. -/
theorem run_take (h : P.underlying t = some (.slice e)) (hinf : P.info? e = some inf) (hsz : inf.size = 1) {v : Value} {bs : List UInt8} (hr : Rd w v bs) (n : Nat) (hn : n ≤ bs.length) :
    ∃ v', (Instr.sliceAt t v none (some (.int .i64 (n : Nat))) none).run P w = .ok v' w ∧ Rd w v' (bs.take n) := by
  obtain ⟨ao, cap, rfl⟩ := hr.shape
  have hc : bs.length ≤ cap := by obtain ⟨_, _, g0, g1, _⟩ := hr; cases g0; exact g1
  have he := elem_eq h
  have h' : P.underlying t = some (.slice (P.elem t)) := by rw [he]; exact h
  have hs : sliced ao 0 n cap 1 = .slice ao n cap := by
    unfold sliced
    cases ao with
    | none => simp
    | some a => obtain ⟨b, off, s⟩ := a; simp [Addr.add]
  refine ⟨.slice ao n cap, ?_, hr.take n hn⟩
  rw [run_sliceAt_slice (h := h'), run_slice_h (ht := h') (h0 := by omega) (h2 := by omega), he]
  simp [sizeOf, typeInfo, hinf, hsz, hs]
/-- .. in front. -/
theorem run_drop (h : P.underlying t = some (.slice e)) (hinf : P.info? e = some inf) (hsz : inf.size = 1) {v : Value} {bs : List UInt8} (hr : Rd w v bs) (n : Nat) (hn : n ≤ bs.length) :
    ∃ v', (Instr.sliceAt t v (some (.int .i64 (n : Nat))) none none).run P w = .ok v' w ∧ Rd w v' (bs.drop n) := by
  obtain ⟨ao, cap, rfl⟩ := hr.shape
  have hcc := hr
  obtain ⟨_, _, g0, g1, g2, g3, g4⟩ := hcc
  cases g0
  have he := elem_eq h
  have h' : P.underlying t = some (.slice (P.elem t)) := by rw [he]; exact h
  refine ⟨sliced ao n bs.length cap 1, ?_, ?_⟩
  · rw [run_sliceAt_slice (h := h'), run_slice_l (ht := h') (h0 := by omega) (h1 := by omega), he]
    simp [sizeOf, typeInfo, hinf, hsz]
  · cases ao with
    | none =>
      have hc0 := g3 rfl
      have hb : bs = [] := List.eq_nil_of_length_eq_zero (by omega)
      subst hb
      obtain rfl : n = 0 := by simpa using hn
      subst hc0
      exact rd_nil w
    | some a =>
      by_cases hcn : cap = n
      · have hl : n = bs.length := by omega
        subst hl
        have hb : bs.drop bs.length = [] := List.drop_eq_nil_of_le (Nat.le_refl _)
        rw [hb]
        unfold sliced
        rw [if_pos hcn]
        refine ⟨some a, cap - bs.length, by simp, by simp, by omega, (fun h => by cases h), fun x _ j u hu => by simp [cellsB] at hu⟩
      · by_cases hb0 : bs.length = 0
        · have hb : bs = [] := List.eq_nil_of_length_eq_zero hb0
          subst hb
          obtain rfl : n = 0 := by simpa using hn
          unfold sliced
          rw [if_neg hcn]
          exact ⟨(some a).map (·.add (0 * 1)), cap - 0, rfl, Nat.zero_le _, g2, (fun h => by cases h), fun x _ j u hu => by simp [cellsB] at hu⟩
        · have h0 : (cellsB bs)[0]? = some (cellB (bs[0]'(by omega))) := by simp [cellsB, List.getElem?_eq_getElem (show 0 < bs.length by omega)]
          obtain ⟨b, off, ha, _⟩ := g4 a rfl 0 _ h0
          subst ha
          have := hr.drop n hn (some ⟨b, off + n, none⟩) (.inl rfl)
          unfold sliced
          rw [if_neg hcn]
          simpa [Addr.add_lit] using this

/-- .. on both sides. -/
theorem run_mid (h : P.underlying t = some (.slice e)) (hinf : P.info? e = some inf) (hsz : inf.size = 1) {v : Value} {bs : List UInt8} (hr : Rd w v bs) (l n : Nat) (hln : l ≤ n) (hn : n ≤ bs.length) :
    ∃ v', (Instr.sliceAt t v (some (.int .i64 (l : Nat))) (some (.int .i64 (n : Nat))) none).run P w = .ok v' w ∧ Rd w v' ((bs.take n).drop l) := by
  obtain ⟨ao, cap, rfl⟩ := hr.shape
  have hcc := hr
  obtain ⟨_, _, g0, g1, g2, g3, g4⟩ := hcc
  cases g0
  have he := elem_eq h
  have h' : P.underlying t = some (.slice (P.elem t)) := by rw [he]; exact h
  have ht := hr.take n hn
  have htl : (bs.take n).length = n := by rw [List.length_take]; omega
  rw [show Value.slice ao n cap = Value.slice ao (bs.take n).length cap by rw [htl]] at ht
  obtain ⟨v', r1, r2⟩ := run_drop h hinf hsz ht l (by omega)
  refine ⟨v', ?_, r2⟩
  rw [run_sliceAt_slice (h := h'), run_slice_l (ht := h') (h0 := by omega) (h1 := by omega), he] at r1
  rw [run_sliceAt_slice (h := h'), run_slice_lh (ht := h') (h0 := by omega) (h1 := by omega) (h2 := by omega), he]
  simpa [htl] using r1

theorem run_list_two (hu : P.underlying t = some (.slice e)) (hie : P.info? e = some inf) (hz : inf.zero = some (.slice none 0 0)) (hsz : inf.size = 1) (a : Option Addr) (len cap : Nat) (a' : Option Addr) (len' cap' : Nat) :
    (Instr.buildSlice t 2 #[(0, .slice a len cap), (1, .slice a' len' cap')]).run P w = .ok (.slice (some ⟨w.heap.size, 0, none⟩) 2 2) (w.alloc (.cells #[.slice a len cap, .slice a' len' cap'] e)) := by
  refine run_buildSlice w t e 2 _ _ inf _ hu hie hz (by rw [hsz]; decide) (by rw [hsz]; decide) ?_
  rw [hsz]
  simp [Instr.fill, Value.cells]
  rw [show Array.range 2 = #[0, 1] from rfl]
  simp
end

section
variable {P : Program} {ρ : Operand → Value} {o : Oper} {w : World} {T : Tmp → Kn} {d : Tmp} {t e : TypeId} {inf : TypeInfo}
theorem Exec.ktake {x y : Operand} {bs : List UInt8} {n : Nat} (ho : o.op = .slice t x none (some y) none) (hd : o.dst = some d) (h : P.underlying t = some (.slice e)) (hinf : P.info? e = some inf) (hsz : inf.size = 1)
    (hx : Rd w (ρ x) bs) (hy : ρ y = .int .i64 (n : Nat)) (hn : n ≤ bs.length) (hv : ∀ v, Rd w v (bs.take n) → (T d).holds v w) :
    Exec P ρ o w fun v w' => (∀ d, o.dst = some d → knV T d v w') ∧ Ext w w' := by
  obtain ⟨v', r1, r2⟩ := run_take (P := P) (t := t) h hinf hsz hx n hn
  exact Exec.same hd (by unfold execOp; rw [ho]; simp only [Option.map_some, Option.map_none, hy, Sem.run_bind, r1, Result.andThen_ok, Sem.run_pure]) (hv _ r2)
theorem Exec.kdrop {x y : Operand} {bs : List UInt8} {n : Nat} (ho : o.op = .slice t x (some y) none none) (hd : o.dst = some d) (h : P.underlying t = some (.slice e)) (hinf : P.info? e = some inf) (hsz : inf.size = 1)
    (hx : Rd w (ρ x) bs) (hy : ρ y = .int .i64 (n : Nat)) (hn : n ≤ bs.length) (hv : ∀ v, Rd w v (bs.drop n) → (T d).holds v w) :
    Exec P ρ o w fun v w' => (∀ d, o.dst = some d → knV T d v w') ∧ Ext w w' := by
  obtain ⟨v', r1, r2⟩ := run_drop (P := P) (t := t) h hinf hsz hx n hn
  exact Exec.same hd (by unfold execOp; rw [ho]; simp only [Option.map_some, Option.map_none, hy, Sem.run_bind, r1, Result.andThen_ok, Sem.run_pure]) (hv _ r2)
theorem Exec.kmid {x y z : Operand} {bs : List UInt8} {l n : Nat} (ho : o.op = .slice t x (some y) (some z) none) (hd : o.dst = some d) (h : P.underlying t = some (.slice e)) (hinf : P.info? e = some inf) (hsz : inf.size = 1)
    (hx : Rd w (ρ x) bs) (hy : ρ y = .int .i64 (l : Nat)) (hz : ρ z = .int .i64 (n : Nat)) (hl : l ≤ n) (hn : n ≤ bs.length) (hv : ∀ v, Rd w v ((bs.take n).drop l) → (T d).holds v w) :
    Exec P ρ o w fun v w' => (∀ d, o.dst = some d → knV T d v w') ∧ Ext w w' := by
  obtain ⟨v', r1, r2⟩ := run_mid (P := P) (t := t) h hinf hsz hx l n hl hn
  exact Exec.same hd (by unfold execOp; rw [ho]; simp only [Option.map_some, Option.map_none, hy, hz, Sem.run_bind, r1, Result.andThen_ok, Sem.run_pure]) (hv _ r2)
theorem Exec.klen {x : Operand} {bs : List UInt8} {ats : Array TypeId} (ho : o.op = .call { callee := .builtin .len, args := #[x], argTypes := #[t] }) (hd : o.dst = some d) (h : P.underlying t = some (.slice e))
    (hx : Rd w (ρ x) bs) (hv : (T d).holds (.int .i64 (bs.length : Nat)) w) :
    Exec P ρ o w fun v w' => (∀ d, o.dst = some d → knV T d v w') ∧ Ext w w' := by
  obtain ⟨ao, cap, hs⟩ := hx.shape
  have hu : ∀ w : World, (underlying t).run P w = .ok (.slice e) w := fun w => run_underlying h w
  refine Exec.same hd ?_ hv
  unfold execOp
  rw [ho]
  simp [resolve, invoke, builtin, hs, Builtin.len_, hu, Builtin.lenOf, goInt]
theorem Exec.kone {x : Operand} {bs : List UInt8} (ho : o.op = .buildSlice t 1 #[(0, x)]) (hd : o.dst = some d) (hu : P.underlying t = some (.slice e)) (hie : P.info? e = some inf) (hz : inf.zero = some (.slice none 0 0)) (hsz : inf.size = 1)
    (hx : Rd w (ρ x) bs) (hv : ∀ v w', Parts w' v [bs] → (T d).holds v w') :
    Exec P ρ o w fun v w' => (∀ d, o.dst = some d → knV T d v w') ∧ Ext w w' := by
  obtain ⟨a, cap, hs⟩ := hx.shape
  refine Exec.kalloc (v := .slice (some ⟨w.heap.size, 0, none⟩) 1 1) (ob := .cells #[ρ x] e) hd ?_ (hv _ _ (parts_one hx e))
  unfold execOp; rw [ho]
  simp only [List.map_toArray, List.map_cons, List.map_nil, hs, Sem.run_bind, run_list_one hu hie hz hsz a bs.length cap, Result.andThen_ok, Sem.run_pure]
theorem Exec.ktwo {x y : Operand} {bs bs' : List UInt8} (ho : o.op = .buildSlice t 2 #[(0, x), (1, y)]) (hd : o.dst = some d) (hu : P.underlying t = some (.slice e)) (hie : P.info? e = some inf) (hz : inf.zero = some (.slice none 0 0)) (hsz : inf.size = 1)
    (hx : Rd w (ρ x) bs) (hy : Rd w (ρ y) bs') (hv : ∀ v w', Parts w' v [bs, bs'] → (T d).holds v w') :
    Exec P ρ o w fun v w' => (∀ d, o.dst = some d → knV T d v w') ∧ Ext w w' := by
  obtain ⟨a, cap, hs⟩ := hx.shape
  obtain ⟨a', cap', hs'⟩ := hy.shape
  refine Exec.kalloc (v := .slice (some ⟨w.heap.size, 0, none⟩) 2 2) (ob := .cells #[ρ x, ρ y] e) hd ?_ (hv _ _ (parts_two hx hy e))
  unfold execOp; rw [ho]
  simp only [List.map_toArray, List.map_cons, List.map_nil, hs, hs', Sem.run_bind, run_list_two hu hie hz hsz a bs.length cap a' bs'.length cap', Result.andThen_ok, Sem.run_pure]
end

theorem run_strne {P : Program} (w : World) {t : TypeId} (h : P.underlying t = some .string) (a b : List UInt8) :
    (binOp .neq t (strV a) (strV b)).run P w = .ok (.bool (!decide (a = b))) w := by
  have e : (a == b) = decide (a = b) := by rw [Bool.eq_iff_iff]; simp
  simp only [strV, binOp, Op.stringOp, ByteArray.toList_mk, bne, e]
  rfl
theorem Exec.kstrne {P : Program} {ρ : Operand → Value} {o : Oper} {w : World} {T : Tmp → Kn} {d : Tmp} {t ty : TypeId} {x y : Operand} {a b : List UInt8} (ho : o.op = .binOp .neq t x y ty) (hd : o.dst = some d)
    (h : P.underlying t = some .string) (hx : ρ x = strV a) (hy : ρ y = strV b) (hv : (T d).holds (.bool (!decide (a = b))) w) :
    Exec P ρ o w fun v w' => (∀ d, o.dst = some d → knV T d v w') ∧ Ext w w' :=
  Exec.same (v := .bool (!decide (a = b))) hd (by
    unfold execOp; rw [ho]
    have hg : (eqGuard .neq t x y (strV a) (strV b)).run P w = .ok () w := by simp [eqGuard, strV]
    simp only [hx, hy, Sem.run_bind, hg, Result.andThen_ok, run_strne w h, Sem.run_pure]) hv

/-- A slice that was made is read. -/
theorem Made.rd {E : TypeId} {bs : List UInt8} {w w' : World} {e : Ending} (h : Made E bs w e w') : ∃ s, e = .returned s ∧ Ext w w' ∧ Rd w' s bs := by
  obtain ⟨s, h1, h2, h3⟩ := h
  exact ⟨s, h1, h2, Rd.ofOwns h3⟩
theorem Ext.drewN (w : World) (n : Nat) : Ext w (w.drewN n) := ⟨rfl, rfl, rfl, Nat.le_refl _, fun _ _ _ => rfl⟩
end Go.Lac
