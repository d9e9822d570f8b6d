/-
  CellBack: the walk. MADE BY mkCeBack.py
-/
import Derived.Test.YteechmgcjfnjbaaCelQ
import Derived.Test.YteechmgcjfnjbaaCelG
import Derived.Test.YteechmgcjfnjbaaCelI
import Derived.Test.YteechmgcjfnjbaaCePutsW
import Derived.Deep.MidRow
namespace Go.Proofs.Yteechmgcjfnjbaa
open Go.RowKit Go.Lac

theorem run_rcneq (a b : Cel) (w : World) : (binOp .neq 26 (rc a) (rc b)).run Try.prog w = .ok (.bool (!decide (a = b))) w := by
  have h := run_rceq a b w
  unfold rc at *
  rw [run_eql_struct] at h
  rw [run_neq_struct]
  cases hX : (Op.equalIn 10000 26 (.agg (rcv a)) (.agg (rcv b))).run Try.prog w with
  | ok b' w' =>
    rw [hX] at h
    simp only [Result.andThen_ok] at h ⊢
    cases h
    rfl
  | _ =>
    rw [hX] at h
    simp [Result.andThen] at h
theorem Exec.krcneq {ρ : Operand → Value} {o : Oper} {w : World} {T : Tmp → Kn} {d : Tmp} {ty : TypeId} {x y : Operand} {a b : Cel} (ho : o.op = .binOp .neq 26 x y ty) (hd : o.dst = some d)
    (hx : ρ x = rc a) (hy : ρ y = rc b) (hv : (T d).holds (.bool (!decide (a = b))) w) :
    Exec Try.prog ρ o w fun v w' => (∀ d, o.dst = some d → knV T d v w') ∧ Ext w w' :=
  Exec.same (v := .bool (!decide (a = b))) hd (by
    unfold execOp; rw [ho]
    have hg : (eqGuard .neq 26 x y (rc a) (rc b)).run Try.prog w = .ok () w := run_eqGuard_agg w _ _ _ _ _ _ (by kernel_rfl)
    simp only [hx, hy, Sem.run_bind, hg, Result.andThen_ok, run_rcneq, Sem.run_pure]) hv
def backPT (g1 g2 : Nat) (L : List UInt8) (c : Cel) (kind ver : Nat) : Tmp → Kn
  | 39 => .is (rc c)
  | 40 => .is (pc c)
  | 41 => .is (.pointer (some ⟨g2, 0, none⟩))
  | 42 => .is (.int .u8 (kind : Nat))
  | 43 => .is (.pointer (some ⟨g2, 1, none⟩))
  | 44 => .is (.int .u8 (ver : Nat))
  | 45 => Kn.tup L 0
  | 38 => Kn.tup L 0
  | 46 => .rd L
  | 47 => .is (.int .i64 ((0 : Nat) : Int))
  | 7 => .rd L
  | 8 => .is (.int .i64 ((0 : Nat) : Int))
  | _ => .any
def backCT (c : Cel) : Tmp → Kn
  | 100 => .is (pc c)
  | 101 => .is (rc c)
  | 102 => .is (rc c)
  | 103 => .is (.bool false)
  | _ => .any
theorem cOut_small {c : Cel} (h : cLarge c = false) : cOut c = c ∧ cLen c = 0 := by unfold cOut cLen; rw [h]; exact ⟨rfl, rfl⟩
theorem cOut_large {c : Cel} {kind : Nat} (he : cErr c kind = 0) (h : cLarge c = true) : cOut c = bigC c.v.ty ∧ cLen c = c.v.t.length ∧ 64 < c.v.t.length ∧ c = ⟨2, ⟨c.v.ty, 0, 0, 0, c.v.t⟩⟩ := by
  have h1 := h
  unfold cLarge at h1
  simp only [Bool.and_eq_true, decide_eq_true_eq] at h1
  obtain ⟨e1, e2, e3, e4, e5, e6⟩ := cErr_zero he
  have ht := textual (e6 h1.1.1).1 h1.1.2
  refine ⟨by unfold cOut; rw [h, if_pos rfl], by unfold cLen; rw [h, if_pos rfl], h1.2, ?_⟩
  obtain ⟨k, v⟩ := c
  simp only at *
  rw [← ht.1, h1.1.1]
theorem endR_none {s : RS} (h : endR s = 0) : s.2 = 0 ∧ s.1 = [] := by
  unfold endR at h
  split at h
  · cases h
  · rename_i hn
    refine ⟨h, ?_⟩
    cases hl : s.1 with
    | nil => rfl
    | cons x l => exact absurd ⟨h, by rw [hl]; simp⟩ hn
theorem big_text {c : Cel} (h : c = ⟨2, ⟨c.v.ty, 0, 0, 0, c.v.t⟩⟩) : (pcv (bigC c.v.ty)).setIfInBounds 4 (.string ⟨c.v.t.toArray⟩) = pcv c := by
  rw [show pcv c = pcv ⟨2, ⟨c.v.ty, 0, 0, 0, c.v.t⟩⟩ from congrArg pcv h]; rfl
theorem fill_len {C : Cel} {N kind : Nat} (h : cErr (fillC C N) kind = 0) : C.v.t.length + N ≤ 2048 := by
  obtain ⟨e1, e2, e3, e4, e5, e6⟩ := cErr_zero h
  have hl : (fillC C N).v.t.length = C.v.t.length + N := by simp [fillC]
  by_cases h2 : (fillC C N).k = 2
  · obtain ⟨_, _, _, _, _, _, _, h8, _⟩ := vErr_zero (e6 h2).1
    omega
  · have := e4 (by omega)
    rw [this] at hl
    simp [Val.zero] at hl
    omega
theorem bytes_snoc (l : List UInt8) (x : UInt8) : (⟨l.toArray⟩ : ByteArray) ++ ⟨#[x]⟩ = ⟨(l ++ [x]).toArray⟩ := by
  apply ByteArray.ext
  simp
theorem fill_text (C : Cel) (i : Nat) : (pcv (fillC C i)).setIfInBounds 4 (.string ((⟨(fillC C i).v.t.toArray⟩ : ByteArray) ++ ⟨#[97]⟩)) = pcv (fillC C (i + 1)) := by
  rw [bytes_snoc]
  have : (fillC C i).v.t ++ [97] = (fillC C (i + 1)).v.t := by
    simp [fillC, List.replicate_succ']
  rw [this]
  rfl
def LoopRel (b : Nat) (c : Cel) (n : Nat) (w : World) (ix : Value) (wr : World) : Prop :=
  ∃ i : Nat, i ≤ n ∧ ix = .int .i64 (i : Nat) ∧ Ext w wr ∧ wr.heap[b]? = some (.cells (pcv (fillC c i)) 31 (0, 0))

set_option maxRecDepth 20000 in
set_option maxHeartbeats 6000000 in
theorem cellBack_walk (c : Cel) (kind v0 : Nat) (vb : Value) (b : List UInt8) (w0 : World) (hc : c.ok) (hk : kind < 256) (hb : Rd w0 vb b) :
    Calls Try.prog 6 #[rc c, .agg #[.int .u8 (kind : Nat), .int .u8 (v0 : Nat)], vb] w0 fun e w' => e = .returned (.bool true) ∧ Ext w0 w' := by
  obtain ⟨ao, cap, rfl⟩ := hb.shape
  obtain ⟨q, hq⟩ : ∃ q, q = v0 % 2 := ⟨_, rfl⟩
  obtain ⟨ver, hver⟩ : ∃ ver, ver = 1 + q := ⟨_, rfl⟩
  have hv12 : ver = 1 ∨ ver = 2 := by omega
  have hm1 : (v0 : Int).tmod 2 = (q : Int) := by rw [hq]; rfl
  have hm2 : (v0 : Int) % 2 = (q : Int) := by rw [hq]; rfl
  have hw1 : IntKind.u8.wrap (q : Int) = (q : Int) := by rw [IntKind.wrap_u8]; omega
  have hw2 : IntKind.u8.wrap (1 + (q : Int)) = (ver : Int) := by rw [IntKind.wrap_u8]; omega
  have HV12 := Lib.hid hv12
  clear hq hver hv12
  obtain ⟨W2, hW2⟩ : ∃ W2, W2 = (w0.alloc (.cells (rcv c) 26)).alloc (.cells #[.int .u8 (kind : Nat), .int .u8 (ver : Nat)] 44) := ⟨_, rfl⟩
  have hx2 : Ext w0 W2 := by rw [hW2]; exact ((Ch.refl _ _).alloc _).alloc _
  have HP := Lib.hid (show RRow W2 w0.heap.size c by rw [hW2]; exact heap_alloc2_old _ _ _)
  have HQ := Lib.hid (show W2.heap[w0.heap.size + 1]? = some (.cells #[.int .u8 (kind : Nat), .int .u8 (ver : Nat)] 44 (0, 0)) by rw [hW2]; exact heap_alloc2_new _ _ _)
  have HX2 := Lib.hid hx2; have HW2 := Lib.hid hW2
  have HB2 := Lib.hid (hb.ext hx2)
  have hbl : b.length ≤ maxLen := by obtain ⟨_, _, _, g1, g2, _⟩ := hb; omega
  unfold maxLen at hbl
  obtain ⟨c0, l1, l2, l3, l4, l5⟩ := HP.out.cells
  unfold strV at l5
  have p2 : W2.cell? ⟨w0.heap.size + 1, 0, none⟩ = some (.int .u8 (kind : Nat)) := by rw [cell_of_row _ _ _ _ _ _ HQ.out]; rfl
  rw [hW2] at c0 l1 l2 l3 l4 l5 p2
  have HOA := Lib.hid (own7_any c); have HBA := Lib.hid (back7_any c)
  have HRI := Lib.hid (rright7_any c kind)
  have HB0 := Lib.hid hb
  have HCK := Lib.hid hc; have HKK := Lib.hid hk
  have hia : rc c = .agg (rcv c) := rfl
  rw [hia]
  clear hia hx2 hW2 hb hc hk
  generalize hnb : b.length = nb at *
  have HNB := Lib.hid hnb
  clear hnb
  have HEN : Hid (cErr c kind = 0 → c.k ≠ 0 → (cBytes ver c).length ≤ 2200) := Lib.hid fun h1 h2 => cBytes_len (kind := kind) HCK.out h1 h2
  go_enter Try.func6, Try.ntmps6
  go_wp2_with (go_at_call 14; refine (HRI.out _).mono ?_)
  intro e w3 hm
  obtain ⟨rfl, hx⟩ := hm
  rw [← HW2.out] at hx
  have HX3 := Lib.hid (HX2.out.trans hx); have HP3 := Lib.hid (HP.out.ext hx); have HQ3 := Lib.hid (heap_of_ext hx HQ.out); have HB3 := Lib.hid (HB2.out.ext hx)
  clear c0 l1 l2 l3 l4 l5 p2 hx hm1 hm2 hw1 hw2
  obtain ⟨c0, l1, l2, l3, l4, l5⟩ := HP3.out.cells
  unfold strV at l5
  by_cases he : cErr c kind = 0
  case neg =>
    have e1 : (((cErr c kind : Nat) : Int) != 0) = true := by simp; omega
    generalize cErr c kind = E at *
    clear he
    go_wp2
    go_ret
    exact ⟨rfl, HX3.out⟩
  have HE0 := Lib.hid he
  rw [he]
  clear he
  by_cases hck : c.k = 0
  · have e1 : ((((c.k : Nat) : Int)) == 0) = true := by rw [hck]; rfl
    clear hck
    generalize c.k = K at *
    go_wp2
    go_ret
    exact ⟨rfl, HX3.out⟩
  have e1 : ((((c.k : Nat) : Int)) == 0) = false := by simp; omega
  have HCK0 := Lib.hid hck
  clear hck
  by_cases hln : 300 < nb
  · generalize c.k = K at *
    go_wp2
    go_ret
    exact ⟨rfl, HX3.out⟩
  have HLN := Lib.hid hln
  have hput := cput_ok c kind ver HV12.out HCK.out HE0.out HCK0.out
  obtain ⟨L, hL⟩ : ∃ L, L = cBytes ver c := ⟨_, rfl⟩
  have HLL := Lib.hid hL
  have HL22 : Hid (L.length ≤ 2200) := Lib.hid (by rw [hL]; exact HEN.out HE0.out HCK0.out)
  rw [← hL] at hput
  have HPUT := Lib.hid hput
  have HTK : Hid (cTake ver kind (L, 0) = ((cOut c, cLen c), ([], 0))) := Lib.hid (by have := cTake_put (rest := []) HV12.out HCK.out HE0.out HCK0.out; rwa [List.append_nil, ← hL] at this)
  clear hL hput
  go_wp2
  refine wp_region_ext (backPT w0.heap.size (w0.heap.size + 1) L c kind ver) mixedV (by rfl) (by rfl) ?all ?fin
  case all =>
    refine ⟨?_, ?_, ?_, ?_, ?_, ?_, ?_, ?_, ?_, ?_, ?_, ?_, trivial⟩
    · refine StepOK.plain (kn_stable _) rfl fun ρ w hρ hw hf => ?_
      have h3 : ρ (.tmp 3) = .pointer (some ⟨w0.heap.size, 0, none⟩) := (hf 3).2 rfl rfl
      exact Exec.kloadmid rfl rfl h3 (HP3.out.ext hw).whole rfl
    · refine StepOK.plain (kn_stable _) rfl fun ρ w hρ hw hf => ?_
      have h39 : ρ (.tmp 39) = rc c := (hf 39).1 rfl
      exact Exec.kcall #[rc c] hρ rfl rfl (by simp [h39]) Try.func12 (by rfl) (by rfl) ((HOA.out w).mono (by rintro e w' ⟨rfl, hx⟩; exact ⟨_, rfl, rfl, hx⟩))
    · refine StepOK.plain (kn_stable _) rfl fun ρ w hρ hw hf => ?_
      have h4 : ρ (.tmp 4) = .pointer (some ⟨w0.heap.size + 1, 0, none⟩) := (hf 4).2 rfl rfl
      exact Exec.kfield rfl rfl h4 (fieldPl_0 w _) rfl
    · refine StepOK.plain (kn_stable _) rfl fun ρ w hρ hw hf => ?_
      have h41 : ρ (.tmp 41) = .pointer (some ⟨w0.heap.size + 1, 0, none⟩) := (hf 41).1 rfl
      have hc : w.cell? ⟨w0.heap.size + 1, 0, none⟩ = some (.int .u8 (kind : Nat)) := by rw [cell_of_row _ _ _ _ _ _ (heap_of_ext hw HQ3.out)]; rfl
      exact Exec.same (v := .int .u8 (kind : Nat)) rfl (by simp [go_sem, hρ.const, h41, hc]) rfl
    · refine StepOK.plain (kn_stable _) rfl fun ρ w hρ hw hf => ?_
      have h4 : ρ (.tmp 4) = .pointer (some ⟨w0.heap.size + 1, 0, none⟩) := (hf 4).2 rfl rfl
      exact Exec.kfield rfl rfl h4 (fieldPl_1 w _) rfl
    · refine StepOK.plain (kn_stable _) rfl fun ρ w hρ hw hf => ?_
      have h43 : ρ (.tmp 43) = .pointer (some ⟨w0.heap.size + 1, 1, none⟩) := (hf 43).1 rfl
      have hc : w.cell? ⟨w0.heap.size + 1, 1, none⟩ = some (.int .u8 (ver : Nat)) := by rw [cell_of_row _ _ _ _ _ _ (heap_of_ext hw HQ3.out)]; rfl
      exact Exec.same (v := .int .u8 (ver : Nat)) rfl (by simp [go_sem, hρ.const, h43, hc]) rfl
    · refine StepOK.plain (kn_stable _) rfl fun ρ w hρ hw hf => ?_
      have h40 : ρ (.tmp 40) = pc c := (hf 40).1 rfl
      have h42 : ρ (.tmp 42) = .int .u8 (kind : Nat) := (hf 42).1 rfl
      have h44 : ρ (.tmp 44) = .int .u8 (ver : Nat) := (hf 44).1 rfl
      exact Exec.kcall #[.slice none 0 0, pc c, .int .u8 (kind : Nat), .int .u8 (ver : Nat)] hρ rfl rfl (by simp [hρ.const, h40, h42, h44]) Try.func21 (by rfl) (by rfl) ((HPUT.out w).mono (by rintro e w' ⟨s, rfl, hx, hr⟩; exact ⟨_, rfl, ⟨s, rfl, hr⟩, hx⟩))
    · refine StepOK.plain (kn_stable _) rfl fun ρ w hρ hw hf => ?_
      have h45 : (Kn.tup L 0).holds (ρ (.tmp 45)) w := (hf 45).1 rfl
      exact Exec.kmove rfl rfl h45
    · refine StepOK.plain (kn_stable _) rfl fun ρ w hρ hw hf => ?_
      have h38 : (Kn.tup L 0).holds (ρ (.tmp 38)) w := (hf 38).1 rfl
      obtain ⟨s, h1, h2⟩ := h38
      exact Exec.same (v := s) rfl (by simp [go_sem, h1]) h2
    · refine StepOK.plain (kn_stable _) rfl fun ρ w hρ hw hf => ?_
      have h38 : (Kn.tup L 0).holds (ρ (.tmp 38)) w := (hf 38).1 rfl
      obtain ⟨s, h1, h2⟩ := h38
      exact Exec.same (v := .int .i64 ((0 : Nat) : Int)) rfl (by simp [go_sem, h1]) rfl
    · refine StepOK.plain (kn_stable _) rfl fun ρ w hρ hw hf => ?_
      have h46 : Rd w (ρ (.tmp 46)) L := (hf 46).1 rfl
      exact Exec.kassign rfl rfl h46
    · refine StepOK.plain (kn_stable _) rfl fun ρ w hρ hw hf => ?_
      have h47 : ρ (.tmp 47) = .int .i64 ((0 : Nat) : Int) := (hf 47).1 rfl
      exact Exec.kassign rfl rfl h47
  case fin =>
  intro ν w4 hfin hext
  have h7 : Rd w4 (ν 7) L := hfin 10 7 rfl
  have h8 : ν 8 = .int .i64 ((0 : Nat) : Int) := hfin 11 8 rfl
  obtain ⟨a1, c1, h7s⟩ := h7.shape
  simp only [Exit.then, ended, List.foldl_cons, List.foldl_nil, List.setIfInBounds_toArray, List.set_cons_succ, List.set_cons_zero, h7s, h8]
  rw [h7s] at h7
  have HX4 := Lib.hid (HX3.out.trans hext); have HP4 := Lib.hid (HP3.out.ext hext); have HQ4 := Lib.hid (heap_of_ext hext HQ3.out); have HB4 := Lib.hid (HB3.out.ext hext)
  have HR4 := Lib.hid h7
  have HRD := Lib.hid (read_any _ L w4 h7 (by have := HL22.out; omega))
  clear hfin hext h7 h8 h7s c0 l1 l2 l3 l4 l5 e1 hln hbl
  generalize L.length = ll at *
  go_wp2_with (go_at_call 23; refine HRD.out.mono ?_)
  rintro e w5 ⟨r, rfl, hx, h5, hge⟩
  have HX5 := Lib.hid (HX4.out.trans hx); have HP5 := Lib.hid (HP4.out.ext hx); have HQ5 := Lib.hid (heap_of_ext hx HQ4.out); have H5 := Lib.hid h5
  have HGE := Lib.hid hge
  have HRD2 := Lib.hid (read_any _ b w5 (HB4.out.ext hx) (by have := HNB.out; have := HLN.out; omega))
  clear hx h5 hge HRD
  unfold RPtr at *
  go_wp2_with (go_at_call 23; refine HRD2.out.mono ?_)
  rintro e w6 ⟨s, rfl, hx, h6, hge⟩
  have HX6 := Lib.hid (HX5.out.trans hx); have HP6 := Lib.hid (HP5.out.ext hx); have HQ6 := Lib.hid (heap_of_ext hx HQ5.out); have H6 := Lib.hid (H5.out.ext hx); have HS6 := Lib.hid h6
  have HGS := Lib.hid hge
  clear hx h6 hge HRD2
  unfold RPtr at *
  have p0 : w6.cell? ⟨w0.heap.size + 1, 0, none⟩ = some (.int .u8 (kind : Nat)) := by rw [cell_of_row _ _ _ _ _ _ HQ6.out]; rfl
  have p1 : w6.cell? ⟨w0.heap.size + 1, 1, none⟩ = some (.int .u8 (ver : Nat)) := by rw [cell_of_row _ _ _ _ _ _ HQ6.out]; rfl
  have HT := Lib.hid (cTake_any r (L, 0) kind ver w6 H6.out)
  have HGR : Hid (w0.heap.size + 1 < r ∧ r < s ∧ w0.heap.size + 2 ≤ r) := Lib.hid ⟨by
    have h1 := (Array.getElem?_eq_some_iff.1 HQ4.out).1
    have h2 := HGE.out
    omega, by have h1 := H5.out.lt; have h2 := HGS.out; omega, by
    have h1 := (Array.getElem?_eq_some_iff.1 HQ4.out).1
    have h2 := HGE.out
    omega⟩
  rw [HTK.out] at HT
  have HLA := Lib.hid (rlarge_any c)
  clear HTK
  unfold CtPost at HT
  simp only at HT
  cases hcl : cLarge c with
  | false =>
    obtain ⟨hco, hcn⟩ := cOut_small hcl
    rw [hco, hcn] at HT
    rw [hcl] at HLA
    clear hco hcn hcl
    go_wp2_with (go_at_call 24; refine HT.out.mono ?_)
    intro e w7 hm
    obtain ⟨rfl, k1, k2⟩ := hm
    have HX7 : Hid (Ext w0 w7) := Lib.hid (Ch.transNew HX6.out (k1.mono fun i _ h => .inr (by have h1 := HGR.out.1; omega)))
    have HP7 : Hid (RRow w7 w0.heap.size c) := Lib.hid (heap_of_only k1 (by have := HGR.out.1; omega) HP6.out)
    have HQ7 := Lib.hid (heap_of_only k1 (by have := HGR.out.1; omega) HQ6.out)
    have H7 := Lib.hid k2; have HS7 := Lib.hid (HS6.out.other H6.out (by have := HGR.out.2.1; omega) k1)
    clear k1 k2 p0 p1 HT
    have hk0 := heap_alloc_new w7 (.cells #[.int .u8 0, .int .u8 0, .int .i64 0, .complex .f64 0 0, .string ⟨#[]⟩] 31)
    obtain ⟨W8, hW8⟩ : ∃ W8, W8 = (w7.alloc (.cells #[.int .u8 0, .int .u8 0, .int .i64 0, .complex .f64 0 0, .string ⟨#[]⟩] 31)).setRow w7.heap.size (pcv c) := ⟨_, rfl⟩
    have hx8 : Ext w7 W8 := by rw [hW8]; exact ((Ch.refl _ _).alloc _).setRow (.inr (Nat.le_refl _)) _
    have HD8 : Hid (PRow W8 w7.heap.size c) := Lib.hid (by rw [hW8]; exact setRow_heap _ _ _ _ _ _ hk0)
    have HX8 := Lib.hid (HX7.out.trans hx8); have HP8 := Lib.hid (HP7.out.ext hx8); have HQ8 := Lib.hid (heap_of_ext hx8 HQ7.out); have H8 := Lib.hid (H7.out.ext hx8); have HS8 := Lib.hid (HS7.out.ext hx8)
    have HK0 := Lib.hid hk0; have HW8 := Lib.hid hW8
    have HEN8 := Lib.hid (end_any r ([], 0) W8 H8.out)
    obtain ⟨c0, l1, l2, l3, l4, l5⟩ := HP8.out.cells
    unfold strV at l5
    unfold RPtr endR at HEN8
    simp only [List.length_nil, Nat.lt_irrefl, and_false, if_false] at HEN8
    clear hk0 hW8 hx8
    go_wp2_with (first
      | (refine wpList_store_rowTo rfl _ _ _ rfl rfl w7.heap.size (pcv c) rfl rfl _ _ HK0.out infoPC rfl (pcv_one _) ?_; rw [← HW8.out])
      | (go_at_call 29; refine HEN8.out.mono ?_; rintro e w' ⟨rfl, rfl⟩)
      | (go_at_call 16; refine (HLA.out _).mono ?_))
    intro e w9 hm
    obtain ⟨rfl, hx⟩ := hm
    have HX9 := Lib.hid (HX8.out.trans hx); have HP9 := Lib.hid (HP8.out.ext hx); have HQ9 := Lib.hid (heap_of_ext hx HQ8.out); have HS9 := Lib.hid (HS8.out.ext hx); have HD9 : Hid (PRow w9 w7.heap.size c) := Lib.hid (HD8.out.ext hx)
    clear hx c0 l1 l2 l3 l4 l5
    have HG7 : Hid (w0.heap.size + 1 < w7.heap.size ∧ s < w7.heap.size) := Lib.hid ⟨(Array.getElem?_eq_some_iff.1 HQ7.out).1, HS7.out.lt⟩
    obtain ⟨c0, l1, l2, l3, l4, l5⟩ := HP9.out.cells
    unfold strV at l5
    go_wp2
    clear c0 l1 l2 l3 l4 l5
    have HPn := Lib.hid HP9.out; have HQn := Lib.hid HQ9.out; have HSn := Lib.hid HS9.out; have HXn := Lib.hid HX9.out; have HDn := Lib.hid HD9.out
    refine wp_region_ext (backCT c) mixedV (by rfl) (by rfl) ?all ?fin
    case all =>
      refine ⟨?_, ?_, ?_, ?_, trivial⟩
      · refine StepOK.plain (kn_stable _) rfl fun ρ w hρ hw hf => ?_
        have h11 : ρ (.tmp 11) = .pointer (some ⟨w7.heap.size, 0, none⟩) := (hf 11).2 rfl rfl
        exact Exec.kloadmid rfl rfl h11 (HDn.out.ext hw).whole rfl
      · refine StepOK.plain (kn_stable _) rfl fun ρ w hρ hw hf => ?_
        have h100 : ρ (.tmp 100) = pc c := (hf 100).1 rfl
        exact Exec.kcall #[pc c] hρ rfl rfl (by simp [h100]) Try.func18 (by rfl) (by rfl) ((HBA.out w).mono (by rintro e w' ⟨rfl, hx⟩; exact ⟨_, rfl, rfl, hx⟩))
      · refine StepOK.plain (kn_stable _) rfl fun ρ w hρ hw hf => ?_
        have h3 : ρ (.tmp 3) = .pointer (some ⟨w0.heap.size, 0, none⟩) := (hf 3).2 rfl rfl
        exact Exec.kloadmid rfl rfl h3 (HPn.out.ext hw).whole rfl
      · refine StepOK.plain (kn_stable _) rfl fun ρ w hρ hw hf => ?_
        have h101 : ρ (.tmp 101) = rc c := (hf 101).1 rfl
        have h102 : ρ (.tmp 102) = rc c := (hf 102).1 rfl
        exact Exec.krcneq rfl rfl h101 h102 (by simp; exact rfl)
    case fin =>
    intro ν w11 hfin hext
    have h103 : ν 103 = .bool false := hfin 3 103 rfl
    simp only [Exit.then, ended, List.foldl_cons, List.foldl_nil, List.setIfInBounds_toArray, List.set_cons_succ, List.set_cons_zero, h103]
    have HX11 := Lib.hid (HXn.out.trans hext); have HQ11 := Lib.hid (heap_of_ext hext HQn.out); have HS11 := Lib.hid (HSn.out.ext hext)
    have p0 : w11.cell? ⟨w0.heap.size + 1, 0, none⟩ = some (.int .u8 (kind : Nat)) := by rw [cell_of_row _ _ _ _ _ _ HQ11.out]; rfl
    have p1 : w11.cell? ⟨w0.heap.size + 1, 1, none⟩ = some (.int .u8 (ver : Nat)) := by rw [cell_of_row _ _ _ _ _ _ HQ11.out]; rfl
    have HT2 := Lib.hid (cTake_any s (b, 0) kind ver w11 HS11.out)
    have HINV := Lib.hid (cTake_inv (ver := ver) (s := (b, 0)) HKK.out)
    generalize cTake ver kind (b, 0) = R at *
    obtain ⟨⟨C, N⟩, s'⟩ := R
    unfold CtPost at HT2
    simp only at HT2 HINV
    clear hfin hext h103
    go_wp2_with (go_at_call 24; refine HT2.out.mono ?_)
    intro e w12 hm
    obtain ⟨rfl, k1, k2⟩ := hm
    have HX12 : Hid (Ext w0 w12) := Lib.hid (Ch.transNew HX11.out (k1.mono fun i _ h => .inr (by have h1 := HGR.out; omega)))
    have HQ12 := Lib.hid (heap_of_only k1 (by have := HGR.out; omega) HQ11.out)
    have HS12 := Lib.hid k2
    clear k1 k2 p0 p1 HT2
    have hk0 := heap_alloc_new w12 (.cells #[.int .u8 0, .int .u8 0, .int .i64 0, .complex .f64 0 0, .string ⟨#[]⟩] 31)
    obtain ⟨W13, hW13⟩ : ∃ W13, W13 = (w12.alloc (.cells #[.int .u8 0, .int .u8 0, .int .i64 0, .complex .f64 0 0, .string ⟨#[]⟩] 31)).setRow w12.heap.size (pcv C) := ⟨_, rfl⟩
    have hx13 : Ext w12 W13 := by rw [hW13]; exact ((Ch.refl _ _).alloc _).setRow (.inr (Nat.le_refl _)) _
    have HD13 : Hid (PRow W13 w12.heap.size C) := Lib.hid (by rw [hW13]; exact setRow_heap _ _ _ _ _ _ hk0)
    have HX13 := Lib.hid (HX12.out.trans hx13); have HQ13 := Lib.hid (heap_of_ext hx13 HQ12.out); have HS13 := Lib.hid (HS12.out.ext hx13)
    have HXS := Lib.hid hx13
    have HK0' := Lib.hid hk0; have HW13 := Lib.hid hW13
    have HEN13 := Lib.hid (end_any s s' W13 HS13.out)
    unfold RPtr at HEN13
    clear hk0 hW13 hx13
    by_cases hend : endR s' = 0
    case neg =>
      have e2 : (endR s' != 0) = true := by simpa using hend
      generalize endR s' = EE at *
      clear hend
      go_wp2_with (first
        | (refine wpList_store_rowTo rfl _ _ _ rfl rfl w12.heap.size (pcv C) rfl rfl _ _ HK0'.out infoPC rfl (pcv_one _) ?_; rw [← HW13.out])
        | (go_at_call 29; refine HEN13.out.mono ?_; rintro e w' ⟨rfl, rfl⟩)
        | (go_at_call 20; refine (awake7_any _).mono ?_))
      rintro e w14 ⟨rfl, hx⟩
      have HX14 := Lib.hid (HX13.out.trans hx)
      clear hx
      go_wp2
      go_ret
      exact ⟨rfl, HX14.out⟩
    have hz : s'.2 = 0 ∧ s'.1 = [] := endR_none hend
    rw [hend] at HEN13
    obtain ⟨hvv, _, hce, hk0, hok, hbb, hN⟩ := HINV.out hz.1
    rw [hz.2, List.append_nil] at hbb
    have HPUT2 := Lib.hid (cput_ok (fillC C N) kind ver hvv hok hce hk0)
    rw [← hbb] at HPUT2
    have HFL := Lib.hid (fill_len hce)
    clear hz hvv hce hk0 hok hend hbb
    go_wp2_with (first
      | (refine wpList_store_rowTo rfl _ _ _ rfl rfl w12.heap.size (pcv C) rfl rfl _ _ HK0'.out infoPC rfl (pcv_one _) ?_; rw [← HW13.out])
      | (go_at_call 29; refine HEN13.out.mono ?_; rintro e w' ⟨rfl, rfl⟩))
    have HNN := Lib.hid hN
    go_loopw [15] (fun ix wr => LoopRel w12.heap.size C N w12 ix wr) (fun ix _ => N - (intOf ix).toNat)
    case atStart => exact ⟨0, Nat.zero_le _, rfl, HXS.out, by rw [fillC_zero]; exact HD13.out⟩
    case round =>
      obtain ⟨i, hi, rfl, hx, hrow⟩ := hrel
      have HXR := Lib.hid (HX12.out.trans hx); have HXL := Lib.hid hx; have HROW : Hid (PRow wr w12.heap.size (fillC C i)) := Lib.hid hrow
      clear hx hrow
      by_cases hlt : i < N
      · have t0 : wr.cell? ⟨w12.heap.size, 4, none⟩ = some (.string ⟨(fillC C i).v.t.toArray⟩) := HROW.out.text
        have t1 := frozen_of_row wr w12.heap.size 4 _ _ HROW.out
        obtain ⟨A, hA⟩ : ∃ A : ByteArray, A = ⟨(fillC C i).v.t.toArray⟩ := ⟨_, rfl⟩
        rw [← hA] at t0
        have hszA : ¬ 9223372036854775807 < A.size + 1 := by rw [hA]; have h1 := HFL.out; simp [ByteArray.size, fillC]; omega
        have HA := Lib.hid hA
        have HLT := Lib.hid hlt
        have hJ : LoopRel w12.heap.size C N w12 (.int .i64 ((i + 1 : Nat) : Int)) (wr.setCell ⟨w12.heap.size, 4, none⟩ (.string (A ++ ⟨#[97]⟩))) := by
          refine ⟨i + 1, hlt, rfl, ?_, ?_⟩
          · exact HXL.out.setCell (.inr (Nat.le_refl _)) _
          · rw [heap_setCell_same wr w12.heap.size 4 _ _ _ HROW.out, hA, fill_text C i]
        have HJ := Lib.hid hJ
        clear hJ hA
        go_wp2
        exact ⟨HJ.out, meas7 N i HLT.out⟩
      · have hiN : i = N := by omega
        subst hiN
        obtain ⟨c0, l1, l2, l3, l4⟩ := HROW.out.cells
        unfold strV at l4
        have hqr : wr.heap[w0.heap.size + 1]? = some (.cells #[.int .u8 (kind : Nat), .int .u8 (ver : Nat)] 44 (0, 0)) := heap_of_ext HXL.out HQ12.out
        have p0 : wr.cell? ⟨w0.heap.size + 1, 0, none⟩ = some (.int .u8 (kind : Nat)) := by rw [cell_of_row _ _ _ _ _ _ hqr]; rfl
        have p1 : wr.cell? ⟨w0.heap.size + 1, 1, none⟩ = some (.int .u8 (ver : Nat)) := by rw [cell_of_row _ _ _ _ _ _ hqr]; rfl
        have HBR : Hid (Rd wr (.slice ao nb cap) b) := Lib.hid (HB0.out.ext HXR.out)
        clear hqr
        go_wp2_with (go_at_call 21; refine (HPUT2.out _).mono ?_)
        intro e w14 hm
        obtain ⟨so, rfl, hx, hr⟩ := hm
        have HX14 := Lib.hid (HXR.out.trans hx)
        have hb14 := HBR.out.ext hx
        obtain ⟨oa, oc, rfl⟩ := hr.shape
        have hs1 := run_toString (P := Try.prog) hr (src := 45) (dst := 9) Try.underlying45 Try.underlying5 Try.underlying9
        have hs2 := run_toString (P := Try.prog) hb14 (src := 45) (dst := 9) Try.underlying45 Try.underlying5 Try.underlying9
        unfold strV at hs1 hs2
        generalize (⟨b.toArray⟩ : ByteArray) = BS at *
        generalize b.length = bl at *
        clear hx hr hb14 c0 l1 l2 l3 l4 p0 p1
        go_wp2_with (go_at_call 20; refine (awake7_any _).mono ?_)
        rintro e w15 ⟨rfl, hx⟩
        have HX15 := Lib.hid (HX14.out.trans hx)
        clear hx
        go_wp2
        go_ret
        exact ⟨rfl, HX15.out⟩
  | true =>
    obtain ⟨hco, hcn, hbig, hcc⟩ := cOut_large HE0.out hcl
    rw [hco, hcn] at HT
    have HCC := Lib.hid hcc; have HBIG := Lib.hid hbig
    have hsa : (⟨c.v.t.toArray⟩ : ByteArray).size = c.v.t.length := by simp [ByteArray.size]
    rw [hcl] at HLA
    clear hco hcn hcl hcc hbig
    have hbig := HBIG.out
    generalize htl : c.v.t.length = tl at *
    clear htl
    go_wp2_with (go_at_call 24; refine HT.out.mono ?_)
    intro e w7 hm
    obtain ⟨rfl, k1, k2⟩ := hm
    have HX7 : Hid (Ext w0 w7) := Lib.hid (Ch.transNew HX6.out (k1.mono fun i _ h => .inr (by have h1 := HGR.out.1; omega)))
    have HP7 : Hid (RRow w7 w0.heap.size c) := Lib.hid (heap_of_only k1 (by have := HGR.out.1; omega) HP6.out)
    have HQ7 := Lib.hid (heap_of_only k1 (by have := HGR.out.1; omega) HQ6.out)
    have H7 := Lib.hid k2; have HS7 := Lib.hid (HS6.out.other H6.out (by have := HGR.out.2.1; omega) k1)
    clear k1 k2 p0 p1 HT
    have hk0 := heap_alloc_new w7 (.cells #[.int .u8 0, .int .u8 0, .int .i64 0, .complex .f64 0 0, .string ⟨#[]⟩] 31)
    obtain ⟨W8, hW8⟩ : ∃ W8, W8 = (w7.alloc (.cells #[.int .u8 0, .int .u8 0, .int .i64 0, .complex .f64 0 0, .string ⟨#[]⟩] 31)).setRow w7.heap.size (pcv (bigC c.v.ty)) := ⟨_, rfl⟩
    have hx8 : Ext w7 W8 := by rw [hW8]; exact ((Ch.refl _ _).alloc _).setRow (.inr (Nat.le_refl _)) _
    have HD8 : Hid (PRow W8 w7.heap.size (bigC c.v.ty)) := Lib.hid (by rw [hW8]; exact setRow_heap _ _ _ _ _ _ hk0)
    have HX8 := Lib.hid (HX7.out.trans hx8); have HP8 := Lib.hid (HP7.out.ext hx8); have HQ8 := Lib.hid (heap_of_ext hx8 HQ7.out); have H8 := Lib.hid (H7.out.ext hx8); have HS8 := Lib.hid (HS7.out.ext hx8)
    have HK0 := Lib.hid hk0; have HW8 := Lib.hid hW8
    have HEN8 := Lib.hid (end_any r ([], 0) W8 H8.out)
    obtain ⟨c0, l1, l2, l3, l4, l5⟩ := HP8.out.cells
    unfold strV at l5
    unfold RPtr endR at HEN8
    simp only [List.length_nil, Nat.lt_irrefl, and_false, if_false] at HEN8
    clear hk0 hW8 hx8
    go_wp2_with (first
      | (refine wpList_store_rowTo rfl _ _ _ rfl rfl w7.heap.size (pcv (bigC c.v.ty)) rfl rfl _ _ HK0.out infoPC rfl (pcv_one _) ?_; rw [← HW8.out])
      | (go_at_call 29; refine HEN8.out.mono ?_; rintro e w' ⟨rfl, rfl⟩)
      | (go_at_call 16; refine (HLA.out _).mono ?_))
    intro e w9 hm
    obtain ⟨rfl, hx⟩ := hm
    have HX9 := Lib.hid (HX8.out.trans hx); have HP9 := Lib.hid (HP8.out.ext hx); have HQ9 := Lib.hid (heap_of_ext hx HQ8.out); have HS9 := Lib.hid (HS8.out.ext hx); have HD9 : Hid (PRow w9 w7.heap.size (bigC c.v.ty)) := Lib.hid (HD8.out.ext hx)
    clear hx c0 l1 l2 l3 l4 l5
    have HG7 : Hid (w0.heap.size + 1 < w7.heap.size ∧ s < w7.heap.size) := Lib.hid ⟨(Array.getElem?_eq_some_iff.1 HQ7.out).1, HS7.out.lt⟩
    obtain ⟨c0, l1, l2, l3, l4, l5⟩ := HP9.out.cells
    unfold strV at l5
    have d4 : w9.cell? ⟨w7.heap.size, 4, none⟩ = some (.string ⟨#[]⟩) := HD9.out.text
    have d5 := frozen_of_row w9 w7.heap.size 4 _ _ HD9.out
    obtain ⟨W10, hW10⟩ : ∃ W10, W10 = w9.setCell ⟨w7.heap.size, 4, none⟩ (.string ⟨c.v.t.toArray⟩) := ⟨_, rfl⟩
    have HD10 : Hid (PRow W10 w7.heap.size c) := Lib.hid (by unfold PRow; rw [hW10, heap_setCell_same w9 w7.heap.size 4 _ _ _ HD9.out, big_text HCC.out])
    have HP10 : Hid (RRow W10 w0.heap.size c) := Lib.hid (by unfold RRow; rw [hW10, heap_setCell_other w9 ⟨w7.heap.size, 4, none⟩ w0.heap.size _ (by have := HG7.out; simp <;> omega)]; exact HP9.out)
    have HQ10 : Hid (W10.heap[w0.heap.size + 1]? = some (.cells #[.int .u8 (kind : Nat), .int .u8 (ver : Nat)] 44 (0, 0))) := Lib.hid (by rw [hW10, heap_setCell_other w9 ⟨w7.heap.size, 4, none⟩ (w0.heap.size + 1) _ (by have := HG7.out; simp <;> omega)]; exact HQ9.out)
    have HS10 : Hid (IsR W10 s (b, 0)) := Lib.hid (by rw [hW10]; exact HS9.out.above (Ch.setCell (p := ⟨w7.heap.size, 4, none⟩) (Ch.refl _ _) (.inl (by have := HG7.out; show s < w7.heap.size; omega)) _))
    have HX10 : Hid (Ext w0 W10) := Lib.hid (by rw [hW10]; exact HX9.out.setCell (.inr (by have := HG7.out; show w0.heap.size ≤ w7.heap.size; omega)) _)
    have HW10 := Lib.hid hW10
    clear hW10
    go_wp2
    rw [← HW10.out]
    clear d4 d5
    clear c0 l1 l2 l3 l4 l5
    have HPn := Lib.hid HP10.out; have HQn := Lib.hid HQ10.out; have HSn := Lib.hid HS10.out; have HXn := Lib.hid HX10.out; have HDn := Lib.hid HD10.out
    refine wp_region_ext (backCT c) mixedV (by rfl) (by rfl) ?all ?fin
    case all =>
      refine ⟨?_, ?_, ?_, ?_, trivial⟩
      · refine StepOK.plain (kn_stable _) rfl fun ρ w hρ hw hf => ?_
        have h11 : ρ (.tmp 11) = .pointer (some ⟨w7.heap.size, 0, none⟩) := (hf 11).2 rfl rfl
        exact Exec.kloadmid rfl rfl h11 (HDn.out.ext hw).whole rfl
      · refine StepOK.plain (kn_stable _) rfl fun ρ w hρ hw hf => ?_
        have h100 : ρ (.tmp 100) = pc c := (hf 100).1 rfl
        exact Exec.kcall #[pc c] hρ rfl rfl (by simp [h100]) Try.func18 (by rfl) (by rfl) ((HBA.out w).mono (by rintro e w' ⟨rfl, hx⟩; exact ⟨_, rfl, rfl, hx⟩))
      · refine StepOK.plain (kn_stable _) rfl fun ρ w hρ hw hf => ?_
        have h3 : ρ (.tmp 3) = .pointer (some ⟨w0.heap.size, 0, none⟩) := (hf 3).2 rfl rfl
        exact Exec.kloadmid rfl rfl h3 (HPn.out.ext hw).whole rfl
      · refine StepOK.plain (kn_stable _) rfl fun ρ w hρ hw hf => ?_
        have h101 : ρ (.tmp 101) = rc c := (hf 101).1 rfl
        have h102 : ρ (.tmp 102) = rc c := (hf 102).1 rfl
        exact Exec.krcneq rfl rfl h101 h102 (by simp; exact rfl)
    case fin =>
    intro ν w11 hfin hext
    have h103 : ν 103 = .bool false := hfin 3 103 rfl
    simp only [Exit.then, ended, List.foldl_cons, List.foldl_nil, List.setIfInBounds_toArray, List.set_cons_succ, List.set_cons_zero, h103]
    have HX11 := Lib.hid (HXn.out.trans hext); have HQ11 := Lib.hid (heap_of_ext hext HQn.out); have HS11 := Lib.hid (HSn.out.ext hext)
    have p0 : w11.cell? ⟨w0.heap.size + 1, 0, none⟩ = some (.int .u8 (kind : Nat)) := by rw [cell_of_row _ _ _ _ _ _ HQ11.out]; rfl
    have p1 : w11.cell? ⟨w0.heap.size + 1, 1, none⟩ = some (.int .u8 (ver : Nat)) := by rw [cell_of_row _ _ _ _ _ _ HQ11.out]; rfl
    have HT2 := Lib.hid (cTake_any s (b, 0) kind ver w11 HS11.out)
    have HINV := Lib.hid (cTake_inv (ver := ver) (s := (b, 0)) HKK.out)
    generalize cTake ver kind (b, 0) = R at *
    obtain ⟨⟨C, N⟩, s'⟩ := R
    unfold CtPost at HT2
    simp only at HT2 HINV
    clear hfin hext h103
    go_wp2_with (go_at_call 24; refine HT2.out.mono ?_)
    intro e w12 hm
    obtain ⟨rfl, k1, k2⟩ := hm
    have HX12 : Hid (Ext w0 w12) := Lib.hid (Ch.transNew HX11.out (k1.mono fun i _ h => .inr (by have h1 := HGR.out; omega)))
    have HQ12 := Lib.hid (heap_of_only k1 (by have := HGR.out; omega) HQ11.out)
    have HS12 := Lib.hid k2
    clear k1 k2 p0 p1 HT2
    have hk0 := heap_alloc_new w12 (.cells #[.int .u8 0, .int .u8 0, .int .i64 0, .complex .f64 0 0, .string ⟨#[]⟩] 31)
    obtain ⟨W13, hW13⟩ : ∃ W13, W13 = (w12.alloc (.cells #[.int .u8 0, .int .u8 0, .int .i64 0, .complex .f64 0 0, .string ⟨#[]⟩] 31)).setRow w12.heap.size (pcv C) := ⟨_, rfl⟩
    have hx13 : Ext w12 W13 := by rw [hW13]; exact ((Ch.refl _ _).alloc _).setRow (.inr (Nat.le_refl _)) _
    have HD13 : Hid (PRow W13 w12.heap.size C) := Lib.hid (by rw [hW13]; exact setRow_heap _ _ _ _ _ _ hk0)
    have HX13 := Lib.hid (HX12.out.trans hx13); have HQ13 := Lib.hid (heap_of_ext hx13 HQ12.out); have HS13 := Lib.hid (HS12.out.ext hx13)
    have HXS := Lib.hid hx13
    have HK0' := Lib.hid hk0; have HW13 := Lib.hid hW13
    have HEN13 := Lib.hid (end_any s s' W13 HS13.out)
    unfold RPtr at HEN13
    clear hk0 hW13 hx13
    by_cases hend : endR s' = 0
    case neg =>
      have e2 : (endR s' != 0) = true := by simpa using hend
      generalize endR s' = EE at *
      clear hend
      go_wp2_with (first
        | (refine wpList_store_rowTo rfl _ _ _ rfl rfl w12.heap.size (pcv C) rfl rfl _ _ HK0'.out infoPC rfl (pcv_one _) ?_; rw [← HW13.out])
        | (go_at_call 29; refine HEN13.out.mono ?_; rintro e w' ⟨rfl, rfl⟩)
        | (go_at_call 20; refine (awake7_any _).mono ?_))
      rintro e w14 ⟨rfl, hx⟩
      have HX14 := Lib.hid (HX13.out.trans hx)
      clear hx
      go_wp2
      go_ret
      exact ⟨rfl, HX14.out⟩
    have hz : s'.2 = 0 ∧ s'.1 = [] := endR_none hend
    rw [hend] at HEN13
    obtain ⟨hvv, _, hce, hk0, hok, hbb, hN⟩ := HINV.out hz.1
    rw [hz.2, List.append_nil] at hbb
    have HPUT2 := Lib.hid (cput_ok (fillC C N) kind ver hvv hok hce hk0)
    rw [← hbb] at HPUT2
    have HFL := Lib.hid (fill_len hce)
    clear hz hvv hce hk0 hok hend hbb
    go_wp2_with (first
      | (refine wpList_store_rowTo rfl _ _ _ rfl rfl w12.heap.size (pcv C) rfl rfl _ _ HK0'.out infoPC rfl (pcv_one _) ?_; rw [← HW13.out])
      | (go_at_call 29; refine HEN13.out.mono ?_; rintro e w' ⟨rfl, rfl⟩))
    have HNN := Lib.hid hN
    go_loopw [15] (fun ix wr => LoopRel w12.heap.size C N w12 ix wr) (fun ix _ => N - (intOf ix).toNat)
    case atStart => exact ⟨0, Nat.zero_le _, rfl, HXS.out, by rw [fillC_zero]; exact HD13.out⟩
    case round =>
      obtain ⟨i, hi, rfl, hx, hrow⟩ := hrel
      have HXR := Lib.hid (HX12.out.trans hx); have HXL := Lib.hid hx; have HROW : Hid (PRow wr w12.heap.size (fillC C i)) := Lib.hid hrow
      clear hx hrow
      by_cases hlt : i < N
      · have t0 : wr.cell? ⟨w12.heap.size, 4, none⟩ = some (.string ⟨(fillC C i).v.t.toArray⟩) := HROW.out.text
        have t1 := frozen_of_row wr w12.heap.size 4 _ _ HROW.out
        obtain ⟨A, hA⟩ : ∃ A : ByteArray, A = ⟨(fillC C i).v.t.toArray⟩ := ⟨_, rfl⟩
        rw [← hA] at t0
        have hszA : ¬ 9223372036854775807 < A.size + 1 := by rw [hA]; have h1 := HFL.out; simp [ByteArray.size, fillC]; omega
        have HA := Lib.hid hA
        have HLT := Lib.hid hlt
        have hJ : LoopRel w12.heap.size C N w12 (.int .i64 ((i + 1 : Nat) : Int)) (wr.setCell ⟨w12.heap.size, 4, none⟩ (.string (A ++ ⟨#[97]⟩))) := by
          refine ⟨i + 1, hlt, rfl, ?_, ?_⟩
          · exact HXL.out.setCell (.inr (Nat.le_refl _)) _
          · rw [heap_setCell_same wr w12.heap.size 4 _ _ _ HROW.out, hA, fill_text C i]
        have HJ := Lib.hid hJ
        clear hJ hA
        go_wp2
        exact ⟨HJ.out, meas7 N i HLT.out⟩
      · have hiN : i = N := by omega
        subst hiN
        obtain ⟨c0, l1, l2, l3, l4⟩ := HROW.out.cells
        unfold strV at l4
        have hqr : wr.heap[w0.heap.size + 1]? = some (.cells #[.int .u8 (kind : Nat), .int .u8 (ver : Nat)] 44 (0, 0)) := heap_of_ext HXL.out HQ12.out
        have p0 : wr.cell? ⟨w0.heap.size + 1, 0, none⟩ = some (.int .u8 (kind : Nat)) := by rw [cell_of_row _ _ _ _ _ _ hqr]; rfl
        have p1 : wr.cell? ⟨w0.heap.size + 1, 1, none⟩ = some (.int .u8 (ver : Nat)) := by rw [cell_of_row _ _ _ _ _ _ hqr]; rfl
        have HBR : Hid (Rd wr (.slice ao nb cap) b) := Lib.hid (HB0.out.ext HXR.out)
        clear hqr
        go_wp2_with (go_at_call 21; refine (HPUT2.out _).mono ?_)
        intro e w14 hm
        obtain ⟨so, rfl, hx, hr⟩ := hm
        have HX14 := Lib.hid (HXR.out.trans hx)
        have hb14 := HBR.out.ext hx
        obtain ⟨oa, oc, rfl⟩ := hr.shape
        have hs1 := run_toString (P := Try.prog) hr (src := 45) (dst := 9) Try.underlying45 Try.underlying5 Try.underlying9
        have hs2 := run_toString (P := Try.prog) hb14 (src := 45) (dst := 9) Try.underlying45 Try.underlying5 Try.underlying9
        unfold strV at hs1 hs2
        generalize (⟨b.toArray⟩ : ByteArray) = BS at *
        generalize b.length = bl at *
        clear hx hr hb14 c0 l1 l2 l3 l4 p0 p1
        go_wp2_with (go_at_call 20; refine (awake7_any _).mono ?_)
        rintro e w15 ⟨rfl, hx⟩
        have HX15 := Lib.hid (HX14.out.trans hx)
        clear hx
        go_wp2
        go_ret
        exact ⟨rfl, HX15.out⟩
end Go.Proofs.Yteechmgcjfnjbaa
