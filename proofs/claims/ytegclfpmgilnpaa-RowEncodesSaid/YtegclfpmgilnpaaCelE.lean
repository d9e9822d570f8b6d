/-
  Cells: the bytes of one: the document's. MADE BY mkCelE.py
-/
import Derived.Test.YtegclfpmgilnpaaCelD
import Derived.Test.YtegclfpmgilnpaaValS
namespace Go.Proofs.Ytegclfpmgilnpaa
open Go.RowKit Go.Lac

theorem field54_4' (w : World) (b : Nat) : (Instr.fieldAt 122 (.pointer (some ⟨b, 1, none⟩)) 4).run Try.prog w = .ok (.pointer (some ⟨b, 5, none⟩)) w := by kernel_rfl
theorem own_one (w : World) (b : UInt8) : (w.alloc (.cells #[.int .u8 (b.toNat : Nat)] 5)).ownsRow w.heap.size 5 1 (.slice (some ⟨w.heap.size, 0, none⟩) 1 1) 1 (cellsB [b]) :=
  World.ownsRow_lit w #[.int .u8 (b.toNat : Nat)] 1 (Nat.le_refl _) (by decide) rfl
theorem rput_one (v : Val) (w : World) (ver : Nat) (hv : ver = 1 ∨ ver = 2) (hok : v.ok) (he : vErr v = 0) : Calls Try.prog 97 #[rv v, .int .u8 (ver : Nat)] w (OkPost (vBytes ver v) w) := by
  have h := refPut_any v ver w hok
  have hp1 : putE ver v = 0 := by unfold putE; rw [if_neg (by omega)]; exact he
  unfold PutPost at h
  rw [hp1] at h
  refine Calls.mono h ?_
  rintro e w' ⟨s, h1, h2, h3⟩
  rw [if_pos rfl, List.nil_append] at h3
  exact ⟨s, h1, h2, h3⟩

theorem rd_two {w : World} {B : Nat} {E : TypeId} {v : Value} {a b : List UInt8} (h : w.ownsRow B E 1 v (a.length + b.length) (cellsB (a ++ b))) : Rd w v (a ++ b) := by
  rw [← List.length_append] at h
  exact Rd.ofOwns h
def rformT (B g n : Nat) (t : List UInt8) : Tmp → Kn
  | 50 => .is (.int .u64 (n : Nat))
  | 51 => .is (.int .u64 ((n + 2 : Nat) : Int))
  | 52 => .own B 5 (sev (n + 2)).length (cellsB (sev (n + 2)))
  | 53 => .is (.pointer (some ⟨g, 1, none⟩))
  | 54 => .is (.pointer (some ⟨g, 5, none⟩))
  | 55 => .is (.string ⟨t.toArray⟩)
  | 56 => .rd t
  | _ => .any
def rformT' (B n : Nat) (t : List UInt8) : Tmp → Kn
  | 57 => .own B 5 ((sev (n + 2)).length + t.length) (cellsB (sev (n + 2) ++ t))
  | 6 => .own B 5 ((sev (n + 2)).length + t.length) (cellsB (sev (n + 2) ++ t))
  | 7 => .is (.int .i64 0)
  | _ => .any

set_option maxRecDepth 20000 in
set_option maxHeartbeats 1600000 in
theorem rcput_bad (c : Cel) (kind ver : Nat) (w0 : World) (hv : ver ≠ 1 ∧ ver ≠ 2) :
    Calls Try.prog 65 #[rc c, .int .u8 (kind : Nat), .int .u8 (ver : Nat)] w0 (CPutPost [] ver c kind w0) := by
  obtain ⟨PO, hPO⟩ : ∃ PO, PO = CPutPost [] ver c kind w0 := ⟨_, rfl⟩
  have he : cpErr ver c kind = 18 := by unfold cpErr; rw [if_pos hv]
  have HP0 : Hid (∀ w', Ext w0 w' → PO (.returned (.tuple #[.slice none 0 0, .int .i64 18])) w') := Lib.hid fun w' hx => by
    rw [hPO]
    exact ⟨_, by first | (rw [he]; rfl) | rw [he], hx, by rw [he, if_neg (by decide)]; exact rd_nil _⟩
  rw [← hPO]
  have hpc : rc c = .agg (rcv c) := rfl
  rw [hpc]
  have e1 : (((ver : Nat) : Int) != 1) = true := by simp; omega
  have e2 : (((ver : Nat) : Int) != 2) = true := by simp; omega
  have HX0 : Hid (Ext w0 (w0.alloc (.cells (rcv c) 124))) := Lib.hid ((Ch.refl _ _).alloc _)
  clear hPO he hpc hv
  go_enter Try.func65, Try.ntmps65
  go_wp2
  exact HP0.out _ HX0.out

set_option maxRecDepth 20000 in
set_option maxHeartbeats 4000000 in
theorem rcput_1 (c : Cel) (kind : Nat) (w0 : World) (hc : c.ok) :
    Calls Try.prog 65 #[rc c, .int .u8 (kind : Nat), .int .u8 1] w0 (CPutPost [] 1 c kind w0) := by
  obtain ⟨i, hi, hz, hsz, hby⟩ := info_parts infoU8
  have HRI := Lib.hid (rright7_any c kind)
  have HLG := Lib.hid (fun w => rlarge_any c w)
  obtain ⟨PO, hPO⟩ : ∃ PO, PO = CPutPost [] 1 c kind w0 := ⟨_, rfl⟩
  have HPE : Hid (∀ E w', cpErr 1 c kind = E → E ≠ 0 → Ext w0 w' → PO (.returned (.tuple #[.slice none 0 0, .int .i64 (E : Nat)])) w') := Lib.hid fun E w' h h' hx => by
    rw [hPO]
    exact ⟨_, by first | (rw [h]; rfl) | rw [h], hx, by rw [h, if_neg h']; exact rd_nil _⟩
  have HP0 : Hid (∀ s w', cpErr 1 c kind = 0 → Ext w0 w' → Rd w' s (cBytes 1 c) → PO (.returned (.tuple #[s, .int .i64 0])) w') := Lib.hid fun s w' h hx hr => by
    rw [hPO]
    exact ⟨_, by first | (rw [h]; rfl) | rw [h], hx, by rw [if_pos h]; exact hr⟩
  have HCE : Hid (∀ x, cpErr 1 c kind = x ↔ (if cErr c kind ≠ 0 then cErr c kind else if c.k = 0 then 12 else 0) = x) := Lib.hid fun x => by unfold cpErr; rw [if_neg (by omega)]
  have HC := Lib.hid hc
  rw [← hPO]
  obtain ⟨W, hW⟩ : ∃ W, W = w0.alloc (.cells (rcv c) 124) := ⟨_, rfl⟩
  have hx0 : Ext w0 W := by rw [hW]; exact (Ch.refl _ _).alloc _
  have hP : RRow W w0.heap.size c := by rw [hW]; exact box_r c w0
  have HP := Lib.hid hP; have HX0 := Lib.hid hx0
  have hpc : rc c = .agg (rcv c) := rfl
  rw [hpc]
  obtain ⟨c0, l1, l2, l3, l4, l5⟩ := hP.cells
  rw [hW] at c0 l1 l2 l3 l4 l5
  have HW := Lib.hid hW
  have HI := Lib.hid hi; have HZ := Lib.hid hz; have HSZ := Lib.hid hsz; have HBY := Lib.hid hby
  clear hP hx0 hW hpc hPO hi hz hsz hby hc
  go_enter Try.func65, Try.ntmps65
  go_wp2_with fail
  rw [← HW.out]
  refine (HRI.out _).mono ?_
  rintro e w1 ⟨rfl, hx⟩
  have HP1 := Lib.hid (HP.out.ext hx); have HX1 := Lib.hid (HX0.out.trans hx)
  have HGS : Hid (w0.heap.size < w1.heap.size) := Lib.hid (Array.getElem?_eq_some_iff.1 HP1.out).1
  clear hx c0 l1 l2 l3 l4 l5
  obtain ⟨c0, l1, l2, l3, l4, l5⟩ := HP1.out.cells
  by_cases he : cErr c kind = 0
  case neg =>
    have HF := Lib.hid ((HCE.out (cErr c kind)).2 (by rw [if_pos he]))
    have HE := Lib.hid he
    have e1 : (((cErr c kind : Nat) : Int) != 0) = true := by simp; omega
    clear he
    generalize cErr c kind = E at *
    go_wp2
    exact HPE.out E _ HF.out HE.out HX1.out
  obtain ⟨z1, z2, z3, z4, z5, z6⟩ := cErr_zero he
  have HCE2 : Hid (∀ x, cpErr 1 c kind = x ↔ (if c.k = 0 then 12 else 0) = x) := Lib.hid fun x => by rw [HCE.out, if_neg (by omega)]
  rw [he]
  have hvl : c.v.t.length ≤ 2048 := by
    by_cases k1 : c.k = 2
    · exact (vErr_zero (z6 k1).1).2.2.2.2.2.2.2.1
    · rw [z4 (by omega)]; simp [Val.zero]
  have hn : IntKind.u64.wrap (c.v.t.length : Int) = (c.v.t.length : Int) := wrap_u64_of (by omega) (by omega)
  have hsa : (⟨c.v.t.toArray⟩ : ByteArray).size = c.v.t.length := by simp [ByteArray.size]
  unfold strV at l5
  by_cases k0 : c.k = 0
  · have e1 : (((c.k : Nat) : Int) == 0) = true := by rw [k0]; rfl
    have HF := Lib.hid ((HCE2.out 12).2 (by rw [if_pos k0]))
    clear he z1 z2 z3 z4 z5 z6 k0
    go_wp2
    exact HPE.out 12 _ HF.out (by decide) HX1.out
  have HF := Lib.hid ((HCE2.out 0).2 (by rw [if_neg k0]))
  have e0 : (((c.k : Nat) : Int) == 0) = false := by simp; omega
  by_cases k1 : c.k = 1
  · have e1 : (((c.k : Nat) : Int) == 1) = true := by rw [k1]; rfl
    have hrd := rd_new w1 [0] 5 (by unfold maxLen; simp)
    have HBS : Hid (cBytes 1 c = [0]) := Lib.hid (by unfold cBytes; rw [if_pos k1])
    have HRD := Lib.hid hrd
    clear he z1 z2 z3 z4 z5 z6 k0 k1 hrd
    go_wp2
    refine HP0.out _ _ HF.out (HX1.out.alloc _) ?_
    rw [HBS.out]
    exact HRD.out
  have e1 : (((c.k : Nat) : Int) == 1) = false := by simp; omega
  have k2 : c.k = 2 := by omega
  have hv := (z6 k2).1
  have hty := (z6 k2).2
  have HTX : Hid (∀ w, Calls Try.prog 96 #[.int .u8 (kind : Nat)] w fun e w' => e = .returned (.bool (texty c.v.ty)) ∧ w = w') := Lib.hid fun w => by rw [hty]; exact rTexty_any kind w
  have HRP := Lib.hid (fun w => rput_one c.v w 1 (by omega) HC.out.2 hv)
  have hBS : cBytes 1 c = if cLarge c = true then UInt8.ofNat (3 - 1) :: sev c.v.t.length else 1 :: vBytes 1 c.v := by
    unfold cBytes; rw [if_neg k1]; rfl
  have HBS := Lib.hid hBS
  have HVL := Lib.hid hvl
  have HVB := Lib.hid (vBytes_len (ver := 1) HC.out.2 hv)
  obtain ⟨n, hN⟩ : ∃ n, n = c.v.t.length := ⟨_, rfl⟩
  rw [← hN] at hn hsa HVL HBS
  have HN := Lib.hid hN
  clear he z1 z2 z3 z4 z5 z6 k0 k1 k2 hv hty hBS hvl hN
  go_wp2_with fail
  refine (HLG.out _).mono ?_
  rintro e w2 ⟨rfl, hx⟩
  have HP2 := Lib.hid (HP1.out.ext hx); have HX2 := Lib.hid (HX1.out.trans hx)
  have HGS2 : Hid (w0.heap.size < w2.heap.size) := Lib.hid (Array.getElem?_eq_some_iff.1 HP2.out).1
  clear hx c0 l1 l2 l3 l4 l5
  obtain ⟨c0, l1, l2, l3, l4, l5⟩ := HP2.out.cells
  by_cases hL : cLarge c = true
  · have HB2 : Hid (cBytes 1 c = [UInt8.ofNat (3 - 1)] ++ sev n) := Lib.hid (by rw [HBS.out, if_pos hL]; rfl)
    rw [hL]
    have HU := Lib.hid (fun w => refUint_any n w (by have := HVL.out; omega))
    have HO0 := Lib.hid (own_one w2 2)
    clear hL HBS c0 l1 l2 l3 l4 l5
    go_wp2_with (go_at_call 95; refine (HU.out _).mono ?_)
    intro e w3 hm
    obtain ⟨sv, rfl, hx, hr⟩ := hm.rd
    have HO3 := Lib.hid (HO0.out.ext hx)
    have HX3 := Lib.hid ((HX2.out.alloc (.cells #[.int .u8 2] 5)).trans hx)
    obtain ⟨sa, sc', rfl⟩ := hr.shape
    have HR := Lib.hid hr
    have HSL := Lib.hid (sev_length_10 n (by have := HVL.out; omega))
    have HS3 : Hid (w2.heap.size ≤ w3.heap.size) := Lib.hid (Nat.le_trans (by simp) hx.size)
    clear hx hr
    go_wp2_with (at_builtin; refine wpList_append_sl _ rfl _ _ 76 rfl w2.heap.size 5 i (.int .u8 0) 1 1 Try.underlying76 HI.out HZ.out HSZ.out HBY.out rfl (by decide) _ _ _ rfl HO3.out _ _ _ rfl HR.out (by rw [cellsB_length, Nat.mul_one]) (cellsB_one _) (by have := HSL.out; omega) (by have := HSL.out; unfold maxLen; omega) HS3.out ?_)
    intro v5 w5 hown hgrow
    have HX5 : Hid (Ext w0 w5) := Lib.hid (HX3.out.grown hgrow fun k hk => .inr (by have := (HO3.out.lt k hk).1; have := HGS2.out; omega))
    rw [← cellsB_append] at hown
    have HR5 := Lib.hid (rd_two (a := [2]) (b := sev n) hown)
    clear hown hgrow
    go_wp2
    refine HP0.out _ _ HF.out HX5.out ?_
    rw [HB2.out]
    exact HR5.out
  · have HB2 := Lib.hid (HBS.out.trans (if_neg hL))
    have hLf : cLarge c = false := by simpa using hL
    rw [hLf]
    clear hL hLf HBS
    go_wp2_with (go_at_call 97; refine (HRP.out _).mono ?_)
    intro e w3 hm
    obtain ⟨s, rfl, hx, hr⟩ := hm
    obtain ⟨sa, sc', rfl⟩ := hr.shape
    have HX3 := Lib.hid (HX2.out.trans hx)
    have HO0 := Lib.hid (own_one w3 1)
    have HR := Lib.hid (hr.ext ((Ch.refl _ _).alloc (.cells #[.int .u8 1] 5)))
    have HGS3 : Hid (w0.heap.size < w3.heap.size) := Lib.hid (Nat.lt_of_lt_of_le HGS2.out hx.size)
    clear hx hr c0 l1 l2 l3 l4 l5
    go_wp2_with (at_builtin; refine wpList_append_sl _ rfl _ _ 76 rfl w3.heap.size 5 i (.int .u8 0) 1 1 Try.underlying76 HI.out HZ.out HSZ.out HBY.out rfl (by decide) _ _ _ rfl HO0.out _ _ _ rfl HR.out (by rw [cellsB_length, Nat.mul_one]) (cellsB_one _) (by have := HVB.out; omega) (by have := HVB.out; unfold maxLen; omega) (by simp) ?_)
    intro v5 w5 hown hgrow
    have HX5 : Hid (Ext w0 w5) := Lib.hid ((HX3.out.alloc (.cells #[.int .u8 1] 5)).grown hgrow fun k hk => .inr (by have := (HO0.out.lt k hk).1; have := HGS3.out; omega))
    rw [← cellsB_append] at hown
    have HR5 := Lib.hid (rd_two (a := [1]) (b := vBytes 1 c.v) hown)
    clear hown hgrow
    go_wp2
    refine HP0.out _ _ HF.out HX5.out ?_
    rw [HB2.out]
    exact HR5.out

set_option maxRecDepth 20000 in
set_option maxHeartbeats 4000000 in
theorem rcput_2 (c : Cel) (kind : Nat) (w0 : World) (hc : c.ok) :
    Calls Try.prog 65 #[rc c, .int .u8 (kind : Nat), .int .u8 2] w0 (CPutPost [] 2 c kind w0) := by
  obtain ⟨i, hi, hz, hsz, hby⟩ := info_parts infoU8
  have HRI := Lib.hid (rright7_any c kind)
  have HLG := Lib.hid (fun w => rlarge_any c w)
  obtain ⟨PO, hPO⟩ : ∃ PO, PO = CPutPost [] 2 c kind w0 := ⟨_, rfl⟩
  have HPE : Hid (∀ E w', cpErr 2 c kind = E → E ≠ 0 → Ext w0 w' → PO (.returned (.tuple #[.slice none 0 0, .int .i64 (E : Nat)])) w') := Lib.hid fun E w' h h' hx => by
    rw [hPO]
    exact ⟨_, by first | (rw [h]; rfl) | rw [h], hx, by rw [h, if_neg h']; exact rd_nil _⟩
  have HP0 : Hid (∀ s w', cpErr 2 c kind = 0 → Ext w0 w' → Rd w' s (cBytes 2 c) → PO (.returned (.tuple #[s, .int .i64 0])) w') := Lib.hid fun s w' h hx hr => by
    rw [hPO]
    exact ⟨_, by first | (rw [h]; rfl) | rw [h], hx, by rw [if_pos h]; exact hr⟩
  have HCE : Hid (∀ x, cpErr 2 c kind = x ↔ (if cErr c kind ≠ 0 then cErr c kind else if c.k = 0 then 12 else 0) = x) := Lib.hid fun x => by unfold cpErr; rw [if_neg (by omega)]
  have HC := Lib.hid hc
  rw [← hPO]
  obtain ⟨W, hW⟩ : ∃ W, W = w0.alloc (.cells (rcv c) 124) := ⟨_, rfl⟩
  have hx0 : Ext w0 W := by rw [hW]; exact (Ch.refl _ _).alloc _
  have hP : RRow W w0.heap.size c := by rw [hW]; exact box_r c w0
  have HP := Lib.hid hP; have HX0 := Lib.hid hx0
  have hpc : rc c = .agg (rcv c) := rfl
  rw [hpc]
  obtain ⟨c0, l1, l2, l3, l4, l5⟩ := hP.cells
  rw [hW] at c0 l1 l2 l3 l4 l5
  have HW := Lib.hid hW
  have HI := Lib.hid hi; have HZ := Lib.hid hz; have HSZ := Lib.hid hsz; have HBY := Lib.hid hby
  clear hP hx0 hW hpc hPO hi hz hsz hby hc
  go_enter Try.func65, Try.ntmps65
  go_wp2_with fail
  rw [← HW.out]
  refine (HRI.out _).mono ?_
  rintro e w1 ⟨rfl, hx⟩
  have HP1 := Lib.hid (HP.out.ext hx); have HX1 := Lib.hid (HX0.out.trans hx)
  have HGS : Hid (w0.heap.size < w1.heap.size) := Lib.hid (Array.getElem?_eq_some_iff.1 HP1.out).1
  clear hx c0 l1 l2 l3 l4 l5
  obtain ⟨c0, l1, l2, l3, l4, l5⟩ := HP1.out.cells
  by_cases he : cErr c kind = 0
  case neg =>
    have HF := Lib.hid ((HCE.out (cErr c kind)).2 (by rw [if_pos he]))
    have HE := Lib.hid he
    have e1 : (((cErr c kind : Nat) : Int) != 0) = true := by simp; omega
    clear he
    generalize cErr c kind = E at *
    go_wp2
    exact HPE.out E _ HF.out HE.out HX1.out
  obtain ⟨z1, z2, z3, z4, z5, z6⟩ := cErr_zero he
  have HCE2 : Hid (∀ x, cpErr 2 c kind = x ↔ (if c.k = 0 then 12 else 0) = x) := Lib.hid fun x => by rw [HCE.out, if_neg (by omega)]
  rw [he]
  have hvl : c.v.t.length ≤ 2048 := by
    by_cases k1 : c.k = 2
    · exact (vErr_zero (z6 k1).1).2.2.2.2.2.2.2.1
    · rw [z4 (by omega)]; simp [Val.zero]
  have hn : IntKind.u64.wrap (c.v.t.length : Int) = (c.v.t.length : Int) := wrap_u64_of (by omega) (by omega)
  have hsa : (⟨c.v.t.toArray⟩ : ByteArray).size = c.v.t.length := by simp [ByteArray.size]
  unfold strV at l5
  by_cases k0 : c.k = 0
  · have e1 : (((c.k : Nat) : Int) == 0) = true := by rw [k0]; rfl
    have HF := Lib.hid ((HCE2.out 12).2 (by rw [if_pos k0]))
    clear he z1 z2 z3 z4 z5 z6 k0
    go_wp2
    exact HPE.out 12 _ HF.out (by decide) HX1.out
  have HF := Lib.hid ((HCE2.out 0).2 (by rw [if_neg k0]))
  have e0 : (((c.k : Nat) : Int) == 0) = false := by simp; omega
  by_cases k1 : c.k = 1
  · have e1 : (((c.k : Nat) : Int) == 1) = true := by rw [k1]; rfl
    have hrd := rd_new w1 [0] 5 (by unfold maxLen; simp)
    have HBS : Hid (cBytes 2 c = [0]) := Lib.hid (by unfold cBytes; rw [if_pos k1])
    have HRD := Lib.hid hrd
    clear he z1 z2 z3 z4 z5 z6 k0 k1 hrd
    go_wp2
    refine HP0.out _ _ HF.out (HX1.out.alloc _) ?_
    rw [HBS.out]
    exact HRD.out
  have e1 : (((c.k : Nat) : Int) == 1) = false := by simp; omega
  have k2 : c.k = 2 := by omega
  have hv := (z6 k2).1
  have hty := (z6 k2).2
  have HTX : Hid (∀ w, Calls Try.prog 96 #[.int .u8 (kind : Nat)] w fun e w' => e = .returned (.bool (texty c.v.ty)) ∧ w = w') := Lib.hid fun w => by rw [hty]; exact rTexty_any kind w
  have HRP := Lib.hid (fun w => rput_one c.v w 2 (by omega) HC.out.2 hv)
  have hBS : cBytes 2 c = if cLarge c = true then UInt8.ofNat (3 - 2) :: sev c.v.t.length else if texty c.v.ty = true then sev (c.v.t.length + 2) ++ c.v.t else vBytes 2 c.v := by
    unfold cBytes; rw [if_neg k1]; rfl
  have HBS := Lib.hid hBS
  have HVL := Lib.hid hvl
  have HVB := Lib.hid (vBytes_len (ver := 2) HC.out.2 hv)
  obtain ⟨n, hN⟩ : ∃ n, n = c.v.t.length := ⟨_, rfl⟩
  rw [← hN] at hn hsa HVL HBS
  have HN := Lib.hid hN
  clear he z1 z2 z3 z4 z5 z6 k0 k1 k2 hv hty hBS hvl hN
  go_wp2_with fail
  refine (HLG.out _).mono ?_
  rintro e w2 ⟨rfl, hx⟩
  have HP2 := Lib.hid (HP1.out.ext hx); have HX2 := Lib.hid (HX1.out.trans hx)
  have HGS2 : Hid (w0.heap.size < w2.heap.size) := Lib.hid (Array.getElem?_eq_some_iff.1 HP2.out).1
  clear hx c0 l1 l2 l3 l4 l5
  obtain ⟨c0, l1, l2, l3, l4, l5⟩ := HP2.out.cells
  by_cases hL : cLarge c = true
  · have HB2 : Hid (cBytes 2 c = [UInt8.ofNat (3 - 2)] ++ sev n) := Lib.hid (by rw [HBS.out, if_pos hL]; rfl)
    rw [hL]
    have HU := Lib.hid (fun w => refUint_any n w (by have := HVL.out; omega))
    have HO0 := Lib.hid (own_one w2 1)
    clear hL HBS c0 l1 l2 l3 l4 l5
    go_wp2_with (go_at_call 95; refine (HU.out _).mono ?_)
    intro e w3 hm
    obtain ⟨sv, rfl, hx, hr⟩ := hm.rd
    have HO3 := Lib.hid (HO0.out.ext hx)
    have HX3 := Lib.hid ((HX2.out.alloc (.cells #[.int .u8 1] 5)).trans hx)
    obtain ⟨sa, sc', rfl⟩ := hr.shape
    have HR := Lib.hid hr
    have HSL := Lib.hid (sev_length_10 n (by have := HVL.out; omega))
    have HS3 : Hid (w2.heap.size ≤ w3.heap.size) := Lib.hid (Nat.le_trans (by simp) hx.size)
    clear hx hr
    go_wp2_with (at_builtin; refine wpList_append_sl _ rfl _ _ 76 rfl w2.heap.size 5 i (.int .u8 0) 1 1 Try.underlying76 HI.out HZ.out HSZ.out HBY.out rfl (by decide) _ _ _ rfl HO3.out _ _ _ rfl HR.out (by rw [cellsB_length, Nat.mul_one]) (cellsB_one _) (by have := HSL.out; omega) (by have := HSL.out; unfold maxLen; omega) HS3.out ?_)
    intro v5 w5 hown hgrow
    have HX5 : Hid (Ext w0 w5) := Lib.hid (HX3.out.grown hgrow fun k hk => .inr (by have := (HO3.out.lt k hk).1; have := HGS2.out; omega))
    rw [← cellsB_append] at hown
    have HR5 := Lib.hid (rd_two (a := [1]) (b := sev n) hown)
    clear hown hgrow
    go_wp2
    refine HP0.out _ _ HF.out HX5.out ?_
    rw [HB2.out]
    exact HR5.out
  · have HB2 := Lib.hid (HBS.out.trans (if_neg hL))
    have hLf : cLarge c = false := by simpa using hL
    rw [hLf]
    clear hL hLf HBS
    by_cases ht : texty c.v.ty = true
    · have HB3 := Lib.hid (HB2.out.trans (if_pos ht))
      rw [ht] at HTX
      clear ht
      go_wp2_with (go_at_call 96; refine (HTX.out _).mono ?_; rintro e w' ⟨rfl, rfl⟩)
      have hw2 : IntKind.u64.wrap ((n : Int) + 2) = (n : Int) + 2 := by have := HVL.out; exact wrap_u64_of (by omega) (by omega)
      have HW2 := Lib.hid hw2
      have HSL := Lib.hid (sev_length_10 (n + 2) (by have := HVL.out; omega))
      have HU := Lib.hid (fun w => refUint_any (n + 2) w (by have := HVL.out; omega))
      clear hw2 c0 l1 l2 l3 l4 l5
      obtain ⟨l, hl⟩ : ∃ l, l = (sev (n + 2)).length := ⟨_, rfl⟩
      have HLN := Lib.hid hl; clear hl
      refine wp_region_late (rformT w2.heap.size w0.heap.size n c.v.t) (rformT' w2.heap.size n c.v.t) 7 (fun w' => Ext w0 w') mixedV (by rfl) (by rfl) (by decide) ?all ?fin
      case all =>
        refine ⟨?_, ?_, ?_, ?_, ?_, ?_, ?_, ?_, ?_, ?_, trivial⟩
        · refine StepG.early (by rfl) (by decide) rfl fun ρ w5 hρ hw hf => ?_
          have h9 : ρ (.tmp 9) = (.int .u64 (n : Nat)) := (hf 9).2 rfl rfl
          exact Exec.kmove rfl rfl h9
        · refine StepG.early (by rfl) (by decide) rfl fun ρ w5 hρ hw hf => ?_
          have h50 : ρ (.tmp 50) = (.int .u64 (n : Nat)) := (hf 50).1 rfl
          exact Exec.same (v := .int .u64 ((n + 2 : Nat) : Int)) rfl (by simp [go_sem, hρ.const, h50, HW2.out]) rfl
        · refine StepG.early (by rfl) (by decide) rfl fun ρ w5 hρ hw hf => ?_
          have h51 : ρ (.tmp 51) = (.int .u64 ((n + 2 : Nat) : Int)) := (hf 51).1 rfl
          exact Exec.kcall #[.int .u64 ((n + 2 : Nat) : Int)] hρ rfl rfl (by simp [h51]) Try.func95 (by kernel_rfl) (by kernel_rfl) ((HU.out w5).mono (by
            rintro e w6 ⟨s, rfl, h1, h2⟩
            exact ⟨_, rfl, ownsRow_base h2 hw.size, h1⟩))
        · refine StepG.early (by rfl) (by decide) rfl fun ρ w5 hρ hw hf => ?_
          have h3 : ρ (.tmp 3) = (.pointer (some ⟨w0.heap.size, 0, none⟩)) := (hf 3).2 rfl rfl
          exact Exec.kfield rfl rfl h3 (fieldRC_1 w5 w0.heap.size) rfl
        · refine StepG.early (by rfl) (by decide) rfl fun ρ w5 hρ hw hf => ?_
          have h53 : ρ (.tmp 53) = (.pointer (some ⟨w0.heap.size, 1, none⟩)) := (hf 53).1 rfl
          exact Exec.kfield rfl rfl h53 (field54_4' w5 w0.heap.size) rfl
        · refine StepG.early (by rfl) (by decide) rfl fun ρ w5 hρ hw hf => ?_
          have h54 : ρ (.tmp 54) = (.pointer (some ⟨w0.heap.size, 5, none⟩)) := (hf 54).1 rfl
          have hc := (HP2.out.ext hw).text
          exact Exec.same (v := strV c.v.t) rfl (by simp [go_sem, hρ.const, h54, hc]) rfl
        · refine StepG.early (by rfl) (by decide) rfl fun ρ w5 hρ hw hf => ?_
          have h55 : ρ (.tmp 55) = .string ⟨c.v.t.toArray⟩ := (hf 55).1 rfl
          exact Exec.kbytes rfl rfl Try.underlying9 Try.underlying76 Try.underlying5 h55 (by have h1 := HVL.out; have h2 := HN.out; unfold maxLen; omega) fun v w' hv => hv
        · refine StepG.write (late := [57, 6, 7]) (by rfl) rfl (fun d v w w' hd _ => by
            simp only [List.mem_cons, List.not_mem_nil, or_false, not_or] at hd
            unfold rformT'
            split <;> first | trivial | (exfalso; omega)) fun ρ w5 hρ hw hf => ?_
          have h52 : w5.ownsRow w2.heap.size 5 1 (ρ (.tmp 52)) (sev (n + 2)).length (cellsB (sev (n + 2))) := (hf 52).1 rfl
          have h56 : Rd w5 (ρ (.tmp 56)) c.v.t := (hf 56).1 rfl
          refine (Exec.kappend (m := c.v.t.length) rfl w2.heap.size Try.underlying76 HI.out HZ.out HSZ.out HBY.out rfl (by decide) rfl h52 h56 (by rw [cellsB_length, Nat.mul_one]) (cellsB_one _) (by have h1 := HVL.out; have h2 := HN.out; have h3 := HSL.out; omega) (by have h1 := HVL.out; have h2 := HN.out; have h3 := HSL.out; unfold maxLen; omega) hw.size).mono ?_
          rintro v w6 ⟨q1, q2⟩
          refine ⟨fun d hd => by cases hd; rw [← cellsB_append] at q1; exact q1, (HX2.out.trans hw).grown q2 fun kk hk => ?_⟩
          have := (h52.lt kk hk).1
          exact .inr (by have := HX2.out.size; omega)
        · refine StepG.later (late := [57, 6, 7]) (by rfl) (by decide) (by rfl) rfl fun ρ w5 hρ hw hf => ?_
          have h57 : w5.ownsRow w2.heap.size 5 1 (ρ (.tmp 57)) ((sev (n + 2)).length + c.v.t.length) (cellsB (sev (n + 2) ++ c.v.t)) := (hf 57).1 rfl
          exact Exec.value (v := ρ (.tmp 57)) (by unfold execOp; rfl) ⟨fun d hd => by cases hd; exact h57, rfl⟩
        · refine StepG.later (late := [57, 6, 7]) (by rfl) (by decide) (by rfl) rfl fun ρ w5 hρ hw hf => ?_
          exact Exec.value (v := .int .i64 0) (by unfold execOp; simp [hρ.const]) ⟨fun d hd => by cases hd; rfl, rfl⟩
      case fin =>
        intro ν w5 hfin hx
        have e6 : w5.ownsRow w2.heap.size 5 1 (ν 6) ((sev (n + 2)).length + c.v.t.length) (cellsB (sev (n + 2) ++ c.v.t)) := hfin 8 6 rfl
        have e7 : ν 7 = .int .i64 0 := hfin 9 7 rfl
        simp only [Exit.then, ended, List.foldl_cons, List.foldl_nil, List.setIfInBounds_toArray, List.set_cons_succ, List.set_cons_zero, e7]
        have HX3 := Lib.hid hx; have HR3 := Lib.hid (rd_two e6)
        clear hfin hx e6 e7
        generalize ν 6 = s6 at *
        obtain ⟨a6, c6, rfl⟩ := HR3.out.shape
        go_wp2
        refine HP0.out _ _ HF.out HX3.out ?_
        rw [HB3.out]
        exact HR3.out
    · have HB3 := Lib.hid (HB2.out.trans (if_neg ht))
      have htf : texty c.v.ty = false := by simpa using ht
      rw [htf] at HTX
      clear ht htf
      go_wp2_with (first
        | (go_at_call 96; refine (HTX.out _).mono ?_; rintro e w' ⟨rfl, rfl⟩)
        | (go_at_call 97; refine (HRP.out _).mono ?_))
      intro e w3 hm
      obtain ⟨s, rfl, hx, hr⟩ := hm
      have HX3 := Lib.hid (HX2.out.trans hx)
      have HR := Lib.hid hr
      clear hx hr c0 l1 l2 l3 l4 l5
      go_wp2
      refine HP0.out _ _ HF.out HX3.out ?_
      rw [HB3.out]
      exact HR.out

theorem rcput_any (c : Cel) (kind ver : Nat) (w0 : World) (hc : c.ok) :
    Calls Try.prog 65 #[rc c, .int .u8 (kind : Nat), .int .u8 (ver : Nat)] w0 (CPutPost [] ver c kind w0) := by
  by_cases h1 : ver = 1
  · subst h1; exact rcput_1 c kind w0 hc
  by_cases h2 : ver = 2
  · subst h2; exact rcput_2 c kind w0 hc
  exact rcput_bad c kind ver w0 ⟨h1, h2⟩
end Go.Proofs.Ytegclfpmgilnpaa
