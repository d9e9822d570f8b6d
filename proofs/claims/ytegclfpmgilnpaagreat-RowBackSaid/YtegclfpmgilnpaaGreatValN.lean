import Derived.Test.YtegclfpmgilnpaaGreatValL
import Derived.Test.YtegclfpmgilnpaaGreatGVal
namespace Go.Proofs.YtegclfpmgilnpaaGreat
open Go.RowKit Go.Lac
set_option maxRecDepth 20000 in
set_option maxHeartbeats 1600000 in
theorem form_any (v : Val) (ver : Nat) (w : World) (hok : v.ok) (he : vErr v = 0) (hv : ver = 1 ∨ ver = 2) :
    Calls Tryz.prog 118 #[pv v, .int .u8 (ver : Nat)] w (RdPost (vBytes ver v) w) := by
  obtain ⟨i, hi1, hz, hs, hb⟩ := info_parts infoU8
  obtain ⟨z1, z2, z3, z4, z5, z6, z7, z8, z9⟩ := vErr_zero he
  obtain ⟨o1, o2, o3, o4, o5⟩ := hok
  obtain ⟨k, n, re, im, t⟩ := v
  obtain ⟨BS, hBS⟩ : ∃ BS, BS = vBytes ver ⟨k, n, re, im, t⟩ := ⟨_, rfl⟩
  rw [← hBS]
  unfold vBytes at hBS
  unfold pv pvals strV
  simp only at *
  obtain ⟨W1, hW1⟩ : ∃ W1, W1 = w.alloc (.cells #[.int .u8 (k : Nat), .int .i64 n, .complex .f64 re im, .string ⟨t.toArray⟩] 88) := ⟨_, rfl⟩
  have hg := heap_alloc_new w (.cells #[.int .u8 (k : Nat), .int .i64 n, .complex .f64 re im, .string ⟨t.toArray⟩] 88)
  have hx1 : Ext w W1 := by rw [hW1]; exact (Ch.refl _ _).alloc _
  rw [← hW1] at hg
  have HTX := Lib.hid (fun w => putText_any (.slice none 0 0) [] t w (rd_nil w) (by simp) (by omega))
  generalize (⟨t.toArray⟩ : ByteArray) = A at *
  have c0 : W1.cell? ⟨w.heap.size, 0, none⟩ = some (.int .u8 (k : Nat)) := by rw [cell_of_row _ _ _ _ _ _ hg]; rfl
  have c1 : W1.cell? ⟨w.heap.size, 1, none⟩ = some (.int .i64 n) := by rw [cell_of_row _ _ _ _ _ _ hg]; rfl
  have c2 : W1.cell? ⟨w.heap.size, 2, none⟩ = some (.complex .f64 re im) := by rw [cell_of_row _ _ _ _ _ _ hg]; rfl
  have c3 : W1.cell? ⟨w.heap.size, 3, none⟩ = some (.string A) := by rw [cell_of_row _ _ _ _ _ _ hg]; rfl
  have HC0 := Lib.hid c0; have HC1 := Lib.hid c1; have HC2 := Lib.hid c2; have HC3 := Lib.hid c3
  have HX1 := Lib.hid hx1; have HW1 := Lib.hid hW1
  have HI1 := Lib.hid hi1; have HZ := Lib.hid hz; have HSZ := Lib.hid hs; have HB := Lib.hid hb
  have HIF := Lib.hid (fun w => intForm_any n ver w o2 o3)
  have HFF := Lib.hid (fun w => floatForm_any re ver w o4)
  have HCF := Lib.hid (fun w => complexForm_any re im ver w o4 o5 hv)
  obtain ⟨I1, hI1⟩ : ∃ x, x = (if ver = 1 then leN 8 (i64u n) else sev (Lib.zigzag n)) := ⟨_, rfl⟩
  obtain ⟨I2, hI2⟩ : ∃ x, x = (if ver = 1 then leN 8 re ++ leN 8 im else cplx re im) := ⟨_, rfl⟩
  rw [← hI1] at HIF hBS
  rw [← hI2] at HCF hBS
  clear hI1 hI2
  have hk : k = 1 ∨ k = 2 ∨ k = 3 ∨ k = 4 ∨ k = 5 ∨ k = 6 := by omega
  have H7 := Lib.hid z7
  clear z1 z2 z3 z4 z5 z6 z7 z8 z9 o1 o2 o3 o4 o5 he hg hx1 hW1 hi1 hz hs hb c0 c1 c2 c3 hv
  have key : ∀ (a : World), a = W1 → a.cell? ⟨w.heap.size, 0, none⟩ = some (.int .u8 (k : Nat)) ∧ a.cell? ⟨w.heap.size, 1, none⟩ = some (.int .i64 n) ∧ a.cell? ⟨w.heap.size, 2, none⟩ = some (.complex .f64 re im) ∧ a.cell? ⟨w.heap.size, 3, none⟩ = some (.string A) := fun a h => by subst h; exact ⟨HC0.out, HC1.out, HC2.out, HC3.out⟩
  have KEY := Lib.hid key; clear key
  rcases hk with hk | hk | hk | hk | hk | hk
  · have HBS : Hid (BS = [UInt8.ofNat n.toNat]) := Lib.hid (by rw [hBS]; simp [hk])
    have e1 : (((k : Nat) : Int) == 1) = true := by rw [hk]; rfl
    have hn : n = 0 ∨ n = 1 := H7.out hk
    have hw : IntKind.u8.wrap n = ((UInt8.ofNat n.toNat).toNat : Nat) := by rcases hn with rfl | rfl <;> rfl
    have HX2 : Hid (Ext w (W1.alloc (.cells (cellsB [UInt8.ofNat n.toNat]).toArray 5))) := Lib.hid (HX1.out.alloc _)
    have hrd := rd_new W1 [UInt8.ofNat n.toNat] 5 (by unfold maxLen; simp)
    rw [show W1.heap.size = w.heap.size + 1 by rw [HW1.out]; simp] at hrd
    have HRD := Lib.hid hrd
    clear hrd
    generalize UInt8.ofNat n.toNat = bb at *
    have hwm : n % 256 = (bb.toNat : Nat) := by rw [← hw, IntKind.wrap_u8]
    clear hBS hk hn
    go_enter Tryz.func118, Tryz.ntmps118
    go_wp2_with (go_at_call 88; refine (bits_any _ _ _).mono ?_; rintro e w' ⟨rfl, rfl⟩)
    go_ret
    rw [← HW1.out, HBS.out]
    exact ⟨_, rfl, HX2.out, HRD.out⟩
  · have HBS : Hid (BS = I1) := Lib.hid (by rw [hBS]; simp [hk])
    have e1 : (((k : Nat) : Int) == 1) = false := by rw [hk]; rfl
    have e2 : (((k : Nat) : Int) == 2) = true := by rw [hk]; rfl
    clear hBS hk
    go_enter Tryz.func118, Tryz.ntmps118
    go_wp2_with (first
      | (go_at_call 88; refine (bits_any _ _ _).mono ?_; rintro e w' ⟨rfl, rfl⟩)
      | (go_at_call 126; refine (HIF.out _).mono ?_))
    intro e w2 hm
    obtain ⟨s2, rfl, h3, h4⟩ := hm
    have HX2 := Lib.hid ((show Ext w _ by rw [← HW1.out]; exact HX1.out).trans h3)
    have HR2 := Lib.hid h4
    clear h3 h4
    go_wp2
    go_ret
    exact ⟨_, rfl, HX2.out, by rw [HBS.out]; exact HR2.out⟩
  · have HBS : Hid (BS = flt ver re) := Lib.hid (by rw [hBS]; simp [hk])
    have e1 : (((k : Nat) : Int) == 1) = false := by rw [hk]; rfl
    have e2 : (((k : Nat) : Int) == 2) = false := by rw [hk]; rfl
    have e3 : (((k : Nat) : Int) == 3) = true := by rw [hk]; rfl
    clear hBS hk
    go_enter Tryz.func118, Tryz.ntmps118
    go_wp2_with (first
      | (go_at_call 88; refine (bits_any _ _ _).mono ?_; rintro e w' ⟨rfl, rfl⟩)
      | (go_at_call 127; refine (HFF.out _).mono ?_))
    intro e w2 hm
    obtain ⟨s2, rfl, h3, h4⟩ := hm
    have HX2 := Lib.hid ((show Ext w _ by rw [← HW1.out]; exact HX1.out).trans h3)
    have HR2 := Lib.hid h4
    clear h3 h4
    go_wp2
    go_ret
    exact ⟨_, rfl, HX2.out, by rw [HBS.out]; exact HR2.out⟩
  · have HBS : Hid (BS = I2) := Lib.hid (by rw [hBS]; simp [hk])
    have e1 : (((k : Nat) : Int) == 1) = false := by rw [hk]; rfl
    have e2 : (((k : Nat) : Int) == 2) = false := by rw [hk]; rfl
    have e3 : (((k : Nat) : Int) == 3) = false := by rw [hk]; rfl
    have e4 : (((k : Nat) : Int) == 4) = true := by rw [hk]; rfl
    clear hBS hk
    go_enter Tryz.func118, Tryz.ntmps118
    go_wp2_with (first
      | (go_at_call 88; refine (bits_any _ _ _).mono ?_; rintro e w' ⟨rfl, rfl⟩)
      | (go_at_call 128; refine (HCF.out _).mono ?_))
    intro e w2 hm
    obtain ⟨s2, rfl, h3, h4⟩ := hm
    have HX2 := Lib.hid ((show Ext w _ by rw [← HW1.out]; exact HX1.out).trans h3)
    have HR2 := Lib.hid h4
    clear h3 h4
    go_wp2
    go_ret
    exact ⟨_, rfl, HX2.out, by rw [HBS.out]; exact HR2.out⟩
  · have HBS : Hid (BS = [] ++ txt t) := Lib.hid (by rw [hBS]; simp [hk])
    have e1 : (((k : Nat) : Int) == 1) = false := by rw [hk]; rfl
    have e2 : (((k : Nat) : Int) == 2) = false := by rw [hk]; rfl
    have e3 : (((k : Nat) : Int) == 3) = false := by rw [hk]; rfl
    have e4 : (((k : Nat) : Int) == 4) = false := by rw [hk]; rfl
    clear hBS hk
    go_enter Tryz.func118, Tryz.ntmps118
    go_wp2_with (first
      | (go_at_call 88; refine (bits_any _ _ _).mono ?_; rintro e w' ⟨rfl, rfl⟩)
      | (go_at_call 129; refine (HTX.out _).mono ?_))
    intro e w2 hm
    obtain ⟨s2, rfl, h3, h4⟩ := hm.rd
    have HX2 := Lib.hid ((show Ext w _ by rw [← HW1.out]; exact HX1.out).trans h3)
    have HR2 := Lib.hid h4
    clear h3 h4 hm
    go_wp2
    go_ret
    exact ⟨_, rfl, HX2.out, by rw [HBS.out]; exact HR2.out⟩
  · have HBS : Hid (BS = [] ++ txt t) := Lib.hid (by rw [hBS]; simp [hk])
    have e1 : (((k : Nat) : Int) == 1) = false := by rw [hk]; rfl
    have e2 : (((k : Nat) : Int) == 2) = false := by rw [hk]; rfl
    have e3 : (((k : Nat) : Int) == 3) = false := by rw [hk]; rfl
    have e4 : (((k : Nat) : Int) == 4) = false := by rw [hk]; rfl
    clear hBS hk
    go_enter Tryz.func118, Tryz.ntmps118
    go_wp2_with (first
      | (go_at_call 88; refine (bits_any _ _ _).mono ?_; rintro e w' ⟨rfl, rfl⟩)
      | (go_at_call 129; refine (HTX.out _).mono ?_))
    intro e w2 hm
    obtain ⟨s2, rfl, h3, h4⟩ := hm.rd
    have HX2 := Lib.hid ((show Ext w _ by rw [← HW1.out]; exact HX1.out).trans h3)
    have HR2 := Lib.hid h4
    clear h3 h4 hm
    go_wp2
    go_ret
    exact ⟨_, rfl, HX2.out, by rw [HBS.out]; exact HR2.out⟩
def putE (ver : Nat) (v : Val) : Nat := if ver ≠ 1 ∧ ver ≠ 2 then 18 else vErr v
def PutPost (b : List UInt8) (ver : Nat) (v : Val) (w : World) (e : Ending) (w' : World) : Prop :=
  ∃ s, e = .returned (.tuple #[s, .int .i64 (putE ver v : Nat)]) ∧ Ext w w' ∧ Rd w' s (if putE ver v = 0 then b ++ vBytes ver v else [])
theorem vBytes_len {ver : Nat} {v : Val} (hok : v.ok) (he : vErr v = 0) : (vBytes ver v).length ≤ 2100 := by
  obtain ⟨z1, z2, z3, z4, z5, z6, z7, z8, z9⟩ := vErr_zero he
  obtain ⟨o1, o2, o3, o4, o5⟩ := hok
  have hf : ∀ u, u < 18446744073709551616 → (flt ver u).length ≤ 10 := fun u hu => by
    unfold flt
    split
    · rw [leN_length]; omega
    · exact sev_length_10 _ (rev8_lt u)
  unfold vBytes
  split
  · simp
  split
  · split
    · rw [leN_length]; omega
    · have := sev_length_10 _ (zig_lt v.i o2 o3); omega
  split
  · have := hf v.re o4; omega
  split
  · split
    · rw [List.length_append, leN_length, leN_length]; omega
    · unfold cplx partB
      have h1 := flt_len v.re o4
      have h2 := flt_len v.im o5
      rw [List.length_cons, List.length_append]
      split <;> split <;> simp <;> omega
  · unfold txt
    rw [List.length_append]
    have := sev_length_10 v.t.length (by omega)
    omega
end Go.Proofs.YtegclfpmgilnpaaGreat
