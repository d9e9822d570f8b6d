/-
  Relations: Encode.
-/
import Derived.Test.YtcejjckhhdgdnaaRelJ
import Derived.Test.YtcejjckhhdgdnaaPrimB
namespace Go.Proofs.Ytcejjckhhdgdnaa
open Go.RowKit Go.Lac

theorem row_cells {w : World} {g : Nat} {r : Rl} {cv : Value} {T : TypeId} (h : w.heap[g]? = some (.cells (relv r cv) T (0, 0))) :
    w.cell? ⟨g, 0, none⟩ = some (.int .u32 (r.oid : Nat)) ∧ w.cell? ⟨g, 1, none⟩ = some (.int .u32 (r.ver : Nat)) ∧ w.cell? ⟨g, 2, none⟩ = some (.string ⟨r.name.toArray⟩) ∧
    w.cell? ⟨g, 3, none⟩ = some (.int .u8 (r.ident : Nat)) ∧ w.cell? ⟨g, 4, none⟩ = some cv :=
  ⟨by rw [cell_of_row _ _ _ _ _ _ h]; rfl, by rw [cell_of_row _ _ _ _ _ _ h]; rfl, by rw [cell_of_row _ _ _ _ _ _ h]; rfl, by rw [cell_of_row _ _ _ _ _ _ h]; rfl, by rw [cell_of_row _ _ _ _ _ _ h]; rfl⟩
theorem txt_len {s : List UInt8} (h : s.length ≤ 31) : (txt s).length ≤ 41 := by
  have := sev_length_10 s.length (by omega)
  unfold txt
  rw [List.length_append]
  omega
theorem colB_len {c : Col} (h : NameOk c.name) : (colB c).length ≤ 42 := by
  have := txt_len h.2.1
  unfold colB
  rw [List.length_append]
  simp only [List.length_cons, List.length_nil]
  omega
theorem colsB_len : ∀ (l : List Col), (∀ c ∈ l, NameOk c.name) → (l.flatMap colB).length ≤ l.length * 42
  | [], _ => by simp
  | c :: l, h => by
    have h1 := colB_len (h c List.mem_cons_self)
    have h2 := colsB_len l fun x hx => h x (List.mem_cons_of_mem _ hx)
    rw [List.flatMap_cons, List.length_append, List.length_cons]
    omega
theorem ownsRow_base {w : World} {b b' : Nat} {e : TypeId} {size : Nat} {v : Value} {n : Nat} {xs : List Value} (h : w.ownsRow b e size v n xs) (hb : b' ≤ b) : w.ownsRow b' e size v n xs := by
  refine ⟨h.1, ?_⟩
  rcases h.2 with ⟨h1, h2⟩ | ⟨g, cap, cur, h1, h2, h3⟩
  · exact .inl ⟨h1, h2⟩
  · exact .inr ⟨g, cap, cur, h1, by omega, h3⟩
def EncPost (E : Nat) (bs : List UInt8) (w : World) (e : Ending) (w' : World) : Prop :=
  ∃ s, e = .returned (.tuple #[s, .int .i64 (E : Nat)]) ∧ Ext w w' ∧ Rd w' s (if E = 0 then bs else [])
def encT (g base n : Nat) (bs tx : List UInt8) (x : Col) (A : ByteArray) : Tmp → Kn
  | 46 => .rd bs
  | 47 => .is (.pointer (some ⟨g, 0, none⟩))
  | 48 => .is (.string A)
  | 49 => Kn.own base 5 n (cellsB tx)
  | 50 => .is (pcol x)
  | 51 => .is (.int .u8 (colForm x : Nat))
  | 52 => .rd [UInt8.ofNat (colForm x)]
  | _ => .any
def encT' (base n : Nat) (tx : List UInt8) (x : Col) : Tmp → Kn
  | 53 => Kn.own base 5 (n + 1) (cellsB (tx ++ [UInt8.ofNat (colForm x)]))
  | 5 => Kn.own base 5 (n + 1) (cellsB (tx ++ [UInt8.ofNat (colForm x)]))
  | _ => .any
theorem fieldCo_0 (w : World) (b : Nat) : (Instr.fieldAt 49 (.pointer (some ⟨b, 0, none⟩)) 0).run Try.prog w = .ok (.pointer (some ⟨b, 0, none⟩)) w := by kernel_rfl

set_option maxRecDepth 20000 in
set_option maxHeartbeats 4000000 in
theorem relEnc_any (r : Rl) (cv : Value) (w : World) (hb : ColS w cv r.cols) (hf : r.fits) (hok : r.ok) :
    Calls Try.prog 14 #[.agg (relv r cv)] w (EncPost (rlErr r) (rlBytes r) w) := by
  have h1 := heap_alloc_new w (.cells (relv r cv) 32)
  obtain ⟨W, hW⟩ : ∃ W, W = w.alloc (.cells (relv r cv) 32) := ⟨_, rfl⟩
  have hx : Ext w W := by rw [hW]; exact (Ch.refl _ _).alloc _
  rw [← hW] at h1
  have HG := Lib.hid h1; have HX := Lib.hid hx; have HW := Lib.hid hW
  have HB := Lib.hid (ColS.ext hb hx)
  have HR := Lib.hid (relRight_any r cv W HB.out hf)
  obtain ⟨c0, c1, c2, c3, c4⟩ := row_cells h1
  have HZ := Lib.hid (rlErr_zero (r := r))
  have HOK := Lib.hid hok
  have HEE := Lib.hid (Nat.eq_zero_or_pos (rlErr r))
  generalize hE : rlErr r = E at *
  clear hE h1 hx hb hf hok
  obtain ⟨ao, cap, rfl, hlc, _⟩ := HB.out
  rw [hW] at c0 c1 c2 c3 c4
  clear hW
  unfold relv strV at *
  generalize hA : (⟨r.name.toArray⟩ : ByteArray) = A1 at *
  have HA := Lib.hid hA; clear hA
  generalize hm : r.cols.length = m at *
  have HM := Lib.hid hm; clear hm
  have HLC := Lib.hid hlc; clear hlc
  go_enter Try.func14, Try.ntmps14
  go_wp2_with fail
  rw [← HW.out]
  refine HR.out.mono ?_
  rintro e w1 ⟨rfl, hx⟩
  have HX1 := Lib.hid hx
  clear c0 c1 c2 c3 c4 hx
  rcases HEE.out with hE | hE
  case inr =>
    have e1 : (((E : Nat) : Int) != 0) = true := by simp; omega
    have hne : ¬ E = 0 := by omega
    have HN := Lib.hid hne
    clear hE hne
    go_wp2
    refine bodyPost_ret (results_tmp2 rfl _ _ _) rfl ?_
    exact ⟨_, rfl, HX.out.trans HX1.out, by rw [if_neg HN.out]; exact rd_nil _⟩
  have HE0 := Lib.hid hE
  clear HEE
  have HZZ := Lib.hid (HZ.out hE)
  rw [hE, Int.natCast_zero]
  clear hE HZ
  obtain ⟨o1, o2, o3, o4⟩ := HOK.out
  have HID := Lib.hid o3; have HO4 := Lib.hid o4
  have hv1 : IntKind.u64.wrap (r.oid : Int) = (r.oid : Int) := wrap_u64_of (by omega) (by omega)
  have hv2 : IntKind.u64.wrap (r.ver : Int) = (r.ver : Int) := wrap_u64_of (by omega) (by omega)
  have HP1 := Lib.hid (fun w => putUint_any (.slice none 0 0) [] r.oid w (rd_nil w) (by simp) (by omega))
  have HP2 := Lib.hid (fun v w h => putUint_any v (sev r.oid) r.ver w h (by have := sev_length_10 r.oid (by omega); omega) (by omega))
  have hs1 := sev_length_10 r.oid (by omega)
  have hs2 := sev_length_10 r.ver (by omega)
  have hnl := HZZ.out.2.2.1.2.1
  have htl := txt_len hnl
  obtain ⟨b1, hb1⟩ : ∃ b1, b1 = sev r.oid ++ sev r.ver := ⟨_, rfl⟩
  have hb1l : b1.length ≤ 20 := by rw [hb1, List.length_append]; omega
  have HP3 := Lib.hid (fun v w h => putText_any v b1 r.name w h (by omega) (by omega))
  obtain ⟨b2, hb2⟩ : ∃ b2, b2 = b1 ++ txt r.name := ⟨_, rfl⟩
  have hb2l : b2.length ≤ 61 := by rw [hb2, List.length_append]; omega
  have HB2L := Lib.hid hb2l
  have HB1 := Lib.hid hb1; have HB2 := Lib.hid hb2
  have HHA := HA.out
  rw [HHA] at HP3
  rw [← hb2] at HP3
  rw [← hb1] at HP2
  rw [List.nil_append] at HP1
  have hm16 := HZZ.out.2.2.2.2.2.1
  obtain ⟨b3, hb3⟩ : ∃ b3, b3 = b2 ++ [UInt8.ofNat r.ident] := ⟨_, rfl⟩
  have hb3l : b3.length ≤ 62 := by rw [hb3, List.length_append]; simp only [List.length_cons, List.length_nil]; omega
  have HB3 := Lib.hid hb3
  obtain ⟨b4, hb4⟩ : ∃ b4, b4 = b3 ++ sev m := ⟨_, rfl⟩
  have HB4 := Lib.hid hb4
  have hs4 := sev_length_10 m (by omega)
  have hb4l : b4.length ≤ 72 := by rw [hb4, List.length_append]; omega
  have HB4L := Lib.hid hb4l
  have HP4 := Lib.hid (fun v w h => putUint_any v b3 m w h (by omega) (by omega))
  rw [← hb4] at HP4
  have HCN := Lib.hid (colsErr_zero _ _ HZZ.out.2.2.2.2.2.2.1)
  have HM16 := Lib.hid hm16
  have HEND : Hid (b4 ++ r.cols.flatMap colB = rlBytes r) := Lib.hid (by rw [hb4, hb3, hb2, hb1]; unfold rlBytes; rw [HM.out])
  clear hb1 hb2 hb3 hb4 hb1l hb2l hb3l hb4l hs1 hs2 hs4 htl hnl hm16 o1 o2 o3 o4 HHA HA
  obtain ⟨c0, c1, c2, c3, c4⟩ : w1.cell? ⟨w.heap.size, 0, none⟩ = some (.int .u32 (r.oid : Nat)) ∧ w1.cell? ⟨w.heap.size, 1, none⟩ = some (.int .u32 (r.ver : Nat)) ∧ w1.cell? ⟨w.heap.size, 2, none⟩ = some (.string A1) ∧ w1.cell? ⟨w.heap.size, 3, none⟩ = some (.int .u8 (r.ident : Nat)) ∧ w1.cell? ⟨w.heap.size, 4, none⟩ = some (.slice ao m cap) := by
    have h := heap_of_ext HX1.out HG.out
    exact ⟨by rw [cell_of_row _ _ _ _ _ _ h]; rfl, by rw [cell_of_row _ _ _ _ _ _ h]; rfl, by rw [cell_of_row _ _ _ _ _ _ h]; rfl, by rw [cell_of_row _ _ _ _ _ _ h]; rfl, by rw [cell_of_row _ _ _ _ _ _ h]; rfl⟩
  generalize r.oid = n1 at *
  generalize r.ver = n2 at *
  go_wp2_with fail
  refine (HP1.out _).mono ?_
  rintro e w2 ⟨s1, rfl, hx, hr⟩
  have HX2 := Lib.hid (HX1.out.trans hx)
  have HR1 := Lib.hid (Rd.ofOwns hr)
  obtain ⟨a1, cp1, rfl⟩ := owns_shape hr
  have c0 := hx.cell (p := ⟨w.heap.size, 0, none⟩) (fun f => f) _ c0
  have c1 := hx.cell (p := ⟨w.heap.size, 1, none⟩) (fun f => f) _ c1
  have c2 := hx.cell (p := ⟨w.heap.size, 2, none⟩) (fun f => f) _ c2
  have c3 := hx.cell (p := ⟨w.heap.size, 3, none⟩) (fun f => f) _ c3
  have c4 := hx.cell (p := ⟨w.heap.size, 4, none⟩) (fun f => f) _ c4
  clear hx hr
  go_wp2_with fail
  refine (HP2.out _ _ HR1.out).mono ?_
  rintro e w3 ⟨s2, rfl, hx, hr⟩
  have HX3 := Lib.hid (HX2.out.trans hx)
  have HR2 := Lib.hid (Rd.ofOwns hr)
  obtain ⟨a2, cp2, rfl⟩ := owns_shape hr
  have c2 := hx.cell (p := ⟨w.heap.size, 2, none⟩) (fun f => f) _ c2
  have c3 := hx.cell (p := ⟨w.heap.size, 3, none⟩) (fun f => f) _ c3
  have c4 := hx.cell (p := ⟨w.heap.size, 4, none⟩) (fun f => f) _ c4
  clear hx hr c0 c1 HR1
  go_wp2_with fail
  refine (HP3.out _ _ HR2.out).mono ?_
  rintro e w4 ⟨s3, rfl, hx, hr⟩
  have HX4 := Lib.hid (HX3.out.trans hx)
  have HO3 := Lib.hid hr
  have HS3 := Lib.hid hx.size; have HXX3 := Lib.hid hx
  obtain ⟨a3, cp3, rfl⟩ := owns_shape hr
  have c3 := hx.cell (p := ⟨w.heap.size, 3, none⟩) (fun f => f) _ c3
  have c4 := hx.cell (p := ⟨w.heap.size, 4, none⟩) (fun f => f) _ c4
  clear hx hr c2 HR2
  generalize hl2 : b2.length = l2 at *
  have HL2 := Lib.hid hl2; clear hl2
  obtain ⟨i, hi1, hz, hs, hby⟩ := info_parts infoU8
  have HI := Lib.hid hi1; have HZ1 := Lib.hid hz; have HSZ := Lib.hid hs; have HBY := Lib.hid hby
  clear hi1 hz hs hby
  have HU8 := Lib.hid (cellB_ofNat HID.out)
  have hal := HO3.out.alloc (.cells #[.int .u8 (r.ident : Nat)] 5)
  go_wp2_with (at_builtin; refine wpList_append_own _ rfl _ _ 34 rfl w3.heap.size 5 i (.int .u8 0) 1 1 Try.underlying34 HI.out HZ1.out HSZ.out HBY.out rfl (by decide) _ _ _ rfl hal ⟨w4.heap.size, 0, none⟩ 1 1 [.int .u8 (r.ident : Nat)] rfl rfl ?c1 ?c2 ?c3 ?c4 ?c5 ?_)
  case c1 => exact new_cells w4 _ _
  case c2 => exact one_oneCell rfl
  case c3 => unfold maxLen; have h1 := HB2L.out; have h2 := HL2.out; omega
  case c4 => have h1 := HB2L.out; have h2 := HL2.out; omega
  case c5 => have := HS3.out; simp; omega
  intro v5 w5 hown hgrow _
  have hx5 : Ext w3 w5 := (HXX3.out.alloc _).grown hgrow fun k hk => .inr (HO3.out.lt k hk).1
  have HX5 := Lib.hid (HX3.out.trans hx5)
  have c4 : w5.cell? ⟨w.heap.size, 4, none⟩ = some (.slice ao m cap) := by
    have h := heap_of_ext HX5.out HG.out
    rw [cell_of_row _ _ _ _ _ _ h]; rfl
  have hrd : Rd w5 v5 b3 := by
    have h := Sl.ofOwns hown
    unfold Rd
    rw [HB3.out, List.length_append, cellsB_append, HL2.out]
    have e : cellsB [UInt8.ofNat r.ident] = [.int .u8 (r.ident : Nat)] := by simp only [cellsB, List.map_cons, List.map_nil]; rw [HU8.out]
    rw [e]
    exact h
  have HR5 := Lib.hid hrd
  obtain ⟨a5, cp5, rfl⟩ := hrd.shape
  have hvm : IntKind.u64.wrap (m : Int) = (m : Int) := wrap_u64_of (by omega) (by have := HM16.out; omega)
  clear hown hgrow hx5 hrd hal c3 HO3 HXX3 HS3
  generalize b3.length = l3 at *
  go_wp2_with fail
  refine (HP4.out _ _ HR5.out).mono ?_
  rintro e w6 ⟨s6, rfl, hx, hr⟩
  have HX6 := Lib.hid (HX5.out.trans hx)
  have HR6 := Lib.hid (Rd.ofOwns hr)
  obtain ⟨a6, cp6, rfl⟩ := owns_shape hr
  have c4 := hx.cell (p := ⟨w.heap.size, 4, none⟩) (fun f => f) _ c4
  clear hx hr HR5 hvm HP1 HP2 HP3 HP4
  generalize hl4 : b4.length = l4 at *
  have HL4 := Lib.hid hl4; clear hl4
  obtain ⟨ci, chi, _, chs, _⟩ := info_parts infoCoZ
  have CHI := Lib.hid chi; have CHS := Lib.hid chs
  clear chi chs
  generalize hcs : r.cols = cs at *
  have HCS := Lib.hid hcs; clear hcs
  go_wp2
  go_loopw [5, 42] (fun vb ix wr => ∃ k : Nat, k ≤ m ∧ ix = .int .i64 k ∧ Hid (Ext W wr) ∧ Rd wr vb (b4 ++ (cs.take k).flatMap colB)) (fun _ ix _ => m - (intOf ix).toNat)
  case atStart => exact ⟨0, Nat.zero_le _, rfl, HX6, by simpa using HR6.out⟩
  case round =>
    obtain ⟨k, hk, rfl, HXr, hrb⟩ := hrel
    obtain ⟨ab, cb, rfl⟩ := hrb.shape
    have HRB := Lib.hid hrb; clear hrb
    generalize hln : (b4 ++ (cs.take k).flatMap colB).length = ln at *
    by_cases hlt : k < m
    · have hkl : k < cs.length := by have := HM.out; omega
      have hcs := ColS.ext HB.out HXr.out
      obtain ⟨b, o, rfl, hra⟩ := colS_at hcs hkl
      have hidx := run_indexSl wr Try.underlying30 CHI.out CHS.out b o m cap k hlt
      have q0 : wr.cell? ⟨b, o + k * 3, none⟩ = some (.string ⟨cs[k].name.toArray⟩) := by have := hra 0 _ rfl; simpa [strV] using this
      have q1 : wr.cell? ⟨b, o + k * 3 + 1, none⟩ = some (.int .u8 (cs[k].ty : Nat)) := hra 1 _ rfl
      have q2 : wr.cell? ⟨b, o + k * 3 + 2, none⟩ = some (.bool cs[k].key) := hra 2 _ rfl
      have hcn := HCN.out cs[k] (List.getElem_mem hkl)
      have hbl : (b4 ++ (cs.take k).flatMap colB).length ≤ 1000 := by
        have h1 := HB4L.out
        have h4 := HL4.out
        have h2 := colsB_len (cs.take k) fun c hc => (HCN.out c (List.mem_of_mem_take hc)).1
        have h3 := HM16.out
        rw [List.length_take] at h2
        rw [List.length_append]
        omega
      have hnx : b4 ++ (cs.take (k + 1)).flatMap colB = (b4 ++ (cs.take k).flatMap colB) ++ colB cs[k] := by
        rw [List.take_succ_eq_append_getElem hkl, List.flatMap_append, List.append_assoc]; simp
      obtain ⟨x, hx⟩ : ∃ x, x = cs[k] := ⟨_, rfl⟩
      rw [← hx] at q0 q1 q2 hcn hnx
      obtain ⟨bs, hbs⟩ : ∃ bs, bs = b4 ++ (cs.take k).flatMap colB := ⟨_, rfl⟩
      rw [← hbs] at hnx hbl HRB hln
      have HNX := Lib.hid hnx; have HLT := Lib.hid hlt; have HLN := Lib.hid hln; have HBL := Lib.hid hbl; have HCX := Lib.hid hcn
      clear hra hcs hx hbs hnx hln hbl hcn
      go_wp2
      have hrow := heap_alloc_new wr (.cells (colv x) 49)
      obtain ⟨w0, hw0⟩ : ∃ w0, w0 = wr.alloc (.cells (colv x) 49) := ⟨_, rfl⟩
      rw [← hw0] at hrow
      have hxa : Ext wr w0 := by rw [hw0]; exact (Ch.refl _ _).alloc _
      have HROW := Lib.hid hrow; have HXA := Lib.hid hxa; have HW0 := Lib.hid hw0
      have HPT := Lib.hid (fun v w h => putText_any v bs x.name w h (by have := HBL.out; omega) (by have := HCX.out.1.2.1; omega))
      have HFM := Lib.hid (fun w => form_any x w (by have := HCX.out.2.2; omega))
      have HFB : Hid (((UInt8.ofNat (colForm x)).toNat : Int) = (colForm x : Nat)) := Lib.hid (by
        have := HCX.out.2.2
        have h : colForm x < 256 := by unfold colForm; split <;> omega
        simp [Nat.mod_eq_of_lt h])
      have HTL := Lib.hid (txt_len HCX.out.1.2.1)
      clear hrow hxa q0 q1 q2 hidx
      have hst : wr.alloc (.cells #[.string ⟨x.name.toArray⟩, .int .u8 (x.ty : Nat), .bool x.key] 49) = w0 := hw0.symm
      rw [hst]
      clear hst hw0
      obtain ⟨tx, htx⟩ : ∃ tx, tx = bs ++ txt x.name := ⟨_, rfl⟩
      have HTX := Lib.hid htx
      rw [← htx] at HPT
      have htl : tx.length ≤ 1041 := by rw [htx, List.length_append]; have h1 := HTL.out; have h2 := HBL.out; omega
      have HTXL := Lib.hid htl
      clear htx htl
      refine wp_region_late (encT wr.heap.size w0.heap.size tx.length bs tx x ⟨x.name.toArray⟩) (encT' w0.heap.size tx.length tx x) 7 (fun w' => Ext w0 w') mixedV (by rfl) (by rfl) (by decide) ?all ?fin
      case all =>
        refine ⟨?_, ?_, ?_, ?_, ?_, ?_, ?_, ?_, ?_, trivial⟩
        · refine StepG.early (by rfl) (by decide) rfl fun ρ w5 hρ hw hf => ?_
          have h : ρ (.tmp 5) = .slice ab ln cb := (hf 5).2 rfl rfl
          exact Exec.kmove rfl rfl (by rw [h]; exact (HRB.out.ext HXA.out).ext hw)
        · refine StepG.early (by rfl) (by decide) rfl fun ρ w5 hρ hw hf => ?_
          have h : ρ (.tmp 7) = .pointer (some ⟨wr.heap.size, 0, none⟩) := (hf 7).2 rfl rfl
          exact Exec.kfield rfl rfl h (fieldCo_0 w5 _) rfl
        · refine StepG.early (by rfl) (by decide) rfl fun ρ w5 hρ hw hf => ?_
          have h : ρ (.tmp 47) = .pointer (some ⟨wr.heap.size, 0, none⟩) := (hf 47).1 rfl
          have hc : w5.cell? ⟨wr.heap.size, 0, none⟩ = some (.string ⟨x.name.toArray⟩) := by rw [cell_of_row _ _ _ _ _ _ (heap_of_ext hw HROW.out)]; rfl
          exact Exec.same (v := .string ⟨x.name.toArray⟩) rfl (by simp [go_sem, hρ.const, h, hc]) rfl
        · refine StepG.early (by rfl) (by decide) rfl fun ρ w5 hρ hw hf => ?_
          have h1 : Rd w5 (ρ (.tmp 46)) bs := (hf 46).1 rfl
          have h2 : ρ (.tmp 48) = .string ⟨x.name.toArray⟩ := (hf 48).1 rfl
          exact Exec.kcall #[ρ (.tmp 46), .string ⟨x.name.toArray⟩] hρ rfl rfl (by simp [h2]) Try.func45 (by rfl) (by rfl) ((HPT.out _ w5 h1).mono (by
            rintro e w6 ⟨s, rfl, h1, h2⟩
            exact ⟨_, rfl, ownsRow_base h2 hw.size, h1⟩))
        · refine StepG.early (by rfl) (by decide) rfl fun ρ w5 hρ hw hf => ?_
          have h : ρ (.tmp 7) = .pointer (some ⟨wr.heap.size, 0, none⟩) := (hf 7).2 rfl rfl
          exact Exec.kloadrow rfl rfl h (heap_of_ext hw HROW.out) Try.underlying49 rfl infoCo rfl
        · refine StepG.early (by rfl) (by decide) rfl fun ρ w5 hρ hw hf => ?_
          have h1 : ρ (.tmp 50) = pcol x := (hf 50).1 rfl
          exact Exec.kcall #[pcol x] hρ rfl rfl (by simp [h1]) Try.func46 (by rfl) (by rfl) ((HFM.out w5).mono (by rintro e w6 ⟨rfl, hx⟩; exact ⟨_, rfl, rfl, hx⟩))
        · refine StepG.early (by rfl) (by decide) rfl fun ρ w5 hρ hw hf => ?_
          have h1 : ρ (.tmp 51) = .int .u8 (colForm x : Nat) := (hf 51).1 rfl
          exact Exec.kbyte (b := UInt8.ofNat (colForm x)) rfl rfl Try.underlying34 HI.out HZ1.out HSZ.out (by rw [h1]; congr 1; exact HFB.out.symm) fun v w' hv => hv
        · refine StepG.write (late := [53, 5]) (by rfl) rfl (fun d v w w' hd _ => by
            simp only [List.mem_cons, List.not_mem_nil, or_false, not_or] at hd
            unfold encT'
            split <;> first | trivial | (exfalso; omega)) fun ρ w5 hρ hw hf => ?_
          have h1 : w5.ownsRow w0.heap.size 5 1 (ρ (.tmp 49)) tx.length (cellsB tx) := (hf 49).1 rfl
          have h2 : Rd w5 (ρ (.tmp 52)) [UInt8.ofNat (colForm x)] := (hf 52).1 rfl
          refine (Exec.kappend (m := 1) rfl w0.heap.size Try.underlying34 HI.out HZ1.out HSZ.out HBY.out rfl (by decide) rfl h1 h2 (by rfl) (cellsB_one _) (by have := HTXL.out; omega) (by have := HTXL.out; unfold maxLen; omega) hw.size).mono ?_
          rintro v w6 ⟨q1, q2⟩
          refine ⟨fun d hd => by cases hd; rw [← cellsB_append] at q1; exact q1, hw.grown q2 fun kk hk => .inr (h1.lt kk hk).1⟩
        · refine StepG.later (late := [53, 5]) (by rfl) (by decide) (by rfl) rfl fun ρ w5 hρ hw hf => ?_
          have h : w5.ownsRow w0.heap.size 5 1 (ρ (.tmp 53)) (tx.length + 1) (cellsB (tx ++ [UInt8.ofNat (colForm x)])) := (hf 53).1 rfl
          exact Exec.value (v := ρ (.tmp 53)) (by unfold execOp; rfl) ⟨fun d hd => by cases hd; exact h, rfl⟩
      case fin =>
        intro ν w5 hfin hx
        have e5 : w5.ownsRow w0.heap.size 5 1 (ν 5) (tx.length + 1) (cellsB (tx ++ [UInt8.ofNat (colForm x)])) := hfin 8 5 rfl
        simp only [Exit.then, ended, List.foldl_cons, List.foldl_nil, List.setIfInBounds_toArray, List.set_cons_succ, List.set_cons_zero]
        have hrd : Rd w5 (ν 5) (b4 ++ (cs.take (k + 1)).flatMap colB) := by
          rw [HNX.out]
          unfold colB
          rw [← List.append_assoc, ← HTX.out]
          have := Sl.ofOwns e5
          unfold Rd
          rwa [List.length_append]
        have HRD := Lib.hid hrd
        have HX8 := Lib.hid ((HXr.out.trans HXA.out).trans hx)
        clear hfin hx e5 hrd
        generalize ν 5 = s5 at *
        have hm16 := HM16.out
        have hlt := HLT.out
        go_wp2
        exact ⟨⟨k + 1, HLT.out, rfl, HX8, HRD.out⟩, by simp only [intOf]; have := HLT.out; omega⟩
    · obtain rfl : k = m := by omega
      have HR9 : Rd wr (.slice ab ln cb) (rlBytes r) := by
        have h := HRB.out
        rw [← HM.out, List.take_length, HEND.out] at h
        exact h
      have HRE := Lib.hid HR9
      clear HR9 HRB hln
      go_wp2
      refine bodyPost_ret (results_tmp2 rfl _ _ _) rfl ?_
      exact ⟨_, by rw [HE0.out]; rfl, HX.out.trans HXr.out, by rw [if_pos HE0.out]; exact HRE.out⟩
end Go.Proofs.Ytcejjckhhdgdnaa
