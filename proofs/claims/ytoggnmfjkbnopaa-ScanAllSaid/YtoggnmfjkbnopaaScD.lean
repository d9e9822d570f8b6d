/-
  The reference's Read: the walk.
-/
import Derived.Test.YtoggnmfjkbnopaaScC
import Derived.Test.YtoggnmfjkbnopaaRefP
import Derived.Test.YtoggnmfjkbnopaaRefQ
namespace Go.Proofs.Ytoggnmfjkbnopaa
open Go.RowKit Go.Lac

theorem bld89 (w : World) (x y a' n' : Nat) (a : Option Addr) (n c : Nat) : (Instr.build 89 #[(0, .agg #[.int .u8 (x : Nat), .int .u8 (y : Nat), .slice a n c]), (1, .int .i64 (a' : Nat)), (2, .int .i64 (n' : Nat))]).run Try.prog w = .ok (.agg #[.int .u8 (x : Nat), .int .u8 (y : Nat), .slice a n c, .int .i64 (a' : Nat), .int .i64 (n' : Nat)]) w := by kernel_rfl
theorem one33 (w : World) (x y a' n' : Nat) (a : Option Addr) (n c : Nat) : (Instr.buildSlice 33 1 #[(0, .agg #[.int .u8 (x : Nat), .int .u8 (y : Nat), .slice a n c, .int .i64 (a' : Nat), .int .i64 (n' : Nat)])]).run Try.prog w = .ok (.slice (some ⟨w.heap.size, 0, none⟩) 1 1) (w.alloc (.cells #[.int .u8 (x : Nat), .int .u8 (y : Nat), .slice a n c, .int .i64 (a' : Nat), .int .i64 (n' : Nat)] 89)) := by kernel_rfl
theorem infoFound5 : (Try.prog.info? 89).map (fun i => (i.zero, i.size, i.bytes)) = some (some (.agg #[.int .u8 0, .int .u8 0, .slice none 0 0, .int .i64 0, .int .i64 0]), 5, 48) := by kernel_rfl

/-- What Read answers. -/
def ReadPost (b : List UInt8) (w : World) (q : Ending) (w' : World) : Prop :=
  ∃ v, q = .returned (.tuple #[v, .int .i64 ((sc 0 b).2.1 : Nat), .int .i64 ((sc 0 b).2.2 : Nat)]) ∧ Ext w w' ∧ FdL w' w.heap.size w.heap.size 89 .i64 v (sc 0 b).1
def ReadRel (b : List UInt8) (w : World) (lv ix : Value) (wr : World) : Prop :=
  ∃ (fs : List Fnd) (n : Nat), ix = .int .i64 (n : Nat) ∧ Ext w wr ∧ FdL wr w.heap.size w.heap.size 89 .i64 lv fs ∧ sc 0 b = (fs ++ (sc n (b.drop n)).1, (sc n (b.drop n)).2) ∧ n ≤ b.length ∧ fs.length ≤ n

set_option maxRecDepth 20000 in
set_option maxHeartbeats 4000000 in
theorem read_any (w : World) (x : Value) (b : List UInt8) (hx : Rd w x b) (hl : b.length ≤ 500000) : Calls Try.prog 18 #[x] w (ReadPost b w) := by
  obtain ⟨i, hi, hz, hsz, hby⟩ := info_parts infoU8
  obtain ⟨fi, fhi, fhz, fhsz, fhby⟩ := info_parts infoFound5
  obtain ⟨xo, xc, rfl⟩ := hx.shape
  have HI := Lib.hid hi; have HSZ := Lib.hid hsz; have HX := Lib.hid hx; have HL := Lib.hid hl
  have FHI := Lib.hid fhi; have FHZ := Lib.hid fhz; have FHSZ := Lib.hid fhsz; have FHBY := Lib.hid fhby
  clear hi hz hsz hby hx fhi fhz fhsz fhby
  go_enter Try.func18, Try.ntmps18
  go_wp2
  go_loopw [5, 6] (fun lv ix wr => ReadRel b w lv ix wr) (fun _ ix _ => b.length - (intOf ix).toNat)
  case atStart => exact ⟨[], 0, rfl, Ch.refl _ _, FdL.nil _ _ _ _ _, by simp, Nat.zero_le _, Nat.le_refl _⟩
  case round =>
    obtain ⟨fs, n, rfl, hext, hfd, hsc, hn, hfn⟩ := hrel
    obtain ⟨left, hd1, hd2⟩ := run_drop_all Try.underlying22 HI.out HSZ.out HX.out n hn
    obtain ⟨lo, lc, rfl⟩ := hd2.shape
    obtain ⟨vo, vc, rfl⟩ := hfd.shape
    have hdl : (b.drop n).length = b.length - n := List.length_drop
    have hp := fun w3 (h : Rd w3 (.slice lo (b.drop n).length lc) (b.drop n)) => refParse_any (.slice lo (b.drop n).length lc) (b.drop n) w3 h (by omega)
    have HP := Lib.hid (hp _ (hd2.ext hext)); have HEXT := Lib.hid hext; have HFD := Lib.hid hfd; have HSC := Lib.hid hsc; have HN := Lib.hid hn; have HFN := Lib.hid hfn; have HDL := Lib.hid hdl
    clear hp hext hfd hsc hn hfn hdl hd2 hl
    generalize hrest : b.drop n = rest at *
    have HREST := Lib.hid hrest; clear hrest
    go_wp2_with (go_at_call 42; refine HP.out.mono ?_)
    rintro e w3 ⟨t, rfl, hx3, hrd3, hfr⟩
    obtain ⟨ta, tc, rfl⟩ := hrd3.shape
    have hx4 : Ext w (w3.alloc (.cells #[.int .u8 (frV rest : Nat), .int .u8 (frK rest : Nat), .slice ta (frP rest).length tc] 44)) := (HEXT.out.trans hx3).alloc _
    have HX4 := Lib.hid hx4; have HX3 := Lib.hid hx3; have HRD3 := Lib.hid hrd3; have HFR := Lib.hid hfr
    have HFD4 := Lib.hid (HFD.out.ext (hx3.alloc (.cells #[.int .u8 (frV rest : Nat), .int .u8 (frK rest : Nat), .slice ta (frP rest).length tc] 44)))
    clear hx4 hx3 hrd3 hfr
    by_cases hE1 : frErr rest = 1
    · have hP : ReadPost b w (.returned (.tuple #[.slice vo fs.length vc, .int .i64 (n : Nat), .int .i64 0])) (w3.alloc (.cells #[.int .u8 (frV rest : Nat), .int .u8 (frK rest : Nat), .slice ta (frP rest).length tc] 44)) := by
        have hs : sc 0 b = (fs, n, 0) := by rw [HSC.out, sc_short n hE1]; simp
        unfold ReadPost
        rw [hs]
        exact ⟨_, rfl, HX4.out, HFD4.out⟩
      have b19 : ((frErr rest : Int) == 1) = true := by simp; omega
      have HP5 := Lib.hid hP
      clear hP
      go_wp2
      try simp only [Exit.inBlock]
      refine bodyPost_ret (results_tmp3 rfl _ _ _) rfl ?_
      exact HP5.out
    by_cases hE0 : frErr rest = 0
    · obtain ⟨z1, z2, z3⟩ := frErr_zero hE0
      have b19 : ((frErr rest : Int) == 1) = false := by simp; omega
      have b23 : ((frErr rest : Int) != 0) = false := by simp; omega
      have hsz4 := HX4.out.size
      have hwz : w.heap.size ≤ wr.heap.size := HEXT.out.size
      obtain ⟨v', w', q1, q2, q3⟩ := run_append_fd (P := Try.prog) (w := ((w3.alloc (.cells #[.int .u8 (frV rest : Nat), .int .u8 (frK rest : Nat), .slice ta (frP rest).length tc] 44)).alloc (.cells #[.int .u8 (frV rest : Nat), .int .u8 (frK rest : Nat), .slice ta (frP rest).length tc, .int .i64 (n : Nat), .int .i64 (frSize rest : Nat)] 89))) w.heap.size w.heap.size 33 33 89 fi _ 48 Try.underlying33 FHI.out FHZ.out FHSZ.out FHBY.out rfl (x := .slice (some ⟨w3.heap.size + 1, 0, none⟩) 1 1) (l2 := [⟨frV rest, frK rest, frP rest, n, frSize rest⟩]) (cs2 := [.int .u8 (frV rest : Nat), .int .u8 (frK rest : Nat), .slice ta (frP rest).length tc, .int .i64 (n : Nat), .int .i64 (frSize rest : Nat)])
        (HFD4.out.ext ((Ch.refl _ _).alloc _)) (by
          have := Sl.ofOwns (base := 0) (e := 89) (size := 5) (World.ownsRow_lit (w3.alloc (.cells #[.int .u8 (frV rest : Nat), .int .u8 (frK rest : Nat), .slice ta (frP rest).length tc] 44)) #[.int .u8 (frV rest : Nat), .int .u8 (frK rest : Nat), .slice ta (frP rest).length tc, .int .i64 (n : Nat), .int .i64 (frSize rest : Nat)] 1 (Nat.zero_le _) (by decide) rfl)
          simpa using this)
        ⟨_, [], rfl, HRD3.out.ext (((Ch.refl _ _).alloc _).alloc _), fun x l c e _ _ => ⟨Nat.le_trans hwz (HFR.out x l c e), fun ho => by have h1 := (HFD.out.ownlt ho).2; have h2 := HFR.out x l c e; omega⟩, rfl⟩
        (by have := HFN.out; have := HN.out; have := HL.out; simp; omega) (by have := HFN.out; have := HN.out; have := HL.out; unfold maxLen; simp; omega) (by simp at hsz4 ⊢; omega)
      obtain ⟨v0, vc0, rfl⟩ := q2.shape
      have hc5 : Ext w w' := Ch.transNew (HX4.out.alloc (.cells #[.int .u8 (frV rest : Nat), .int .u8 (frK rest : Nat), .slice ta (frP rest).length tc, .int .i64 (n : Nat), .int .i64 (frSize rest : Nat)] 89)) (q3.mono fun i _ ho => .inr (HFD.out.ownlt ho).1)
      have R5 := Lib.hid q1
      obtain ⟨sn, hsn⟩ : ∃ sn : Nat, sn = n + frSize rest := ⟨_, rfl⟩
      have hll := HL.out; have hrl := HDL.out; have hnn := HN.out; have hfn := HFN.out
      have hw2 : IntKind.i64.wrap ((n : Int) + (frSize rest : Int)) = (sn : Int) := by rw [IntKind.wrap_i64, hsn]; omega
      have hJ : ReadRel b w (.slice v0 (fs ++ [(⟨frV rest, frK rest, frP rest, n, frSize rest⟩ : Fnd)]).length vc0) (.int .i64 (sn : Nat)) w' := by
        refine ⟨fs ++ [⟨frV rest, frK rest, frP rest, n, frSize rest⟩], sn, rfl, hc5, q2, ?_, by omega, by rw [List.length_append]; simp; omega⟩
        have e := congrArg (List.drop (frSize rest)) HREST.out
        rw [List.drop_drop] at e
        rw [HSC.out, sc_ok n hE0, hsn, e]
        simp
      have HJ := Lib.hid hJ
      have HM : Hid (b.length - sn < b.length - n) := Lib.hid (by omega)
      clear hll hJ q1 q2 q3 hc5 hrl hnn hfn hsn hsz4 hwz z1 z2 z3
      have hone := one33
      have hbld := bld89
      go_wp2_with (at_builtin; refine wpList_append_run rfl _ _ _ rfl rfl rfl R5.out ?_)
      refine ⟨by simpa using HJ.out, ?_⟩
      simp only [intOf, Int.toNat_natCast]
      exact HM.out
    · have hP : ReadPost b w (.returned (.tuple #[.slice vo fs.length vc, .int .i64 (n : Nat), .int .i64 (frErr rest : Nat)])) (w3.alloc (.cells #[.int .u8 (frV rest : Nat), .int .u8 (frK rest : Nat), .slice ta (frP rest).length tc] 44)) := by
        have hs : sc 0 b = (fs, n, frErr rest) := by rw [HSC.out, sc_err n hE0 hE1]; simp
        unfold ReadPost
        rw [hs]
        exact ⟨_, rfl, HX4.out, HFD4.out⟩
      have b19 : ((frErr rest : Int) == 1) = false := by simp; omega
      have b23 : ((frErr rest : Int) != 0) = true := by simp; omega
      have HP5 := Lib.hid hP
      clear hP
      go_wp2
      try simp only [Exit.inBlock]
      refine bodyPost_ret (results_tmp3 rfl _ _ _) rfl ?_
      exact HP5.out
end Go.Proofs.Ytoggnmfjkbnopaa
