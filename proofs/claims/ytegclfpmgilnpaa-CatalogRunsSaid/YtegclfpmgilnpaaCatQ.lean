/-
  Catalogs: the document's Of.
-/
import Derived.Test.YtegclfpmgilnpaaCatP
import Derived.Test.YtegclfpmgilnpaaGRelD
namespace Go.Proofs.Ytegclfpmgilnpaa
open Go.RowKit Go.Lac

def ROfPost (l : List Rl) (w : World) (e : Ending) (w' : World) : Prop :=
  Ext w w' ∧ ∃ v, e = .returned (.tuple #[v, .int .i64 ((catOf [] 0 l).2.1 : Nat), .int .i64 ((catOf [] 0 l).2.2 : Nat)]) ∧ RlS (ColS w') w' v (catOf [] 0 l).1
theorem rlS_nil (P : Value → List Col → Prop) (w : World) : RlS P w (.slice none 0 0) [] := ⟨[], rfl, none, 0, rfl, Nat.le_refl _, Nat.zero_le _, fun _ => rfl, fun x hx => by cases hx⟩
set_option maxRecDepth 20000 in
set_option maxHeartbeats 4000000 in
theorem rOf_any (v : Value) (l : List Rl) (w : World) (h : RlS (ColS w) w v l) (hf : ∀ r ∈ l, r.fits) :
    Calls Try.prog 29 #[v] w (ROfPost l w) := by
  obtain ⟨ao, cap, rfl, hlc, hcm⟩ := h.shape
  obtain ⟨ci, chi, _, chs, _⟩ := info_parts infoQlZ
  have CHI := Lib.hid chi; have CHS := Lib.hid chs
  have HR := Lib.hid h; have HF := Lib.hid hf
  have hm63 : l.length ≤ 9223372036854775807 := by unfold maxLen at hcm; omega
  clear chi chs h hf hlc hcm
  generalize hn : l.length = n at *
  have HN := Lib.hid hn; clear hn
  go_enter Try.func29, Try.ntmps29
  go_wp2
  go_loopw [5, 6] (fun vb ix wr => ∃ (k : Nat) (L : List Rl), k ≤ n ∧ ix = .int .i64 k ∧ Hid (Ext w wr ∧ CatOk L ∧ RlS (ColS wr) wr vb L ∧ catOf [] 0 l = catOf L k (l.drop k))) (fun _ ix _ => n - (intOf ix).toNat)
  case atStart => exact ⟨0, [], Nat.zero_le _, rfl, Lib.hid ⟨Ch.refl _ _, CatOk.nil, rlS_nil _ _, by simp⟩⟩
  case round =>
    obtain ⟨k, L, hk, rfl, HI⟩ := hrel
    by_cases hlt : k < n
    · have hkl : k < l.length := by have := HN.out; omega
      have hrs := HR.out.ext HI.out.1 (Q := ColS wr) fun v c h => ColS.ext h HI.out.1
      obtain ⟨b, o, cv, rfl, hra, hcv⟩ := rlS_at hrs hkl
      have hidx := run_indexSl wr Try.underlying22 CHI.out CHS.out b o n cap k hlt
      have HFK := Lib.hid (HF.out l[k] (List.getElem_mem hkl))
      have HDR : Hid (l.drop k = l[k] :: l.drop (k + 1)) := Lib.hid (List.drop_eq_getElem_cons hkl)
      generalize l[k] = x at *
      have q0 : wr.cell? ⟨b, o + k * 5, none⟩ = some (.int .u32 (x.oid : Nat)) := by have := hra 0 _ rfl; simpa using this
      have q1 : wr.cell? ⟨b, o + k * 5 + 1, none⟩ = some (.int .u32 (x.ver : Nat)) := hra 1 _ rfl
      have q2 : wr.cell? ⟨b, o + k * 5 + 2, none⟩ = some (.string ⟨x.name.toArray⟩) := hra 2 _ rfl
      have q3 : wr.cell? ⟨b, o + k * 5 + 3, none⟩ = some (.int .u8 (x.ident : Nat)) := hra 3 _ rfl
      have q4 : wr.cell? ⟨b, o + k * 5 + 4, none⟩ = some cv := hra 4 _ rfl
      obtain ⟨co, cc, rfl, _⟩ := id hcv
      have HAD := Lib.hid (rAdd_any _ (.slice co x.cols.length cc) L x wr HI.out.2.2.1 HI.out.2.1 hcv HFK.out)
      obtain ⟨vo, vc, rfl, _⟩ := HI.out.2.2.1.shape
      have HLT := Lib.hid hlt
      clear hra hcv hrs hkl
      unfold relv strV at *
      go_wp2_with fail
      refine HAD.out.mono ?_
      rintro e w3 ⟨hx3, v3, rfl, hs3⟩
      have HX3 := Lib.hid (HI.out.1.trans hx3); have HS3 := Lib.hid hs3
      clear hx3 hs3 q0 q1 q2 q3 q4 hidx
      have HCF : Hid (catOf [] 0 l = if (catAdd L x).2 = 0 then catOf (catAdd L x).1 (k + 1) (l.drop (k + 1)) else ([], k, (catAdd L x).2)) := Lib.hid (by rw [HI.out.2.2.2, HDR.out, catOf])
      have HOK := Lib.hid (HI.out.2.1.add x)
      by_cases he : (catAdd L x).2 = 0
      · rw [he]
        rw [he] at HCF
        have HI2 : Hid (Ext w w3 ∧ CatOk (catAdd L x).1 ∧ RlS (ColS w3) w3 v3 (catAdd L x).1 ∧ catOf [] 0 l = catOf (catAdd L x).1 (k + 1) (l.drop (k + 1))) := Lib.hid ⟨HX3.out, HOK.out, HS3.out, by rw [HCF.out, if_pos rfl]⟩
        clear he HCF HOK HS3 HAD
        generalize (catAdd L x).1 = L2 at *
        go_wp2
        go_roundw
        case rel => exact ⟨k + 1, L2, HLT.out, by simp, HI2⟩
        case measure => simp [intOf]; have := HLT.out; omega
      · have HC3 : Hid (catOf [] 0 l = ([], k, (catAdd L x).2)) := Lib.hid (by rw [HCF.out, if_neg he])
        have en : ((((catAdd L x).2 : Nat) : Int) != 0) = true := by simp; omega
        clear HCF HOK HS3 HAD he
        generalize (catAdd L x).2 = E at *
        go_wp2
        refine bodyPost_ret (results_three rfl _ _) rfl ?_
        exact ⟨HX3.out, _, by rw [HC3.out]; rfl, by rw [HC3.out]; exact rlS_nil _ _⟩
    · obtain rfl : k = n := by omega
      have HCE : Hid (catOf [] 0 l = (L, k, 0)) := Lib.hid (by rw [HI.out.2.2.2, ← HN.out, List.drop_length]; rfl)
      go_wp2
      refine bodyPost_ret (results_three rfl _ _) rfl ?_
      exact ⟨HI.out.1, _, by rw [HCE.out]; rfl, by rw [HCE.out]; exact HI.out.2.2.1⟩
end Go.Proofs.Ytegclfpmgilnpaa
