/-
  The document's Make, its answer one's own; frames one behind the other, one of which begins with another byte.
-/
import Derived.Test.YtoggnmfjkbnopaaScH
import Derived.Test.YtoggnmfjkbnopaaRefM
import Derived.Test.YtoggnmfjkbnopaaOpenE
namespace Go.Proofs.Ytoggnmfjkbnopaa
open Go.RowKit Go.Lac

def MakeOwn (v k : Nat) (p : List UInt8) (w : World) (e : Ending) (w' : World) : Prop :=
  ∃ t, e = .returned (.tuple #[t, .int .i64 0]) ∧ Ext w w' ∧ w'.ownsRow w.heap.size 5 1 t (frBytes v k p).length (cellsB (frBytes v k p))
set_option maxRecDepth 20000 in
set_option maxHeartbeats 800000 in
theorem refMake_own (v k : Nat) (s : Value) (p : List UInt8) (w : World) (hv : v < 256) (hk : k < 256) (h : Rd w s p) (hl : p.length ≤ 5000) (h0 : frRight v k p.length = 0) :
    Calls Try.prog 23 #[.agg #[.int .u8 (v : Nat), .int .u8 (k : Nat), s]] w (MakeOwn v k p w) := by
  obtain ⟨i, hi, hz, hsz, hby⟩ := info_parts infoU8
  obtain ⟨ao, cap, rfl⟩ := h.shape
  have hr := fun w h => refRight_any v k (.slice ao p.length cap) p w hv hk h
  have hcs := frHead_cells p.length hv hk hl
  have H := Lib.hid h; have HR := Lib.hid hr; have HCS := Lib.hid hcs; clear hr h hcs
  have hpost0 : ∀ t w', Ext w w' → w'.ownsRow w.heap.size 5 1 t (crcSign (frHead v k p.length ++ p)).length (cellsB (crcSign (frHead v k p.length ++ p))) → MakeOwn v k p w (.returned (.tuple #[t, .int .i64 0])) w' := fun t w' h1 h2 => ⟨t, rfl, h1, by unfold frBytes; rw [if_pos h0]; exact h2⟩
  have HP0 := Lib.hid hpost0; clear hpost0
  have hll : (frHead v k p.length).length = 6 := rfl
  have HR0 : Hid (∀ w, Rd w (.slice ao p.length cap) p → Calls Try.prog 22 #[.agg #[.int .u8 (v : Nat), .int .u8 (k : Nat), .slice ao p.length cap]] w fun e w' => e = .returned (.int .i64 0) ∧ Ext w w') := Lib.hid fun w h => by
    have := HR.out w h
    rw [h0] at this
    exact this
  have H0 := Lib.hid h0; clear h0 HR
  generalize frHead v k p.length = hd at *
  have HLL := Lib.hid hll; clear hll
  generalize hpl : p.length = n at *
  have HPL := Lib.hid hpl; clear hpl
  have hn : (n : Int) ≤ 5000 := by omega
  have hm1 : (n : Int).tmod 256 = (n : Int) % 256 := Int.tmod_eq_emod_of_nonneg (by omega)
  have hm2 : (n : Int).tdiv 256 = (n : Int) / 256 := Int.tdiv_eq_ediv_of_nonneg (by omega)
  have hm3 : (n : Int) / 256 % 256 = (n : Int) / 256 := by omega
  go_enter Try.func23, Try.ntmps23
  go_wp2_with (go_at_call 22; refine (HR0.out _ (H.out.ext ((Ch.refl _ _).alloc _))).mono ?_)
  rintro e w1 ⟨rfl, hx⟩
  have HX := Lib.hid (((Ch.refl _ w).alloc _).trans hx)
  have hce := fun (i : Nat) (x : Value) (hi : #[Value.int .u8 (v : Nat), .int .u8 (k : Nat), .slice ao n cap][i]? = some x) => hx.cell (p := ⟨w.heap.size, i, none⟩) (fun f => f) x (by rw [cell_of_row _ _ _ _ _ _ (heap_alloc_new w _)]; exact hi)
  have c0 := hce 0 _ rfl
  have c1 := hce 1 _ rfl
  have c2 := hce 2 _ rfl
  have hsz1 : w.heap.size < w1.heap.size := by have := hx.size; simp at this; omega
  clear hce hx
  have hown0 : (w1.alloc (.cells #[Value.int .u8 76, .int .u8 103, .int .u8 (v : Nat), .int .u8 (k : Nat), .int .u8 ((n : Int) % 256), .int .u8 ((n : Int) / 256)] 5)).ownsRow w1.heap.size 5 1 (.slice (some ⟨w1.heap.size, 0, none⟩) 6 6) 6 (cellsB hd) := by
    rw [HCS.out]
    exact World.ownsRow_lit w1 #[Value.int .u8 76, .int .u8 103, .int .u8 (v : Nat), .int .u8 (k : Nat), .int .u8 ((n : Int) % 256), .int .u8 ((n : Int) / 256)] 6 (Nat.le_refl _) (by decide) (by simp)
  have hrp := H.out.ext (HX.out.trans ((Ch.refl _ w1).alloc (.cells #[Value.int .u8 76, .int .u8 103, .int .u8 (v : Nat), .int .u8 (k : Nat), .int .u8 ((n : Int) % 256), .int .u8 ((n : Int) / 256)] 5)))
  unfold Rd at hrp
  rw [HPL.out] at hrp
  have HO0 := Lib.hid hown0; have HRP := Lib.hid hrp; clear hown0 hrp
  go_wp2_with (at_builtin; refine wpList_append_sl _ rfl _ _ 22 rfl w1.heap.size 5 i (.int .u8 0) 1 1 Try.underlying22 hi hz hsz hby rfl (by decide) _ _ _ rfl HO0.out _ _ _ rfl HRP.out (by rw [cellsB_length, HPL.out, Nat.mul_one]) (cellsB_one _) (by omega) (by unfold maxLen; omega) (by simp) ?_)
  intro v2 w2 hown2 hgrow2
  have hx2 : Ext w1 w2 := ((Ch.refl _ w1).alloc _).grown hgrow2 fun k hk => by have := (HO0.out.lt k hk).1; exact .inr this
  rw [← cellsB_append] at hown2
  have hsg := refSign_any v2 (hd ++ p) w2 (Rd.ofOwns hown2) (by simp [HLL.out, HPL.out]; omega)
  obtain ⟨a2, c2', rfl⟩ := owns_shape hown2
  have HSG := Lib.hid hsg; have HX2 := Lib.hid (HX.out.trans hx2)
  clear hsg hx2 hown2 hgrow2 HO0 HRP c0 c1 c2
  go_wp2_with (go_at_call 45; refine HSG.out.mono ?_)
  intro e w3 hm
  obtain ⟨t, rfl, hx, hr⟩ := hm
  have HF := Lib.hid (HP0.out t w3 (HX2.out.trans hx) (own_base hr HX2.out.size))
  clear hx hr
  go_wp2
  refine bodyPost_ret (results_tmp2 rfl _ _ _) rfl ?_
  exact HF.out

/-- The frames' bytes so far; the k-th begins with another byte. -/
def stopF (l : List Mk) (k : Nat) : Nat → List UInt8
  | 0 => []
  | i + 1 => stopF l k i ++ (match l[i]? with | none => [] | some x => if i = k then x.bytes.set 0 77 else x.bytes)
theorem stopF_le {l : List Mk} {k : Nat} : ∀ i, i ≤ k → i ≤ l.length → stopF l k i = (l.take i).flatMap Mk.bytes
  | 0, _, _ => by simp [stopF]
  | i + 1, h, hl => by
    rw [stopF, stopF_le i (by omega) (by omega), List.getElem?_eq_getElem (by omega)]
    simp only
    rw [if_neg (by omega), List.take_succ_eq_append_getElem (by omega), List.flatMap_append]
    simp
theorem stopF_gt {l : List Mk} {k : Nat} (hk : k < l.length) (hr : Mk.right l[k]) : ∀ i, k < i → i ≤ l.length → ∃ rest, stopF l k i = (l.take k).flatMap Mk.bytes ++ 77 :: rest
  | 0, h, _ => by omega
  | i + 1, h, hl => by
    rw [stopF, List.getElem?_eq_getElem (by omega)]
    simp only
    by_cases hik : i = k
    · subst hik
      rw [if_pos rfl, stopF_le i (Nat.le_refl _) (by omega)]
      have hf := made_first hr
      obtain ⟨b, t, e⟩ : ∃ b t, l[i].bytes = b :: t := by
        cases hb : l[i].bytes with
        | nil => rw [hb] at hf; simp at hf
        | cons b t => exact ⟨b, t, rfl⟩
      rw [e]
      exact ⟨t, rfl⟩
    · rw [if_neg hik]
      obtain ⟨rest, e⟩ := stopF_gt hk hr i (by omega) (by omega)
      rw [e]
      exact ⟨rest ++ l[i].bytes, by simp⟩
theorem stop_sc {l : List Mk} {k : Nat} (hk : k < l.length) (hr : ∀ x ∈ l, Mk.right x) : sc 0 (stopF l k l.length) = (fndsOf 0 (l.take k), ((l.take k).flatMap Mk.bytes).length, 3) := by
  obtain ⟨rest, e⟩ := stopF_gt hk (hr _ (List.getElem_mem hk)) l.length hk (Nat.le_refl _)
  have he : frErr (77 :: rest) = 3 := frErr_form (x := 77) rfl (by decide)
  rw [e, sc_made _ 0 _ (fun x hx => hr x (List.mem_of_mem_take hx)), sc_err _ (by rw [he]; decide) (by rw [he]; decide), he]
  simp
theorem stopF_len {l : List Mk} {k : Nat} (hr : ∀ x ∈ l, Mk.right x ∧ x.2.2.length ≤ 300) : ∀ i, i ≤ l.length → (stopF l k i).length ≤ i * 310
  | 0, _ => by simp [stopF]
  | i + 1, h => by
    have ih := stopF_len (k := k) hr i (by omega)
    rw [stopF, List.getElem?_eq_getElem (by omega), List.length_append]
    have hx := hr _ (List.getElem_mem (show i < l.length by omega))
    have hl : l[i].bytes.length = l[i].2.2.length + 10 := made_length hx.1
    simp only
    split
    · rw [List.length_set]; omega
    · omega
end Go.Proofs.Ytoggnmfjkbnopaa
