/-
  Relations as plain mathematics: bytes cut anywhere are too short.
-/
import Derived.Test.YtcejjckhhdgdnaaRelM
namespace Go.Proofs.Ytcejjckhhdgdnaa
open Go.RowKit Go.Lac

def CutAt (q : RS → RS) (e : List UInt8) : Prop := (∀ k, k < e.length → q (e.take k, 0) = ([], 1)) ∧ q ([], 1) = ([], 1)
theorem cut_seq {p q : RS → RS} {e1 e2 : List UInt8} (h1 : ∀ rest, p (e1 ++ rest, 0) = (rest, 0)) (c1 : CutAt p e1) (c2 : CutAt q e2) : CutAt (fun s => q (p s)) (e1 ++ e2) := by
  refine ⟨fun k hk => ?_, by show q (p ([], 1)) = _; rw [c1.2, c2.2]⟩
  show q (p ((e1 ++ e2).take k, 0)) = _
  by_cases h : k < e1.length
  · rw [List.take_append_of_le_length (by omega), c1.1 k h, c2.2]
  · rw [List.take_append, List.take_of_length_le (by omega), h1]
    rw [List.length_append] at hk
    exact c2.1 _ (by omega)
theorem cut_uint {m v : Nat} (hv : v < 2 ^ 64) : CutAt (fun s => (uintR m s).2) (sev v) :=
  ⟨fun k hk => by show (uintR m ((sev v).take k, 0)).2 = _; rw [uintR_cut m v k hv hk], by show (uintR m ([], 1)).2 = _; rw [uintR_gone]⟩
theorem cut_text {m : Nat} {s : List UInt8} (h : s.length < 2 ^ 64) (hm : s.length ≤ m) : CutAt (fun r => (textR m r).2) (txt s) :=
  ⟨fun k hk => by show (textR m ((txt s).take k, 0)).2 = _; rw [textR_cut m k s h hm hk], by show (textR m ([], 1)).2 = _; rw [textR_gone]⟩
theorem cut_byte (b : UInt8) : CutAt (fun s => (byteR s).2) [b] := by
  refine ⟨fun k hk => ?_, by show (byteR ([], 1)).2 = _; rw [byteR_gone' (by decide)]⟩
  have : k = 0 := by simp at hk; omega
  subst this
  rfl
theorem colsR_gone1 : ∀ n, (colsR n ([], 1)).2 = ([], 1)
  | 0 => rfl
  | n + 1 => by
    rw [colsR]
    have h : (colR ([], 1)).2 = ([], 1) := by
      show (byteR (textR 31 ([], 1)).2).2 = _
      rw [textR_gone, byteR_gone' (by decide)]
    simp only [h]
    exact colsR_gone1 n
theorem cut_col {c : Col} (hn : NameOk c.name) : CutAt (fun s => (colR s).2) (colB c) :=
  cut_seq (p := fun s => (textR 31 s).2) (q := fun s => (byteR s).2) (fun rest => by show (textR 31 (txt c.name ++ rest, 0)).2 = _; rw [textR_txt 31 c.name rest (by have := hn.2.1; omega), if_pos hn.2.1]) (cut_text (by have := hn.2.1; omega) hn.2.1) (cut_byte _)
theorem cut_cols : ∀ (l : List Col), (∀ c ∈ l, NameOk c.name ∧ 1 ≤ c.ty ∧ c.ty ≤ 6) → CutAt (fun s => (colsR l.length s).2) (l.flatMap colB)
  | [], _ => ⟨fun k hk => by simp at hk, rfl⟩
  | c :: l, h => by
    have hc := h c List.mem_cons_self
    rw [List.flatMap_cons]
    exact cut_seq (p := fun s => (colR s).2) (q := fun s => (colsR l.length s).2) (fun rest => by show (colR (colB c ++ rest, 0)).2 = _; rw [colR_put rest hc.1 hc.2.2]) (cut_col hc.1) (cut_cols l fun x hx => h x (List.mem_cons_of_mem _ hx))
def lastR (s : RS) : RS := (colsR (uintR 16 s).1 (uintR 16 s).2).2
theorem rlR_snd (s : RS) : (rlR s).2 = lastR (byteR (textR 31 (uintR 4294967295 (uintR 4294967295 s).2).2).2).2 := by
  unfold rlR rl1 lastR
  rfl
theorem cut_last (cols : List Col) (hcs : ∀ c ∈ cols, NameOk c.name ∧ 1 ≤ c.ty ∧ c.ty ≤ 6) (hl : cols.length ≤ 16) : CutAt lastR (sev cols.length ++ cols.flatMap colB) := by
  refine ⟨fun k hk => ?_, by unfold lastR; rw [uintR_gone]; rfl⟩
  unfold lastR
  by_cases h : k < (sev cols.length).length
  · rw [List.take_append_of_le_length (by omega), uintR_cut 16 cols.length k (by omega) h]; rfl
  · rw [List.take_append, List.take_of_length_le (by omega), uintR_sev 16 cols.length _ (by omega), if_pos hl]
    rw [List.length_append] at hk
    exact (cut_cols cols hcs).1 _ (by omega)
theorem cut_rel {r : Rl} (hok : r.ok) (h : rlErr r = 0) {k : Nat} (hk : k < (rlBytes r).length) : (rlR ((rlBytes r).take k, 0)).2 = ([], 1) := by
  obtain ⟨e1, e2, e3, e4, e5, e6, e7, e8⟩ := rlErr_zero h
  have hcs := colsErr_zero _ _ e7
  obtain ⟨oid, ver, nm, ident, cols⟩ := r
  simp only at *
  obtain ⟨o1, o2, o3, o4⟩ := hok
  simp only at o1 o2 o3
  have hl : nm.length ≤ 31 := e3.2.1
  have hb : rlBytes ⟨oid, ver, nm, ident, cols⟩ = sev oid ++ (sev ver ++ (txt nm ++ ([UInt8.ofNat ident] ++ (sev cols.length ++ cols.flatMap colB)))) := by simp [rlBytes]
  have c1 : CutAt (fun s => (byteR s).2) [UInt8.ofNat ident] := cut_byte _
  have c2 := cut_seq (p := fun s => (byteR s).2) (q := lastR) (e1 := [UInt8.ofNat ident]) (fun rest => by show (byteR (UInt8.ofNat ident :: rest, 0)).2 = _; rw [byteR_cons]) c1 (cut_last cols hcs e6)
  have c3 := cut_seq (p := fun s => (textR 31 s).2) (e1 := txt nm) (fun rest => by show (textR 31 (txt nm ++ rest, 0)).2 = _; rw [textR_txt 31 nm _ (by omega), if_pos hl]) (cut_text (by omega) hl) c2
  have c4 := cut_seq (p := fun s => (uintR 4294967295 s).2) (e1 := sev ver) (fun rest => by show (uintR 4294967295 (sev ver ++ rest, 0)).2 = _; rw [uintR_sev _ _ _ (by omega), if_pos (by omega)]) (cut_uint (by omega)) c3
  have c5 := cut_seq (p := fun s => (uintR 4294967295 s).2) (e1 := sev oid) (fun rest => by show (uintR 4294967295 (sev oid ++ rest, 0)).2 = _; rw [uintR_sev _ _ _ (by omega), if_pos (by omega)]) (cut_uint (by omega)) c4
  rw [hb] at hk ⊢
  rw [rlR_snd]
  exact c5.1 k hk
theorem rlDec_cut {r : Rl} (hok : r.ok) (h : rlErr r = 0) {k : Nat} (hk : k < (rlBytes r).length) : rlDec ((rlBytes r).take k) = (.zero, 1) := by
  unfold rlDec
  rw [cut_rel hok h hk]
  rfl
theorem rlDec_err {b : List UInt8} (h : (rlDec b).2 ≠ 0) : (rlDec b).1 = .zero := by
  unfold rlDec at *
  split at h
  · rename_i h1; rw [if_pos h1]
  · rename_i h1
    split at h
    · rename_i h2; rw [if_neg h1, if_pos h2]
    · exact absurd rfl h
theorem rlBytes_pos (r : Rl) : 1 ≤ (rlBytes r).length := by unfold rlBytes; simp; omega
end Go.Proofs.Ytcejjckhhdgdnaa
