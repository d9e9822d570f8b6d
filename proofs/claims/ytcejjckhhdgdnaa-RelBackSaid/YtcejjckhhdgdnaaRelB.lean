/-
  Relations: a column taken; its form.
-/
import Derived.Test.YtcejjckhhdgdnaaRelM
import Derived.Test.YtcejjckhhdgdnaaTakB
namespace Go.Proofs.Ytcejjckhhdgdnaa
open Go.RowKit Go.Lac

def colv (c : Col) : Array Value := #[strV c.name, .int .u8 (c.ty : Nat), .bool c.key]
def pcol (c : Col) : Value := .agg (colv c)
theorem infoCo : (Try.prog.info? 49).map (·.size) = some 3 := by kernel_rfl
theorem bits_128 : ∀ b : Fin 256, bits BinOp.andNot IntKind.u8 ((b.val : Nat) : Int) 128 = ((b.val % 128 : Nat) : Int) ∧ bits BinOp.and IntKind.u8 ((b.val : Nat) : Int) 128 = ((if 128 ≤ b.val then 128 else 0 : Nat) : Int) ∧ (b.val < 128 → bits BinOp.or IntKind.u8 ((b.val : Nat) : Int) 128 = ((b.val + 128 : Nat) : Int)) := by decide +kernel
theorem andNot128 {b : Nat} (h : b < 256) : bits BinOp.andNot IntKind.u8 (b : Int) 128 = ((b % 128 : Nat) : Int) := (bits_128 ⟨b, h⟩).1
theorem and128 {b : Nat} (h : b < 256) : bits BinOp.and IntKind.u8 (b : Int) 128 = ((if 128 ≤ b then 128 else 0 : Nat) : Int) := (bits_128 ⟨b, h⟩).2.1
theorem or128 {b : Nat} (h : b < 128) : bits BinOp.or IntKind.u8 (b : Int) 128 = ((b + 128 : Nat) : Int) := (bits_128 ⟨b, by omega⟩).2.2 h
theorem buildCo (w : World) (A : ByteArray) (n : Int) (k : Bool) : (Instr.build 49 #[(0, .string A), (1, .int .u8 n), (2, .bool k)]).run Try.prog w = .ok (.agg #[.string A, .int .u8 n, .bool k]) w := by kernel_rfl

set_option maxRecDepth 20000 in
set_option maxHeartbeats 1600000 in
theorem takeColumn_any (r : Nat) (s : RS) (w : World) (h : IsR w r s) :
    Calls Try.prog 86 #[RPtr r] w (RPost r (pcol (colR s).1) (colR s).2 w) := by
  have hlt := h.lt
  have hx0 : Ext w (w.alloc (.cells #[.string ⟨#[]⟩, .int .u8 0, .bool false] 49)) := (Ch.refl _ _).alloc _
  have HG0 := Lib.hid (heap_alloc_new w (.cells #[.string ⟨#[]⟩, .int .u8 0, .bool false] 49))
  have HX0 : Hid (Only r w (w.alloc (.cells #[.string ⟨#[]⟩, .int .u8 0, .bool false] 49))) := Lib.hid hx0.ch
  have HLT := Lib.hid hlt
  have HT := Lib.hid (text_any r s 31 _ (h.ext hx0) (by omega))
  have hb := byteR_lt (textR 31 s).2
  have HBY := Lib.hid (fun w h => byte_any r (textR 31 s).2 w h)
  unfold colR
  simp only
  rw [show ((31 : Int)).toNat = 31 from rfl] at HT
  generalize (textR 31 s).1 = t at *
  generalize (textR 31 s).2 = s1 at *
  generalize (byteR s1).1 = b at *
  generalize (byteR s1).2 = s2 at *
  have hf1 := andNot128 hb
  have hf2 := and128 hb
  obtain ⟨P, hP⟩ : ∃ P, P = RPost r (pcol ⟨t, b % 128, decide (128 ≤ b)⟩) s2 w := ⟨_, rfl⟩
  have HPO : Hid (∀ w', Only r w w' → IsR w' r s2 → P (.returned (.agg #[.string ⟨t.toArray⟩, .int .u8 ((b % 128 : Nat) : Int), .bool (decide (128 ≤ b))])) w') := Lib.hid fun w' h1 h2 => by rw [hP]; exact ⟨rfl, h1, h2⟩
  rw [← hP]
  obtain ⟨A, hA⟩ : ∃ A : ByteArray, A = ⟨t.toArray⟩ := ⟨_, rfl⟩
  unfold strV at HT
  rw [← hA] at HT HPO
  obtain ⟨m, hm⟩ : ∃ m, m = b % 128 := ⟨_, rfl⟩
  rw [← hm] at hf1 HPO
  by_cases h128 : 128 ≤ b
  · rw [if_pos h128] at hf2
    rw [decide_eq_true h128] at HPO
    have hbd := fun w => buildCo w A (m : Nat) true
    clear h hx0 hlt hb hm h128 hA hP
    unfold RPtr at *
    go_enter Try.func86, Try.ntmps86
    go_wp2_with (go_at_call 84; refine HT.out.mono ?_)
    rintro e w1 ⟨rfl, k1, k2⟩
    have HX1 := Lib.hid (HX0.out.trans k1); have H1 := Lib.hid k2
    have HG1 := Lib.hid (heap_of_only k1 (by have := HLT.out; omega) HG0.out)
    clear k1 k2
    go_wp2_with (go_at_call 85; refine (HBY.out _ H1.out).mono ?_)
    rintro e w2 ⟨rfl, k1, k2⟩
    have HX2 := Lib.hid (HX1.out.trans k1); have H2 := Lib.hid k2
    have HG2 := Lib.hid (heap_of_only k1 (by have := HLT.out; omega) HG1.out)
    clear k1 k2
    go_wp2_with (refine wpList_store_rowTo rfl _ _ _ rfl rfl w.heap.size #[.string A, .int .u8 (m : Nat), .bool true] rfl rfl _ _ HG2.out infoCo rfl (by simp [Value.oneCell']) ?_)
    refine bodyPost_ret (results_cell_row rfl _ _ w.heap.size _ #[.string A, .int .u8 (m : Nat), .bool true] _ _ rfl (setRow_heap _ _ _ _ _ _ HG2.out) Try.underlying49 rfl infoCo) rfl ?_
    exact HPO.out _ (HX2.out.setRow (.inr (Nat.le_refl _)) _) (H2.out.above ((Ch.refl _ _).setRow (.inl HLT.out) _))
  · rw [if_neg h128] at hf2
    rw [decide_eq_false h128] at HPO
    have hbd := fun w => buildCo w A (m : Nat) false
    clear h hx0 hlt hb hm h128 hA hP
    unfold RPtr at *
    go_enter Try.func86, Try.ntmps86
    go_wp2_with (go_at_call 84; refine HT.out.mono ?_)
    rintro e w1 ⟨rfl, k1, k2⟩
    have HX1 := Lib.hid (HX0.out.trans k1); have H1 := Lib.hid k2
    have HG1 := Lib.hid (heap_of_only k1 (by have := HLT.out; omega) HG0.out)
    clear k1 k2
    go_wp2_with (go_at_call 85; refine (HBY.out _ H1.out).mono ?_)
    rintro e w2 ⟨rfl, k1, k2⟩
    have HX2 := Lib.hid (HX1.out.trans k1); have H2 := Lib.hid k2
    have HG2 := Lib.hid (heap_of_only k1 (by have := HLT.out; omega) HG1.out)
    clear k1 k2
    go_wp2_with (refine wpList_store_rowTo rfl _ _ _ rfl rfl w.heap.size #[.string A, .int .u8 (m : Nat), .bool false] rfl rfl _ _ HG2.out infoCo rfl (by simp [Value.oneCell']) ?_)
    refine bodyPost_ret (results_cell_row rfl _ _ w.heap.size _ #[.string A, .int .u8 (m : Nat), .bool false] _ _ rfl (setRow_heap _ _ _ _ _ _ HG2.out) Try.underlying49 rfl infoCo) rfl ?_
    exact HPO.out _ (HX2.out.setRow (.inr (Nat.le_refl _)) _) (H2.out.above ((Ch.refl _ _).setRow (.inl HLT.out) _))
end Go.Proofs.Ytcejjckhhdgdnaa
