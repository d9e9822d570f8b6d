/-
  XCelO, XCeTakesW in one text. MADE BY mkMerge.py
-/
import Derived.Test.YteechmgcjfnjbaaCelQ
import Derived.Test.YteechmgcjfnjbaaTakE
import Derived.Test.YteechmgcjfnjbaaRefE
import Derived.Test.YteechmgcjfnjbaaLibE
import Derived.Deep.MidRow
import Derived.Test.YteechmgcjfnjbaaCelG
import Derived.Test.YteechmgcjfnjbaaCelI
import Derived.Test.YteechmgcjfnjbaaTwo
namespace Go.Proofs.Yteechmgcjfnjbaa
open Go.RowKit Go.Lac

section
variable {e : Int} (he : e ≠ 0)
include he
theorem headR_gone (kind : Nat) : headR kind ([], e) = ([], e) := by
  unfold headR
  rw [byteR_gone' he]
  split
  · exact failR_gone he _
  · rfl
theorem awayR_gone : (awayR ([], e)).2 = ([], e) := by
  unfold awayR
  rw [uintR_gone' he]
  simp only
  split
  · exact failR_gone he _
  · rfl
theorem hereR_gone (kind n : Nat) : (hereR kind n ([], e)).2 = ([], e) := by
  unfold hereR
  rw [takeR_gone' he]
  exact failR_gone he _
theorem partedR_first {kind : Nat} {s : RS} (h : (byteR s).2 = ([], e)) : (partedR kind s).2 = ([], e) := by
  have hh : headR kind s = ([], e) := by
    unfold headR
    rw [h]
    split
    · exact failR_gone he _
    · rfl
  unfold partedR
  rw [hh]
  split
  · rfl
  split
  · exact awayR_gone he
  split
  · rw [uintR_gone' he]; exact hereR_gone he _ _
  · simp only; rw [vTake_gone he]
theorem joinedR_first {kind : Nat} {s : RS} (h : (uintR 66 s).2 = ([], e)) : (joinedR kind s).2 = ([], e) := by
  unfold joinedR
  rw [h]
  split
  · rfl
  split
  · exact awayR_gone he
  · exact hereR_gone he _ _
theorem cRaw_gone (ver kind : Nat) : (cRaw ver kind ([], e)).2 = ([], e) := by
  unfold cRaw
  split
  · exact partedR_first he (by rw [byteR_gone' he])
  split
  · exact joinedR_first he (by rw [uintR_gone' he])
  · simp only; rw [vTake_gone he]
end
theorem IsQ.proper {w : World} {q : Nat} {s : RS} (h : IsQ w q s) : s.2 ≠ 0 → s.1 = [] := fun hn => by
  obtain ⟨_, _, _, _, _, _, h4⟩ := h
  rw [h4, if_neg hn]
def CqPost (q : Nat) (x : Cel × Nat) (s' : RS) (w : World) (e : Ending) (w' : World) : Prop :=
  ∃ (c : Cel) (n : Nat), e = .returned (.tuple #[rc c, .int .i64 (n : Nat)]) ∧ Only q w w' ∧ IsWQ w' q s' ∧ (s'.2 = 0 → (c, n) = x)
theorem buildRC_0 (w : World) : (Instr.build 26 #[]).run Try.prog w = .ok (.agg #[.int .u8 0, .int .u8 0, .int .i64 0, .int .u64 0, .int .u64 0, .string ⟨#[]⟩]) w := by kernel_rfl
theorem buildRC_1 (w : World) : (Instr.build 26 #[(0, .int .u8 1)]).run Try.prog w = .ok (.agg #[.int .u8 1, .int .u8 0, .int .i64 0, .int .u64 0, .int .u64 0, .string ⟨#[]⟩]) w := by kernel_rfl
theorem buildRC_2 (w : World) (kind : Nat) : (Instr.build 26 #[(0, .int .u8 2), (1, .agg #[.int .u8 (kind : Nat), .int .i64 0, .int .u64 0, .int .u64 0, .string ⟨#[]⟩])]).run Try.prog w = .ok (.agg #[.int .u8 2, .int .u8 (kind : Nat), .int .i64 0, .int .u64 0, .int .u64 0, .string ⟨#[]⟩]) w := by kernel_rfl
theorem build54_1 (w : World) (kind : Nat) : (Instr.build 24 #[(0, .int .u8 (kind : Nat))]).run Try.prog w = .ok (.agg #[.int .u8 (kind : Nat), .int .i64 0, .int .u64 0, .int .u64 0, .string ⟨#[]⟩]) w := by kernel_rfl
theorem setCells5 {w : World} {g : Nat} {a0 a1 a2 a3 a4 a5 b1 b2 b3 b4 b5 : Value} {E : TypeId} (h : w.heap[g]? = some (.cells #[a0, a1, a2, a3, a4, a5] E (0, 0))) : (w.setCells g 1 [b1, b2, b3, b4, b5]).heap[g]? = some (.cells #[a0, b1, b2, b3, b4, b5] E (0, 0)) :=
  heap_setCell_same _ g 5 _ _ _ (heap_setCell_same _ g 4 _ _ _ (heap_setCell_same _ g 3 _ _ _ (heap_setCell_same _ g 2 _ _ _ (heap_setCell_same _ g 1 _ _ _ h))))
theorem ch_setCells5 {M : Nat → Prop} (w : World) (g : Nat) (hg : M g) (b1 b2 b3 b4 b5 : Value) : Ch M w (w.setCells g 1 [b1, b2, b3, b4, b5]) :=
  Ch.setCell (p := ⟨g, 5, none⟩) (Ch.setCell (p := ⟨g, 4, none⟩) (Ch.setCell (p := ⟨g, 3, none⟩) (Ch.setCell (p := ⟨g, 2, none⟩) (Ch.setCell (p := ⟨g, 1, none⟩) (Ch.refl _ _) (.inl hg) b1) (.inl hg) b2) (.inl hg) b3) (.inl hg) b4) (.inl hg) b5
theorem fieldRC_t (w : World) (b : Nat) : (Instr.fieldAt 24 (.pointer (some ⟨b, 1, none⟩)) 4).run Try.prog w = .ok (.pointer (some ⟨b, 5, none⟩)) w := by kernel_rfl
theorem infoRV : (Try.prog.info? 24).map (·.size) = some 5 := by kernel_rfl

set_option maxRecDepth 20000 in
set_option maxHeartbeats 2000000 in
theorem qlarge_any (q : Nat) (s : RS) (w : World) (h : IsQ w q s) :
    Calls Try.prog 99 #[QPtr q] w (QPost q (.int .i64 ((awayR s).1 : Nat)) (awayR s).2 w) := by
  have hle := uintR_le 2048 s
  have HU := Lib.hid (quint_any q s 2048 w h (by omega))
  unfold awayR
  simp only
  generalize (uintR 2048 s).1 = n at *
  generalize (uintR 2048 s).2 = s1 at *
  have HF := Lib.hid (fun w h => giveUp_any q s1 4 w h)
  have hw : IntKind.i64.wrap (n : Int) = (n : Int) := by rw [IntKind.wrap_i64]; omega
  clear h
  unfold QPtr at *
  by_cases hn : n < 65
  · simp only [if_pos hn]
    have hn' : n ≤ 64 := by omega
    clear hn
    go_enter Try.func99, Try.ntmps99
    go_wp2_with (go_at_call 76; refine HU.out.mono ?_)
    rintro e w1 ⟨rfl, k1, k2⟩
    have K1 := Lib.hid k1; have K2 := Lib.hid k2; clear k1 k2
    go_wp2_with (go_at_call 98; refine (HF.out _ K2.out).mono ?_)
    rintro e w2 ⟨rfl, k1, k2⟩
    have K3 := Lib.hid (K1.out.trans k1); have K4 := Lib.hid k2; clear k1 k2
    go_wp2
    go_ret
    exact ⟨rfl, K3.out, K4.out⟩
  · simp only [if_neg hn]
    have hn' : 64 < n := by omega
    clear hn
    go_enter Try.func99, Try.ntmps99
    go_wp2_with (go_at_call 76; refine HU.out.mono ?_)
    rintro e w1 ⟨rfl, k1, k2⟩
    have K1 := Lib.hid k1; have K2 := Lib.hid k2; clear k1 k2
    go_wp2
    go_ret
    exact ⟨rfl, K1.out, K2.out⟩

def larT (q n kind : Nat) (_ : Nat → Bool) (d : Tmp) (v : Value) (_ : World) : Prop :=
  match d with
  | 62 => v = rc (bigC kind)
  | 63 => v = .pointer (some ⟨q, 0, none⟩)
  | 64 => v = .int .i64 (n : Nat)
  | 107 => v = rc (bigC kind)
  | 108 => v = .pointer (some ⟨q, 0, none⟩)
  | 109 => v = .int .i64 (n : Nat)
  | 7 => v = .int .i64 (n : Nat)
  | _ => True
structure larS (q g6 g8 kind : Nat) (s1 s2 : RS) (W : World) (L : Nat → Bool) (_ : Act) (w : World) : Prop where
  ch : Ch (fun i => i = q ∨ i = g6) W w
  r8 : w.heap[g8]? = some (.cells (rcv (bigC kind)) 26 (0, 0))
  bef : L 2 = false → IsQ w q s1
  aft : L 2 = true → IsWQ w q s2
  r6 : w.heap[g6]? = some (.cells (if L 3 = true then rcv (bigC kind) else #[.int .u8 0, .int .u8 0, .int .i64 0, .int .u64 0, .int .u64 0, .string ⟨#[]⟩]) 26 (0, 0))
theorem larS.start {q g6 g8 kind : Nat} {s1 s2 : RS} {W : World} {x : Act} (h8 : W.heap[g8]? = some (.cells #[.int .u8 2, .int .u8 (kind : Nat), .int .i64 0, .int .u64 0, .int .u64 0, .string ⟨#[]⟩] 26 (0, 0))) (hI : IsQ W q s1) (h6 : W.heap[g6]? = some (.cells #[.int .u8 0, .int .u8 0, .int .i64 0, .int .u64 0, .int .u64 0, .string ⟨#[]⟩] 26 (0, 0))) : larS q g6 g8 kind s1 s2 W (fun _ => false) x W.drew where
  ch := Ch.drew (Ch.refl _ _)
  r8 := heap_of_ext (Ch.drew (Ch.refl _ _)) h8
  bef _ := hI.ext (Ch.drew (Ch.refl _ _))
  aft h := absurd h (by simp)
  r6 := by simpa using heap_of_ext (Ch.drew (Ch.refl _ W)) h6
theorem larS.ext {q g6 g8 kind : Nat} {s1 s2 : RS} {W w w' : World} {L L' : Nat → Bool} {x x' : Act} (h : larS q g6 g8 kind s1 s2 W L x w) (k : Ext w w') (e2 : L' 2 = L 2) (e3 : L' 3 = L 3) : larS q g6 g8 kind s1 s2 W L' x' w' where
  ch := h.ch.trans k.ch
  r8 := heap_of_ext k h.r8
  bef hl := (h.bef (by rw [← e2]; exact hl)).ext k
  aft hl := (h.aft (by rw [← e2]; exact hl)).ext k
  r6 := by rw [e3]; exact heap_of_ext k h.r6

set_option maxRecDepth 20000 in
set_option maxHeartbeats 3000000 in
theorem rtake_bv (q : Nat) (l : List UInt8) (kind ver : Nat) (w : World) (h : IsQ w q (l, 0)) (hv : ver ≠ 1 ∧ ver ≠ 2) :
    Calls Try.prog 61 #[QPtr q, .int .u8 (kind : Nat), .int .u8 (ver : Nat)] w (CqPost q (cRaw ver kind (tPre ver kind (l, 0))).1 (cRaw ver kind (tPre ver kind (l, 0))).2 w) := by
  have hp : tPre ver kind (l, 0) = ([], 18) := by
    unfold tPre; simp only; rw [if_neg (show ¬ (ver = 1 ∨ ver = 2) by omega), show failR (l, 0) 18 = ([], 18) from rfl, failR_gone (by decide)]; split <;> rfl
  have HV : Hid ((cRaw ver kind (tPre ver kind (l, 0))).2 = ([], 18) ∧ ((([] : List UInt8), (18 : Int)).2 ≠ 0)) := Lib.hid ⟨by rw [hp]; exact cRaw_gone (by decide) ver kind, by decide⟩
  have HP : Hid (∀ (c : Cel) (n : Nat) w', Only q w w' → IsWQ w' q ([], 18) → CqPost q (cRaw ver kind (tPre ver kind (l, 0))).1 (cRaw ver kind (tPre ver kind (l, 0))).2 w (.returned (.tuple #[rc c, .int .i64 (n : Nat)])) w') := Lib.hid fun c n w' h1 h2 => by rw [HV.out.1]; exact ⟨c, n, rfl, h1, h2, fun h => absurd h HV.out.2⟩
  have hql := h.lt
  have HQL := Lib.hid hql
  have hx0 : Ext w (w.alloc (.cells #[.int .u8 0, .int .u8 0, .int .i64 0, .int .u64 0, .int .u64 0, .string ⟨#[]⟩] 26)) := (Ch.refl _ _).alloc _
  have HZ0 := Lib.hid (heap_alloc_new w (.cells #[.int .u8 0, .int .u8 0, .int .i64 0, .int .u64 0, .int .u64 0, .string ⟨#[]⟩] 26))
  have HX0 : Hid (Only q w (w.alloc (.cells #[.int .u8 0, .int .u8 0, .int .i64 0, .int .u64 0, .int .u64 0, .string ⟨#[]⟩] 26))) := Lib.hid hx0.ch
  have HI0 := Lib.hid (h.ext hx0)
  have HF := Lib.hid (giveUp_any q (l, 0) 18 _ HI0.out)
  have hb0 := fun w => buildRC_0 w
  rw [show failR (l, 0) 18 = ([], 18) from rfl] at HF
  have e1 : (((ver : Nat) : Int) != 1) = true := by simp; omega
  have e2 : (((ver : Nat) : Int) != 2) = true := by simp; omega
  clear h hx0 hql hp
  clear hv
  unfold QPtr at *
  go_enter Try.func61, Try.ntmps61
  go_wp2_with (go_at_call 98; refine HF.out.mono ?_)
  rintro e w1 ⟨rfl, k1, k2⟩
  have HX1 := Lib.hid (HX0.out.trans k1); have HI1 := Lib.hid k2
  have HZ1 := Lib.hid (heap_of_only k1 (by have := HQL.out; omega) HZ0.out)
  clear k1 k2
  go_wp2_with (first
    | (refine wpList_store_rowTo rfl _ _ _ rfl rfl w.heap.size #[.int .u8 0, .int .u8 0, .int .i64 0, .int .u64 0, .int .u64 0, .string ⟨#[]⟩] rfl rfl _ _ HZ1.out infoRC rfl (by simp [Value.oneCell', rcv, strV]) ?_))
  refine bodyPost_ret (results_cell2 rfl _ _ w.heap.size _ #[.int .u8 0, .int .u8 0, .int .i64 0, .int .u64 0, .int .u64 0, .string ⟨#[]⟩] _ _ rfl (setRow_heap _ _ _ _ _ _ HZ1.out) Try.underlying26 rfl infoRC) rfl ?_
  exact HP.out Cel.zero 0 _ (HX1.out.setRow (.inr (Nat.le_refl _)) _) ((HI1.out.weak).same (setRow_other _ _ _ _ (by have := HQL.out; omega)))

set_option maxRecDepth 20000 in
set_option maxHeartbeats 3000000 in
theorem rtake_bt (q : Nat) (l : List UInt8) (kind ver : Nat) (w : World) (h : IsQ w q (l, 0)) (hv : ver = 1 ∨ ver = 2) (hk : kind < 1 ∨ 6 < kind) :
    Calls Try.prog 61 #[QPtr q, .int .u8 (kind : Nat), .int .u8 (ver : Nat)] w (CqPost q (cRaw ver kind (tPre ver kind (l, 0))).1 (cRaw ver kind (tPre ver kind (l, 0))).2 w) := by
  have hp : tPre ver kind (l, 0) = ([], 11) := by
    unfold tPre; simp only; rw [if_pos hv, if_neg (by omega)]; rfl
  have HV : Hid ((cRaw ver kind (tPre ver kind (l, 0))).2 = ([], 11) ∧ ((([] : List UInt8), (11 : Int)).2 ≠ 0)) := Lib.hid ⟨by rw [hp]; exact cRaw_gone (by decide) ver kind, by decide⟩
  have HP : Hid (∀ (c : Cel) (n : Nat) w', Only q w w' → IsWQ w' q ([], 11) → CqPost q (cRaw ver kind (tPre ver kind (l, 0))).1 (cRaw ver kind (tPre ver kind (l, 0))).2 w (.returned (.tuple #[rc c, .int .i64 (n : Nat)])) w') := Lib.hid fun c n w' h1 h2 => by rw [HV.out.1]; exact ⟨c, n, rfl, h1, h2, fun h => absurd h HV.out.2⟩
  have hql := h.lt
  have HQL := Lib.hid hql
  have hx0 : Ext w (w.alloc (.cells #[.int .u8 0, .int .u8 0, .int .i64 0, .int .u64 0, .int .u64 0, .string ⟨#[]⟩] 26)) := (Ch.refl _ _).alloc _
  have HZ0 := Lib.hid (heap_alloc_new w (.cells #[.int .u8 0, .int .u8 0, .int .i64 0, .int .u64 0, .int .u64 0, .string ⟨#[]⟩] 26))
  have HX0 : Hid (Only q w (w.alloc (.cells #[.int .u8 0, .int .u8 0, .int .i64 0, .int .u64 0, .int .u64 0, .string ⟨#[]⟩] 26))) := Lib.hid hx0.ch
  have HI0 := Lib.hid (h.ext hx0)
  have HF := Lib.hid (giveUp_any q (l, 0) 11 _ HI0.out)
  have hb0 := fun w => buildRC_0 w
  rw [show failR (l, 0) 11 = ([], 11) from rfl] at HF
  clear h hx0 hql hp
  rcases hv with rfl | rfl <;> rcases hk with hk | hk
  · unfold QPtr at *
    go_enter Try.func61, Try.ntmps61
    go_wp2_with (go_at_call 98; refine HF.out.mono ?_)
    rintro e w1 ⟨rfl, k1, k2⟩
    have HX1 := Lib.hid (HX0.out.trans k1); have HI1 := Lib.hid k2
    have HZ1 := Lib.hid (heap_of_only k1 (by have := HQL.out; omega) HZ0.out)
    clear k1 k2
    go_wp2_with (first
      | (refine wpList_store_rowTo rfl _ _ _ rfl rfl w.heap.size #[.int .u8 0, .int .u8 0, .int .i64 0, .int .u64 0, .int .u64 0, .string ⟨#[]⟩] rfl rfl _ _ HZ1.out infoRC rfl (by simp [Value.oneCell', rcv, strV]) ?_))
    refine bodyPost_ret (results_cell2 rfl _ _ w.heap.size _ #[.int .u8 0, .int .u8 0, .int .i64 0, .int .u64 0, .int .u64 0, .string ⟨#[]⟩] _ _ rfl (setRow_heap _ _ _ _ _ _ HZ1.out) Try.underlying26 rfl infoRC) rfl ?_
    exact HP.out Cel.zero 0 _ (HX1.out.setRow (.inr (Nat.le_refl _)) _) ((HI1.out.weak).same (setRow_other _ _ _ _ (by have := HQL.out; omega)))

  · unfold QPtr at *
    go_enter Try.func61, Try.ntmps61
    go_wp2_with (go_at_call 98; refine HF.out.mono ?_)
    rintro e w1 ⟨rfl, k1, k2⟩
    have HX1 := Lib.hid (HX0.out.trans k1); have HI1 := Lib.hid k2
    have HZ1 := Lib.hid (heap_of_only k1 (by have := HQL.out; omega) HZ0.out)
    clear k1 k2
    go_wp2_with (first
      | (refine wpList_store_rowTo rfl _ _ _ rfl rfl w.heap.size #[.int .u8 0, .int .u8 0, .int .i64 0, .int .u64 0, .int .u64 0, .string ⟨#[]⟩] rfl rfl _ _ HZ1.out infoRC rfl (by simp [Value.oneCell', rcv, strV]) ?_))
    refine bodyPost_ret (results_cell2 rfl _ _ w.heap.size _ #[.int .u8 0, .int .u8 0, .int .i64 0, .int .u64 0, .int .u64 0, .string ⟨#[]⟩] _ _ rfl (setRow_heap _ _ _ _ _ _ HZ1.out) Try.underlying26 rfl infoRC) rfl ?_
    exact HP.out Cel.zero 0 _ (HX1.out.setRow (.inr (Nat.le_refl _)) _) ((HI1.out.weak).same (setRow_other _ _ _ _ (by have := HQL.out; omega)))

  · unfold QPtr at *
    go_enter Try.func61, Try.ntmps61
    go_wp2_with (go_at_call 98; refine HF.out.mono ?_)
    rintro e w1 ⟨rfl, k1, k2⟩
    have HX1 := Lib.hid (HX0.out.trans k1); have HI1 := Lib.hid k2
    have HZ1 := Lib.hid (heap_of_only k1 (by have := HQL.out; omega) HZ0.out)
    clear k1 k2
    go_wp2_with (first
      | (refine wpList_store_rowTo rfl _ _ _ rfl rfl w.heap.size #[.int .u8 0, .int .u8 0, .int .i64 0, .int .u64 0, .int .u64 0, .string ⟨#[]⟩] rfl rfl _ _ HZ1.out infoRC rfl (by simp [Value.oneCell', rcv, strV]) ?_))
    refine bodyPost_ret (results_cell2 rfl _ _ w.heap.size _ #[.int .u8 0, .int .u8 0, .int .i64 0, .int .u64 0, .int .u64 0, .string ⟨#[]⟩] _ _ rfl (setRow_heap _ _ _ _ _ _ HZ1.out) Try.underlying26 rfl infoRC) rfl ?_
    exact HP.out Cel.zero 0 _ (HX1.out.setRow (.inr (Nat.le_refl _)) _) ((HI1.out.weak).same (setRow_other _ _ _ _ (by have := HQL.out; omega)))

  · unfold QPtr at *
    go_enter Try.func61, Try.ntmps61
    go_wp2_with (go_at_call 98; refine HF.out.mono ?_)
    rintro e w1 ⟨rfl, k1, k2⟩
    have HX1 := Lib.hid (HX0.out.trans k1); have HI1 := Lib.hid k2
    have HZ1 := Lib.hid (heap_of_only k1 (by have := HQL.out; omega) HZ0.out)
    clear k1 k2
    go_wp2_with (first
      | (refine wpList_store_rowTo rfl _ _ _ rfl rfl w.heap.size #[.int .u8 0, .int .u8 0, .int .i64 0, .int .u64 0, .int .u64 0, .string ⟨#[]⟩] rfl rfl _ _ HZ1.out infoRC rfl (by simp [Value.oneCell', rcv, strV]) ?_))
    refine bodyPost_ret (results_cell2 rfl _ _ w.heap.size _ #[.int .u8 0, .int .u8 0, .int .i64 0, .int .u64 0, .int .u64 0, .string ⟨#[]⟩] _ _ rfl (setRow_heap _ _ _ _ _ _ HZ1.out) Try.underlying26 rfl infoRC) rfl ?_
    exact HP.out Cel.zero 0 _ (HX1.out.setRow (.inr (Nat.le_refl _)) _) ((HI1.out.weak).same (setRow_other _ _ _ _ (by have := HQL.out; omega)))


theorem byteR_lack {l : List UInt8} (he : (byteR (l, 0)).2.2 ≠ 0) : (byteR (l, 0)).2 = ([], (byteR (l, 0)).2.2) := by
  cases l with
  | nil => rw [byteR_nil]
  | cons x l => rw [byteR_cons] at he; exact absurd rfl he
theorem uintR_lack {m : Nat} {l : List UInt8} (he : (uintR m (l, 0)).2.2 ≠ 0) : (uintR m (l, 0)).2 = ([], (uintR m (l, 0)).2.2) := by
  unfold uintR at he ⊢
  have hf : ∀ c : Int, c ≠ 0 → failR (l, 0) c = ([], c) := fun c hc => by unfold failR; simp [hc]
  simp only at he ⊢
  split
  · rename_i h1
    simp only
    rw [hf _ (by omega)]
  · split
    · simp only; rw [hf 4 (by decide)]
    · rename_i h1 h2
      rw [if_neg h1, if_neg h2] at he
      exact absurd rfl he

set_option maxRecDepth 20000 in
set_option maxHeartbeats 3000000 in
theorem rtake_v1e (q : Nat) (l : List UInt8) (kind ver : Nat) (w : World) (h : IsQ w q (l, 0)) (hv : ver = 1 ∨ ver = 2) (hk : 1 ≤ kind ∧ kind ≤ 6) (h1 : ver = 1) (he : (byteR (l, 0)).2.2 ≠ 0) :
    Calls Try.prog 61 #[QPtr q, .int .u8 (kind : Nat), .int .u8 (ver : Nat)] w (CqPost q (cRaw ver kind (tPre ver kind (l, 0))).1 (cRaw ver kind (tPre ver kind (l, 0))).2 w) := by
  have hp : tPre ver kind (l, 0) = (l, 0) := tPre_ok (l, 0) hv hk.1 hk.2
  have HB3 := qbyte_any q (l, 0)
  have hpr : ∀ w', IsQ w' q (byteR (l, 0)).2 → (byteR (l, 0)).2 = ([], (byteR (l, 0)).2.2) := fun w' h' => Prod.ext (h'.proper he) rfl
  have hpr2 : (byteR (l, 0)).2 = ([], (byteR (l, 0)).2.2) := byteR_lack he
  have HV : Hid ((cRaw ver kind (tPre ver kind (l, 0))).2 = (byteR (l, 0)).2 ∧ (byteR (l, 0)).2.2 ≠ 0) := Lib.hid ⟨by rw [hp, h1, cRaw_1, hpr2]; exact partedR_first he hpr2, he⟩
  have HP : Hid (∀ (c : Cel) (n : Nat) w', Only q w w' → IsWQ w' q (byteR (l, 0)).2 → CqPost q (cRaw ver kind (tPre ver kind (l, 0))).1 (cRaw ver kind (tPre ver kind (l, 0))).2 w (.returned (.tuple #[rc c, .int .i64 (n : Nat)])) w') := Lib.hid fun c n w' h1 h2 => by rw [HV.out.1]; exact ⟨c, n, rfl, h1, h2, fun h => absurd h HV.out.2⟩
  have hql := h.lt
  have HQL := Lib.hid hql
  have hg6 : ((w.alloc (.cells #[.int .u8 0, .int .u8 0, .int .i64 0, .int .u64 0, .int .u64 0, .string ⟨#[]⟩] 26)).alloc (.cells #[.int .u8 0, .int .u8 0, .int .i64 0, .int .u64 0, .int .u64 0, .string ⟨#[]⟩] 26)).heap[w.heap.size]? = _ := heap_alloc2_old w _ _
  have hq : ((w.alloc (.cells #[.int .u8 0, .int .u8 0, .int .i64 0, .int .u64 0, .int .u64 0, .string ⟨#[]⟩] 26)).alloc (.cells #[.int .u8 0, .int .u8 0, .int .i64 0, .int .u64 0, .int .u64 0, .string ⟨#[]⟩] 26)).heap[(w.heap.size + 1)]? = _ := heap_alloc2_new w _ _
  have HQ := Lib.hid hq
  obtain ⟨W3, hW3⟩ : ∃ W3, W3 = ((w.alloc (.cells #[.int .u8 0, .int .u8 0, .int .i64 0, .int .u64 0, .int .u64 0, .string ⟨#[]⟩] 26)).alloc (.cells #[.int .u8 0, .int .u8 0, .int .i64 0, .int .u64 0, .int .u64 0, .string ⟨#[]⟩] 26)).setRow (w.heap.size + 1) #[.int .u8 2, .int .u8 (kind : Nat), .int .i64 0, .int .u64 0, .int .u64 0, .string ⟨#[]⟩] := ⟨_, rfl⟩
  have hx3 : Ext w W3 := by rw [hW3]; exact (((Ch.refl _ _).alloc _).alloc _).setRow (.inr (by omega)) _
  have HZ3 : Hid (W3.heap[w.heap.size]? = some (.cells #[.int .u8 0, .int .u8 0, .int .i64 0, .int .u64 0, .int .u64 0, .string ⟨#[]⟩] 26 (0, 0))) := Lib.hid (by rw [hW3, setRow_other _ _ _ _ (by omega)]; exact hg6)
  have HR3 : Hid (W3.heap[(w.heap.size + 1)]? = some (.cells #[.int .u8 2, .int .u8 (kind : Nat), .int .i64 0, .int .u64 0, .int .u64 0, .string ⟨#[]⟩] 26 (0, 0))) := Lib.hid (by rw [hW3]; exact setRow_heap _ _ _ _ _ _ hq)
  have HX3 : Hid (Only q w W3) := Lib.hid hx3.ch
  have HI3 := Lib.hid (h.ext hx3)
  have HW3 := Lib.hid hW3
  have hb1 := fun w => build54_1 w kind
  have hb2 := fun w => buildRC_2 w kind
  clear hq hx3 hg6 hW3
  have HU := Lib.hid (qbyte_any q (l, 0) W3 HI3.out)
  generalize (byteR (l, 0)).1 = b at *
  generalize (byteR (l, 0)).2 = s1 at *
  have HERR := Lib.hid he
  have hb0 := fun w => buildRC_0 w
  subst h1
  have hk1 := hk.1
  have hk6 := hk.2
  clear hk
  clear h hql hp hpr hpr2 he hv HB3
  unfold QPtr at *
  go_enter Try.func61, Try.ntmps61
  go_wp2_with (first
    | (refine wpList_store_rowTo rfl _ _ _ rfl rfl (w.heap.size + 1) #[.int .u8 2, .int .u8 (kind : Nat), .int .i64 0, .int .u64 0, .int .u64 0, .string ⟨#[]⟩] rfl rfl _ _ HQ.out infoRC rfl (by simp [Value.oneCell']) ?_; rw [← HW3.out])
    | (go_at_call 78; refine HU.out.mono ?_))
  rintro e w1 ⟨rfl, k1, k2⟩
  have HX1 := Lib.hid (HX3.out.trans k1); have HI1 := Lib.hid k2
  have HZ1 := Lib.hid (heap_of_only k1 (by have := HQL.out; omega) HZ3.out); have HR1 := Lib.hid (heap_of_only k1 (by have := HQL.out; omega) HR3.out)
  clear k1 k2
  obtain ⟨_, _, _, _, _, _, ce, _⟩ := HI1.out.cells
  have eb : (s1.2 != 0) = true := by simpa using HERR.out
  go_wp2_with (first
    | (refine wpList_store_rowTo rfl _ _ _ rfl rfl w.heap.size #[.int .u8 0, .int .u8 0, .int .i64 0, .int .u64 0, .int .u64 0, .string ⟨#[]⟩] rfl rfl _ _ HZ1.out infoRC rfl (by simp [Value.oneCell', rcv, strV]) ?_))
  refine bodyPost_ret (results_cell2 rfl _ _ w.heap.size _ #[.int .u8 0, .int .u8 0, .int .i64 0, .int .u64 0, .int .u64 0, .string ⟨#[]⟩] _ _ rfl (setRow_heap _ _ _ _ _ _ HZ1.out) Try.underlying26 rfl infoRC) rfl ?_
  exact HP.out Cel.zero 0 _ (HX1.out.setRow (.inr (Nat.le_refl _)) _) ((HI1.out.weak).same (setRow_other _ _ _ _ (by have := HQL.out; omega)))

set_option maxRecDepth 20000 in
set_option maxHeartbeats 3000000 in
theorem rtake_v1_0T (q : Nat) (l : List UInt8) (kind ver : Nat) (w : World) (h : IsQ w q (l, 0)) (hv : ver = 1 ∨ ver = 2) (hk : 1 ≤ kind ∧ kind ≤ 6) (h1 : ver = 1) (he : (byteR (l, 0)).2.2 = 0) (hb : (byteR (l, 0)).1 = 0) (ht : texty kind = true) :
    Calls Try.prog 61 #[QPtr q, .int .u8 (kind : Nat), .int .u8 (ver : Nat)] w (CqPost q (cRaw ver kind (tPre ver kind (l, 0))).1 (cRaw ver kind (tPre ver kind (l, 0))).2 w) := by
  have hp : tPre ver kind (l, 0) = (l, 0) := tPre_ok (l, 0) hv hk.1 hk.2
  have HV : Hid (cRaw ver kind (tPre ver kind (l, 0)) = ((sameC, 0), (byteR (l, 0)).2)) := Lib.hid (by rw [hp, h1, cRaw_1]; have hh : headR kind (l, 0) = (byteR (l, 0)).2 := (by unfold headR; rw [if_neg (by rintro (h | h) <;> first | omega | (rw [ht] at h; simp at h))]); unfold partedR; rw [hh]; rw [if_pos hb])
  have HP : Hid (∀ (c : Cel) (n : Nat) w', Only q w w' → IsWQ w' q (((sameC, 0), (byteR (l, 0)).2)).2 → ((((sameC, 0), (byteR (l, 0)).2)).2.2 = 0 → (c, n) = (((sameC, 0), (byteR (l, 0)).2)).1) → CqPost q (cRaw ver kind (tPre ver kind (l, 0))).1 (cRaw ver kind (tPre ver kind (l, 0))).2 w (.returned (.tuple #[rc c, .int .i64 (n : Nat)])) w') := Lib.hid fun c n w' h1 h2 h3 => by rw [HV.out]; exact ⟨c, n, rfl, h1, h2, h3⟩
  have hql := h.lt
  have HQL := Lib.hid hql
  have hg6 : ((w.alloc (.cells #[.int .u8 0, .int .u8 0, .int .i64 0, .int .u64 0, .int .u64 0, .string ⟨#[]⟩] 26)).alloc (.cells #[.int .u8 0, .int .u8 0, .int .i64 0, .int .u64 0, .int .u64 0, .string ⟨#[]⟩] 26)).heap[w.heap.size]? = _ := heap_alloc2_old w _ _
  have hq : ((w.alloc (.cells #[.int .u8 0, .int .u8 0, .int .i64 0, .int .u64 0, .int .u64 0, .string ⟨#[]⟩] 26)).alloc (.cells #[.int .u8 0, .int .u8 0, .int .i64 0, .int .u64 0, .int .u64 0, .string ⟨#[]⟩] 26)).heap[(w.heap.size + 1)]? = _ := heap_alloc2_new w _ _
  have HQ := Lib.hid hq
  obtain ⟨W3, hW3⟩ : ∃ W3, W3 = ((w.alloc (.cells #[.int .u8 0, .int .u8 0, .int .i64 0, .int .u64 0, .int .u64 0, .string ⟨#[]⟩] 26)).alloc (.cells #[.int .u8 0, .int .u8 0, .int .i64 0, .int .u64 0, .int .u64 0, .string ⟨#[]⟩] 26)).setRow (w.heap.size + 1) #[.int .u8 2, .int .u8 (kind : Nat), .int .i64 0, .int .u64 0, .int .u64 0, .string ⟨#[]⟩] := ⟨_, rfl⟩
  have hx3 : Ext w W3 := by rw [hW3]; exact (((Ch.refl _ _).alloc _).alloc _).setRow (.inr (by omega)) _
  have HZ3 : Hid (W3.heap[w.heap.size]? = some (.cells #[.int .u8 0, .int .u8 0, .int .i64 0, .int .u64 0, .int .u64 0, .string ⟨#[]⟩] 26 (0, 0))) := Lib.hid (by rw [hW3, setRow_other _ _ _ _ (by omega)]; exact hg6)
  have HR3 : Hid (W3.heap[(w.heap.size + 1)]? = some (.cells #[.int .u8 2, .int .u8 (kind : Nat), .int .i64 0, .int .u64 0, .int .u64 0, .string ⟨#[]⟩] 26 (0, 0))) := Lib.hid (by rw [hW3]; exact setRow_heap _ _ _ _ _ _ hq)
  have HX3 : Hid (Only q w W3) := Lib.hid hx3.ch
  have HI3 := Lib.hid (h.ext hx3)
  have HW3 := Lib.hid hW3
  have hb1 := fun w => build54_1 w kind
  have hb2 := fun w => buildRC_2 w kind
  clear hq hx3 hg6 hW3
  have HU := Lib.hid (qbyte_any q (l, 0) W3 HI3.out)
  generalize (byteR (l, 0)).1 = b at *
  generalize (byteR (l, 0)).2 = s1 at *
  have HERR := Lib.hid he
  have HTX := Lib.hid (fun w => rTexty_any kind w)
  rw [ht] at HTX
  subst hb
  have hb3 := fun w => buildRC_1 w
  subst h1
  have hk1 := hk.1
  have hk6 := hk.2
  clear hk
  clear h hql hp he hv ht HV
  unfold QPtr at *
  go_enter Try.func61, Try.ntmps61
  go_wp2_with (first
    | (refine wpList_store_rowTo rfl _ _ _ rfl rfl (w.heap.size + 1) #[.int .u8 2, .int .u8 (kind : Nat), .int .i64 0, .int .u64 0, .int .u64 0, .string ⟨#[]⟩] rfl rfl _ _ HQ.out infoRC rfl (by simp [Value.oneCell']) ?_; rw [← HW3.out])
    | (go_at_call 78; refine HU.out.mono ?_))
  rintro e w1 ⟨rfl, k1, k2⟩
  have HX1 := Lib.hid (HX3.out.trans k1); have HI1 := Lib.hid k2
  have HZ1 := Lib.hid (heap_of_only k1 (by have := HQL.out; omega) HZ3.out); have HR1 := Lib.hid (heap_of_only k1 (by have := HQL.out; omega) HR3.out)
  clear k1 k2
  obtain ⟨_, _, _, _, _, _, ce, _⟩ := HI1.out.cells
  have eb : (s1.2 != 0) = false := by simpa using HERR.out
  go_wp2_with (first
    | (go_at_call 49; refine (HTX.out _).mono ?_; rintro e w' ⟨rfl, rfl⟩)
    | (refine wpList_store_rowTo rfl _ _ _ rfl rfl w.heap.size #[.int .u8 1, .int .u8 0, .int .i64 0, .int .u64 0, .int .u64 0, .string ⟨#[]⟩] rfl rfl _ _ HZ1.out infoRC rfl (by simp [Value.oneCell', rcv, strV]) ?_))
  refine bodyPost_ret (results_cell2 rfl _ _ w.heap.size _ #[.int .u8 1, .int .u8 0, .int .i64 0, .int .u64 0, .int .u64 0, .string ⟨#[]⟩] _ _ rfl (setRow_heap _ _ _ _ _ _ HZ1.out) Try.underlying26 rfl infoRC) rfl ?_
  exact HP.out sameC 0 _ (HX1.out.setRow (.inr (Nat.le_refl _)) _) ((HI1.out.weak).same (setRow_other _ _ _ _ (by have := HQL.out; omega))) (fun _ => rfl)

set_option maxRecDepth 20000 in
set_option maxHeartbeats 3000000 in
theorem rtake_v1_0F (q : Nat) (l : List UInt8) (kind ver : Nat) (w : World) (h : IsQ w q (l, 0)) (hv : ver = 1 ∨ ver = 2) (hk : 1 ≤ kind ∧ kind ≤ 6) (h1 : ver = 1) (he : (byteR (l, 0)).2.2 = 0) (hb : (byteR (l, 0)).1 = 0) (ht : texty kind = false) :
    Calls Try.prog 61 #[QPtr q, .int .u8 (kind : Nat), .int .u8 (ver : Nat)] w (CqPost q (cRaw ver kind (tPre ver kind (l, 0))).1 (cRaw ver kind (tPre ver kind (l, 0))).2 w) := by
  have hp : tPre ver kind (l, 0) = (l, 0) := tPre_ok (l, 0) hv hk.1 hk.2
  have HV : Hid (cRaw ver kind (tPre ver kind (l, 0)) = ((sameC, 0), failR (byteR (l, 0)).2 7)) := Lib.hid (by rw [hp, h1, cRaw_1]; have hh : headR kind (l, 0) = failR (byteR (l, 0)).2 7 := (by unfold headR; rw [if_pos (by exact .inr ⟨by omega, ht⟩)]); unfold partedR; rw [hh]; rw [if_pos hb])
  have HP : Hid (∀ (c : Cel) (n : Nat) w', Only q w w' → IsWQ w' q (((sameC, 0), failR (byteR (l, 0)).2 7)).2 → ((((sameC, 0), failR (byteR (l, 0)).2 7)).2.2 = 0 → (c, n) = (((sameC, 0), failR (byteR (l, 0)).2 7)).1) → CqPost q (cRaw ver kind (tPre ver kind (l, 0))).1 (cRaw ver kind (tPre ver kind (l, 0))).2 w (.returned (.tuple #[rc c, .int .i64 (n : Nat)])) w') := Lib.hid fun c n w' h1 h2 h3 => by rw [HV.out]; exact ⟨c, n, rfl, h1, h2, h3⟩
  have hql := h.lt
  have HQL := Lib.hid hql
  have hg6 : ((w.alloc (.cells #[.int .u8 0, .int .u8 0, .int .i64 0, .int .u64 0, .int .u64 0, .string ⟨#[]⟩] 26)).alloc (.cells #[.int .u8 0, .int .u8 0, .int .i64 0, .int .u64 0, .int .u64 0, .string ⟨#[]⟩] 26)).heap[w.heap.size]? = _ := heap_alloc2_old w _ _
  have hq : ((w.alloc (.cells #[.int .u8 0, .int .u8 0, .int .i64 0, .int .u64 0, .int .u64 0, .string ⟨#[]⟩] 26)).alloc (.cells #[.int .u8 0, .int .u8 0, .int .i64 0, .int .u64 0, .int .u64 0, .string ⟨#[]⟩] 26)).heap[(w.heap.size + 1)]? = _ := heap_alloc2_new w _ _
  have HQ := Lib.hid hq
  obtain ⟨W3, hW3⟩ : ∃ W3, W3 = ((w.alloc (.cells #[.int .u8 0, .int .u8 0, .int .i64 0, .int .u64 0, .int .u64 0, .string ⟨#[]⟩] 26)).alloc (.cells #[.int .u8 0, .int .u8 0, .int .i64 0, .int .u64 0, .int .u64 0, .string ⟨#[]⟩] 26)).setRow (w.heap.size + 1) #[.int .u8 2, .int .u8 (kind : Nat), .int .i64 0, .int .u64 0, .int .u64 0, .string ⟨#[]⟩] := ⟨_, rfl⟩
  have hx3 : Ext w W3 := by rw [hW3]; exact (((Ch.refl _ _).alloc _).alloc _).setRow (.inr (by omega)) _
  have HZ3 : Hid (W3.heap[w.heap.size]? = some (.cells #[.int .u8 0, .int .u8 0, .int .i64 0, .int .u64 0, .int .u64 0, .string ⟨#[]⟩] 26 (0, 0))) := Lib.hid (by rw [hW3, setRow_other _ _ _ _ (by omega)]; exact hg6)
  have HR3 : Hid (W3.heap[(w.heap.size + 1)]? = some (.cells #[.int .u8 2, .int .u8 (kind : Nat), .int .i64 0, .int .u64 0, .int .u64 0, .string ⟨#[]⟩] 26 (0, 0))) := Lib.hid (by rw [hW3]; exact setRow_heap _ _ _ _ _ _ hq)
  have HX3 : Hid (Only q w W3) := Lib.hid hx3.ch
  have HI3 := Lib.hid (h.ext hx3)
  have HW3 := Lib.hid hW3
  have hb1 := fun w => build54_1 w kind
  have hb2 := fun w => buildRC_2 w kind
  clear hq hx3 hg6 hW3
  have HU := Lib.hid (qbyte_any q (l, 0) W3 HI3.out)
  generalize (byteR (l, 0)).1 = b at *
  generalize (byteR (l, 0)).2 = s1 at *
  have HERR := Lib.hid he
  have HTX := Lib.hid (fun w => rTexty_any kind w)
  rw [ht] at HTX
  subst hb
  have HF := Lib.hid (fun w h => giveUp_any q s1 7 w h)
  generalize failR s1 7 = s2 at *
  have hb3 := fun w => buildRC_1 w
  subst h1
  have hk1 := hk.1
  have hk6 := hk.2
  clear hk
  clear h hql hp he hv ht HV
  unfold QPtr at *
  go_enter Try.func61, Try.ntmps61
  go_wp2_with (first
    | (refine wpList_store_rowTo rfl _ _ _ rfl rfl (w.heap.size + 1) #[.int .u8 2, .int .u8 (kind : Nat), .int .i64 0, .int .u64 0, .int .u64 0, .string ⟨#[]⟩] rfl rfl _ _ HQ.out infoRC rfl (by simp [Value.oneCell']) ?_; rw [← HW3.out])
    | (go_at_call 78; refine HU.out.mono ?_))
  rintro e w1 ⟨rfl, k1, k2⟩
  have HX1 := Lib.hid (HX3.out.trans k1); have HI1 := Lib.hid k2
  have HZ1 := Lib.hid (heap_of_only k1 (by have := HQL.out; omega) HZ3.out); have HR1 := Lib.hid (heap_of_only k1 (by have := HQL.out; omega) HR3.out)
  clear k1 k2
  obtain ⟨_, _, _, _, _, _, ce, _⟩ := HI1.out.cells
  have eb : (s1.2 != 0) = false := by simpa using HERR.out
  go_wp2_with (first
    | (go_at_call 49; refine (HTX.out _).mono ?_; rintro e w' ⟨rfl, rfl⟩)
    | (go_at_call 98; refine (HF.out _ HI1.out).mono ?_))
  rintro e w2 ⟨rfl, k1, k2⟩
  have HX2 := Lib.hid (HX1.out.trans k1); have HI2 := Lib.hid k2
  have HZ2 := Lib.hid (heap_of_only k1 (by have := HQL.out; omega) HZ1.out); have HR2 := Lib.hid (heap_of_only k1 (by have := HQL.out; omega) HR1.out)
  clear k1 k2
  go_wp2_with (first
    | (go_at_call 49; refine (HTX.out _).mono ?_; rintro e w' ⟨rfl, rfl⟩)
    | (refine wpList_store_rowTo rfl _ _ _ rfl rfl w.heap.size #[.int .u8 1, .int .u8 0, .int .i64 0, .int .u64 0, .int .u64 0, .string ⟨#[]⟩] rfl rfl _ _ HZ2.out infoRC rfl (by simp [Value.oneCell', rcv, strV]) ?_))
  refine bodyPost_ret (results_cell2 rfl _ _ w.heap.size _ #[.int .u8 1, .int .u8 0, .int .i64 0, .int .u64 0, .int .u64 0, .string ⟨#[]⟩] _ _ rfl (setRow_heap _ _ _ _ _ _ HZ2.out) Try.underlying26 rfl infoRC) rfl ?_
  exact HP.out sameC 0 _ (HX2.out.setRow (.inr (Nat.le_refl _)) _) ((HI2.out.weak).same (setRow_other _ _ _ _ (by have := HQL.out; omega))) (fun _ => rfl)

set_option maxRecDepth 20000 in
set_option maxHeartbeats 3000000 in
theorem rtake_v1_1T (q : Nat) (l : List UInt8) (kind ver : Nat) (w : World) (h : IsQ w q (l, 0)) (hv : ver = 1 ∨ ver = 2) (hk : 1 ≤ kind ∧ kind ≤ 6) (h1 : ver = 1) (he : (byteR (l, 0)).2.2 = 0) (hb : (byteR (l, 0)).1 = 1) (ht : texty kind = true) :
    Calls Try.prog 61 #[QPtr q, .int .u8 (kind : Nat), .int .u8 (ver : Nat)] w (CqPost q (cRaw ver kind (tPre ver kind (l, 0))).1 (cRaw ver kind (tPre ver kind (l, 0))).2 w) := by
  have hp : tPre ver kind (l, 0) = (l, 0) := tPre_ok (l, 0) hv hk.1 hk.2
  have HV : Hid (cRaw ver kind (tPre ver kind (l, 0)) = (((hereR kind (uintR 64 ((byteR (l, 0)).2)).1 (uintR 64 ((byteR (l, 0)).2)).2).1, 0), (hereR kind (uintR 64 ((byteR (l, 0)).2)).1 (uintR 64 ((byteR (l, 0)).2)).2).2)) := Lib.hid (by rw [hp, h1, cRaw_1]; have hh : headR kind (l, 0) = (byteR (l, 0)).2 := (by unfold headR; rw [if_neg (by rintro (h | h) <;> omega)]); unfold partedR; rw [hh]; rw [if_neg (by omega), if_neg (by omega), if_pos ht])
  have HP : Hid (∀ (c : Cel) (n : Nat) w', Only q w w' → IsWQ w' q ((((hereR kind (uintR 64 ((byteR (l, 0)).2)).1 (uintR 64 ((byteR (l, 0)).2)).2).1, 0), (hereR kind (uintR 64 ((byteR (l, 0)).2)).1 (uintR 64 ((byteR (l, 0)).2)).2).2)).2 → (((((hereR kind (uintR 64 ((byteR (l, 0)).2)).1 (uintR 64 ((byteR (l, 0)).2)).2).1, 0), (hereR kind (uintR 64 ((byteR (l, 0)).2)).1 (uintR 64 ((byteR (l, 0)).2)).2).2)).2.2 = 0 → (c, n) = ((((hereR kind (uintR 64 ((byteR (l, 0)).2)).1 (uintR 64 ((byteR (l, 0)).2)).2).1, 0), (hereR kind (uintR 64 ((byteR (l, 0)).2)).1 (uintR 64 ((byteR (l, 0)).2)).2).2)).1) → CqPost q (cRaw ver kind (tPre ver kind (l, 0))).1 (cRaw ver kind (tPre ver kind (l, 0))).2 w (.returned (.tuple #[rc c, .int .i64 (n : Nat)])) w') := Lib.hid fun c n w' h1 h2 h3 => by rw [HV.out]; exact ⟨c, n, rfl, h1, h2, h3⟩
  have hql := h.lt
  have HQL := Lib.hid hql
  have hg6 : ((w.alloc (.cells #[.int .u8 0, .int .u8 0, .int .i64 0, .int .u64 0, .int .u64 0, .string ⟨#[]⟩] 26)).alloc (.cells #[.int .u8 0, .int .u8 0, .int .i64 0, .int .u64 0, .int .u64 0, .string ⟨#[]⟩] 26)).heap[w.heap.size]? = _ := heap_alloc2_old w _ _
  have hq : ((w.alloc (.cells #[.int .u8 0, .int .u8 0, .int .i64 0, .int .u64 0, .int .u64 0, .string ⟨#[]⟩] 26)).alloc (.cells #[.int .u8 0, .int .u8 0, .int .i64 0, .int .u64 0, .int .u64 0, .string ⟨#[]⟩] 26)).heap[(w.heap.size + 1)]? = _ := heap_alloc2_new w _ _
  have HQ := Lib.hid hq
  obtain ⟨W3, hW3⟩ : ∃ W3, W3 = ((w.alloc (.cells #[.int .u8 0, .int .u8 0, .int .i64 0, .int .u64 0, .int .u64 0, .string ⟨#[]⟩] 26)).alloc (.cells #[.int .u8 0, .int .u8 0, .int .i64 0, .int .u64 0, .int .u64 0, .string ⟨#[]⟩] 26)).setRow (w.heap.size + 1) #[.int .u8 2, .int .u8 (kind : Nat), .int .i64 0, .int .u64 0, .int .u64 0, .string ⟨#[]⟩] := ⟨_, rfl⟩
  have hx3 : Ext w W3 := by rw [hW3]; exact (((Ch.refl _ _).alloc _).alloc _).setRow (.inr (by omega)) _
  have HZ3 : Hid (W3.heap[w.heap.size]? = some (.cells #[.int .u8 0, .int .u8 0, .int .i64 0, .int .u64 0, .int .u64 0, .string ⟨#[]⟩] 26 (0, 0))) := Lib.hid (by rw [hW3, setRow_other _ _ _ _ (by omega)]; exact hg6)
  have HR3 : Hid (W3.heap[(w.heap.size + 1)]? = some (.cells #[.int .u8 2, .int .u8 (kind : Nat), .int .i64 0, .int .u64 0, .int .u64 0, .string ⟨#[]⟩] 26 (0, 0))) := Lib.hid (by rw [hW3]; exact setRow_heap _ _ _ _ _ _ hq)
  have HX3 : Hid (Only q w W3) := Lib.hid hx3.ch
  have HI3 := Lib.hid (h.ext hx3)
  have HW3 := Lib.hid hW3
  have hb1 := fun w => build54_1 w kind
  have hb2 := fun w => buildRC_2 w kind
  clear hq hx3 hg6 hW3
  have HU := Lib.hid (qbyte_any q (l, 0) W3 HI3.out)
  generalize (byteR (l, 0)).1 = b at *
  generalize (byteR (l, 0)).2 = s1 at *
  have HERR := Lib.hid he
  have HTX := Lib.hid (fun w => rTexty_any kind w)
  rw [ht] at HTX
  subst hb
  have HTT := Lib.hid (fun w h => qtext_any q s1 64 w h (by decide))
  unfold hereR at HP
  simp only at HP
  rw [show takeR (uintR 64 s1).1 (uintR 64 s1).2 = textR 64 s1 from rfl] at HP
  have h64 : ((64 : Int)).toNat = 64 := rfl
  rw [h64] at HTT
  unfold strV at HTT
  generalize (textR 64 s1).1 = t at *
  generalize (textR 64 s1).2 = s5 at *
  have HRI := Lib.hid (fun w => rright_any ⟨kind, 0, 0, 0, t⟩ w)
  generalize vErr ⟨kind, 0, 0, 0, t⟩ = er at *
  subst h1
  have hk1 := hk.1
  have hk6 := hk.2
  clear hk
  clear h hql hp he hv ht HV h64
  unfold QPtr at *
  go_enter Try.func61, Try.ntmps61
  go_wp2_with (first
    | (refine wpList_store_rowTo rfl _ _ _ rfl rfl (w.heap.size + 1) #[.int .u8 2, .int .u8 (kind : Nat), .int .i64 0, .int .u64 0, .int .u64 0, .string ⟨#[]⟩] rfl rfl _ _ HQ.out infoRC rfl (by simp [Value.oneCell']) ?_; rw [← HW3.out])
    | (go_at_call 78; refine HU.out.mono ?_))
  rintro e w1 ⟨rfl, k1, k2⟩
  have HX1 := Lib.hid (HX3.out.trans k1); have HI1 := Lib.hid k2
  have HZ1 := Lib.hid (heap_of_only k1 (by have := HQL.out; omega) HZ3.out); have HR1 := Lib.hid (heap_of_only k1 (by have := HQL.out; omega) HR3.out)
  clear k1 k2
  obtain ⟨_, _, _, _, _, _, ce, _⟩ := HI1.out.cells
  have eb : (s1.2 != 0) = false := by simpa using HERR.out
  go_wp2_with (first
    | (go_at_call 49; refine (HTX.out _).mono ?_; rintro e w' ⟨rfl, rfl⟩)
    | (go_at_call 77; refine (HTT.out _ HI1.out).mono ?_))
  rintro e w4 ⟨rfl, k1, k2⟩
  have HX4 := Lib.hid (HX1.out.trans k1); have HI4 := Lib.hid k2
  have HZ4 := Lib.hid (heap_of_only k1 (by have := HQL.out; omega) HZ1.out); have HR4 := Lib.hid (heap_of_only k1 (by have := HQL.out; omega) HR1.out)
  clear k1 k2
  have d5 : w4.cell? ⟨w.heap.size + 1, 5, none⟩ = some (.string ⟨#[]⟩) := by rw [cell_of_row _ _ _ _ _ _ HR4.out]; rfl
  have f5 := frozen_of_row w4 (w.heap.size + 1) 5 _ _ HR4.out
  obtain ⟨W5, hW5⟩ : ∃ W5, W5 = w4.setCell ⟨w.heap.size + 1, 5, none⟩ (strV t) := ⟨_, rfl⟩
  have HR5 : Hid (RRow W5 (w.heap.size + 1) ⟨2, ⟨kind, 0, 0, 0, t⟩⟩) := Lib.hid (by unfold RRow; rw [hW5]; exact heap_setCell_same w4 (w.heap.size + 1) 5 _ _ _ HR4.out)
  have HZ5 : Hid (W5.heap[w.heap.size]? = some (.cells #[.int .u8 0, .int .u8 0, .int .i64 0, .int .u64 0, .int .u64 0, .string ⟨#[]⟩] 26 (0, 0))) := Lib.hid (by rw [hW5, heap_setCell_other w4 ⟨w.heap.size + 1, 5, none⟩ w.heap.size _ (by simp)]; exact HZ4.out)
  have HI5 : Hid (IsQ W5 q s5) := Lib.hid (by rw [hW5]; exact HI4.out.setElse d5 (noByte_string _) (by have := HQL.out; show q ≠ w.heap.size + 1; omega) _)
  have HX5 : Hid (Only q w W5) := Lib.hid (by rw [hW5]; exact HX4.out.setCell (.inr (by show w.heap.size ≤ w.heap.size + 1; omega)) _)
  unfold strV at hW5
  have HW5 := Lib.hid hW5
  clear hW5
  go_wp2_with (first
    | ((try rw [← HW5.out]); refine wpList_load_run rfl _ _ rfl rfl HR5.out.value ?_)
    | (go_at_call 50; refine (HRI.out _).mono ?_))
  intro e w6 hm
  obtain ⟨rfl, k1⟩ := hm
  have HX6 := Lib.hid (HX5.out.trans k1.ch); have HI6 := Lib.hid (HI5.out.ext k1); have HZ6 := Lib.hid (heap_of_ext k1 HZ5.out); have HR6 := Lib.hid (HR5.out.ext k1)
  clear k1 d5 f5
  by_cases hev : er = 0
  · have e9 : (((er : Nat) : Int) != 0) = false := by rw [hev]; rfl
    have HEV := Lib.hid hev
    clear hev
    go_wp2_with (first
      | (refine wpList_load_row rfl _ _ rfl (w.heap.size + 1) rfl _ _ _ _ HR6.out Try.underlying26 rfl infoRC ?_)
      | (refine wpList_store_rowTo rfl _ _ _ rfl rfl w.heap.size (rcv ⟨2, ⟨kind, 0, 0, 0, t⟩⟩) rfl rfl _ _ HZ6.out infoRC rfl (by simp [Value.oneCell', rcv, strV]) ?_))
    refine bodyPost_ret (results_cell2 rfl _ _ w.heap.size _ (rcv ⟨2, ⟨kind, 0, 0, 0, t⟩⟩) _ _ rfl (setRow_heap _ _ _ _ _ _ HZ6.out) Try.underlying26 rfl infoRC) rfl ?_
    exact HP.out ⟨2, ⟨kind, 0, 0, 0, t⟩⟩ 0 _ (HX6.out.setRow (.inr (Nat.le_refl _)) _) (((show IsWQ w6 q (failR s5 (er : Nat)) from by rw [HEV.out, show failR s5 ((0 : Nat) : Int) = s5 from failR_zero s5]; exact HI6.out.weak)).same (setRow_other _ _ _ _ (by have := HQL.out; omega))) (fun _ => rfl)
  · have e9 : (((er : Nat) : Int) != 0) = true := by simp; omega
    clear hev
    have HF9 := Lib.hid (giveUp_any q s5 (er : Nat) _ HI6.out)
    unfold QPtr at HF9
    go_wp2_with (go_at_call 98; refine HF9.out.mono ?_)
    rintro e w7 ⟨rfl, k1, k2⟩
    have HX7 := Lib.hid (HX6.out.trans k1); have HI7 := Lib.hid k2
    have HZ7 := Lib.hid (heap_of_only k1 (by have := HQL.out; omega) HZ6.out); have HR7 := Lib.hid (heap_of_only k1 (by have := HQL.out; omega) HR6.out)
    clear k1 k2
    go_wp2_with (first
      | (refine wpList_load_row rfl _ _ rfl (w.heap.size + 1) rfl _ _ _ _ HR7.out Try.underlying26 rfl infoRC ?_)
      | (refine wpList_store_rowTo rfl _ _ _ rfl rfl w.heap.size (rcv ⟨2, ⟨kind, 0, 0, 0, t⟩⟩) rfl rfl _ _ HZ7.out infoRC rfl (by simp [Value.oneCell', rcv, strV]) ?_))
    refine bodyPost_ret (results_cell2 rfl _ _ w.heap.size _ (rcv ⟨2, ⟨kind, 0, 0, 0, t⟩⟩) _ _ rfl (setRow_heap _ _ _ _ _ _ HZ7.out) Try.underlying26 rfl infoRC) rfl ?_
    exact HP.out ⟨2, ⟨kind, 0, 0, 0, t⟩⟩ 0 _ (HX7.out.setRow (.inr (Nat.le_refl _)) _) ((HI7.out.weak).same (setRow_other _ _ _ _ (by have := HQL.out; omega))) (fun _ => rfl)

set_option maxRecDepth 20000 in
set_option maxHeartbeats 3000000 in
theorem rtake_v1_1F (q : Nat) (l : List UInt8) (kind ver : Nat) (w : World) (h : IsQ w q (l, 0)) (hv : ver = 1 ∨ ver = 2) (hk : 1 ≤ kind ∧ kind ≤ 6) (h1 : ver = 1) (he : (byteR (l, 0)).2.2 = 0) (hb : (byteR (l, 0)).1 = 1) (ht : texty kind = false) :
    Calls Try.prog 61 #[QPtr q, .int .u8 (kind : Nat), .int .u8 (ver : Nat)] w (CqPost q (cRaw ver kind (tPre ver kind (l, 0))).1 (cRaw ver kind (tPre ver kind (l, 0))).2 w) := by
  have hp : tPre ver kind (l, 0) = (l, 0) := tPre_ok (l, 0) hv hk.1 hk.2
  have HV : Hid (cRaw ver kind (tPre ver kind (l, 0)) = ((Cel.mk 2 (vTake 1 kind ((byteR (l, 0)).2)).1, 0), (vTake 1 kind ((byteR (l, 0)).2)).2)) := Lib.hid (by rw [hp, h1, cRaw_1]; have hh : headR kind (l, 0) = (byteR (l, 0)).2 := (by unfold headR; rw [if_neg (by rintro (h | h) <;> omega)]); unfold partedR; rw [hh]; rw [if_neg (by omega), if_neg (by omega), if_neg (by rw [ht]; simp)])
  have HP : Hid (∀ (c : Cel) (n : Nat) w', Only q w w' → IsWQ w' q (((Cel.mk 2 (vTake 1 kind ((byteR (l, 0)).2)).1, 0), (vTake 1 kind ((byteR (l, 0)).2)).2)).2 → ((((Cel.mk 2 (vTake 1 kind ((byteR (l, 0)).2)).1, 0), (vTake 1 kind ((byteR (l, 0)).2)).2)).2.2 = 0 → (c, n) = (((Cel.mk 2 (vTake 1 kind ((byteR (l, 0)).2)).1, 0), (vTake 1 kind ((byteR (l, 0)).2)).2)).1) → CqPost q (cRaw ver kind (tPre ver kind (l, 0))).1 (cRaw ver kind (tPre ver kind (l, 0))).2 w (.returned (.tuple #[rc c, .int .i64 (n : Nat)])) w') := Lib.hid fun c n w' h1 h2 h3 => by rw [HV.out]; exact ⟨c, n, rfl, h1, h2, h3⟩
  have hql := h.lt
  have HQL := Lib.hid hql
  have hg6 : ((w.alloc (.cells #[.int .u8 0, .int .u8 0, .int .i64 0, .int .u64 0, .int .u64 0, .string ⟨#[]⟩] 26)).alloc (.cells #[.int .u8 0, .int .u8 0, .int .i64 0, .int .u64 0, .int .u64 0, .string ⟨#[]⟩] 26)).heap[w.heap.size]? = _ := heap_alloc2_old w _ _
  have hq : ((w.alloc (.cells #[.int .u8 0, .int .u8 0, .int .i64 0, .int .u64 0, .int .u64 0, .string ⟨#[]⟩] 26)).alloc (.cells #[.int .u8 0, .int .u8 0, .int .i64 0, .int .u64 0, .int .u64 0, .string ⟨#[]⟩] 26)).heap[(w.heap.size + 1)]? = _ := heap_alloc2_new w _ _
  have HQ := Lib.hid hq
  obtain ⟨W3, hW3⟩ : ∃ W3, W3 = ((w.alloc (.cells #[.int .u8 0, .int .u8 0, .int .i64 0, .int .u64 0, .int .u64 0, .string ⟨#[]⟩] 26)).alloc (.cells #[.int .u8 0, .int .u8 0, .int .i64 0, .int .u64 0, .int .u64 0, .string ⟨#[]⟩] 26)).setRow (w.heap.size + 1) #[.int .u8 2, .int .u8 (kind : Nat), .int .i64 0, .int .u64 0, .int .u64 0, .string ⟨#[]⟩] := ⟨_, rfl⟩
  have hx3 : Ext w W3 := by rw [hW3]; exact (((Ch.refl _ _).alloc _).alloc _).setRow (.inr (by omega)) _
  have HZ3 : Hid (W3.heap[w.heap.size]? = some (.cells #[.int .u8 0, .int .u8 0, .int .i64 0, .int .u64 0, .int .u64 0, .string ⟨#[]⟩] 26 (0, 0))) := Lib.hid (by rw [hW3, setRow_other _ _ _ _ (by omega)]; exact hg6)
  have HR3 : Hid (W3.heap[(w.heap.size + 1)]? = some (.cells #[.int .u8 2, .int .u8 (kind : Nat), .int .i64 0, .int .u64 0, .int .u64 0, .string ⟨#[]⟩] 26 (0, 0))) := Lib.hid (by rw [hW3]; exact setRow_heap _ _ _ _ _ _ hq)
  have HX3 : Hid (Only q w W3) := Lib.hid hx3.ch
  have HI3 := Lib.hid (h.ext hx3)
  have HW3 := Lib.hid hW3
  have hb1 := fun w => build54_1 w kind
  have hb2 := fun w => buildRC_2 w kind
  clear hq hx3 hg6 hW3
  have HU := Lib.hid (qbyte_any q (l, 0) W3 HI3.out)
  generalize (byteR (l, 0)).1 = b at *
  generalize (byteR (l, 0)).2 = s1 at *
  have HERR := Lib.hid he
  have HTX := Lib.hid (fun w => rTexty_any kind w)
  rw [ht] at HTX
  subst hb
  have HTK := Lib.hid (fun w h => qtake_val q s1 1 kind w h)
  generalize (vTake 1 kind s1).1 = tv at *
  generalize (vTake 1 kind s1).2 = s5 at *
  subst h1
  have hk1 := hk.1
  have hk6 := hk.2
  clear hk
  clear h hql hp he hv ht HV
  unfold QPtr at *
  go_enter Try.func61, Try.ntmps61
  go_wp2_with (first
    | (refine wpList_store_rowTo rfl _ _ _ rfl rfl (w.heap.size + 1) #[.int .u8 2, .int .u8 (kind : Nat), .int .i64 0, .int .u64 0, .int .u64 0, .string ⟨#[]⟩] rfl rfl _ _ HQ.out infoRC rfl (by simp [Value.oneCell']) ?_; rw [← HW3.out])
    | (go_at_call 78; refine HU.out.mono ?_))
  rintro e w1 ⟨rfl, k1, k2⟩
  have HX1 := Lib.hid (HX3.out.trans k1); have HI1 := Lib.hid k2
  have HZ1 := Lib.hid (heap_of_only k1 (by have := HQL.out; omega) HZ3.out); have HR1 := Lib.hid (heap_of_only k1 (by have := HQL.out; omega) HR3.out)
  clear k1 k2
  obtain ⟨_, _, _, _, _, _, ce, _⟩ := HI1.out.cells
  have eb : (s1.2 != 0) = false := by simpa using HERR.out
  go_wp2_with (first
    | (go_at_call 49; refine (HTX.out _).mono ?_; rintro e w' ⟨rfl, rfl⟩)
    | (go_at_call 100; refine (HTK.out _ HI1.out).mono ?_))
  rintro e w4 ⟨rfl, k1, k2⟩
  have HX4 := Lib.hid (HX1.out.trans k1); have HI4 := Lib.hid k2
  have HZ4 := Lib.hid (heap_of_only k1 (by have := HQL.out; omega) HZ1.out); have HR4 := Lib.hid (heap_of_only k1 (by have := HQL.out; omega) HR1.out)
  clear k1 k2
  obtain ⟨W5, hW5⟩ : ∃ W5, W5 = w4.setCells (w.heap.size + 1) 1 (rvals tv).toList := ⟨_, rfl⟩
  have HR5 : Hid (W5.heap[w.heap.size + 1]? = some (.cells (rcv ⟨2, tv⟩) 26 (0, 0))) := Lib.hid (by rw [hW5]; exact setCells5 HR4.out)
  have hk5 : Ch (fun i => i = w.heap.size + 1) w4 W5 := by rw [hW5]; exact ch_setCells5 (M := fun i => i = w.heap.size + 1) w4 (w.heap.size + 1) rfl _ _ _ _ _
  have HZ5 := Lib.hid (heap_of_only hk5 (by omega) HZ4.out)
  have HI5 : Hid (IsWQ W5 q s5) := Lib.hid (HI4.out.same (hk5.block q HI4.out.lt (by have := HQL.out; omega)))
  have HX5 : Hid (Only q w W5) := Lib.hid (by
    rw [hW5]
    exact (((((HX4.out.setCell (p := ⟨w.heap.size + 1, 1, none⟩) (.inr (Nat.le_succ _)) _).setCell (p := ⟨w.heap.size + 1, 2, none⟩) (.inr (Nat.le_succ _)) _).setCell (p := ⟨w.heap.size + 1, 3, none⟩) (.inr (Nat.le_succ _)) _).setCell (p := ⟨w.heap.size + 1, 4, none⟩) (.inr (Nat.le_succ _)) _).setCell (p := ⟨w.heap.size + 1, 5, none⟩) (.inr (Nat.le_succ _)) _))
  have HTH : Hid (w4.there (w.heap.size + 1) 1 (rvals tv).size) := Lib.hid fun j hj => by
    have hj5 : j < 5 := hj
    have hjc : 1 + j < 6 := by omega
    refine ⟨?_, frozen_of_row w4 (w.heap.size + 1) (1 + j) _ _ HR4.out⟩
    rw [cell_of_row _ _ _ _ _ _ HR4.out]
    match j, hj5 with
    | 0, _ => rfl
    | 1, _ => rfl
    | 2, _ => rfl
    | 3, _ => rfl
    | 4, _ => rfl
  have HW5 := Lib.hid hW5
  clear hW5 hk5
  go_wp2_with (first
    | (refine wpList_store_mid rfl _ _ _ rfl (w.heap.size + 1) 1 (rvals tv) rfl rfl HTH.out infoRV (by simp [rvals, strV, Value.oneCell']) ?_; rw [← HW5.out])
    | (refine wpList_load_row rfl _ _ rfl (w.heap.size + 1) rfl _ _ _ _ HR5.out Try.underlying26 rfl infoRC ?_)
    | (refine wpList_store_rowTo rfl _ _ _ rfl rfl w.heap.size (rcv ⟨2, tv⟩) rfl rfl _ _ HZ5.out infoRC rfl (by simp [Value.oneCell', rcv, strV]) ?_))
  refine bodyPost_ret (results_cell2 rfl _ _ w.heap.size _ (rcv ⟨2, tv⟩) _ _ rfl (setRow_heap _ _ _ _ _ _ HZ5.out) Try.underlying26 rfl infoRC) rfl ?_
  exact HP.out ⟨2, tv⟩ 0 _ (HX5.out.setRow (.inr (Nat.le_refl _)) _) ((HI5.out).same (setRow_other _ _ _ _ (by have := HQL.out; omega))) (fun _ => rfl)

set_option maxRecDepth 20000 in
set_option maxHeartbeats 3000000 in
theorem rtake_v1_2T (q : Nat) (l : List UInt8) (kind ver : Nat) (w : World) (h : IsQ w q (l, 0)) (hv : ver = 1 ∨ ver = 2) (hk : 1 ≤ kind ∧ kind ≤ 6) (h1 : ver = 1) (he : (byteR (l, 0)).2.2 = 0) (hb : (byteR (l, 0)).1 = 2) (ht : texty kind = true) :
    Calls Try.prog 61 #[QPtr q, .int .u8 (kind : Nat), .int .u8 (ver : Nat)] w (CqPost q (cRaw ver kind (tPre ver kind (l, 0))).1 (cRaw ver kind (tPre ver kind (l, 0))).2 w) := by
  have hp : tPre ver kind (l, 0) = (l, 0) := tPre_ok (l, 0) hv hk.1 hk.2
  have HV : Hid (cRaw ver kind (tPre ver kind (l, 0)) = ((bigC kind, (awayR ((byteR (l, 0)).2)).1), (awayR ((byteR (l, 0)).2)).2)) := Lib.hid (by rw [hp, h1, cRaw_1]; have hh : headR kind (l, 0) = (byteR (l, 0)).2 := (by unfold headR; rw [if_neg (by rintro (h | h) <;> first | omega | (rw [ht] at h; simp at h))]); unfold partedR; rw [hh]; rw [if_neg (by omega), if_pos hb])
  have HP : Hid (∀ (c : Cel) (n : Nat) w', Only q w w' → IsWQ w' q (((bigC kind, (awayR ((byteR (l, 0)).2)).1), (awayR ((byteR (l, 0)).2)).2)).2 → ((((bigC kind, (awayR ((byteR (l, 0)).2)).1), (awayR ((byteR (l, 0)).2)).2)).2.2 = 0 → (c, n) = (((bigC kind, (awayR ((byteR (l, 0)).2)).1), (awayR ((byteR (l, 0)).2)).2)).1) → CqPost q (cRaw ver kind (tPre ver kind (l, 0))).1 (cRaw ver kind (tPre ver kind (l, 0))).2 w (.returned (.tuple #[rc c, .int .i64 (n : Nat)])) w') := Lib.hid fun c n w' h1 h2 h3 => by rw [HV.out]; exact ⟨c, n, rfl, h1, h2, h3⟩
  have hql := h.lt
  have HQL := Lib.hid hql
  have hg6 : ((w.alloc (.cells #[.int .u8 0, .int .u8 0, .int .i64 0, .int .u64 0, .int .u64 0, .string ⟨#[]⟩] 26)).alloc (.cells #[.int .u8 0, .int .u8 0, .int .i64 0, .int .u64 0, .int .u64 0, .string ⟨#[]⟩] 26)).heap[w.heap.size]? = _ := heap_alloc2_old w _ _
  have hq : ((w.alloc (.cells #[.int .u8 0, .int .u8 0, .int .i64 0, .int .u64 0, .int .u64 0, .string ⟨#[]⟩] 26)).alloc (.cells #[.int .u8 0, .int .u8 0, .int .i64 0, .int .u64 0, .int .u64 0, .string ⟨#[]⟩] 26)).heap[(w.heap.size + 1)]? = _ := heap_alloc2_new w _ _
  have HQ := Lib.hid hq
  obtain ⟨W3, hW3⟩ : ∃ W3, W3 = ((w.alloc (.cells #[.int .u8 0, .int .u8 0, .int .i64 0, .int .u64 0, .int .u64 0, .string ⟨#[]⟩] 26)).alloc (.cells #[.int .u8 0, .int .u8 0, .int .i64 0, .int .u64 0, .int .u64 0, .string ⟨#[]⟩] 26)).setRow (w.heap.size + 1) #[.int .u8 2, .int .u8 (kind : Nat), .int .i64 0, .int .u64 0, .int .u64 0, .string ⟨#[]⟩] := ⟨_, rfl⟩
  have hx3 : Ext w W3 := by rw [hW3]; exact (((Ch.refl _ _).alloc _).alloc _).setRow (.inr (by omega)) _
  have HZ3 : Hid (W3.heap[w.heap.size]? = some (.cells #[.int .u8 0, .int .u8 0, .int .i64 0, .int .u64 0, .int .u64 0, .string ⟨#[]⟩] 26 (0, 0))) := Lib.hid (by rw [hW3, setRow_other _ _ _ _ (by omega)]; exact hg6)
  have HR3 : Hid (W3.heap[(w.heap.size + 1)]? = some (.cells #[.int .u8 2, .int .u8 (kind : Nat), .int .i64 0, .int .u64 0, .int .u64 0, .string ⟨#[]⟩] 26 (0, 0))) := Lib.hid (by rw [hW3]; exact setRow_heap _ _ _ _ _ _ hq)
  have HX3 : Hid (Only q w W3) := Lib.hid hx3.ch
  have HI3 := Lib.hid (h.ext hx3)
  have HW3 := Lib.hid hW3
  have hb1 := fun w => build54_1 w kind
  have hb2 := fun w => buildRC_2 w kind
  clear hq hx3 hg6 hW3
  have HU := Lib.hid (qbyte_any q (l, 0) W3 HI3.out)
  generalize (byteR (l, 0)).1 = b at *
  generalize (byteR (l, 0)).2 = s1 at *
  have HERR := Lib.hid he
  have HTX := Lib.hid (fun w => rTexty_any kind w)
  rw [ht] at HTX
  subst hb
  have HLA := Lib.hid (fun w h => qlarge_any q s1 w h)
  generalize (awayR s1).1 = n at *
  generalize (awayR s1).2 = s9 at *
  subst h1
  have hk1 := hk.1
  have hk6 := hk.2
  clear hk
  clear h hql hp he hv ht HV
  unfold QPtr at *
  go_enter Try.func61, Try.ntmps61
  go_wp2_with (first
    | (refine wpList_store_rowTo rfl _ _ _ rfl rfl (w.heap.size + 1) #[.int .u8 2, .int .u8 (kind : Nat), .int .i64 0, .int .u64 0, .int .u64 0, .string ⟨#[]⟩] rfl rfl _ _ HQ.out infoRC rfl (by simp [Value.oneCell']) ?_; rw [← HW3.out])
    | (go_at_call 78; refine HU.out.mono ?_))
  rintro e w1 ⟨rfl, k1, k2⟩
  have HX1 := Lib.hid (HX3.out.trans k1); have HI1 := Lib.hid k2
  have HZ1 := Lib.hid (heap_of_only k1 (by have := HQL.out; omega) HZ3.out); have HR1 := Lib.hid (heap_of_only k1 (by have := HQL.out; omega) HR3.out)
  clear k1 k2
  obtain ⟨_, _, _, _, _, _, ce, _⟩ := HI1.out.cells
  have eb : (s1.2 != 0) = false := by simpa using HERR.out
  go_wp2_with (first
    | (go_at_call 49; refine (HTX.out _).mono ?_; rintro e w' ⟨rfl, rfl⟩))
  refine wp_region_act (larT q n kind) (larS q w.heap.size (w.heap.size + 1) kind s1 s9 w1) mixedV (by rfl) (by rfl) (larS.start HR1.out HI1.out HZ1.out) ?all ?fin
  case all =>
    refine ⟨?_, ?_, ?_, ?_, ?_, trivial⟩
    · intro x w' L hsz hS hi hd hf hval hcl
      refine ⟨fun _ => ?_, fun hn => by simp [wantedBy] at hn⟩
      have h8 : x.eval (.tmp 8) = .pointer (some ⟨w.heap.size + 1, 0, none⟩) := (hf 8).2 rfl rfl
      refine (Exec.kloadmid (T := fun _ => .is (rc (bigC kind))) (d := 62) rfl rfl h8 (RRow.whole (show RRow w' (w.heap.size + 1) (bigC kind) from hS.r8)) rfl).mono ?_
      rintro u w'' ⟨k1, hx⟩
      exact ⟨fun d hd => by cases hd; exact k1 62 rfl, fun j p d hj hL hd => hval j p hj hL d hd, hS.ext hx (by simp) (by simp)⟩
    · intro x w' L hsz hS hi hd hf hval hcl
      refine ⟨fun _ => ?_, fun hn => by simp [wantedBy] at hn⟩
      have h0 : x.eval (.tmp 0) = .pointer (some ⟨q, 0, none⟩) := (hf 0).2 rfl rfl
      refine (Exec.kmove (T := fun _ => .is (.pointer (some ⟨q, 0, none⟩))) (d := 63) rfl rfl h0).mono ?_
      rintro u w'' ⟨k1, hx⟩
      exact ⟨fun d hd => by cases hd; exact k1 63 rfl, fun j p d hj hL hd => hval j p hj hL d hd, hS.ext hx (by simp) (by simp)⟩
    · intro x w' L hsz hS hi hd hf hval hcl
      refine ⟨fun _ => ?_, fun hn => by simp [wantedBy] at hn⟩
      have h63 : x.eval (.tmp 63) = .pointer (some ⟨q, 0, none⟩) := (hf 63).1 rfl
      refine Exec.call #[QPtr q] (env_eval x) rfl (by simp [h63, QPtr]) Try.func99 (by rfl) rfl ?_
      refine Calls.mono (HLA.out w' (hS.bef hi)) ?_
      rintro e w'' ⟨rfl, k1, k2⟩
      exact ⟨_, rfl, fun d hd => by cases hd; exact rfl, fun j p d hj hL hd => hval j p hj hL d hd,
        ⟨hS.ch.trans (k1.mono fun _ _ h => .inl h), heap_of_only k1 (by have := HQL.out; omega) hS.r8, fun h => absurd h (by simp), fun _ => k2.weak, by simpa using heap_of_only k1 (by have := HQL.out; omega) hS.r6⟩⟩
    · intro x w' L hsz hS hi hd hf hval hcl
      refine ⟨fun _ => ?_, fun hn => by simp [wantedBy] at hn⟩
      have h6 : x.eval (.tmp 6) = .pointer (some ⟨w.heap.size, 0, none⟩) := (hf 6).2 rfl rfl
      have h62 : x.eval (.tmp 62) = rc (bigC kind) := (hf 62).1 rfl
      have d2 : L 2 = true := hd 2 (by decide)
      refine (Exec.kstorerow rfl h6 h62 hS.r6 infoRC (by split <;> rfl) (rcv_one _)).mono ?_
      rintro _ w'' rfl
      exact ⟨(fun d hd => by cases hd), fun j p d hj hL hd => hval j p hj hL d hd,
        ⟨hS.ch.setRow (.inl (.inr rfl)) _, by rw [setRow_other _ _ _ _ (by omega)]; exact hS.r8, fun h => absurd h (by simp [d2]), fun _ => (hS.aft d2).same (setRow_other _ _ _ _ (by have := HQL.out; omega)), by simpa using setRow_heap _ _ _ _ _ _ hS.r6⟩⟩
    · intro x w' L hsz hS hi hd hf hval hcl
      refine ⟨fun _ => ?_, fun hn => by simp [wantedBy] at hn⟩
      have h64 : x.eval (.tmp 64) = .int .i64 (n : Nat) := (hf 64).1 rfl
      refine (Exec.kassign (T := fun _ => .is (.int .i64 (n : Nat))) (d := 7) rfl rfl h64).mono ?_
      rintro u w'' ⟨k1, hx⟩
      exact ⟨fun d hd => by cases hd; exact k1 7 rfl, fun j p d hj hL hd => hval j p hj hL d hd, hS.ext hx (by simp) (by simp)⟩
  case fin =>
    intro ν w8 hV hS
    have h7 : ν 7 = .int .i64 (n : Nat) := hV _ (List.mem_of_getElem? (i := 4) rfl) 7 rfl
    simp only [Exit.then, ended, List.foldl_cons, List.foldl_nil, List.setIfInBounds_toArray, List.set_cons_succ, List.set_cons_zero, h7]
    have HS8 := Lib.hid hS
    have HX8 : Hid (Only q w w8) := Lib.hid (by
      exact Ch.transNew HX1.out (hS.ch.mono fun i _ h => h.elim .inl fun e => .inr (by omega)))
    clear hV hS h7
    go_wp2
    refine bodyPost_ret (results_cell2 rfl _ _ w.heap.size _ (rcv (bigC kind)) _ _ rfl (by simpa using HS8.out.r6) Try.underlying26 rfl infoRC) rfl ?_
    exact HP.out (bigC kind) n _ HX8.out (HS8.out.aft (by simp)) (fun _ => rfl)

set_option maxRecDepth 20000 in
set_option maxHeartbeats 3000000 in
theorem rtake_v1_2F (q : Nat) (l : List UInt8) (kind ver : Nat) (w : World) (h : IsQ w q (l, 0)) (hv : ver = 1 ∨ ver = 2) (hk : 1 ≤ kind ∧ kind ≤ 6) (h1 : ver = 1) (he : (byteR (l, 0)).2.2 = 0) (hb : (byteR (l, 0)).1 = 2) (ht : texty kind = false) :
    Calls Try.prog 61 #[QPtr q, .int .u8 (kind : Nat), .int .u8 (ver : Nat)] w (CqPost q (cRaw ver kind (tPre ver kind (l, 0))).1 (cRaw ver kind (tPre ver kind (l, 0))).2 w) := by
  have hp : tPre ver kind (l, 0) = (l, 0) := tPre_ok (l, 0) hv hk.1 hk.2
  have HV : Hid (cRaw ver kind (tPre ver kind (l, 0)) = ((bigC kind, (awayR (failR (byteR (l, 0)).2 7)).1), (awayR (failR (byteR (l, 0)).2 7)).2)) := Lib.hid (by rw [hp, h1, cRaw_1]; have hh : headR kind (l, 0) = failR (byteR (l, 0)).2 7 := (by unfold headR; rw [if_pos (by exact .inr ⟨by omega, ht⟩)]); unfold partedR; rw [hh]; rw [if_neg (by omega), if_pos hb])
  have HP : Hid (∀ (c : Cel) (n : Nat) w', Only q w w' → IsWQ w' q (((bigC kind, (awayR (failR (byteR (l, 0)).2 7)).1), (awayR (failR (byteR (l, 0)).2 7)).2)).2 → ((((bigC kind, (awayR (failR (byteR (l, 0)).2 7)).1), (awayR (failR (byteR (l, 0)).2 7)).2)).2.2 = 0 → (c, n) = (((bigC kind, (awayR (failR (byteR (l, 0)).2 7)).1), (awayR (failR (byteR (l, 0)).2 7)).2)).1) → CqPost q (cRaw ver kind (tPre ver kind (l, 0))).1 (cRaw ver kind (tPre ver kind (l, 0))).2 w (.returned (.tuple #[rc c, .int .i64 (n : Nat)])) w') := Lib.hid fun c n w' h1 h2 h3 => by rw [HV.out]; exact ⟨c, n, rfl, h1, h2, h3⟩
  have hql := h.lt
  have HQL := Lib.hid hql
  have hg6 : ((w.alloc (.cells #[.int .u8 0, .int .u8 0, .int .i64 0, .int .u64 0, .int .u64 0, .string ⟨#[]⟩] 26)).alloc (.cells #[.int .u8 0, .int .u8 0, .int .i64 0, .int .u64 0, .int .u64 0, .string ⟨#[]⟩] 26)).heap[w.heap.size]? = _ := heap_alloc2_old w _ _
  have hq : ((w.alloc (.cells #[.int .u8 0, .int .u8 0, .int .i64 0, .int .u64 0, .int .u64 0, .string ⟨#[]⟩] 26)).alloc (.cells #[.int .u8 0, .int .u8 0, .int .i64 0, .int .u64 0, .int .u64 0, .string ⟨#[]⟩] 26)).heap[(w.heap.size + 1)]? = _ := heap_alloc2_new w _ _
  have HQ := Lib.hid hq
  obtain ⟨W3, hW3⟩ : ∃ W3, W3 = ((w.alloc (.cells #[.int .u8 0, .int .u8 0, .int .i64 0, .int .u64 0, .int .u64 0, .string ⟨#[]⟩] 26)).alloc (.cells #[.int .u8 0, .int .u8 0, .int .i64 0, .int .u64 0, .int .u64 0, .string ⟨#[]⟩] 26)).setRow (w.heap.size + 1) #[.int .u8 2, .int .u8 (kind : Nat), .int .i64 0, .int .u64 0, .int .u64 0, .string ⟨#[]⟩] := ⟨_, rfl⟩
  have hx3 : Ext w W3 := by rw [hW3]; exact (((Ch.refl _ _).alloc _).alloc _).setRow (.inr (by omega)) _
  have HZ3 : Hid (W3.heap[w.heap.size]? = some (.cells #[.int .u8 0, .int .u8 0, .int .i64 0, .int .u64 0, .int .u64 0, .string ⟨#[]⟩] 26 (0, 0))) := Lib.hid (by rw [hW3, setRow_other _ _ _ _ (by omega)]; exact hg6)
  have HR3 : Hid (W3.heap[(w.heap.size + 1)]? = some (.cells #[.int .u8 2, .int .u8 (kind : Nat), .int .i64 0, .int .u64 0, .int .u64 0, .string ⟨#[]⟩] 26 (0, 0))) := Lib.hid (by rw [hW3]; exact setRow_heap _ _ _ _ _ _ hq)
  have HX3 : Hid (Only q w W3) := Lib.hid hx3.ch
  have HI3 := Lib.hid (h.ext hx3)
  have HW3 := Lib.hid hW3
  have hb1 := fun w => build54_1 w kind
  have hb2 := fun w => buildRC_2 w kind
  clear hq hx3 hg6 hW3
  have HU := Lib.hid (qbyte_any q (l, 0) W3 HI3.out)
  generalize (byteR (l, 0)).1 = b at *
  generalize (byteR (l, 0)).2 = s1 at *
  have HERR := Lib.hid he
  have HTX := Lib.hid (fun w => rTexty_any kind w)
  rw [ht] at HTX
  subst hb
  have HF := Lib.hid (fun w h => giveUp_any q s1 7 w h)
  generalize failR s1 7 = s2 at *
  have HLA := Lib.hid (fun w h => qlarge_any q s2 w h)
  generalize (awayR s2).1 = n at *
  generalize (awayR s2).2 = s9 at *
  subst h1
  have hk1 := hk.1
  have hk6 := hk.2
  clear hk
  clear h hql hp he hv ht HV
  unfold QPtr at *
  go_enter Try.func61, Try.ntmps61
  go_wp2_with (first
    | (refine wpList_store_rowTo rfl _ _ _ rfl rfl (w.heap.size + 1) #[.int .u8 2, .int .u8 (kind : Nat), .int .i64 0, .int .u64 0, .int .u64 0, .string ⟨#[]⟩] rfl rfl _ _ HQ.out infoRC rfl (by simp [Value.oneCell']) ?_; rw [← HW3.out])
    | (go_at_call 78; refine HU.out.mono ?_))
  rintro e w1 ⟨rfl, k1, k2⟩
  have HX1 := Lib.hid (HX3.out.trans k1); have HI1 := Lib.hid k2
  have HZ1 := Lib.hid (heap_of_only k1 (by have := HQL.out; omega) HZ3.out); have HR1 := Lib.hid (heap_of_only k1 (by have := HQL.out; omega) HR3.out)
  clear k1 k2
  obtain ⟨_, _, _, _, _, _, ce, _⟩ := HI1.out.cells
  have eb : (s1.2 != 0) = false := by simpa using HERR.out
  go_wp2_with (first
    | (go_at_call 49; refine (HTX.out _).mono ?_; rintro e w' ⟨rfl, rfl⟩)
    | (go_at_call 98; refine (HF.out _ HI1.out).mono ?_))
  rintro e w2 ⟨rfl, k1, k2⟩
  have HX2 := Lib.hid (HX1.out.trans k1); have HI2 := Lib.hid k2
  have HZ2 := Lib.hid (heap_of_only k1 (by have := HQL.out; omega) HZ1.out); have HR2 := Lib.hid (heap_of_only k1 (by have := HQL.out; omega) HR1.out)
  clear k1 k2
  go_wp2_with (first
    | (go_at_call 49; refine (HTX.out _).mono ?_; rintro e w' ⟨rfl, rfl⟩))
  refine wp_region_act (larT q n kind) (larS q w.heap.size (w.heap.size + 1) kind s2 s9 w2) mixedV (by rfl) (by rfl) (larS.start HR2.out HI2.out HZ2.out) ?all ?fin
  case all =>
    refine ⟨?_, ?_, ?_, ?_, ?_, trivial⟩
    · intro x w' L hsz hS hi hd hf hval hcl
      refine ⟨fun _ => ?_, fun hn => by simp [wantedBy] at hn⟩
      have h8 : x.eval (.tmp 8) = .pointer (some ⟨w.heap.size + 1, 0, none⟩) := (hf 8).2 rfl rfl
      refine (Exec.kloadmid (T := fun _ => .is (rc (bigC kind))) (d := 62) rfl rfl h8 (RRow.whole (show RRow w' (w.heap.size + 1) (bigC kind) from hS.r8)) rfl).mono ?_
      rintro u w'' ⟨k1, hx⟩
      exact ⟨fun d hd => by cases hd; exact k1 62 rfl, fun j p d hj hL hd => hval j p hj hL d hd, hS.ext hx (by simp) (by simp)⟩
    · intro x w' L hsz hS hi hd hf hval hcl
      refine ⟨fun _ => ?_, fun hn => by simp [wantedBy] at hn⟩
      have h0 : x.eval (.tmp 0) = .pointer (some ⟨q, 0, none⟩) := (hf 0).2 rfl rfl
      refine (Exec.kmove (T := fun _ => .is (.pointer (some ⟨q, 0, none⟩))) (d := 63) rfl rfl h0).mono ?_
      rintro u w'' ⟨k1, hx⟩
      exact ⟨fun d hd => by cases hd; exact k1 63 rfl, fun j p d hj hL hd => hval j p hj hL d hd, hS.ext hx (by simp) (by simp)⟩
    · intro x w' L hsz hS hi hd hf hval hcl
      refine ⟨fun _ => ?_, fun hn => by simp [wantedBy] at hn⟩
      have h63 : x.eval (.tmp 63) = .pointer (some ⟨q, 0, none⟩) := (hf 63).1 rfl
      refine Exec.call #[QPtr q] (env_eval x) rfl (by simp [h63, QPtr]) Try.func99 (by rfl) rfl ?_
      refine Calls.mono (HLA.out w' (hS.bef hi)) ?_
      rintro e w'' ⟨rfl, k1, k2⟩
      exact ⟨_, rfl, fun d hd => by cases hd; exact rfl, fun j p d hj hL hd => hval j p hj hL d hd,
        ⟨hS.ch.trans (k1.mono fun _ _ h => .inl h), heap_of_only k1 (by have := HQL.out; omega) hS.r8, fun h => absurd h (by simp), fun _ => k2.weak, by simpa using heap_of_only k1 (by have := HQL.out; omega) hS.r6⟩⟩
    · intro x w' L hsz hS hi hd hf hval hcl
      refine ⟨fun _ => ?_, fun hn => by simp [wantedBy] at hn⟩
      have h6 : x.eval (.tmp 6) = .pointer (some ⟨w.heap.size, 0, none⟩) := (hf 6).2 rfl rfl
      have h62 : x.eval (.tmp 62) = rc (bigC kind) := (hf 62).1 rfl
      have d2 : L 2 = true := hd 2 (by decide)
      refine (Exec.kstorerow rfl h6 h62 hS.r6 infoRC (by split <;> rfl) (rcv_one _)).mono ?_
      rintro _ w'' rfl
      exact ⟨(fun d hd => by cases hd), fun j p d hj hL hd => hval j p hj hL d hd,
        ⟨hS.ch.setRow (.inl (.inr rfl)) _, by rw [setRow_other _ _ _ _ (by omega)]; exact hS.r8, fun h => absurd h (by simp [d2]), fun _ => (hS.aft d2).same (setRow_other _ _ _ _ (by have := HQL.out; omega)), by simpa using setRow_heap _ _ _ _ _ _ hS.r6⟩⟩
    · intro x w' L hsz hS hi hd hf hval hcl
      refine ⟨fun _ => ?_, fun hn => by simp [wantedBy] at hn⟩
      have h64 : x.eval (.tmp 64) = .int .i64 (n : Nat) := (hf 64).1 rfl
      refine (Exec.kassign (T := fun _ => .is (.int .i64 (n : Nat))) (d := 7) rfl rfl h64).mono ?_
      rintro u w'' ⟨k1, hx⟩
      exact ⟨fun d hd => by cases hd; exact k1 7 rfl, fun j p d hj hL hd => hval j p hj hL d hd, hS.ext hx (by simp) (by simp)⟩
  case fin =>
    intro ν w8 hV hS
    have h7 : ν 7 = .int .i64 (n : Nat) := hV _ (List.mem_of_getElem? (i := 4) rfl) 7 rfl
    simp only [Exit.then, ended, List.foldl_cons, List.foldl_nil, List.setIfInBounds_toArray, List.set_cons_succ, List.set_cons_zero, h7]
    have HS8 := Lib.hid hS
    have HX8 : Hid (Only q w w8) := Lib.hid (by
      exact Ch.transNew HX2.out (hS.ch.mono fun i _ h => h.elim .inl fun e => .inr (by omega)))
    clear hV hS h7
    go_wp2
    refine bodyPost_ret (results_cell2 rfl _ _ w.heap.size _ (rcv (bigC kind)) _ _ rfl (by simpa using HS8.out.r6) Try.underlying26 rfl infoRC) rfl ?_
    exact HP.out (bigC kind) n _ HX8.out (HS8.out.aft (by simp)) (fun _ => rfl)

set_option maxRecDepth 20000 in
set_option maxHeartbeats 3000000 in
theorem rtake_v1_xT (q : Nat) (l : List UInt8) (kind ver : Nat) (w : World) (h : IsQ w q (l, 0)) (hv : ver = 1 ∨ ver = 2) (hk : 1 ≤ kind ∧ kind ≤ 6) (h1 : ver = 1) (he : (byteR (l, 0)).2.2 = 0) (hb : 2 < (byteR (l, 0)).1) (ht : texty kind = true) :
    Calls Try.prog 61 #[QPtr q, .int .u8 (kind : Nat), .int .u8 (ver : Nat)] w (CqPost q (cRaw ver kind (tPre ver kind (l, 0))).1 (cRaw ver kind (tPre ver kind (l, 0))).2 w) := by
  have hp : tPre ver kind (l, 0) = (l, 0) := tPre_ok (l, 0) hv hk.1 hk.2
  have HV : Hid (cRaw ver kind (tPre ver kind (l, 0)) = (((hereR kind (uintR 64 (failR (byteR (l, 0)).2 7)).1 (uintR 64 (failR (byteR (l, 0)).2 7)).2).1, 0), (hereR kind (uintR 64 (failR (byteR (l, 0)).2 7)).1 (uintR 64 (failR (byteR (l, 0)).2 7)).2).2)) := Lib.hid (by rw [hp, h1, cRaw_1]; have hh : headR kind (l, 0) = failR (byteR (l, 0)).2 7 := (by unfold headR; rw [if_pos (by exact .inl hb)]); unfold partedR; rw [hh]; rw [if_neg (by omega), if_neg (by omega), if_pos ht])
  have HP : Hid (∀ (c : Cel) (n : Nat) w', Only q w w' → IsWQ w' q ((((hereR kind (uintR 64 (failR (byteR (l, 0)).2 7)).1 (uintR 64 (failR (byteR (l, 0)).2 7)).2).1, 0), (hereR kind (uintR 64 (failR (byteR (l, 0)).2 7)).1 (uintR 64 (failR (byteR (l, 0)).2 7)).2).2)).2 → (((((hereR kind (uintR 64 (failR (byteR (l, 0)).2 7)).1 (uintR 64 (failR (byteR (l, 0)).2 7)).2).1, 0), (hereR kind (uintR 64 (failR (byteR (l, 0)).2 7)).1 (uintR 64 (failR (byteR (l, 0)).2 7)).2).2)).2.2 = 0 → (c, n) = ((((hereR kind (uintR 64 (failR (byteR (l, 0)).2 7)).1 (uintR 64 (failR (byteR (l, 0)).2 7)).2).1, 0), (hereR kind (uintR 64 (failR (byteR (l, 0)).2 7)).1 (uintR 64 (failR (byteR (l, 0)).2 7)).2).2)).1) → CqPost q (cRaw ver kind (tPre ver kind (l, 0))).1 (cRaw ver kind (tPre ver kind (l, 0))).2 w (.returned (.tuple #[rc c, .int .i64 (n : Nat)])) w') := Lib.hid fun c n w' h1 h2 h3 => by rw [HV.out]; exact ⟨c, n, rfl, h1, h2, h3⟩
  have hql := h.lt
  have HQL := Lib.hid hql
  have hg6 : ((w.alloc (.cells #[.int .u8 0, .int .u8 0, .int .i64 0, .int .u64 0, .int .u64 0, .string ⟨#[]⟩] 26)).alloc (.cells #[.int .u8 0, .int .u8 0, .int .i64 0, .int .u64 0, .int .u64 0, .string ⟨#[]⟩] 26)).heap[w.heap.size]? = _ := heap_alloc2_old w _ _
  have hq : ((w.alloc (.cells #[.int .u8 0, .int .u8 0, .int .i64 0, .int .u64 0, .int .u64 0, .string ⟨#[]⟩] 26)).alloc (.cells #[.int .u8 0, .int .u8 0, .int .i64 0, .int .u64 0, .int .u64 0, .string ⟨#[]⟩] 26)).heap[(w.heap.size + 1)]? = _ := heap_alloc2_new w _ _
  have HQ := Lib.hid hq
  obtain ⟨W3, hW3⟩ : ∃ W3, W3 = ((w.alloc (.cells #[.int .u8 0, .int .u8 0, .int .i64 0, .int .u64 0, .int .u64 0, .string ⟨#[]⟩] 26)).alloc (.cells #[.int .u8 0, .int .u8 0, .int .i64 0, .int .u64 0, .int .u64 0, .string ⟨#[]⟩] 26)).setRow (w.heap.size + 1) #[.int .u8 2, .int .u8 (kind : Nat), .int .i64 0, .int .u64 0, .int .u64 0, .string ⟨#[]⟩] := ⟨_, rfl⟩
  have hx3 : Ext w W3 := by rw [hW3]; exact (((Ch.refl _ _).alloc _).alloc _).setRow (.inr (by omega)) _
  have HZ3 : Hid (W3.heap[w.heap.size]? = some (.cells #[.int .u8 0, .int .u8 0, .int .i64 0, .int .u64 0, .int .u64 0, .string ⟨#[]⟩] 26 (0, 0))) := Lib.hid (by rw [hW3, setRow_other _ _ _ _ (by omega)]; exact hg6)
  have HR3 : Hid (W3.heap[(w.heap.size + 1)]? = some (.cells #[.int .u8 2, .int .u8 (kind : Nat), .int .i64 0, .int .u64 0, .int .u64 0, .string ⟨#[]⟩] 26 (0, 0))) := Lib.hid (by rw [hW3]; exact setRow_heap _ _ _ _ _ _ hq)
  have HX3 : Hid (Only q w W3) := Lib.hid hx3.ch
  have HI3 := Lib.hid (h.ext hx3)
  have HW3 := Lib.hid hW3
  have hb1 := fun w => build54_1 w kind
  have hb2 := fun w => buildRC_2 w kind
  clear hq hx3 hg6 hW3
  have HU := Lib.hid (qbyte_any q (l, 0) W3 HI3.out)
  generalize (byteR (l, 0)).1 = b at *
  generalize (byteR (l, 0)).2 = s1 at *
  have HERR := Lib.hid he
  have HTX := Lib.hid (fun w => rTexty_any kind w)
  rw [ht] at HTX
  have e0 : (((b : Nat) : Int) == 0) = false := by simp; omega
  have e2 : (((b : Nat) : Int) == 2) = false := by simp; omega
  have HF := Lib.hid (fun w h => giveUp_any q s1 7 w h)
  generalize failR s1 7 = s2 at *
  have HTT := Lib.hid (fun w h => qtext_any q s2 64 w h (by decide))
  unfold hereR at HP
  simp only at HP
  rw [show takeR (uintR 64 s2).1 (uintR 64 s2).2 = textR 64 s2 from rfl] at HP
  have h64 : ((64 : Int)).toNat = 64 := rfl
  rw [h64] at HTT
  unfold strV at HTT
  generalize (textR 64 s2).1 = t at *
  generalize (textR 64 s2).2 = s5 at *
  have HRI := Lib.hid (fun w => rright_any ⟨kind, 0, 0, 0, t⟩ w)
  generalize vErr ⟨kind, 0, 0, 0, t⟩ = er at *
  subst h1
  have hk1 := hk.1
  have hk6 := hk.2
  clear hk
  clear h hql hp he hv ht HV h64
  unfold QPtr at *
  go_enter Try.func61, Try.ntmps61
  go_wp2_with (first
    | (refine wpList_store_rowTo rfl _ _ _ rfl rfl (w.heap.size + 1) #[.int .u8 2, .int .u8 (kind : Nat), .int .i64 0, .int .u64 0, .int .u64 0, .string ⟨#[]⟩] rfl rfl _ _ HQ.out infoRC rfl (by simp [Value.oneCell']) ?_; rw [← HW3.out])
    | (go_at_call 78; refine HU.out.mono ?_))
  rintro e w1 ⟨rfl, k1, k2⟩
  have HX1 := Lib.hid (HX3.out.trans k1); have HI1 := Lib.hid k2
  have HZ1 := Lib.hid (heap_of_only k1 (by have := HQL.out; omega) HZ3.out); have HR1 := Lib.hid (heap_of_only k1 (by have := HQL.out; omega) HR3.out)
  clear k1 k2
  obtain ⟨_, _, _, _, _, _, ce, _⟩ := HI1.out.cells
  have eb : (s1.2 != 0) = false := by simpa using HERR.out
  go_wp2_with (first
    | (go_at_call 49; refine (HTX.out _).mono ?_; rintro e w' ⟨rfl, rfl⟩)
    | (go_at_call 98; refine (HF.out _ HI1.out).mono ?_))
  rintro e w2 ⟨rfl, k1, k2⟩
  have HX2 := Lib.hid (HX1.out.trans k1); have HI2 := Lib.hid k2
  have HZ2 := Lib.hid (heap_of_only k1 (by have := HQL.out; omega) HZ1.out); have HR2 := Lib.hid (heap_of_only k1 (by have := HQL.out; omega) HR1.out)
  clear k1 k2
  go_wp2_with (first
    | (go_at_call 49; refine (HTX.out _).mono ?_; rintro e w' ⟨rfl, rfl⟩)
    | (go_at_call 77; refine (HTT.out _ HI2.out).mono ?_))
  rintro e w4 ⟨rfl, k1, k2⟩
  have HX4 := Lib.hid (HX2.out.trans k1); have HI4 := Lib.hid k2
  have HZ4 := Lib.hid (heap_of_only k1 (by have := HQL.out; omega) HZ2.out); have HR4 := Lib.hid (heap_of_only k1 (by have := HQL.out; omega) HR2.out)
  clear k1 k2
  have d5 : w4.cell? ⟨w.heap.size + 1, 5, none⟩ = some (.string ⟨#[]⟩) := by rw [cell_of_row _ _ _ _ _ _ HR4.out]; rfl
  have f5 := frozen_of_row w4 (w.heap.size + 1) 5 _ _ HR4.out
  obtain ⟨W5, hW5⟩ : ∃ W5, W5 = w4.setCell ⟨w.heap.size + 1, 5, none⟩ (strV t) := ⟨_, rfl⟩
  have HR5 : Hid (RRow W5 (w.heap.size + 1) ⟨2, ⟨kind, 0, 0, 0, t⟩⟩) := Lib.hid (by unfold RRow; rw [hW5]; exact heap_setCell_same w4 (w.heap.size + 1) 5 _ _ _ HR4.out)
  have HZ5 : Hid (W5.heap[w.heap.size]? = some (.cells #[.int .u8 0, .int .u8 0, .int .i64 0, .int .u64 0, .int .u64 0, .string ⟨#[]⟩] 26 (0, 0))) := Lib.hid (by rw [hW5, heap_setCell_other w4 ⟨w.heap.size + 1, 5, none⟩ w.heap.size _ (by simp)]; exact HZ4.out)
  have HI5 : Hid (IsQ W5 q s5) := Lib.hid (by rw [hW5]; exact HI4.out.setElse d5 (noByte_string _) (by have := HQL.out; show q ≠ w.heap.size + 1; omega) _)
  have HX5 : Hid (Only q w W5) := Lib.hid (by rw [hW5]; exact HX4.out.setCell (.inr (by show w.heap.size ≤ w.heap.size + 1; omega)) _)
  unfold strV at hW5
  have HW5 := Lib.hid hW5
  clear hW5
  go_wp2_with (first
    | ((try rw [← HW5.out]); refine wpList_load_run rfl _ _ rfl rfl HR5.out.value ?_)
    | (go_at_call 50; refine (HRI.out _).mono ?_))
  intro e w6 hm
  obtain ⟨rfl, k1⟩ := hm
  have HX6 := Lib.hid (HX5.out.trans k1.ch); have HI6 := Lib.hid (HI5.out.ext k1); have HZ6 := Lib.hid (heap_of_ext k1 HZ5.out); have HR6 := Lib.hid (HR5.out.ext k1)
  clear k1 d5 f5
  by_cases hev : er = 0
  · have e9 : (((er : Nat) : Int) != 0) = false := by rw [hev]; rfl
    have HEV := Lib.hid hev
    clear hev
    go_wp2_with (first
      | (refine wpList_load_row rfl _ _ rfl (w.heap.size + 1) rfl _ _ _ _ HR6.out Try.underlying26 rfl infoRC ?_)
      | (refine wpList_store_rowTo rfl _ _ _ rfl rfl w.heap.size (rcv ⟨2, ⟨kind, 0, 0, 0, t⟩⟩) rfl rfl _ _ HZ6.out infoRC rfl (by simp [Value.oneCell', rcv, strV]) ?_))
    refine bodyPost_ret (results_cell2 rfl _ _ w.heap.size _ (rcv ⟨2, ⟨kind, 0, 0, 0, t⟩⟩) _ _ rfl (setRow_heap _ _ _ _ _ _ HZ6.out) Try.underlying26 rfl infoRC) rfl ?_
    exact HP.out ⟨2, ⟨kind, 0, 0, 0, t⟩⟩ 0 _ (HX6.out.setRow (.inr (Nat.le_refl _)) _) (((show IsWQ w6 q (failR s5 (er : Nat)) from by rw [HEV.out, show failR s5 ((0 : Nat) : Int) = s5 from failR_zero s5]; exact HI6.out.weak)).same (setRow_other _ _ _ _ (by have := HQL.out; omega))) (fun _ => rfl)
  · have e9 : (((er : Nat) : Int) != 0) = true := by simp; omega
    clear hev
    have HF9 := Lib.hid (giveUp_any q s5 (er : Nat) _ HI6.out)
    unfold QPtr at HF9
    go_wp2_with (go_at_call 98; refine HF9.out.mono ?_)
    rintro e w7 ⟨rfl, k1, k2⟩
    have HX7 := Lib.hid (HX6.out.trans k1); have HI7 := Lib.hid k2
    have HZ7 := Lib.hid (heap_of_only k1 (by have := HQL.out; omega) HZ6.out); have HR7 := Lib.hid (heap_of_only k1 (by have := HQL.out; omega) HR6.out)
    clear k1 k2
    go_wp2_with (first
      | (refine wpList_load_row rfl _ _ rfl (w.heap.size + 1) rfl _ _ _ _ HR7.out Try.underlying26 rfl infoRC ?_)
      | (refine wpList_store_rowTo rfl _ _ _ rfl rfl w.heap.size (rcv ⟨2, ⟨kind, 0, 0, 0, t⟩⟩) rfl rfl _ _ HZ7.out infoRC rfl (by simp [Value.oneCell', rcv, strV]) ?_))
    refine bodyPost_ret (results_cell2 rfl _ _ w.heap.size _ (rcv ⟨2, ⟨kind, 0, 0, 0, t⟩⟩) _ _ rfl (setRow_heap _ _ _ _ _ _ HZ7.out) Try.underlying26 rfl infoRC) rfl ?_
    exact HP.out ⟨2, ⟨kind, 0, 0, 0, t⟩⟩ 0 _ (HX7.out.setRow (.inr (Nat.le_refl _)) _) ((HI7.out.weak).same (setRow_other _ _ _ _ (by have := HQL.out; omega))) (fun _ => rfl)

set_option maxRecDepth 20000 in
set_option maxHeartbeats 3000000 in
theorem rtake_v1_xF (q : Nat) (l : List UInt8) (kind ver : Nat) (w : World) (h : IsQ w q (l, 0)) (hv : ver = 1 ∨ ver = 2) (hk : 1 ≤ kind ∧ kind ≤ 6) (h1 : ver = 1) (he : (byteR (l, 0)).2.2 = 0) (hb : 2 < (byteR (l, 0)).1) (ht : texty kind = false) :
    Calls Try.prog 61 #[QPtr q, .int .u8 (kind : Nat), .int .u8 (ver : Nat)] w (CqPost q (cRaw ver kind (tPre ver kind (l, 0))).1 (cRaw ver kind (tPre ver kind (l, 0))).2 w) := by
  have hp : tPre ver kind (l, 0) = (l, 0) := tPre_ok (l, 0) hv hk.1 hk.2
  have HV : Hid (cRaw ver kind (tPre ver kind (l, 0)) = ((Cel.mk 2 (vTake 1 kind (failR (byteR (l, 0)).2 7)).1, 0), (vTake 1 kind (failR (byteR (l, 0)).2 7)).2)) := Lib.hid (by rw [hp, h1, cRaw_1]; have hh : headR kind (l, 0) = failR (byteR (l, 0)).2 7 := (by unfold headR; rw [if_pos (by exact .inl hb)]); unfold partedR; rw [hh]; rw [if_neg (by omega), if_neg (by omega), if_neg (by rw [ht]; simp)])
  have HP : Hid (∀ (c : Cel) (n : Nat) w', Only q w w' → IsWQ w' q (((Cel.mk 2 (vTake 1 kind (failR (byteR (l, 0)).2 7)).1, 0), (vTake 1 kind (failR (byteR (l, 0)).2 7)).2)).2 → ((((Cel.mk 2 (vTake 1 kind (failR (byteR (l, 0)).2 7)).1, 0), (vTake 1 kind (failR (byteR (l, 0)).2 7)).2)).2.2 = 0 → (c, n) = (((Cel.mk 2 (vTake 1 kind (failR (byteR (l, 0)).2 7)).1, 0), (vTake 1 kind (failR (byteR (l, 0)).2 7)).2)).1) → CqPost q (cRaw ver kind (tPre ver kind (l, 0))).1 (cRaw ver kind (tPre ver kind (l, 0))).2 w (.returned (.tuple #[rc c, .int .i64 (n : Nat)])) w') := Lib.hid fun c n w' h1 h2 h3 => by rw [HV.out]; exact ⟨c, n, rfl, h1, h2, h3⟩
  have hql := h.lt
  have HQL := Lib.hid hql
  have hg6 : ((w.alloc (.cells #[.int .u8 0, .int .u8 0, .int .i64 0, .int .u64 0, .int .u64 0, .string ⟨#[]⟩] 26)).alloc (.cells #[.int .u8 0, .int .u8 0, .int .i64 0, .int .u64 0, .int .u64 0, .string ⟨#[]⟩] 26)).heap[w.heap.size]? = _ := heap_alloc2_old w _ _
  have hq : ((w.alloc (.cells #[.int .u8 0, .int .u8 0, .int .i64 0, .int .u64 0, .int .u64 0, .string ⟨#[]⟩] 26)).alloc (.cells #[.int .u8 0, .int .u8 0, .int .i64 0, .int .u64 0, .int .u64 0, .string ⟨#[]⟩] 26)).heap[(w.heap.size + 1)]? = _ := heap_alloc2_new w _ _
  have HQ := Lib.hid hq
  obtain ⟨W3, hW3⟩ : ∃ W3, W3 = ((w.alloc (.cells #[.int .u8 0, .int .u8 0, .int .i64 0, .int .u64 0, .int .u64 0, .string ⟨#[]⟩] 26)).alloc (.cells #[.int .u8 0, .int .u8 0, .int .i64 0, .int .u64 0, .int .u64 0, .string ⟨#[]⟩] 26)).setRow (w.heap.size + 1) #[.int .u8 2, .int .u8 (kind : Nat), .int .i64 0, .int .u64 0, .int .u64 0, .string ⟨#[]⟩] := ⟨_, rfl⟩
  have hx3 : Ext w W3 := by rw [hW3]; exact (((Ch.refl _ _).alloc _).alloc _).setRow (.inr (by omega)) _
  have HZ3 : Hid (W3.heap[w.heap.size]? = some (.cells #[.int .u8 0, .int .u8 0, .int .i64 0, .int .u64 0, .int .u64 0, .string ⟨#[]⟩] 26 (0, 0))) := Lib.hid (by rw [hW3, setRow_other _ _ _ _ (by omega)]; exact hg6)
  have HR3 : Hid (W3.heap[(w.heap.size + 1)]? = some (.cells #[.int .u8 2, .int .u8 (kind : Nat), .int .i64 0, .int .u64 0, .int .u64 0, .string ⟨#[]⟩] 26 (0, 0))) := Lib.hid (by rw [hW3]; exact setRow_heap _ _ _ _ _ _ hq)
  have HX3 : Hid (Only q w W3) := Lib.hid hx3.ch
  have HI3 := Lib.hid (h.ext hx3)
  have HW3 := Lib.hid hW3
  have hb1 := fun w => build54_1 w kind
  have hb2 := fun w => buildRC_2 w kind
  clear hq hx3 hg6 hW3
  have HU := Lib.hid (qbyte_any q (l, 0) W3 HI3.out)
  generalize (byteR (l, 0)).1 = b at *
  generalize (byteR (l, 0)).2 = s1 at *
  have HERR := Lib.hid he
  have HTX := Lib.hid (fun w => rTexty_any kind w)
  rw [ht] at HTX
  have e0 : (((b : Nat) : Int) == 0) = false := by simp; omega
  have e2 : (((b : Nat) : Int) == 2) = false := by simp; omega
  have HF := Lib.hid (fun w h => giveUp_any q s1 7 w h)
  generalize failR s1 7 = s2 at *
  have HTK := Lib.hid (fun w h => qtake_val q s2 1 kind w h)
  generalize (vTake 1 kind s2).1 = tv at *
  generalize (vTake 1 kind s2).2 = s5 at *
  subst h1
  have hk1 := hk.1
  have hk6 := hk.2
  clear hk
  clear h hql hp he hv ht HV
  unfold QPtr at *
  go_enter Try.func61, Try.ntmps61
  go_wp2_with (first
    | (refine wpList_store_rowTo rfl _ _ _ rfl rfl (w.heap.size + 1) #[.int .u8 2, .int .u8 (kind : Nat), .int .i64 0, .int .u64 0, .int .u64 0, .string ⟨#[]⟩] rfl rfl _ _ HQ.out infoRC rfl (by simp [Value.oneCell']) ?_; rw [← HW3.out])
    | (go_at_call 78; refine HU.out.mono ?_))
  rintro e w1 ⟨rfl, k1, k2⟩
  have HX1 := Lib.hid (HX3.out.trans k1); have HI1 := Lib.hid k2
  have HZ1 := Lib.hid (heap_of_only k1 (by have := HQL.out; omega) HZ3.out); have HR1 := Lib.hid (heap_of_only k1 (by have := HQL.out; omega) HR3.out)
  clear k1 k2
  obtain ⟨_, _, _, _, _, _, ce, _⟩ := HI1.out.cells
  have eb : (s1.2 != 0) = false := by simpa using HERR.out
  go_wp2_with (first
    | (go_at_call 49; refine (HTX.out _).mono ?_; rintro e w' ⟨rfl, rfl⟩)
    | (go_at_call 98; refine (HF.out _ HI1.out).mono ?_))
  rintro e w2 ⟨rfl, k1, k2⟩
  have HX2 := Lib.hid (HX1.out.trans k1); have HI2 := Lib.hid k2
  have HZ2 := Lib.hid (heap_of_only k1 (by have := HQL.out; omega) HZ1.out); have HR2 := Lib.hid (heap_of_only k1 (by have := HQL.out; omega) HR1.out)
  clear k1 k2
  go_wp2_with (first
    | (go_at_call 49; refine (HTX.out _).mono ?_; rintro e w' ⟨rfl, rfl⟩)
    | (go_at_call 100; refine (HTK.out _ HI2.out).mono ?_))
  rintro e w4 ⟨rfl, k1, k2⟩
  have HX4 := Lib.hid (HX2.out.trans k1); have HI4 := Lib.hid k2
  have HZ4 := Lib.hid (heap_of_only k1 (by have := HQL.out; omega) HZ2.out); have HR4 := Lib.hid (heap_of_only k1 (by have := HQL.out; omega) HR2.out)
  clear k1 k2
  obtain ⟨W5, hW5⟩ : ∃ W5, W5 = w4.setCells (w.heap.size + 1) 1 (rvals tv).toList := ⟨_, rfl⟩
  have HR5 : Hid (W5.heap[w.heap.size + 1]? = some (.cells (rcv ⟨2, tv⟩) 26 (0, 0))) := Lib.hid (by rw [hW5]; exact setCells5 HR4.out)
  have hk5 : Ch (fun i => i = w.heap.size + 1) w4 W5 := by rw [hW5]; exact ch_setCells5 (M := fun i => i = w.heap.size + 1) w4 (w.heap.size + 1) rfl _ _ _ _ _
  have HZ5 := Lib.hid (heap_of_only hk5 (by omega) HZ4.out)
  have HI5 : Hid (IsWQ W5 q s5) := Lib.hid (HI4.out.same (hk5.block q HI4.out.lt (by have := HQL.out; omega)))
  have HX5 : Hid (Only q w W5) := Lib.hid (by
    rw [hW5]
    exact (((((HX4.out.setCell (p := ⟨w.heap.size + 1, 1, none⟩) (.inr (Nat.le_succ _)) _).setCell (p := ⟨w.heap.size + 1, 2, none⟩) (.inr (Nat.le_succ _)) _).setCell (p := ⟨w.heap.size + 1, 3, none⟩) (.inr (Nat.le_succ _)) _).setCell (p := ⟨w.heap.size + 1, 4, none⟩) (.inr (Nat.le_succ _)) _).setCell (p := ⟨w.heap.size + 1, 5, none⟩) (.inr (Nat.le_succ _)) _))
  have HTH : Hid (w4.there (w.heap.size + 1) 1 (rvals tv).size) := Lib.hid fun j hj => by
    have hj5 : j < 5 := hj
    have hjc : 1 + j < 6 := by omega
    refine ⟨?_, frozen_of_row w4 (w.heap.size + 1) (1 + j) _ _ HR4.out⟩
    rw [cell_of_row _ _ _ _ _ _ HR4.out]
    match j, hj5 with
    | 0, _ => rfl
    | 1, _ => rfl
    | 2, _ => rfl
    | 3, _ => rfl
    | 4, _ => rfl
  have HW5 := Lib.hid hW5
  clear hW5 hk5
  go_wp2_with (first
    | (refine wpList_store_mid rfl _ _ _ rfl (w.heap.size + 1) 1 (rvals tv) rfl rfl HTH.out infoRV (by simp [rvals, strV, Value.oneCell']) ?_; rw [← HW5.out])
    | (refine wpList_load_row rfl _ _ rfl (w.heap.size + 1) rfl _ _ _ _ HR5.out Try.underlying26 rfl infoRC ?_)
    | (refine wpList_store_rowTo rfl _ _ _ rfl rfl w.heap.size (rcv ⟨2, tv⟩) rfl rfl _ _ HZ5.out infoRC rfl (by simp [Value.oneCell', rcv, strV]) ?_))
  refine bodyPost_ret (results_cell2 rfl _ _ w.heap.size _ (rcv ⟨2, tv⟩) _ _ rfl (setRow_heap _ _ _ _ _ _ HZ5.out) Try.underlying26 rfl infoRC) rfl ?_
  exact HP.out ⟨2, tv⟩ 0 _ (HX5.out.setRow (.inr (Nat.le_refl _)) _) ((HI5.out).same (setRow_other _ _ _ _ (by have := HQL.out; omega))) (fun _ => rfl)

set_option maxRecDepth 20000 in
set_option maxHeartbeats 3000000 in
theorem rtake_v2_F (q : Nat) (l : List UInt8) (kind ver : Nat) (w : World) (h : IsQ w q (l, 0)) (hv : ver = 1 ∨ ver = 2) (hk : 1 ≤ kind ∧ kind ≤ 6) (h1 : ver = 2) (ht : texty kind = false) :
    Calls Try.prog 61 #[QPtr q, .int .u8 (kind : Nat), .int .u8 (ver : Nat)] w (CqPost q (cRaw ver kind (tPre ver kind (l, 0))).1 (cRaw ver kind (tPre ver kind (l, 0))).2 w) := by
  have hp : tPre ver kind (l, 0) = (l, 0) := tPre_ok (l, 0) hv hk.1 hk.2
  have HV : Hid (cRaw ver kind (tPre ver kind (l, 0)) = ((Cel.mk 2 (vTake 2 kind (l, 0)).1, 0), (vTake 2 kind (l, 0)).2)) := Lib.hid (by rw [hp, h1, cRaw_2p _ (by rw [ht]; simp)])
  have HP : Hid (∀ (c : Cel) (n : Nat) w', Only q w w' → IsWQ w' q (((Cel.mk 2 (vTake 2 kind (l, 0)).1, 0), (vTake 2 kind (l, 0)).2)).2 → ((((Cel.mk 2 (vTake 2 kind (l, 0)).1, 0), (vTake 2 kind (l, 0)).2)).2.2 = 0 → (c, n) = (((Cel.mk 2 (vTake 2 kind (l, 0)).1, 0), (vTake 2 kind (l, 0)).2)).1) → CqPost q (cRaw ver kind (tPre ver kind (l, 0))).1 (cRaw ver kind (tPre ver kind (l, 0))).2 w (.returned (.tuple #[rc c, .int .i64 (n : Nat)])) w') := Lib.hid fun c n w' h1 h2 h3 => by rw [HV.out]; exact ⟨c, n, rfl, h1, h2, h3⟩
  have hql := h.lt
  have HQL := Lib.hid hql
  have hg6 : ((w.alloc (.cells #[.int .u8 0, .int .u8 0, .int .i64 0, .int .u64 0, .int .u64 0, .string ⟨#[]⟩] 26)).alloc (.cells #[.int .u8 0, .int .u8 0, .int .i64 0, .int .u64 0, .int .u64 0, .string ⟨#[]⟩] 26)).heap[w.heap.size]? = _ := heap_alloc2_old w _ _
  have hq : ((w.alloc (.cells #[.int .u8 0, .int .u8 0, .int .i64 0, .int .u64 0, .int .u64 0, .string ⟨#[]⟩] 26)).alloc (.cells #[.int .u8 0, .int .u8 0, .int .i64 0, .int .u64 0, .int .u64 0, .string ⟨#[]⟩] 26)).heap[(w.heap.size + 1)]? = _ := heap_alloc2_new w _ _
  have HQ := Lib.hid hq
  obtain ⟨W3, hW3⟩ : ∃ W3, W3 = ((w.alloc (.cells #[.int .u8 0, .int .u8 0, .int .i64 0, .int .u64 0, .int .u64 0, .string ⟨#[]⟩] 26)).alloc (.cells #[.int .u8 0, .int .u8 0, .int .i64 0, .int .u64 0, .int .u64 0, .string ⟨#[]⟩] 26)).setRow (w.heap.size + 1) #[.int .u8 2, .int .u8 (kind : Nat), .int .i64 0, .int .u64 0, .int .u64 0, .string ⟨#[]⟩] := ⟨_, rfl⟩
  have hx3 : Ext w W3 := by rw [hW3]; exact (((Ch.refl _ _).alloc _).alloc _).setRow (.inr (by omega)) _
  have HZ3 : Hid (W3.heap[w.heap.size]? = some (.cells #[.int .u8 0, .int .u8 0, .int .i64 0, .int .u64 0, .int .u64 0, .string ⟨#[]⟩] 26 (0, 0))) := Lib.hid (by rw [hW3, setRow_other _ _ _ _ (by omega)]; exact hg6)
  have HR3 : Hid (W3.heap[(w.heap.size + 1)]? = some (.cells #[.int .u8 2, .int .u8 (kind : Nat), .int .i64 0, .int .u64 0, .int .u64 0, .string ⟨#[]⟩] 26 (0, 0))) := Lib.hid (by rw [hW3]; exact setRow_heap _ _ _ _ _ _ hq)
  have HX3 : Hid (Only q w W3) := Lib.hid hx3.ch
  have HI3 := Lib.hid (h.ext hx3)
  have HW3 := Lib.hid hW3
  have hb1 := fun w => build54_1 w kind
  have hb2 := fun w => buildRC_2 w kind
  clear hq hx3 hg6 hW3
  have HTX := Lib.hid (fun w => rTexty_any kind w)
  rw [ht] at HTX
  have HTK := Lib.hid (fun w h => qtake_val q (l, 0) 2 kind w h)
  generalize (vTake 2 kind (l, 0)).1 = tv at *
  generalize (vTake 2 kind (l, 0)).2 = s5 at *
  subst h1
  have hk1 := hk.1
  have hk6 := hk.2
  clear hk
  clear h hql hp hv ht HV
  unfold QPtr at *
  go_enter Try.func61, Try.ntmps61
  go_wp2_with (first
    | (refine wpList_store_rowTo rfl _ _ _ rfl rfl (w.heap.size + 1) #[.int .u8 2, .int .u8 (kind : Nat), .int .i64 0, .int .u64 0, .int .u64 0, .string ⟨#[]⟩] rfl rfl _ _ HQ.out infoRC rfl (by simp [Value.oneCell']) ?_; rw [← HW3.out])
    | (go_at_call 49; refine (HTX.out _).mono ?_; rintro e w' ⟨rfl, rfl⟩)
    | (go_at_call 100; refine (HTK.out _ HI3.out).mono ?_))
  rintro e w4 ⟨rfl, k1, k2⟩
  have HX4 := Lib.hid (HX3.out.trans k1); have HI4 := Lib.hid k2
  have HZ4 := Lib.hid (heap_of_only k1 (by have := HQL.out; omega) HZ3.out); have HR4 := Lib.hid (heap_of_only k1 (by have := HQL.out; omega) HR3.out)
  clear k1 k2
  obtain ⟨W5, hW5⟩ : ∃ W5, W5 = w4.setCells (w.heap.size + 1) 1 (rvals tv).toList := ⟨_, rfl⟩
  have HR5 : Hid (W5.heap[w.heap.size + 1]? = some (.cells (rcv ⟨2, tv⟩) 26 (0, 0))) := Lib.hid (by rw [hW5]; exact setCells5 HR4.out)
  have hk5 : Ch (fun i => i = w.heap.size + 1) w4 W5 := by rw [hW5]; exact ch_setCells5 (M := fun i => i = w.heap.size + 1) w4 (w.heap.size + 1) rfl _ _ _ _ _
  have HZ5 := Lib.hid (heap_of_only hk5 (by omega) HZ4.out)
  have HI5 : Hid (IsWQ W5 q s5) := Lib.hid (HI4.out.same (hk5.block q HI4.out.lt (by have := HQL.out; omega)))
  have HX5 : Hid (Only q w W5) := Lib.hid (by
    rw [hW5]
    exact (((((HX4.out.setCell (p := ⟨w.heap.size + 1, 1, none⟩) (.inr (Nat.le_succ _)) _).setCell (p := ⟨w.heap.size + 1, 2, none⟩) (.inr (Nat.le_succ _)) _).setCell (p := ⟨w.heap.size + 1, 3, none⟩) (.inr (Nat.le_succ _)) _).setCell (p := ⟨w.heap.size + 1, 4, none⟩) (.inr (Nat.le_succ _)) _).setCell (p := ⟨w.heap.size + 1, 5, none⟩) (.inr (Nat.le_succ _)) _))
  have HTH : Hid (w4.there (w.heap.size + 1) 1 (rvals tv).size) := Lib.hid fun j hj => by
    have hj5 : j < 5 := hj
    have hjc : 1 + j < 6 := by omega
    refine ⟨?_, frozen_of_row w4 (w.heap.size + 1) (1 + j) _ _ HR4.out⟩
    rw [cell_of_row _ _ _ _ _ _ HR4.out]
    match j, hj5 with
    | 0, _ => rfl
    | 1, _ => rfl
    | 2, _ => rfl
    | 3, _ => rfl
    | 4, _ => rfl
  have HW5 := Lib.hid hW5
  clear hW5 hk5
  go_wp2_with (first
    | (refine wpList_store_mid rfl _ _ _ rfl (w.heap.size + 1) 1 (rvals tv) rfl rfl HTH.out infoRV (by simp [rvals, strV, Value.oneCell']) ?_; rw [← HW5.out])
    | (refine wpList_load_row rfl _ _ rfl (w.heap.size + 1) rfl _ _ _ _ HR5.out Try.underlying26 rfl infoRC ?_)
    | (refine wpList_store_rowTo rfl _ _ _ rfl rfl w.heap.size (rcv ⟨2, tv⟩) rfl rfl _ _ HZ5.out infoRC rfl (by simp [Value.oneCell', rcv, strV]) ?_))
  refine bodyPost_ret (results_cell2 rfl _ _ w.heap.size _ (rcv ⟨2, tv⟩) _ _ rfl (setRow_heap _ _ _ _ _ _ HZ5.out) Try.underlying26 rfl infoRC) rfl ?_
  exact HP.out ⟨2, tv⟩ 0 _ (HX5.out.setRow (.inr (Nat.le_refl _)) _) ((HI5.out).same (setRow_other _ _ _ _ (by have := HQL.out; omega))) (fun _ => rfl)

set_option maxRecDepth 20000 in
set_option maxHeartbeats 3000000 in
theorem rtake_v2_e (q : Nat) (l : List UInt8) (kind ver : Nat) (w : World) (h : IsQ w q (l, 0)) (hv : ver = 1 ∨ ver = 2) (hk : 1 ≤ kind ∧ kind ≤ 6) (h1 : ver = 2) (ht : texty kind = true) (he : (uintR 66 (l, 0)).2.2 ≠ 0) :
    Calls Try.prog 61 #[QPtr q, .int .u8 (kind : Nat), .int .u8 (ver : Nat)] w (CqPost q (cRaw ver kind (tPre ver kind (l, 0))).1 (cRaw ver kind (tPre ver kind (l, 0))).2 w) := by
  have hp : tPre ver kind (l, 0) = (l, 0) := tPre_ok (l, 0) hv hk.1 hk.2
  have HV : Hid ((cRaw ver kind (tPre ver kind (l, 0))).2 = (uintR 66 (l, 0)).2 ∧ (uintR 66 (l, 0)).2.2 ≠ 0) := Lib.hid ⟨by rw [hp, h1, cRaw_2t _ ht, uintR_lack he]; exact joinedR_first he (uintR_lack he), he⟩
  have HP : Hid (∀ (c : Cel) (n : Nat) w', Only q w w' → IsWQ w' q (uintR 66 (l, 0)).2 → CqPost q (cRaw ver kind (tPre ver kind (l, 0))).1 (cRaw ver kind (tPre ver kind (l, 0))).2 w (.returned (.tuple #[rc c, .int .i64 (n : Nat)])) w') := Lib.hid fun c n w' h1 h2 => by rw [HV.out.1]; exact ⟨c, n, rfl, h1, h2, fun h => absurd h HV.out.2⟩
  have hql := h.lt
  have HQL := Lib.hid hql
  have hg6 : ((w.alloc (.cells #[.int .u8 0, .int .u8 0, .int .i64 0, .int .u64 0, .int .u64 0, .string ⟨#[]⟩] 26)).alloc (.cells #[.int .u8 0, .int .u8 0, .int .i64 0, .int .u64 0, .int .u64 0, .string ⟨#[]⟩] 26)).heap[w.heap.size]? = _ := heap_alloc2_old w _ _
  have hq : ((w.alloc (.cells #[.int .u8 0, .int .u8 0, .int .i64 0, .int .u64 0, .int .u64 0, .string ⟨#[]⟩] 26)).alloc (.cells #[.int .u8 0, .int .u8 0, .int .i64 0, .int .u64 0, .int .u64 0, .string ⟨#[]⟩] 26)).heap[(w.heap.size + 1)]? = _ := heap_alloc2_new w _ _
  have HQ := Lib.hid hq
  obtain ⟨W3, hW3⟩ : ∃ W3, W3 = ((w.alloc (.cells #[.int .u8 0, .int .u8 0, .int .i64 0, .int .u64 0, .int .u64 0, .string ⟨#[]⟩] 26)).alloc (.cells #[.int .u8 0, .int .u8 0, .int .i64 0, .int .u64 0, .int .u64 0, .string ⟨#[]⟩] 26)).setRow (w.heap.size + 1) #[.int .u8 2, .int .u8 (kind : Nat), .int .i64 0, .int .u64 0, .int .u64 0, .string ⟨#[]⟩] := ⟨_, rfl⟩
  have hx3 : Ext w W3 := by rw [hW3]; exact (((Ch.refl _ _).alloc _).alloc _).setRow (.inr (by omega)) _
  have HZ3 : Hid (W3.heap[w.heap.size]? = some (.cells #[.int .u8 0, .int .u8 0, .int .i64 0, .int .u64 0, .int .u64 0, .string ⟨#[]⟩] 26 (0, 0))) := Lib.hid (by rw [hW3, setRow_other _ _ _ _ (by omega)]; exact hg6)
  have HR3 : Hid (W3.heap[(w.heap.size + 1)]? = some (.cells #[.int .u8 2, .int .u8 (kind : Nat), .int .i64 0, .int .u64 0, .int .u64 0, .string ⟨#[]⟩] 26 (0, 0))) := Lib.hid (by rw [hW3]; exact setRow_heap _ _ _ _ _ _ hq)
  have HX3 : Hid (Only q w W3) := Lib.hid hx3.ch
  have HI3 := Lib.hid (h.ext hx3)
  have HW3 := Lib.hid hW3
  have hb1 := fun w => build54_1 w kind
  have hb2 := fun w => buildRC_2 w kind
  clear hq hx3 hg6 hW3
  have HTX := Lib.hid (fun w => rTexty_any kind w)
  rw [ht] at HTX
  have hle := uintR_le 66 (l, 0)
  have HU := Lib.hid (quint_any q (l, 0) 66 W3 HI3.out (by omega))
  generalize (uintR 66 (l, 0)).1 = m at *
  generalize (uintR 66 (l, 0)).2 = s1 at *
  have HERR := Lib.hid he
  have hb0 := fun w => buildRC_0 w
  subst h1
  have hk1 := hk.1
  have hk6 := hk.2
  clear hk
  clear h hql hp he hv ht HV
  unfold QPtr at *
  go_enter Try.func61, Try.ntmps61
  go_wp2_with (first
    | (refine wpList_store_rowTo rfl _ _ _ rfl rfl (w.heap.size + 1) #[.int .u8 2, .int .u8 (kind : Nat), .int .i64 0, .int .u64 0, .int .u64 0, .string ⟨#[]⟩] rfl rfl _ _ HQ.out infoRC rfl (by simp [Value.oneCell']) ?_; rw [← HW3.out])
    | (go_at_call 49; refine (HTX.out _).mono ?_; rintro e w' ⟨rfl, rfl⟩)
    | (go_at_call 76; refine HU.out.mono ?_))
  rintro e w1 ⟨rfl, k1, k2⟩
  have HX1 := Lib.hid (HX3.out.trans k1); have HI1 := Lib.hid k2
  have HZ1 := Lib.hid (heap_of_only k1 (by have := HQL.out; omega) HZ3.out); have HR1 := Lib.hid (heap_of_only k1 (by have := HQL.out; omega) HR3.out)
  clear k1 k2
  obtain ⟨_, _, _, _, _, _, ce, _⟩ := HI1.out.cells
  have eb : (s1.2 != 0) = true := by simpa using HERR.out
  go_wp2_with (first
    | (refine wpList_store_rowTo rfl _ _ _ rfl rfl w.heap.size #[.int .u8 0, .int .u8 0, .int .i64 0, .int .u64 0, .int .u64 0, .string ⟨#[]⟩] rfl rfl _ _ HZ1.out infoRC rfl (by simp [Value.oneCell', rcv, strV]) ?_))
  refine bodyPost_ret (results_cell2 rfl _ _ w.heap.size _ #[.int .u8 0, .int .u8 0, .int .i64 0, .int .u64 0, .int .u64 0, .string ⟨#[]⟩] _ _ rfl (setRow_heap _ _ _ _ _ _ HZ1.out) Try.underlying26 rfl infoRC) rfl ?_
  exact HP.out Cel.zero 0 _ (HX1.out.setRow (.inr (Nat.le_refl _)) _) ((HI1.out.weak).same (setRow_other _ _ _ _ (by have := HQL.out; omega)))

set_option maxRecDepth 20000 in
set_option maxHeartbeats 3000000 in
theorem rtake_v2_same (q : Nat) (l : List UInt8) (kind ver : Nat) (w : World) (h : IsQ w q (l, 0)) (hv : ver = 1 ∨ ver = 2) (hk : 1 ≤ kind ∧ kind ≤ 6) (h1 : ver = 2) (ht : texty kind = true) (he : (uintR 66 (l, 0)).2.2 = 0) (hn : (uintR 66 (l, 0)).1 = 0) :
    Calls Try.prog 61 #[QPtr q, .int .u8 (kind : Nat), .int .u8 (ver : Nat)] w (CqPost q (cRaw ver kind (tPre ver kind (l, 0))).1 (cRaw ver kind (tPre ver kind (l, 0))).2 w) := by
  have hp : tPre ver kind (l, 0) = (l, 0) := tPre_ok (l, 0) hv hk.1 hk.2
  have HV : Hid (cRaw ver kind (tPre ver kind (l, 0)) = ((sameC, 0), (uintR 66 (l, 0)).2)) := Lib.hid (by rw [hp, h1, cRaw_2t _ ht]; unfold joinedR; rw [if_pos hn])
  have HP : Hid (∀ (c : Cel) (n : Nat) w', Only q w w' → IsWQ w' q (((sameC, 0), (uintR 66 (l, 0)).2)).2 → ((((sameC, 0), (uintR 66 (l, 0)).2)).2.2 = 0 → (c, n) = (((sameC, 0), (uintR 66 (l, 0)).2)).1) → CqPost q (cRaw ver kind (tPre ver kind (l, 0))).1 (cRaw ver kind (tPre ver kind (l, 0))).2 w (.returned (.tuple #[rc c, .int .i64 (n : Nat)])) w') := Lib.hid fun c n w' h1 h2 h3 => by rw [HV.out]; exact ⟨c, n, rfl, h1, h2, h3⟩
  have hql := h.lt
  have HQL := Lib.hid hql
  have hg6 : ((w.alloc (.cells #[.int .u8 0, .int .u8 0, .int .i64 0, .int .u64 0, .int .u64 0, .string ⟨#[]⟩] 26)).alloc (.cells #[.int .u8 0, .int .u8 0, .int .i64 0, .int .u64 0, .int .u64 0, .string ⟨#[]⟩] 26)).heap[w.heap.size]? = _ := heap_alloc2_old w _ _
  have hq : ((w.alloc (.cells #[.int .u8 0, .int .u8 0, .int .i64 0, .int .u64 0, .int .u64 0, .string ⟨#[]⟩] 26)).alloc (.cells #[.int .u8 0, .int .u8 0, .int .i64 0, .int .u64 0, .int .u64 0, .string ⟨#[]⟩] 26)).heap[(w.heap.size + 1)]? = _ := heap_alloc2_new w _ _
  have HQ := Lib.hid hq
  obtain ⟨W3, hW3⟩ : ∃ W3, W3 = ((w.alloc (.cells #[.int .u8 0, .int .u8 0, .int .i64 0, .int .u64 0, .int .u64 0, .string ⟨#[]⟩] 26)).alloc (.cells #[.int .u8 0, .int .u8 0, .int .i64 0, .int .u64 0, .int .u64 0, .string ⟨#[]⟩] 26)).setRow (w.heap.size + 1) #[.int .u8 2, .int .u8 (kind : Nat), .int .i64 0, .int .u64 0, .int .u64 0, .string ⟨#[]⟩] := ⟨_, rfl⟩
  have hx3 : Ext w W3 := by rw [hW3]; exact (((Ch.refl _ _).alloc _).alloc _).setRow (.inr (by omega)) _
  have HZ3 : Hid (W3.heap[w.heap.size]? = some (.cells #[.int .u8 0, .int .u8 0, .int .i64 0, .int .u64 0, .int .u64 0, .string ⟨#[]⟩] 26 (0, 0))) := Lib.hid (by rw [hW3, setRow_other _ _ _ _ (by omega)]; exact hg6)
  have HR3 : Hid (W3.heap[(w.heap.size + 1)]? = some (.cells #[.int .u8 2, .int .u8 (kind : Nat), .int .i64 0, .int .u64 0, .int .u64 0, .string ⟨#[]⟩] 26 (0, 0))) := Lib.hid (by rw [hW3]; exact setRow_heap _ _ _ _ _ _ hq)
  have HX3 : Hid (Only q w W3) := Lib.hid hx3.ch
  have HI3 := Lib.hid (h.ext hx3)
  have HW3 := Lib.hid hW3
  have hb1 := fun w => build54_1 w kind
  have hb2 := fun w => buildRC_2 w kind
  clear hq hx3 hg6 hW3
  have HTX := Lib.hid (fun w => rTexty_any kind w)
  rw [ht] at HTX
  have hle := uintR_le 66 (l, 0)
  have HU := Lib.hid (quint_any q (l, 0) 66 W3 HI3.out (by omega))
  generalize (uintR 66 (l, 0)).1 = m at *
  generalize (uintR 66 (l, 0)).2 = s1 at *
  have HERR := Lib.hid he
  subst hn
  have hb3 := fun w => buildRC_1 w
  subst h1
  have hk1 := hk.1
  have hk6 := hk.2
  clear hk
  clear h hql hp he hv ht HV
  unfold QPtr at *
  go_enter Try.func61, Try.ntmps61
  go_wp2_with (first
    | (refine wpList_store_rowTo rfl _ _ _ rfl rfl (w.heap.size + 1) #[.int .u8 2, .int .u8 (kind : Nat), .int .i64 0, .int .u64 0, .int .u64 0, .string ⟨#[]⟩] rfl rfl _ _ HQ.out infoRC rfl (by simp [Value.oneCell']) ?_; rw [← HW3.out])
    | (go_at_call 49; refine (HTX.out _).mono ?_; rintro e w' ⟨rfl, rfl⟩)
    | (go_at_call 76; refine HU.out.mono ?_))
  rintro e w1 ⟨rfl, k1, k2⟩
  have HX1 := Lib.hid (HX3.out.trans k1); have HI1 := Lib.hid k2
  have HZ1 := Lib.hid (heap_of_only k1 (by have := HQL.out; omega) HZ3.out); have HR1 := Lib.hid (heap_of_only k1 (by have := HQL.out; omega) HR3.out)
  clear k1 k2
  obtain ⟨_, _, _, _, _, _, ce, _⟩ := HI1.out.cells
  have eb : (s1.2 != 0) = false := by simpa using HERR.out
  go_wp2_with (first
    | (go_at_call 49; refine (HTX.out _).mono ?_; rintro e w' ⟨rfl, rfl⟩)
    | (refine wpList_store_rowTo rfl _ _ _ rfl rfl w.heap.size #[.int .u8 1, .int .u8 0, .int .i64 0, .int .u64 0, .int .u64 0, .string ⟨#[]⟩] rfl rfl _ _ HZ1.out infoRC rfl (by simp [Value.oneCell', rcv, strV]) ?_))
  refine bodyPost_ret (results_cell2 rfl _ _ w.heap.size _ #[.int .u8 1, .int .u8 0, .int .i64 0, .int .u64 0, .int .u64 0, .string ⟨#[]⟩] _ _ rfl (setRow_heap _ _ _ _ _ _ HZ1.out) Try.underlying26 rfl infoRC) rfl ?_
  exact HP.out sameC 0 _ (HX1.out.setRow (.inr (Nat.le_refl _)) _) ((HI1.out.weak).same (setRow_other _ _ _ _ (by have := HQL.out; omega))) (fun _ => rfl)

set_option maxRecDepth 20000 in
set_option maxHeartbeats 3000000 in
theorem rtake_v2_away (q : Nat) (l : List UInt8) (kind ver : Nat) (w : World) (h : IsQ w q (l, 0)) (hv : ver = 1 ∨ ver = 2) (hk : 1 ≤ kind ∧ kind ≤ 6) (h1 : ver = 2) (ht : texty kind = true) (he : (uintR 66 (l, 0)).2.2 = 0) (hn : (uintR 66 (l, 0)).1 = 1) :
    Calls Try.prog 61 #[QPtr q, .int .u8 (kind : Nat), .int .u8 (ver : Nat)] w (CqPost q (cRaw ver kind (tPre ver kind (l, 0))).1 (cRaw ver kind (tPre ver kind (l, 0))).2 w) := by
  have hp : tPre ver kind (l, 0) = (l, 0) := tPre_ok (l, 0) hv hk.1 hk.2
  have HV : Hid (cRaw ver kind (tPre ver kind (l, 0)) = ((bigC kind, (awayR (uintR 66 (l, 0)).2).1), (awayR (uintR 66 (l, 0)).2).2)) := Lib.hid (by rw [hp, h1, cRaw_2t _ ht]; unfold joinedR; rw [if_neg (by omega), if_pos hn])
  have HP : Hid (∀ (c : Cel) (n : Nat) w', Only q w w' → IsWQ w' q (((bigC kind, (awayR (uintR 66 (l, 0)).2).1), (awayR (uintR 66 (l, 0)).2).2)).2 → ((((bigC kind, (awayR (uintR 66 (l, 0)).2).1), (awayR (uintR 66 (l, 0)).2).2)).2.2 = 0 → (c, n) = (((bigC kind, (awayR (uintR 66 (l, 0)).2).1), (awayR (uintR 66 (l, 0)).2).2)).1) → CqPost q (cRaw ver kind (tPre ver kind (l, 0))).1 (cRaw ver kind (tPre ver kind (l, 0))).2 w (.returned (.tuple #[rc c, .int .i64 (n : Nat)])) w') := Lib.hid fun c n w' h1 h2 h3 => by rw [HV.out]; exact ⟨c, n, rfl, h1, h2, h3⟩
  have hql := h.lt
  have HQL := Lib.hid hql
  have hg6 : ((w.alloc (.cells #[.int .u8 0, .int .u8 0, .int .i64 0, .int .u64 0, .int .u64 0, .string ⟨#[]⟩] 26)).alloc (.cells #[.int .u8 0, .int .u8 0, .int .i64 0, .int .u64 0, .int .u64 0, .string ⟨#[]⟩] 26)).heap[w.heap.size]? = _ := heap_alloc2_old w _ _
  have hq : ((w.alloc (.cells #[.int .u8 0, .int .u8 0, .int .i64 0, .int .u64 0, .int .u64 0, .string ⟨#[]⟩] 26)).alloc (.cells #[.int .u8 0, .int .u8 0, .int .i64 0, .int .u64 0, .int .u64 0, .string ⟨#[]⟩] 26)).heap[(w.heap.size + 1)]? = _ := heap_alloc2_new w _ _
  have HQ := Lib.hid hq
  obtain ⟨W3, hW3⟩ : ∃ W3, W3 = ((w.alloc (.cells #[.int .u8 0, .int .u8 0, .int .i64 0, .int .u64 0, .int .u64 0, .string ⟨#[]⟩] 26)).alloc (.cells #[.int .u8 0, .int .u8 0, .int .i64 0, .int .u64 0, .int .u64 0, .string ⟨#[]⟩] 26)).setRow (w.heap.size + 1) #[.int .u8 2, .int .u8 (kind : Nat), .int .i64 0, .int .u64 0, .int .u64 0, .string ⟨#[]⟩] := ⟨_, rfl⟩
  have hx3 : Ext w W3 := by rw [hW3]; exact (((Ch.refl _ _).alloc _).alloc _).setRow (.inr (by omega)) _
  have HZ3 : Hid (W3.heap[w.heap.size]? = some (.cells #[.int .u8 0, .int .u8 0, .int .i64 0, .int .u64 0, .int .u64 0, .string ⟨#[]⟩] 26 (0, 0))) := Lib.hid (by rw [hW3, setRow_other _ _ _ _ (by omega)]; exact hg6)
  have HR3 : Hid (W3.heap[(w.heap.size + 1)]? = some (.cells #[.int .u8 2, .int .u8 (kind : Nat), .int .i64 0, .int .u64 0, .int .u64 0, .string ⟨#[]⟩] 26 (0, 0))) := Lib.hid (by rw [hW3]; exact setRow_heap _ _ _ _ _ _ hq)
  have HX3 : Hid (Only q w W3) := Lib.hid hx3.ch
  have HI3 := Lib.hid (h.ext hx3)
  have HW3 := Lib.hid hW3
  have hb1 := fun w => build54_1 w kind
  have hb2 := fun w => buildRC_2 w kind
  clear hq hx3 hg6 hW3
  have HTX := Lib.hid (fun w => rTexty_any kind w)
  rw [ht] at HTX
  have hle := uintR_le 66 (l, 0)
  have HU := Lib.hid (quint_any q (l, 0) 66 W3 HI3.out (by omega))
  generalize (uintR 66 (l, 0)).1 = m at *
  generalize (uintR 66 (l, 0)).2 = s1 at *
  have HERR := Lib.hid he
  subst hn
  have HLA := Lib.hid (fun w h => qlarge_any q s1 w h)
  generalize (awayR s1).1 = n at *
  generalize (awayR s1).2 = s9 at *
  subst h1
  have hk1 := hk.1
  have hk6 := hk.2
  clear hk
  clear h hql hp he hv ht HV
  unfold QPtr at *
  go_enter Try.func61, Try.ntmps61
  go_wp2_with (first
    | (refine wpList_store_rowTo rfl _ _ _ rfl rfl (w.heap.size + 1) #[.int .u8 2, .int .u8 (kind : Nat), .int .i64 0, .int .u64 0, .int .u64 0, .string ⟨#[]⟩] rfl rfl _ _ HQ.out infoRC rfl (by simp [Value.oneCell']) ?_; rw [← HW3.out])
    | (go_at_call 49; refine (HTX.out _).mono ?_; rintro e w' ⟨rfl, rfl⟩)
    | (go_at_call 76; refine HU.out.mono ?_))
  rintro e w1 ⟨rfl, k1, k2⟩
  have HX1 := Lib.hid (HX3.out.trans k1); have HI1 := Lib.hid k2
  have HZ1 := Lib.hid (heap_of_only k1 (by have := HQL.out; omega) HZ3.out); have HR1 := Lib.hid (heap_of_only k1 (by have := HQL.out; omega) HR3.out)
  clear k1 k2
  obtain ⟨_, _, _, _, _, _, ce, _⟩ := HI1.out.cells
  have eb : (s1.2 != 0) = false := by simpa using HERR.out
  go_wp2_with (first
    | (go_at_call 49; refine (HTX.out _).mono ?_; rintro e w' ⟨rfl, rfl⟩))
  refine wp_region_act (larT q n kind) (larS q w.heap.size (w.heap.size + 1) kind s1 s9 w1) mixedV (by rfl) (by rfl) (larS.start HR1.out HI1.out HZ1.out) ?all ?fin
  case all =>
    refine ⟨?_, ?_, ?_, ?_, ?_, trivial⟩
    · intro x w' L hsz hS hi hd hf hval hcl
      refine ⟨fun _ => ?_, fun hn => by simp [wantedBy] at hn⟩
      have h8 : x.eval (.tmp 8) = .pointer (some ⟨w.heap.size + 1, 0, none⟩) := (hf 8).2 rfl rfl
      refine (Exec.kloadmid (T := fun _ => .is (rc (bigC kind))) (d := 107) rfl rfl h8 (RRow.whole (show RRow w' (w.heap.size + 1) (bigC kind) from hS.r8)) rfl).mono ?_
      rintro u w'' ⟨k1, hx⟩
      exact ⟨fun d hd => by cases hd; exact k1 107 rfl, fun j p d hj hL hd => hval j p hj hL d hd, hS.ext hx (by simp) (by simp)⟩
    · intro x w' L hsz hS hi hd hf hval hcl
      refine ⟨fun _ => ?_, fun hn => by simp [wantedBy] at hn⟩
      have h0 : x.eval (.tmp 0) = .pointer (some ⟨q, 0, none⟩) := (hf 0).2 rfl rfl
      refine (Exec.kmove (T := fun _ => .is (.pointer (some ⟨q, 0, none⟩))) (d := 108) rfl rfl h0).mono ?_
      rintro u w'' ⟨k1, hx⟩
      exact ⟨fun d hd => by cases hd; exact k1 108 rfl, fun j p d hj hL hd => hval j p hj hL d hd, hS.ext hx (by simp) (by simp)⟩
    · intro x w' L hsz hS hi hd hf hval hcl
      refine ⟨fun _ => ?_, fun hn => by simp [wantedBy] at hn⟩
      have h63 : x.eval (.tmp 108) = .pointer (some ⟨q, 0, none⟩) := (hf 108).1 rfl
      refine Exec.call #[QPtr q] (env_eval x) rfl (by simp [h63, QPtr]) Try.func99 (by rfl) rfl ?_
      refine Calls.mono (HLA.out w' (hS.bef hi)) ?_
      rintro e w'' ⟨rfl, k1, k2⟩
      exact ⟨_, rfl, fun d hd => by cases hd; exact rfl, fun j p d hj hL hd => hval j p hj hL d hd,
        ⟨hS.ch.trans (k1.mono fun _ _ h => .inl h), heap_of_only k1 (by have := HQL.out; omega) hS.r8, fun h => absurd h (by simp), fun _ => k2.weak, by simpa using heap_of_only k1 (by have := HQL.out; omega) hS.r6⟩⟩
    · intro x w' L hsz hS hi hd hf hval hcl
      refine ⟨fun _ => ?_, fun hn => by simp [wantedBy] at hn⟩
      have h6 : x.eval (.tmp 6) = .pointer (some ⟨w.heap.size, 0, none⟩) := (hf 6).2 rfl rfl
      have h62 : x.eval (.tmp 107) = rc (bigC kind) := (hf 107).1 rfl
      have d2 : L 2 = true := hd 2 (by decide)
      refine (Exec.kstorerow rfl h6 h62 hS.r6 infoRC (by split <;> rfl) (rcv_one _)).mono ?_
      rintro _ w'' rfl
      exact ⟨(fun d hd => by cases hd), fun j p d hj hL hd => hval j p hj hL d hd,
        ⟨hS.ch.setRow (.inl (.inr rfl)) _, by rw [setRow_other _ _ _ _ (by omega)]; exact hS.r8, fun h => absurd h (by simp [d2]), fun _ => (hS.aft d2).same (setRow_other _ _ _ _ (by have := HQL.out; omega)), by simpa using setRow_heap _ _ _ _ _ _ hS.r6⟩⟩
    · intro x w' L hsz hS hi hd hf hval hcl
      refine ⟨fun _ => ?_, fun hn => by simp [wantedBy] at hn⟩
      have h64 : x.eval (.tmp 109) = .int .i64 (n : Nat) := (hf 109).1 rfl
      refine (Exec.kassign (T := fun _ => .is (.int .i64 (n : Nat))) (d := 7) rfl rfl h64).mono ?_
      rintro u w'' ⟨k1, hx⟩
      exact ⟨fun d hd => by cases hd; exact k1 7 rfl, fun j p d hj hL hd => hval j p hj hL d hd, hS.ext hx (by simp) (by simp)⟩
  case fin =>
    intro ν w8 hV hS
    have h7 : ν 7 = .int .i64 (n : Nat) := hV _ (List.mem_of_getElem? (i := 4) rfl) 7 rfl
    simp only [Exit.then, ended, List.foldl_cons, List.foldl_nil, List.setIfInBounds_toArray, List.set_cons_succ, List.set_cons_zero, h7]
    have HS8 := Lib.hid hS
    have HX8 : Hid (Only q w w8) := Lib.hid (by
      exact Ch.transNew HX1.out (hS.ch.mono fun i _ h => h.elim .inl fun e => .inr (by omega)))
    clear hV hS h7
    go_wp2
    refine bodyPost_ret (results_cell2 rfl _ _ w.heap.size _ (rcv (bigC kind)) _ _ rfl (by simpa using HS8.out.r6) Try.underlying26 rfl infoRC) rfl ?_
    exact HP.out (bigC kind) n _ HX8.out (HS8.out.aft (by simp)) (fun _ => rfl)

set_option maxRecDepth 20000 in
set_option maxHeartbeats 3000000 in
theorem rtake_v2_here (q : Nat) (l : List UInt8) (kind ver : Nat) (w : World) (h : IsQ w q (l, 0)) (hv : ver = 1 ∨ ver = 2) (hk : 1 ≤ kind ∧ kind ≤ 6) (h1 : ver = 2) (ht : texty kind = true) (he : (uintR 66 (l, 0)).2.2 = 0) (hn : 2 ≤ (uintR 66 (l, 0)).1) :
    Calls Try.prog 61 #[QPtr q, .int .u8 (kind : Nat), .int .u8 (ver : Nat)] w (CqPost q (cRaw ver kind (tPre ver kind (l, 0))).1 (cRaw ver kind (tPre ver kind (l, 0))).2 w) := by
  have hp : tPre ver kind (l, 0) = (l, 0) := tPre_ok (l, 0) hv hk.1 hk.2
  have HV : Hid (cRaw ver kind (tPre ver kind (l, 0)) = (((hereR kind ((uintR 66 (l, 0)).1 - 2) (uintR 66 (l, 0)).2).1, 0), (hereR kind ((uintR 66 (l, 0)).1 - 2) (uintR 66 (l, 0)).2).2)) := Lib.hid (by rw [hp, h1, cRaw_2t _ ht]; unfold joinedR; rw [if_neg (by omega), if_neg (by omega)])
  have HP : Hid (∀ (c : Cel) (n : Nat) w', Only q w w' → IsWQ w' q ((((hereR kind ((uintR 66 (l, 0)).1 - 2) (uintR 66 (l, 0)).2).1, 0), (hereR kind ((uintR 66 (l, 0)).1 - 2) (uintR 66 (l, 0)).2).2)).2 → (((((hereR kind ((uintR 66 (l, 0)).1 - 2) (uintR 66 (l, 0)).2).1, 0), (hereR kind ((uintR 66 (l, 0)).1 - 2) (uintR 66 (l, 0)).2).2)).2.2 = 0 → (c, n) = ((((hereR kind ((uintR 66 (l, 0)).1 - 2) (uintR 66 (l, 0)).2).1, 0), (hereR kind ((uintR 66 (l, 0)).1 - 2) (uintR 66 (l, 0)).2).2)).1) → CqPost q (cRaw ver kind (tPre ver kind (l, 0))).1 (cRaw ver kind (tPre ver kind (l, 0))).2 w (.returned (.tuple #[rc c, .int .i64 (n : Nat)])) w') := Lib.hid fun c n w' h1 h2 h3 => by rw [HV.out]; exact ⟨c, n, rfl, h1, h2, h3⟩
  have hql := h.lt
  have HQL := Lib.hid hql
  have hg6 : ((w.alloc (.cells #[.int .u8 0, .int .u8 0, .int .i64 0, .int .u64 0, .int .u64 0, .string ⟨#[]⟩] 26)).alloc (.cells #[.int .u8 0, .int .u8 0, .int .i64 0, .int .u64 0, .int .u64 0, .string ⟨#[]⟩] 26)).heap[w.heap.size]? = _ := heap_alloc2_old w _ _
  have hq : ((w.alloc (.cells #[.int .u8 0, .int .u8 0, .int .i64 0, .int .u64 0, .int .u64 0, .string ⟨#[]⟩] 26)).alloc (.cells #[.int .u8 0, .int .u8 0, .int .i64 0, .int .u64 0, .int .u64 0, .string ⟨#[]⟩] 26)).heap[(w.heap.size + 1)]? = _ := heap_alloc2_new w _ _
  have HQ := Lib.hid hq
  obtain ⟨W3, hW3⟩ : ∃ W3, W3 = ((w.alloc (.cells #[.int .u8 0, .int .u8 0, .int .i64 0, .int .u64 0, .int .u64 0, .string ⟨#[]⟩] 26)).alloc (.cells #[.int .u8 0, .int .u8 0, .int .i64 0, .int .u64 0, .int .u64 0, .string ⟨#[]⟩] 26)).setRow (w.heap.size + 1) #[.int .u8 2, .int .u8 (kind : Nat), .int .i64 0, .int .u64 0, .int .u64 0, .string ⟨#[]⟩] := ⟨_, rfl⟩
  have hx3 : Ext w W3 := by rw [hW3]; exact (((Ch.refl _ _).alloc _).alloc _).setRow (.inr (by omega)) _
  have HZ3 : Hid (W3.heap[w.heap.size]? = some (.cells #[.int .u8 0, .int .u8 0, .int .i64 0, .int .u64 0, .int .u64 0, .string ⟨#[]⟩] 26 (0, 0))) := Lib.hid (by rw [hW3, setRow_other _ _ _ _ (by omega)]; exact hg6)
  have HR3 : Hid (W3.heap[(w.heap.size + 1)]? = some (.cells #[.int .u8 2, .int .u8 (kind : Nat), .int .i64 0, .int .u64 0, .int .u64 0, .string ⟨#[]⟩] 26 (0, 0))) := Lib.hid (by rw [hW3]; exact setRow_heap _ _ _ _ _ _ hq)
  have HX3 : Hid (Only q w W3) := Lib.hid hx3.ch
  have HI3 := Lib.hid (h.ext hx3)
  have HW3 := Lib.hid hW3
  have hb1 := fun w => build54_1 w kind
  have hb2 := fun w => buildRC_2 w kind
  clear hq hx3 hg6 hW3
  have HTX := Lib.hid (fun w => rTexty_any kind w)
  rw [ht] at HTX
  have hle := uintR_le 66 (l, 0)
  have HU := Lib.hid (quint_any q (l, 0) 66 W3 HI3.out (by omega))
  generalize (uintR 66 (l, 0)).1 = m at *
  generalize (uintR 66 (l, 0)).2 = s1 at *
  have HERR := Lib.hid he
  have e0 : (((m : Nat) : Int) == 0) = false := by simp; omega
  have e1 : (((m : Nat) : Int) == 1) = false := by simp; omega
  have hw : IntKind.u64.wrap ((m : Int) - 2) = ((m - 2 : Nat) : Int) := by rw [IntKind.wrap_u64]; omega
  have HTT := Lib.hid (fun w h => qbytes_any q s1 (m - 2) w h (by omega))
  unfold hereR at HP
  simp only at HP
  unfold strV at HTT
  generalize (takeR (m - 2) s1).1 = t at *
  generalize (takeR (m - 2) s1).2 = s5 at *
  have HRI := Lib.hid (fun w => rright_any ⟨kind, 0, 0, 0, t⟩ w)
  generalize vErr ⟨kind, 0, 0, 0, t⟩ = er at *
  obtain ⟨mm, hmm⟩ : ∃ mm, mm = m - 2 := ⟨_, rfl⟩
  rw [← hmm] at hw HTT
  clear hmm
  subst h1
  have hk1 := hk.1
  have hk6 := hk.2
  clear hk
  clear h hql hp he hv ht HV
  unfold QPtr at *
  go_enter Try.func61, Try.ntmps61
  go_wp2_with (first
    | (refine wpList_store_rowTo rfl _ _ _ rfl rfl (w.heap.size + 1) #[.int .u8 2, .int .u8 (kind : Nat), .int .i64 0, .int .u64 0, .int .u64 0, .string ⟨#[]⟩] rfl rfl _ _ HQ.out infoRC rfl (by simp [Value.oneCell']) ?_; rw [← HW3.out])
    | (go_at_call 49; refine (HTX.out _).mono ?_; rintro e w' ⟨rfl, rfl⟩)
    | (go_at_call 76; refine HU.out.mono ?_))
  rintro e w1 ⟨rfl, k1, k2⟩
  have HX1 := Lib.hid (HX3.out.trans k1); have HI1 := Lib.hid k2
  have HZ1 := Lib.hid (heap_of_only k1 (by have := HQL.out; omega) HZ3.out); have HR1 := Lib.hid (heap_of_only k1 (by have := HQL.out; omega) HR3.out)
  clear k1 k2
  obtain ⟨_, _, _, _, _, _, ce, _⟩ := HI1.out.cells
  have eb : (s1.2 != 0) = false := by simpa using HERR.out
  go_wp2_with (first
    | (go_at_call 49; refine (HTX.out _).mono ?_; rintro e w' ⟨rfl, rfl⟩)
    | (go_at_call 101; refine (HTT.out _ HI1.out).mono ?_))
  rintro e w4 ⟨rfl, k1, k2⟩
  have HX4 := Lib.hid (HX1.out.trans k1); have HI4 := Lib.hid k2
  have HZ4 := Lib.hid (heap_of_only k1 (by have := HQL.out; omega) HZ1.out); have HR4 := Lib.hid (heap_of_only k1 (by have := HQL.out; omega) HR1.out)
  clear k1 k2
  have d5 : w4.cell? ⟨w.heap.size + 1, 5, none⟩ = some (.string ⟨#[]⟩) := by rw [cell_of_row _ _ _ _ _ _ HR4.out]; rfl
  have f5 := frozen_of_row w4 (w.heap.size + 1) 5 _ _ HR4.out
  obtain ⟨W5, hW5⟩ : ∃ W5, W5 = w4.setCell ⟨w.heap.size + 1, 5, none⟩ (strV t) := ⟨_, rfl⟩
  have HR5 : Hid (RRow W5 (w.heap.size + 1) ⟨2, ⟨kind, 0, 0, 0, t⟩⟩) := Lib.hid (by unfold RRow; rw [hW5]; exact heap_setCell_same w4 (w.heap.size + 1) 5 _ _ _ HR4.out)
  have HZ5 : Hid (W5.heap[w.heap.size]? = some (.cells #[.int .u8 0, .int .u8 0, .int .i64 0, .int .u64 0, .int .u64 0, .string ⟨#[]⟩] 26 (0, 0))) := Lib.hid (by rw [hW5, heap_setCell_other w4 ⟨w.heap.size + 1, 5, none⟩ w.heap.size _ (by simp)]; exact HZ4.out)
  have HI5 : Hid (IsQ W5 q s5) := Lib.hid (by rw [hW5]; exact HI4.out.setElse d5 (noByte_string _) (by have := HQL.out; show q ≠ w.heap.size + 1; omega) _)
  have HX5 : Hid (Only q w W5) := Lib.hid (by rw [hW5]; exact HX4.out.setCell (.inr (by show w.heap.size ≤ w.heap.size + 1; omega)) _)
  unfold strV at hW5
  have HW5 := Lib.hid hW5
  clear hW5
  go_wp2_with (first
    | ((try rw [← HW5.out]); refine wpList_load_run rfl _ _ rfl rfl HR5.out.value ?_)
    | (go_at_call 50; refine (HRI.out _).mono ?_))
  intro e w6 hm
  obtain ⟨rfl, k1⟩ := hm
  have HX6 := Lib.hid (HX5.out.trans k1.ch); have HI6 := Lib.hid (HI5.out.ext k1); have HZ6 := Lib.hid (heap_of_ext k1 HZ5.out); have HR6 := Lib.hid (HR5.out.ext k1)
  clear k1 d5 f5
  by_cases hev : er = 0
  · have e9 : (((er : Nat) : Int) != 0) = false := by rw [hev]; rfl
    have HEV := Lib.hid hev
    clear hev
    go_wp2_with (first
      | (refine wpList_load_row rfl _ _ rfl (w.heap.size + 1) rfl _ _ _ _ HR6.out Try.underlying26 rfl infoRC ?_)
      | (refine wpList_store_rowTo rfl _ _ _ rfl rfl w.heap.size (rcv ⟨2, ⟨kind, 0, 0, 0, t⟩⟩) rfl rfl _ _ HZ6.out infoRC rfl (by simp [Value.oneCell', rcv, strV]) ?_))
    refine bodyPost_ret (results_cell2 rfl _ _ w.heap.size _ (rcv ⟨2, ⟨kind, 0, 0, 0, t⟩⟩) _ _ rfl (setRow_heap _ _ _ _ _ _ HZ6.out) Try.underlying26 rfl infoRC) rfl ?_
    exact HP.out ⟨2, ⟨kind, 0, 0, 0, t⟩⟩ 0 _ (HX6.out.setRow (.inr (Nat.le_refl _)) _) (((show IsWQ w6 q (failR s5 (er : Nat)) from by rw [HEV.out, show failR s5 ((0 : Nat) : Int) = s5 from failR_zero s5]; exact HI6.out.weak)).same (setRow_other _ _ _ _ (by have := HQL.out; omega))) (fun _ => rfl)
  · have e9 : (((er : Nat) : Int) != 0) = true := by simp; omega
    clear hev
    have HF9 := Lib.hid (giveUp_any q s5 (er : Nat) _ HI6.out)
    unfold QPtr at HF9
    go_wp2_with (go_at_call 98; refine HF9.out.mono ?_)
    rintro e w7 ⟨rfl, k1, k2⟩
    have HX7 := Lib.hid (HX6.out.trans k1); have HI7 := Lib.hid k2
    have HZ7 := Lib.hid (heap_of_only k1 (by have := HQL.out; omega) HZ6.out); have HR7 := Lib.hid (heap_of_only k1 (by have := HQL.out; omega) HR6.out)
    clear k1 k2
    go_wp2_with (first
      | (refine wpList_load_row rfl _ _ rfl (w.heap.size + 1) rfl _ _ _ _ HR7.out Try.underlying26 rfl infoRC ?_)
      | (refine wpList_store_rowTo rfl _ _ _ rfl rfl w.heap.size (rcv ⟨2, ⟨kind, 0, 0, 0, t⟩⟩) rfl rfl _ _ HZ7.out infoRC rfl (by simp [Value.oneCell', rcv, strV]) ?_))
    refine bodyPost_ret (results_cell2 rfl _ _ w.heap.size _ (rcv ⟨2, ⟨kind, 0, 0, 0, t⟩⟩) _ _ rfl (setRow_heap _ _ _ _ _ _ HZ7.out) Try.underlying26 rfl infoRC) rfl ?_
    exact HP.out ⟨2, ⟨kind, 0, 0, 0, t⟩⟩ 0 _ (HX7.out.setRow (.inr (Nat.le_refl _)) _) ((HI7.out.weak).same (setRow_other _ _ _ _ (by have := HQL.out; omega))) (fun _ => rfl)

theorem rtake_any (q : Nat) (l : List UInt8) (kind ver : Nat) (w : World) (h : IsQ w q (l, 0)) :
    Calls Try.prog 61 #[QPtr q, .int .u8 (kind : Nat), .int .u8 (ver : Nat)] w (CqPost q (cRaw ver kind (tPre ver kind (l, 0))).1 (cRaw ver kind (tPre ver kind (l, 0))).2 w) := by
  by_cases hv : ver ≠ 1 ∧ ver ≠ 2
  · exact rtake_bv q l kind ver w h hv
  have hv' : ver = 1 ∨ ver = 2 := by omega
  by_cases hk : kind < 1 ∨ 6 < kind
  · exact rtake_bt q l kind ver w h hv' hk
  have hk' : 1 ≤ kind ∧ kind ≤ 6 := by omega
  by_cases h1 : ver = 1
  · by_cases he : (byteR (l, 0)).2.2 = 0
    · have hb : (byteR (l, 0)).1 = 0 ∨ (byteR (l, 0)).1 = 1 ∨ (byteR (l, 0)).1 = 2 ∨ 2 < (byteR (l, 0)).1 := by omega
      cases ht : texty kind with
      | true =>
        rcases hb with hb | hb | hb | hb
        · exact rtake_v1_0T q l kind ver w h hv' hk' h1 he hb ht
        · exact rtake_v1_1T q l kind ver w h hv' hk' h1 he hb ht
        · exact rtake_v1_2T q l kind ver w h hv' hk' h1 he hb ht
        · exact rtake_v1_xT q l kind ver w h hv' hk' h1 he hb ht
      | false =>
        rcases hb with hb | hb | hb | hb
        · exact rtake_v1_0F q l kind ver w h hv' hk' h1 he hb ht
        · exact rtake_v1_1F q l kind ver w h hv' hk' h1 he hb ht
        · exact rtake_v1_2F q l kind ver w h hv' hk' h1 he hb ht
        · exact rtake_v1_xF q l kind ver w h hv' hk' h1 he hb ht
    · exact rtake_v1e q l kind ver w h hv' hk' h1 he
  have h2 : ver = 2 := by omega
  cases ht : texty kind with
  | false => exact rtake_v2_F q l kind ver w h hv' hk' h2 ht
  | true =>
    by_cases he : (uintR 66 (l, 0)).2.2 = 0
    · by_cases n0 : (uintR 66 (l, 0)).1 = 0
      · exact rtake_v2_same q l kind ver w h hv' hk' h2 ht he n0
      by_cases n1 : (uintR 66 (l, 0)).1 = 1
      · exact rtake_v2_away q l kind ver w h hv' hk' h2 ht he n1
      · exact rtake_v2_here q l kind ver w h hv' hk' h2 ht he (by omega)
    · exact rtake_v2_e q l kind ver w h hv' hk' h2 ht he

def CrPost (q : Nat) (x : Cel × Nat) (s' : RS) (w : World) (e : Ending) (w' : World) : Prop :=
  e = .returned (.tuple #[rc x.1, .int .i64 (x.2 : Nat)]) ∧ Only q w w' ∧ IsWQ w' q s'
theorem IsWQ.err {w : World} {q : Nat} {s : RS} (h : IsWQ w q s) : w.cell? ⟨q, 2, none⟩ = some (.int .i64 s.2) := by
  obtain ⟨_, _, _, _, h1, _⟩ := h
  rw [cell_of_row _ _ _ _ _ _ h1]; rfl
set_option maxRecDepth 20000 in
set_option maxHeartbeats 2000000 in
theorem rTake_e (q : Nat) (l : List UInt8) (kind ver : Nat) (w : World) (h : IsQ w q (l, 0)) (he : (cRaw ver kind (tPre ver kind (l, 0))).2.2 ≠ 0) :
    Calls Try.prog 25 #[QPtr q, .int .u8 (kind : Nat), .int .u8 (ver : Nat)] w (CrPost q (cTake ver kind (l, 0)).1 (cTake ver kind (l, 0)).2 w) := by
  unfold CrPost cTake
  rw [if_pos he]
  have hql := h.lt
  have HQL := Lib.hid hql
  have hx0 : Ext w (w.alloc (.cells #[.int .u8 0, .int .u8 0, .int .i64 0, .int .u64 0, .int .u64 0, .string ⟨#[]⟩] 26)) := (Ch.refl _ _).alloc _
  have HZ0 := Lib.hid (heap_alloc_new w (.cells #[.int .u8 0, .int .u8 0, .int .i64 0, .int .u64 0, .int .u64 0, .string ⟨#[]⟩] 26))
  have HX0 : Hid (Only q w (w.alloc (.cells #[.int .u8 0, .int .u8 0, .int .i64 0, .int .u64 0, .int .u64 0, .string ⟨#[]⟩] 26))) := Lib.hid hx0.ch
  have HI0 := Lib.hid (h.ext hx0)
  have HCT := Lib.hid (rtake_any q l kind ver _ HI0.out)
  generalize cRaw ver kind (tPre ver kind (l, 0)) = R at *
  obtain ⟨⟨C, N⟩, s3⟩ := R
  simp only at HCT he ⊢
  have HE := Lib.hid he
  have eb : (s3.2 != 0) = true := by simpa using he
  have hb0 := fun w => buildRC_0 w
  clear h hx0 hql he
  unfold QPtr at *
  go_enter Try.func25, Try.ntmps25
  go_wp2_with (go_at_call 61; refine HCT.out.mono ?_)
  rintro e w3 ⟨c, n, rfl, k1, k2, k3⟩
  have HX3 := Lib.hid (HX0.out.trans k1); have H3 := Lib.hid k2; have HQ3 := Lib.hid k3
  have HG3 := Lib.hid (heap_of_only k1 (by have := HQL.out; omega) HZ0.out)
  clear k1 k2 k3
  have HK := Lib.hid (heap_alloc_new w3 (.cells #[.int .u8 0, .int .u8 0, .int .i64 0, .int .u64 0, .int .u64 0, .string ⟨#[]⟩] 26))
  obtain ⟨W4, hW4⟩ : ∃ W4, W4 = (w3.alloc (.cells #[.int .u8 0, .int .u8 0, .int .i64 0, .int .u64 0, .int .u64 0, .string ⟨#[]⟩] 26)).setRow w3.heap.size (rcv c) := ⟨_, rfl⟩
  have hx4 : Ext w3 W4 := by rw [hW4]; exact ((Ch.refl _ _).alloc _).setRow (.inr (Nat.le_refl _)) _
  have HK4 : Hid (W4.heap[w3.heap.size]? = some (.cells (rcv c) 26 (0, 0))) := Lib.hid (by rw [hW4]; exact setRow_heap _ _ _ _ _ _ HK.out)
  have HX4 := Lib.hid (HX3.out.trans hx4.ch); have H4 := Lib.hid (H3.out.ext hx4); have HG4 := Lib.hid (heap_of_ext hx4 HG3.out)
  have HW4 := Lib.hid hW4
  have ce := H4.out.err
  clear hW4 hx4
  go_wp2_with (first
    | ((refine wpList_store_rowTo rfl _ _ _ rfl rfl w3.heap.size (rcv c) rfl rfl _ _ HK.out infoRC rfl (rcv_one _) ?_); rw [← HW4.out])
    | (refine wpList_store_rowTo rfl _ _ _ rfl rfl w.heap.size #[.int .u8 0, .int .u8 0, .int .i64 0, .int .u64 0, .int .u64 0, .string ⟨#[]⟩] rfl rfl _ _ HG4.out infoRC rfl (by simp [Value.oneCell']) ?_))
  refine bodyPost_ret (results_cell2 rfl _ _ w.heap.size _ #[.int .u8 0, .int .u8 0, .int .i64 0, .int .u64 0, .int .u64 0, .string ⟨#[]⟩] _ _ rfl (setRow_heap _ _ _ _ _ _ HG4.out) Try.underlying26 rfl infoRC) rfl ?_
  exact ⟨rfl, HX4.out.setRow (.inr (Nat.le_refl _)) _, H4.out.same (setRow_other _ _ _ _ (by have := HQL.out; omega))⟩

set_option maxRecDepth 20000 in
set_option maxHeartbeats 2000000 in
theorem rTake_ok (q : Nat) (l : List UInt8) (kind ver : Nat) (w : World) (h : IsQ w q (l, 0)) (he : ¬ (cRaw ver kind (tPre ver kind (l, 0))).2.2 ≠ 0) :
    Calls Try.prog 25 #[QPtr q, .int .u8 (kind : Nat), .int .u8 (ver : Nat)] w (CrPost q (cTake ver kind (l, 0)).1 (cTake ver kind (l, 0)).2 w) := by
  unfold CrPost cTake
  rw [if_neg he]
  have hql := h.lt
  have HQL := Lib.hid hql
  have hx0 : Ext w (w.alloc (.cells #[.int .u8 0, .int .u8 0, .int .i64 0, .int .u64 0, .int .u64 0, .string ⟨#[]⟩] 26)) := (Ch.refl _ _).alloc _
  have HZ0 := Lib.hid (heap_alloc_new w (.cells #[.int .u8 0, .int .u8 0, .int .i64 0, .int .u64 0, .int .u64 0, .string ⟨#[]⟩] 26))
  have HX0 : Hid (Only q w (w.alloc (.cells #[.int .u8 0, .int .u8 0, .int .i64 0, .int .u64 0, .int .u64 0, .string ⟨#[]⟩] 26))) := Lib.hid hx0.ch
  have HI0 := Lib.hid (h.ext hx0)
  have HCT := Lib.hid (rtake_any q l kind ver _ HI0.out)
  generalize cRaw ver kind (tPre ver kind (l, 0)) = R at *
  obtain ⟨⟨C, N⟩, s3⟩ := R
  simp only at HCT he ⊢
  have HE := Lib.hid he
  have eb : (s3.2 != 0) = false := by simpa using he
  clear h hx0 hql he
  unfold QPtr at *
  go_enter Try.func25, Try.ntmps25
  go_wp2_with (go_at_call 61; refine HCT.out.mono ?_)
  rintro e w3 ⟨c, n, rfl, k1, k2, k3⟩
  have HX3 := Lib.hid (HX0.out.trans k1); have H3 := Lib.hid k2; have HQ3 := Lib.hid k3
  have HG3 := Lib.hid (heap_of_only k1 (by have := HQL.out; omega) HZ0.out)
  clear k1 k2 k3
  have HK := Lib.hid (heap_alloc_new w3 (.cells #[.int .u8 0, .int .u8 0, .int .i64 0, .int .u64 0, .int .u64 0, .string ⟨#[]⟩] 26))
  obtain ⟨W4, hW4⟩ : ∃ W4, W4 = (w3.alloc (.cells #[.int .u8 0, .int .u8 0, .int .i64 0, .int .u64 0, .int .u64 0, .string ⟨#[]⟩] 26)).setRow w3.heap.size (rcv c) := ⟨_, rfl⟩
  have hx4 : Ext w3 W4 := by rw [hW4]; exact ((Ch.refl _ _).alloc _).setRow (.inr (Nat.le_refl _)) _
  have HK4 : Hid (W4.heap[w3.heap.size]? = some (.cells (rcv c) 26 (0, 0))) := Lib.hid (by rw [hW4]; exact setRow_heap _ _ _ _ _ _ HK.out)
  have HX4 := Lib.hid (HX3.out.trans hx4.ch); have H4 := Lib.hid (H3.out.ext hx4); have HG4 := Lib.hid (heap_of_ext hx4 HG3.out)
  have HW4 := Lib.hid hW4
  have ce := H4.out.err
  clear hW4 hx4
  have hcn := HQ3.out (by have := HE.out; simpa using this)
  simp only [Prod.mk.injEq] at hcn
  obtain ⟨rfl, rfl⟩ := hcn
  go_wp2_with (first
    | ((refine wpList_store_rowTo rfl _ _ _ rfl rfl w3.heap.size (rcv c) rfl rfl _ _ HK.out infoRC rfl (rcv_one _) ?_); rw [← HW4.out])
    | (refine wpList_load_row rfl _ _ rfl w3.heap.size rfl _ _ _ _ HK4.out Try.underlying26 rfl infoRC ?_)
    | (refine wpList_store_rowTo rfl _ _ _ rfl rfl w.heap.size (rcv c) rfl rfl _ _ HG4.out infoRC rfl (rcv_one _) ?_))
  refine bodyPost_ret (results_cell2 rfl _ _ w.heap.size _ (rcv c) _ _ rfl (setRow_heap _ _ _ _ _ _ HG4.out) Try.underlying26 rfl infoRC) rfl ?_
  exact ⟨rfl, HX4.out.setRow (.inr (Nat.le_refl _)) _, H4.out.same (setRow_other _ _ _ _ (by have := HQL.out; omega))⟩

theorem rTake_any (q : Nat) (l : List UInt8) (kind ver : Nat) (w : World) (h : IsQ w q (l, 0)) :
    Calls Try.prog 25 #[QPtr q, .int .u8 (kind : Nat), .int .u8 (ver : Nat)] w (CrPost q (cTake ver kind (l, 0)).1 (cTake ver kind (l, 0)).2 w) := by
  by_cases he : (cRaw ver kind (tPre ver kind (l, 0))).2.2 ≠ 0
  · exact rTake_e q l kind ver w h he
  · exact rTake_ok q l kind ver w h he
end Go.Proofs.Yteechmgcjfnjbaa
namespace Go.Proofs.Yteechmgcjfnjbaa
open Go.RowKit Go.Lac

theorem fieldQR_2 (w : World) (b : Nat) : (Instr.fieldAt 55 (.pointer (some ⟨b, 0, none⟩)) 2).run Try.prog w = .ok (.pointer (some ⟨b, 2, none⟩)) w := by kernel_rfl
def takesCT (C : Cel) (N : Nat) (sy : RS) (r q : Nat) : Tmp → Kn
  | 4 => .is (.bool true)
  | 41 => .is (pc C)
  | 42 => .is (rc C)
  | 43 => .is (rc C)
  | 44 => .is (.bool true)
  | 45 => .is (.bool true)
  | 46 => .is (.int .i64 (N : Nat))
  | 47 => .is (.int .i64 (N : Nat))
  | 48 => .is (.bool true)
  | 49 => .is (.bool true)
  | 50 => .is (.bool true)
  | 51 => .is (.pointer (some ⟨r, 0, none⟩))
  | 52 => .is (.int .i64 sy.2)
  | 53 => .is (.pointer (some ⟨q, 0, none⟩))
  | 54 => .is (.pointer (some ⟨q, 0, none⟩))
  | 55 => .is (.pointer (some ⟨q, 2, none⟩))
  | 56 => .is (.int .i64 sy.2)
  | 57 => .is (.bool true)
  | 58 => .is (.bool true)
  | 59 => .is (.bool true)
  | 60 => .is (.pointer (some ⟨r, 0, none⟩))
  | 61 => .is (.int .i64 (sy.1.length : Nat))
  | 62 => .is (.pointer (some ⟨q, 0, none⟩))
  | 63 => .is (.int .i64 (sy.1.length : Nat))
  | 64 => .is (.bool true)
  | 65 => .is (.bool true)
  | 66 => .is (.bool true)
  | 67 => .is (.bool true)
  | 68 => .is (.bool true)
  | _ => .any

set_option maxRecDepth 20000 in
set_option maxHeartbeats 6000000 in
theorem cellTakes_walk (vb : Value) (b : List UInt8) (kind ver : Nat) (w0 : World) (hb : Rd w0 vb b) :
    Calls Try.prog 5 #[vb, .agg #[.int .u8 (kind : Nat), .int .u8 (ver : Nat)]] w0 fun e w' => e = .returned (.bool true) ∧ Ext w0 w' := by
  obtain ⟨iu, hiu, hzu, hsu, hbu⟩ := info_parts infoU8
  obtain ⟨ao, cap, rfl⟩ := hb.shape
  have hbl : b.length ≤ maxLen := by obtain ⟨_, _, _, g1, g2, _⟩ := hb; omega
  unfold maxLen at hbl
  have hg3 := heap_alloc_new w0 (.cells #[.int .u8 (kind : Nat), .int .u8 (ver : Nat)] 44)
  obtain ⟨w, hw⟩ : ∃ w, w = w0.alloc (.cells #[.int .u8 (kind : Nat), .int .u8 (ver : Nat)] 44) := ⟨_, rfl⟩
  have hxw : Ext w0 w := by rw [hw]; exact (Ch.refl _ _).alloc _
  rw [← hw] at hg3
  have HXW := Lib.hid hxw; have HG3 := Lib.hid hg3; have HWW := Lib.hid hw
  have HB := Lib.hid (hb.ext hxw)
  clear hb hxw hg3 hw
  by_cases h3 : 3000 < b.length
  · generalize b.length = bl at *
    go_enter Try.func5, Try.ntmps5
    go_wp2
    rw [← HWW.out]
    go_ret
    exact ⟨rfl, HXW.out⟩
  have HRD := Lib.hid (read_any _ b w HB.out (by omega))
  have h3' : b.length ≤ 3000 := by omega
  have hempty := fun w => emptyU8 w
  clear h3 hbl
  go_enter Try.func5, Try.ntmps5
  go_wp2_with fail
  rw [← HWW.out]
  refine HRD.out.mono ?_
  rintro e w1 ⟨r, rfl, x1, r1, hr1⟩
  have HB1 := Lib.hid (Rd.ext HB.out x1); have X1 := Lib.hid x1; have R1 := Lib.hid r1; have HR1 := Lib.hid hr1; clear x1 r1 hr1
  unfold RPtr
  go_wp2_with (at_builtin; refine wpList_append_sl (P := Try.prog) _ rfl _ _ 45 rfl (w1.heap.size) 5 iu (.int .u8 0) 1 1 Try.underlying45 hiu hzu hsu hbu rfl (by decide) _ 0 [] rfl ?c0 _ b.length (cellsB b) rfl ?c1 ?c2 ?c3 ?c4 ?c5 ?c6 ?_)
  case c0 => exact owns_empty w1 _
  case c1 => exact Sl.ext HB1.out ((Ch.refl _ _).alloc _)
  case c2 => simp [cellsB]
  case c3 => exact cellsB_one b
  case c4 => omega
  case c5 => unfold maxLen; omega
  case c6 => simp
  intro v2 w2 hown hgrow
  have hx2 := ((Ch.refl (fun _ => False) w1).alloc (.cells #[] 5)).grown hgrow fun k hk => .inr ((owns_empty w1 5).lt k hk).1
  have X2 := Lib.hid (X1.out.trans hx2); have R2 := Lib.hid (R1.out.ext hx2)
  have hq : IsQ (w2.alloc (.cells #[v2, .int .i64 0, .int .i64 0] 55)) w2.heap.size (b, 0) :=
    ⟨v2, b, 0, heap_alloc_new w2 _, ⟨(Rd.ofOwns hown).ext ((Ch.refl _ _).alloc _), strict_owns hown⟩, Nat.zero_le _, rfl⟩
  obtain ⟨W3, hW3⟩ : ∃ W3, W3 = w2.alloc (.cells #[v2, .int .i64 0, .int .i64 0] 55) := ⟨_, rfl⟩
  rw [← hW3] at hq
  have hx3 : Ext w W3 := by rw [hW3]; exact X2.out.alloc _
  have hr3 : IsR W3 r (b, 0) := by rw [hW3]; exact R2.out.ext ((Ch.refl _ _).alloc _)
  have hne : r < w2.heap.size := R2.out.lt
  have hge : w.heap.size ≤ w2.heap.size := X2.out.size
  have hp3 := heap_of_ext hx3 HG3.out
  have hgw : w0.heap.size < w.heap.size := (Array.getElem?_eq_some_iff.1 HG3.out).1
  obtain ⟨ao2, cp2, rfl⟩ := owns_shape hown
  have HQ3 := Lib.hid hq; have HX3 := Lib.hid hx3; have HR3 := Lib.hid hr3; have HNE := Lib.hid hne; have HGE := Lib.hid hge; have HP3 := Lib.hid hp3; have HGW := Lib.hid hgw
  have HW3 := Lib.hid hW3
  have p0 : W3.cell? ⟨w0.heap.size, 0, none⟩ = some (.int .u8 (kind : Nat)) := by rw [cell_of_row _ _ _ _ _ _ hp3]; rfl
  have p1 : W3.cell? ⟨w0.heap.size, 1, none⟩ = some (.int .u8 (ver : Nat)) := by rw [cell_of_row _ _ _ _ _ _ hp3]; rfl
  rw [hW3] at p0 p1
  clear hown hgrow hx2 hq hx3 hr3 hne hge hp3 hgw X2 R2 R1 HB1 X1 HRD hiu hzu hsu hbu hempty hW3
  have HTR := Lib.hid (fun w h => cTake_any r (b, 0) kind ver w h)
  have HTQ := Lib.hid (fun w h => rTake_any w2.heap.size b kind ver w h)
  unfold CtPost at HTR
  unfold CrPost at HTQ
  generalize (cTake ver kind (b, 0)).1.1 = C at *
  generalize (cTake ver kind (b, 0)).1.2 = N at *
  generalize (cTake ver kind (b, 0)).2 = sy at *
  unfold RPtr at *
  unfold QPtr at *
  go_wp2_with fail
  rw [← HW3.out]
  refine (HTR.out _ HR3.out).mono ?_
  intro e w4 hm
  obtain ⟨rfl, hx, hi⟩ := hm
  have HX4 : Hid (Ext w w4) := Lib.hid (HX3.out.transOnly hx HR1.out)
  have HI4 := Lib.hid hi
  have HQ4 := Lib.hid (HQ3.out.otherR HR3.out (by have := HNE.out; omega) hx)
  have HP4 := Lib.hid (heap_of_only hx (by have h1 := HR1.out; have h2 := HGW.out; omega) HP3.out)
  clear hx hi p0 p1
  have hk0 := heap_alloc_new w4 (.cells #[.int .u8 0, .int .u8 0, .int .i64 0, .complex .f64 0 0, .string ⟨#[]⟩] 31)
  obtain ⟨W5, hW5⟩ : ∃ W5, W5 = (w4.alloc (.cells #[.int .u8 0, .int .u8 0, .int .i64 0, .complex .f64 0 0, .string ⟨#[]⟩] 31)).setRow w4.heap.size (pcv C) := ⟨_, rfl⟩
  have hx5 : Ext w4 W5 := by rw [hW5]; exact ((Ch.refl _ _).alloc _).setRow (.inr (Nat.le_refl _)) _
  have HD5 : Hid (PRow W5 w4.heap.size C) := Lib.hid (by rw [hW5]; exact setRow_heap _ _ _ _ _ _ hk0)
  have HX5 := Lib.hid (HX4.out.trans hx5); have HI5 := Lib.hid (HI4.out.ext hx5); have HQ5 := Lib.hid (HQ4.out.ext hx5); have HP5 := Lib.hid (heap_of_ext hx5 HP4.out)
  have HK0 := Lib.hid hk0; have HW5 := Lib.hid hW5
  have p0 : W5.cell? ⟨w0.heap.size, 0, none⟩ = some (.int .u8 (kind : Nat)) := by rw [cell_of_row _ _ _ _ _ _ HP5.out]; rfl
  have p1 : W5.cell? ⟨w0.heap.size, 1, none⟩ = some (.int .u8 (ver : Nat)) := by rw [cell_of_row _ _ _ _ _ _ HP5.out]; rfl
  have HG4 : Hid (w2.heap.size < w4.heap.size) := Lib.hid HQ4.out.lt
  clear hk0 hW5 hx5
  go_wp2_with (first
    | (refine wpList_store_rowTo rfl _ _ _ rfl rfl w4.heap.size (pcv C) rfl rfl _ _ HK0.out infoPC rfl (pcv_one _) ?_; rw [← HW5.out])
    | (go_at_call 25; refine (HTQ.out _ HQ5.out).mono ?_))
  intro e w6 hm
  obtain ⟨rfl, hx, hj⟩ := hm
  have HX6 : Hid (Ext w w6) := Lib.hid (HX5.out.transOnly hx HGE.out)
  have HI6 : Hid (IsW w6 r sy) := Lib.hid (HI5.out.weak.same (hx.block r HI5.out.lt (by have := HNE.out; omega)))
  have HD6 : Hid (PRow w6 w4.heap.size C) := Lib.hid (heap_of_only hx (by have := HG4.out; omega) HD5.out)
  have HJ6 := Lib.hid hj
  clear hx hj p0 p1
  have hk1 := heap_alloc_new w6 (.cells #[.int .u8 0, .int .u8 0, .int .i64 0, .int .u64 0, .int .u64 0, .string ⟨#[]⟩] 26)
  obtain ⟨W7, hW7⟩ : ∃ W7, W7 = (w6.alloc (.cells #[.int .u8 0, .int .u8 0, .int .i64 0, .int .u64 0, .int .u64 0, .string ⟨#[]⟩] 26)).setRow w6.heap.size (rcv C) := ⟨_, rfl⟩
  have hx7 : Ext w6 W7 := by rw [hW7]; exact ((Ch.refl _ _).alloc _).setRow (.inr (Nat.le_refl _)) _
  have HE : Hid (RRow W7 w6.heap.size C) := Lib.hid (by rw [hW7]; exact setRow_heap _ _ _ _ _ _ hk1)
  have HX7 := Lib.hid (HX6.out.trans hx7); have HI := Lib.hid (HI6.out.ext hx7); have HJ := Lib.hid (HJ6.out.ext hx7); have HD : Hid (PRow W7 w4.heap.size C) := Lib.hid (HD6.out.ext hx7)
  have HC2 : Hid (W7.cell? ⟨w2.heap.size, 2, none⟩ = some (.int .i64 sy.2)) := Lib.hid HJ.out.err
  have HK1 := Lib.hid hk1; have HW7 := Lib.hid hW7
  clear hk1 hW7 hx7
  go_wp2_with (refine wpList_store_rowTo rfl _ _ _ rfl rfl w6.heap.size (rcv C) rfl rfl _ _ HK1.out infoRC rfl (rcv_one _) ?_; rw [← HW7.out])
  generalize w6.heap.size = g9 at *
  generalize w4.heap.size = g7 at *
  generalize w2.heap.size = q at *
  refine wp_region_ext (takesCT C N sy r q) mixedV (by rfl) (by rfl) ?all ?fin
  case all =>
    refine ⟨?_, ?_, ?_, ?_, ?_, ?_, ?_, ?_, ?_, ?_, ?_, ?_, ?_, ?_, ?_, ?_, ?_, ?_, ?_, ?_, ?_, ?_, ?_, ?_, ?_, ?_, ?_, ?_, ?_, trivial⟩
    · -- 0: slot 41 := Op.load 31 t7
      refine StepOK.plain (kn_stable _) rfl fun ρ w hρ hw hf => ?_
      have h7 : ρ (.tmp 7) = (.pointer (some ⟨g7, 0, none⟩)) := (hf 7).2 rfl rfl
      exact Exec.kloadmid rfl rfl h7 (HD.out.ext hw).whole rfl
    · -- 1: slot 42 := Op.call { value (Operand.func 18), args := #[t41], argTypes := #[31] }
      refine StepOK.plain (kn_stable _) rfl fun ρ w hρ hw hf => ?_
      have h41 : ρ (.tmp 41) = (pc C) := (hf 41).1 rfl
      refine Exec.kcall #[pc C] hρ rfl rfl (by simp [hρ.const, h41]) Try.func18 (by rfl) rfl ?_
      refine (back7_any C w).mono ?_
      rintro e w' ⟨rfl, hx⟩
      exact ⟨_, rfl, rfl, hx⟩
    · -- 2: slot 43 := Op.load 26 t9
      refine StepOK.plain (kn_stable _) rfl fun ρ w hρ hw hf => ?_
      have h9 : ρ (.tmp 9) = (.pointer (some ⟨g9, 0, none⟩)) := (hf 9).2 rfl rfl
      exact Exec.kloadmid rfl rfl h9 (HE.out.ext hw).whole rfl
    · -- 3: slot 44 := Op.binOp BinOp.eql 26 t42 t43 26
      refine StepOK.plain (kn_stable _) rfl fun ρ w hρ hw hf => ?_
      have h42 : ρ (.tmp 42) = (rc C) := (hf 42).1 rfl
      have h43 : ρ (.tmp 43) = (rc C) := (hf 43).1 rfl
      exact Exec.krceq rfl rfl h42 h43 (by rw [decide_eq_true rfl]; exact rfl)
    · -- 4: slot 45 := Op.move t44
      refine StepOK.plain (kn_stable _) rfl fun ρ w hρ hw hf => ?_
      have h44 : ρ (.tmp 44) = (.bool true) := (hf 44).1 rfl
      exact Exec.kmove rfl rfl h44
    · -- 5: slot 46 := Op.move t8
      refine StepOK.guarded (kn_stable _) 4 true 45 rfl rfl (fun ρ w _ _ hf => (hf 45).1 rfl) fun ρ w hρ hw hf => ?_
      have h8 : ρ (.tmp 8) = (.int .i64 (N : Nat)) := (hf 8).2 rfl rfl
      exact Exec.kmove rfl rfl h8
    · -- 6: slot 47 := Op.move t10
      refine StepOK.guarded (kn_stable _) 4 true 45 rfl rfl (fun ρ w _ _ hf => (hf 45).1 rfl) fun ρ w hρ hw hf => ?_
      have h10 : ρ (.tmp 10) = (.int .i64 (N : Nat)) := (hf 10).2 rfl rfl
      exact Exec.kmove rfl rfl h10
    · -- 7: slot 48 := Op.binOp BinOp.eql 3 t46 t47 3
      refine StepOK.guarded (kn_stable _) 4 true 45 rfl rfl (fun ρ w _ _ hf => (hf 45).1 rfl) fun ρ w hρ hw hf => ?_
      have h46 : ρ (.tmp 46) = (.int .i64 (N : Nat)) := (hf 46).1 rfl
      have h47 : ρ (.tmp 47) = (.int .i64 (N : Nat)) := (hf 47).1 rfl
      exact Exec.same (v := .bool true) rfl (by simp [go_sem, hρ.const, h46, h47]) rfl
    · -- 8: slot 49 := Op.pick t45 t48 (const (Value.bool false))
      refine StepOK.plain (kn_stable _) rfl fun ρ w hρ hw hf => ?_
      have h45 : ρ (.tmp 45) = (.bool true) := (hf 45).1 rfl
      have h48 : ρ (.tmp 48) = (.bool true) := (hf 48).1 rfl
      exact Exec.kpickT rfl rfl h45 h48
    · -- 9: slot 50 := Op.move t49
      refine StepOK.plain (kn_stable _) rfl fun ρ w hρ hw hf => ?_
      have h49 : ρ (.tmp 49) = (.bool true) := (hf 49).1 rfl
      exact Exec.kmove rfl rfl h49
    · -- 10: slot 51 := Op.move t5
      refine StepOK.guarded (kn_stable _) 9 true 50 rfl rfl (fun ρ w _ _ hf => (hf 50).1 rfl) fun ρ w hρ hw hf => ?_
      have h5 : ρ (.tmp 5) = (.pointer (some ⟨r, 0, none⟩)) := (hf 5).2 rfl rfl
      exact Exec.kmove rfl rfl h5
    · -- 11: slot 52 := Op.call { value (Operand.func 26), args := #[t51], argTypes := #[51] }
      refine StepOK.guarded (kn_stable _) 9 true 50 rfl rfl (fun ρ w _ _ hf => (hf 50).1 rfl) fun ρ w hρ hw hf => ?_
      have h51 : ρ (.tmp 51) = (.pointer (some ⟨r, 0, none⟩)) := (hf 51).1 rfl
      refine Exec.kcall #[.pointer (some ⟨r, 0, none⟩)] hρ rfl rfl (by simp [hρ.const, h51]) Try.func26 (by rfl) rfl ?_
      refine (err_w r sy w (HI.out.ext hw)).mono ?_
      rintro e w' ⟨rfl, rfl⟩
      exact ⟨_, rfl, rfl, Ch.refl _ _⟩
    · -- 12: slot 53 := Op.move t6
      refine StepOK.guarded (kn_stable _) 9 true 50 rfl rfl (fun ρ w _ _ hf => (hf 50).1 rfl) fun ρ w hρ hw hf => ?_
      have h6 : ρ (.tmp 6) = (.pointer (some ⟨q, 0, none⟩)) := (hf 6).2 rfl rfl
      exact Exec.kmove rfl rfl h6
    · -- 13: slot 54 := Op.nilCheck t53
      refine StepOK.guarded (kn_stable _) 9 true 50 rfl rfl (fun ρ w _ _ hf => (hf 50).1 rfl) fun ρ w hρ hw hf => ?_
      have h53 : ρ (.tmp 53) = (.pointer (some ⟨q, 0, none⟩)) := (hf 53).1 rfl
      exact Exec.same (v := .pointer (some ⟨q, 0, none⟩)) rfl (by simp [go_sem, hρ.const, h53]) rfl
    · -- 14: slot 55 := Op.fieldAddr 55 t54 2
      refine StepOK.guarded (kn_stable _) 9 true 50 rfl rfl (fun ρ w _ _ hf => (hf 50).1 rfl) fun ρ w hρ hw hf => ?_
      have h54 : ρ (.tmp 54) = (.pointer (some ⟨q, 0, none⟩)) := (hf 54).1 rfl
      exact Exec.kfield rfl rfl h54 (fieldQR_2 w q) rfl
    · -- 15: slot 56 := Op.load 3 t55
      refine StepOK.guarded (kn_stable _) 9 true 50 rfl rfl (fun ρ w _ _ hf => (hf 50).1 rfl) fun ρ w hρ hw hf => ?_
      have h55 : ρ (.tmp 55) = (.pointer (some ⟨q, 2, none⟩)) := (hf 55).1 rfl
      have hc := hw.cell (p := ⟨q, 2, none⟩) (fun f => f) _ HC2.out
      exact Exec.same (v := .int .i64 sy.2) rfl (by simp [go_sem, hρ.const, h55, hc]) rfl
    · -- 16: slot 57 := Op.binOp BinOp.eql 3 t52 t56 3
      refine StepOK.guarded (kn_stable _) 9 true 50 rfl rfl (fun ρ w _ _ hf => (hf 50).1 rfl) fun ρ w hρ hw hf => ?_
      have h52 : ρ (.tmp 52) = (.int .i64 sy.2) := (hf 52).1 rfl
      have h56 : ρ (.tmp 56) = (.int .i64 sy.2) := (hf 56).1 rfl
      exact Exec.same (v := .bool true) rfl (by simp [go_sem, hρ.const, h52, h56]) rfl
    · -- 17: slot 58 := Op.pick t50 t57 (const (Value.bool false))
      refine StepOK.plain (kn_stable _) rfl fun ρ w hρ hw hf => ?_
      have h50 : ρ (.tmp 50) = (.bool true) := (hf 50).1 rfl
      have h57 : ρ (.tmp 57) = (.bool true) := (hf 57).1 rfl
      exact Exec.kpickT rfl rfl h50 h57
    · -- 18: slot 59 := Op.move t58
      refine StepOK.plain (kn_stable _) rfl fun ρ w hρ hw hf => ?_
      have h58 : ρ (.tmp 58) = (.bool true) := (hf 58).1 rfl
      exact Exec.kmove rfl rfl h58
    · -- 19: slot 60 := Op.move t5
      refine StepOK.guarded (kn_stable _) 18 true 59 rfl rfl (fun ρ w _ _ hf => (hf 59).1 rfl) fun ρ w hρ hw hf => ?_
      have h5 : ρ (.tmp 5) = (.pointer (some ⟨r, 0, none⟩)) := (hf 5).2 rfl rfl
      exact Exec.kmove rfl rfl h5
    · -- 20: slot 61 := Op.call { value (Operand.func 27), args := #[t60], argTypes := #[51] }
      refine StepOK.guarded (kn_stable _) 18 true 59 rfl rfl (fun ρ w _ _ hf => (hf 59).1 rfl) fun ρ w hρ hw hf => ?_
      have h60 : ρ (.tmp 60) = (.pointer (some ⟨r, 0, none⟩)) := (hf 60).1 rfl
      refine Exec.kcall #[.pointer (some ⟨r, 0, none⟩)] hρ rfl rfl (by simp [hρ.const, h60]) Try.func27 (by rfl) rfl ?_
      refine (left_w r sy w (HI.out.ext hw)).mono ?_
      rintro e w' ⟨rfl, rfl⟩
      exact ⟨_, rfl, rfl, Ch.refl _ _⟩
    · -- 21: slot 62 := Op.move t6
      refine StepOK.guarded (kn_stable _) 18 true 59 rfl rfl (fun ρ w _ _ hf => (hf 59).1 rfl) fun ρ w hρ hw hf => ?_
      have h6 : ρ (.tmp 6) = (.pointer (some ⟨q, 0, none⟩)) := (hf 6).2 rfl rfl
      exact Exec.kmove rfl rfl h6
    · -- 22: slot 63 := Op.call { value (Operand.func 28), args := #[t62], argTypes := #[53] }
      refine StepOK.guarded (kn_stable _) 18 true 59 rfl rfl (fun ρ w _ _ hf => (hf 59).1 rfl) fun ρ w hρ hw hf => ?_
      have h62 : ρ (.tmp 62) = (.pointer (some ⟨q, 0, none⟩)) := (hf 62).1 rfl
      refine Exec.kcall #[.pointer (some ⟨q, 0, none⟩)] hρ rfl rfl (by simp [hρ.const, h62]) Try.func28 (by rfl) rfl ?_
      refine (qleft_w q sy w (HJ.out.ext hw)).mono ?_
      rintro e w' ⟨rfl, n, rfl⟩
      exact ⟨_, rfl, rfl, Ext.drewN _ _⟩
    · -- 23: slot 64 := Op.binOp BinOp.eql 3 t61 t63 3
      refine StepOK.guarded (kn_stable _) 18 true 59 rfl rfl (fun ρ w _ _ hf => (hf 59).1 rfl) fun ρ w hρ hw hf => ?_
      have h61 : ρ (.tmp 61) = (.int .i64 (sy.1.length : Nat)) := (hf 61).1 rfl
      have h63 : ρ (.tmp 63) = (.int .i64 (sy.1.length : Nat)) := (hf 63).1 rfl
      exact Exec.same (v := .bool true) rfl (by simp [go_sem, hρ.const, h61, h63]) rfl
    · -- 24: slot 65 := Op.pick t59 t64 (const (Value.bool false))
      refine StepOK.plain (kn_stable _) rfl fun ρ w hρ hw hf => ?_
      have h59 : ρ (.tmp 59) = (.bool true) := (hf 59).1 rfl
      have h64 : ρ (.tmp 64) = (.bool true) := (hf 64).1 rfl
      exact Exec.kpickT rfl rfl h59 h64
    · -- 25: slot 66 := Op.move t65
      refine StepOK.plain (kn_stable _) rfl fun ρ w hρ hw hf => ?_
      have h65 : ρ (.tmp 65) = (.bool true) := (hf 65).1 rfl
      exact Exec.kmove rfl rfl h65
    · -- 26: slot 67 := Op.call { value (Operand.func 20), args := #[], argTypes := #[] }
      refine StepOK.guarded (kn_stable _) 25 true 66 rfl rfl (fun ρ w _ _ hf => (hf 66).1 rfl) fun ρ w hρ hw hf => ?_
      refine Exec.kcall #[] hρ rfl rfl (by simp) Try.func20 (by rfl) rfl ?_
      refine (awake7_any w).mono ?_
      rintro e w' ⟨rfl, hx⟩
      exact ⟨_, rfl, rfl, hx⟩
    · -- 27: slot 68 := Op.pick t66 t67 (const (Value.bool false))
      refine StepOK.plain (kn_stable _) rfl fun ρ w hρ hw hf => ?_
      have h66 : ρ (.tmp 66) = (.bool true) := (hf 66).1 rfl
      have h67 : ρ (.tmp 67) = (.bool true) := (hf 67).1 rfl
      exact Exec.kpickT rfl rfl h66 h67
    · -- 28: slot 4 := Op.assign t68
      refine StepOK.plain (kn_stable _) rfl fun ρ w hρ hw hf => ?_
      have h68 : ρ (.tmp 68) = (.bool true) := (hf 68).1 rfl
      exact Exec.kassign rfl rfl h68
  case fin =>
    intro ν w9 hfin hext
    have h0 : ν 4 = .bool true := hfin 28 4 rfl
    simp only [Exit.then, ended, List.foldl_cons, List.foldl_nil, List.setIfInBounds_toArray, List.set_cons_succ, List.set_cons_zero, h0]
    have HX9 := Lib.hid (HXW.out.trans (HX7.out.trans hext))
    clear hext hfin h0
    go_wp2
    go_ret
    exact ⟨rfl, HX9.out⟩
end Go.Proofs.Yteechmgcjfnjbaa
