import Derived.Test.YtegclfpmgilnpaaGreatCelQ
import Derived.Test.YtegclfpmgilnpaaGreatTakF
import Derived.Test.YtegclfpmgilnpaaGreatGRef
import Derived.Test.YtegclfpmgilnpaaGreatGLib
import Derived.Deep.MidRow
namespace Go.Proofs.YtegclfpmgilnpaaGreat
open Go.RowKit Go.Lac
section
variable {e : Int} (he : e ≠ 0)
include he
theorem awayR_gone : (awayR ([], e)).2 = ([], e) := by
  unfold awayR
  rw [uintR_gone' he]
  simp only
  split
  · exact failR_gone he _
  · rfl
theorem hereR_gone (kind n : Nat) : (hereR kind n ([], e)).2 = ([], e) := by
  unfold hereR
  rw [takeR_gone' he]
  exact failR_gone he _
theorem partedR_first {kind : Nat} {s : RS} (h : (byteR s).2 = ([], e)) : (partedR kind s).2 = ([], e) := by
  have hh : headR kind s = ([], e) := by
    unfold headR
    rw [h]
    split
    · exact failR_gone he _
    · rfl
  unfold partedR
  rw [hh]
  split
  · rfl
  split
  · exact awayR_gone he
  split
  · rw [uintR_gone' he]; exact hereR_gone he _ _
  · simp only; rw [vTake_gone he]
theorem joinedR_first {kind : Nat} {s : RS} (h : (uintR 66 s).2 = ([], e)) : (joinedR kind s).2 = ([], e) := by
  unfold joinedR
  rw [h]
  split
  · rfl
  split
  · exact awayR_gone he
  · exact hereR_gone he _ _
theorem cRaw_gone (ver kind : Nat) : (cRaw ver kind ([], e)).2 = ([], e) := by
  unfold cRaw
  split
  · exact partedR_first he (by rw [byteR_gone' he])
  split
  · exact joinedR_first he (by rw [uintR_gone' he])
  · simp only; rw [vTake_gone he]
end
theorem IsQ.proper {w : World} {q : Nat} {s : RS} (h : IsQ w q s) : s.2 ≠ 0 → s.1 = [] := fun hn => by
  obtain ⟨_, _, _, _, _, _, h4⟩ := h
  rw [h4, if_neg hn]
def CqPost (q : Nat) (x : Cel × Nat) (s' : RS) (w : World) (e : Ending) (w' : World) : Prop :=
  ∃ (c : Cel) (n : Nat), e = .returned (.tuple #[rc c, .int .i64 (n : Nat)]) ∧ Only q w w' ∧ IsQ w' q s' ∧ (s'.2 = 0 → (c, n) = x)
theorem buildRC_0 (w : World) : (Instr.build 76 #[]).run Tryz.prog w = .ok (.agg #[.int .u8 0, .int .u8 0, .int .i64 0, .int .u64 0, .int .u64 0, .string ⟨#[]⟩]) w := by kernel_rfl
theorem buildRC_1 (w : World) : (Instr.build 76 #[(0, .int .u8 1)]).run Tryz.prog w = .ok (.agg #[.int .u8 1, .int .u8 0, .int .i64 0, .int .u64 0, .int .u64 0, .string ⟨#[]⟩]) w := by kernel_rfl
theorem buildRC_2 (w : World) (kind : Nat) : (Instr.build 76 #[(0, .int .u8 2), (1, .agg #[.int .u8 (kind : Nat), .int .i64 0, .int .u64 0, .int .u64 0, .string ⟨#[]⟩])]).run Tryz.prog w = .ok (.agg #[.int .u8 2, .int .u8 (kind : Nat), .int .i64 0, .int .u64 0, .int .u64 0, .string ⟨#[]⟩]) w := by kernel_rfl
theorem build54_1 (w : World) (kind : Nat) : (Instr.build 74 #[(0, .int .u8 (kind : Nat))]).run Tryz.prog w = .ok (.agg #[.int .u8 (kind : Nat), .int .i64 0, .int .u64 0, .int .u64 0, .string ⟨#[]⟩]) w := by kernel_rfl
theorem setCells5 {w : World} {g : Nat} {a0 a1 a2 a3 a4 a5 b1 b2 b3 b4 b5 : Value} {E : TypeId} (h : w.heap[g]? = some (.cells #[a0, a1, a2, a3, a4, a5] E (0, 0))) : (w.setCells g 1 [b1, b2, b3, b4, b5]).heap[g]? = some (.cells #[a0, b1, b2, b3, b4, b5] E (0, 0)) :=
  heap_setCell_same _ g 5 _ _ _ (heap_setCell_same _ g 4 _ _ _ (heap_setCell_same _ g 3 _ _ _ (heap_setCell_same _ g 2 _ _ _ (heap_setCell_same _ g 1 _ _ _ h))))
theorem ch_setCells5 {M : Nat → Prop} (w : World) (g : Nat) (hg : M g) (b1 b2 b3 b4 b5 : Value) : Ch M w (w.setCells g 1 [b1, b2, b3, b4, b5]) :=
  Ch.setCell (p := ⟨g, 5, none⟩) (Ch.setCell (p := ⟨g, 4, none⟩) (Ch.setCell (p := ⟨g, 3, none⟩) (Ch.setCell (p := ⟨g, 2, none⟩) (Ch.setCell (p := ⟨g, 1, none⟩) (Ch.refl _ _) (.inl hg) b1) (.inl hg) b2) (.inl hg) b3) (.inl hg) b4) (.inl hg) b5
theorem infoRV : (Tryz.prog.info? 74).map (·.size) = some 5 := by kernel_rfl
set_option maxRecDepth 20000 in
set_option maxHeartbeats 2000000 in
theorem qlarge_any (q : Nat) (s : RS) (w : World) (h : IsQ w q s) :
    Calls Tryz.prog 84 #[QPtr q] w (QPost q (.int .i64 ((awayR s).1 : Nat)) (awayR s).2 w) := by
  have hle := uintR_le 2048 s
  have HU := Lib.hid (quint_any q s 2048 w h (by omega))
  unfold awayR
  simp only
  generalize (uintR 2048 s).1 = n at *
  generalize (uintR 2048 s).2 = s1 at *
  have HF := Lib.hid (fun w h => giveUp_any q s1 4 w h)
  have hw : IntKind.i64.wrap (n : Int) = (n : Int) := by rw [IntKind.wrap_i64]; omega
  clear h
  unfold QPtr at *
  by_cases hn : n < 65
  · simp only [if_pos hn]
    have hn' : n ≤ 64 := by omega
    clear hn
    go_enter Tryz.func84, Tryz.ntmps84
    go_wp2_with (go_at_call 87; refine HU.out.mono ?_)
    rintro e w1 ⟨rfl, k1, k2⟩
    have K1 := Lib.hid k1; have K2 := Lib.hid k2; clear k1 k2
    go_wp2_with (go_at_call 32; refine (HF.out _ K2.out).mono ?_)
    rintro e w2 ⟨rfl, k1, k2⟩
    have K3 := Lib.hid (K1.out.trans k1); have K4 := Lib.hid k2; clear k1 k2
    go_wp2
    go_ret
    exact ⟨rfl, K3.out, K4.out⟩
  · simp only [if_neg hn]
    have hn' : 64 < n := by omega
    clear hn
    go_enter Tryz.func84, Tryz.ntmps84
    go_wp2_with (go_at_call 87; refine HU.out.mono ?_)
    rintro e w1 ⟨rfl, k1, k2⟩
    have K1 := Lib.hid k1; have K2 := Lib.hid k2; clear k1 k2
    go_wp2
    go_ret
    exact ⟨rfl, K1.out, K2.out⟩
def larT (q n kind : Nat) (_ : Nat → Bool) (d : Tmp) (v : Value) (_ : World) : Prop :=
  match d with
  | 62 => v = rc (bigC kind)
  | 63 => v = .pointer (some ⟨q, 0, none⟩)
  | 64 => v = .int .i64 (n : Nat)
  | 107 => v = rc (bigC kind)
  | 108 => v = .pointer (some ⟨q, 0, none⟩)
  | 109 => v = .int .i64 (n : Nat)
  | 7 => v = .int .i64 (n : Nat)
  | _ => True
structure larS (q g6 g8 kind : Nat) (s1 s2 : RS) (W : World) (L : Nat → Bool) (_ : Act) (w : World) : Prop where
  ch : Ch (fun i => i = q ∨ i = g6) W w
  r8 : w.heap[g8]? = some (.cells (rcv (bigC kind)) 76 (0, 0))
  bef : L 2 = false → IsQ w q s1
  aft : L 2 = true → IsQ w q s2
  r6 : w.heap[g6]? = some (.cells (if L 3 = true then rcv (bigC kind) else #[.int .u8 0, .int .u8 0, .int .i64 0, .int .u64 0, .int .u64 0, .string ⟨#[]⟩]) 76 (0, 0))
theorem larS.start {q g6 g8 kind : Nat} {s1 s2 : RS} {W : World} {x : Act} (h8 : W.heap[g8]? = some (.cells #[.int .u8 2, .int .u8 (kind : Nat), .int .i64 0, .int .u64 0, .int .u64 0, .string ⟨#[]⟩] 76 (0, 0))) (hI : IsQ W q s1) (h6 : W.heap[g6]? = some (.cells #[.int .u8 0, .int .u8 0, .int .i64 0, .int .u64 0, .int .u64 0, .string ⟨#[]⟩] 76 (0, 0))) : larS q g6 g8 kind s1 s2 W (fun _ => false) x W.drew where
  ch := Ch.drew (Ch.refl _ _)
  r8 := heap_of_ext (Ch.drew (Ch.refl _ _)) h8
  bef _ := hI.ext (Ch.drew (Ch.refl _ _))
  aft h := absurd h (by simp)
  r6 := by simpa using heap_of_ext (Ch.drew (Ch.refl _ W)) h6
theorem larS.ext {q g6 g8 kind : Nat} {s1 s2 : RS} {W w w' : World} {L L' : Nat → Bool} {x x' : Act} (h : larS q g6 g8 kind s1 s2 W L x w) (k : Ext w w') (e2 : L' 2 = L 2) (e3 : L' 3 = L 3) : larS q g6 g8 kind s1 s2 W L' x' w' where
  ch := h.ch.trans k.ch
  r8 := heap_of_ext k h.r8
  bef hl := (h.bef (by rw [← e2]; exact hl)).ext k
  aft hl := (h.aft (by rw [← e2]; exact hl)).ext k
  r6 := by rw [e3]; exact heap_of_ext k h.r6
set_option maxRecDepth 20000 in
set_option maxHeartbeats 3000000 in
theorem rtake_bv (q : Nat) (l : List UInt8) (kind ver : Nat) (w : World) (h : IsQ w q (l, 0)) (hv : ver ≠ 1 ∧ ver ≠ 2) :
    Calls Tryz.prog 58 #[QPtr q, .int .u8 (kind : Nat), .int .u8 (ver : Nat)] w (CqPost q (cRaw ver kind (tPre ver kind (l, 0))).1 (cRaw ver kind (tPre ver kind (l, 0))).2 w) := by
  have hp : tPre ver kind (l, 0) = ([], 18) := by
    unfold tPre; simp only; rw [if_neg (show ¬ (ver = 1 ∨ ver = 2) by omega), show failR (l, 0) 18 = ([], 18) from rfl, failR_gone (by decide)]; split <;> rfl
  have HV : Hid ((cRaw ver kind (tPre ver kind (l, 0))).2 = ([], 18) ∧ ((([] : List UInt8), (18 : Int)).2 ≠ 0)) := Lib.hid ⟨by rw [hp]; exact cRaw_gone (by decide) ver kind, by decide⟩
  have HP : Hid (∀ (c : Cel) (n : Nat) w', Only q w w' → IsQ w' q ([], 18) → CqPost q (cRaw ver kind (tPre ver kind (l, 0))).1 (cRaw ver kind (tPre ver kind (l, 0))).2 w (.returned (.tuple #[rc c, .int .i64 (n : Nat)])) w') := Lib.hid fun c n w' h1 h2 => by rw [HV.out.1]; exact ⟨c, n, rfl, h1, h2, fun h => absurd h HV.out.2⟩
  have hql := h.lt
  have HQL := Lib.hid hql
  have hx0 : Ext w (w.alloc (.cells #[.int .u8 0, .int .u8 0, .int .i64 0, .int .u64 0, .int .u64 0, .string ⟨#[]⟩] 76)) := (Ch.refl _ _).alloc _
  have HZ0 := Lib.hid (heap_alloc_new w (.cells #[.int .u8 0, .int .u8 0, .int .i64 0, .int .u64 0, .int .u64 0, .string ⟨#[]⟩] 76))
  have HX0 : Hid (Only q w (w.alloc (.cells #[.int .u8 0, .int .u8 0, .int .i64 0, .int .u64 0, .int .u64 0, .string ⟨#[]⟩] 76))) := Lib.hid hx0.ch
  have HI0 := Lib.hid (h.ext hx0)
  have HF := Lib.hid (giveUp_any q (l, 0) 18 _ HI0.out)
  have hb0 := fun w => buildRC_0 w
  rw [show failR (l, 0) 18 = ([], 18) from rfl] at HF
  have e1 : (((ver : Nat) : Int) != 1) = true := by simp; omega
  have e2 : (((ver : Nat) : Int) != 2) = true := by simp; omega
  clear h hx0 hql hp
  clear hv
  unfold QPtr at *
  go_enter Tryz.func58, Tryz.ntmps58
  go_wp2_with (go_at_call 32; refine HF.out.mono ?_)
  rintro e w1 ⟨rfl, k1, k2⟩
  have HX1 := Lib.hid (HX0.out.trans k1); have HI1 := Lib.hid k2
  have HZ1 := Lib.hid (heap_of_only k1 (by have := HQL.out; omega) HZ0.out)
  clear k1 k2
  go_wp2_with (first
    | (refine wpList_store_rowTo rfl _ _ _ rfl rfl w.heap.size #[.int .u8 0, .int .u8 0, .int .i64 0, .int .u64 0, .int .u64 0, .string ⟨#[]⟩] rfl rfl _ _ HZ1.out infoRC rfl (by simp [Value.oneCell', rcv, strV]) ?_))
  refine bodyPost_ret (results_cell2 rfl _ _ w.heap.size _ #[.int .u8 0, .int .u8 0, .int .i64 0, .int .u64 0, .int .u64 0, .string ⟨#[]⟩] _ _ rfl (setRow_heap _ _ _ _ _ _ HZ1.out) Tryz.underlying76 rfl infoRC) rfl ?_
  exact HP.out Cel.zero 0 _ (HX1.out.setRow (.inr (Nat.le_refl _)) _) ((HI1.out).aboveT ((Ch.refl _ _).setRow (.inl (by have := HQL.out; omega)) _))
set_option maxRecDepth 20000 in
set_option maxHeartbeats 3000000 in
theorem rtake_bt (q : Nat) (l : List UInt8) (kind ver : Nat) (w : World) (h : IsQ w q (l, 0)) (hv : ver = 1 ∨ ver = 2) (hk : kind < 1 ∨ 6 < kind) :
    Calls Tryz.prog 58 #[QPtr q, .int .u8 (kind : Nat), .int .u8 (ver : Nat)] w (CqPost q (cRaw ver kind (tPre ver kind (l, 0))).1 (cRaw ver kind (tPre ver kind (l, 0))).2 w) := by
  have hp : tPre ver kind (l, 0) = ([], 11) := by
    unfold tPre; simp only; rw [if_pos hv, if_neg (by omega)]; rfl
  have HV : Hid ((cRaw ver kind (tPre ver kind (l, 0))).2 = ([], 11) ∧ ((([] : List UInt8), (11 : Int)).2 ≠ 0)) := Lib.hid ⟨by rw [hp]; exact cRaw_gone (by decide) ver kind, by decide⟩
  have HP : Hid (∀ (c : Cel) (n : Nat) w', Only q w w' → IsQ w' q ([], 11) → CqPost q (cRaw ver kind (tPre ver kind (l, 0))).1 (cRaw ver kind (tPre ver kind (l, 0))).2 w (.returned (.tuple #[rc c, .int .i64 (n : Nat)])) w') := Lib.hid fun c n w' h1 h2 => by rw [HV.out.1]; exact ⟨c, n, rfl, h1, h2, fun h => absurd h HV.out.2⟩
  have hql := h.lt
  have HQL := Lib.hid hql
  have hx0 : Ext w (w.alloc (.cells #[.int .u8 0, .int .u8 0, .int .i64 0, .int .u64 0, .int .u64 0, .string ⟨#[]⟩] 76)) := (Ch.refl _ _).alloc _
  have HZ0 := Lib.hid (heap_alloc_new w (.cells #[.int .u8 0, .int .u8 0, .int .i64 0, .int .u64 0, .int .u64 0, .string ⟨#[]⟩] 76))
  have HX0 : Hid (Only q w (w.alloc (.cells #[.int .u8 0, .int .u8 0, .int .i64 0, .int .u64 0, .int .u64 0, .string ⟨#[]⟩] 76))) := Lib.hid hx0.ch
  have HI0 := Lib.hid (h.ext hx0)
  have HF := Lib.hid (giveUp_any q (l, 0) 11 _ HI0.out)
  have hb0 := fun w => buildRC_0 w
  rw [show failR (l, 0) 11 = ([], 11) from rfl] at HF
  clear h hx0 hql hp
  rcases hv with rfl | rfl <;> rcases hk with hk | hk
  · unfold QPtr at *
    go_enter Tryz.func58, Tryz.ntmps58
    go_wp2_with (go_at_call 32; refine HF.out.mono ?_)
    rintro e w1 ⟨rfl, k1, k2⟩
    have HX1 := Lib.hid (HX0.out.trans k1); have HI1 := Lib.hid k2
    have HZ1 := Lib.hid (heap_of_only k1 (by have := HQL.out; omega) HZ0.out)
    clear k1 k2
    go_wp2_with (first
      | (refine wpList_store_rowTo rfl _ _ _ rfl rfl w.heap.size #[.int .u8 0, .int .u8 0, .int .i64 0, .int .u64 0, .int .u64 0, .string ⟨#[]⟩] rfl rfl _ _ HZ1.out infoRC rfl (by simp [Value.oneCell', rcv, strV]) ?_))
    refine bodyPost_ret (results_cell2 rfl _ _ w.heap.size _ #[.int .u8 0, .int .u8 0, .int .i64 0, .int .u64 0, .int .u64 0, .string ⟨#[]⟩] _ _ rfl (setRow_heap _ _ _ _ _ _ HZ1.out) Tryz.underlying76 rfl infoRC) rfl ?_
    exact HP.out Cel.zero 0 _ (HX1.out.setRow (.inr (Nat.le_refl _)) _) ((HI1.out).aboveT ((Ch.refl _ _).setRow (.inl (by have := HQL.out; omega)) _))
  · unfold QPtr at *
    go_enter Tryz.func58, Tryz.ntmps58
    go_wp2_with (go_at_call 32; refine HF.out.mono ?_)
    rintro e w1 ⟨rfl, k1, k2⟩
    have HX1 := Lib.hid (HX0.out.trans k1); have HI1 := Lib.hid k2
    have HZ1 := Lib.hid (heap_of_only k1 (by have := HQL.out; omega) HZ0.out)
    clear k1 k2
    go_wp2_with (first
      | (refine wpList_store_rowTo rfl _ _ _ rfl rfl w.heap.size #[.int .u8 0, .int .u8 0, .int .i64 0, .int .u64 0, .int .u64 0, .string ⟨#[]⟩] rfl rfl _ _ HZ1.out infoRC rfl (by simp [Value.oneCell', rcv, strV]) ?_))
    refine bodyPost_ret (results_cell2 rfl _ _ w.heap.size _ #[.int .u8 0, .int .u8 0, .int .i64 0, .int .u64 0, .int .u64 0, .string ⟨#[]⟩] _ _ rfl (setRow_heap _ _ _ _ _ _ HZ1.out) Tryz.underlying76 rfl infoRC) rfl ?_
    exact HP.out Cel.zero 0 _ (HX1.out.setRow (.inr (Nat.le_refl _)) _) ((HI1.out).aboveT ((Ch.refl _ _).setRow (.inl (by have := HQL.out; omega)) _))
  · unfold QPtr at *
    go_enter Tryz.func58, Tryz.ntmps58
    go_wp2_with (go_at_call 32; refine HF.out.mono ?_)
    rintro e w1 ⟨rfl, k1, k2⟩
    have HX1 := Lib.hid (HX0.out.trans k1); have HI1 := Lib.hid k2
    have HZ1 := Lib.hid (heap_of_only k1 (by have := HQL.out; omega) HZ0.out)
    clear k1 k2
    go_wp2_with (first
      | (refine wpList_store_rowTo rfl _ _ _ rfl rfl w.heap.size #[.int .u8 0, .int .u8 0, .int .i64 0, .int .u64 0, .int .u64 0, .string ⟨#[]⟩] rfl rfl _ _ HZ1.out infoRC rfl (by simp [Value.oneCell', rcv, strV]) ?_))
    refine bodyPost_ret (results_cell2 rfl _ _ w.heap.size _ #[.int .u8 0, .int .u8 0, .int .i64 0, .int .u64 0, .int .u64 0, .string ⟨#[]⟩] _ _ rfl (setRow_heap _ _ _ _ _ _ HZ1.out) Tryz.underlying76 rfl infoRC) rfl ?_
    exact HP.out Cel.zero 0 _ (HX1.out.setRow (.inr (Nat.le_refl _)) _) ((HI1.out).aboveT ((Ch.refl _ _).setRow (.inl (by have := HQL.out; omega)) _))
  · unfold QPtr at *
    go_enter Tryz.func58, Tryz.ntmps58
    go_wp2_with (go_at_call 32; refine HF.out.mono ?_)
    rintro e w1 ⟨rfl, k1, k2⟩
    have HX1 := Lib.hid (HX0.out.trans k1); have HI1 := Lib.hid k2
    have HZ1 := Lib.hid (heap_of_only k1 (by have := HQL.out; omega) HZ0.out)
    clear k1 k2
    go_wp2_with (first
      | (refine wpList_store_rowTo rfl _ _ _ rfl rfl w.heap.size #[.int .u8 0, .int .u8 0, .int .i64 0, .int .u64 0, .int .u64 0, .string ⟨#[]⟩] rfl rfl _ _ HZ1.out infoRC rfl (by simp [Value.oneCell', rcv, strV]) ?_))
    refine bodyPost_ret (results_cell2 rfl _ _ w.heap.size _ #[.int .u8 0, .int .u8 0, .int .i64 0, .int .u64 0, .int .u64 0, .string ⟨#[]⟩] _ _ rfl (setRow_heap _ _ _ _ _ _ HZ1.out) Tryz.underlying76 rfl infoRC) rfl ?_
    exact HP.out Cel.zero 0 _ (HX1.out.setRow (.inr (Nat.le_refl _)) _) ((HI1.out).aboveT ((Ch.refl _ _).setRow (.inl (by have := HQL.out; omega)) _))
theorem byteR_lack {l : List UInt8} (he : (byteR (l, 0)).2.2 ≠ 0) : (byteR (l, 0)).2 = ([], (byteR (l, 0)).2.2) := by
  cases l with
  | nil => rw [byteR_nil]
  | cons x l => rw [byteR_cons] at he; exact absurd rfl he
theorem uintR_lack {m : Nat} {l : List UInt8} (he : (uintR m (l, 0)).2.2 ≠ 0) : (uintR m (l, 0)).2 = ([], (uintR m (l, 0)).2.2) := by
  unfold uintR at he ⊢
  have hf : ∀ c : Int, c ≠ 0 → failR (l, 0) c = ([], c) := fun c hc => by unfold failR; simp [hc]
  simp only at he ⊢
  split
  · rename_i h1
    simp only
    rw [hf _ (by omega)]
  · split
    · simp only; rw [hf 4 (by decide)]
    · rename_i h1 h2
      rw [if_neg h1, if_neg h2] at he
      exact absurd rfl he
set_option maxRecDepth 20000 in
set_option maxHeartbeats 3000000 in
theorem rtake_v1e (q : Nat) (l : List UInt8) (kind ver : Nat) (w : World) (h : IsQ w q (l, 0)) (hv : ver = 1 ∨ ver = 2) (hk : 1 ≤ kind ∧ kind ≤ 6) (h1 : ver = 1) (he : (byteR (l, 0)).2.2 ≠ 0) :
    Calls Tryz.prog 58 #[QPtr q, .int .u8 (kind : Nat), .int .u8 (ver : Nat)] w (CqPost q (cRaw ver kind (tPre ver kind (l, 0))).1 (cRaw ver kind (tPre ver kind (l, 0))).2 w) := by
  have hp : tPre ver kind (l, 0) = (l, 0) := tPre_ok (l, 0) hv hk.1 hk.2
  have HB3 := qbyte_any q (l, 0)
  have hpr : ∀ w', IsQ w' q (byteR (l, 0)).2 → (byteR (l, 0)).2 = ([], (byteR (l, 0)).2.2) := fun w' h' => Prod.ext (h'.proper he) rfl
  have hpr2 : (byteR (l, 0)).2 = ([], (byteR (l, 0)).2.2) := byteR_lack he
  have HV : Hid ((cRaw ver kind (tPre ver kind (l, 0))).2 = (byteR (l, 0)).2 ∧ (byteR (l, 0)).2.2 ≠ 0) := Lib.hid ⟨by rw [hp, h1, cRaw_1, hpr2]; exact partedR_first he hpr2, he⟩
  have HP : Hid (∀ (c : Cel) (n : Nat) w', Only q w w' → IsQ w' q (byteR (l, 0)).2 → CqPost q (cRaw ver kind (tPre ver kind (l, 0))).1 (cRaw ver kind (tPre ver kind (l, 0))).2 w (.returned (.tuple #[rc c, .int .i64 (n : Nat)])) w') := Lib.hid fun c n w' h1 h2 => by rw [HV.out.1]; exact ⟨c, n, rfl, h1, h2, fun h => absurd h HV.out.2⟩
  have hql := h.lt
  have HQL := Lib.hid hql
  have hg6 : ((w.alloc (.cells #[.int .u8 0, .int .u8 0, .int .i64 0, .int .u64 0, .int .u64 0, .string ⟨#[]⟩] 76)).alloc (.cells #[.int .u8 0, .int .u8 0, .int .i64 0, .int .u64 0, .int .u64 0, .string ⟨#[]⟩] 76)).heap[w.heap.size]? = _ := heap_alloc2_old w _ _
  have hq : ((w.alloc (.cells #[.int .u8 0, .int .u8 0, .int .i64 0, .int .u64 0, .int .u64 0, .string ⟨#[]⟩] 76)).alloc (.cells #[.int .u8 0, .int .u8 0, .int .i64 0, .int .u64 0, .int .u64 0, .string ⟨#[]⟩] 76)).heap[(w.heap.size + 1)]? = _ := heap_alloc2_new w _ _
  have HQ := Lib.hid hq
  obtain ⟨W3, hW3⟩ : ∃ W3, W3 = ((w.alloc (.cells #[.int .u8 0, .int .u8 0, .int .i64 0, .int .u64 0, .int .u64 0, .string ⟨#[]⟩] 76)).alloc (.cells #[.int .u8 0, .int .u8 0, .int .i64 0, .int .u64 0, .int .u64 0, .string ⟨#[]⟩] 76)).setRow (w.heap.size + 1) #[.int .u8 2, .int .u8 (kind : Nat), .int .i64 0, .int .u64 0, .int .u64 0, .string ⟨#[]⟩] := ⟨_, rfl⟩
  have hx3 : Ext w W3 := by rw [hW3]; exact (((Ch.refl _ _).alloc _).alloc _).setRow (.inr (by omega)) _
  have HZ3 : Hid (W3.heap[w.heap.size]? = some (.cells #[.int .u8 0, .int .u8 0, .int .i64 0, .int .u64 0, .int .u64 0, .string ⟨#[]⟩] 76 (0, 0))) := Lib.hid (by rw [hW3, setRow_other _ _ _ _ (by omega)]; exact hg6)
  have HR3 : Hid (W3.heap[(w.heap.size + 1)]? = some (.cells #[.int .u8 2, .int .u8 (kind : Nat), .int .i64 0, .int .u64 0, .int .u64 0, .string ⟨#[]⟩] 76 (0, 0))) := Lib.hid (by rw [hW3]; exact setRow_heap _ _ _ _ _ _ hq)
  have HX3 : Hid (Only q w W3) := Lib.hid hx3.ch
  have HI3 := Lib.hid (h.ext hx3)
  have HW3 := Lib.hid hW3
  have hb1 := fun w => build54_1 w kind
  have hb2 := fun w => buildRC_2 w kind
  clear hq hx3 hg6 hW3
  have HU := Lib.hid (qbyte_any q (l, 0) W3 HI3.out)
  generalize (byteR (l, 0)).1 = b at *
  generalize (byteR (l, 0)).2 = s1 at *
  have HERR := Lib.hid he
  have hb0 := fun w => buildRC_0 w
  subst h1
  have hk1 := hk.1
  have hk6 := hk.2
  clear hk
  clear h hql hp hpr hpr2 he hv HB3
  unfold QPtr at *
  go_enter Tryz.func58, Tryz.ntmps58
  go_wp2_with (first
    | (refine wpList_store_rowTo rfl _ _ _ rfl rfl (w.heap.size + 1) #[.int .u8 2, .int .u8 (kind : Nat), .int .i64 0, .int .u64 0, .int .u64 0, .string ⟨#[]⟩] rfl rfl _ _ HQ.out infoRC rfl (by simp [Value.oneCell']) ?_; rw [← HW3.out])
    | (go_at_call 83; refine HU.out.mono ?_))
  rintro e w1 ⟨rfl, k1, k2⟩
  have HX1 := Lib.hid (HX3.out.trans k1); have HI1 := Lib.hid k2
  have HZ1 := Lib.hid (heap_of_only k1 (by have := HQL.out; omega) HZ3.out); have HR1 := Lib.hid (heap_of_only k1 (by have := HQL.out; omega) HR3.out)
  clear k1 k2
  obtain ⟨_, _, _, _, _, _, ce, _⟩ := HI1.out.cells
  have eb : (s1.2 != 0) = true := by simpa using HERR.out
  go_wp2_with (first
    | (refine wpList_store_rowTo rfl _ _ _ rfl rfl w.heap.size #[.int .u8 0, .int .u8 0, .int .i64 0, .int .u64 0, .int .u64 0, .string ⟨#[]⟩] rfl rfl _ _ HZ1.out infoRC rfl (by simp [Value.oneCell', rcv, strV]) ?_))
  refine bodyPost_ret (results_cell2 rfl _ _ w.heap.size _ #[.int .u8 0, .int .u8 0, .int .i64 0, .int .u64 0, .int .u64 0, .string ⟨#[]⟩] _ _ rfl (setRow_heap _ _ _ _ _ _ HZ1.out) Tryz.underlying76 rfl infoRC) rfl ?_
  exact HP.out Cel.zero 0 _ (HX1.out.setRow (.inr (Nat.le_refl _)) _) ((HI1.out).aboveT ((Ch.refl _ _).setRow (.inl (by have := HQL.out; omega)) _))
set_option maxRecDepth 20000 in
set_option maxHeartbeats 3000000 in
theorem rtake_v1_0T (q : Nat) (l : List UInt8) (kind ver : Nat) (w : World) (h : IsQ w q (l, 0)) (hv : ver = 1 ∨ ver = 2) (hk : 1 ≤ kind ∧ kind ≤ 6) (h1 : ver = 1) (he : (byteR (l, 0)).2.2 = 0) (hb : (byteR (l, 0)).1 = 0) (ht : texty kind = true) :
    Calls Tryz.prog 58 #[QPtr q, .int .u8 (kind : Nat), .int .u8 (ver : Nat)] w (CqPost q (cRaw ver kind (tPre ver kind (l, 0))).1 (cRaw ver kind (tPre ver kind (l, 0))).2 w) := by
  have hp : tPre ver kind (l, 0) = (l, 0) := tPre_ok (l, 0) hv hk.1 hk.2
  have HV : Hid (cRaw ver kind (tPre ver kind (l, 0)) = ((sameC, 0), (byteR (l, 0)).2)) := Lib.hid (by rw [hp, h1, cRaw_1]; have hh : headR kind (l, 0) = (byteR (l, 0)).2 := (by unfold headR; rw [if_neg (by rintro (h | h) <;> first | omega | (rw [ht] at h; simp at h))]); unfold partedR; rw [hh]; rw [if_pos hb])
  have HP : Hid (∀ (c : Cel) (n : Nat) w', Only q w w' → IsQ w' q (((sameC, 0), (byteR (l, 0)).2)).2 → ((((sameC, 0), (byteR (l, 0)).2)).2.2 = 0 → (c, n) = (((sameC, 0), (byteR (l, 0)).2)).1) → CqPost q (cRaw ver kind (tPre ver kind (l, 0))).1 (cRaw ver kind (tPre ver kind (l, 0))).2 w (.returned (.tuple #[rc c, .int .i64 (n : Nat)])) w') := Lib.hid fun c n w' h1 h2 h3 => by rw [HV.out]; exact ⟨c, n, rfl, h1, h2, h3⟩
  have hql := h.lt
  have HQL := Lib.hid hql
  have hg6 : ((w.alloc (.cells #[.int .u8 0, .int .u8 0, .int .i64 0, .int .u64 0, .int .u64 0, .string ⟨#[]⟩] 76)).alloc (.cells #[.int .u8 0, .int .u8 0, .int .i64 0, .int .u64 0, .int .u64 0, .string ⟨#[]⟩] 76)).heap[w.heap.size]? = _ := heap_alloc2_old w _ _
  have hq : ((w.alloc (.cells #[.int .u8 0, .int .u8 0, .int .i64 0, .int .u64 0, .int .u64 0, .string ⟨#[]⟩] 76)).alloc (.cells #[.int .u8 0, .int .u8 0, .int .i64 0, .int .u64 0, .int .u64 0, .string ⟨#[]⟩] 76)).heap[(w.heap.size + 1)]? = _ := heap_alloc2_new w _ _
  have HQ := Lib.hid hq
  obtain ⟨W3, hW3⟩ : ∃ W3, W3 = ((w.alloc (.cells #[.int .u8 0, .int .u8 0, .int .i64 0, .int .u64 0, .int .u64 0, .string ⟨#[]⟩] 76)).alloc (.cells #[.int .u8 0, .int .u8 0, .int .i64 0, .int .u64 0, .int .u64 0, .string ⟨#[]⟩] 76)).setRow (w.heap.size + 1) #[.int .u8 2, .int .u8 (kind : Nat), .int .i64 0, .int .u64 0, .int .u64 0, .string ⟨#[]⟩] := ⟨_, rfl⟩
  have hx3 : Ext w W3 := by rw [hW3]; exact (((Ch.refl _ _).alloc _).alloc _).setRow (.inr (by omega)) _
  have HZ3 : Hid (W3.heap[w.heap.size]? = some (.cells #[.int .u8 0, .int .u8 0, .int .i64 0, .int .u64 0, .int .u64 0, .string ⟨#[]⟩] 76 (0, 0))) := Lib.hid (by rw [hW3, setRow_other _ _ _ _ (by omega)]; exact hg6)
  have HR3 : Hid (W3.heap[(w.heap.size + 1)]? = some (.cells #[.int .u8 2, .int .u8 (kind : Nat), .int .i64 0, .int .u64 0, .int .u64 0, .string ⟨#[]⟩] 76 (0, 0))) := Lib.hid (by rw [hW3]; exact setRow_heap _ _ _ _ _ _ hq)
  have HX3 : Hid (Only q w W3) := Lib.hid hx3.ch
  have HI3 := Lib.hid (h.ext hx3)
  have HW3 := Lib.hid hW3
  have hb1 := fun w => build54_1 w kind
  have hb2 := fun w => buildRC_2 w kind
  clear hq hx3 hg6 hW3
  have HU := Lib.hid (qbyte_any q (l, 0) W3 HI3.out)
  generalize (byteR (l, 0)).1 = b at *
  generalize (byteR (l, 0)).2 = s1 at *
  have HERR := Lib.hid he
  have HTX := Lib.hid (fun w => rTexty_any kind w)
  rw [ht] at HTX
  subst hb
  have hb3 := fun w => buildRC_1 w
  subst h1
  have hk1 := hk.1
  have hk6 := hk.2
  clear hk
  clear h hql hp he hv ht HV
  unfold QPtr at *
  go_enter Tryz.func58, Tryz.ntmps58
  go_wp2_with (first
    | (refine wpList_store_rowTo rfl _ _ _ rfl rfl (w.heap.size + 1) #[.int .u8 2, .int .u8 (kind : Nat), .int .i64 0, .int .u64 0, .int .u64 0, .string ⟨#[]⟩] rfl rfl _ _ HQ.out infoRC rfl (by simp [Value.oneCell']) ?_; rw [← HW3.out])
    | (go_at_call 83; refine HU.out.mono ?_))
  rintro e w1 ⟨rfl, k1, k2⟩
  have HX1 := Lib.hid (HX3.out.trans k1); have HI1 := Lib.hid k2
  have HZ1 := Lib.hid (heap_of_only k1 (by have := HQL.out; omega) HZ3.out); have HR1 := Lib.hid (heap_of_only k1 (by have := HQL.out; omega) HR3.out)
  clear k1 k2
  obtain ⟨_, _, _, _, _, _, ce, _⟩ := HI1.out.cells
  have eb : (s1.2 != 0) = false := by simpa using HERR.out
  go_wp2_with (first
    | (go_at_call 60; refine (HTX.out _).mono ?_; rintro e w' ⟨rfl, rfl⟩)
    | (refine wpList_store_rowTo rfl _ _ _ rfl rfl w.heap.size #[.int .u8 1, .int .u8 0, .int .i64 0, .int .u64 0, .int .u64 0, .string ⟨#[]⟩] rfl rfl _ _ HZ1.out infoRC rfl (by simp [Value.oneCell', rcv, strV]) ?_))
  refine bodyPost_ret (results_cell2 rfl _ _ w.heap.size _ #[.int .u8 1, .int .u8 0, .int .i64 0, .int .u64 0, .int .u64 0, .string ⟨#[]⟩] _ _ rfl (setRow_heap _ _ _ _ _ _ HZ1.out) Tryz.underlying76 rfl infoRC) rfl ?_
  exact HP.out sameC 0 _ (HX1.out.setRow (.inr (Nat.le_refl _)) _) ((HI1.out).aboveT ((Ch.refl _ _).setRow (.inl (by have := HQL.out; omega)) _)) (fun _ => rfl)
set_option maxRecDepth 20000 in
set_option maxHeartbeats 3000000 in
theorem rtake_v1_0F (q : Nat) (l : List UInt8) (kind ver : Nat) (w : World) (h : IsQ w q (l, 0)) (hv : ver = 1 ∨ ver = 2) (hk : 1 ≤ kind ∧ kind ≤ 6) (h1 : ver = 1) (he : (byteR (l, 0)).2.2 = 0) (hb : (byteR (l, 0)).1 = 0) (ht : texty kind = false) :
    Calls Tryz.prog 58 #[QPtr q, .int .u8 (kind : Nat), .int .u8 (ver : Nat)] w (CqPost q (cRaw ver kind (tPre ver kind (l, 0))).1 (cRaw ver kind (tPre ver kind (l, 0))).2 w) := by
  have hp : tPre ver kind (l, 0) = (l, 0) := tPre_ok (l, 0) hv hk.1 hk.2
  have HV : Hid (cRaw ver kind (tPre ver kind (l, 0)) = ((sameC, 0), failR (byteR (l, 0)).2 7)) := Lib.hid (by rw [hp, h1, cRaw_1]; have hh : headR kind (l, 0) = failR (byteR (l, 0)).2 7 := (by unfold headR; rw [if_pos (by exact .inr ⟨by omega, ht⟩)]); unfold partedR; rw [hh]; rw [if_pos hb])
  have HP : Hid (∀ (c : Cel) (n : Nat) w', Only q w w' → IsQ w' q (((sameC, 0), failR (byteR (l, 0)).2 7)).2 → ((((sameC, 0), failR (byteR (l, 0)).2 7)).2.2 = 0 → (c, n) = (((sameC, 0), failR (byteR (l, 0)).2 7)).1) → CqPost q (cRaw ver kind (tPre ver kind (l, 0))).1 (cRaw ver kind (tPre ver kind (l, 0))).2 w (.returned (.tuple #[rc c, .int .i64 (n : Nat)])) w') := Lib.hid fun c n w' h1 h2 h3 => by rw [HV.out]; exact ⟨c, n, rfl, h1, h2, h3⟩
  have hql := h.lt
  have HQL := Lib.hid hql
  have hg6 : ((w.alloc (.cells #[.int .u8 0, .int .u8 0, .int .i64 0, .int .u64 0, .int .u64 0, .string ⟨#[]⟩] 76)).alloc (.cells #[.int .u8 0, .int .u8 0, .int .i64 0, .int .u64 0, .int .u64 0, .string ⟨#[]⟩] 76)).heap[w.heap.size]? = _ := heap_alloc2_old w _ _
  have hq : ((w.alloc (.cells #[.int .u8 0, .int .u8 0, .int .i64 0, .int .u64 0, .int .u64 0, .string ⟨#[]⟩] 76)).alloc (.cells #[.int .u8 0, .int .u8 0, .int .i64 0, .int .u64 0, .int .u64 0, .string ⟨#[]⟩] 76)).heap[(w.heap.size + 1)]? = _ := heap_alloc2_new w _ _
  have HQ := Lib.hid hq
  obtain ⟨W3, hW3⟩ : ∃ W3, W3 = ((w.alloc (.cells #[.int .u8 0, .int .u8 0, .int .i64 0, .int .u64 0, .int .u64 0, .string ⟨#[]⟩] 76)).alloc (.cells #[.int .u8 0, .int .u8 0, .int .i64 0, .int .u64 0, .int .u64 0, .string ⟨#[]⟩] 76)).setRow (w.heap.size + 1) #[.int .u8 2, .int .u8 (kind : Nat), .int .i64 0, .int .u64 0, .int .u64 0, .string ⟨#[]⟩] := ⟨_, rfl⟩
  have hx3 : Ext w W3 := by rw [hW3]; exact (((Ch.refl _ _).alloc _).alloc _).setRow (.inr (by omega)) _
  have HZ3 : Hid (W3.heap[w.heap.size]? = some (.cells #[.int .u8 0, .int .u8 0, .int .i64 0, .int .u64 0, .int .u64 0, .string ⟨#[]⟩] 76 (0, 0))) := Lib.hid (by rw [hW3, setRow_other _ _ _ _ (by omega)]; exact hg6)
  have HR3 : Hid (W3.heap[(w.heap.size + 1)]? = some (.cells #[.int .u8 2, .int .u8 (kind : Nat), .int .i64 0, .int .u64 0, .int .u64 0, .string ⟨#[]⟩] 76 (0, 0))) := Lib.hid (by rw [hW3]; exact setRow_heap _ _ _ _ _ _ hq)
  have HX3 : Hid (Only q w W3) := Lib.hid hx3.ch
  have HI3 := Lib.hid (h.ext hx3)
  have HW3 := Lib.hid hW3
  have hb1 := fun w => build54_1 w kind
  have hb2 := fun w => buildRC_2 w kind
  clear hq hx3 hg6 hW3
  have HU := Lib.hid (qbyte_any q (l, 0) W3 HI3.out)
  generalize (byteR (l, 0)).1 = b at *
  generalize (byteR (l, 0)).2 = s1 at *
  have HERR := Lib.hid he
  have HTX := Lib.hid (fun w => rTexty_any kind w)
  rw [ht] at HTX
  subst hb
  have HF := Lib.hid (fun w h => giveUp_any q s1 7 w h)
  generalize failR s1 7 = s2 at *
  have hb3 := fun w => buildRC_1 w
  subst h1
  have hk1 := hk.1
  have hk6 := hk.2
  clear hk
  clear h hql hp he hv ht HV
  unfold QPtr at *
  go_enter Tryz.func58, Tryz.ntmps58
  go_wp2_with (first
    | (refine wpList_store_rowTo rfl _ _ _ rfl rfl (w.heap.size + 1) #[.int .u8 2, .int .u8 (kind : Nat), .int .i64 0, .int .u64 0, .int .u64 0, .string ⟨#[]⟩] rfl rfl _ _ HQ.out infoRC rfl (by simp [Value.oneCell']) ?_; rw [← HW3.out])
    | (go_at_call 83; refine HU.out.mono ?_))
  rintro e w1 ⟨rfl, k1, k2⟩
  have HX1 := Lib.hid (HX3.out.trans k1); have HI1 := Lib.hid k2
  have HZ1 := Lib.hid (heap_of_only k1 (by have := HQL.out; omega) HZ3.out); have HR1 := Lib.hid (heap_of_only k1 (by have := HQL.out; omega) HR3.out)
  clear k1 k2
  obtain ⟨_, _, _, _, _, _, ce, _⟩ := HI1.out.cells
  have eb : (s1.2 != 0) = false := by simpa using HERR.out
  go_wp2_with (first
    | (go_at_call 60; refine (HTX.out _).mono ?_; rintro e w' ⟨rfl, rfl⟩)
    | (go_at_call 32; refine (HF.out _ HI1.out).mono ?_))
  rintro e w2 ⟨rfl, k1, k2⟩
  have HX2 := Lib.hid (HX1.out.trans k1); have HI2 := Lib.hid k2
  have HZ2 := Lib.hid (heap_of_only k1 (by have := HQL.out; omega) HZ1.out); have HR2 := Lib.hid (heap_of_only k1 (by have := HQL.out; omega) HR1.out)
  clear k1 k2
  go_wp2_with (first
    | (go_at_call 60; refine (HTX.out _).mono ?_; rintro e w' ⟨rfl, rfl⟩)
    | (refine wpList_store_rowTo rfl _ _ _ rfl rfl w.heap.size #[.int .u8 1, .int .u8 0, .int .i64 0, .int .u64 0, .int .u64 0, .string ⟨#[]⟩] rfl rfl _ _ HZ2.out infoRC rfl (by simp [Value.oneCell', rcv, strV]) ?_))
  refine bodyPost_ret (results_cell2 rfl _ _ w.heap.size _ #[.int .u8 1, .int .u8 0, .int .i64 0, .int .u64 0, .int .u64 0, .string ⟨#[]⟩] _ _ rfl (setRow_heap _ _ _ _ _ _ HZ2.out) Tryz.underlying76 rfl infoRC) rfl ?_
  exact HP.out sameC 0 _ (HX2.out.setRow (.inr (Nat.le_refl _)) _) ((HI2.out).aboveT ((Ch.refl _ _).setRow (.inl (by have := HQL.out; omega)) _)) (fun _ => rfl)
set_option maxRecDepth 20000 in
set_option maxHeartbeats 3000000 in
theorem rtake_v1_1T (q : Nat) (l : List UInt8) (kind ver : Nat) (w : World) (h : IsQ w q (l, 0)) (hv : ver = 1 ∨ ver = 2) (hk : 1 ≤ kind ∧ kind ≤ 6) (h1 : ver = 1) (he : (byteR (l, 0)).2.2 = 0) (hb : (byteR (l, 0)).1 = 1) (ht : texty kind = true) :
    Calls Tryz.prog 58 #[QPtr q, .int .u8 (kind : Nat), .int .u8 (ver : Nat)] w (CqPost q (cRaw ver kind (tPre ver kind (l, 0))).1 (cRaw ver kind (tPre ver kind (l, 0))).2 w) := by
  have hp : tPre ver kind (l, 0) = (l, 0) := tPre_ok (l, 0) hv hk.1 hk.2
  have HV : Hid (cRaw ver kind (tPre ver kind (l, 0)) = (((hereR kind (uintR 64 ((byteR (l, 0)).2)).1 (uintR 64 ((byteR (l, 0)).2)).2).1, 0), (hereR kind (uintR 64 ((byteR (l, 0)).2)).1 (uintR 64 ((byteR (l, 0)).2)).2).2)) := Lib.hid (by rw [hp, h1, cRaw_1]; have hh : headR kind (l, 0) = (byteR (l, 0)).2 := (by unfold headR; rw [if_neg (by rintro (h | h) <;> omega)]); unfold partedR; rw [hh]; rw [if_neg (by omega), if_neg (by omega), if_pos ht])
  have HP : Hid (∀ (c : Cel) (n : Nat) w', Only q w w' → IsQ w' q ((((hereR kind (uintR 64 ((byteR (l, 0)).2)).1 (uintR 64 ((byteR (l, 0)).2)).2).1, 0), (hereR kind (uintR 64 ((byteR (l, 0)).2)).1 (uintR 64 ((byteR (l, 0)).2)).2).2)).2 → (((((hereR kind (uintR 64 ((byteR (l, 0)).2)).1 (uintR 64 ((byteR (l, 0)).2)).2).1, 0), (hereR kind (uintR 64 ((byteR (l, 0)).2)).1 (uintR 64 ((byteR (l, 0)).2)).2).2)).2.2 = 0 → (c, n) = ((((hereR kind (uintR 64 ((byteR (l, 0)).2)).1 (uintR 64 ((byteR (l, 0)).2)).2).1, 0), (hereR kind (uintR 64 ((byteR (l, 0)).2)).1 (uintR 64 ((byteR (l, 0)).2)).2).2)).1) → CqPost q (cRaw ver kind (tPre ver kind (l, 0))).1 (cRaw ver kind (tPre ver kind (l, 0))).2 w (.returned (.tuple #[rc c, .int .i64 (n : Nat)])) w') := Lib.hid fun c n w' h1 h2 h3 => by rw [HV.out]; exact ⟨c, n, rfl, h1, h2, h3⟩
  have hql := h.lt
  have HQL := Lib.hid hql
  have hg6 : ((w.alloc (.cells #[.int .u8 0, .int .u8 0, .int .i64 0, .int .u64 0, .int .u64 0, .string ⟨#[]⟩] 76)).alloc (.cells #[.int .u8 0, .int .u8 0, .int .i64 0, .int .u64 0, .int .u64 0, .string ⟨#[]⟩] 76)).heap[w.heap.size]? = _ := heap_alloc2_old w _ _
  have hq : ((w.alloc (.cells #[.int .u8 0, .int .u8 0, .int .i64 0, .int .u64 0, .int .u64 0, .string ⟨#[]⟩] 76)).alloc (.cells #[.int .u8 0, .int .u8 0, .int .i64 0, .int .u64 0, .int .u64 0, .string ⟨#[]⟩] 76)).heap[(w.heap.size + 1)]? = _ := heap_alloc2_new w _ _
  have HQ := Lib.hid hq
  obtain ⟨W3, hW3⟩ : ∃ W3, W3 = ((w.alloc (.cells #[.int .u8 0, .int .u8 0, .int .i64 0, .int .u64 0, .int .u64 0, .string ⟨#[]⟩] 76)).alloc (.cells #[.int .u8 0, .int .u8 0, .int .i64 0, .int .u64 0, .int .u64 0, .string ⟨#[]⟩] 76)).setRow (w.heap.size + 1) #[.int .u8 2, .int .u8 (kind : Nat), .int .i64 0, .int .u64 0, .int .u64 0, .string ⟨#[]⟩] := ⟨_, rfl⟩
  have hx3 : Ext w W3 := by rw [hW3]; exact (((Ch.refl _ _).alloc _).alloc _).setRow (.inr (by omega)) _
  have HZ3 : Hid (W3.heap[w.heap.size]? = some (.cells #[.int .u8 0, .int .u8 0, .int .i64 0, .int .u64 0, .int .u64 0, .string ⟨#[]⟩] 76 (0, 0))) := Lib.hid (by rw [hW3, setRow_other _ _ _ _ (by omega)]; exact hg6)
  have HR3 : Hid (W3.heap[(w.heap.size + 1)]? = some (.cells #[.int .u8 2, .int .u8 (kind : Nat), .int .i64 0, .int .u64 0, .int .u64 0, .string ⟨#[]⟩] 76 (0, 0))) := Lib.hid (by rw [hW3]; exact setRow_heap _ _ _ _ _ _ hq)
  have HX3 : Hid (Only q w W3) := Lib.hid hx3.ch
  have HI3 := Lib.hid (h.ext hx3)
  have HW3 := Lib.hid hW3
  have hb1 := fun w => build54_1 w kind
  have hb2 := fun w => buildRC_2 w kind
  clear hq hx3 hg6 hW3
  have HU := Lib.hid (qbyte_any q (l, 0) W3 HI3.out)
  generalize (byteR (l, 0)).1 = b at *
  generalize (byteR (l, 0)).2 = s1 at *
  have HERR := Lib.hid he
  have HTX := Lib.hid (fun w => rTexty_any kind w)
  rw [ht] at HTX
  subst hb
  have HTT := Lib.hid (fun w h => qtext_any q s1 64 w h (by decide))
  unfold hereR at HP
  simp only at HP
  rw [show takeR (uintR 64 s1).1 (uintR 64 s1).2 = textR 64 s1 from rfl] at HP
  have h64 : ((64 : Int)).toNat = 64 := rfl
  rw [h64] at HTT
  unfold strV at HTT
  generalize (textR 64 s1).1 = t at *
  generalize (textR 64 s1).2 = s5 at *
  have HRI := Lib.hid (fun w => rright_any ⟨kind, 0, 0, 0, t⟩ w)
  generalize vErr ⟨kind, 0, 0, 0, t⟩ = er at *
  subst h1
  have hk1 := hk.1
  have hk6 := hk.2
  clear hk
  clear h hql hp he hv ht HV h64
  unfold QPtr at *
  go_enter Tryz.func58, Tryz.ntmps58
  go_wp2_with (first
    | (refine wpList_store_rowTo rfl _ _ _ rfl rfl (w.heap.size + 1) #[.int .u8 2, .int .u8 (kind : Nat), .int .i64 0, .int .u64 0, .int .u64 0, .string ⟨#[]⟩] rfl rfl _ _ HQ.out infoRC rfl (by simp [Value.oneCell']) ?_; rw [← HW3.out])
    | (go_at_call 83; refine HU.out.mono ?_))
  rintro e w1 ⟨rfl, k1, k2⟩
  have HX1 := Lib.hid (HX3.out.trans k1); have HI1 := Lib.hid k2
  have HZ1 := Lib.hid (heap_of_only k1 (by have := HQL.out; omega) HZ3.out); have HR1 := Lib.hid (heap_of_only k1 (by have := HQL.out; omega) HR3.out)
  clear k1 k2
  obtain ⟨_, _, _, _, _, _, ce, _⟩ := HI1.out.cells
  have eb : (s1.2 != 0) = false := by simpa using HERR.out
  go_wp2_with (first
    | (go_at_call 60; refine (HTX.out _).mono ?_; rintro e w' ⟨rfl, rfl⟩)
    | (go_at_call 86; refine (HTT.out _ HI1.out).mono ?_))
  rintro e w4 ⟨rfl, k1, k2⟩
  have HX4 := Lib.hid (HX1.out.trans k1); have HI4 := Lib.hid k2
  have HZ4 := Lib.hid (heap_of_only k1 (by have := HQL.out; omega) HZ1.out); have HR4 := Lib.hid (heap_of_only k1 (by have := HQL.out; omega) HR1.out)
  clear k1 k2
  have d5 : w4.cell? ⟨w.heap.size + 1, 5, none⟩ = some (.string ⟨#[]⟩) := by rw [cell_of_row _ _ _ _ _ _ HR4.out]; rfl
  have f5 := frozen_of_row w4 (w.heap.size + 1) 5 _ _ HR4.out
  obtain ⟨W5, hW5⟩ : ∃ W5, W5 = w4.setCell ⟨w.heap.size + 1, 5, none⟩ (strV t) := ⟨_, rfl⟩
  have HR5 : Hid (RRow W5 (w.heap.size + 1) ⟨2, ⟨kind, 0, 0, 0, t⟩⟩) := Lib.hid (by unfold RRow; rw [hW5]; exact heap_setCell_same w4 (w.heap.size + 1) 5 _ _ _ HR4.out)
  have HZ5 : Hid (W5.heap[w.heap.size]? = some (.cells #[.int .u8 0, .int .u8 0, .int .i64 0, .int .u64 0, .int .u64 0, .string ⟨#[]⟩] 76 (0, 0))) := Lib.hid (by rw [hW5, heap_setCell_other w4 ⟨w.heap.size + 1, 5, none⟩ w.heap.size _ (by simp)]; exact HZ4.out)
  have HI5 : Hid (IsQ W5 q s5) := Lib.hid (by rw [hW5]; exact HI4.out.setElse d5 (noByte_string _) (by have := HQL.out; show q ≠ w.heap.size + 1; omega) _)
  have HX5 : Hid (Only q w W5) := Lib.hid (by rw [hW5]; exact HX4.out.setCell (.inr (by show w.heap.size ≤ w.heap.size + 1; omega)) _)
  unfold strV at hW5
  have HW5 := Lib.hid hW5
  clear hW5
  go_wp2_with (first
    | ((try rw [← HW5.out]); refine wpList_load_run rfl _ _ rfl rfl HR5.out.value ?_)
    | (go_at_call 61; refine (HRI.out _).mono ?_))
  intro e w6 hm
  obtain ⟨rfl, k1⟩ := hm
  have HX6 := Lib.hid (HX5.out.trans k1.ch); have HI6 := Lib.hid (HI5.out.ext k1); have HZ6 := Lib.hid (heap_of_ext k1 HZ5.out); have HR6 := Lib.hid (HR5.out.ext k1)
  clear k1 d5 f5
  by_cases hev : er = 0
  · have e9 : (((er : Nat) : Int) != 0) = false := by rw [hev]; rfl
    have HEV := Lib.hid hev
    clear hev
    go_wp2_with (first
      | (refine wpList_load_row rfl _ _ rfl (w.heap.size + 1) rfl _ _ _ _ HR6.out Tryz.underlying76 rfl infoRC ?_)
      | (refine wpList_store_rowTo rfl _ _ _ rfl rfl w.heap.size (rcv ⟨2, ⟨kind, 0, 0, 0, t⟩⟩) rfl rfl _ _ HZ6.out infoRC rfl (by simp [Value.oneCell', rcv, strV]) ?_))
    refine bodyPost_ret (results_cell2 rfl _ _ w.heap.size _ (rcv ⟨2, ⟨kind, 0, 0, 0, t⟩⟩) _ _ rfl (setRow_heap _ _ _ _ _ _ HZ6.out) Tryz.underlying76 rfl infoRC) rfl ?_
    exact HP.out ⟨2, ⟨kind, 0, 0, 0, t⟩⟩ 0 _ (HX6.out.setRow (.inr (Nat.le_refl _)) _) (((show IsQ w6 q (failR s5 (er : Nat)) from by rw [HEV.out, show failR s5 ((0 : Nat) : Int) = s5 from failR_zero s5]; exact HI6.out)).aboveT ((Ch.refl _ _).setRow (.inl (by have := HQL.out; omega)) _)) (fun _ => rfl)
  · have e9 : (((er : Nat) : Int) != 0) = true := by simp; omega
    clear hev
    have HF9 := Lib.hid (giveUp_any q s5 (er : Nat) _ HI6.out)
    unfold QPtr at HF9
    go_wp2_with (go_at_call 32; refine HF9.out.mono ?_)
    rintro e w7 ⟨rfl, k1, k2⟩
    have HX7 := Lib.hid (HX6.out.trans k1); have HI7 := Lib.hid k2
    have HZ7 := Lib.hid (heap_of_only k1 (by have := HQL.out; omega) HZ6.out); have HR7 := Lib.hid (heap_of_only k1 (by have := HQL.out; omega) HR6.out)
    clear k1 k2
    go_wp2_with (first
      | (refine wpList_load_row rfl _ _ rfl (w.heap.size + 1) rfl _ _ _ _ HR7.out Tryz.underlying76 rfl infoRC ?_)
      | (refine wpList_store_rowTo rfl _ _ _ rfl rfl w.heap.size (rcv ⟨2, ⟨kind, 0, 0, 0, t⟩⟩) rfl rfl _ _ HZ7.out infoRC rfl (by simp [Value.oneCell', rcv, strV]) ?_))
    refine bodyPost_ret (results_cell2 rfl _ _ w.heap.size _ (rcv ⟨2, ⟨kind, 0, 0, 0, t⟩⟩) _ _ rfl (setRow_heap _ _ _ _ _ _ HZ7.out) Tryz.underlying76 rfl infoRC) rfl ?_
    exact HP.out ⟨2, ⟨kind, 0, 0, 0, t⟩⟩ 0 _ (HX7.out.setRow (.inr (Nat.le_refl _)) _) ((HI7.out).aboveT ((Ch.refl _ _).setRow (.inl (by have := HQL.out; omega)) _)) (fun _ => rfl)
set_option maxRecDepth 20000 in
set_option maxHeartbeats 3000000 in
theorem rtake_v1_1F (q : Nat) (l : List UInt8) (kind ver : Nat) (w : World) (h : IsQ w q (l, 0)) (hv : ver = 1 ∨ ver = 2) (hk : 1 ≤ kind ∧ kind ≤ 6) (h1 : ver = 1) (he : (byteR (l, 0)).2.2 = 0) (hb : (byteR (l, 0)).1 = 1) (ht : texty kind = false) :
    Calls Tryz.prog 58 #[QPtr q, .int .u8 (kind : Nat), .int .u8 (ver : Nat)] w (CqPost q (cRaw ver kind (tPre ver kind (l, 0))).1 (cRaw ver kind (tPre ver kind (l, 0))).2 w) := by
  have hp : tPre ver kind (l, 0) = (l, 0) := tPre_ok (l, 0) hv hk.1 hk.2
  have HV : Hid (cRaw ver kind (tPre ver kind (l, 0)) = ((Cel.mk 2 (vTake 1 kind ((byteR (l, 0)).2)).1, 0), (vTake 1 kind ((byteR (l, 0)).2)).2)) := Lib.hid (by rw [hp, h1, cRaw_1]; have hh : headR kind (l, 0) = (byteR (l, 0)).2 := (by unfold headR; rw [if_neg (by rintro (h | h) <;> omega)]); unfold partedR; rw [hh]; rw [if_neg (by omega), if_neg (by omega), if_neg (by rw [ht]; simp)])
  have HP : Hid (∀ (c : Cel) (n : Nat) w', Only q w w' → IsQ w' q (((Cel.mk 2 (vTake 1 kind ((byteR (l, 0)).2)).1, 0), (vTake 1 kind ((byteR (l, 0)).2)).2)).2 → ((((Cel.mk 2 (vTake 1 kind ((byteR (l, 0)).2)).1, 0), (vTake 1 kind ((byteR (l, 0)).2)).2)).2.2 = 0 → (c, n) = (((Cel.mk 2 (vTake 1 kind ((byteR (l, 0)).2)).1, 0), (vTake 1 kind ((byteR (l, 0)).2)).2)).1) → CqPost q (cRaw ver kind (tPre ver kind (l, 0))).1 (cRaw ver kind (tPre ver kind (l, 0))).2 w (.returned (.tuple #[rc c, .int .i64 (n : Nat)])) w') := Lib.hid fun c n w' h1 h2 h3 => by rw [HV.out]; exact ⟨c, n, rfl, h1, h2, h3⟩
  have hql := h.lt
  have HQL := Lib.hid hql
  have hg6 : ((w.alloc (.cells #[.int .u8 0, .int .u8 0, .int .i64 0, .int .u64 0, .int .u64 0, .string ⟨#[]⟩] 76)).alloc (.cells #[.int .u8 0, .int .u8 0, .int .i64 0, .int .u64 0, .int .u64 0, .string ⟨#[]⟩] 76)).heap[w.heap.size]? = _ := heap_alloc2_old w _ _
  have hq : ((w.alloc (.cells #[.int .u8 0, .int .u8 0, .int .i64 0, .int .u64 0, .int .u64 0, .string ⟨#[]⟩] 76)).alloc (.cells #[.int .u8 0, .int .u8 0, .int .i64 0, .int .u64 0, .int .u64 0, .string ⟨#[]⟩] 76)).heap[(w.heap.size + 1)]? = _ := heap_alloc2_new w _ _
  have HQ := Lib.hid hq
  obtain ⟨W3, hW3⟩ : ∃ W3, W3 = ((w.alloc (.cells #[.int .u8 0, .int .u8 0, .int .i64 0, .int .u64 0, .int .u64 0, .string ⟨#[]⟩] 76)).alloc (.cells #[.int .u8 0, .int .u8 0, .int .i64 0, .int .u64 0, .int .u64 0, .string ⟨#[]⟩] 76)).setRow (w.heap.size + 1) #[.int .u8 2, .int .u8 (kind : Nat), .int .i64 0, .int .u64 0, .int .u64 0, .string ⟨#[]⟩] := ⟨_, rfl⟩
  have hx3 : Ext w W3 := by rw [hW3]; exact (((Ch.refl _ _).alloc _).alloc _).setRow (.inr (by omega)) _
  have HZ3 : Hid (W3.heap[w.heap.size]? = some (.cells #[.int .u8 0, .int .u8 0, .int .i64 0, .int .u64 0, .int .u64 0, .string ⟨#[]⟩] 76 (0, 0))) := Lib.hid (by rw [hW3, setRow_other _ _ _ _ (by omega)]; exact hg6)
  have HR3 : Hid (W3.heap[(w.heap.size + 1)]? = some (.cells #[.int .u8 2, .int .u8 (kind : Nat), .int .i64 0, .int .u64 0, .int .u64 0, .string ⟨#[]⟩] 76 (0, 0))) := Lib.hid (by rw [hW3]; exact setRow_heap _ _ _ _ _ _ hq)
  have HX3 : Hid (Only q w W3) := Lib.hid hx3.ch
  have HI3 := Lib.hid (h.ext hx3)
  have HW3 := Lib.hid hW3
  have hb1 := fun w => build54_1 w kind
  have hb2 := fun w => buildRC_2 w kind
  clear hq hx3 hg6 hW3
  have HU := Lib.hid (qbyte_any q (l, 0) W3 HI3.out)
  generalize (byteR (l, 0)).1 = b at *
  generalize (byteR (l, 0)).2 = s1 at *
  have HERR := Lib.hid he
  have HTX := Lib.hid (fun w => rTexty_any kind w)
  rw [ht] at HTX
  subst hb
  have HTK := Lib.hid (fun w h => qtake_val q s1 1 kind w h)
  generalize (vTake 1 kind s1).1 = tv at *
  generalize (vTake 1 kind s1).2 = s5 at *
  subst h1
  have hk1 := hk.1
  have hk6 := hk.2
  clear hk
  clear h hql hp he hv ht HV
  unfold QPtr at *
  go_enter Tryz.func58, Tryz.ntmps58
  go_wp2_with (first
    | (refine wpList_store_rowTo rfl _ _ _ rfl rfl (w.heap.size + 1) #[.int .u8 2, .int .u8 (kind : Nat), .int .i64 0, .int .u64 0, .int .u64 0, .string ⟨#[]⟩] rfl rfl _ _ HQ.out infoRC rfl (by simp [Value.oneCell']) ?_; rw [← HW3.out])
    | (go_at_call 83; refine HU.out.mono ?_))
  rintro e w1 ⟨rfl, k1, k2⟩
  have HX1 := Lib.hid (HX3.out.trans k1); have HI1 := Lib.hid k2
  have HZ1 := Lib.hid (heap_of_only k1 (by have := HQL.out; omega) HZ3.out); have HR1 := Lib.hid (heap_of_only k1 (by have := HQL.out; omega) HR3.out)
  clear k1 k2
  obtain ⟨_, _, _, _, _, _, ce, _⟩ := HI1.out.cells
  have eb : (s1.2 != 0) = false := by simpa using HERR.out
  go_wp2_with (first
    | (go_at_call 60; refine (HTX.out _).mono ?_; rintro e w' ⟨rfl, rfl⟩)
    | (go_at_call 85; refine (HTK.out _ HI1.out).mono ?_))
  rintro e w4 ⟨rfl, k1, k2⟩
  have HX4 := Lib.hid (HX1.out.trans k1); have HI4 := Lib.hid k2
  have HZ4 := Lib.hid (heap_of_only k1 (by have := HQL.out; omega) HZ1.out); have HR4 := Lib.hid (heap_of_only k1 (by have := HQL.out; omega) HR1.out)
  clear k1 k2
  obtain ⟨W5, hW5⟩ : ∃ W5, W5 = w4.setCells (w.heap.size + 1) 1 (rvals tv).toList := ⟨_, rfl⟩
  have HR5 : Hid (W5.heap[w.heap.size + 1]? = some (.cells (rcv ⟨2, tv⟩) 76 (0, 0))) := Lib.hid (by rw [hW5]; exact setCells5 HR4.out)
  have hk5 : Ch (fun i => i = w.heap.size + 1) w4 W5 := by rw [hW5]; exact ch_setCells5 (M := fun i => i = w.heap.size + 1) w4 (w.heap.size + 1) rfl _ _ _ _ _
  have HZ5 := Lib.hid (heap_of_only hk5 (by omega) HZ4.out)
  have HI5 : Hid (IsQ W5 q s5) := Lib.hid (HI4.out.aboveT (hk5.mono fun j _ h => by have := HQL.out; omega))
  have HX5 : Hid (Only q w W5) := Lib.hid (by
    rw [hW5]
    exact (((((HX4.out.setCell (p := ⟨w.heap.size + 1, 1, none⟩) (.inr (Nat.le_succ _)) _).setCell (p := ⟨w.heap.size + 1, 2, none⟩) (.inr (Nat.le_succ _)) _).setCell (p := ⟨w.heap.size + 1, 3, none⟩) (.inr (Nat.le_succ _)) _).setCell (p := ⟨w.heap.size + 1, 4, none⟩) (.inr (Nat.le_succ _)) _).setCell (p := ⟨w.heap.size + 1, 5, none⟩) (.inr (Nat.le_succ _)) _))
  have HTH : Hid (w4.there (w.heap.size + 1) 1 (rvals tv).size) := Lib.hid fun j hj => by
    have hj5 : j < 5 := hj
    have hjc : 1 + j < 6 := by omega
    refine ⟨?_, frozen_of_row w4 (w.heap.size + 1) (1 + j) _ _ HR4.out⟩
    rw [cell_of_row _ _ _ _ _ _ HR4.out]
    match j, hj5 with
    | 0, _ => rfl
    | 1, _ => rfl
    | 2, _ => rfl
    | 3, _ => rfl
    | 4, _ => rfl
  have HW5 := Lib.hid hW5
  clear hW5 hk5
  go_wp2_with (first
    | (refine wpList_store_mid rfl _ _ _ rfl (w.heap.size + 1) 1 (rvals tv) rfl rfl HTH.out infoRV (by simp [rvals, strV, Value.oneCell']) ?_; rw [← HW5.out])
    | (refine wpList_load_row rfl _ _ rfl (w.heap.size + 1) rfl _ _ _ _ HR5.out Tryz.underlying76 rfl infoRC ?_)
    | (refine wpList_store_rowTo rfl _ _ _ rfl rfl w.heap.size (rcv ⟨2, tv⟩) rfl rfl _ _ HZ5.out infoRC rfl (by simp [Value.oneCell', rcv, strV]) ?_))
  refine bodyPost_ret (results_cell2 rfl _ _ w.heap.size _ (rcv ⟨2, tv⟩) _ _ rfl (setRow_heap _ _ _ _ _ _ HZ5.out) Tryz.underlying76 rfl infoRC) rfl ?_
  exact HP.out ⟨2, tv⟩ 0 _ (HX5.out.setRow (.inr (Nat.le_refl _)) _) ((HI5.out).aboveT ((Ch.refl _ _).setRow (.inl (by have := HQL.out; omega)) _)) (fun _ => rfl)
set_option maxRecDepth 20000 in
set_option maxHeartbeats 3000000 in
theorem rtake_v1_2T (q : Nat) (l : List UInt8) (kind ver : Nat) (w : World) (h : IsQ w q (l, 0)) (hv : ver = 1 ∨ ver = 2) (hk : 1 ≤ kind ∧ kind ≤ 6) (h1 : ver = 1) (he : (byteR (l, 0)).2.2 = 0) (hb : (byteR (l, 0)).1 = 2) (ht : texty kind = true) :
    Calls Tryz.prog 58 #[QPtr q, .int .u8 (kind : Nat), .int .u8 (ver : Nat)] w (CqPost q (cRaw ver kind (tPre ver kind (l, 0))).1 (cRaw ver kind (tPre ver kind (l, 0))).2 w) := by
  have hp : tPre ver kind (l, 0) = (l, 0) := tPre_ok (l, 0) hv hk.1 hk.2
  have HV : Hid (cRaw ver kind (tPre ver kind (l, 0)) = ((bigC kind, (awayR ((byteR (l, 0)).2)).1), (awayR ((byteR (l, 0)).2)).2)) := Lib.hid (by rw [hp, h1, cRaw_1]; have hh : headR kind (l, 0) = (byteR (l, 0)).2 := (by unfold headR; rw [if_neg (by rintro (h | h) <;> first | omega | (rw [ht] at h; simp at h))]); unfold partedR; rw [hh]; rw [if_neg (by omega), if_pos hb])
  have HP : Hid (∀ (c : Cel) (n : Nat) w', Only q w w' → IsQ w' q (((bigC kind, (awayR ((byteR (l, 0)).2)).1), (awayR ((byteR (l, 0)).2)).2)).2 → ((((bigC kind, (awayR ((byteR (l, 0)).2)).1), (awayR ((byteR (l, 0)).2)).2)).2.2 = 0 → (c, n) = (((bigC kind, (awayR ((byteR (l, 0)).2)).1), (awayR ((byteR (l, 0)).2)).2)).1) → CqPost q (cRaw ver kind (tPre ver kind (l, 0))).1 (cRaw ver kind (tPre ver kind (l, 0))).2 w (.returned (.tuple #[rc c, .int .i64 (n : Nat)])) w') := Lib.hid fun c n w' h1 h2 h3 => by rw [HV.out]; exact ⟨c, n, rfl, h1, h2, h3⟩
  have hql := h.lt
  have HQL := Lib.hid hql
  have hg6 : ((w.alloc (.cells #[.int .u8 0, .int .u8 0, .int .i64 0, .int .u64 0, .int .u64 0, .string ⟨#[]⟩] 76)).alloc (.cells #[.int .u8 0, .int .u8 0, .int .i64 0, .int .u64 0, .int .u64 0, .string ⟨#[]⟩] 76)).heap[w.heap.size]? = _ := heap_alloc2_old w _ _
  have hq : ((w.alloc (.cells #[.int .u8 0, .int .u8 0, .int .i64 0, .int .u64 0, .int .u64 0, .string ⟨#[]⟩] 76)).alloc (.cells #[.int .u8 0, .int .u8 0, .int .i64 0, .int .u64 0, .int .u64 0, .string ⟨#[]⟩] 76)).heap[(w.heap.size + 1)]? = _ := heap_alloc2_new w _ _
  have HQ := Lib.hid hq
  obtain ⟨W3, hW3⟩ : ∃ W3, W3 = ((w.alloc (.cells #[.int .u8 0, .int .u8 0, .int .i64 0, .int .u64 0, .int .u64 0, .string ⟨#[]⟩] 76)).alloc (.cells #[.int .u8 0, .int .u8 0, .int .i64 0, .int .u64 0, .int .u64 0, .string ⟨#[]⟩] 76)).setRow (w.heap.size + 1) #[.int .u8 2, .int .u8 (kind : Nat), .int .i64 0, .int .u64 0, .int .u64 0, .string ⟨#[]⟩] := ⟨_, rfl⟩
  have hx3 : Ext w W3 := by rw [hW3]; exact (((Ch.refl _ _).alloc _).alloc _).setRow (.inr (by omega)) _
  have HZ3 : Hid (W3.heap[w.heap.size]? = some (.cells #[.int .u8 0, .int .u8 0, .int .i64 0, .int .u64 0, .int .u64 0, .string ⟨#[]⟩] 76 (0, 0))) := Lib.hid (by rw [hW3, setRow_other _ _ _ _ (by omega)]; exact hg6)
  have HR3 : Hid (W3.heap[(w.heap.size + 1)]? = some (.cells #[.int .u8 2, .int .u8 (kind : Nat), .int .i64 0, .int .u64 0, .int .u64 0, .string ⟨#[]⟩] 76 (0, 0))) := Lib.hid (by rw [hW3]; exact setRow_heap _ _ _ _ _ _ hq)
  have HX3 : Hid (Only q w W3) := Lib.hid hx3.ch
  have HI3 := Lib.hid (h.ext hx3)
  have HW3 := Lib.hid hW3
  have hb1 := fun w => build54_1 w kind
  have hb2 := fun w => buildRC_2 w kind
  clear hq hx3 hg6 hW3
  have HU := Lib.hid (qbyte_any q (l, 0) W3 HI3.out)
  generalize (byteR (l, 0)).1 = b at *
  generalize (byteR (l, 0)).2 = s1 at *
  have HERR := Lib.hid he
  have HTX := Lib.hid (fun w => rTexty_any kind w)
  rw [ht] at HTX
  subst hb
  have HLA := Lib.hid (fun w h => qlarge_any q s1 w h)
  generalize (awayR s1).1 = n at *
  generalize (awayR s1).2 = s9 at *
  subst h1
  have hk1 := hk.1
  have hk6 := hk.2
  clear hk
  clear h hql hp he hv ht HV
  unfold QPtr at *
  go_enter Tryz.func58, Tryz.ntmps58
  go_wp2_with (first
    | (refine wpList_store_rowTo rfl _ _ _ rfl rfl (w.heap.size + 1) #[.int .u8 2, .int .u8 (kind : Nat), .int .i64 0, .int .u64 0, .int .u64 0, .string ⟨#[]⟩] rfl rfl _ _ HQ.out infoRC rfl (by simp [Value.oneCell']) ?_; rw [← HW3.out])
    | (go_at_call 83; refine HU.out.mono ?_))
  rintro e w1 ⟨rfl, k1, k2⟩
  have HX1 := Lib.hid (HX3.out.trans k1); have HI1 := Lib.hid k2
  have HZ1 := Lib.hid (heap_of_only k1 (by have := HQL.out; omega) HZ3.out); have HR1 := Lib.hid (heap_of_only k1 (by have := HQL.out; omega) HR3.out)
  clear k1 k2
  obtain ⟨_, _, _, _, _, _, ce, _⟩ := HI1.out.cells
  have eb : (s1.2 != 0) = false := by simpa using HERR.out
  go_wp2_with (first
    | (go_at_call 60; refine (HTX.out _).mono ?_; rintro e w' ⟨rfl, rfl⟩))
  refine wp_region_act (larT q n kind) (larS q w.heap.size (w.heap.size + 1) kind s1 s9 w1) mixedV (by rfl) (by rfl) (larS.start HR1.out HI1.out HZ1.out) ?all ?fin
  case all =>
    refine ⟨?_, ?_, ?_, ?_, ?_, trivial⟩
    · intro x w' L hsz hS hi hd hf hval hcl
      refine ⟨fun _ => ?_, fun hn => by simp [wantedBy] at hn⟩
      have h8 : x.eval (.tmp 8) = .pointer (some ⟨w.heap.size + 1, 0, none⟩) := (hf 8).2 rfl rfl
      refine (Exec.kloadmid (T := fun _ => .is (rc (bigC kind))) (d := 62) rfl rfl h8 (RRow.whole (show RRow w' (w.heap.size + 1) (bigC kind) from hS.r8)) rfl).mono ?_
      rintro u w'' ⟨k1, hx⟩
      exact ⟨fun d hd => by cases hd; exact k1 62 rfl, fun j p d hj hL hd => hval j p hj hL d hd, hS.ext hx (by simp) (by simp)⟩
    · intro x w' L hsz hS hi hd hf hval hcl
      refine ⟨fun _ => ?_, fun hn => by simp [wantedBy] at hn⟩
      have h0 : x.eval (.tmp 0) = .pointer (some ⟨q, 0, none⟩) := (hf 0).2 rfl rfl
      refine (Exec.kmove (T := fun _ => .is (.pointer (some ⟨q, 0, none⟩))) (d := 63) rfl rfl h0).mono ?_
      rintro u w'' ⟨k1, hx⟩
      exact ⟨fun d hd => by cases hd; exact k1 63 rfl, fun j p d hj hL hd => hval j p hj hL d hd, hS.ext hx (by simp) (by simp)⟩
    · intro x w' L hsz hS hi hd hf hval hcl
      refine ⟨fun _ => ?_, fun hn => by simp [wantedBy] at hn⟩
      have h63 : x.eval (.tmp 63) = .pointer (some ⟨q, 0, none⟩) := (hf 63).1 rfl
      refine Exec.call #[QPtr q] (env_eval x) rfl (by simp [h63, QPtr]) Tryz.func84 (by rfl) rfl ?_
      refine Calls.mono (HLA.out w' (hS.bef hi)) ?_
      rintro e w'' ⟨rfl, k1, k2⟩
      exact ⟨_, rfl, fun d hd => by cases hd; exact rfl, fun j p d hj hL hd => hval j p hj hL d hd,
        ⟨hS.ch.trans (k1.mono fun _ _ h => .inl h), heap_of_only k1 (by have := HQL.out; omega) hS.r8, fun h => absurd h (by simp), fun _ => k2, by simpa using heap_of_only k1 (by have := HQL.out; omega) hS.r6⟩⟩
    · intro x w' L hsz hS hi hd hf hval hcl
      refine ⟨fun _ => ?_, fun hn => by simp [wantedBy] at hn⟩
      have h6 : x.eval (.tmp 6) = .pointer (some ⟨w.heap.size, 0, none⟩) := (hf 6).2 rfl rfl
      have h62 : x.eval (.tmp 62) = rc (bigC kind) := (hf 62).1 rfl
      have d2 : L 2 = true := hd 2 (by decide)
      refine (Exec.kstorerow rfl h6 h62 hS.r6 infoRC (by split <;> rfl) (rcv_one _)).mono ?_
      rintro _ w'' rfl
      exact ⟨(fun d hd => by cases hd), fun j p d hj hL hd => hval j p hj hL d hd,
        ⟨hS.ch.setRow (.inl (.inr rfl)) _, by rw [setRow_other _ _ _ _ (by omega)]; exact hS.r8, fun h => absurd h (by simp [d2]), fun _ => (hS.aft d2).aboveT ((Ch.refl _ _).setRow (.inl (by have := HQL.out; omega)) _), by simpa using setRow_heap _ _ _ _ _ _ hS.r6⟩⟩
    · intro x w' L hsz hS hi hd hf hval hcl
      refine ⟨fun _ => ?_, fun hn => by simp [wantedBy] at hn⟩
      have h64 : x.eval (.tmp 64) = .int .i64 (n : Nat) := (hf 64).1 rfl
      refine (Exec.kassign (T := fun _ => .is (.int .i64 (n : Nat))) (d := 7) rfl rfl h64).mono ?_
      rintro u w'' ⟨k1, hx⟩
      exact ⟨fun d hd => by cases hd; exact k1 7 rfl, fun j p d hj hL hd => hval j p hj hL d hd, hS.ext hx (by simp) (by simp)⟩
  case fin =>
    intro ν w8 hV hS
    have h7 : ν 7 = .int .i64 (n : Nat) := hV _ (List.mem_of_getElem? (i := 4) rfl) 7 rfl
    simp only [Exit.then, ended, List.foldl_cons, List.foldl_nil, List.setIfInBounds_toArray, List.set_cons_succ, List.set_cons_zero, h7]
    have HS8 := Lib.hid hS
    have HX8 : Hid (Only q w w8) := Lib.hid (by
      exact Ch.transNew HX1.out (hS.ch.mono fun i _ h => h.elim .inl fun e => .inr (by omega)))
    clear hV hS h7
    go_wp2
    refine bodyPost_ret (results_cell2 rfl _ _ w.heap.size _ (rcv (bigC kind)) _ _ rfl (by simpa using HS8.out.r6) Tryz.underlying76 rfl infoRC) rfl ?_
    exact HP.out (bigC kind) n _ HX8.out (HS8.out.aft (by simp)) (fun _ => rfl)
set_option maxRecDepth 20000 in
set_option maxHeartbeats 3000000 in
theorem rtake_v1_2F (q : Nat) (l : List UInt8) (kind ver : Nat) (w : World) (h : IsQ w q (l, 0)) (hv : ver = 1 ∨ ver = 2) (hk : 1 ≤ kind ∧ kind ≤ 6) (h1 : ver = 1) (he : (byteR (l, 0)).2.2 = 0) (hb : (byteR (l, 0)).1 = 2) (ht : texty kind = false) :
    Calls Tryz.prog 58 #[QPtr q, .int .u8 (kind : Nat), .int .u8 (ver : Nat)] w (CqPost q (cRaw ver kind (tPre ver kind (l, 0))).1 (cRaw ver kind (tPre ver kind (l, 0))).2 w) := by
  have hp : tPre ver kind (l, 0) = (l, 0) := tPre_ok (l, 0) hv hk.1 hk.2
  have HV : Hid (cRaw ver kind (tPre ver kind (l, 0)) = ((bigC kind, (awayR (failR (byteR (l, 0)).2 7)).1), (awayR (failR (byteR (l, 0)).2 7)).2)) := Lib.hid (by rw [hp, h1, cRaw_1]; have hh : headR kind (l, 0) = failR (byteR (l, 0)).2 7 := (by unfold headR; rw [if_pos (by exact .inr ⟨by omega, ht⟩)]); unfold partedR; rw [hh]; rw [if_neg (by omega), if_pos hb])
  have HP : Hid (∀ (c : Cel) (n : Nat) w', Only q w w' → IsQ w' q (((bigC kind, (awayR (failR (byteR (l, 0)).2 7)).1), (awayR (failR (byteR (l, 0)).2 7)).2)).2 → ((((bigC kind, (awayR (failR (byteR (l, 0)).2 7)).1), (awayR (failR (byteR (l, 0)).2 7)).2)).2.2 = 0 → (c, n) = (((bigC kind, (awayR (failR (byteR (l, 0)).2 7)).1), (awayR (failR (byteR (l, 0)).2 7)).2)).1) → CqPost q (cRaw ver kind (tPre ver kind (l, 0))).1 (cRaw ver kind (tPre ver kind (l, 0))).2 w (.returned (.tuple #[rc c, .int .i64 (n : Nat)])) w') := Lib.hid fun c n w' h1 h2 h3 => by rw [HV.out]; exact ⟨c, n, rfl, h1, h2, h3⟩
  have hql := h.lt
  have HQL := Lib.hid hql
  have hg6 : ((w.alloc (.cells #[.int .u8 0, .int .u8 0, .int .i64 0, .int .u64 0, .int .u64 0, .string ⟨#[]⟩] 76)).alloc (.cells #[.int .u8 0, .int .u8 0, .int .i64 0, .int .u64 0, .int .u64 0, .string ⟨#[]⟩] 76)).heap[w.heap.size]? = _ := heap_alloc2_old w _ _
  have hq : ((w.alloc (.cells #[.int .u8 0, .int .u8 0, .int .i64 0, .int .u64 0, .int .u64 0, .string ⟨#[]⟩] 76)).alloc (.cells #[.int .u8 0, .int .u8 0, .int .i64 0, .int .u64 0, .int .u64 0, .string ⟨#[]⟩] 76)).heap[(w.heap.size + 1)]? = _ := heap_alloc2_new w _ _
  have HQ := Lib.hid hq
  obtain ⟨W3, hW3⟩ : ∃ W3, W3 = ((w.alloc (.cells #[.int .u8 0, .int .u8 0, .int .i64 0, .int .u64 0, .int .u64 0, .string ⟨#[]⟩] 76)).alloc (.cells #[.int .u8 0, .int .u8 0, .int .i64 0, .int .u64 0, .int .u64 0, .string ⟨#[]⟩] 76)).setRow (w.heap.size + 1) #[.int .u8 2, .int .u8 (kind : Nat), .int .i64 0, .int .u64 0, .int .u64 0, .string ⟨#[]⟩] := ⟨_, rfl⟩
  have hx3 : Ext w W3 := by rw [hW3]; exact (((Ch.refl _ _).alloc _).alloc _).setRow (.inr (by omega)) _
  have HZ3 : Hid (W3.heap[w.heap.size]? = some (.cells #[.int .u8 0, .int .u8 0, .int .i64 0, .int .u64 0, .int .u64 0, .string ⟨#[]⟩] 76 (0, 0))) := Lib.hid (by rw [hW3, setRow_other _ _ _ _ (by omega)]; exact hg6)
  have HR3 : Hid (W3.heap[(w.heap.size + 1)]? = some (.cells #[.int .u8 2, .int .u8 (kind : Nat), .int .i64 0, .int .u64 0, .int .u64 0, .string ⟨#[]⟩] 76 (0, 0))) := Lib.hid (by rw [hW3]; exact setRow_heap _ _ _ _ _ _ hq)
  have HX3 : Hid (Only q w W3) := Lib.hid hx3.ch
  have HI3 := Lib.hid (h.ext hx3)
  have HW3 := Lib.hid hW3
  have hb1 := fun w => build54_1 w kind
  have hb2 := fun w => buildRC_2 w kind
  clear hq hx3 hg6 hW3
  have HU := Lib.hid (qbyte_any q (l, 0) W3 HI3.out)
  generalize (byteR (l, 0)).1 = b at *
  generalize (byteR (l, 0)).2 = s1 at *
  have HERR := Lib.hid he
  have HTX := Lib.hid (fun w => rTexty_any kind w)
  rw [ht] at HTX
  subst hb
  have HF := Lib.hid (fun w h => giveUp_any q s1 7 w h)
  generalize failR s1 7 = s2 at *
  have HLA := Lib.hid (fun w h => qlarge_any q s2 w h)
  generalize (awayR s2).1 = n at *
  generalize (awayR s2).2 = s9 at *
  subst h1
  have hk1 := hk.1
  have hk6 := hk.2
  clear hk
  clear h hql hp he hv ht HV
  unfold QPtr at *
  go_enter Tryz.func58, Tryz.ntmps58
  go_wp2_with (first
    | (refine wpList_store_rowTo rfl _ _ _ rfl rfl (w.heap.size + 1) #[.int .u8 2, .int .u8 (kind : Nat), .int .i64 0, .int .u64 0, .int .u64 0, .string ⟨#[]⟩] rfl rfl _ _ HQ.out infoRC rfl (by simp [Value.oneCell']) ?_; rw [← HW3.out])
    | (go_at_call 83; refine HU.out.mono ?_))
  rintro e w1 ⟨rfl, k1, k2⟩
  have HX1 := Lib.hid (HX3.out.trans k1); have HI1 := Lib.hid k2
  have HZ1 := Lib.hid (heap_of_only k1 (by have := HQL.out; omega) HZ3.out); have HR1 := Lib.hid (heap_of_only k1 (by have := HQL.out; omega) HR3.out)
  clear k1 k2
  obtain ⟨_, _, _, _, _, _, ce, _⟩ := HI1.out.cells
  have eb : (s1.2 != 0) = false := by simpa using HERR.out
  go_wp2_with (first
    | (go_at_call 60; refine (HTX.out _).mono ?_; rintro e w' ⟨rfl, rfl⟩)
    | (go_at_call 32; refine (HF.out _ HI1.out).mono ?_))
  rintro e w2 ⟨rfl, k1, k2⟩
  have HX2 := Lib.hid (HX1.out.trans k1); have HI2 := Lib.hid k2
  have HZ2 := Lib.hid (heap_of_only k1 (by have := HQL.out; omega) HZ1.out); have HR2 := Lib.hid (heap_of_only k1 (by have := HQL.out; omega) HR1.out)
  clear k1 k2
  go_wp2_with (first
    | (go_at_call 60; refine (HTX.out _).mono ?_; rintro e w' ⟨rfl, rfl⟩))
  refine wp_region_act (larT q n kind) (larS q w.heap.size (w.heap.size + 1) kind s2 s9 w2) mixedV (by rfl) (by rfl) (larS.start HR2.out HI2.out HZ2.out) ?all ?fin
  case all =>
    refine ⟨?_, ?_, ?_, ?_, ?_, trivial⟩
    · intro x w' L hsz hS hi hd hf hval hcl
      refine ⟨fun _ => ?_, fun hn => by simp [wantedBy] at hn⟩
      have h8 : x.eval (.tmp 8) = .pointer (some ⟨w.heap.size + 1, 0, none⟩) := (hf 8).2 rfl rfl
      refine (Exec.kloadmid (T := fun _ => .is (rc (bigC kind))) (d := 62) rfl rfl h8 (RRow.whole (show RRow w' (w.heap.size + 1) (bigC kind) from hS.r8)) rfl).mono ?_
      rintro u w'' ⟨k1, hx⟩
      exact ⟨fun d hd => by cases hd; exact k1 62 rfl, fun j p d hj hL hd => hval j p hj hL d hd, hS.ext hx (by simp) (by simp)⟩
    · intro x w' L hsz hS hi hd hf hval hcl
      refine ⟨fun _ => ?_, fun hn => by simp [wantedBy] at hn⟩
      have h0 : x.eval (.tmp 0) = .pointer (some ⟨q, 0, none⟩) := (hf 0).2 rfl rfl
      refine (Exec.kmove (T := fun _ => .is (.pointer (some ⟨q, 0, none⟩))) (d := 63) rfl rfl h0).mono ?_
      rintro u w'' ⟨k1, hx⟩
      exact ⟨fun d hd => by cases hd; exact k1 63 rfl, fun j p d hj hL hd => hval j p hj hL d hd, hS.ext hx (by simp) (by simp)⟩
    · intro x w' L hsz hS hi hd hf hval hcl
      refine ⟨fun _ => ?_, fun hn => by simp [wantedBy] at hn⟩
      have h63 : x.eval (.tmp 63) = .pointer (some ⟨q, 0, none⟩) := (hf 63).1 rfl
      refine Exec.call #[QPtr q] (env_eval x) rfl (by simp [h63, QPtr]) Tryz.func84 (by rfl) rfl ?_
      refine Calls.mono (HLA.out w' (hS.bef hi)) ?_
      rintro e w'' ⟨rfl, k1, k2⟩
      exact ⟨_, rfl, fun d hd => by cases hd; exact rfl, fun j p d hj hL hd => hval j p hj hL d hd,
        ⟨hS.ch.trans (k1.mono fun _ _ h => .inl h), heap_of_only k1 (by have := HQL.out; omega) hS.r8, fun h => absurd h (by simp), fun _ => k2, by simpa using heap_of_only k1 (by have := HQL.out; omega) hS.r6⟩⟩
    · intro x w' L hsz hS hi hd hf hval hcl
      refine ⟨fun _ => ?_, fun hn => by simp [wantedBy] at hn⟩
      have h6 : x.eval (.tmp 6) = .pointer (some ⟨w.heap.size, 0, none⟩) := (hf 6).2 rfl rfl
      have h62 : x.eval (.tmp 62) = rc (bigC kind) := (hf 62).1 rfl
      have d2 : L 2 = true := hd 2 (by decide)
      refine (Exec.kstorerow rfl h6 h62 hS.r6 infoRC (by split <;> rfl) (rcv_one _)).mono ?_
      rintro _ w'' rfl
      exact ⟨(fun d hd => by cases hd), fun j p d hj hL hd => hval j p hj hL d hd,
        ⟨hS.ch.setRow (.inl (.inr rfl)) _, by rw [setRow_other _ _ _ _ (by omega)]; exact hS.r8, fun h => absurd h (by simp [d2]), fun _ => (hS.aft d2).aboveT ((Ch.refl _ _).setRow (.inl (by have := HQL.out; omega)) _), by simpa using setRow_heap _ _ _ _ _ _ hS.r6⟩⟩
    · intro x w' L hsz hS hi hd hf hval hcl
      refine ⟨fun _ => ?_, fun hn => by simp [wantedBy] at hn⟩
      have h64 : x.eval (.tmp 64) = .int .i64 (n : Nat) := (hf 64).1 rfl
      refine (Exec.kassign (T := fun _ => .is (.int .i64 (n : Nat))) (d := 7) rfl rfl h64).mono ?_
      rintro u w'' ⟨k1, hx⟩
      exact ⟨fun d hd => by cases hd; exact k1 7 rfl, fun j p d hj hL hd => hval j p hj hL d hd, hS.ext hx (by simp) (by simp)⟩
  case fin =>
    intro ν w8 hV hS
    have h7 : ν 7 = .int .i64 (n : Nat) := hV _ (List.mem_of_getElem? (i := 4) rfl) 7 rfl
    simp only [Exit.then, ended, List.foldl_cons, List.foldl_nil, List.setIfInBounds_toArray, List.set_cons_succ, List.set_cons_zero, h7]
    have HS8 := Lib.hid hS
    have HX8 : Hid (Only q w w8) := Lib.hid (by
      exact Ch.transNew HX2.out (hS.ch.mono fun i _ h => h.elim .inl fun e => .inr (by omega)))
    clear hV hS h7
    go_wp2
    refine bodyPost_ret (results_cell2 rfl _ _ w.heap.size _ (rcv (bigC kind)) _ _ rfl (by simpa using HS8.out.r6) Tryz.underlying76 rfl infoRC) rfl ?_
    exact HP.out (bigC kind) n _ HX8.out (HS8.out.aft (by simp)) (fun _ => rfl)
set_option maxRecDepth 20000 in
set_option maxHeartbeats 3000000 in
theorem rtake_v1_xT (q : Nat) (l : List UInt8) (kind ver : Nat) (w : World) (h : IsQ w q (l, 0)) (hv : ver = 1 ∨ ver = 2) (hk : 1 ≤ kind ∧ kind ≤ 6) (h1 : ver = 1) (he : (byteR (l, 0)).2.2 = 0) (hb : 2 < (byteR (l, 0)).1) (ht : texty kind = true) :
    Calls Tryz.prog 58 #[QPtr q, .int .u8 (kind : Nat), .int .u8 (ver : Nat)] w (CqPost q (cRaw ver kind (tPre ver kind (l, 0))).1 (cRaw ver kind (tPre ver kind (l, 0))).2 w) := by
  have hp : tPre ver kind (l, 0) = (l, 0) := tPre_ok (l, 0) hv hk.1 hk.2
  have HV : Hid (cRaw ver kind (tPre ver kind (l, 0)) = (((hereR kind (uintR 64 (failR (byteR (l, 0)).2 7)).1 (uintR 64 (failR (byteR (l, 0)).2 7)).2).1, 0), (hereR kind (uintR 64 (failR (byteR (l, 0)).2 7)).1 (uintR 64 (failR (byteR (l, 0)).2 7)).2).2)) := Lib.hid (by rw [hp, h1, cRaw_1]; have hh : headR kind (l, 0) = failR (byteR (l, 0)).2 7 := (by unfold headR; rw [if_pos (by exact .inl hb)]); unfold partedR; rw [hh]; rw [if_neg (by omega), if_neg (by omega), if_pos ht])
  have HP : Hid (∀ (c : Cel) (n : Nat) w', Only q w w' → IsQ w' q ((((hereR kind (uintR 64 (failR (byteR (l, 0)).2 7)).1 (uintR 64 (failR (byteR (l, 0)).2 7)).2).1, 0), (hereR kind (uintR 64 (failR (byteR (l, 0)).2 7)).1 (uintR 64 (failR (byteR (l, 0)).2 7)).2).2)).2 → (((((hereR kind (uintR 64 (failR (byteR (l, 0)).2 7)).1 (uintR 64 (failR (byteR (l, 0)).2 7)).2).1, 0), (hereR kind (uintR 64 (failR (byteR (l, 0)).2 7)).1 (uintR 64 (failR (byteR (l, 0)).2 7)).2).2)).2.2 = 0 → (c, n) = ((((hereR kind (uintR 64 (failR (byteR (l, 0)).2 7)).1 (uintR 64 (failR (byteR (l, 0)).2 7)).2).1, 0), (hereR kind (uintR 64 (failR (byteR (l, 0)).2 7)).1 (uintR 64 (failR (byteR (l, 0)).2 7)).2).2)).1) → CqPost q (cRaw ver kind (tPre ver kind (l, 0))).1 (cRaw ver kind (tPre ver kind (l, 0))).2 w (.returned (.tuple #[rc c, .int .i64 (n : Nat)])) w') := Lib.hid fun c n w' h1 h2 h3 => by rw [HV.out]; exact ⟨c, n, rfl, h1, h2, h3⟩
  have hql := h.lt
  have HQL := Lib.hid hql
  have hg6 : ((w.alloc (.cells #[.int .u8 0, .int .u8 0, .int .i64 0, .int .u64 0, .int .u64 0, .string ⟨#[]⟩] 76)).alloc (.cells #[.int .u8 0, .int .u8 0, .int .i64 0, .int .u64 0, .int .u64 0, .string ⟨#[]⟩] 76)).heap[w.heap.size]? = _ := heap_alloc2_old w _ _
  have hq : ((w.alloc (.cells #[.int .u8 0, .int .u8 0, .int .i64 0, .int .u64 0, .int .u64 0, .string ⟨#[]⟩] 76)).alloc (.cells #[.int .u8 0, .int .u8 0, .int .i64 0, .int .u64 0, .int .u64 0, .string ⟨#[]⟩] 76)).heap[(w.heap.size + 1)]? = _ := heap_alloc2_new w _ _
  have HQ := Lib.hid hq
  obtain ⟨W3, hW3⟩ : ∃ W3, W3 = ((w.alloc (.cells #[.int .u8 0, .int .u8 0, .int .i64 0, .int .u64 0, .int .u64 0, .string ⟨#[]⟩] 76)).alloc (.cells #[.int .u8 0, .int .u8 0, .int .i64 0, .int .u64 0, .int .u64 0, .string ⟨#[]⟩] 76)).setRow (w.heap.size + 1) #[.int .u8 2, .int .u8 (kind : Nat), .int .i64 0, .int .u64 0, .int .u64 0, .string ⟨#[]⟩] := ⟨_, rfl⟩
  have hx3 : Ext w W3 := by rw [hW3]; exact (((Ch.refl _ _).alloc _).alloc _).setRow (.inr (by omega)) _
  have HZ3 : Hid (W3.heap[w.heap.size]? = some (.cells #[.int .u8 0, .int .u8 0, .int .i64 0, .int .u64 0, .int .u64 0, .string ⟨#[]⟩] 76 (0, 0))) := Lib.hid (by rw [hW3, setRow_other _ _ _ _ (by omega)]; exact hg6)
  have HR3 : Hid (W3.heap[(w.heap.size + 1)]? = some (.cells #[.int .u8 2, .int .u8 (kind : Nat), .int .i64 0, .int .u64 0, .int .u64 0, .string ⟨#[]⟩] 76 (0, 0))) := Lib.hid (by rw [hW3]; exact setRow_heap _ _ _ _ _ _ hq)
  have HX3 : Hid (Only q w W3) := Lib.hid hx3.ch
  have HI3 := Lib.hid (h.ext hx3)
  have HW3 := Lib.hid hW3
  have hb1 := fun w => build54_1 w kind
  have hb2 := fun w => buildRC_2 w kind
  clear hq hx3 hg6 hW3
  have HU := Lib.hid (qbyte_any q (l, 0) W3 HI3.out)
  generalize (byteR (l, 0)).1 = b at *
  generalize (byteR (l, 0)).2 = s1 at *
  have HERR := Lib.hid he
  have HTX := Lib.hid (fun w => rTexty_any kind w)
  rw [ht] at HTX
  have e0 : (((b : Nat) : Int) == 0) = false := by simp; omega
  have e2 : (((b : Nat) : Int) == 2) = false := by simp; omega
  have HF := Lib.hid (fun w h => giveUp_any q s1 7 w h)
  generalize failR s1 7 = s2 at *
  have HTT := Lib.hid (fun w h => qtext_any q s2 64 w h (by decide))
  unfold hereR at HP
  simp only at HP
  rw [show takeR (uintR 64 s2).1 (uintR 64 s2).2 = textR 64 s2 from rfl] at HP
  have h64 : ((64 : Int)).toNat = 64 := rfl
  rw [h64] at HTT
  unfold strV at HTT
  generalize (textR 64 s2).1 = t at *
  generalize (textR 64 s2).2 = s5 at *
  have HRI := Lib.hid (fun w => rright_any ⟨kind, 0, 0, 0, t⟩ w)
  generalize vErr ⟨kind, 0, 0, 0, t⟩ = er at *
  subst h1
  have hk1 := hk.1
  have hk6 := hk.2
  clear hk
  clear h hql hp he hv ht HV h64
  unfold QPtr at *
  go_enter Tryz.func58, Tryz.ntmps58
  go_wp2_with (first
    | (refine wpList_store_rowTo rfl _ _ _ rfl rfl (w.heap.size + 1) #[.int .u8 2, .int .u8 (kind : Nat), .int .i64 0, .int .u64 0, .int .u64 0, .string ⟨#[]⟩] rfl rfl _ _ HQ.out infoRC rfl (by simp [Value.oneCell']) ?_; rw [← HW3.out])
    | (go_at_call 83; refine HU.out.mono ?_))
  rintro e w1 ⟨rfl, k1, k2⟩
  have HX1 := Lib.hid (HX3.out.trans k1); have HI1 := Lib.hid k2
  have HZ1 := Lib.hid (heap_of_only k1 (by have := HQL.out; omega) HZ3.out); have HR1 := Lib.hid (heap_of_only k1 (by have := HQL.out; omega) HR3.out)
  clear k1 k2
  obtain ⟨_, _, _, _, _, _, ce, _⟩ := HI1.out.cells
  have eb : (s1.2 != 0) = false := by simpa using HERR.out
  go_wp2_with (first
    | (go_at_call 60; refine (HTX.out _).mono ?_; rintro e w' ⟨rfl, rfl⟩)
    | (go_at_call 32; refine (HF.out _ HI1.out).mono ?_))
  rintro e w2 ⟨rfl, k1, k2⟩
  have HX2 := Lib.hid (HX1.out.trans k1); have HI2 := Lib.hid k2
  have HZ2 := Lib.hid (heap_of_only k1 (by have := HQL.out; omega) HZ1.out); have HR2 := Lib.hid (heap_of_only k1 (by have := HQL.out; omega) HR1.out)
  clear k1 k2
  go_wp2_with (first
    | (go_at_call 60; refine (HTX.out _).mono ?_; rintro e w' ⟨rfl, rfl⟩)
    | (go_at_call 86; refine (HTT.out _ HI2.out).mono ?_))
  rintro e w4 ⟨rfl, k1, k2⟩
  have HX4 := Lib.hid (HX2.out.trans k1); have HI4 := Lib.hid k2
  have HZ4 := Lib.hid (heap_of_only k1 (by have := HQL.out; omega) HZ2.out); have HR4 := Lib.hid (heap_of_only k1 (by have := HQL.out; omega) HR2.out)
  clear k1 k2
  have d5 : w4.cell? ⟨w.heap.size + 1, 5, none⟩ = some (.string ⟨#[]⟩) := by rw [cell_of_row _ _ _ _ _ _ HR4.out]; rfl
  have f5 := frozen_of_row w4 (w.heap.size + 1) 5 _ _ HR4.out
  obtain ⟨W5, hW5⟩ : ∃ W5, W5 = w4.setCell ⟨w.heap.size + 1, 5, none⟩ (strV t) := ⟨_, rfl⟩
  have HR5 : Hid (RRow W5 (w.heap.size + 1) ⟨2, ⟨kind, 0, 0, 0, t⟩⟩) := Lib.hid (by unfold RRow; rw [hW5]; exact heap_setCell_same w4 (w.heap.size + 1) 5 _ _ _ HR4.out)
  have HZ5 : Hid (W5.heap[w.heap.size]? = some (.cells #[.int .u8 0, .int .u8 0, .int .i64 0, .int .u64 0, .int .u64 0, .string ⟨#[]⟩] 76 (0, 0))) := Lib.hid (by rw [hW5, heap_setCell_other w4 ⟨w.heap.size + 1, 5, none⟩ w.heap.size _ (by simp)]; exact HZ4.out)
  have HI5 : Hid (IsQ W5 q s5) := Lib.hid (by rw [hW5]; exact HI4.out.setElse d5 (noByte_string _) (by have := HQL.out; show q ≠ w.heap.size + 1; omega) _)
  have HX5 : Hid (Only q w W5) := Lib.hid (by rw [hW5]; exact HX4.out.setCell (.inr (by show w.heap.size ≤ w.heap.size + 1; omega)) _)
  unfold strV at hW5
  have HW5 := Lib.hid hW5
  clear hW5
  go_wp2_with (first
    | ((try rw [← HW5.out]); refine wpList_load_run rfl _ _ rfl rfl HR5.out.value ?_)
    | (go_at_call 61; refine (HRI.out _).mono ?_))
  intro e w6 hm
  obtain ⟨rfl, k1⟩ := hm
  have HX6 := Lib.hid (HX5.out.trans k1.ch); have HI6 := Lib.hid (HI5.out.ext k1); have HZ6 := Lib.hid (heap_of_ext k1 HZ5.out); have HR6 := Lib.hid (HR5.out.ext k1)
  clear k1 d5 f5
  by_cases hev : er = 0
  · have e9 : (((er : Nat) : Int) != 0) = false := by rw [hev]; rfl
    have HEV := Lib.hid hev
    clear hev
    go_wp2_with (first
      | (refine wpList_load_row rfl _ _ rfl (w.heap.size + 1) rfl _ _ _ _ HR6.out Tryz.underlying76 rfl infoRC ?_)
      | (refine wpList_store_rowTo rfl _ _ _ rfl rfl w.heap.size (rcv ⟨2, ⟨kind, 0, 0, 0, t⟩⟩) rfl rfl _ _ HZ6.out infoRC rfl (by simp [Value.oneCell', rcv, strV]) ?_))
    refine bodyPost_ret (results_cell2 rfl _ _ w.heap.size _ (rcv ⟨2, ⟨kind, 0, 0, 0, t⟩⟩) _ _ rfl (setRow_heap _ _ _ _ _ _ HZ6.out) Tryz.underlying76 rfl infoRC) rfl ?_
    exact HP.out ⟨2, ⟨kind, 0, 0, 0, t⟩⟩ 0 _ (HX6.out.setRow (.inr (Nat.le_refl _)) _) (((show IsQ w6 q (failR s5 (er : Nat)) from by rw [HEV.out, show failR s5 ((0 : Nat) : Int) = s5 from failR_zero s5]; exact HI6.out)).aboveT ((Ch.refl _ _).setRow (.inl (by have := HQL.out; omega)) _)) (fun _ => rfl)
  · have e9 : (((er : Nat) : Int) != 0) = true := by simp; omega
    clear hev
    have HF9 := Lib.hid (giveUp_any q s5 (er : Nat) _ HI6.out)
    unfold QPtr at HF9
    go_wp2_with (go_at_call 32; refine HF9.out.mono ?_)
    rintro e w7 ⟨rfl, k1, k2⟩
    have HX7 := Lib.hid (HX6.out.trans k1); have HI7 := Lib.hid k2
    have HZ7 := Lib.hid (heap_of_only k1 (by have := HQL.out; omega) HZ6.out); have HR7 := Lib.hid (heap_of_only k1 (by have := HQL.out; omega) HR6.out)
    clear k1 k2
    go_wp2_with (first
      | (refine wpList_load_row rfl _ _ rfl (w.heap.size + 1) rfl _ _ _ _ HR7.out Tryz.underlying76 rfl infoRC ?_)
      | (refine wpList_store_rowTo rfl _ _ _ rfl rfl w.heap.size (rcv ⟨2, ⟨kind, 0, 0, 0, t⟩⟩) rfl rfl _ _ HZ7.out infoRC rfl (by simp [Value.oneCell', rcv, strV]) ?_))
    refine bodyPost_ret (results_cell2 rfl _ _ w.heap.size _ (rcv ⟨2, ⟨kind, 0, 0, 0, t⟩⟩) _ _ rfl (setRow_heap _ _ _ _ _ _ HZ7.out) Tryz.underlying76 rfl infoRC) rfl ?_
    exact HP.out ⟨2, ⟨kind, 0, 0, 0, t⟩⟩ 0 _ (HX7.out.setRow (.inr (Nat.le_refl _)) _) ((HI7.out).aboveT ((Ch.refl _ _).setRow (.inl (by have := HQL.out; omega)) _)) (fun _ => rfl)
set_option maxRecDepth 20000 in
set_option maxHeartbeats 3000000 in
theorem rtake_v1_xF (q : Nat) (l : List UInt8) (kind ver : Nat) (w : World) (h : IsQ w q (l, 0)) (hv : ver = 1 ∨ ver = 2) (hk : 1 ≤ kind ∧ kind ≤ 6) (h1 : ver = 1) (he : (byteR (l, 0)).2.2 = 0) (hb : 2 < (byteR (l, 0)).1) (ht : texty kind = false) :
    Calls Tryz.prog 58 #[QPtr q, .int .u8 (kind : Nat), .int .u8 (ver : Nat)] w (CqPost q (cRaw ver kind (tPre ver kind (l, 0))).1 (cRaw ver kind (tPre ver kind (l, 0))).2 w) := by
  have hp : tPre ver kind (l, 0) = (l, 0) := tPre_ok (l, 0) hv hk.1 hk.2
  have HV : Hid (cRaw ver kind (tPre ver kind (l, 0)) = ((Cel.mk 2 (vTake 1 kind (failR (byteR (l, 0)).2 7)).1, 0), (vTake 1 kind (failR (byteR (l, 0)).2 7)).2)) := Lib.hid (by rw [hp, h1, cRaw_1]; have hh : headR kind (l, 0) = failR (byteR (l, 0)).2 7 := (by unfold headR; rw [if_pos (by exact .inl hb)]); unfold partedR; rw [hh]; rw [if_neg (by omega), if_neg (by omega), if_neg (by rw [ht]; simp)])
  have HP : Hid (∀ (c : Cel) (n : Nat) w', Only q w w' → IsQ w' q (((Cel.mk 2 (vTake 1 kind (failR (byteR (l, 0)).2 7)).1, 0), (vTake 1 kind (failR (byteR (l, 0)).2 7)).2)).2 → ((((Cel.mk 2 (vTake 1 kind (failR (byteR (l, 0)).2 7)).1, 0), (vTake 1 kind (failR (byteR (l, 0)).2 7)).2)).2.2 = 0 → (c, n) = (((Cel.mk 2 (vTake 1 kind (failR (byteR (l, 0)).2 7)).1, 0), (vTake 1 kind (failR (byteR (l, 0)).2 7)).2)).1) → CqPost q (cRaw ver kind (tPre ver kind (l, 0))).1 (cRaw ver kind (tPre ver kind (l, 0))).2 w (.returned (.tuple #[rc c, .int .i64 (n : Nat)])) w') := Lib.hid fun c n w' h1 h2 h3 => by rw [HV.out]; exact ⟨c, n, rfl, h1, h2, h3⟩
  have hql := h.lt
  have HQL := Lib.hid hql
  have hg6 : ((w.alloc (.cells #[.int .u8 0, .int .u8 0, .int .i64 0, .int .u64 0, .int .u64 0, .string ⟨#[]⟩] 76)).alloc (.cells #[.int .u8 0, .int .u8 0, .int .i64 0, .int .u64 0, .int .u64 0, .string ⟨#[]⟩] 76)).heap[w.heap.size]? = _ := heap_alloc2_old w _ _
  have hq : ((w.alloc (.cells #[.int .u8 0, .int .u8 0, .int .i64 0, .int .u64 0, .int .u64 0, .string ⟨#[]⟩] 76)).alloc (.cells #[.int .u8 0, .int .u8 0, .int .i64 0, .int .u64 0, .int .u64 0, .string ⟨#[]⟩] 76)).heap[(w.heap.size + 1)]? = _ := heap_alloc2_new w _ _
  have HQ := Lib.hid hq
  obtain ⟨W3, hW3⟩ : ∃ W3, W3 = ((w.alloc (.cells #[.int .u8 0, .int .u8 0, .int .i64 0, .int .u64 0, .int .u64 0, .string ⟨#[]⟩] 76)).alloc (.cells #[.int .u8 0, .int .u8 0, .int .i64 0, .int .u64 0, .int .u64 0, .string ⟨#[]⟩] 76)).setRow (w.heap.size + 1) #[.int .u8 2, .int .u8 (kind : Nat), .int .i64 0, .int .u64 0, .int .u64 0, .string ⟨#[]⟩] := ⟨_, rfl⟩
  have hx3 : Ext w W3 := by rw [hW3]; exact (((Ch.refl _ _).alloc _).alloc _).setRow (.inr (by omega)) _
  have HZ3 : Hid (W3.heap[w.heap.size]? = some (.cells #[.int .u8 0, .int .u8 0, .int .i64 0, .int .u64 0, .int .u64 0, .string ⟨#[]⟩] 76 (0, 0))) := Lib.hid (by rw [hW3, setRow_other _ _ _ _ (by omega)]; exact hg6)
  have HR3 : Hid (W3.heap[(w.heap.size + 1)]? = some (.cells #[.int .u8 2, .int .u8 (kind : Nat), .int .i64 0, .int .u64 0, .int .u64 0, .string ⟨#[]⟩] 76 (0, 0))) := Lib.hid (by rw [hW3]; exact setRow_heap _ _ _ _ _ _ hq)
  have HX3 : Hid (Only q w W3) := Lib.hid hx3.ch
  have HI3 := Lib.hid (h.ext hx3)
  have HW3 := Lib.hid hW3
  have hb1 := fun w => build54_1 w kind
  have hb2 := fun w => buildRC_2 w kind
  clear hq hx3 hg6 hW3
  have HU := Lib.hid (qbyte_any q (l, 0) W3 HI3.out)
  generalize (byteR (l, 0)).1 = b at *
  generalize (byteR (l, 0)).2 = s1 at *
  have HERR := Lib.hid he
  have HTX := Lib.hid (fun w => rTexty_any kind w)
  rw [ht] at HTX
  have e0 : (((b : Nat) : Int) == 0) = false := by simp; omega
  have e2 : (((b : Nat) : Int) == 2) = false := by simp; omega
  have HF := Lib.hid (fun w h => giveUp_any q s1 7 w h)
  generalize failR s1 7 = s2 at *
  have HTK := Lib.hid (fun w h => qtake_val q s2 1 kind w h)
  generalize (vTake 1 kind s2).1 = tv at *
  generalize (vTake 1 kind s2).2 = s5 at *
  subst h1
  have hk1 := hk.1
  have hk6 := hk.2
  clear hk
  clear h hql hp he hv ht HV
  unfold QPtr at *
  go_enter Tryz.func58, Tryz.ntmps58
  go_wp2_with (first
    | (refine wpList_store_rowTo rfl _ _ _ rfl rfl (w.heap.size + 1) #[.int .u8 2, .int .u8 (kind : Nat), .int .i64 0, .int .u64 0, .int .u64 0, .string ⟨#[]⟩] rfl rfl _ _ HQ.out infoRC rfl (by simp [Value.oneCell']) ?_; rw [← HW3.out])
    | (go_at_call 83; refine HU.out.mono ?_))
  rintro e w1 ⟨rfl, k1, k2⟩
  have HX1 := Lib.hid (HX3.out.trans k1); have HI1 := Lib.hid k2
  have HZ1 := Lib.hid (heap_of_only k1 (by have := HQL.out; omega) HZ3.out); have HR1 := Lib.hid (heap_of_only k1 (by have := HQL.out; omega) HR3.out)
  clear k1 k2
  obtain ⟨_, _, _, _, _, _, ce, _⟩ := HI1.out.cells
  have eb : (s1.2 != 0) = false := by simpa using HERR.out
  go_wp2_with (first
    | (go_at_call 60; refine (HTX.out _).mono ?_; rintro e w' ⟨rfl, rfl⟩)
    | (go_at_call 32; refine (HF.out _ HI1.out).mono ?_))
  rintro e w2 ⟨rfl, k1, k2⟩
  have HX2 := Lib.hid (HX1.out.trans k1); have HI2 := Lib.hid k2
  have HZ2 := Lib.hid (heap_of_only k1 (by have := HQL.out; omega) HZ1.out); have HR2 := Lib.hid (heap_of_only k1 (by have := HQL.out; omega) HR1.out)
  clear k1 k2
  go_wp2_with (first
    | (go_at_call 60; refine (HTX.out _).mono ?_; rintro e w' ⟨rfl, rfl⟩)
    | (go_at_call 85; refine (HTK.out _ HI2.out).mono ?_))
  rintro e w4 ⟨rfl, k1, k2⟩
  have HX4 := Lib.hid (HX2.out.trans k1); have HI4 := Lib.hid k2
  have HZ4 := Lib.hid (heap_of_only k1 (by have := HQL.out; omega) HZ2.out); have HR4 := Lib.hid (heap_of_only k1 (by have := HQL.out; omega) HR2.out)
  clear k1 k2
  obtain ⟨W5, hW5⟩ : ∃ W5, W5 = w4.setCells (w.heap.size + 1) 1 (rvals tv).toList := ⟨_, rfl⟩
  have HR5 : Hid (W5.heap[w.heap.size + 1]? = some (.cells (rcv ⟨2, tv⟩) 76 (0, 0))) := Lib.hid (by rw [hW5]; exact setCells5 HR4.out)
  have hk5 : Ch (fun i => i = w.heap.size + 1) w4 W5 := by rw [hW5]; exact ch_setCells5 (M := fun i => i = w.heap.size + 1) w4 (w.heap.size + 1) rfl _ _ _ _ _
  have HZ5 := Lib.hid (heap_of_only hk5 (by omega) HZ4.out)
  have HI5 : Hid (IsQ W5 q s5) := Lib.hid (HI4.out.aboveT (hk5.mono fun j _ h => by have := HQL.out; omega))
  have HX5 : Hid (Only q w W5) := Lib.hid (by
    rw [hW5]
    exact (((((HX4.out.setCell (p := ⟨w.heap.size + 1, 1, none⟩) (.inr (Nat.le_succ _)) _).setCell (p := ⟨w.heap.size + 1, 2, none⟩) (.inr (Nat.le_succ _)) _).setCell (p := ⟨w.heap.size + 1, 3, none⟩) (.inr (Nat.le_succ _)) _).setCell (p := ⟨w.heap.size + 1, 4, none⟩) (.inr (Nat.le_succ _)) _).setCell (p := ⟨w.heap.size + 1, 5, none⟩) (.inr (Nat.le_succ _)) _))
  have HTH : Hid (w4.there (w.heap.size + 1) 1 (rvals tv).size) := Lib.hid fun j hj => by
    have hj5 : j < 5 := hj
    have hjc : 1 + j < 6 := by omega
    refine ⟨?_, frozen_of_row w4 (w.heap.size + 1) (1 + j) _ _ HR4.out⟩
    rw [cell_of_row _ _ _ _ _ _ HR4.out]
    match j, hj5 with
    | 0, _ => rfl
    | 1, _ => rfl
    | 2, _ => rfl
    | 3, _ => rfl
    | 4, _ => rfl
  have HW5 := Lib.hid hW5
  clear hW5 hk5
  go_wp2_with (first
    | (refine wpList_store_mid rfl _ _ _ rfl (w.heap.size + 1) 1 (rvals tv) rfl rfl HTH.out infoRV (by simp [rvals, strV, Value.oneCell']) ?_; rw [← HW5.out])
    | (refine wpList_load_row rfl _ _ rfl (w.heap.size + 1) rfl _ _ _ _ HR5.out Tryz.underlying76 rfl infoRC ?_)
    | (refine wpList_store_rowTo rfl _ _ _ rfl rfl w.heap.size (rcv ⟨2, tv⟩) rfl rfl _ _ HZ5.out infoRC rfl (by simp [Value.oneCell', rcv, strV]) ?_))
  refine bodyPost_ret (results_cell2 rfl _ _ w.heap.size _ (rcv ⟨2, tv⟩) _ _ rfl (setRow_heap _ _ _ _ _ _ HZ5.out) Tryz.underlying76 rfl infoRC) rfl ?_
  exact HP.out ⟨2, tv⟩ 0 _ (HX5.out.setRow (.inr (Nat.le_refl _)) _) ((HI5.out).aboveT ((Ch.refl _ _).setRow (.inl (by have := HQL.out; omega)) _)) (fun _ => rfl)
set_option maxRecDepth 20000 in
set_option maxHeartbeats 3000000 in
theorem rtake_v2_F (q : Nat) (l : List UInt8) (kind ver : Nat) (w : World) (h : IsQ w q (l, 0)) (hv : ver = 1 ∨ ver = 2) (hk : 1 ≤ kind ∧ kind ≤ 6) (h1 : ver = 2) (ht : texty kind = false) :
    Calls Tryz.prog 58 #[QPtr q, .int .u8 (kind : Nat), .int .u8 (ver : Nat)] w (CqPost q (cRaw ver kind (tPre ver kind (l, 0))).1 (cRaw ver kind (tPre ver kind (l, 0))).2 w) := by
  have hp : tPre ver kind (l, 0) = (l, 0) := tPre_ok (l, 0) hv hk.1 hk.2
  have HV : Hid (cRaw ver kind (tPre ver kind (l, 0)) = ((Cel.mk 2 (vTake 2 kind (l, 0)).1, 0), (vTake 2 kind (l, 0)).2)) := Lib.hid (by rw [hp, h1, cRaw_2p _ (by rw [ht]; simp)])
  have HP : Hid (∀ (c : Cel) (n : Nat) w', Only q w w' → IsQ w' q (((Cel.mk 2 (vTake 2 kind (l, 0)).1, 0), (vTake 2 kind (l, 0)).2)).2 → ((((Cel.mk 2 (vTake 2 kind (l, 0)).1, 0), (vTake 2 kind (l, 0)).2)).2.2 = 0 → (c, n) = (((Cel.mk 2 (vTake 2 kind (l, 0)).1, 0), (vTake 2 kind (l, 0)).2)).1) → CqPost q (cRaw ver kind (tPre ver kind (l, 0))).1 (cRaw ver kind (tPre ver kind (l, 0))).2 w (.returned (.tuple #[rc c, .int .i64 (n : Nat)])) w') := Lib.hid fun c n w' h1 h2 h3 => by rw [HV.out]; exact ⟨c, n, rfl, h1, h2, h3⟩
  have hql := h.lt
  have HQL := Lib.hid hql
  have hg6 : ((w.alloc (.cells #[.int .u8 0, .int .u8 0, .int .i64 0, .int .u64 0, .int .u64 0, .string ⟨#[]⟩] 76)).alloc (.cells #[.int .u8 0, .int .u8 0, .int .i64 0, .int .u64 0, .int .u64 0, .string ⟨#[]⟩] 76)).heap[w.heap.size]? = _ := heap_alloc2_old w _ _
  have hq : ((w.alloc (.cells #[.int .u8 0, .int .u8 0, .int .i64 0, .int .u64 0, .int .u64 0, .string ⟨#[]⟩] 76)).alloc (.cells #[.int .u8 0, .int .u8 0, .int .i64 0, .int .u64 0, .int .u64 0, .string ⟨#[]⟩] 76)).heap[(w.heap.size + 1)]? = _ := heap_alloc2_new w _ _
  have HQ := Lib.hid hq
  obtain ⟨W3, hW3⟩ : ∃ W3, W3 = ((w.alloc (.cells #[.int .u8 0, .int .u8 0, .int .i64 0, .int .u64 0, .int .u64 0, .string ⟨#[]⟩] 76)).alloc (.cells #[.int .u8 0, .int .u8 0, .int .i64 0, .int .u64 0, .int .u64 0, .string ⟨#[]⟩] 76)).setRow (w.heap.size + 1) #[.int .u8 2, .int .u8 (kind : Nat), .int .i64 0, .int .u64 0, .int .u64 0, .string ⟨#[]⟩] := ⟨_, rfl⟩
  have hx3 : Ext w W3 := by rw [hW3]; exact (((Ch.refl _ _).alloc _).alloc _).setRow (.inr (by omega)) _
  have HZ3 : Hid (W3.heap[w.heap.size]? = some (.cells #[.int .u8 0, .int .u8 0, .int .i64 0, .int .u64 0, .int .u64 0, .string ⟨#[]⟩] 76 (0, 0))) := Lib.hid (by rw [hW3, setRow_other _ _ _ _ (by omega)]; exact hg6)
  have HR3 : Hid (W3.heap[(w.heap.size + 1)]? = some (.cells #[.int .u8 2, .int .u8 (kind : Nat), .int .i64 0, .int .u64 0, .int .u64 0, .string ⟨#[]⟩] 76 (0, 0))) := Lib.hid (by rw [hW3]; exact setRow_heap _ _ _ _ _ _ hq)
  have HX3 : Hid (Only q w W3) := Lib.hid hx3.ch
  have HI3 := Lib.hid (h.ext hx3)
  have HW3 := Lib.hid hW3
  have hb1 := fun w => build54_1 w kind
  have hb2 := fun w => buildRC_2 w kind
  clear hq hx3 hg6 hW3
  have HTX := Lib.hid (fun w => rTexty_any kind w)
  rw [ht] at HTX
  have HTK := Lib.hid (fun w h => qtake_val q (l, 0) 2 kind w h)
  generalize (vTake 2 kind (l, 0)).1 = tv at *
  generalize (vTake 2 kind (l, 0)).2 = s5 at *
  subst h1
  have hk1 := hk.1
  have hk6 := hk.2
  clear hk
  clear h hql hp hv ht HV
  unfold QPtr at *
  go_enter Tryz.func58, Tryz.ntmps58
  go_wp2_with (first
    | (refine wpList_store_rowTo rfl _ _ _ rfl rfl (w.heap.size + 1) #[.int .u8 2, .int .u8 (kind : Nat), .int .i64 0, .int .u64 0, .int .u64 0, .string ⟨#[]⟩] rfl rfl _ _ HQ.out infoRC rfl (by simp [Value.oneCell']) ?_; rw [← HW3.out])
    | (go_at_call 60; refine (HTX.out _).mono ?_; rintro e w' ⟨rfl, rfl⟩)
    | (go_at_call 85; refine (HTK.out _ HI3.out).mono ?_))
  rintro e w4 ⟨rfl, k1, k2⟩
  have HX4 := Lib.hid (HX3.out.trans k1); have HI4 := Lib.hid k2
  have HZ4 := Lib.hid (heap_of_only k1 (by have := HQL.out; omega) HZ3.out); have HR4 := Lib.hid (heap_of_only k1 (by have := HQL.out; omega) HR3.out)
  clear k1 k2
  obtain ⟨W5, hW5⟩ : ∃ W5, W5 = w4.setCells (w.heap.size + 1) 1 (rvals tv).toList := ⟨_, rfl⟩
  have HR5 : Hid (W5.heap[w.heap.size + 1]? = some (.cells (rcv ⟨2, tv⟩) 76 (0, 0))) := Lib.hid (by rw [hW5]; exact setCells5 HR4.out)
  have hk5 : Ch (fun i => i = w.heap.size + 1) w4 W5 := by rw [hW5]; exact ch_setCells5 (M := fun i => i = w.heap.size + 1) w4 (w.heap.size + 1) rfl _ _ _ _ _
  have HZ5 := Lib.hid (heap_of_only hk5 (by omega) HZ4.out)
  have HI5 : Hid (IsQ W5 q s5) := Lib.hid (HI4.out.aboveT (hk5.mono fun j _ h => by have := HQL.out; omega))
  have HX5 : Hid (Only q w W5) := Lib.hid (by
    rw [hW5]
    exact (((((HX4.out.setCell (p := ⟨w.heap.size + 1, 1, none⟩) (.inr (Nat.le_succ _)) _).setCell (p := ⟨w.heap.size + 1, 2, none⟩) (.inr (Nat.le_succ _)) _).setCell (p := ⟨w.heap.size + 1, 3, none⟩) (.inr (Nat.le_succ _)) _).setCell (p := ⟨w.heap.size + 1, 4, none⟩) (.inr (Nat.le_succ _)) _).setCell (p := ⟨w.heap.size + 1, 5, none⟩) (.inr (Nat.le_succ _)) _))
  have HTH : Hid (w4.there (w.heap.size + 1) 1 (rvals tv).size) := Lib.hid fun j hj => by
    have hj5 : j < 5 := hj
    have hjc : 1 + j < 6 := by omega
    refine ⟨?_, frozen_of_row w4 (w.heap.size + 1) (1 + j) _ _ HR4.out⟩
    rw [cell_of_row _ _ _ _ _ _ HR4.out]
    match j, hj5 with
    | 0, _ => rfl
    | 1, _ => rfl
    | 2, _ => rfl
    | 3, _ => rfl
    | 4, _ => rfl
  have HW5 := Lib.hid hW5
  clear hW5 hk5
  go_wp2_with (first
    | (refine wpList_store_mid rfl _ _ _ rfl (w.heap.size + 1) 1 (rvals tv) rfl rfl HTH.out infoRV (by simp [rvals, strV, Value.oneCell']) ?_; rw [← HW5.out])
    | (refine wpList_load_row rfl _ _ rfl (w.heap.size + 1) rfl _ _ _ _ HR5.out Tryz.underlying76 rfl infoRC ?_)
    | (refine wpList_store_rowTo rfl _ _ _ rfl rfl w.heap.size (rcv ⟨2, tv⟩) rfl rfl _ _ HZ5.out infoRC rfl (by simp [Value.oneCell', rcv, strV]) ?_))
  refine bodyPost_ret (results_cell2 rfl _ _ w.heap.size _ (rcv ⟨2, tv⟩) _ _ rfl (setRow_heap _ _ _ _ _ _ HZ5.out) Tryz.underlying76 rfl infoRC) rfl ?_
  exact HP.out ⟨2, tv⟩ 0 _ (HX5.out.setRow (.inr (Nat.le_refl _)) _) ((HI5.out).aboveT ((Ch.refl _ _).setRow (.inl (by have := HQL.out; omega)) _)) (fun _ => rfl)
set_option maxRecDepth 20000 in
set_option maxHeartbeats 3000000 in
theorem rtake_v2_e (q : Nat) (l : List UInt8) (kind ver : Nat) (w : World) (h : IsQ w q (l, 0)) (hv : ver = 1 ∨ ver = 2) (hk : 1 ≤ kind ∧ kind ≤ 6) (h1 : ver = 2) (ht : texty kind = true) (he : (uintR 66 (l, 0)).2.2 ≠ 0) :
    Calls Tryz.prog 58 #[QPtr q, .int .u8 (kind : Nat), .int .u8 (ver : Nat)] w (CqPost q (cRaw ver kind (tPre ver kind (l, 0))).1 (cRaw ver kind (tPre ver kind (l, 0))).2 w) := by
  have hp : tPre ver kind (l, 0) = (l, 0) := tPre_ok (l, 0) hv hk.1 hk.2
  have HV : Hid ((cRaw ver kind (tPre ver kind (l, 0))).2 = (uintR 66 (l, 0)).2 ∧ (uintR 66 (l, 0)).2.2 ≠ 0) := Lib.hid ⟨by rw [hp, h1, cRaw_2t _ ht, uintR_lack he]; exact joinedR_first he (uintR_lack he), he⟩
  have HP : Hid (∀ (c : Cel) (n : Nat) w', Only q w w' → IsQ w' q (uintR 66 (l, 0)).2 → CqPost q (cRaw ver kind (tPre ver kind (l, 0))).1 (cRaw ver kind (tPre ver kind (l, 0))).2 w (.returned (.tuple #[rc c, .int .i64 (n : Nat)])) w') := Lib.hid fun c n w' h1 h2 => by rw [HV.out.1]; exact ⟨c, n, rfl, h1, h2, fun h => absurd h HV.out.2⟩
  have hql := h.lt
  have HQL := Lib.hid hql
  have hg6 : ((w.alloc (.cells #[.int .u8 0, .int .u8 0, .int .i64 0, .int .u64 0, .int .u64 0, .string ⟨#[]⟩] 76)).alloc (.cells #[.int .u8 0, .int .u8 0, .int .i64 0, .int .u64 0, .int .u64 0, .string ⟨#[]⟩] 76)).heap[w.heap.size]? = _ := heap_alloc2_old w _ _
  have hq : ((w.alloc (.cells #[.int .u8 0, .int .u8 0, .int .i64 0, .int .u64 0, .int .u64 0, .string ⟨#[]⟩] 76)).alloc (.cells #[.int .u8 0, .int .u8 0, .int .i64 0, .int .u64 0, .int .u64 0, .string ⟨#[]⟩] 76)).heap[(w.heap.size + 1)]? = _ := heap_alloc2_new w _ _
  have HQ := Lib.hid hq
  obtain ⟨W3, hW3⟩ : ∃ W3, W3 = ((w.alloc (.cells #[.int .u8 0, .int .u8 0, .int .i64 0, .int .u64 0, .int .u64 0, .string ⟨#[]⟩] 76)).alloc (.cells #[.int .u8 0, .int .u8 0, .int .i64 0, .int .u64 0, .int .u64 0, .string ⟨#[]⟩] 76)).setRow (w.heap.size + 1) #[.int .u8 2, .int .u8 (kind : Nat), .int .i64 0, .int .u64 0, .int .u64 0, .string ⟨#[]⟩] := ⟨_, rfl⟩
  have hx3 : Ext w W3 := by rw [hW3]; exact (((Ch.refl _ _).alloc _).alloc _).setRow (.inr (by omega)) _
  have HZ3 : Hid (W3.heap[w.heap.size]? = some (.cells #[.int .u8 0, .int .u8 0, .int .i64 0, .int .u64 0, .int .u64 0, .string ⟨#[]⟩] 76 (0, 0))) := Lib.hid (by rw [hW3, setRow_other _ _ _ _ (by omega)]; exact hg6)
  have HR3 : Hid (W3.heap[(w.heap.size + 1)]? = some (.cells #[.int .u8 2, .int .u8 (kind : Nat), .int .i64 0, .int .u64 0, .int .u64 0, .string ⟨#[]⟩] 76 (0, 0))) := Lib.hid (by rw [hW3]; exact setRow_heap _ _ _ _ _ _ hq)
  have HX3 : Hid (Only q w W3) := Lib.hid hx3.ch
  have HI3 := Lib.hid (h.ext hx3)
  have HW3 := Lib.hid hW3
  have hb1 := fun w => build54_1 w kind
  have hb2 := fun w => buildRC_2 w kind
  clear hq hx3 hg6 hW3
  have HTX := Lib.hid (fun w => rTexty_any kind w)
  rw [ht] at HTX
  have hle := uintR_le 66 (l, 0)
  have HU := Lib.hid (quint_any q (l, 0) 66 W3 HI3.out (by omega))
  generalize (uintR 66 (l, 0)).1 = m at *
  generalize (uintR 66 (l, 0)).2 = s1 at *
  have HERR := Lib.hid he
  have hb0 := fun w => buildRC_0 w
  subst h1
  have hk1 := hk.1
  have hk6 := hk.2
  clear hk
  clear h hql hp he hv ht HV
  unfold QPtr at *
  go_enter Tryz.func58, Tryz.ntmps58
  go_wp2_with (first
    | (refine wpList_store_rowTo rfl _ _ _ rfl rfl (w.heap.size + 1) #[.int .u8 2, .int .u8 (kind : Nat), .int .i64 0, .int .u64 0, .int .u64 0, .string ⟨#[]⟩] rfl rfl _ _ HQ.out infoRC rfl (by simp [Value.oneCell']) ?_; rw [← HW3.out])
    | (go_at_call 60; refine (HTX.out _).mono ?_; rintro e w' ⟨rfl, rfl⟩)
    | (go_at_call 87; refine HU.out.mono ?_))
  rintro e w1 ⟨rfl, k1, k2⟩
  have HX1 := Lib.hid (HX3.out.trans k1); have HI1 := Lib.hid k2
  have HZ1 := Lib.hid (heap_of_only k1 (by have := HQL.out; omega) HZ3.out); have HR1 := Lib.hid (heap_of_only k1 (by have := HQL.out; omega) HR3.out)
  clear k1 k2
  obtain ⟨_, _, _, _, _, _, ce, _⟩ := HI1.out.cells
  have eb : (s1.2 != 0) = true := by simpa using HERR.out
  go_wp2_with (first
    | (refine wpList_store_rowTo rfl _ _ _ rfl rfl w.heap.size #[.int .u8 0, .int .u8 0, .int .i64 0, .int .u64 0, .int .u64 0, .string ⟨#[]⟩] rfl rfl _ _ HZ1.out infoRC rfl (by simp [Value.oneCell', rcv, strV]) ?_))
  refine bodyPost_ret (results_cell2 rfl _ _ w.heap.size _ #[.int .u8 0, .int .u8 0, .int .i64 0, .int .u64 0, .int .u64 0, .string ⟨#[]⟩] _ _ rfl (setRow_heap _ _ _ _ _ _ HZ1.out) Tryz.underlying76 rfl infoRC) rfl ?_
  exact HP.out Cel.zero 0 _ (HX1.out.setRow (.inr (Nat.le_refl _)) _) ((HI1.out).aboveT ((Ch.refl _ _).setRow (.inl (by have := HQL.out; omega)) _))
set_option maxRecDepth 20000 in
set_option maxHeartbeats 3000000 in
theorem rtake_v2_same (q : Nat) (l : List UInt8) (kind ver : Nat) (w : World) (h : IsQ w q (l, 0)) (hv : ver = 1 ∨ ver = 2) (hk : 1 ≤ kind ∧ kind ≤ 6) (h1 : ver = 2) (ht : texty kind = true) (he : (uintR 66 (l, 0)).2.2 = 0) (hn : (uintR 66 (l, 0)).1 = 0) :
    Calls Tryz.prog 58 #[QPtr q, .int .u8 (kind : Nat), .int .u8 (ver : Nat)] w (CqPost q (cRaw ver kind (tPre ver kind (l, 0))).1 (cRaw ver kind (tPre ver kind (l, 0))).2 w) := by
  have hp : tPre ver kind (l, 0) = (l, 0) := tPre_ok (l, 0) hv hk.1 hk.2
  have HV : Hid (cRaw ver kind (tPre ver kind (l, 0)) = ((sameC, 0), (uintR 66 (l, 0)).2)) := Lib.hid (by rw [hp, h1, cRaw_2t _ ht]; unfold joinedR; rw [if_pos hn])
  have HP : Hid (∀ (c : Cel) (n : Nat) w', Only q w w' → IsQ w' q (((sameC, 0), (uintR 66 (l, 0)).2)).2 → ((((sameC, 0), (uintR 66 (l, 0)).2)).2.2 = 0 → (c, n) = (((sameC, 0), (uintR 66 (l, 0)).2)).1) → CqPost q (cRaw ver kind (tPre ver kind (l, 0))).1 (cRaw ver kind (tPre ver kind (l, 0))).2 w (.returned (.tuple #[rc c, .int .i64 (n : Nat)])) w') := Lib.hid fun c n w' h1 h2 h3 => by rw [HV.out]; exact ⟨c, n, rfl, h1, h2, h3⟩
  have hql := h.lt
  have HQL := Lib.hid hql
  have hg6 : ((w.alloc (.cells #[.int .u8 0, .int .u8 0, .int .i64 0, .int .u64 0, .int .u64 0, .string ⟨#[]⟩] 76)).alloc (.cells #[.int .u8 0, .int .u8 0, .int .i64 0, .int .u64 0, .int .u64 0, .string ⟨#[]⟩] 76)).heap[w.heap.size]? = _ := heap_alloc2_old w _ _
  have hq : ((w.alloc (.cells #[.int .u8 0, .int .u8 0, .int .i64 0, .int .u64 0, .int .u64 0, .string ⟨#[]⟩] 76)).alloc (.cells #[.int .u8 0, .int .u8 0, .int .i64 0, .int .u64 0, .int .u64 0, .string ⟨#[]⟩] 76)).heap[(w.heap.size + 1)]? = _ := heap_alloc2_new w _ _
  have HQ := Lib.hid hq
  obtain ⟨W3, hW3⟩ : ∃ W3, W3 = ((w.alloc (.cells #[.int .u8 0, .int .u8 0, .int .i64 0, .int .u64 0, .int .u64 0, .string ⟨#[]⟩] 76)).alloc (.cells #[.int .u8 0, .int .u8 0, .int .i64 0, .int .u64 0, .int .u64 0, .string ⟨#[]⟩] 76)).setRow (w.heap.size + 1) #[.int .u8 2, .int .u8 (kind : Nat), .int .i64 0, .int .u64 0, .int .u64 0, .string ⟨#[]⟩] := ⟨_, rfl⟩
  have hx3 : Ext w W3 := by rw [hW3]; exact (((Ch.refl _ _).alloc _).alloc _).setRow (.inr (by omega)) _
  have HZ3 : Hid (W3.heap[w.heap.size]? = some (.cells #[.int .u8 0, .int .u8 0, .int .i64 0, .int .u64 0, .int .u64 0, .string ⟨#[]⟩] 76 (0, 0))) := Lib.hid (by rw [hW3, setRow_other _ _ _ _ (by omega)]; exact hg6)
  have HR3 : Hid (W3.heap[(w.heap.size + 1)]? = some (.cells #[.int .u8 2, .int .u8 (kind : Nat), .int .i64 0, .int .u64 0, .int .u64 0, .string ⟨#[]⟩] 76 (0, 0))) := Lib.hid (by rw [hW3]; exact setRow_heap _ _ _ _ _ _ hq)
  have HX3 : Hid (Only q w W3) := Lib.hid hx3.ch
  have HI3 := Lib.hid (h.ext hx3)
  have HW3 := Lib.hid hW3
  have hb1 := fun w => build54_1 w kind
  have hb2 := fun w => buildRC_2 w kind
  clear hq hx3 hg6 hW3
  have HTX := Lib.hid (fun w => rTexty_any kind w)
  rw [ht] at HTX
  have hle := uintR_le 66 (l, 0)
  have HU := Lib.hid (quint_any q (l, 0) 66 W3 HI3.out (by omega))
  generalize (uintR 66 (l, 0)).1 = m at *
  generalize (uintR 66 (l, 0)).2 = s1 at *
  have HERR := Lib.hid he
  subst hn
  have hb3 := fun w => buildRC_1 w
  subst h1
  have hk1 := hk.1
  have hk6 := hk.2
  clear hk
  clear h hql hp he hv ht HV
  unfold QPtr at *
  go_enter Tryz.func58, Tryz.ntmps58
  go_wp2_with (first
    | (refine wpList_store_rowTo rfl _ _ _ rfl rfl (w.heap.size + 1) #[.int .u8 2, .int .u8 (kind : Nat), .int .i64 0, .int .u64 0, .int .u64 0, .string ⟨#[]⟩] rfl rfl _ _ HQ.out infoRC rfl (by simp [Value.oneCell']) ?_; rw [← HW3.out])
    | (go_at_call 60; refine (HTX.out _).mono ?_; rintro e w' ⟨rfl, rfl⟩)
    | (go_at_call 87; refine HU.out.mono ?_))
  rintro e w1 ⟨rfl, k1, k2⟩
  have HX1 := Lib.hid (HX3.out.trans k1); have HI1 := Lib.hid k2
  have HZ1 := Lib.hid (heap_of_only k1 (by have := HQL.out; omega) HZ3.out); have HR1 := Lib.hid (heap_of_only k1 (by have := HQL.out; omega) HR3.out)
  clear k1 k2
  obtain ⟨_, _, _, _, _, _, ce, _⟩ := HI1.out.cells
  have eb : (s1.2 != 0) = false := by simpa using HERR.out
  go_wp2_with (first
    | (go_at_call 60; refine (HTX.out _).mono ?_; rintro e w' ⟨rfl, rfl⟩)
    | (refine wpList_store_rowTo rfl _ _ _ rfl rfl w.heap.size #[.int .u8 1, .int .u8 0, .int .i64 0, .int .u64 0, .int .u64 0, .string ⟨#[]⟩] rfl rfl _ _ HZ1.out infoRC rfl (by simp [Value.oneCell', rcv, strV]) ?_))
  refine bodyPost_ret (results_cell2 rfl _ _ w.heap.size _ #[.int .u8 1, .int .u8 0, .int .i64 0, .int .u64 0, .int .u64 0, .string ⟨#[]⟩] _ _ rfl (setRow_heap _ _ _ _ _ _ HZ1.out) Tryz.underlying76 rfl infoRC) rfl ?_
  exact HP.out sameC 0 _ (HX1.out.setRow (.inr (Nat.le_refl _)) _) ((HI1.out).aboveT ((Ch.refl _ _).setRow (.inl (by have := HQL.out; omega)) _)) (fun _ => rfl)
set_option maxRecDepth 20000 in
set_option maxHeartbeats 3000000 in
theorem rtake_v2_away (q : Nat) (l : List UInt8) (kind ver : Nat) (w : World) (h : IsQ w q (l, 0)) (hv : ver = 1 ∨ ver = 2) (hk : 1 ≤ kind ∧ kind ≤ 6) (h1 : ver = 2) (ht : texty kind = true) (he : (uintR 66 (l, 0)).2.2 = 0) (hn : (uintR 66 (l, 0)).1 = 1) :
    Calls Tryz.prog 58 #[QPtr q, .int .u8 (kind : Nat), .int .u8 (ver : Nat)] w (CqPost q (cRaw ver kind (tPre ver kind (l, 0))).1 (cRaw ver kind (tPre ver kind (l, 0))).2 w) := by
  have hp : tPre ver kind (l, 0) = (l, 0) := tPre_ok (l, 0) hv hk.1 hk.2
  have HV : Hid (cRaw ver kind (tPre ver kind (l, 0)) = ((bigC kind, (awayR (uintR 66 (l, 0)).2).1), (awayR (uintR 66 (l, 0)).2).2)) := Lib.hid (by rw [hp, h1, cRaw_2t _ ht]; unfold joinedR; rw [if_neg (by omega), if_pos hn])
  have HP : Hid (∀ (c : Cel) (n : Nat) w', Only q w w' → IsQ w' q (((bigC kind, (awayR (uintR 66 (l, 0)).2).1), (awayR (uintR 66 (l, 0)).2).2)).2 → ((((bigC kind, (awayR (uintR 66 (l, 0)).2).1), (awayR (uintR 66 (l, 0)).2).2)).2.2 = 0 → (c, n) = (((bigC kind, (awayR (uintR 66 (l, 0)).2).1), (awayR (uintR 66 (l, 0)).2).2)).1) → CqPost q (cRaw ver kind (tPre ver kind (l, 0))).1 (cRaw ver kind (tPre ver kind (l, 0))).2 w (.returned (.tuple #[rc c, .int .i64 (n : Nat)])) w') := Lib.hid fun c n w' h1 h2 h3 => by rw [HV.out]; exact ⟨c, n, rfl, h1, h2, h3⟩
  have hql := h.lt
  have HQL := Lib.hid hql
  have hg6 : ((w.alloc (.cells #[.int .u8 0, .int .u8 0, .int .i64 0, .int .u64 0, .int .u64 0, .string ⟨#[]⟩] 76)).alloc (.cells #[.int .u8 0, .int .u8 0, .int .i64 0, .int .u64 0, .int .u64 0, .string ⟨#[]⟩] 76)).heap[w.heap.size]? = _ := heap_alloc2_old w _ _
  have hq : ((w.alloc (.cells #[.int .u8 0, .int .u8 0, .int .i64 0, .int .u64 0, .int .u64 0, .string ⟨#[]⟩] 76)).alloc (.cells #[.int .u8 0, .int .u8 0, .int .i64 0, .int .u64 0, .int .u64 0, .string ⟨#[]⟩] 76)).heap[(w.heap.size + 1)]? = _ := heap_alloc2_new w _ _
  have HQ := Lib.hid hq
  obtain ⟨W3, hW3⟩ : ∃ W3, W3 = ((w.alloc (.cells #[.int .u8 0, .int .u8 0, .int .i64 0, .int .u64 0, .int .u64 0, .string ⟨#[]⟩] 76)).alloc (.cells #[.int .u8 0, .int .u8 0, .int .i64 0, .int .u64 0, .int .u64 0, .string ⟨#[]⟩] 76)).setRow (w.heap.size + 1) #[.int .u8 2, .int .u8 (kind : Nat), .int .i64 0, .int .u64 0, .int .u64 0, .string ⟨#[]⟩] := ⟨_, rfl⟩
  have hx3 : Ext w W3 := by rw [hW3]; exact (((Ch.refl _ _).alloc _).alloc _).setRow (.inr (by omega)) _
  have HZ3 : Hid (W3.heap[w.heap.size]? = some (.cells #[.int .u8 0, .int .u8 0, .int .i64 0, .int .u64 0, .int .u64 0, .string ⟨#[]⟩] 76 (0, 0))) := Lib.hid (by rw [hW3, setRow_other _ _ _ _ (by omega)]; exact hg6)
  have HR3 : Hid (W3.heap[(w.heap.size + 1)]? = some (.cells #[.int .u8 2, .int .u8 (kind : Nat), .int .i64 0, .int .u64 0, .int .u64 0, .string ⟨#[]⟩] 76 (0, 0))) := Lib.hid (by rw [hW3]; exact setRow_heap _ _ _ _ _ _ hq)
  have HX3 : Hid (Only q w W3) := Lib.hid hx3.ch
  have HI3 := Lib.hid (h.ext hx3)
  have HW3 := Lib.hid hW3
  have hb1 := fun w => build54_1 w kind
  have hb2 := fun w => buildRC_2 w kind
  clear hq hx3 hg6 hW3
  have HTX := Lib.hid (fun w => rTexty_any kind w)
  rw [ht] at HTX
  have hle := uintR_le 66 (l, 0)
  have HU := Lib.hid (quint_any q (l, 0) 66 W3 HI3.out (by omega))
  generalize (uintR 66 (l, 0)).1 = m at *
  generalize (uintR 66 (l, 0)).2 = s1 at *
  have HERR := Lib.hid he
  subst hn
  have HLA := Lib.hid (fun w h => qlarge_any q s1 w h)
  generalize (awayR s1).1 = n at *
  generalize (awayR s1).2 = s9 at *
  subst h1
  have hk1 := hk.1
  have hk6 := hk.2
  clear hk
  clear h hql hp he hv ht HV
  unfold QPtr at *
  go_enter Tryz.func58, Tryz.ntmps58
  go_wp2_with (first
    | (refine wpList_store_rowTo rfl _ _ _ rfl rfl (w.heap.size + 1) #[.int .u8 2, .int .u8 (kind : Nat), .int .i64 0, .int .u64 0, .int .u64 0, .string ⟨#[]⟩] rfl rfl _ _ HQ.out infoRC rfl (by simp [Value.oneCell']) ?_; rw [← HW3.out])
    | (go_at_call 60; refine (HTX.out _).mono ?_; rintro e w' ⟨rfl, rfl⟩)
    | (go_at_call 87; refine HU.out.mono ?_))
  rintro e w1 ⟨rfl, k1, k2⟩
  have HX1 := Lib.hid (HX3.out.trans k1); have HI1 := Lib.hid k2
  have HZ1 := Lib.hid (heap_of_only k1 (by have := HQL.out; omega) HZ3.out); have HR1 := Lib.hid (heap_of_only k1 (by have := HQL.out; omega) HR3.out)
  clear k1 k2
  obtain ⟨_, _, _, _, _, _, ce, _⟩ := HI1.out.cells
  have eb : (s1.2 != 0) = false := by simpa using HERR.out
  go_wp2_with (first
    | (go_at_call 60; refine (HTX.out _).mono ?_; rintro e w' ⟨rfl, rfl⟩))
  refine wp_region_act (larT q n kind) (larS q w.heap.size (w.heap.size + 1) kind s1 s9 w1) mixedV (by rfl) (by rfl) (larS.start HR1.out HI1.out HZ1.out) ?all ?fin
  case all =>
    refine ⟨?_, ?_, ?_, ?_, ?_, trivial⟩
    · intro x w' L hsz hS hi hd hf hval hcl
      refine ⟨fun _ => ?_, fun hn => by simp [wantedBy] at hn⟩
      have h8 : x.eval (.tmp 8) = .pointer (some ⟨w.heap.size + 1, 0, none⟩) := (hf 8).2 rfl rfl
      refine (Exec.kloadmid (T := fun _ => .is (rc (bigC kind))) (d := 107) rfl rfl h8 (RRow.whole (show RRow w' (w.heap.size + 1) (bigC kind) from hS.r8)) rfl).mono ?_
      rintro u w'' ⟨k1, hx⟩
      exact ⟨fun d hd => by cases hd; exact k1 107 rfl, fun j p d hj hL hd => hval j p hj hL d hd, hS.ext hx (by simp) (by simp)⟩
    · intro x w' L hsz hS hi hd hf hval hcl
      refine ⟨fun _ => ?_, fun hn => by simp [wantedBy] at hn⟩
      have h0 : x.eval (.tmp 0) = .pointer (some ⟨q, 0, none⟩) := (hf 0).2 rfl rfl
      refine (Exec.kmove (T := fun _ => .is (.pointer (some ⟨q, 0, none⟩))) (d := 108) rfl rfl h0).mono ?_
      rintro u w'' ⟨k1, hx⟩
      exact ⟨fun d hd => by cases hd; exact k1 108 rfl, fun j p d hj hL hd => hval j p hj hL d hd, hS.ext hx (by simp) (by simp)⟩
    · intro x w' L hsz hS hi hd hf hval hcl
      refine ⟨fun _ => ?_, fun hn => by simp [wantedBy] at hn⟩
      have h63 : x.eval (.tmp 108) = .pointer (some ⟨q, 0, none⟩) := (hf 108).1 rfl
      refine Exec.call #[QPtr q] (env_eval x) rfl (by simp [h63, QPtr]) Tryz.func84 (by rfl) rfl ?_
      refine Calls.mono (HLA.out w' (hS.bef hi)) ?_
      rintro e w'' ⟨rfl, k1, k2⟩
      exact ⟨_, rfl, fun d hd => by cases hd; exact rfl, fun j p d hj hL hd => hval j p hj hL d hd,
        ⟨hS.ch.trans (k1.mono fun _ _ h => .inl h), heap_of_only k1 (by have := HQL.out; omega) hS.r8, fun h => absurd h (by simp), fun _ => k2, by simpa using heap_of_only k1 (by have := HQL.out; omega) hS.r6⟩⟩
    · intro x w' L hsz hS hi hd hf hval hcl
      refine ⟨fun _ => ?_, fun hn => by simp [wantedBy] at hn⟩
      have h6 : x.eval (.tmp 6) = .pointer (some ⟨w.heap.size, 0, none⟩) := (hf 6).2 rfl rfl
      have h62 : x.eval (.tmp 107) = rc (bigC kind) := (hf 107).1 rfl
      have d2 : L 2 = true := hd 2 (by decide)
      refine (Exec.kstorerow rfl h6 h62 hS.r6 infoRC (by split <;> rfl) (rcv_one _)).mono ?_
      rintro _ w'' rfl
      exact ⟨(fun d hd => by cases hd), fun j p d hj hL hd => hval j p hj hL d hd,
        ⟨hS.ch.setRow (.inl (.inr rfl)) _, by rw [setRow_other _ _ _ _ (by omega)]; exact hS.r8, fun h => absurd h (by simp [d2]), fun _ => (hS.aft d2).aboveT ((Ch.refl _ _).setRow (.inl (by have := HQL.out; omega)) _), by simpa using setRow_heap _ _ _ _ _ _ hS.r6⟩⟩
    · intro x w' L hsz hS hi hd hf hval hcl
      refine ⟨fun _ => ?_, fun hn => by simp [wantedBy] at hn⟩
      have h64 : x.eval (.tmp 109) = .int .i64 (n : Nat) := (hf 109).1 rfl
      refine (Exec.kassign (T := fun _ => .is (.int .i64 (n : Nat))) (d := 7) rfl rfl h64).mono ?_
      rintro u w'' ⟨k1, hx⟩
      exact ⟨fun d hd => by cases hd; exact k1 7 rfl, fun j p d hj hL hd => hval j p hj hL d hd, hS.ext hx (by simp) (by simp)⟩
  case fin =>
    intro ν w8 hV hS
    have h7 : ν 7 = .int .i64 (n : Nat) := hV _ (List.mem_of_getElem? (i := 4) rfl) 7 rfl
    simp only [Exit.then, ended, List.foldl_cons, List.foldl_nil, List.setIfInBounds_toArray, List.set_cons_succ, List.set_cons_zero, h7]
    have HS8 := Lib.hid hS
    have HX8 : Hid (Only q w w8) := Lib.hid (by
      exact Ch.transNew HX1.out (hS.ch.mono fun i _ h => h.elim .inl fun e => .inr (by omega)))
    clear hV hS h7
    go_wp2
    refine bodyPost_ret (results_cell2 rfl _ _ w.heap.size _ (rcv (bigC kind)) _ _ rfl (by simpa using HS8.out.r6) Tryz.underlying76 rfl infoRC) rfl ?_
    exact HP.out (bigC kind) n _ HX8.out (HS8.out.aft (by simp)) (fun _ => rfl)
set_option maxRecDepth 20000 in
set_option maxHeartbeats 3000000 in
theorem rtake_v2_here (q : Nat) (l : List UInt8) (kind ver : Nat) (w : World) (h : IsQ w q (l, 0)) (hv : ver = 1 ∨ ver = 2) (hk : 1 ≤ kind ∧ kind ≤ 6) (h1 : ver = 2) (ht : texty kind = true) (he : (uintR 66 (l, 0)).2.2 = 0) (hn : 2 ≤ (uintR 66 (l, 0)).1) :
    Calls Tryz.prog 58 #[QPtr q, .int .u8 (kind : Nat), .int .u8 (ver : Nat)] w (CqPost q (cRaw ver kind (tPre ver kind (l, 0))).1 (cRaw ver kind (tPre ver kind (l, 0))).2 w) := by
  have hp : tPre ver kind (l, 0) = (l, 0) := tPre_ok (l, 0) hv hk.1 hk.2
  have HV : Hid (cRaw ver kind (tPre ver kind (l, 0)) = (((hereR kind ((uintR 66 (l, 0)).1 - 2) (uintR 66 (l, 0)).2).1, 0), (hereR kind ((uintR 66 (l, 0)).1 - 2) (uintR 66 (l, 0)).2).2)) := Lib.hid (by rw [hp, h1, cRaw_2t _ ht]; unfold joinedR; rw [if_neg (by omega), if_neg (by omega)])
  have HP : Hid (∀ (c : Cel) (n : Nat) w', Only q w w' → IsQ w' q ((((hereR kind ((uintR 66 (l, 0)).1 - 2) (uintR 66 (l, 0)).2).1, 0), (hereR kind ((uintR 66 (l, 0)).1 - 2) (uintR 66 (l, 0)).2).2)).2 → (((((hereR kind ((uintR 66 (l, 0)).1 - 2) (uintR 66 (l, 0)).2).1, 0), (hereR kind ((uintR 66 (l, 0)).1 - 2) (uintR 66 (l, 0)).2).2)).2.2 = 0 → (c, n) = ((((hereR kind ((uintR 66 (l, 0)).1 - 2) (uintR 66 (l, 0)).2).1, 0), (hereR kind ((uintR 66 (l, 0)).1 - 2) (uintR 66 (l, 0)).2).2)).1) → CqPost q (cRaw ver kind (tPre ver kind (l, 0))).1 (cRaw ver kind (tPre ver kind (l, 0))).2 w (.returned (.tuple #[rc c, .int .i64 (n : Nat)])) w') := Lib.hid fun c n w' h1 h2 h3 => by rw [HV.out]; exact ⟨c, n, rfl, h1, h2, h3⟩
  have hql := h.lt
  have HQL := Lib.hid hql
  have hg6 : ((w.alloc (.cells #[.int .u8 0, .int .u8 0, .int .i64 0, .int .u64 0, .int .u64 0, .string ⟨#[]⟩] 76)).alloc (.cells #[.int .u8 0, .int .u8 0, .int .i64 0, .int .u64 0, .int .u64 0, .string ⟨#[]⟩] 76)).heap[w.heap.size]? = _ := heap_alloc2_old w _ _
  have hq : ((w.alloc (.cells #[.int .u8 0, .int .u8 0, .int .i64 0, .int .u64 0, .int .u64 0, .string ⟨#[]⟩] 76)).alloc (.cells #[.int .u8 0, .int .u8 0, .int .i64 0, .int .u64 0, .int .u64 0, .string ⟨#[]⟩] 76)).heap[(w.heap.size + 1)]? = _ := heap_alloc2_new w _ _
  have HQ := Lib.hid hq
  obtain ⟨W3, hW3⟩ : ∃ W3, W3 = ((w.alloc (.cells #[.int .u8 0, .int .u8 0, .int .i64 0, .int .u64 0, .int .u64 0, .string ⟨#[]⟩] 76)).alloc (.cells #[.int .u8 0, .int .u8 0, .int .i64 0, .int .u64 0, .int .u64 0, .string ⟨#[]⟩] 76)).setRow (w.heap.size + 1) #[.int .u8 2, .int .u8 (kind : Nat), .int .i64 0, .int .u64 0, .int .u64 0, .string ⟨#[]⟩] := ⟨_, rfl⟩
  have hx3 : Ext w W3 := by rw [hW3]; exact (((Ch.refl _ _).alloc _).alloc _).setRow (.inr (by omega)) _
  have HZ3 : Hid (W3.heap[w.heap.size]? = some (.cells #[.int .u8 0, .int .u8 0, .int .i64 0, .int .u64 0, .int .u64 0, .string ⟨#[]⟩] 76 (0, 0))) := Lib.hid (by rw [hW3, setRow_other _ _ _ _ (by omega)]; exact hg6)
  have HR3 : Hid (W3.heap[(w.heap.size + 1)]? = some (.cells #[.int .u8 2, .int .u8 (kind : Nat), .int .i64 0, .int .u64 0, .int .u64 0, .string ⟨#[]⟩] 76 (0, 0))) := Lib.hid (by rw [hW3]; exact setRow_heap _ _ _ _ _ _ hq)
  have HX3 : Hid (Only q w W3) := Lib.hid hx3.ch
  have HI3 := Lib.hid (h.ext hx3)
  have HW3 := Lib.hid hW3
  have hb1 := fun w => build54_1 w kind
  have hb2 := fun w => buildRC_2 w kind
  clear hq hx3 hg6 hW3
  have HTX := Lib.hid (fun w => rTexty_any kind w)
  rw [ht] at HTX
  have hle := uintR_le 66 (l, 0)
  have HU := Lib.hid (quint_any q (l, 0) 66 W3 HI3.out (by omega))
  generalize (uintR 66 (l, 0)).1 = m at *
  generalize (uintR 66 (l, 0)).2 = s1 at *
  have HERR := Lib.hid he
  have e0 : (((m : Nat) : Int) == 0) = false := by simp; omega
  have e1 : (((m : Nat) : Int) == 1) = false := by simp; omega
  have hw : IntKind.u64.wrap ((m : Int) - 2) = ((m - 2 : Nat) : Int) := by rw [IntKind.wrap_u64]; omega
  have HTT := Lib.hid (fun w h => qbytes_any q s1 (m - 2) w h (by omega))
  unfold hereR at HP
  simp only at HP
  unfold strV at HTT
  generalize (takeR (m - 2) s1).1 = t at *
  generalize (takeR (m - 2) s1).2 = s5 at *
  have HRI := Lib.hid (fun w => rright_any ⟨kind, 0, 0, 0, t⟩ w)
  generalize vErr ⟨kind, 0, 0, 0, t⟩ = er at *
  obtain ⟨mm, hmm⟩ : ∃ mm, mm = m - 2 := ⟨_, rfl⟩
  rw [← hmm] at hw HTT
  clear hmm
  subst h1
  have hk1 := hk.1
  have hk6 := hk.2
  clear hk
  clear h hql hp he hv ht HV
  unfold QPtr at *
  go_enter Tryz.func58, Tryz.ntmps58
  go_wp2_with (first
    | (refine wpList_store_rowTo rfl _ _ _ rfl rfl (w.heap.size + 1) #[.int .u8 2, .int .u8 (kind : Nat), .int .i64 0, .int .u64 0, .int .u64 0, .string ⟨#[]⟩] rfl rfl _ _ HQ.out infoRC rfl (by simp [Value.oneCell']) ?_; rw [← HW3.out])
    | (go_at_call 60; refine (HTX.out _).mono ?_; rintro e w' ⟨rfl, rfl⟩)
    | (go_at_call 87; refine HU.out.mono ?_))
  rintro e w1 ⟨rfl, k1, k2⟩
  have HX1 := Lib.hid (HX3.out.trans k1); have HI1 := Lib.hid k2
  have HZ1 := Lib.hid (heap_of_only k1 (by have := HQL.out; omega) HZ3.out); have HR1 := Lib.hid (heap_of_only k1 (by have := HQL.out; omega) HR3.out)
  clear k1 k2
  obtain ⟨_, _, _, _, _, _, ce, _⟩ := HI1.out.cells
  have eb : (s1.2 != 0) = false := by simpa using HERR.out
  go_wp2_with (first
    | (go_at_call 60; refine (HTX.out _).mono ?_; rintro e w' ⟨rfl, rfl⟩)
    | (go_at_call 33; refine (HTT.out _ HI1.out).mono ?_))
  rintro e w4 ⟨rfl, k1, k2⟩
  have HX4 := Lib.hid (HX1.out.trans k1); have HI4 := Lib.hid k2
  have HZ4 := Lib.hid (heap_of_only k1 (by have := HQL.out; omega) HZ1.out); have HR4 := Lib.hid (heap_of_only k1 (by have := HQL.out; omega) HR1.out)
  clear k1 k2
  have d5 : w4.cell? ⟨w.heap.size + 1, 5, none⟩ = some (.string ⟨#[]⟩) := by rw [cell_of_row _ _ _ _ _ _ HR4.out]; rfl
  have f5 := frozen_of_row w4 (w.heap.size + 1) 5 _ _ HR4.out
  obtain ⟨W5, hW5⟩ : ∃ W5, W5 = w4.setCell ⟨w.heap.size + 1, 5, none⟩ (strV t) := ⟨_, rfl⟩
  have HR5 : Hid (RRow W5 (w.heap.size + 1) ⟨2, ⟨kind, 0, 0, 0, t⟩⟩) := Lib.hid (by unfold RRow; rw [hW5]; exact heap_setCell_same w4 (w.heap.size + 1) 5 _ _ _ HR4.out)
  have HZ5 : Hid (W5.heap[w.heap.size]? = some (.cells #[.int .u8 0, .int .u8 0, .int .i64 0, .int .u64 0, .int .u64 0, .string ⟨#[]⟩] 76 (0, 0))) := Lib.hid (by rw [hW5, heap_setCell_other w4 ⟨w.heap.size + 1, 5, none⟩ w.heap.size _ (by simp)]; exact HZ4.out)
  have HI5 : Hid (IsQ W5 q s5) := Lib.hid (by rw [hW5]; exact HI4.out.setElse d5 (noByte_string _) (by have := HQL.out; show q ≠ w.heap.size + 1; omega) _)
  have HX5 : Hid (Only q w W5) := Lib.hid (by rw [hW5]; exact HX4.out.setCell (.inr (by show w.heap.size ≤ w.heap.size + 1; omega)) _)
  unfold strV at hW5
  have HW5 := Lib.hid hW5
  clear hW5
  go_wp2_with (first
    | ((try rw [← HW5.out]); refine wpList_load_run rfl _ _ rfl rfl HR5.out.value ?_)
    | (go_at_call 61; refine (HRI.out _).mono ?_))
  intro e w6 hm
  obtain ⟨rfl, k1⟩ := hm
  have HX6 := Lib.hid (HX5.out.trans k1.ch); have HI6 := Lib.hid (HI5.out.ext k1); have HZ6 := Lib.hid (heap_of_ext k1 HZ5.out); have HR6 := Lib.hid (HR5.out.ext k1)
  clear k1 d5 f5
  by_cases hev : er = 0
  · have e9 : (((er : Nat) : Int) != 0) = false := by rw [hev]; rfl
    have HEV := Lib.hid hev
    clear hev
    go_wp2_with (first
      | (refine wpList_load_row rfl _ _ rfl (w.heap.size + 1) rfl _ _ _ _ HR6.out Tryz.underlying76 rfl infoRC ?_)
      | (refine wpList_store_rowTo rfl _ _ _ rfl rfl w.heap.size (rcv ⟨2, ⟨kind, 0, 0, 0, t⟩⟩) rfl rfl _ _ HZ6.out infoRC rfl (by simp [Value.oneCell', rcv, strV]) ?_))
    refine bodyPost_ret (results_cell2 rfl _ _ w.heap.size _ (rcv ⟨2, ⟨kind, 0, 0, 0, t⟩⟩) _ _ rfl (setRow_heap _ _ _ _ _ _ HZ6.out) Tryz.underlying76 rfl infoRC) rfl ?_
    exact HP.out ⟨2, ⟨kind, 0, 0, 0, t⟩⟩ 0 _ (HX6.out.setRow (.inr (Nat.le_refl _)) _) (((show IsQ w6 q (failR s5 (er : Nat)) from by rw [HEV.out, show failR s5 ((0 : Nat) : Int) = s5 from failR_zero s5]; exact HI6.out)).aboveT ((Ch.refl _ _).setRow (.inl (by have := HQL.out; omega)) _)) (fun _ => rfl)
  · have e9 : (((er : Nat) : Int) != 0) = true := by simp; omega
    clear hev
    have HF9 := Lib.hid (giveUp_any q s5 (er : Nat) _ HI6.out)
    unfold QPtr at HF9
    go_wp2_with (go_at_call 32; refine HF9.out.mono ?_)
    rintro e w7 ⟨rfl, k1, k2⟩
    have HX7 := Lib.hid (HX6.out.trans k1); have HI7 := Lib.hid k2
    have HZ7 := Lib.hid (heap_of_only k1 (by have := HQL.out; omega) HZ6.out); have HR7 := Lib.hid (heap_of_only k1 (by have := HQL.out; omega) HR6.out)
    clear k1 k2
    go_wp2_with (first
      | (refine wpList_load_row rfl _ _ rfl (w.heap.size + 1) rfl _ _ _ _ HR7.out Tryz.underlying76 rfl infoRC ?_)
      | (refine wpList_store_rowTo rfl _ _ _ rfl rfl w.heap.size (rcv ⟨2, ⟨kind, 0, 0, 0, t⟩⟩) rfl rfl _ _ HZ7.out infoRC rfl (by simp [Value.oneCell', rcv, strV]) ?_))
    refine bodyPost_ret (results_cell2 rfl _ _ w.heap.size _ (rcv ⟨2, ⟨kind, 0, 0, 0, t⟩⟩) _ _ rfl (setRow_heap _ _ _ _ _ _ HZ7.out) Tryz.underlying76 rfl infoRC) rfl ?_
    exact HP.out ⟨2, ⟨kind, 0, 0, 0, t⟩⟩ 0 _ (HX7.out.setRow (.inr (Nat.le_refl _)) _) ((HI7.out).aboveT ((Ch.refl _ _).setRow (.inl (by have := HQL.out; omega)) _)) (fun _ => rfl)
theorem rtake_any (q : Nat) (l : List UInt8) (kind ver : Nat) (w : World) (h : IsQ w q (l, 0)) :
    Calls Tryz.prog 58 #[QPtr q, .int .u8 (kind : Nat), .int .u8 (ver : Nat)] w (CqPost q (cRaw ver kind (tPre ver kind (l, 0))).1 (cRaw ver kind (tPre ver kind (l, 0))).2 w) := by
  by_cases hv : ver ≠ 1 ∧ ver ≠ 2
  · exact rtake_bv q l kind ver w h hv
  have hv' : ver = 1 ∨ ver = 2 := by omega
  by_cases hk : kind < 1 ∨ 6 < kind
  · exact rtake_bt q l kind ver w h hv' hk
  have hk' : 1 ≤ kind ∧ kind ≤ 6 := by omega
  by_cases h1 : ver = 1
  · by_cases he : (byteR (l, 0)).2.2 = 0
    · have hb : (byteR (l, 0)).1 = 0 ∨ (byteR (l, 0)).1 = 1 ∨ (byteR (l, 0)).1 = 2 ∨ 2 < (byteR (l, 0)).1 := by omega
      cases ht : texty kind with
      | true =>
        rcases hb with hb | hb | hb | hb
        · exact rtake_v1_0T q l kind ver w h hv' hk' h1 he hb ht
        · exact rtake_v1_1T q l kind ver w h hv' hk' h1 he hb ht
        · exact rtake_v1_2T q l kind ver w h hv' hk' h1 he hb ht
        · exact rtake_v1_xT q l kind ver w h hv' hk' h1 he hb ht
      | false =>
        rcases hb with hb | hb | hb | hb
        · exact rtake_v1_0F q l kind ver w h hv' hk' h1 he hb ht
        · exact rtake_v1_1F q l kind ver w h hv' hk' h1 he hb ht
        · exact rtake_v1_2F q l kind ver w h hv' hk' h1 he hb ht
        · exact rtake_v1_xF q l kind ver w h hv' hk' h1 he hb ht
    · exact rtake_v1e q l kind ver w h hv' hk' h1 he
  have h2 : ver = 2 := by omega
  cases ht : texty kind with
  | false => exact rtake_v2_F q l kind ver w h hv' hk' h2 ht
  | true =>
    by_cases he : (uintR 66 (l, 0)).2.2 = 0
    · by_cases n0 : (uintR 66 (l, 0)).1 = 0
      · exact rtake_v2_same q l kind ver w h hv' hk' h2 ht he n0
      by_cases n1 : (uintR 66 (l, 0)).1 = 1
      · exact rtake_v2_away q l kind ver w h hv' hk' h2 ht he n1
      · exact rtake_v2_here q l kind ver w h hv' hk' h2 ht he (by omega)
    · exact rtake_v2_e q l kind ver w h hv' hk' h2 ht he
def CrPost (q : Nat) (x : Cel × Nat) (s' : RS) (w : World) (e : Ending) (w' : World) : Prop :=
  e = .returned (.tuple #[rc x.1, .int .i64 (x.2 : Nat)]) ∧ Only q w w' ∧ IsQ w' q s'
theorem IsQ.errR {w : World} {q : Nat} {s : RS} (h : IsQ w q s) : w.cell? ⟨q, 2, none⟩ = some (.int .i64 s.2) := by
  obtain ⟨_, _, _, h1, _⟩ := h
  rw [cell_of_row _ _ _ _ _ _ h1]; rfl
set_option maxRecDepth 20000 in
set_option maxHeartbeats 2000000 in
theorem rTake_e (q : Nat) (l : List UInt8) (kind ver : Nat) (w : World) (h : IsQ w q (l, 0)) (he : (cRaw ver kind (tPre ver kind (l, 0))).2.2 ≠ 0) :
    Calls Tryz.prog 36 #[QPtr q, .int .u8 (kind : Nat), .int .u8 (ver : Nat)] w (CrPost q (cTake ver kind (l, 0)).1 (cTake ver kind (l, 0)).2 w) := by
  unfold CrPost cTake
  rw [if_pos he]
  have hql := h.lt
  have HQL := Lib.hid hql
  have hx0 : Ext w (w.alloc (.cells #[.int .u8 0, .int .u8 0, .int .i64 0, .int .u64 0, .int .u64 0, .string ⟨#[]⟩] 76)) := (Ch.refl _ _).alloc _
  have HZ0 := Lib.hid (heap_alloc_new w (.cells #[.int .u8 0, .int .u8 0, .int .i64 0, .int .u64 0, .int .u64 0, .string ⟨#[]⟩] 76))
  have HX0 : Hid (Only q w (w.alloc (.cells #[.int .u8 0, .int .u8 0, .int .i64 0, .int .u64 0, .int .u64 0, .string ⟨#[]⟩] 76))) := Lib.hid hx0.ch
  have HI0 := Lib.hid (h.ext hx0)
  have HCT := Lib.hid (rtake_any q l kind ver _ HI0.out)
  generalize cRaw ver kind (tPre ver kind (l, 0)) = R at *
  obtain ⟨⟨C, N⟩, s3⟩ := R
  simp only at HCT he ⊢
  have HE := Lib.hid he
  have eb : (s3.2 != 0) = true := by simpa using he
  have hb0 := fun w => buildRC_0 w
  clear h hx0 hql he
  unfold QPtr at *
  go_enter Tryz.func36, Tryz.ntmps36
  go_wp2_with (go_at_call 58; refine HCT.out.mono ?_)
  rintro e w3 ⟨c, n, rfl, k1, k2, k3⟩
  have HX3 := Lib.hid (HX0.out.trans k1); have H3 := Lib.hid k2; have HQ3 := Lib.hid k3
  have HG3 := Lib.hid (heap_of_only k1 (by have := HQL.out; omega) HZ0.out)
  clear k1 k2 k3
  have HK := Lib.hid (heap_alloc_new w3 (.cells #[.int .u8 0, .int .u8 0, .int .i64 0, .int .u64 0, .int .u64 0, .string ⟨#[]⟩] 76))
  obtain ⟨W4, hW4⟩ : ∃ W4, W4 = (w3.alloc (.cells #[.int .u8 0, .int .u8 0, .int .i64 0, .int .u64 0, .int .u64 0, .string ⟨#[]⟩] 76)).setRow w3.heap.size (rcv c) := ⟨_, rfl⟩
  have hx4 : Ext w3 W4 := by rw [hW4]; exact ((Ch.refl _ _).alloc _).setRow (.inr (Nat.le_refl _)) _
  have HK4 : Hid (W4.heap[w3.heap.size]? = some (.cells (rcv c) 76 (0, 0))) := Lib.hid (by rw [hW4]; exact setRow_heap _ _ _ _ _ _ HK.out)
  have HX4 := Lib.hid (HX3.out.trans hx4.ch); have H4 := Lib.hid (H3.out.ext hx4); have HG4 := Lib.hid (heap_of_ext hx4 HG3.out)
  have HW4 := Lib.hid hW4
  have ce := H4.out.errR
  clear hW4 hx4
  go_wp2_with (first
    | ((refine wpList_store_rowTo rfl _ _ _ rfl rfl w3.heap.size (rcv c) rfl rfl _ _ HK.out infoRC rfl (rcv_one _) ?_); rw [← HW4.out])
    | (refine wpList_store_rowTo rfl _ _ _ rfl rfl w.heap.size #[.int .u8 0, .int .u8 0, .int .i64 0, .int .u64 0, .int .u64 0, .string ⟨#[]⟩] rfl rfl _ _ HG4.out infoRC rfl (by simp [Value.oneCell']) ?_))
  refine bodyPost_ret (results_cell2 rfl _ _ w.heap.size _ #[.int .u8 0, .int .u8 0, .int .i64 0, .int .u64 0, .int .u64 0, .string ⟨#[]⟩] _ _ rfl (setRow_heap _ _ _ _ _ _ HG4.out) Tryz.underlying76 rfl infoRC) rfl ?_
  exact ⟨rfl, HX4.out.setRow (.inr (Nat.le_refl _)) _, H4.out.aboveT ((Ch.refl _ _).setRow (.inl (by have := HQL.out; omega)) _)⟩
set_option maxRecDepth 20000 in
set_option maxHeartbeats 2000000 in
theorem rTake_ok (q : Nat) (l : List UInt8) (kind ver : Nat) (w : World) (h : IsQ w q (l, 0)) (he : ¬ (cRaw ver kind (tPre ver kind (l, 0))).2.2 ≠ 0) :
    Calls Tryz.prog 36 #[QPtr q, .int .u8 (kind : Nat), .int .u8 (ver : Nat)] w (CrPost q (cTake ver kind (l, 0)).1 (cTake ver kind (l, 0)).2 w) := by
  unfold CrPost cTake
  rw [if_neg he]
  have hql := h.lt
  have HQL := Lib.hid hql
  have hx0 : Ext w (w.alloc (.cells #[.int .u8 0, .int .u8 0, .int .i64 0, .int .u64 0, .int .u64 0, .string ⟨#[]⟩] 76)) := (Ch.refl _ _).alloc _
  have HZ0 := Lib.hid (heap_alloc_new w (.cells #[.int .u8 0, .int .u8 0, .int .i64 0, .int .u64 0, .int .u64 0, .string ⟨#[]⟩] 76))
  have HX0 : Hid (Only q w (w.alloc (.cells #[.int .u8 0, .int .u8 0, .int .i64 0, .int .u64 0, .int .u64 0, .string ⟨#[]⟩] 76))) := Lib.hid hx0.ch
  have HI0 := Lib.hid (h.ext hx0)
  have HCT := Lib.hid (rtake_any q l kind ver _ HI0.out)
  generalize cRaw ver kind (tPre ver kind (l, 0)) = R at *
  obtain ⟨⟨C, N⟩, s3⟩ := R
  simp only at HCT he ⊢
  have HE := Lib.hid he
  have eb : (s3.2 != 0) = false := by simpa using he
  clear h hx0 hql he
  unfold QPtr at *
  go_enter Tryz.func36, Tryz.ntmps36
  go_wp2_with (go_at_call 58; refine HCT.out.mono ?_)
  rintro e w3 ⟨c, n, rfl, k1, k2, k3⟩
  have HX3 := Lib.hid (HX0.out.trans k1); have H3 := Lib.hid k2; have HQ3 := Lib.hid k3
  have HG3 := Lib.hid (heap_of_only k1 (by have := HQL.out; omega) HZ0.out)
  clear k1 k2 k3
  have HK := Lib.hid (heap_alloc_new w3 (.cells #[.int .u8 0, .int .u8 0, .int .i64 0, .int .u64 0, .int .u64 0, .string ⟨#[]⟩] 76))
  obtain ⟨W4, hW4⟩ : ∃ W4, W4 = (w3.alloc (.cells #[.int .u8 0, .int .u8 0, .int .i64 0, .int .u64 0, .int .u64 0, .string ⟨#[]⟩] 76)).setRow w3.heap.size (rcv c) := ⟨_, rfl⟩
  have hx4 : Ext w3 W4 := by rw [hW4]; exact ((Ch.refl _ _).alloc _).setRow (.inr (Nat.le_refl _)) _
  have HK4 : Hid (W4.heap[w3.heap.size]? = some (.cells (rcv c) 76 (0, 0))) := Lib.hid (by rw [hW4]; exact setRow_heap _ _ _ _ _ _ HK.out)
  have HX4 := Lib.hid (HX3.out.trans hx4.ch); have H4 := Lib.hid (H3.out.ext hx4); have HG4 := Lib.hid (heap_of_ext hx4 HG3.out)
  have HW4 := Lib.hid hW4
  have ce := H4.out.errR
  clear hW4 hx4
  have hcn := HQ3.out (by have := HE.out; simpa using this)
  simp only [Prod.mk.injEq] at hcn
  obtain ⟨rfl, rfl⟩ := hcn
  go_wp2_with (first
    | ((refine wpList_store_rowTo rfl _ _ _ rfl rfl w3.heap.size (rcv c) rfl rfl _ _ HK.out infoRC rfl (rcv_one _) ?_); rw [← HW4.out])
    | (refine wpList_load_row rfl _ _ rfl w3.heap.size rfl _ _ _ _ HK4.out Tryz.underlying76 rfl infoRC ?_)
    | (refine wpList_store_rowTo rfl _ _ _ rfl rfl w.heap.size (rcv c) rfl rfl _ _ HG4.out infoRC rfl (rcv_one _) ?_))
  refine bodyPost_ret (results_cell2 rfl _ _ w.heap.size _ (rcv c) _ _ rfl (setRow_heap _ _ _ _ _ _ HG4.out) Tryz.underlying76 rfl infoRC) rfl ?_
  exact ⟨rfl, HX4.out.setRow (.inr (Nat.le_refl _)) _, H4.out.aboveT ((Ch.refl _ _).setRow (.inl (by have := HQL.out; omega)) _)⟩
theorem rTake_any (q : Nat) (l : List UInt8) (kind ver : Nat) (w : World) (h : IsQ w q (l, 0)) :
    Calls Tryz.prog 36 #[QPtr q, .int .u8 (kind : Nat), .int .u8 (ver : Nat)] w (CrPost q (cTake ver kind (l, 0)).1 (cTake ver kind (l, 0)).2 w) := by
  by_cases he : (cRaw ver kind (tPre ver kind (l, 0))).2.2 ≠ 0
  · exact rTake_e q l kind ver w h he
  · exact rTake_ok q l kind ver w h he
end Go.Proofs.YtegclfpmgilnpaaGreat
