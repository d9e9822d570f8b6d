import Derived.Test.YtegclfpmgilnpaaGreatCelR
namespace Go.Proofs.YtegclfpmgilnpaaGreat
open Go.RowKit Go.Lac
set_option maxRecDepth 20000 in
set_option maxHeartbeats 3000000 in
theorem rtakeG_v1 (q : Nat) (er : Int) (her : er ≠ 0) (kind ver : Nat) (w : World) (h : IsQ w q (([] : List UInt8), er)) (hv : ver = 1 ∨ ver = 2) (hk : 1 ≤ kind ∧ kind ≤ 6) (h1 : ver = 1) (he : (byteR (([] : List UInt8), er)).2.2 ≠ 0) :
    Calls Tryz.prog 58 #[QPtr q, .int .u8 (kind : Nat), .int .u8 (ver : Nat)] w (CqPost q (cRaw ver kind (tPre ver kind (([] : List UInt8), er))).1 (cRaw ver kind (tPre ver kind (([] : List UInt8), er))).2 w) := by
  have hp : tPre ver kind (([] : List UInt8), er) = (([] : List UInt8), er) := tPre_ok (([] : List UInt8), er) hv hk.1 hk.2
  have HB3 := qbyte_any q (([] : List UInt8), er)
  have hpr : ∀ w', IsQ w' q (byteR (([] : List UInt8), er)).2 → (byteR (([] : List UInt8), er)).2 = ([], (byteR (([] : List UInt8), er)).2.2) := fun w' h' => Prod.ext (h'.proper he) rfl
  have hpr2 : (byteR (([] : List UInt8), er)).2 = ([], (byteR (([] : List UInt8), er)).2.2) := (by rw [byteR_gone' her])
  have HV : Hid ((cRaw ver kind (tPre ver kind (([] : List UInt8), er))).2 = (byteR (([] : List UInt8), er)).2 ∧ (byteR (([] : List UInt8), er)).2.2 ≠ 0) := Lib.hid ⟨by rw [hp, cRaw_gone her, byteR_gone' her], he⟩
  have HP : Hid (∀ (c : Cel) (n : Nat) w', Only q w w' → IsQ w' q (byteR (([] : List UInt8), er)).2 → CqPost q (cRaw ver kind (tPre ver kind (([] : List UInt8), er))).1 (cRaw ver kind (tPre ver kind (([] : List UInt8), er))).2 w (.returned (.tuple #[rc c, .int .i64 (n : Nat)])) w') := Lib.hid fun c n w' h1 h2 => by rw [HV.out.1]; exact ⟨c, n, rfl, h1, h2, fun h => absurd h HV.out.2⟩
  have hql := h.lt
  have HQL := Lib.hid hql
  have hg6 : ((w.alloc (.cells #[.int .u8 0, .int .u8 0, .int .i64 0, .int .u64 0, .int .u64 0, .string ⟨#[]⟩] 76)).alloc (.cells #[.int .u8 0, .int .u8 0, .int .i64 0, .int .u64 0, .int .u64 0, .string ⟨#[]⟩] 76)).heap[w.heap.size]? = _ := heap_alloc2_old w _ _
  have hq : ((w.alloc (.cells #[.int .u8 0, .int .u8 0, .int .i64 0, .int .u64 0, .int .u64 0, .string ⟨#[]⟩] 76)).alloc (.cells #[.int .u8 0, .int .u8 0, .int .i64 0, .int .u64 0, .int .u64 0, .string ⟨#[]⟩] 76)).heap[(w.heap.size + 1)]? = _ := heap_alloc2_new w _ _
  have HQ := Lib.hid hq
  obtain ⟨W3, hW3⟩ : ∃ W3, W3 = ((w.alloc (.cells #[.int .u8 0, .int .u8 0, .int .i64 0, .int .u64 0, .int .u64 0, .string ⟨#[]⟩] 76)).alloc (.cells #[.int .u8 0, .int .u8 0, .int .i64 0, .int .u64 0, .int .u64 0, .string ⟨#[]⟩] 76)).setRow (w.heap.size + 1) #[.int .u8 2, .int .u8 (kind : Nat), .int .i64 0, .int .u64 0, .int .u64 0, .string ⟨#[]⟩] := ⟨_, rfl⟩
  have hx3 : Ext w W3 := by rw [hW3]; exact (((Ch.refl _ _).alloc _).alloc _).setRow (.inr (by omega)) _
  have HZ3 : Hid (W3.heap[w.heap.size]? = some (.cells #[.int .u8 0, .int .u8 0, .int .i64 0, .int .u64 0, .int .u64 0, .string ⟨#[]⟩] 76 (0, 0))) := Lib.hid (by rw [hW3, setRow_other _ _ _ _ (by omega)]; exact hg6)
  have HR3 : Hid (W3.heap[(w.heap.size + 1)]? = some (.cells #[.int .u8 2, .int .u8 (kind : Nat), .int .i64 0, .int .u64 0, .int .u64 0, .string ⟨#[]⟩] 76 (0, 0))) := Lib.hid (by rw [hW3]; exact setRow_heap _ _ _ _ _ _ hq)
  have HX3 : Hid (Only q w W3) := Lib.hid hx3.ch
  have HI3 := Lib.hid (h.ext hx3)
  have HW3 := Lib.hid hW3
  have hb1 := fun w => build54_1 w kind
  have hb2 := fun w => buildRC_2 w kind
  clear hq hx3 hg6 hW3
  have HU := Lib.hid (qbyte_any q (([] : List UInt8), er) W3 HI3.out)
  generalize (byteR (([] : List UInt8), er)).1 = b at *
  generalize (byteR (([] : List UInt8), er)).2 = s1 at *
  have HERR := Lib.hid he
  have hb0 := fun w => buildRC_0 w
  subst h1
  have hk1 := hk.1
  have hk6 := hk.2
  clear hk
  clear h hql hp hpr hpr2 he hv HB3
  unfold QPtr at *
  go_enter Tryz.func58, Tryz.ntmps58
  go_wp2_with (first
    | (refine wpList_store_rowTo rfl _ _ _ rfl rfl (w.heap.size + 1) #[.int .u8 2, .int .u8 (kind : Nat), .int .i64 0, .int .u64 0, .int .u64 0, .string ⟨#[]⟩] rfl rfl _ _ HQ.out infoRC rfl (by simp [Value.oneCell']) ?_; rw [← HW3.out])
    | (go_at_call 83; refine HU.out.mono ?_))
  rintro e w1 ⟨rfl, k1, k2⟩
  have HX1 := Lib.hid (HX3.out.trans k1); have HI1 := Lib.hid k2
  have HZ1 := Lib.hid (heap_of_only k1 (by have := HQL.out; omega) HZ3.out); have HR1 := Lib.hid (heap_of_only k1 (by have := HQL.out; omega) HR3.out)
  clear k1 k2
  obtain ⟨_, _, _, _, _, _, ce, _⟩ := HI1.out.cells
  have eb : (s1.2 != 0) = true := by simpa using HERR.out
  go_wp2_with (first
    | (refine wpList_store_rowTo rfl _ _ _ rfl rfl w.heap.size #[.int .u8 0, .int .u8 0, .int .i64 0, .int .u64 0, .int .u64 0, .string ⟨#[]⟩] rfl rfl _ _ HZ1.out infoRC rfl (by simp [Value.oneCell', rcv, strV]) ?_))
  refine bodyPost_ret (results_cell2 rfl _ _ w.heap.size _ #[.int .u8 0, .int .u8 0, .int .i64 0, .int .u64 0, .int .u64 0, .string ⟨#[]⟩] _ _ rfl (setRow_heap _ _ _ _ _ _ HZ1.out) Tryz.underlying76 rfl infoRC) rfl ?_
  exact HP.out Cel.zero 0 _ (HX1.out.setRow (.inr (Nat.le_refl _)) _) ((HI1.out).aboveT ((Ch.refl _ _).setRow (.inl (by have := HQL.out; omega)) _))
set_option maxRecDepth 20000 in
set_option maxHeartbeats 3000000 in
theorem rtakeG_v2F (q : Nat) (er : Int) (her : er ≠ 0) (kind ver : Nat) (w : World) (h : IsQ w q (([] : List UInt8), er)) (hv : ver = 1 ∨ ver = 2) (hk : 1 ≤ kind ∧ kind ≤ 6) (h1 : ver = 2) (ht : texty kind = false) :
    Calls Tryz.prog 58 #[QPtr q, .int .u8 (kind : Nat), .int .u8 (ver : Nat)] w (CqPost q (cRaw ver kind (tPre ver kind (([] : List UInt8), er))).1 (cRaw ver kind (tPre ver kind (([] : List UInt8), er))).2 w) := by
  have hp : tPre ver kind (([] : List UInt8), er) = (([] : List UInt8), er) := tPre_ok (([] : List UInt8), er) hv hk.1 hk.2
  have HV : Hid (cRaw ver kind (tPre ver kind (([] : List UInt8), er)) = ((Cel.mk 2 (vTake 2 kind (([] : List UInt8), er)).1, 0), (vTake 2 kind (([] : List UInt8), er)).2)) := Lib.hid (by rw [hp, h1, cRaw_2p _ (by rw [ht]; simp)])
  have HP : Hid (∀ (c : Cel) (n : Nat) w', Only q w w' → IsQ w' q (((Cel.mk 2 (vTake 2 kind (([] : List UInt8), er)).1, 0), (vTake 2 kind (([] : List UInt8), er)).2)).2 → ((((Cel.mk 2 (vTake 2 kind (([] : List UInt8), er)).1, 0), (vTake 2 kind (([] : List UInt8), er)).2)).2.2 = 0 → (c, n) = (((Cel.mk 2 (vTake 2 kind (([] : List UInt8), er)).1, 0), (vTake 2 kind (([] : List UInt8), er)).2)).1) → CqPost q (cRaw ver kind (tPre ver kind (([] : List UInt8), er))).1 (cRaw ver kind (tPre ver kind (([] : List UInt8), er))).2 w (.returned (.tuple #[rc c, .int .i64 (n : Nat)])) w') := Lib.hid fun c n w' h1 h2 h3 => by rw [HV.out]; exact ⟨c, n, rfl, h1, h2, h3⟩
  have hql := h.lt
  have HQL := Lib.hid hql
  have hg6 : ((w.alloc (.cells #[.int .u8 0, .int .u8 0, .int .i64 0, .int .u64 0, .int .u64 0, .string ⟨#[]⟩] 76)).alloc (.cells #[.int .u8 0, .int .u8 0, .int .i64 0, .int .u64 0, .int .u64 0, .string ⟨#[]⟩] 76)).heap[w.heap.size]? = _ := heap_alloc2_old w _ _
  have hq : ((w.alloc (.cells #[.int .u8 0, .int .u8 0, .int .i64 0, .int .u64 0, .int .u64 0, .string ⟨#[]⟩] 76)).alloc (.cells #[.int .u8 0, .int .u8 0, .int .i64 0, .int .u64 0, .int .u64 0, .string ⟨#[]⟩] 76)).heap[(w.heap.size + 1)]? = _ := heap_alloc2_new w _ _
  have HQ := Lib.hid hq
  obtain ⟨W3, hW3⟩ : ∃ W3, W3 = ((w.alloc (.cells #[.int .u8 0, .int .u8 0, .int .i64 0, .int .u64 0, .int .u64 0, .string ⟨#[]⟩] 76)).alloc (.cells #[.int .u8 0, .int .u8 0, .int .i64 0, .int .u64 0, .int .u64 0, .string ⟨#[]⟩] 76)).setRow (w.heap.size + 1) #[.int .u8 2, .int .u8 (kind : Nat), .int .i64 0, .int .u64 0, .int .u64 0, .string ⟨#[]⟩] := ⟨_, rfl⟩
  have hx3 : Ext w W3 := by rw [hW3]; exact (((Ch.refl _ _).alloc _).alloc _).setRow (.inr (by omega)) _
  have HZ3 : Hid (W3.heap[w.heap.size]? = some (.cells #[.int .u8 0, .int .u8 0, .int .i64 0, .int .u64 0, .int .u64 0, .string ⟨#[]⟩] 76 (0, 0))) := Lib.hid (by rw [hW3, setRow_other _ _ _ _ (by omega)]; exact hg6)
  have HR3 : Hid (W3.heap[(w.heap.size + 1)]? = some (.cells #[.int .u8 2, .int .u8 (kind : Nat), .int .i64 0, .int .u64 0, .int .u64 0, .string ⟨#[]⟩] 76 (0, 0))) := Lib.hid (by rw [hW3]; exact setRow_heap _ _ _ _ _ _ hq)
  have HX3 : Hid (Only q w W3) := Lib.hid hx3.ch
  have HI3 := Lib.hid (h.ext hx3)
  have HW3 := Lib.hid hW3
  have hb1 := fun w => build54_1 w kind
  have hb2 := fun w => buildRC_2 w kind
  clear hq hx3 hg6 hW3
  have HTX := Lib.hid (fun w => rTexty_any kind w)
  rw [ht] at HTX
  have HTK := Lib.hid (fun w h => qtake_val q (([] : List UInt8), er) 2 kind w h)
  generalize (vTake 2 kind (([] : List UInt8), er)).1 = tv at *
  generalize (vTake 2 kind (([] : List UInt8), er)).2 = s5 at *
  subst h1
  have hk1 := hk.1
  have hk6 := hk.2
  clear hk
  clear h hql hp hv ht HV
  unfold QPtr at *
  go_enter Tryz.func58, Tryz.ntmps58
  go_wp2_with (first
    | (refine wpList_store_rowTo rfl _ _ _ rfl rfl (w.heap.size + 1) #[.int .u8 2, .int .u8 (kind : Nat), .int .i64 0, .int .u64 0, .int .u64 0, .string ⟨#[]⟩] rfl rfl _ _ HQ.out infoRC rfl (by simp [Value.oneCell']) ?_; rw [← HW3.out])
    | (go_at_call 60; refine (HTX.out _).mono ?_; rintro e w' ⟨rfl, rfl⟩)
    | (go_at_call 85; refine (HTK.out _ HI3.out).mono ?_))
  rintro e w4 ⟨rfl, k1, k2⟩
  have HX4 := Lib.hid (HX3.out.trans k1); have HI4 := Lib.hid k2
  have HZ4 := Lib.hid (heap_of_only k1 (by have := HQL.out; omega) HZ3.out); have HR4 := Lib.hid (heap_of_only k1 (by have := HQL.out; omega) HR3.out)
  clear k1 k2
  obtain ⟨W5, hW5⟩ : ∃ W5, W5 = w4.setCells (w.heap.size + 1) 1 (rvals tv).toList := ⟨_, rfl⟩
  have HR5 : Hid (W5.heap[w.heap.size + 1]? = some (.cells (rcv ⟨2, tv⟩) 76 (0, 0))) := Lib.hid (by rw [hW5]; exact setCells5 HR4.out)
  have hk5 : Ch (fun i => i = w.heap.size + 1) w4 W5 := by rw [hW5]; exact ch_setCells5 (M := fun i => i = w.heap.size + 1) w4 (w.heap.size + 1) rfl _ _ _ _ _
  have HZ5 := Lib.hid (heap_of_only hk5 (by omega) HZ4.out)
  have HI5 : Hid (IsQ W5 q s5) := Lib.hid (HI4.out.aboveT (hk5.mono fun j _ h => by have := HQL.out; omega))
  have HX5 : Hid (Only q w W5) := Lib.hid (by
    rw [hW5]
    exact (((((HX4.out.setCell (p := ⟨w.heap.size + 1, 1, none⟩) (.inr (Nat.le_succ _)) _).setCell (p := ⟨w.heap.size + 1, 2, none⟩) (.inr (Nat.le_succ _)) _).setCell (p := ⟨w.heap.size + 1, 3, none⟩) (.inr (Nat.le_succ _)) _).setCell (p := ⟨w.heap.size + 1, 4, none⟩) (.inr (Nat.le_succ _)) _).setCell (p := ⟨w.heap.size + 1, 5, none⟩) (.inr (Nat.le_succ _)) _))
  have HTH : Hid (w4.there (w.heap.size + 1) 1 (rvals tv).size) := Lib.hid fun j hj => by
    have hj5 : j < 5 := hj
    have hjc : 1 + j < 6 := by omega
    refine ⟨?_, frozen_of_row w4 (w.heap.size + 1) (1 + j) _ _ HR4.out⟩
    rw [cell_of_row _ _ _ _ _ _ HR4.out]
    match j, hj5 with
    | 0, _ => rfl
    | 1, _ => rfl
    | 2, _ => rfl
    | 3, _ => rfl
    | 4, _ => rfl
  have HW5 := Lib.hid hW5
  clear hW5 hk5
  go_wp2_with (first
    | (refine wpList_store_mid rfl _ _ _ rfl (w.heap.size + 1) 1 (rvals tv) rfl rfl HTH.out infoRV (by simp [rvals, strV, Value.oneCell']) ?_; rw [← HW5.out])
    | (refine wpList_load_row rfl _ _ rfl (w.heap.size + 1) rfl _ _ _ _ HR5.out Tryz.underlying76 rfl infoRC ?_)
    | (refine wpList_store_rowTo rfl _ _ _ rfl rfl w.heap.size (rcv ⟨2, tv⟩) rfl rfl _ _ HZ5.out infoRC rfl (by simp [Value.oneCell', rcv, strV]) ?_))
  refine bodyPost_ret (results_cell2 rfl _ _ w.heap.size _ (rcv ⟨2, tv⟩) _ _ rfl (setRow_heap _ _ _ _ _ _ HZ5.out) Tryz.underlying76 rfl infoRC) rfl ?_
  exact HP.out ⟨2, tv⟩ 0 _ (HX5.out.setRow (.inr (Nat.le_refl _)) _) ((HI5.out).aboveT ((Ch.refl _ _).setRow (.inl (by have := HQL.out; omega)) _)) (fun _ => rfl)
set_option maxRecDepth 20000 in
set_option maxHeartbeats 3000000 in
theorem rtakeG_v2T (q : Nat) (er : Int) (her : er ≠ 0) (kind ver : Nat) (w : World) (h : IsQ w q (([] : List UInt8), er)) (hv : ver = 1 ∨ ver = 2) (hk : 1 ≤ kind ∧ kind ≤ 6) (h1 : ver = 2) (ht : texty kind = true) (he : (uintR 66 (([] : List UInt8), er)).2.2 ≠ 0) :
    Calls Tryz.prog 58 #[QPtr q, .int .u8 (kind : Nat), .int .u8 (ver : Nat)] w (CqPost q (cRaw ver kind (tPre ver kind (([] : List UInt8), er))).1 (cRaw ver kind (tPre ver kind (([] : List UInt8), er))).2 w) := by
  have hp : tPre ver kind (([] : List UInt8), er) = (([] : List UInt8), er) := tPre_ok (([] : List UInt8), er) hv hk.1 hk.2
  have HV : Hid ((cRaw ver kind (tPre ver kind (([] : List UInt8), er))).2 = (uintR 66 (([] : List UInt8), er)).2 ∧ (uintR 66 (([] : List UInt8), er)).2.2 ≠ 0) := Lib.hid ⟨by rw [hp, cRaw_gone her, uintR_gone' her], he⟩
  have HP : Hid (∀ (c : Cel) (n : Nat) w', Only q w w' → IsQ w' q (uintR 66 (([] : List UInt8), er)).2 → CqPost q (cRaw ver kind (tPre ver kind (([] : List UInt8), er))).1 (cRaw ver kind (tPre ver kind (([] : List UInt8), er))).2 w (.returned (.tuple #[rc c, .int .i64 (n : Nat)])) w') := Lib.hid fun c n w' h1 h2 => by rw [HV.out.1]; exact ⟨c, n, rfl, h1, h2, fun h => absurd h HV.out.2⟩
  have hql := h.lt
  have HQL := Lib.hid hql
  have hg6 : ((w.alloc (.cells #[.int .u8 0, .int .u8 0, .int .i64 0, .int .u64 0, .int .u64 0, .string ⟨#[]⟩] 76)).alloc (.cells #[.int .u8 0, .int .u8 0, .int .i64 0, .int .u64 0, .int .u64 0, .string ⟨#[]⟩] 76)).heap[w.heap.size]? = _ := heap_alloc2_old w _ _
  have hq : ((w.alloc (.cells #[.int .u8 0, .int .u8 0, .int .i64 0, .int .u64 0, .int .u64 0, .string ⟨#[]⟩] 76)).alloc (.cells #[.int .u8 0, .int .u8 0, .int .i64 0, .int .u64 0, .int .u64 0, .string ⟨#[]⟩] 76)).heap[(w.heap.size + 1)]? = _ := heap_alloc2_new w _ _
  have HQ := Lib.hid hq
  obtain ⟨W3, hW3⟩ : ∃ W3, W3 = ((w.alloc (.cells #[.int .u8 0, .int .u8 0, .int .i64 0, .int .u64 0, .int .u64 0, .string ⟨#[]⟩] 76)).alloc (.cells #[.int .u8 0, .int .u8 0, .int .i64 0, .int .u64 0, .int .u64 0, .string ⟨#[]⟩] 76)).setRow (w.heap.size + 1) #[.int .u8 2, .int .u8 (kind : Nat), .int .i64 0, .int .u64 0, .int .u64 0, .string ⟨#[]⟩] := ⟨_, rfl⟩
  have hx3 : Ext w W3 := by rw [hW3]; exact (((Ch.refl _ _).alloc _).alloc _).setRow (.inr (by omega)) _
  have HZ3 : Hid (W3.heap[w.heap.size]? = some (.cells #[.int .u8 0, .int .u8 0, .int .i64 0, .int .u64 0, .int .u64 0, .string ⟨#[]⟩] 76 (0, 0))) := Lib.hid (by rw [hW3, setRow_other _ _ _ _ (by omega)]; exact hg6)
  have HR3 : Hid (W3.heap[(w.heap.size + 1)]? = some (.cells #[.int .u8 2, .int .u8 (kind : Nat), .int .i64 0, .int .u64 0, .int .u64 0, .string ⟨#[]⟩] 76 (0, 0))) := Lib.hid (by rw [hW3]; exact setRow_heap _ _ _ _ _ _ hq)
  have HX3 : Hid (Only q w W3) := Lib.hid hx3.ch
  have HI3 := Lib.hid (h.ext hx3)
  have HW3 := Lib.hid hW3
  have hb1 := fun w => build54_1 w kind
  have hb2 := fun w => buildRC_2 w kind
  clear hq hx3 hg6 hW3
  have HTX := Lib.hid (fun w => rTexty_any kind w)
  rw [ht] at HTX
  have hle := uintR_le 66 (([] : List UInt8), er)
  have HU := Lib.hid (quint_any q (([] : List UInt8), er) 66 W3 HI3.out (by omega))
  generalize (uintR 66 (([] : List UInt8), er)).1 = m at *
  generalize (uintR 66 (([] : List UInt8), er)).2 = s1 at *
  have HERR := Lib.hid he
  have hb0 := fun w => buildRC_0 w
  subst h1
  have hk1 := hk.1
  have hk6 := hk.2
  clear hk
  clear h hql hp he hv ht HV
  unfold QPtr at *
  go_enter Tryz.func58, Tryz.ntmps58
  go_wp2_with (first
    | (refine wpList_store_rowTo rfl _ _ _ rfl rfl (w.heap.size + 1) #[.int .u8 2, .int .u8 (kind : Nat), .int .i64 0, .int .u64 0, .int .u64 0, .string ⟨#[]⟩] rfl rfl _ _ HQ.out infoRC rfl (by simp [Value.oneCell']) ?_; rw [← HW3.out])
    | (go_at_call 60; refine (HTX.out _).mono ?_; rintro e w' ⟨rfl, rfl⟩)
    | (go_at_call 87; refine HU.out.mono ?_))
  rintro e w1 ⟨rfl, k1, k2⟩
  have HX1 := Lib.hid (HX3.out.trans k1); have HI1 := Lib.hid k2
  have HZ1 := Lib.hid (heap_of_only k1 (by have := HQL.out; omega) HZ3.out); have HR1 := Lib.hid (heap_of_only k1 (by have := HQL.out; omega) HR3.out)
  clear k1 k2
  obtain ⟨_, _, _, _, _, _, ce, _⟩ := HI1.out.cells
  have eb : (s1.2 != 0) = true := by simpa using HERR.out
  go_wp2_with (first
    | (refine wpList_store_rowTo rfl _ _ _ rfl rfl w.heap.size #[.int .u8 0, .int .u8 0, .int .i64 0, .int .u64 0, .int .u64 0, .string ⟨#[]⟩] rfl rfl _ _ HZ1.out infoRC rfl (by simp [Value.oneCell', rcv, strV]) ?_))
  refine bodyPost_ret (results_cell2 rfl _ _ w.heap.size _ #[.int .u8 0, .int .u8 0, .int .i64 0, .int .u64 0, .int .u64 0, .string ⟨#[]⟩] _ _ rfl (setRow_heap _ _ _ _ _ _ HZ1.out) Tryz.underlying76 rfl infoRC) rfl ?_
  exact HP.out Cel.zero 0 _ (HX1.out.setRow (.inr (Nat.le_refl _)) _) ((HI1.out).aboveT ((Ch.refl _ _).setRow (.inl (by have := HQL.out; omega)) _))
theorem rtakeG (q : Nat) (er : Int) (her : er ≠ 0) (kind ver : Nat) (w : World) (h : IsQ w q (([] : List UInt8), er)) (hv : ver = 1 ∨ ver = 2) (hk : 1 ≤ kind ∧ kind ≤ 6) :
    Calls Tryz.prog 58 #[QPtr q, .int .u8 (kind : Nat), .int .u8 (ver : Nat)] w (CqPost q (cRaw ver kind (tPre ver kind (([] : List UInt8), er))).1 (cRaw ver kind (tPre ver kind (([] : List UInt8), er))).2 w) := by
  rcases hv with h1 | h2
  · exact rtakeG_v1 q er her kind ver w h (.inl h1) hk h1 (by rw [byteR_gone' her]; exact her)
  · cases ht : texty kind with
    | false => exact rtakeG_v2F q er her kind ver w h (.inr h2) hk h2 ht
    | true => exact rtakeG_v2T q er her kind ver w h (.inr h2) hk h2 ht (by rw [uintR_gone' her]; exact her)
set_option maxRecDepth 20000 in
set_option maxHeartbeats 3000000 in
theorem rTakeG (q : Nat) (er : Int) (her : er ≠ 0) (kind ver : Nat) (w : World) (h : IsQ w q (([] : List UInt8), er)) (hv : ver = 1 ∨ ver = 2) (hk : 1 ≤ kind ∧ kind ≤ 6) (he : (cRaw ver kind (tPre ver kind (([] : List UInt8), er))).2.2 ≠ 0) :
    Calls Tryz.prog 36 #[QPtr q, .int .u8 (kind : Nat), .int .u8 (ver : Nat)] w (CrPost q (cTake ver kind (([] : List UInt8), er)).1 (cTake ver kind (([] : List UInt8), er)).2 w) := by
  unfold CrPost cTake
  rw [if_pos he]
  have hql := h.lt
  have HQL := Lib.hid hql
  have hx0 : Ext w (w.alloc (.cells #[.int .u8 0, .int .u8 0, .int .i64 0, .int .u64 0, .int .u64 0, .string ⟨#[]⟩] 76)) := (Ch.refl _ _).alloc _
  have HZ0 := Lib.hid (heap_alloc_new w (.cells #[.int .u8 0, .int .u8 0, .int .i64 0, .int .u64 0, .int .u64 0, .string ⟨#[]⟩] 76))
  have HX0 : Hid (Only q w (w.alloc (.cells #[.int .u8 0, .int .u8 0, .int .i64 0, .int .u64 0, .int .u64 0, .string ⟨#[]⟩] 76))) := Lib.hid hx0.ch
  have HI0 := Lib.hid (h.ext hx0)
  have HCT := Lib.hid (rtakeG q er her kind ver _ HI0.out hv hk)
  generalize cRaw ver kind (tPre ver kind (([] : List UInt8), er)) = R at *
  obtain ⟨⟨C, N⟩, s3⟩ := R
  simp only at HCT he ⊢
  have HE := Lib.hid he
  have eb : (s3.2 != 0) = true := by simpa using he
  have hb0 := fun w => buildRC_0 w
  clear h hx0 hql he
  unfold QPtr at *
  go_enter Tryz.func36, Tryz.ntmps36
  go_wp2_with (go_at_call 58; refine HCT.out.mono ?_)
  rintro e w3 ⟨c, n, rfl, k1, k2, k3⟩
  have HX3 := Lib.hid (HX0.out.trans k1); have H3 := Lib.hid k2; have HQ3 := Lib.hid k3
  have HG3 := Lib.hid (heap_of_only k1 (by have := HQL.out; omega) HZ0.out)
  clear k1 k2 k3
  have HK := Lib.hid (heap_alloc_new w3 (.cells #[.int .u8 0, .int .u8 0, .int .i64 0, .int .u64 0, .int .u64 0, .string ⟨#[]⟩] 76))
  obtain ⟨W4, hW4⟩ : ∃ W4, W4 = (w3.alloc (.cells #[.int .u8 0, .int .u8 0, .int .i64 0, .int .u64 0, .int .u64 0, .string ⟨#[]⟩] 76)).setRow w3.heap.size (rcv c) := ⟨_, rfl⟩
  have hx4 : Ext w3 W4 := by rw [hW4]; exact ((Ch.refl _ _).alloc _).setRow (.inr (Nat.le_refl _)) _
  have HK4 : Hid (W4.heap[w3.heap.size]? = some (.cells (rcv c) 76 (0, 0))) := Lib.hid (by rw [hW4]; exact setRow_heap _ _ _ _ _ _ HK.out)
  have HX4 := Lib.hid (HX3.out.trans hx4.ch); have H4 := Lib.hid (H3.out.ext hx4); have HG4 := Lib.hid (heap_of_ext hx4 HG3.out)
  have HW4 := Lib.hid hW4
  have ce := H4.out.errR
  clear hW4 hx4
  go_wp2_with (first
    | ((refine wpList_store_rowTo rfl _ _ _ rfl rfl w3.heap.size (rcv c) rfl rfl _ _ HK.out infoRC rfl (rcv_one _) ?_); rw [← HW4.out])
    | (refine wpList_store_rowTo rfl _ _ _ rfl rfl w.heap.size #[.int .u8 0, .int .u8 0, .int .i64 0, .int .u64 0, .int .u64 0, .string ⟨#[]⟩] rfl rfl _ _ HG4.out infoRC rfl (by simp [Value.oneCell']) ?_))
  refine bodyPost_ret (results_cell2 rfl _ _ w.heap.size _ #[.int .u8 0, .int .u8 0, .int .i64 0, .int .u64 0, .int .u64 0, .string ⟨#[]⟩] _ _ rfl (setRow_heap _ _ _ _ _ _ HG4.out) Tryz.underlying76 rfl infoRC) rfl ?_
  exact ⟨rfl, HX4.out.setRow (.inr (Nat.le_refl _)) _, H4.out.aboveT ((Ch.refl _ _).setRow (.inl (by have := HQL.out; omega)) _)⟩
theorem rTakeS (q : Nat) (s : RS) (kind ver : Nat) (w : World) (h : IsQ w q s) (hv : ver = 1 ∨ ver = 2) (hk : 1 ≤ kind ∧ kind ≤ 6) :
    Calls Tryz.prog 36 #[QPtr q, .int .u8 (kind : Nat), .int .u8 (ver : Nat)] w (CrPost q (cTake ver kind s).1 (cTake ver kind s).2 w) := by
  have hp := h.proper
  obtain ⟨l, e⟩ := s
  by_cases he : e = 0
  · subst he; exact rTake_any q l kind ver w h
  · have := hp he
    simp only at this
    subst this
    exact rTakeG q e he kind ver w h hv hk (by rw [tPre_ok _ hv hk.1 hk.2, cRaw_gone he]; exact he)
end Go.Proofs.YtegclfpmgilnpaaGreat
