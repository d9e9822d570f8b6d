import Derived.Test.YtegclfpmgilnpaaGreatGVal
namespace Go.Proofs.YtegclfpmgilnpaaGreat
open Go.RowKit Go.Lac
set_option maxRecDepth 20000 in
set_option maxHeartbeats 4000000 in
theorem rright_any (v : Val) (w : World) :
    Calls Tryz.prog 61 #[rv v] w fun e w' => e = .returned (.int .i64 (vErr v : Nat)) ∧ Ext w w' := by
  obtain ⟨k, n, re, im, t⟩ := v
  obtain ⟨E, hE⟩ : ∃ E, E = vErr ⟨k, n, re, im, t⟩ := ⟨_, rfl⟩
  rw [← hE]
  unfold vErr at hE
  simp only at hE
  have htx := fun w h => plain_any t w h
  have HLEN : (⟨t.toArray⟩ : ByteArray).size = t.length := by simp [ByteArray.size]
  have HQ : Hid ((⟨t.toArray⟩ : ByteArray).toList.isEmpty = decide (t = [])) := Lib.hid (by rw [ByteArray.toList_mk]; cases t <;> simp)
  unfold rv rvals strV at *
  simp only
  have HX : Hid (Ext w (w.alloc (.cells #[.int .u8 (k : Nat), .int .i64 n, .int .u64 (re : Nat), .int .u64 (im : Nat), .string ⟨t.toArray⟩] 74))) := Lib.hid ((Ch.refl _ _).alloc _)
  generalize (⟨t.toArray⟩ : ByteArray) = A at *
  have HTX := Lib.hid htx; have HE := Lib.hid hE; clear htx hE
  have key : ∀ c : Nat, E = c → (Ending.returned (Value.int IntKind.i64 (c : Nat)) = Ending.returned (.int .i64 (E : Nat))) := fun c h => by rw [h]
  have KEY := Lib.hid key; clear key
  by_cases k1 : k < 1
  · have HF : Hid (E = 11) := Lib.hid (by rw [HE.out, if_pos (.inl k1)])
    clear HE HTX HQ
    go_enter Tryz.func61, Tryz.ntmps61
    go_wp2
    go_ret
    exact ⟨KEY.out 11 HF.out, HX.out⟩
  by_cases k6 : 6 < k
  · have HF : Hid (E = 11) := Lib.hid (by rw [HE.out, if_pos (.inr k6)])
    clear HE HTX HQ
    go_enter Tryz.func61, Tryz.ntmps61
    go_wp2
    go_ret
    exact ⟨KEY.out 11 HF.out, HX.out⟩
  have hk : k = 1 ∨ k = 2 ∨ k = 3 ∨ k = 4 ∨ k = 5 ∨ k = 6 := by omega
  clear k1 k6
  rcases hk with rfl | rfl | rfl | rfl | rfl | rfl
  · by_cases q0 : re = 0
    rotate_left
    · have HF : Hid (E = 3) := Lib.hid (by rw [HE.out]; simp [q0])
      have e0 : (((re : Nat) : Int) != 0) = true := by simp; omega
      clear HE HTX HQ q0
      go_enter Tryz.func61, Tryz.ntmps61
      go_wp2
      go_ret
      exact ⟨KEY.out 3 HF.out, HX.out⟩
    subst q0
    by_cases q1 : im = 0
    rotate_left
    · have HF : Hid (E = 3) := Lib.hid (by rw [HE.out]; simp [q1])
      have e1 : (((im : Nat) : Int) != 0) = true := by simp; omega
      clear HE HTX HQ q1
      go_enter Tryz.func61, Tryz.ntmps61
      go_wp2
      go_ret
      exact ⟨KEY.out 3 HF.out, HX.out⟩
    subst q1
    by_cases q2 : t = []
    rotate_left
    · have HF : Hid (E = 3) := Lib.hid (by rw [HE.out]; simp [q2])
      have e2 : A.toList.isEmpty = false := by rw [HQ.out]; simpa using q2
      clear HE HTX HQ q2
      go_enter Tryz.func61, Tryz.ntmps61
      go_wp2
      go_ret
      exact ⟨KEY.out 3 HF.out, HX.out⟩
    have e2 : A.toList.isEmpty = true := by rw [HQ.out]; simpa using q2
    subst q2
    by_cases g : n = 0 ∨ n = 1
    rotate_left
    · have g1 : n ≠ 0 := fun h => g (.inl h)
      have g2 : n ≠ 1 := fun h => g (.inr h)
      have HF : Hid (E = 4) := Lib.hid (by rw [HE.out]; simp [g1, g2])
      have e5 : (n != 0) = true := by simpa using g1
      have e6 : (n != 1) = true := by simpa using g2
      clear HE HTX HQ g g1 g2
      go_enter Tryz.func61, Tryz.ntmps61
      go_wp2
      go_ret
      exact ⟨KEY.out 4 HF.out, HX.out⟩
    have HF : Hid (E = 0) := Lib.hid (by rw [HE.out]; rcases g with rfl | rfl <;> simp)
    clear HE HTX HQ
    rcases g with rfl | rfl
    · go_enter Tryz.func61, Tryz.ntmps61
      go_wp2
      go_ret
      exact ⟨KEY.out 0 HF.out, HX.out⟩
    · go_enter Tryz.func61, Tryz.ntmps61
      go_wp2
      go_ret
      exact ⟨KEY.out 0 HF.out, HX.out⟩
  · by_cases q0 : re = 0
    rotate_left
    · have HF : Hid (E = 3) := Lib.hid (by rw [HE.out]; simp [q0])
      have e0 : (((re : Nat) : Int) != 0) = true := by simp; omega
      clear HE HTX HQ q0
      go_enter Tryz.func61, Tryz.ntmps61
      go_wp2
      go_ret
      exact ⟨KEY.out 3 HF.out, HX.out⟩
    subst q0
    by_cases q1 : im = 0
    rotate_left
    · have HF : Hid (E = 3) := Lib.hid (by rw [HE.out]; simp [q1])
      have e1 : (((im : Nat) : Int) != 0) = true := by simp; omega
      clear HE HTX HQ q1
      go_enter Tryz.func61, Tryz.ntmps61
      go_wp2
      go_ret
      exact ⟨KEY.out 3 HF.out, HX.out⟩
    subst q1
    by_cases q2 : t = []
    rotate_left
    · have HF : Hid (E = 3) := Lib.hid (by rw [HE.out]; simp [q2])
      have e2 : A.toList.isEmpty = false := by rw [HQ.out]; simpa using q2
      clear HE HTX HQ q2
      go_enter Tryz.func61, Tryz.ntmps61
      go_wp2
      go_ret
      exact ⟨KEY.out 3 HF.out, HX.out⟩
    have e2 : A.toList.isEmpty = true := by rw [HQ.out]; simpa using q2
    subst q2
    have HF : Hid (E = 0) := Lib.hid (by rw [HE.out]; simp)
    clear HE HTX HQ
    go_enter Tryz.func61, Tryz.ntmps61
    go_wp2
    go_ret
    exact ⟨KEY.out 0 HF.out, HX.out⟩
  · by_cases q0 : n = 0
    rotate_left
    · have HF : Hid (E = 3) := Lib.hid (by rw [HE.out]; simp [q0])
      have e0 : (n != 0) = true := by simpa using q0
      clear HE HTX HQ q0
      go_enter Tryz.func61, Tryz.ntmps61
      go_wp2
      go_ret
      exact ⟨KEY.out 3 HF.out, HX.out⟩
    subst q0
    by_cases q1 : im = 0
    rotate_left
    · have HF : Hid (E = 3) := Lib.hid (by rw [HE.out]; simp [q1])
      have e1 : (((im : Nat) : Int) != 0) = true := by simp; omega
      clear HE HTX HQ q1
      go_enter Tryz.func61, Tryz.ntmps61
      go_wp2
      go_ret
      exact ⟨KEY.out 3 HF.out, HX.out⟩
    subst q1
    by_cases q2 : t = []
    rotate_left
    · have HF : Hid (E = 3) := Lib.hid (by rw [HE.out]; simp [q2])
      have e2 : A.toList.isEmpty = false := by rw [HQ.out]; simpa using q2
      clear HE HTX HQ q2
      go_enter Tryz.func61, Tryz.ntmps61
      go_wp2
      go_ret
      exact ⟨KEY.out 3 HF.out, HX.out⟩
    have e2 : A.toList.isEmpty = true := by rw [HQ.out]; simpa using q2
    subst q2
    have HF : Hid (E = 0) := Lib.hid (by rw [HE.out]; simp)
    clear HE HTX HQ
    go_enter Tryz.func61, Tryz.ntmps61
    go_wp2
    go_ret
    exact ⟨KEY.out 0 HF.out, HX.out⟩
  · by_cases q0 : n = 0
    rotate_left
    · have HF : Hid (E = 3) := Lib.hid (by rw [HE.out]; simp [q0])
      have e0 : (n != 0) = true := by simpa using q0
      clear HE HTX HQ q0
      go_enter Tryz.func61, Tryz.ntmps61
      go_wp2
      go_ret
      exact ⟨KEY.out 3 HF.out, HX.out⟩
    subst q0
    by_cases q1 : t = []
    rotate_left
    · have HF : Hid (E = 3) := Lib.hid (by rw [HE.out]; simp [q1])
      have e1 : A.toList.isEmpty = false := by rw [HQ.out]; simpa using q1
      clear HE HTX HQ q1
      go_enter Tryz.func61, Tryz.ntmps61
      go_wp2
      go_ret
      exact ⟨KEY.out 3 HF.out, HX.out⟩
    have e1 : A.toList.isEmpty = true := by rw [HQ.out]; simpa using q1
    subst q1
    have HF : Hid (E = 0) := Lib.hid (by rw [HE.out]; simp)
    clear HE HTX HQ
    go_enter Tryz.func61, Tryz.ntmps61
    go_wp2
    go_ret
    exact ⟨KEY.out 0 HF.out, HX.out⟩
  · by_cases q0 : n = 0
    rotate_left
    · have HF : Hid (E = 3) := Lib.hid (by rw [HE.out]; simp [q0])
      have e0 : (n != 0) = true := by simpa using q0
      clear HE HTX HQ q0
      go_enter Tryz.func61, Tryz.ntmps61
      go_wp2
      go_ret
      exact ⟨KEY.out 3 HF.out, HX.out⟩
    subst q0
    by_cases q1 : re = 0
    rotate_left
    · have HF : Hid (E = 3) := Lib.hid (by rw [HE.out]; simp [q1])
      have e1 : (((re : Nat) : Int) != 0) = true := by simp; omega
      clear HE HTX HQ q1
      go_enter Tryz.func61, Tryz.ntmps61
      go_wp2
      go_ret
      exact ⟨KEY.out 3 HF.out, HX.out⟩
    subst q1
    by_cases q2 : im = 0
    rotate_left
    · have HF : Hid (E = 3) := Lib.hid (by rw [HE.out]; simp [q2])
      have e2 : (((im : Nat) : Int) != 0) = true := by simp; omega
      clear HE HTX HQ q2
      go_enter Tryz.func61, Tryz.ntmps61
      go_wp2
      go_ret
      exact ⟨KEY.out 3 HF.out, HX.out⟩
    subst q2
    by_cases g : 2048 < t.length
    · have HF : Hid (E = 2) := Lib.hid (by rw [HE.out]; simp [g])
      clear HE HTX HQ
      generalize t.length = m at *
      go_enter Tryz.func61, Tryz.ntmps61
      go_wp2
      go_ret
      exact ⟨KEY.out 2 HF.out, HX.out⟩
    have HPL := Lib.hid (HTX.out (w.alloc (.cells #[.int .u8 5, .int .i64 0, .int .u64 0, .int .u64 0, .string A] 74)) (by omega))
    have HF : Hid (E = if plainB t = false then 3 else 0) := Lib.hid (by rw [HE.out]; simp [g])
    generalize plainB t = pb at *
    generalize t.length = m at *
    have g' : m ≤ 2048 := by omega
    clear HE HTX HQ g
    cases pb with
    | false =>
      go_enter Tryz.func61, Tryz.ntmps61
      go_wp2_with (go_at_call 89; refine HPL.out.mono ?_; rintro e w' ⟨rfl, rfl⟩)
      go_ret
      exact ⟨KEY.out 3 HF.out, HX.out⟩
    | true =>
      go_enter Tryz.func61, Tryz.ntmps61
      go_wp2_with (go_at_call 89; refine HPL.out.mono ?_; rintro e w' ⟨rfl, rfl⟩)
      go_ret
      exact ⟨KEY.out 0 HF.out, HX.out⟩
  · by_cases q0 : n = 0
    rotate_left
    · have HF : Hid (E = 3) := Lib.hid (by rw [HE.out]; simp [q0])
      have e0 : (n != 0) = true := by simpa using q0
      clear HE HTX HQ q0
      go_enter Tryz.func61, Tryz.ntmps61
      go_wp2
      go_ret
      exact ⟨KEY.out 3 HF.out, HX.out⟩
    subst q0
    by_cases q1 : re = 0
    rotate_left
    · have HF : Hid (E = 3) := Lib.hid (by rw [HE.out]; simp [q1])
      have e1 : (((re : Nat) : Int) != 0) = true := by simp; omega
      clear HE HTX HQ q1
      go_enter Tryz.func61, Tryz.ntmps61
      go_wp2
      go_ret
      exact ⟨KEY.out 3 HF.out, HX.out⟩
    subst q1
    by_cases q2 : im = 0
    rotate_left
    · have HF : Hid (E = 3) := Lib.hid (by rw [HE.out]; simp [q2])
      have e2 : (((im : Nat) : Int) != 0) = true := by simp; omega
      clear HE HTX HQ q2
      go_enter Tryz.func61, Tryz.ntmps61
      go_wp2
      go_ret
      exact ⟨KEY.out 3 HF.out, HX.out⟩
    subst q2
    by_cases g : 2048 < t.length
    · have HF : Hid (E = 2) := Lib.hid (by rw [HE.out]; simp [g])
      clear HE HTX HQ
      generalize t.length = m at *
      go_enter Tryz.func61, Tryz.ntmps61
      go_wp2
      go_ret
      exact ⟨KEY.out 2 HF.out, HX.out⟩
    have HF : Hid (E = 0) := Lib.hid (by rw [HE.out]; simp [g])
    generalize t.length = m at *
    have g' : m ≤ 2048 := by omega
    clear HE HTX HQ g
    go_enter Tryz.func61, Tryz.ntmps61
    go_wp2
    go_ret
    exact ⟨KEY.out 0 HF.out, HX.out⟩
end Go.Proofs.YtegclfpmgilnpaaGreat
