/-
  strings.Repeat, strings.Join: the library's contracts, laid at this program. MADE BY mkChkF.py
-/
import Derived.Test.YtolelgbkohccbaaProg
import Derived.Lib.Hide
import Derived.WalkKit
import Derived.Test.YtolelgbkohccbaaLibC
import Derived.Test.YtolelgbkohccbaaChkM
import Derived.Shelf.Strings.Repeat
import Derived.Shelf.Strings.OnBuilder
namespace Go.Proofs.Ytolelgbkohccbaa
open Go.RowKit Go.Lac Go.Shelf

def repRen : Ren where
  f := fun x => match x with
    | 105 => 20
    | 156 => 22
    | 212 => 23
    | 99 => 24
    | 165 => 25
    | 166 => 26
    | 170 => 27
    | 169 => 28
    | 263 => 29
    | 264 => 30
    | 206 => 31
    | 240 => 32
    | 241 => 33
    | 276 => 34
    | 277 => 35
    | n => n
  t := fun x => match x with
    | 9 => 9
    | 31 => 22
    | 3 => 3
    | 4 => 4
    | 20 => 20
    | 0 => 0
    | 46 => 48
    | 109 => 49
    | 5 => 5
    | 72 => 55
    | 76 => 59
    | 51 => 63
    | 146 => 64
    | 53 => 66
    | 148 => 67
    | 70 => 52
    | 37 => 53
    | 75 => 58
    | 127 => 69
    | 164 => 70
    | 80 => 62
    | n => n
  g := fun x => x
set_option maxRecDepth 100000 in
theorem repLays : Lays.n105 Try.prog repRen where
  mixed := by kernel_rfl
  f99 := Eq.trans Try.func24 (by kernel_rfl)
  f105 := Eq.trans Try.func20 (by kernel_rfl)
  f165 := Eq.trans Try.func25 (by kernel_rfl)
  f166 := Eq.trans Try.func26 (by kernel_rfl)
  f169 := Eq.trans Try.func28 (by kernel_rfl)
  f170 := Eq.trans Try.func27 (by kernel_rfl)
  f206 := Eq.trans Try.func31 (by kernel_rfl)
  f212 := Eq.trans Try.func23 (by kernel_rfl)
  f240 := Eq.trans Try.func32 (by kernel_rfl)
  f241 := Eq.trans Try.func33 (by kernel_rfl)
  f263 := Eq.trans Try.func29 (by kernel_rfl)
  f264 := Eq.trans Try.func30 (by kernel_rfl)
  f276 := Eq.trans Try.func34 (by kernel_rfl)
  f277 := Eq.trans Try.func35 (by kernel_rfl)
  t0 := Try.underlying0
  a0 := Try.isAgg0
  z0 := Try.sizeOf0
  v0 := Try.zeroValue0
  t3 := Try.underlying3
  a3 := Try.isAgg3
  z3 := Try.sizeOf3
  v3 := Try.zeroValue3
  t4 := Try.underlying4
  a4 := Try.isAgg4
  z4 := Try.sizeOf4
  v4 := Try.zeroValue4
  t5 := Try.underlying5
  a5 := Try.isAgg5
  z5 := Try.sizeOf5
  v5 := Try.zeroValue5
  t9 := Try.underlying9
  a9 := Try.isAgg9
  z9 := Try.sizeOf9
  v9 := Try.zeroValue9
  t20 := Try.underlying20
  a20 := Try.isAgg20
  z20 := Try.sizeOf20
  v20 := Try.zeroValue20
  t37 := Try.underlying53
  a37 := Try.isAgg53
  z37 := Try.sizeOf53
  v37 := Try.zeroValue53
  t46 := Try.underlying48
  a46 := Try.isAgg48
  z46 := Try.sizeOf48
  v46 := Try.zeroValue48
  t51 := Try.underlying63
  a51 := Try.isAgg63
  z51 := Try.sizeOf63
  v51 := Try.zeroValue63
  t53 := Try.underlying66
  a53 := Try.isAgg66
  z53 := Try.sizeOf66
  v53 := Try.zeroValue66
  t70 := Try.underlying52
  a70 := Try.isAgg52
  z70 := Try.sizeOf52
  v70 := Try.zeroValue52
  t72 := Try.underlying55
  a72 := Try.isAgg55
  z72 := Try.sizeOf55
  v72 := Try.zeroValue55
  t75 := Try.underlying58
  a75 := Try.isAgg58
  z75 := Try.sizeOf58
  v75 := Try.zeroValue58
  t76 := Try.underlying59
  a76 := Try.isAgg59
  z76 := Try.sizeOf59
  v76 := Try.zeroValue59
  t109 := Try.underlying49
  a109 := Try.isAgg49
  z109 := Try.sizeOf49
  v109 := Try.zeroValue49
  t127 := Try.underlying69
  a127 := Try.isAgg69
  z127 := Try.sizeOf69
  v127 := Try.zeroValue69
  t146 := Try.underlying64
  a146 := Try.isAgg64
  z146 := Try.sizeOf64
  v146 := Try.zeroValue64
  t148 := Try.underlying67
  a148 := Try.isAgg67
  z148 := Try.sizeOf67
  v148 := Try.zeroValue67
  t164 := Try.underlying70
  a164 := Try.isAgg70
  z164 := Try.sizeOf70
  v164 := Try.zeroValue70
set_option maxRecDepth 100000 in
theorem joinLays : Lays.n156 Try.prog repRen where
  f156 := Eq.trans Try.func22 (by kernel_rfl)
  mixed := by kernel_rfl
  f165 := Eq.trans Try.func25 (by kernel_rfl)
  f166 := Eq.trans Try.func26 (by kernel_rfl)
  f169 := Eq.trans Try.func28 (by kernel_rfl)
  f240 := Eq.trans Try.func32 (by kernel_rfl)
  f241 := Eq.trans Try.func33 (by kernel_rfl)
  f276 := Eq.trans Try.func34 (by kernel_rfl)
  f277 := Eq.trans Try.func35 (by kernel_rfl)
  t0 := Try.underlying0
  a0 := Try.isAgg0
  z0 := Try.sizeOf0
  v0 := Try.zeroValue0
  t3 := Try.underlying3
  a3 := Try.isAgg3
  z3 := Try.sizeOf3
  v3 := Try.zeroValue3
  t4 := Try.underlying4
  a4 := Try.isAgg4
  z4 := Try.sizeOf4
  v4 := Try.zeroValue4
  t9 := Try.underlying9
  a9 := Try.isAgg9
  z9 := Try.sizeOf9
  v9 := Try.zeroValue9
  t20 := Try.underlying20
  a20 := Try.isAgg20
  z20 := Try.sizeOf20
  v20 := Try.zeroValue20
  t37 := Try.underlying53
  a37 := Try.isAgg53
  z37 := Try.sizeOf53
  v37 := Try.zeroValue53
  t70 := Try.underlying52
  a70 := Try.isAgg52
  z70 := Try.sizeOf52
  v70 := Try.zeroValue52
  t72 := Try.underlying55
  a72 := Try.isAgg55
  z72 := Try.sizeOf55
  v72 := Try.zeroValue55
  t75 := Try.underlying58
  a75 := Try.isAgg58
  z75 := Try.sizeOf58
  v75 := Try.zeroValue58
  t76 := Try.underlying59
  a76 := Try.isAgg59
  z76 := Try.sizeOf59
  v76 := Try.zeroValue59
  t127 := Try.underlying69
  a127 := Try.isAgg69
  z127 := Try.sizeOf69
  v127 := Try.zeroValue69
  t164 := Try.underlying70
  a164 := Try.isAgg70
  z164 := Try.sizeOf70
  v164 := Try.zeroValue70
  t31 := Try.underlying22
  a31 := Try.isAgg22
  z31 := Try.sizeOf22
  v31 := Try.zeroValue22
theorem repExtra : Builder.Extra Try.prog repRen where
  sizeBuilder := by kernel_rfl
  liesBuilder := by kernel_rfl
  t5 := repLays.t5
  a5 := repLays.a5
  z5 := repLays.z5
  v5 := repLays.v5
  infoByte := by kernel_rfl
  cellsByte := by kernel_rfl
  sizeByte := by kernel_rfl
  neB5 := by decide
/-- 'strings.Repeat(s, c)'. -/
theorem repeat_any (s : List UInt8) (c : Nat) (w : World) (hc : c ≤ 9223372036854775807) (hl : s.length * c ≤ 140737488355328) :
    Calls Try.prog 20 #[strV s, .int .i64 (c : Nat)] w fun e w' => e = .returned (strV (Lib.repeatL s c)) ∧ Ext w w' := by
  have h := Any.strings_Repeat repLays repExtra ⟨s.toArray⟩ c w hc (by simpa [ByteArray.size] using hl)
  have hf : repRen.f 105 = 20 := rfl
  rw [hf] at h
  refine h.mono fun e w' ⟨he, hw⟩ => ⟨?_, (Go.Lac.Ext.ofBelow hw)⟩
  rw [he]
  rfl
/-- A slice of texts. -/
def TxS (w : World) (v : Value) (l : List (List UInt8)) : Prop := Sl w v l.length (l.map strV)
theorem TxS.ext {w w' : World} {v : Value} {l : List (List UInt8)} (h : TxS w v l) (k : Ext w w') : TxS w' v l := Sl.ext h k
theorem TxS.shape {w : World} {v : Value} {l : List (List UInt8)} (h : TxS w v l) : ∃ ao cap, v = .slice ao l.length cap ∧ l.length ≤ cap ∧ cap ≤ maxLen := by
  obtain ⟨ao, cap, e, h1, h2, _⟩ := h; exact ⟨ao, cap, e, h1, h2⟩
theorem TxS.at {w : World} {ao : Option Addr} {n cap : Nat} {l : List (List UInt8)} (h : TxS w (.slice ao n cap) l) {j : Nat} (hj : j < l.length) :
    ∃ b o, ao = some ⟨b, o, none⟩ ∧ w.cell? ⟨b, o + j, none⟩ = some (strV l[j]) := by
  obtain ⟨ao', cap', e0, g1, g2, g3, g5⟩ := h
  cases e0
  have hu : (l.map strV)[j]? = some (strV l[j]) := by simp [hj]
  cases ao with
  | none => have := g3 rfl; omega
  | some x => obtain ⟨b, o, rfl, c0⟩ := g5 x rfl _ _ hu; exact ⟨b, o, rfl, c0⟩
theorem strV_one (l : List (List UInt8)) : ∀ u ∈ l.map strV, u.oneCell' = true := by
  intro u hu; obtain ⟨b, _, rfl⟩ := List.mem_map.1 hu; rfl
/-- 'strings.Join(l, "")'. -/
theorem join_any (v : Value) (l : List (List UInt8)) (w : World) (h : TxS w v l) (hN : l.length ≤ 140737488355328) (hl : l.flatten.length ≤ 140737488355328) :
    Calls Try.prog 22 #[v, .string ⟨#[]⟩] w fun e w' => e = .returned (strV l.flatten) ∧ Ext w w' := by
  obtain ⟨ao, cap, rfl, h1, h2⟩ := h.shape
  have hf : repRen.f 156 = 22 := rfl
  have hm : (l.map fun b => (⟨b.toArray⟩ : ByteArray)).map (·.data.toList) = l := by rw [List.map_map]; simp [Function.comp_def]
  have hj : Lib.join ((l.map fun b => (⟨b.toArray⟩ : ByteArray)).map (·.data.toList)) (⟨#[]⟩ : ByteArray).data.toList = l.flatten := by
    rw [hm]
    cases l with
    | nil => rfl
    | cons a l => rw [show (⟨#[]⟩ : ByteArray).data.toList = [] from rfl, Lib.join_cons]; simp [Lib.joinTail]
  cases l with
  | nil =>
    have := Any.strings_Join_none joinLays repExtra ao cap ⟨#[]⟩ w
    rw [hf] at this
    refine this.mono fun e w' ⟨he, hw⟩ => ⟨?_, hw ▸ Ch.refl _ _⟩
    rw [he]; rfl
  | cons a l =>
    obtain ⟨b, o, rfl, hc⟩ := h.at (j := 0) (by simp)
    have := Any.strings_Join joinLays repExtra b o cap ((a :: l).map fun b => (⟨b.toArray⟩ : ByteArray)) ⟨#[]⟩ w ?_ (World.block_lt_of_cell? w _ hc) (by simpa using hN) (by simpa using h1) (by rw [hj]; exact hl)
    · rw [hf, hj] at this
      rw [List.length_map] at this
      exact this.mono fun e w' ⟨he, hw⟩ => ⟨he, Go.Lac.Ext.ofBelow hw⟩
    · intro j x hx
      obtain ⟨hj1, rfl⟩ := List.getElem?_eq_some_iff.1 hx
      have hj2 : j < (a :: l).length := by simpa using hj1
      obtain ⟨b', o', e, hc'⟩ := h.at hj2
      cases e
      rw [hc', List.getElem_map]; rfl
end Go.Proofs.Ytolelgbkohccbaa
