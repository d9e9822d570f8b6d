/-
  strings.Repeat: the library's contract, laid at this program; what the chapter's example of layer 7 says. MADE BY mkCelF.py
-/
import Derived.Test.YteechmgcjfnjbaaCelD
import Derived.Shelf.Strings.Repeat
namespace Go.Proofs.Yteechmgcjfnjbaa
open Go.RowKit Go.Lac Go.Shelf

def repRen : Ren where
  f := fun x => match x with
    | 105 => 52
    | 212 => 84
    | 99 => 85
    | 165 => 86
    | 166 => 87
    | 170 => 88
    | 169 => 89
    | 263 => 118
    | 264 => 119
    | 206 => 120
    | 240 => 121
    | 241 => 122
    | 276 => 140
    | 277 => 141
    | n => n
  t := fun x => match x with
    | 9 => 9
    | 3 => 3
    | 4 => 4
    | 20 => 20
    | 0 => 0
    | 46 => 132
    | 109 => 133
    | 5 => 5
    | 72 => 138
    | 76 => 142
    | 51 => 65
    | 146 => 164
    | 53 => 22
    | 148 => 130
    | 70 => 136
    | 37 => 45
    | 75 => 141
    | 127 => 167
    | 164 => 183
    | 80 => 144
    | n => n
  g := fun x => x
set_option maxRecDepth 100000 in
theorem repLays : Lays.n105 Try.prog repRen where
  mixed := by kernel_rfl
  f99 := Eq.trans Try.func85 (by kernel_rfl)
  f105 := Eq.trans Try.func52 (by kernel_rfl)
  f165 := Eq.trans Try.func86 (by kernel_rfl)
  f166 := Eq.trans Try.func87 (by kernel_rfl)
  f169 := Eq.trans Try.func89 (by kernel_rfl)
  f170 := Eq.trans Try.func88 (by kernel_rfl)
  f206 := Eq.trans Try.func120 (by kernel_rfl)
  f212 := Eq.trans Try.func84 (by kernel_rfl)
  f240 := Eq.trans Try.func121 (by kernel_rfl)
  f241 := Eq.trans Try.func122 (by kernel_rfl)
  f263 := Eq.trans Try.func118 (by kernel_rfl)
  f264 := Eq.trans Try.func119 (by kernel_rfl)
  f276 := Eq.trans Try.func140 (by kernel_rfl)
  f277 := Eq.trans Try.func141 (by kernel_rfl)
  t0 := Try.underlying0
  a0 := Try.isAgg0
  z0 := Try.sizeOf0
  v0 := Try.zeroValue0
  t3 := Try.underlying3
  a3 := Try.isAgg3
  z3 := Try.sizeOf3
  v3 := Try.zeroValue3
  t4 := Try.underlying4
  a4 := Try.isAgg4
  z4 := Try.sizeOf4
  v4 := Try.zeroValue4
  t5 := Try.underlying5
  a5 := Try.isAgg5
  z5 := Try.sizeOf5
  v5 := Try.zeroValue5
  t9 := Try.underlying9
  a9 := Try.isAgg9
  z9 := Try.sizeOf9
  v9 := Try.zeroValue9
  t20 := Try.underlying20
  a20 := Try.isAgg20
  z20 := Try.sizeOf20
  v20 := Try.zeroValue20
  t37 := Try.underlying45
  a37 := Try.isAgg45
  z37 := Try.sizeOf45
  v37 := Try.zeroValue45
  t46 := Try.underlying132
  a46 := Try.isAgg132
  z46 := Try.sizeOf132
  v46 := Try.zeroValue132
  t51 := Try.underlying65
  a51 := Try.isAgg65
  z51 := Try.sizeOf65
  v51 := Try.zeroValue65
  t53 := Try.underlying22
  a53 := Try.isAgg22
  z53 := Try.sizeOf22
  v53 := Try.zeroValue22
  t70 := Try.underlying136
  a70 := Try.isAgg136
  z70 := Try.sizeOf136
  v70 := Try.zeroValue136
  t72 := Try.underlying138
  a72 := Try.isAgg138
  z72 := Try.sizeOf138
  v72 := Try.zeroValue138
  t75 := Try.underlying141
  a75 := Try.isAgg141
  z75 := Try.sizeOf141
  v75 := Try.zeroValue141
  t76 := Try.underlying142
  a76 := Try.isAgg142
  z76 := Try.sizeOf142
  v76 := Try.zeroValue142
  t109 := Try.underlying133
  a109 := Try.isAgg133
  z109 := Try.sizeOf133
  v109 := Try.zeroValue133
  t127 := Try.underlying167
  a127 := Try.isAgg167
  z127 := Try.sizeOf167
  v127 := Try.zeroValue167
  t146 := Try.underlying164
  a146 := Try.isAgg164
  z146 := Try.sizeOf164
  v146 := Try.zeroValue164
  t148 := Try.underlying130
  a148 := Try.isAgg130
  z148 := Try.sizeOf130
  v148 := Try.zeroValue130
  t164 := Try.underlying183
  a164 := Try.isAgg183
  z164 := Try.sizeOf183
  v164 := Try.zeroValue183
theorem repExtra : Builder.Extra Try.prog repRen where
  sizeBuilder := by kernel_rfl
  liesBuilder := by kernel_rfl
  t5 := repLays.t5
  a5 := repLays.a5
  z5 := repLays.z5
  v5 := repLays.v5
  infoByte := by kernel_rfl
  cellsByte := by kernel_rfl
  sizeByte := by kernel_rfl
  neB5 := by decide
theorem Ext.ofBelow {w w' : World} (h : Below w.heap.size w w') : Ext w w' := ⟨h.os, h.tape, h.output, h.size, fun k hk _ => h.block k hk⟩
/-- 'strings.Repeat(s, c)'. -/
theorem repeat_any (s : List UInt8) (c : Nat) (w : World) (hc : c ≤ 9223372036854775807) (hl : s.length * c ≤ 140737488355328) :
    Calls Try.prog 52 #[strV s, .int .i64 (c : Nat)] w fun e w' => e = .returned (strV (Lib.repeatL s c)) ∧ Ext w w' := by
  have h := Any.strings_Repeat repLays repExtra ⟨s.toArray⟩ c w hc (by simpa [ByteArray.size] using hl)
  have hf : repRen.f 105 = 52 := rfl
  rw [hf] at h
  refine h.mono fun e w' ⟨he, hw⟩ => ⟨?_, Ext.ofBelow hw⟩
  rw [he]
  rfl
end Go.Proofs.Yteechmgcjfnjbaa
