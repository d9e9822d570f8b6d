/-
  A page of the shelf, laid at this program. MADE BY mkLay.py
-/
import Derived.Test.YtfipjgodkdfdfaaGreatDoorProg
import Derived.Lib.Hide
import Derived.WalkKit
import Derived.Test.YtfipjgodkdfdfaaGreatDoorLib
import Derived.Shelf.Strconv.Itoa3
namespace Go.Proofs.YtfipjgodkdfdfaaGreatDoor
open Go.RowKit Go.Lac Go.Shelf

def itoaRen : Ren where
  f := fun x => match x with
    | 129 => 25
    | 171 => 7
    | 243 => 12
    | 246 => 16
    | 283 => 18
    | 284 => 19
    | 285 => 20
    | 286 => 21
    | 317 => 24
    | 318 => 26
    | 319 => 27
    | 320 => 28
    | 337 => 35
    | 338 => 36
    | n => n
  t := fun x => match x with
    | 0 => 0
    | 2 => 2
    | 3 => 3
    | 4 => 4
    | 5 => 5
    | 9 => 9
    | 20 => 20
    | 37 => 60
    | 46 => 68
    | 51 => 34
    | 53 => 35
    | 171 => 57
    | 173 => 61
    | 212 => 65
    | 213 => 66
    | 232 => 95
    | 233 => 96
    | n => n
  g := fun x => match x with
    | 17 => 0
    | 18 => 1
    | 19 => 2
    | n => n
set_option maxRecDepth 100000 in
theorem itoaLays : LaysM.n171 Tryz.prog itoaRen where
  mixed := by kernel_rfl
  f129 := Eq.trans Tryz.func25 (by kernel_rfl)
  f171 := Eq.trans Tryz.func7 (by kernel_rfl)
  f243 := Eq.trans Tryz.func12 (by kernel_rfl)
  f246 := Eq.trans Tryz.func16 (by kernel_rfl)
  f283 := Eq.trans Tryz.func18 (by kernel_rfl)
  f284 := Eq.trans Tryz.func19 (by kernel_rfl)
  f285 := Eq.trans Tryz.func20 (by kernel_rfl)
  f286 := Eq.trans Tryz.func21 (by kernel_rfl)
  f317 := Eq.trans Tryz.func24 (by kernel_rfl)
  f318 := Eq.trans Tryz.func26 (by kernel_rfl)
  f319 := Eq.trans Tryz.func27 (by kernel_rfl)
  f320 := Eq.trans Tryz.func28 (by kernel_rfl)
  f337 := Eq.trans Tryz.func35 (by kernel_rfl)
  f338 := Eq.trans Tryz.func36 (by kernel_rfl)
  t0 := Tryz.underlying0
  a0 := Tryz.isAgg0
  z0 := Tryz.sizeOf0
  v0 := Tryz.zeroValue0
  t2 := Tryz.underlying2
  a2 := Tryz.isAgg2
  z2 := Tryz.sizeOf2
  v2 := Tryz.zeroValue2
  t3 := Tryz.underlying3
  a3 := Tryz.isAgg3
  z3 := Tryz.sizeOf3
  v3 := Tryz.zeroValue3
  t4 := Tryz.underlying4
  a4 := Tryz.isAgg4
  z4 := Tryz.sizeOf4
  v4 := Tryz.zeroValue4
  t5 := Tryz.underlying5
  a5 := Tryz.isAgg5
  z5 := Tryz.sizeOf5
  v5 := Tryz.zeroValue5
  t9 := Tryz.underlying9
  a9 := Tryz.isAgg9
  z9 := Tryz.sizeOf9
  v9 := Tryz.zeroValue9
  t20 := Tryz.underlying20
  a20 := Tryz.isAgg20
  z20 := Tryz.sizeOf20
  v20 := Tryz.zeroValue20
  t37 := Tryz.underlying60
  a37 := Tryz.isAgg60
  z37 := Tryz.sizeOf60
  v37 := Tryz.zeroValue60
  t46 := Tryz.underlying68
  a46 := Tryz.isAgg68
  z46 := Tryz.sizeOf68
  v46 := Tryz.zeroValue68
  t51 := Tryz.underlying34
  a51 := Tryz.isAgg34
  z51 := Tryz.sizeOf34
  v51 := Tryz.zeroValue34
  t53 := Tryz.underlying35
  a53 := Tryz.isAgg35
  z53 := Tryz.sizeOf35
  v53 := Tryz.zeroValue35
  t171 := Tryz.underlying57
  a171 := Tryz.isAgg57
  z171 := Tryz.sizeOf57
  v171 := Tryz.zeroValue57
  t173 := Tryz.underlying61
  a173 := Tryz.isAgg61
  z173 := Tryz.sizeOf61
  v173 := Tryz.zeroValue61
  t212 := Tryz.underlying65
  a212 := Tryz.isAgg65
  z212 := Tryz.sizeOf65
  v212 := Tryz.zeroValue65
  t213 := Tryz.underlying66
  a213 := Tryz.isAgg66
  z213 := Tryz.sizeOf66
  t232 := Tryz.underlying95
  a232 := Tryz.isAgg95
  z232 := Tryz.sizeOf95
  v232 := Tryz.zeroValue95
  t233 := Tryz.underlying96
  a233 := Tryz.isAgg96
  z233 := Tryz.sizeOf96
  v233 := Tryz.zeroValue96
  g17 := by kernel_rfl
  g18 := by kernel_rfl
  g19 := by kernel_rfl
  i0 := by kernel_rfl
  i2 := by kernel_rfl
  i3 := by kernel_rfl
  i4 := by kernel_rfl
  i5 := by kernel_rfl
  i9 := by kernel_rfl
  i20 := by kernel_rfl
  i37 := by kernel_rfl
  i46 := by kernel_rfl
  i51 := by kernel_rfl
  i53 := by kernel_rfl
  i171 := by kernel_rfl
  i173 := by kernel_rfl
  i212 := by kernel_rfl
  i232 := by kernel_rfl
  i233 := by kernel_rfl
  m17 := by kernel_rfl
  m18 := by kernel_rfl
  m19 := by kernel_rfl
end Go.Proofs.YtfipjgodkdfdfaaGreatDoor
