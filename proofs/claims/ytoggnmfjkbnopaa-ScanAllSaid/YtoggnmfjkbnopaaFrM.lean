/-
  What is made is parsed as it was: the plain facts.
-/
import Derived.Test.YtoggnmfjkbnopaaProg
import Derived.Test.YtoggnmfjkbnopaaLib
import Derived.Test.YtoggnmfjkbnopaaCrcM
import Derived.Test.YtoggnmfjkbnopaaFrA
import Derived.Test.YtoggnmfjkbnopaaFrB
import Derived.Test.YtoggnmfjkbnopaaFrE
namespace Go.Proofs.Ytoggnmfjkbnopaa
open Go.RowKit Go.Lac

theorem bitsAll_append (a b : List UInt8) : bitsAll (a ++ b) = bitsAll a ++ bitsAll b := by simp [bitsAll]

/-- Damage behind some bytes. -/
theorem turned_behind (x y : List UInt8) (at' pat : Nat) (hs : crcSigned (x ++ y) = true) (h4 : 4 ≤ (x ++ y).length) :
    crcSigned (x ++ turned y at' pat 32) = decide (turned y at' pat 32 = y) := by
  have hl := turned_length y at' pat 32
  have hl2 : (x ++ turned y at' pat 32).length = (x ++ y).length := by simp [hl]
  rw [crcSigned_iff _ (by omega)]
  rw [crcSigned_iff _ h4] at hs
  have hs' : crcReg 4294967295 (x ++ y) = crcK := by simpa using hs
  apply decide_eq_decide.2
  constructor
  · intro e
    rw [← hs', crcReg_bits, crcReg_bits] at e
    have hb := burst_bits (at' := 8 * x.length + at') (by decide) (by rw [bitsAll_length, bitsAll_length, hl2]) (fun i hi => by
      rw [bitsAll_append, bitsAll_append]
      by_cases hx : i < (bitsAll x).length
      · rw [List.getElem?_append_left hx, List.getElem?_append_left hx]
      · rw [List.getElem?_append_right (by omega), List.getElem?_append_right (by omega)]
        rw [bitsAll_length] at hx ⊢
        exact turned_bits y at' pat 32 _ (by omega)) e
    exact List.append_cancel_left (bitsAll_inj hb)
  · intro e
    rw [e, hs']

section
variable {v k : Nat} {p : List UInt8}

theorem made_eq (h : frRight v k p.length = 0) : frBytes v k p = crcSign (frHead v k p.length ++ p) := by unfold frBytes; rw [if_pos h]
theorem made_length (h : frRight v k p.length = 0) : (frBytes v k p).length = p.length + 10 := by
  rw [made_eq h, crcSign_length, List.length_append]
  show 6 + p.length + 4 = _
  omega
theorem right_bounds (h : frRight v k p.length = 0) : (v = 1 ∨ v = 2) ∧ 1 ≤ k ∧ k ≤ 8 ∧ p.length ≤ 4096 := by
  rcases frRight_cases v k p.length with ⟨q, _⟩ | ⟨q, _⟩ | ⟨q, _⟩ | ⟨_, h1, h2, h3, h4⟩
  · omega
  · omega
  · omega
  · exact ⟨h1, h2, h3, h4⟩

theorem made_get (h : frRight v k p.length = 0) (i : Nat) (hi : i < 6) : (frBytes v k p)[i]? = (frHead v k p.length)[i]? := by
  rw [made_eq h]
  unfold crcSign
  rw [List.append_assoc, List.getElem?_append_left (by show i < 6; exact hi)]

theorem hdAt_get {b : List UInt8} {i : Nat} {x : UInt8} (h : b[i]? = some x) : hdAt b i = x.toNat := by
  unfold hdAt; rw [List.getD_eq_getElem?_getD, h]; rfl

/-- The head of bytes that begin as a frame does. -/
theorem made_head (h : frRight v k p.length = 0) (b : List UInt8) (hb : ∀ i, i < 6 → b[i]? = (frBytes v k p)[i]?) :
    hdAt b 0 = 76 ∧ hdAt b 1 = 103 ∧ hdAt b 2 = v ∧ hdAt b 3 = k ∧ frN b = p.length := by
  obtain ⟨h1, h2, h3, h4⟩ := right_bounds h
  have g := fun i hi => (hb i hi).trans (made_get h i hi)
  have e0 : hdAt b 0 = 76 := hdAt_get (g 0 (by decide))
  have e1 : hdAt b 1 = 103 := hdAt_get (g 1 (by decide))
  have e2 : hdAt b 2 = v := by rw [hdAt_get (g 2 (by decide))]; simp; omega
  have e3 : hdAt b 3 = k := by rw [hdAt_get (g 3 (by decide))]; simp; omega
  have e4 : hdAt b 4 = p.length % 256 := by rw [hdAt_get (g 4 (by decide))]; simp
  have e5 : hdAt b 5 = p.length / 256 % 256 := by rw [hdAt_get (g 5 (by decide))]; simp
  refine ⟨e0, e1, e2, e3, ?_⟩
  unfold frN
  rw [e4, e5]
  omega

theorem frErr_of {b : List UInt8} (h0 : hdAt b 0 = 76) (h1 : hdAt b 1 = 103) (hr : frRight (hdAt b 2) (hdAt b 3) (frN b) = 0) :
    frErr b = if b.length < frN b + 10 then 1 else if crcSigned (b.take (frN b + 10)) = false then 6 else 0 := by
  unfold frErr
  rw [if_neg (by omega), if_neg (by omega)]

/-- WHAT IS MADE IS PARSED AS IT WAS. -/
theorem made_parse (h : frRight v k p.length = 0) (t : List UInt8) :
    frErr (frBytes v k p ++ t) = 0 ∧ frV (frBytes v k p ++ t) = v ∧ frK (frBytes v k p ++ t) = k ∧ frP (frBytes v k p ++ t) = p ∧ frSize (frBytes v k p ++ t) = p.length + 10 := by
  have hl := made_length h
  obtain ⟨e0, e1, e2, e3, e4⟩ := made_head h (frBytes v k p ++ t) (fun i hi => by rw [List.getElem?_append_left (by omega)])
  have hsg : (frBytes v k p ++ t).take (p.length + 10) = frBytes v k p := by
    rw [← hl]; simp
  have he : frErr (frBytes v k p ++ t) = 0 := by
    rw [frErr_of e0 e1 (by rw [e2, e3, e4]; exact h), e4, if_neg (by simp; omega), hsg, made_eq h, crcSigned_sign]
    simp
  refine ⟨he, ?_, ?_, ?_, ?_⟩
  · unfold frV; rw [if_pos he, e2]
  · unfold frK; rw [if_pos he, e3]
  · unfold frP
    rw [if_pos he, e4, List.take_append_of_le_length (by omega), made_eq h]
    unfold crcSign
    have hh : (frHead v k p.length).length = 6 := rfl
    rw [List.take_append_of_le_length (by simp [hh]; omega), List.take_of_length_le (by simp [hh]; omega)]
    simp [hh]
  · unfold frSize; rw [if_pos he, e4]

/-- CUT JUST BYTES LACK. -/
theorem made_cut (h : frRight v k p.length = 0) (m : Nat) (hm : m < p.length + 10) :
    frErr ((frBytes v k p).take m) = 1 := by
  have hl := made_length h
  obtain ⟨h1, h2, h3, h4⟩ := right_bounds h
  have hlm : ((frBytes v k p).take m).length = m := by rw [List.length_take]; omega
  by_cases h6 : 6 ≤ m
  · obtain ⟨e0, e1, e2, e3, e4⟩ := made_head h ((frBytes v k p).take m) (fun i hi => by rw [List.getElem?_take, if_pos (by omega)])
    rw [frErr_of e0 e1 (by rw [e2, e3, e4]; exact h), if_pos (by rw [hlm, e4]; omega)]
  · have hget : ∀ i, i < m → hdAt ((frBytes v k p).take m) i = hdAt (frBytes v k p) i := fun i hi => by
      have hi' : ((frBytes v k p).take m)[i]? = (frBytes v k p)[i]? := by rw [List.getElem?_take, if_pos hi]
      have e : ∀ d, ((frBytes v k p).take m).getD i d = (frBytes v k p).getD i d := fun d => by rw [List.getD_eq_getElem?_getD, List.getD_eq_getElem?_getD, hi']
      unfold hdAt; rw [e]
    have hout : ∀ i, m ≤ i → hdAt ((frBytes v k p).take m) i = (headD.getD i 0).toNat := fun i hi => hdAt_out (by omega)
    obtain ⟨e0, e1, e2, e3, e4⟩ := made_head h (frBytes v k p) (fun i hi => rfl)
    have q0 : hdAt ((frBytes v k p).take m) 0 = 76 := by
      by_cases hc : 0 < m
      · rw [hget 0 hc, e0]
      · rw [hout 0 (by omega)]; decide
    have q1 : hdAt ((frBytes v k p).take m) 1 = 103 := by
      by_cases hc : 1 < m
      · rw [hget 1 hc, e1]
      · rw [hout 1 (by omega)]; decide
    have q2 : hdAt ((frBytes v k p).take m) 2 = 1 ∨ hdAt ((frBytes v k p).take m) 2 = 2 := by
      by_cases hc : 2 < m
      · rw [hget 2 hc, e2]; exact h1
      · rw [hout 2 (by omega)]; decide
    have q3 : 1 ≤ hdAt ((frBytes v k p).take m) 3 ∧ hdAt ((frBytes v k p).take m) 3 ≤ 8 := by
      by_cases hc : 3 < m
      · rw [hget 3 hc, e3]; exact ⟨h2, h3⟩
      · rw [hout 3 (by omega)]; decide
    have q5 : hdAt ((frBytes v k p).take m) 5 = 0 := by rw [hout 5 (by omega)]; decide
    have q4 := hdAt_lt ((frBytes v k p).take m) 4
    have hn : frN ((frBytes v k p).take m) < 256 := by unfold frN; omega
    have hr : frRight (hdAt ((frBytes v k p).take m) 2) (hdAt ((frBytes v k p).take m) 3) (frN ((frBytes v k p).take m)) = 0 := by
      unfold frRight; rw [if_neg (by omega), if_neg (by omega), if_neg (by omega)]
    rw [frErr_of q0 q1 hr, if_pos (by rw [hlm]; omega)]

/-- DAMAGE BEHIND THE LENGTH IS A WRONG SUM. -/
theorem made_burst (h : frRight v k p.length = 0) (a pat : Nat) :
    frErr ((frBytes v k p).take 6 ++ turned ((frBytes v k p).drop 6) a pat 32) = if turned ((frBytes v k p).drop 6) a pat 32 = (frBytes v k p).drop 6 then 0 else 6 := by
  have hl := made_length h
  have htl := turned_length ((frBytes v k p).drop 6) a pat 32
  have hl6 : ((frBytes v k p).take 6).length = 6 := by rw [List.length_take]; omega
  have hll : ((frBytes v k p).take 6 ++ turned ((frBytes v k p).drop 6) a pat 32).length = p.length + 10 := by
    rw [List.length_append, htl, List.length_drop, hl6, hl]; omega
  obtain ⟨e0, e1, e2, e3, e4⟩ := made_head h ((frBytes v k p).take 6 ++ turned ((frBytes v k p).drop 6) a pat 32) (fun i hi => by
    rw [List.getElem?_append_left (by omega), List.getElem?_take, if_pos hi])
  have hs : crcSigned ((frBytes v k p).take 6 ++ (frBytes v k p).drop 6) = true := by
    rw [List.take_append_drop, made_eq h, crcSigned_sign]
  have hb := turned_behind ((frBytes v k p).take 6) ((frBytes v k p).drop 6) a pat hs (by rw [List.take_append_drop]; omega)
  rw [frErr_of e0 e1 (by rw [e2, e3, e4]; exact h), e4, if_neg (by omega), List.take_of_length_le (by omega), hb]
  by_cases hd : turned ((frBytes v k p).drop 6) a pat 32 = (frBytes v k p).drop 6
  · rw [if_pos hd, decide_eq_true hd]; simp
  · rw [if_neg hd, decide_eq_false hd]; simp
theorem made_inj {v' k' : Nat} {p' : List UInt8} (h : frRight v k p.length = 0) (h' : frRight v' k' p'.length = 0) (he : frBytes v k p = frBytes v' k' p') : v = v' ∧ k = k' ∧ p = p' := by
  obtain ⟨_, a1, a2, a3, _⟩ := made_parse h []
  obtain ⟨_, b1, b2, b3, _⟩ := made_parse h' []
  rw [he] at a1 a2 a3
  exact ⟨a1.symm.trans b1, a2.symm.trans b2, a3.symm.trans b3⟩
end
end Go.Proofs.Ytoggnmfjkbnopaa
