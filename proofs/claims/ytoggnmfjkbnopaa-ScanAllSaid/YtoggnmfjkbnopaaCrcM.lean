/-
  Sums by which damage is told: the plain numbers.
-/
namespace Go.Lac

/-- A register after a bit that is 0. -/
def crcStep (r : Nat) : Nat := if r % 2 = 1 then r / 2 ^^^ 2197175160 else r / 2

theorem crcStep_lt {r : Nat} (h : r < 2 ^ 32) : crcStep r < 2 ^ 32 := by
  unfold crcStep
  split
  · exact Nat.xor_lt_two_pow (by omega) (by decide)
  · omega

theorem xor_parity (a b : Nat) : (a ^^^ b) % 2 = (a + b) % 2 := by
  have h := @Nat.xor_mod_two_eq_one a b
  by_cases ha : a % 2 = 1 <;> by_cases hb : b % 2 = 1
  · have : ¬ (a ^^^ b) % 2 = 1 := fun e => h.1 e ⟨fun _ => hb, fun _ => ha⟩
    omega
  · have : (a ^^^ b) % 2 = 1 := h.2 fun e => hb (e.1 ha)
    omega
  · have : (a ^^^ b) % 2 = 1 := h.2 fun e => ha (e.2 hb)
    omega
  · have : ¬ (a ^^^ b) % 2 = 1 := fun e => h.1 e ⟨fun x => absurd x ha, fun x => absurd x hb⟩
    omega

theorem crcStep_xor (a b : Nat) : crcStep (a ^^^ b) = crcStep a ^^^ crcStep b := by
  unfold crcStep
  have h2 : (a ^^^ b) / 2 = a / 2 ^^^ b / 2 := Nat.xor_div_two
  have h1 : (a ^^^ b) % 2 = (a + b) % 2 := xor_parity a b
  rw [h2, h1]
  by_cases ha : a % 2 = 1 <;> by_cases hb : b % 2 = 1
  · rw [if_neg (by omega), if_pos ha, if_pos hb]
    rw [Nat.xor_assoc, Nat.xor_comm 2197175160, Nat.xor_assoc, Nat.xor_self, Nat.xor_zero]
  · rw [if_pos (by omega), if_pos ha, if_neg hb]
    rw [Nat.xor_assoc, Nat.xor_comm (b / 2), Nat.xor_assoc]
  · rw [if_pos (by omega), if_neg ha, if_pos hb]
    rw [Nat.xor_assoc]
  · rw [if_neg (by omega), if_neg ha, if_neg hb]

theorem crcStep_zero : crcStep 0 = 0 := by decide

theorem xor_eq_zero {a b : Nat} (h : a ^^^ b = 0) : a = b := by
  have : a ^^^ b ^^^ b = b := by rw [h, Nat.zero_xor]
  rwa [Nat.xor_assoc, Nat.xor_self, Nat.xor_zero] at this

theorem crcStep_inj {a b : Nat} (ha : a < 2 ^ 32) (hb : b < 2 ^ 32) (h : crcStep a = crcStep b) : a = b := by
  have hx : crcStep (a ^^^ b) = 0 := by rw [crcStep_xor, h, Nat.xor_self]
  have hlt : a ^^^ b < 2 ^ 32 := Nat.xor_lt_two_pow ha hb
  apply xor_eq_zero
  generalize a ^^^ b = x at *
  unfold crcStep at hx
  split at hx
  · have := xor_eq_zero hx
    omega
  · omega

/-- Many steps. -/
def crcSteps : Nat → Nat → Nat
  | 0, r => r
  | k + 1, r => crcSteps k (crcStep r)

theorem crcSteps_lt : ∀ (k : Nat) {r : Nat}, r < 2 ^ 32 → crcSteps k r < 2 ^ 32
  | 0, _, h => h
  | k + 1, _, h => crcSteps_lt k (crcStep_lt h)
theorem crcSteps_xor : ∀ (k a b : Nat), crcSteps k (a ^^^ b) = crcSteps k a ^^^ crcSteps k b
  | 0, _, _ => rfl
  | k + 1, a, b => by unfold crcSteps; rw [crcStep_xor, crcSteps_xor k]
theorem crcSteps_inj : ∀ (k : Nat) {a b : Nat}, a < 2 ^ 32 → b < 2 ^ 32 → crcSteps k a = crcSteps k b → a = b
  | 0, _, _, _, _, h => h
  | k + 1, _, _, ha, hb, h => crcStep_inj ha hb (crcSteps_inj k (crcStep_lt ha) (crcStep_lt hb) h)
theorem crcSteps_add : ∀ (j k r : Nat), crcSteps (j + k) r = crcSteps k (crcSteps j r)
  | 0, k, r => by rw [Nat.zero_add]; rfl
  | j + 1, k, r => by rw [Nat.add_right_comm]; exact crcSteps_add j k (crcStep r)
theorem crcSteps_succ (k r : Nat) : crcSteps (k + 1) r = crcStep (crcSteps k r) := crcSteps_add k 1 r
/-- Even numbers lose noughts. -/
theorem crcSteps_pow : ∀ (k x : Nat), crcSteps k (2 ^ k * x) = x
  | 0, x => by simp [crcSteps]
  | k + 1, x => by
    have h : crcStep (2 ^ (k + 1) * x) = 2 ^ k * x := by
      have e : 2 ^ (k + 1) * x = 2 * (2 ^ k * x) := by rw [Nat.pow_succ, Nat.mul_comm (2 ^ k) 2, Nat.mul_assoc]
      rw [e]
      unfold crcStep
      rw [if_neg (by omega)]
      omega
    show crcSteps k (crcStep (2 ^ (k + 1) * x)) = x
    rw [h]
    exact crcSteps_pow k x

/-- What a byte makes of a register of 0. -/
def crcT (x : Nat) : Nat := crcSteps 8 x
theorem crcT_lt {x : Nat} (h : x < 256) : crcT x < 2 ^ 32 := crcSteps_lt 8 (by omega)
theorem crcT_xor (a b : Nat) : crcT (a ^^^ b) = crcT a ^^^ crcT b := crcSteps_xor 8 a b

/-- A register after a byte. -/
def crcByte (r : Nat) (b : UInt8) : Nat := crcSteps 8 (r ^^^ b.toNat)
theorem crcByte_lt {r : Nat} (b : UInt8) (h : r < 2 ^ 32) : crcByte r b < 2 ^ 32 :=
  crcSteps_lt 8 (Nat.xor_lt_two_pow h (Nat.lt_trans b.toNat_lt (by decide)))

theorem split256 (x : Nat) : x = 256 * (x / 256) ^^^ x % 256 := by
  apply Nat.eq_of_testBit_eq
  intro i
  rw [Nat.testBit_xor, show 256 = 2 ^ 8 from rfl, Nat.testBit_two_pow_mul, Nat.testBit_mod_two_pow, Nat.testBit_div_two_pow]
  by_cases h : 8 ≤ i
  · have : ¬ i < 8 := by omega
    simp [h, this]
  · have : i < 8 := by omega
    simp [h, this]

/-- By a table. -/
theorem crcByte_table (r : Nat) (b : UInt8) : crcByte r b = r / 256 ^^^ crcT (r % 256 ^^^ b.toNat) := by
  unfold crcByte crcT
  conv => lhs; rw [split256 r]
  rw [Nat.xor_assoc, crcSteps_xor]
  rw [show 256 * (r / 256) = 2 ^ 8 * (r / 256) from rfl, crcSteps_pow]

/-- A register after bytes. -/
def crcReg (r : Nat) (l : List UInt8) : Nat := l.foldl crcByte r
theorem crcReg_append (r : Nat) (a b : List UInt8) : crcReg r (a ++ b) = crcReg (crcReg r a) b := by simp [crcReg]
theorem crcReg_lt (l : List UInt8) : ∀ {r : Nat}, r < 2 ^ 32 → crcReg r l < 2 ^ 32 := by
  induction l with
  | nil => exact fun h => h
  | cons b l ih => exact fun h => ih (crcByte_lt b h)
theorem crcReg_snoc (r : Nat) (l : List UInt8) (b : UInt8) : crcReg r (l ++ [b]) = crcByte (crcReg r l) b := by simp [crcReg]
theorem crcReg_take (r : Nat) (l : List UInt8) (k : Nat) (h : k < l.length) : crcReg r (l.take (k + 1)) = crcByte (crcReg r (l.take k)) l[k] := by
  rw [List.take_succ_eq_append_getElem h, crcReg_snoc]

/-- The sum of bytes. -/
def crcSum (l : List UInt8) : Nat := 4294967295 - crcReg 4294967295 l
/-- The sum with more bytes behind. -/
def crcAnd (s : Nat) (l : List UInt8) : Nat := 4294967295 - crcReg (4294967295 - s) l

theorem crcSum_lt (l : List UInt8) : crcSum l < 2 ^ 32 := by unfold crcSum; omega
theorem crcAnd_lt (s : Nat) (l : List UInt8) : crcAnd s l < 2 ^ 32 := by unfold crcAnd; omega
theorem crcReg_le (l : List UInt8) {r : Nat} (h : r ≤ 4294967295) : crcReg r l ≤ 4294967295 := by
  have := crcReg_lt l (r := r) (by omega)
  omega
theorem crcAnd_sum (a b : List UInt8) : crcAnd (crcSum a) b = crcSum (a ++ b) := by
  unfold crcAnd crcSum
  have := crcReg_le a (Nat.le_refl 4294967295)
  rw [show 4294967295 - (4294967295 - crcReg 4294967295 a) = crcReg 4294967295 a by omega, crcReg_append]
theorem crcAnd_append (s : Nat) (a b : List UInt8) (hs : s ≤ 4294967295) : crcAnd (crcAnd s a) b = crcAnd s (a ++ b) := by
  unfold crcAnd
  have := crcReg_le a (show 4294967295 - s ≤ 4294967295 by omega)
  rw [show 4294967295 - (4294967295 - crcReg (4294967295 - s) a) = crcReg (4294967295 - s) a by omega, crcReg_append]
theorem crcAnd_zero (l : List UInt8) : crcAnd 0 l = crcSum l := rfl
theorem crcAnd_nil (s : Nat) (hs : s ≤ 4294967295) : crcAnd s [] = s := by unfold crcAnd crcReg; simp; omega
theorem crcSum_nil : crcSum [] = 0 := by decide

/-- A sum's four bytes. -/
def le4 (s : Nat) : List UInt8 := [UInt8.ofNat (s % 256), UInt8.ofNat (s / 256 % 256), UInt8.ofNat (s / 65536 % 256), UInt8.ofNat (s / 16777216 % 256)]
theorem le4_length (s : Nat) : (le4 s).length = 4 := rfl

/-- Signed bytes. -/
def crcSign (l : List UInt8) : List UInt8 := l ++ le4 (crcSum l)
theorem crcSign_length (l : List UInt8) : (crcSign l).length = l.length + 4 := by simp [crcSign, le4_length]

/-- Are they signed? -/
def crcSigned (l : List UInt8) : Bool := decide (4 ≤ l.length) && decide (crcSign (l.take (l.length - 4)) = l)

theorem crcReg_xor : ∀ (a b : List UInt8) (r s : Nat), a.length = b.length → crcReg (r ^^^ s) (List.zipWith (· ^^^ ·) a b) = crcReg r a ^^^ crcReg s b
  | [], [], r, s, _ => rfl
  | x :: a, y :: b, r, s, h => by
    show crcReg (crcByte (r ^^^ s) (x ^^^ y)) (List.zipWith (· ^^^ ·) a b) = crcReg (crcByte r x) a ^^^ crcReg (crcByte s y) b
    rw [← crcReg_xor a b _ _ (by simpa using h)]
    congr 1
    unfold crcByte
    rw [← crcSteps_xor]
    congr 1
    rw [UInt8.toNat_xor]
    ac_rfl

/-! ### bit by bit -/
def crcBit (r : Nat) (b : Bool) : Nat := crcStep (r ^^^ b.toNat)
def crcBits (r : Nat) (l : List Bool) : Nat := l.foldl crcBit r

def byteBits (b : UInt8) : List Bool := [b.toNat.testBit 0, b.toNat.testBit 1, b.toNat.testBit 2, b.toNat.testBit 3, b.toNat.testBit 4, b.toNat.testBit 5, b.toNat.testBit 6, b.toNat.testBit 7]
def bitsAll (l : List UInt8) : List Bool := l.flatMap byteBits
theorem byteBits_length (b : UInt8) : (byteBits b).length = 8 := rfl
theorem bitsAll_length : ∀ l : List UInt8, (bitsAll l).length = 8 * l.length
  | [] => rfl
  | b :: l => by
    show (byteBits b ++ bitsAll l).length = _
    rw [List.length_append, bitsAll_length l, byteBits_length, List.length_cons]; omega

/-- The number of bits. -/
def word : List Bool → Nat
  | [] => 0
  | b :: l => b.toNat ^^^ 2 * word l
theorem word_lt : ∀ l : List Bool, word l < 2 ^ l.length
  | [] => by simp [word]
  | b :: l => by
    have h := word_lt l
    unfold word
    rw [List.length_cons]
    refine Nat.xor_lt_two_pow ?_ (by rw [Nat.pow_succ]; omega)
    have hp : 0 < 2 ^ l.length := Nat.two_pow_pos _
    have hb : b.toNat ≤ 1 := by cases b <;> decide
    rw [Nat.pow_succ]
    omega
theorem word_inj : ∀ {a b : List Bool}, a.length = b.length → word a = word b → a = b
  | [], [], _, _ => rfl
  | x :: a, y :: b, h, e => by
    unfold word at e
    have h1 := congrArg (· % 2) e
    have h2 := congrArg (· / 2) e
    simp only [Nat.xor_div_two, xor_parity] at h1 h2
    have hx : x = y := by
      have h0 : x.toNat = y.toNat := by
        have hxb : x.toNat ≤ 1 := by cases x <;> decide
        have hyb : y.toNat ≤ 1 := by cases y <;> decide
        omega
      cases x <;> cases y <;> first | rfl | exact absurd h0 (by decide)
    have hz : word a = word b := by
      have hxx : x.toNat / 2 = 0 := by cases x <;> rfl
      have hyy : y.toNat / 2 = 0 := by cases y <;> rfl
      rw [hxx, hyy, Nat.zero_xor, Nat.zero_xor] at h2
      omega
    rw [hx, word_inj (by simpa using h) hz]

theorem crcBits_word : ∀ (l : List Bool) (r : Nat), l.length ≤ 32 → crcBits r l = crcSteps l.length (r ^^^ word l)
  | [], r, _ => by simp [crcBits, word, crcSteps]
  | b :: l, r, h => by
    have hl : l.length ≤ 31 := by simpa using h
    show crcBits (crcBit r b) l = crcSteps l.length (crcStep (r ^^^ word (b :: l)))
    rw [crcBits_word l _ (by omega)]
    congr 1
    show crcStep (r ^^^ b.toNat) ^^^ word l = crcStep (r ^^^ (b.toNat ^^^ 2 * word l))
    rw [← Nat.xor_assoc, crcStep_xor (r ^^^ b.toNat)]
    congr 1
    generalize word l = x
    unfold crcStep
    rw [if_neg (by omega)]
    omega

theorem word_byte : ∀ b : UInt8, word (byteBits b) = b.toNat := by
  intro b
  have h : ∀ n : Fin 256, word [n.val.testBit 0, n.val.testBit 1, n.val.testBit 2, n.val.testBit 3, n.val.testBit 4, n.val.testBit 5, n.val.testBit 6, n.val.testBit 7] = n.val := by decide +kernel
  exact h ⟨b.toNat, b.toNat_lt⟩

theorem crcByte_bits (r : Nat) (b : UInt8) : crcByte r b = crcBits r (byteBits b) := by
  rw [crcBits_word _ _ (by rw [byteBits_length]; omega), word_byte]
  rfl
theorem crcReg_bits : ∀ (l : List UInt8) (r : Nat), crcReg r l = crcBits r (bitsAll l)
  | [], r => rfl
  | b :: l, r => by
    show crcReg (crcByte r b) l = crcBits r (byteBits b ++ bitsAll l)
    rw [crcReg_bits l, crcByte_bits]
    simp [crcBits]

theorem crcBits_append (r : Nat) (a b : List Bool) : crcBits r (a ++ b) = crcBits (crcBits r a) b := by simp [crcBits]
theorem bool_lt (b : Bool) : b.toNat < 2 ^ 32 := by cases b <;> decide
theorem crcBits_lt (l : List Bool) : ∀ {r : Nat}, r < 2 ^ 32 → crcBits r l < 2 ^ 32 := by
  induction l with
  | nil => exact fun h => h
  | cons b l ih => exact fun h => ih (crcStep_lt (Nat.xor_lt_two_pow h (bool_lt b)))
theorem xor_left_inj {a b c : Nat} (h : a ^^^ c = b ^^^ c) : a = b := by
  have := congrArg (· ^^^ c) h
  simpa [Nat.xor_assoc, Nat.xor_self] using this
theorem crcBits_inj (l : List Bool) : ∀ {r s : Nat}, r < 2 ^ 32 → s < 2 ^ 32 → crcBits r l = crcBits s l → r = s := by
  induction l with
  | nil => exact fun _ _ h => h
  | cons b l ih =>
    intro r s hr hs h
    have h1 := ih (crcStep_lt (Nat.xor_lt_two_pow hr (bool_lt b))) (crcStep_lt (Nat.xor_lt_two_pow hs (bool_lt b))) h
    exact xor_left_inj (crcStep_inj (Nat.xor_lt_two_pow hr (bool_lt b)) (Nat.xor_lt_two_pow hs (bool_lt b)) h1)

/-- Bits that differ within 32 places only, and make the same register, are the same. -/
theorem burst_bits {x y : List Bool} {r at' : Nat} (hr : r < 2 ^ 32) (hl : x.length = y.length)
    (hd : ∀ i, i < at' ∨ at' + 32 ≤ i → x[i]? = y[i]?) (h : crcBits r x = crcBits r y) : x = y := by
  have e1 : x.take at' = y.take at' := by
    apply List.ext_getElem?
    intro i
    rw [List.getElem?_take, List.getElem?_take]
    split
    · exact hd i (.inl ‹_›)
    · rfl
  have e3 : x.drop (at' + 32) = y.drop (at' + 32) := by
    apply List.ext_getElem?
    intro i
    rw [List.getElem?_drop, List.getElem?_drop]
    exact hd _ (.inr (by omega))
  have hx : x = x.take at' ++ ((x.drop at').take 32 ++ x.drop (at' + 32)) := by
    rw [← List.drop_drop, List.take_append_drop, List.take_append_drop]
  have hy : y = y.take at' ++ ((y.drop at').take 32 ++ y.drop (at' + 32)) := by
    rw [← List.drop_drop, List.take_append_drop, List.take_append_drop]
  rw [hx, hy, e1, e3] at h
  simp only [crcBits_append] at h
  have hs := crcBits_lt (y.take at') hr
  have h1 := crcBits_inj _ (crcBits_lt _ hs) (crcBits_lt _ hs) h
  have hlen : ((x.drop at').take 32).length = ((y.drop at').take 32).length := by simp [hl]
  have hle : ((x.drop at').take 32).length ≤ 32 := by simp; omega
  rw [crcBits_word _ _ hle, crcBits_word ((y.drop at').take 32) _ (by rw [← hlen]; exact hle), ← hlen] at h1
  have hpow : ∀ l : List Bool, l.length ≤ 32 → word l < 2 ^ 32 := fun l h => Nat.lt_of_lt_of_le (word_lt l) (Nat.pow_le_pow_right (by omega) h)
  have h2 := crcSteps_inj _ (Nat.xor_lt_two_pow hs (hpow _ hle)) (Nat.xor_lt_two_pow hs (hpow _ (by rw [← hlen]; exact hle))) h1
  rw [Nat.xor_comm, Nat.xor_comm _ (word _)] at h2
  have h3 := word_inj hlen (xor_left_inj h2)
  rw [hx, hy, e1, e3, h3]

theorem byteBits_inj {a b : UInt8} (h : byteBits a = byteBits b) : a = b := by
  have := congrArg word h
  rw [word_byte, word_byte] at this
  exact UInt8.toNat_inj.1 this
theorem bitsAll_inj : ∀ {a b : List UInt8}, bitsAll a = bitsAll b → a = b
  | [], [], _ => rfl
  | [], y :: b, h => by have := congrArg List.length h; simp [bitsAll_length] at this
  | x :: a, [], h => by have := congrArg List.length h; simp [bitsAll_length] at this
  | x :: a, y :: b, h => by
    have h' : byteBits x ++ bitsAll a = byteBits y ++ bitsAll b := h
    obtain ⟨h1, h2⟩ := List.append_inj h' rfl
    rw [byteBits_inj h1, bitsAll_inj h2]

theorem bitsAll_get : ∀ (l : List UInt8) (i : Nat), (bitsAll l)[i]? = (l[i / 8]?).map fun b => b.toNat.testBit (i % 8)
  | [], i => by simp [bitsAll]
  | b :: l, i => by
    show (byteBits b ++ bitsAll l)[i]? = _
    by_cases h : i < 8
    · rw [List.getElem?_append_left (by rw [byteBits_length]; exact h), show i / 8 = 0 by omega, show i % 8 = i by omega]
      simp only [List.getElem?_cons_zero, Option.map_some]
      unfold byteBits
      match i, h with
      | 0, _ => rfl
      | 1, _ => rfl
      | 2, _ => rfl
      | 3, _ => rfl
      | 4, _ => rfl
      | 5, _ => rfl
      | 6, _ => rfl
      | 7, _ => rfl
    · rw [List.getElem?_append_right (by rw [byteBits_length]; omega), byteBits_length, bitsAll_get l]
      rw [show i / 8 = (i - 8) / 8 + 1 by omega, List.getElem?_cons_succ, show (i - 8) % 8 = i % 8 by omega]

/-! ### signed bytes: all have one register -/
def crcK : Nat := crcSteps 32 4294967295

theorem toNat_ofNat_mod (n : Nat) : (UInt8.ofNat (n % 256)).toNat = n % 256 := by simp

theorem crcReg_four (r : Nat) (a b c d : UInt8) : crcReg r [a, b, c, d] = crcSteps 32 (r ^^^ word (bitsAll [a, b, c, d])) := by
  rw [crcReg_bits, crcBits_word _ _ (by rw [bitsAll_length]; exact Nat.le_refl 32), bitsAll_length]
  rfl

theorem word_append : ∀ (a b : List Bool), word (a ++ b) = word a ^^^ 2 ^ a.length * word b
  | [], b => by simp [word]
  | x :: a, b => by
    show (x.toNat ^^^ 2 * word (a ++ b)) = (x.toNat ^^^ 2 * word a) ^^^ 2 ^ (a.length + 1) * word b
    rw [word_append a b, Nat.xor_assoc]
    congr 1
    have h2 : ∀ p q : Nat, 2 * (p ^^^ q) = 2 * p ^^^ 2 * q := fun p q => by
      have e1 := xor_parity (2 * p) (2 * q)
      have e2 : (2 * p ^^^ 2 * q) / 2 = 2 * p / 2 ^^^ 2 * q / 2 := Nat.xor_div_two
      rw [show 2 * p / 2 = p by omega, show 2 * q / 2 = q by omega] at e2
      omega
    rw [h2, Nat.pow_succ, Nat.mul_comm (2 ^ a.length) 2, Nat.mul_assoc]

theorem word_four (a b c d : UInt8) : word (bitsAll [a, b, c, d]) = a.toNat + 256 * (b.toNat + 256 * (c.toNat + 256 * d.toNat)) := by
  have hj : ∀ x y : Nat, x < 256 → (x ^^^ 256 * y) = x + 256 * y := fun x y hx => by
    have := split256 (x + 256 * y)
    rw [show (x + 256 * y) / 256 = y by omega, show (x + 256 * y) % 256 = x by omega, Nat.xor_comm] at this
    exact this.symm
  have e : bitsAll [a, b, c, d] = byteBits a ++ (byteBits b ++ (byteBits c ++ byteBits d)) := by simp [bitsAll]
  rw [e, word_append, word_append, word_append, word_byte, word_byte, word_byte, word_byte, byteBits_length, byteBits_length, byteBits_length]
  rw [show 2 ^ 8 = 256 from rfl, hj _ _ c.toNat_lt, hj _ _ b.toNat_lt, hj _ _ a.toNat_lt]

theorem word_le4 (s : Nat) (h : s ≤ 4294967295) : word (bitsAll (le4 s)) = s := by
  unfold le4
  rw [word_four, toNat_ofNat_mod, toNat_ofNat_mod, toNat_ofNat_mod, toNat_ofNat_mod]
  omega

theorem xor_compl {r : Nat} (h : r ≤ 4294967295) : r ^^^ (4294967295 - r) = 4294967295 := by
  have e : 4294967295 - r = 2 ^ 32 - 1 - r := rfl
  rw [e]
  apply Nat.eq_of_testBit_eq
  intro i
  rw [Nat.testBit_xor, show 4294967295 = 2 ^ 32 - 1 from rfl, Nat.testBit_two_pow_sub_one]
  have h3 : 2 ^ 32 - 1 - r = 2 ^ 32 - (r + 1) := by omega
  rw [h3, Nat.testBit_two_pow_sub_succ (by omega)]
  by_cases hi : i < 32
  · simp [hi]
  · have : r.testBit i = false := Nat.testBit_lt_two_pow (Nat.lt_of_lt_of_le (show r < 2 ^ 32 by omega) (Nat.pow_le_pow_right (by omega) (by omega)))
    simp [hi, this]

theorem crcReg_le4 (r v : Nat) (hv : v ≤ 4294967295) : crcReg r (le4 v) = crcSteps 32 (r ^^^ v) := by
  have := crcReg_four r (UInt8.ofNat (v % 256)) (UInt8.ofNat (v / 256 % 256)) (UInt8.ofNat (v / 65536 % 256)) (UInt8.ofNat (v / 16777216 % 256))
  have hw := word_le4 v hv
  unfold le4 at hw ⊢
  rw [this, hw]

theorem crcReg_sign (l : List UInt8) : crcReg 4294967295 (crcSign l) = crcK := by
  unfold crcSign crcSum
  have hr := crcReg_le l (Nat.le_refl 4294967295)
  rw [crcReg_append, crcReg_le4 _ _ (by omega), xor_compl hr]
  rfl

theorem le4_inj_word {a b c d : UInt8} : le4 (word (bitsAll [a, b, c, d])) = [a, b, c, d] := by
  rw [word_four]
  unfold le4
  have ha := a.toNat_lt; have hb := b.toNat_lt; have hc := c.toNat_lt; have hd := d.toNat_lt
  have e1 : (a.toNat + 256 * (b.toNat + 256 * (c.toNat + 256 * d.toNat))) % 256 = a.toNat := by omega
  have e2 : (a.toNat + 256 * (b.toNat + 256 * (c.toNat + 256 * d.toNat))) / 256 % 256 = b.toNat := by omega
  have e3 : (a.toNat + 256 * (b.toNat + 256 * (c.toNat + 256 * d.toNat))) / 65536 % 256 = c.toNat := by omega
  have e4 : (a.toNat + 256 * (b.toNat + 256 * (c.toNat + 256 * d.toNat))) / 16777216 % 256 = d.toNat := by omega
  rw [e1, e2, e3, e4]
  simp

/-- Signed: just those of that register. -/
theorem crcSigned_iff (l : List UInt8) (h : 4 ≤ l.length) : crcSigned l = decide (crcReg 4294967295 l = crcK) := by
  unfold crcSigned
  rw [decide_eq_true h, Bool.true_and]
  apply decide_eq_decide.2
  constructor
  · intro e
    have := crcReg_sign (l.take (l.length - 4))
    rwa [e] at this
  · intro e
    have hs : l = l.take (l.length - 4) ++ l.drop (l.length - 4) := (List.take_append_drop _ _).symm
    generalize hp : l.take (l.length - 4) = p at *
    have hq : (l.drop (l.length - 4)).length = 4 := by simp; omega
    generalize l.drop (l.length - 4) = q at *
    subst hs
    match q, hq with
    | [a, b, c, d], _ =>
      unfold crcSign
      congr 1
      rw [crcReg_append, crcReg_four] at e
      have hr := crcReg_le p (Nat.le_refl 4294967295)
      have hw : word (bitsAll [a, b, c, d]) < 2 ^ 32 := word_lt _
      have h1 := crcSteps_inj 32 (Nat.xor_lt_two_pow (by omega) hw) (by decide) e
      have h2 : crcSum p = word (bitsAll [a, b, c, d]) := by
        unfold crcSum
        have h3 := (xor_compl hr).trans h1.symm
        generalize crcReg 4294967295 p = r at *
        rw [Nat.xor_comm, Nat.xor_comm r] at h3
        exact xor_left_inj h3
      rw [h2, le4_inj_word]

theorem crcSigned_sign (l : List UInt8) : crcSigned (crcSign l) = true := by
  rw [crcSigned_iff _ (by rw [crcSign_length]; omega), crcReg_sign]; simp

theorem crcSum_sign (a b : List UInt8) : crcSum (crcSign a) = crcSum (crcSign b) := by
  unfold crcSum; rw [crcReg_sign, crcReg_sign]

/-! ### bits turned -/
/-- Bytes with the bits turned that a pattern says: after k rounds. -/
def turnOne (l : List UInt8) (p : Nat) : List UInt8 := l.set (p / 8) ((l.getD (p / 8) 0) ^^^ UInt8.ofNat (2 ^ (p % 8)))
def turned (l : List UInt8) (at' pat : Nat) : Nat → List UInt8
  | 0 => l
  | k + 1 => let m := turned l at' pat k
    if pat.testBit k = true ∧ at' + k < 8 * l.length then turnOne m (at' + k) else m

theorem turnOne_length (l : List UInt8) (p : Nat) : (turnOne l p).length = l.length := by simp [turnOne]
theorem turned_length (l : List UInt8) (at' pat k : Nat) : (turned l at' pat k).length = l.length := by
  induction k with
  | zero => rfl
  | succ k ih =>
    unfold turned
    dsimp only
    split
    · rw [turnOne_length, ih]
    · exact ih
theorem turnOne_bits (l : List UInt8) (p i : Nat) (h : i ≠ p) : (bitsAll (turnOne l p))[i]? = (bitsAll l)[i]? := by
  rw [bitsAll_get, bitsAll_get]
  unfold turnOne
  rw [List.getElem?_set]
  by_cases hi : p / 8 = i / 8
  · rw [if_pos hi]
    by_cases hl : p / 8 < l.length
    · rw [if_pos hl, ← hi, List.getElem?_eq_getElem hl]
      simp only [Option.map_some, Option.some.injEq]
      have hg : l.getD (p / 8) 0 = l[p / 8] := by simp [List.getD_eq_getElem?_getD, List.getElem?_eq_getElem hl]
      rw [hg, UInt8.toNat_xor, Nat.testBit_xor]
      have h1 : (UInt8.ofNat (2 ^ (p % 8))).toNat = 2 ^ (p % 8) := by
        have hp : 2 ^ (p % 8) ≤ 2 ^ 7 := Nat.pow_le_pow_right (by omega) (by omega)
        rw [UInt8.toNat_ofNat']
        exact Nat.mod_eq_of_lt (by omega)
      rw [h1, Nat.testBit_two_pow, decide_eq_false (show ¬ p % 8 = i % 8 by omega), Bool.xor_false]
    · rw [if_neg hl, ← hi, List.getElem?_eq_none (by omega)]
  · rw [if_neg hi]
theorem turned_bits (l : List UInt8) (at' pat k i : Nat) (h : i < at' ∨ at' + k ≤ i) : (bitsAll (turned l at' pat k))[i]? = (bitsAll l)[i]? := by
  induction k with
  | zero => rfl
  | succ k ih =>
    unfold turned
    dsimp only
    split
    · rw [turnOne_bits _ _ _ (by omega), ih (by omega)]
    · exact ih (by omega)

/-- DAMAGE WITHIN 32 BITS IS TOLD. -/
theorem turned_signed (l : List UInt8) (at' pat : Nat) (hs : crcSigned l = true) (h4 : 4 ≤ l.length) : crcSigned (turned l at' pat 32) = decide (turned l at' pat 32 = l) := by
  have hl := turned_length l at' pat 32
  rw [crcSigned_iff _ (by omega)]
  rw [crcSigned_iff _ h4] at hs
  have hs' : crcReg 4294967295 l = crcK := by simpa using hs
  apply decide_eq_decide.2
  constructor
  · intro e
    rw [← hs', crcReg_bits, crcReg_bits] at e
    refine bitsAll_inj (burst_bits (at' := at') (by decide) ?_ ?_ e)
    · rw [bitsAll_length, bitsAll_length, hl]
    · exact fun i hi => turned_bits l at' pat 32 i (by omega)
  · intro e
    rw [e, hs']

theorem sub_xor {r : Nat} (h : r ≤ 4294967295) : 4294967295 - r = r ^^^ 4294967295 := by
  have e : r ^^^ 4294967295 = r ^^^ (r ^^^ (4294967295 - r)) := by rw [xor_compl h]
  rw [e, ← Nat.xor_assoc, Nat.xor_self, Nat.zero_xor]
/-- SUMS OF BYTES OF ONE LENGTH GO TOGETHER. -/
theorem crc_together (a b c : List UInt8) (h1 : a.length = b.length) (h2 : a.length = c.length) :
    crcSum (List.zipWith (· ^^^ ·) (List.zipWith (· ^^^ ·) a b) c) = crcSum a ^^^ crcSum b ^^^ crcSum c := by
  have e := crcReg_xor (List.zipWith (· ^^^ ·) a b) c (4294967295 ^^^ 4294967295) 4294967295 (by simp; omega)
  rw [crcReg_xor a b _ _ h1] at e
  have e0 : 4294967295 ^^^ 4294967295 ^^^ 4294967295 = 4294967295 := by decide
  rw [e0] at e
  unfold crcSum
  rw [e]
  have ha := crcReg_le a (Nat.le_refl 4294967295)
  have hb := crcReg_le b (Nat.le_refl 4294967295)
  have hc := crcReg_le c (Nat.le_refl 4294967295)
  generalize crcReg 4294967295 a = x at *
  generalize crcReg 4294967295 b = y at *
  generalize crcReg 4294967295 c = z at *
  have hx : x ^^^ y ^^^ z < 2 ^ 32 := Nat.xor_lt_two_pow (Nat.xor_lt_two_pow (by omega) (by omega)) (by omega)
  rw [sub_xor (by omega), sub_xor ha, sub_xor hb, sub_xor hc]
  generalize 4294967295 = m
  have hm : ∀ p q r : Nat, (p ^^^ m) ^^^ (q ^^^ m) ^^^ (r ^^^ m) = (p ^^^ q ^^^ r) ^^^ (m ^^^ m ^^^ m) := fun p q r => by ac_rfl
  rw [hm, Nat.xor_self, Nat.zero_xor]
end Go.Lac
