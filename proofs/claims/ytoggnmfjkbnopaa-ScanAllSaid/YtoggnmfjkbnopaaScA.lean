/-
  The scanner as a state; the lists of what is found: what holds of them, and what keeps them.
-/
import Derived.Test.YtoggnmfjkbnopaaProg
import Derived.Test.YtoggnmfjkbnopaaLib
import Derived.Test.YtoggnmfjkbnopaaLibB
import Derived.Test.YtoggnmfjkbnopaaLibC
import Derived.Test.YtoggnmfjkbnopaaInfo
import Derived.Test.YtoggnmfjkbnopaaLibD
import Derived.Test.YtoggnmfjkbnopaaFrE
import Derived.Test.YtoggnmfjkbnopaaScM
import Derived.WalkKit
import Derived.Lib.Hide
import Derived.Outline
import Derived.Deep.DeepAppendRoom
import Derived.Laws.OwnMore
import Derived.ArgAppend
namespace Go.Proofs.Ytoggnmfjkbnopaa
open Go.RowKit Go.Lac

/-- The same row, less of it. -/
theorem own_less {w : World} {base : Nat} {e : TypeId} {size g n cap : Nat} {xs : List Value} (h : w.ownsRow base e size (.slice (some ⟨g, 0, none⟩) n cap) n xs) (m : Nat) (hm : m ≤ n) :
    w.ownsRow base e size (.slice (some ⟨g, 0, none⟩) m cap) m (xs.take (m * size)) := by
  refine ⟨by rw [List.length_take, h.1]; exact Nat.min_eq_left (Nat.mul_le_mul_right _ hm), ?_⟩
  rcases h.2 with ⟨h0, _⟩ | ⟨g', cap', cur, hv, h1, h2, h3, h4, h5, h6⟩
  · cases h0
  · cases hv
    exact .inr ⟨g, cap, cur, rfl, h1, h2, by omega, h4, h5, by rw [← h6, List.take_take, Nat.min_eq_left (Nat.mul_le_mul_right _ hm)]⟩
theorem Ch.ofGrown {w w' : World} {row : Option Nat} (hg : w.grownBy w' row) : Ch (fun k => some k = row) w w' := ⟨hg.os, hg.tape, hg.output, hg.size, fun k hk hm => hg.block k hk (fun e => hm e)⟩
theorem own_keep {M : Nat → Prop} {w w' : World} {base : Nat} {e : TypeId} {size g n cap m : Nat} {xs : List Value} (h : w.ownsRow base e size (.slice (some ⟨g, 0, none⟩) n cap) m xs) (k : Ch M w w') (hm : ¬ M g) :
    w'.ownsRow base e size (.slice (some ⟨g, 0, none⟩) n cap) m xs := by
  refine ⟨h.1, ?_⟩
  rcases h.2 with h0 | ⟨g', cap', cur, hv, h1, h2, h3, h4, h5, h6⟩
  · exact .inl h0
  · cases hv
    exact .inr ⟨g, cap, cur, rfl, h1, by rw [k.block g (Array.getElem?_eq_some_iff.1 h2).1 hm]; exact h2, h3, h4, h5, h6⟩

section
variable {P : Program} (w : World)
/-- 'append(k, b...)', k a row in a block of its own, b any bytes, of that block too. -/
theorem run_append_kept (t ty e : TypeId) (i : TypeInfo) (ht : P.underlying t = some (.slice e)) (hi : P.info? e = some i) (hz : i.zero = some (.int .u8 0)) (hsz : i.size = 1) (hby : i.bytes = 1)
    (g cap : Nat) (k b : List UInt8) (x : Value) (hown : w.ownsRow g e 1 (.slice (some ⟨g, 0, none⟩) k.length cap) k.length (cellsB k)) (hx : Rd w x b) (hl : k.length + b.length ≤ 1000000) :
    ∃ v' w', (Builtin.append_ #[t, t] ty #[.slice (some ⟨g, 0, none⟩) k.length cap, x]).run P w = .ok v' w' ∧ Ch (fun i => i = g) w w' ∧ Rd w' v' (k ++ b) ∧
      w'.ownsRow g e 1 (.slice (some ⟨g, 0, none⟩) k.length cap) k.length (cellsB k) ∧
      (k.length + b.length ≤ cap → v' = .slice (some ⟨g, 0, none⟩) (k ++ b).length cap ∧ w'.ownsRow g e 1 (.slice (some ⟨g, 0, none⟩) (k ++ b).length cap) (k ++ b).length (cellsB (k ++ b))) := by
  obtain ⟨ao, c, rfl, g1, g2, g3, g4⟩ := hx
  have hlen : (k ++ b).length = k.length + b.length := List.length_append
  cases ao with
  | none =>
    have hc := g3 rfl
    have hb : b = [] := List.eq_nil_of_length_eq_zero (by omega)
    subst hb
    subst hc
    refine ⟨_, w, run_append_owned_none w g t ty e i 1 ht hi _ k.length (cellsB k) hown, Ch.refl _ _, ?_, hown, fun _ => ⟨by simp, by simpa using hown⟩⟩
    rw [List.append_nil]
    exact Rd.ofOwns hown
  | some a =>
    have hnews : ∀ j u, (cellsB b)[j]? = some u → w.cell? (a.add j) = some u := fun j u hu => by obtain ⟨b', off, rfl, g5⟩ := g4 a rfl j u hu; rw [Addr.add_lit]; exact g5
    have hnl : (cellsB b).length = b.length * 1 := by simp [cellsB]
    by_cases hroom : k.length + b.length ≤ cap
    · obtain ⟨w', r1, r2, r3⟩ := run_append_own_spare (P := P) w g t ty e i 1 ht hi hsz g k.length cap (cellsB k) hown a b.length c (cellsB b) hnl hnews (cellsB_one b) hroom
      rw [← cellsB_append, ← hlen] at r2
      refine ⟨_, w', r1, (Ch.ofGrown r3).mono (fun _ _ h => by cases h; rfl), ?_, ?_, fun _ => ⟨by rw [hlen], r2⟩⟩
      · rw [← hlen]; exact Rd.ofOwns r2
      · have := own_less r2 k.length (by omega)
        rwa [cellsB_append, List.take_left' (by simp [cellsB])] at this
    · obtain ⟨v', w', r1, r2, r3⟩ := run_append_arg_grows (P := P) w t ty e i (.int .u8 0) 1 1 ht hi hz hsz hby rfl (by decide) ⟨g, 0, none⟩ k.length cap (cellsB k) (by simp [cellsB])
        (fun j u hu => hown.cells (g := g) rfl j u hu) a b.length c (cellsB b) hnl hnews (by omega) (by unfold maxLen; omega) (by omega)
      have hE : Ext w w' := (Ch.ofGrown r3).mono (fun _ _ h => by cases h)
      refine ⟨v', w', r1, hE.ch, ?_, hown.ext hE, fun h => absurd h hroom⟩
      rw [← cellsB_append, ← hlen] at r2
      exact Rd.ofOwns r2
end

/-- Bytes in a block that is not changed are as they were. -/
theorem Rd.keep {M : Nat → Prop} {w w' : World} {v : Value} {bs : List UInt8} (h : Rd w v bs) (k : Ch M w w') (hf : ∀ x l c, v = .slice (some x) l c → bs ≠ [] → x.block < w.heap.size → ¬ M x.block) : Rd w' v bs := by
  obtain ⟨ao, cap, h1, h2, h3, h4, h5⟩ := h
  refine ⟨ao, cap, h1, h2, h3, h4, fun x hx j u hu => ?_⟩
  obtain ⟨b, off, rfl, h6⟩ := h5 x hx j u hu
  have hne : bs ≠ [] := by rintro rfl; simp [cellsB] at hu
  have hlt : b < w.heap.size := by
    unfold World.cell? at h6
    rcases hb : w.heap[b]? with _ | o
    · simp [hb] at h6
    · exact (Array.getElem?_eq_some_iff.1 hb).1
  exact ⟨b, off, rfl, k.cell (p := ⟨b, off + j, none⟩) (hf ⟨b, off, none⟩ _ _ (by rw [h1, hx]) hne hlt) u h6⟩

/-- What is found, cell by cell: the payloads lie in blocks of N. -/
def FdC (w : World) (ak : IntKind) (N : Nat → Prop) : List Value → List Fnd → Prop
  | cs, [] => cs = []
  | cs, f :: l => ∃ t rest, cs = [.int .u8 (f.v : Nat), .int .u8 (f.k : Nat), t, .int ak (f.at' : Nat), .int .i64 (f.size : Nat)] ++ rest ∧ Rd w t f.p ∧ (∀ x l c, t = .slice (some x) l c → f.p ≠ [] → x.block < w.heap.size → N x.block) ∧ FdC w ak N rest l
theorem FdC.keep {M N : Nat → Prop} {w w' : World} {ak : IntKind} (k : Ch M w w') (hM : ∀ i, i < w.heap.size → N i → ¬ M i) : ∀ {l : List Fnd} {cs : List Value}, FdC w ak N cs l → FdC w' ak (fun i => i < w.heap.size ∧ N i) cs l
  | [], _, h => h
  | f :: _, _, ⟨t, rest, h1, h2, h3, h4⟩ => by
    have hr := Rd.keep h2 k fun x l c e hn hl => hM _ hl (h3 x l c e hn hl)
    refine ⟨t, rest, h1, hr, fun x l c e hn _ => ?_, h4.keep k hM⟩
    have hlt : x.block < w.heap.size := by
      obtain ⟨ao, cap, g1, g2, g3, g4, g5⟩ := h2
      rw [e] at g1
      cases g1
      have hne : 0 < f.p.length := List.length_pos_iff.2 hn
      obtain ⟨b, off, rfl, h6⟩ := g5 x rfl 0 _ (by rw [cellsB, List.getElem?_map, List.getElem?_eq_getElem hne]; rfl)
      unfold World.cell? at h6
      rcases hb : w.heap[b]? with _ | o
      · simp [hb] at h6
      · exact (Array.getElem?_eq_some_iff.1 hb).1
    exact ⟨hlt, h3 x l c e hn hlt⟩
theorem FdC.mono {N N' : Nat → Prop} {w : World} {ak : IntKind} (hM : ∀ i, i < w.heap.size → N i → N' i) : ∀ {l : List Fnd} {cs : List Value}, FdC w ak N cs l → FdC w ak N' cs l
  | [], _, h => h
  | _ :: _, _, ⟨t, rest, h1, h2, h3, h4⟩ => ⟨t, rest, h1, h2, fun x l c e hn hl => hM _ hl (h3 x l c e hn hl), h4.mono hM⟩
theorem FdC.append {w : World} {ak : IntKind} {N : Nat → Prop} : ∀ {l l' : List Fnd} {cs cs' : List Value}, FdC w ak N cs l → FdC w ak N cs' l' → FdC w ak N (cs ++ cs') (l ++ l')
  | [], _, _, _, h, h' => by rw [show _ = [] from h]; exact h'
  | _ :: _, _, _, _, ⟨t, rest, h1, h2, h3, h4⟩, h' => ⟨t, rest ++ _, by rw [h1, List.append_assoc], h2, h3, h4.append h'⟩
theorem FdC.length {w : World} {ak : IntKind} {N : Nat → Prop} : ∀ {l : List Fnd} {cs : List Value}, FdC w ak N cs l → cs.length = l.length * 5
  | [], _, h => by rw [show _ = [] from h]; rfl
  | _ :: _, _, ⟨_, _, h1, _, _, h4⟩ => by rw [h1, List.length_append, h4.length]; simp; omega
theorem FdC.one {w : World} {ak : IntKind} {N : Nat → Prop} : ∀ {l : List Fnd} {cs : List Value}, FdC w ak N cs l → ∀ u ∈ cs, u.oneCell' = true
  | [], _, h, u, hu => by rw [show _ = [] from h] at hu; cases hu
  | _ :: _, _, ⟨t, _, h1, h2, _, h4⟩, u, hu => by
    obtain ⟨ao, cap, rfl⟩ := h2.shape
    rw [h1] at hu
    rcases List.mem_append.1 hu with h | h
    · simp only [List.mem_cons, List.not_mem_nil, or_false] at h
      rcases h with rfl | rfl | rfl | rfl | rfl <;> simp [Value.oneCell']
    · exact h4.one u h
/-- The i-th. -/
theorem FdC.get {w : World} {ak : IntKind} {N : Nat → Prop} : ∀ {l : List Fnd} {cs : List Value}, FdC w ak N cs l → ∀ {i : Nat} {f : Fnd}, l[i]? = some f →
    ∃ t, cs[5 * i]? = some (.int .u8 (f.v : Nat)) ∧ cs[5 * i + 1]? = some (.int .u8 (f.k : Nat)) ∧ cs[5 * i + 2]? = some t ∧ cs[5 * i + 3]? = some (.int ak (f.at' : Nat)) ∧ cs[5 * i + 4]? = some (.int .i64 (f.size : Nat)) ∧ Rd w t f.p
  | [], _, _, i, _, h => by simp at h
  | _ :: _, _, ⟨t, rest, h1, h2, _, h4⟩, 0, f, h => by
    simp at h
    subst h
    rw [h1]
    exact ⟨t, rfl, rfl, rfl, rfl, rfl, h2⟩
  | _ :: _, _, ⟨t, rest, h1, h2, _, h4⟩, i + 1, f, h => by
    obtain ⟨t', k1, k2, k3, k4, k5, k6⟩ := h4.get (i := i) (f := f) (by simpa using h)
    refine ⟨t', ?_, ?_, ?_, ?_, ?_, k6⟩ <;> (rw [h1, List.getElem?_append_right (by simp; omega)]; simp only [List.length_cons, List.length_nil])
    · rw [show 5 * (i + 1) - (0 + 1 + 1 + 1 + 1 + 1) = 5 * i by omega]; exact k1
    · rw [show 5 * (i + 1) + 1 - (0 + 1 + 1 + 1 + 1 + 1) = 5 * i + 1 by omega]; exact k2
    · rw [show 5 * (i + 1) + 2 - (0 + 1 + 1 + 1 + 1 + 1) = 5 * i + 2 by omega]; exact k3
    · rw [show 5 * (i + 1) + 3 - (0 + 1 + 1 + 1 + 1 + 1) = 5 * i + 3 by omega]; exact k4
    · rw [show 5 * (i + 1) + 4 - (0 + 1 + 1 + 1 + 1 + 1) = 5 * i + 4 by omega]; exact k5

/-- A row of one's own of what is found; the payloads lie in other blocks, and in none below B. -/
def FdL (w : World) (base B : Nat) (E : TypeId) (ak : IntKind) (v : Value) (l : List Fnd) : Prop := ∃ cs, w.ownsRow base E 5 v l.length cs ∧ FdC w ak (fun i => B ≤ i ∧ v.ownBlock ≠ some i) cs l
theorem FdL.nil (w : World) (base B : Nat) (E : TypeId) (ak : IntKind) : FdL w base B E ak (.slice none 0 0) [] := ⟨[], ⟨rfl, .inl ⟨rfl, rfl⟩⟩, rfl⟩
theorem FdL.keep {M : Nat → Prop} {w w' : World} {base B : Nat} {E : TypeId} {ak : IntKind} {v : Value} {l : List Fnd} (h : FdL w base B E ak v l) (k : Ch M w w') (hM : ∀ i, M i → i < B ∧ i < base) : FdL w' base B E ak v l := by
  obtain ⟨cs, h1, h2⟩ := h
  refine ⟨cs, ⟨h1.1, ?_⟩, (h2.keep k fun i _ hi hm => by have := (hM i hm).1; omega).mono fun i _ h => h.2⟩
  rcases h1.2 with h0 | ⟨g, cap, cur, hv, g1, g2, g3⟩
  · exact .inl h0
  · exact .inr ⟨g, cap, cur, hv, g1, by rw [k.block g (Array.getElem?_eq_some_iff.1 g2).1 (fun f => by have := (hM g f).2; omega)]; exact g2, g3⟩
theorem FdL.ext {w w' : World} {base B : Nat} {E : TypeId} {ak : IntKind} {v : Value} {l : List Fnd} (h : FdL w base B E ak v l) (k : Ext w w') : FdL w' base B E ak v l := h.keep k fun _ f => f.elim
theorem own_base {w : World} {base base' : Nat} {e : TypeId} {size n : Nat} {v : Value} {xs : List Value} (h : w.ownsRow base e size v n xs) (hb : base' ≤ base) : w.ownsRow base' e size v n xs := by
  refine ⟨h.1, ?_⟩
  rcases h.2 with h0 | ⟨g, cap, cur, hv, g1, g2⟩
  · exact .inl h0
  · exact .inr ⟨g, cap, cur, hv, Nat.le_trans hb g1, g2⟩
theorem FdL.less {w : World} {base B base' B' : Nat} {E : TypeId} {ak : IntKind} {v : Value} {l : List Fnd} (h : FdL w base B E ak v l) (hb : base' ≤ base) (hB : B' ≤ B) : FdL w base' B' E ak v l := by
  obtain ⟨cs, h1, h2⟩ := h
  exact ⟨cs, own_base h1 hb, h2.mono fun i _ h => ⟨Nat.le_trans hB h.1, h.2⟩⟩
theorem FdL.shape {w : World} {base B : Nat} {E : TypeId} {ak : IntKind} {v : Value} {l : List Fnd} (h : FdL w base B E ak v l) : ∃ ao cap, v = .slice ao l.length cap := by
  obtain ⟨cs, h1, _⟩ := h
  exact owns_shape h1
theorem own_other {w : World} {base : Nat} {e : TypeId} {size n : Nat} {v : Value} {xs : List Value} (h : w.ownsRow base e size v n xs) {i : Nat} (hi : i < base) : v.ownBlock ≠ some i := by
  rcases h.2 with ⟨rfl, _⟩ | ⟨g, cap, cur, rfl, g1, _⟩
  · simp [Value.ownBlock]
  · simp [Value.ownBlock]; omega
theorem FdL.ownlt {w : World} {base B : Nat} {E : TypeId} {ak : IntKind} {v : Value} {l : List Fnd} (h : FdL w base B E ak v l) {i : Nat} (hi : v.ownBlock = some i) : base ≤ i ∧ i < w.heap.size := by
  obtain ⟨cs, h1, _⟩ := h
  rcases h1.2 with ⟨rfl, _⟩ | ⟨g, cap, cur, rfl, g1, g2, _⟩
  · simp [Value.ownBlock] at hi
  · simp [Value.ownBlock] at hi; subst hi; exact ⟨g1, (Array.getElem?_eq_some_iff.1 g2).1⟩
/-- 'append(l, m...)', m of another row. -/
theorem run_append_fd {P : Program} {w : World} (base B : Nat) (t ty e : TypeId) (i : TypeInfo) (z : Value) (bytes : Nat) (ht : P.underlying t = some (.slice e)) (hi : P.info? e = some i) (hz : i.zero = some z)
    (hsize : i.size = 5) (hby : i.bytes = bytes) (hzs : z.cells.size = 5) {ak : IntKind} {v x : Value} {l l2 : List Fnd} {cs2 : List Value} (h : FdL w base B e ak v l) (hx : Sl w x l2.length cs2)
    (h2 : FdC w ak (fun i => B ≤ i ∧ v.ownBlock ≠ some i) cs2 l2) (hbytes : (l.length + l2.length) * bytes ≤ 140737488355328) (h63 : l.length + l2.length ≤ maxLen) (hbase : base ≤ w.heap.size) :
    ∃ v' w', (Builtin.append_ #[t, t] ty #[v, x]).run P w = .ok v' w' ∧ FdL w' base B e ak v' (l ++ l2) ∧ Ch (fun i => v.ownBlock = some i) w w' := by
  obtain ⟨cs, own, fd⟩ := h
  have hl2 := h2.length
  have h1 := h2.one
  have hlen : (l ++ l2).length = l.length + l2.length := List.length_append
  have fin : ∀ (v' : Value) (w' : World), w'.ownsRow w.heap.size e 5 v' (l.length + l2.length) (cs ++ cs2) → w.grownBy w' none → FdL w' base B e ak v' (l ++ l2) ∧ Ch (fun i => v.ownBlock = some i) w w' := by
    intro v' w' r2 r3
    have hE : Ext w w' := (Ch.ofGrown r3).mono (fun _ _ h => by cases h)
    refine ⟨⟨cs ++ cs2, by rw [hlen]; exact own_base r2 hbase, ?_⟩, hE.ch⟩
    refine ((fd.append h2).keep hE fun _ _ _ f => f).mono fun i _ h => ⟨h.2.1, own_other r2 h.1⟩
  have own' := own
  rcases own.2 with ⟨rfl, h0⟩ | ⟨g, cap, cur, rfl, g1, g2, g3, g4, g5, g6⟩
  · obtain ⟨v', w', r1, r2, r3⟩ := run_append_sl (P := P) w w.heap.size t ty e i z 5 bytes ht hi hz hsize hby hzs (by decide) (.slice none 0 0) l.length cs ⟨own.1, .inl ⟨rfl, h0⟩⟩ x l2.length cs2 hx hl2 h1 hbytes h63 (Nat.le_refl _)
    exact ⟨v', w', r1, fin v' w' r2 r3⟩
  · obtain ⟨ao, c, rfl, k1, k2, k3, k4⟩ := hx
    cases ao with
    | none =>
      have hc := k3 rfl
      have hl0 : l2 = [] := List.eq_nil_of_length_eq_zero (by omega)
      subst hl0
      subst hc
      refine ⟨_, w, run_append_owned_none w base t ty e i 5 ht hi _ l.length cs own, ?_, Ch.refl _ _⟩
      rw [List.append_nil]
      exact ⟨cs, own, fd⟩
    | some a =>
      have hnews : ∀ j u, cs2[j]? = some u → w.cell? (a.add j) = some u := fun j u hu => by obtain ⟨b', off, rfl, g5⟩ := k4 a rfl j u hu; rw [Addr.add_lit]; exact g5
      by_cases hroom : l.length + l2.length ≤ cap
      · obtain ⟨w', r1, r2, r3⟩ := run_append_own_spare (P := P) w base t ty e i 5 ht hi hsize g l.length cap cs own a l2.length c cs2 hl2 hnews h1 hroom
        refine ⟨_, w', r1, ⟨cs ++ cs2, by rw [hlen]; exact r2, ?_⟩, (Ch.ofGrown r3).mono (fun i _ h => by cases h; rfl)⟩
        refine ((fd.append h2).keep (Ch.ofGrown r3) fun i _ h hm => h.2 (by cases hm; rfl)).mono fun i _ h => ⟨h.2.1, h.2.2⟩
      · obtain ⟨v', w', r1, r2, r3⟩ := run_append_arg_grows (P := P) w t ty e i z 5 bytes ht hi hz hsize hby hzs (by decide) ⟨g, 0, none⟩ l.length cap cs (by rw [own.1])
          (fun j u hu => own'.cells (g := g) rfl j u hu) a l2.length c cs2 hl2 hnews (by omega) h63 hbytes
        exact ⟨v', w', r1, fin v' w' r2 r3⟩

/-- The scanner at r: where the last whole frame ended, the error, what is kept, in the block g. -/
structure IsS (w : World) (r g : Nat) (k : List UInt8) (a e : Nat) : Prop where
  cells : w.heap[r]? = some (.cells #[if e = 0 then .slice (some ⟨g, 0, none⟩) k.length 4105 else .slice none 0 0, .int .u64 (a : Nat), .int .i64 (e : Nat)] 83 (0, 0))
  own : w.ownsRow g 5 1 (.slice (some ⟨g, 0, none⟩) k.length 4105) k.length (cellsB k)
  ne : g ≠ r
  none : e ≠ 0 → k = []
theorem IsS.keep {M : Nat → Prop} {w w' : World} {r g a e : Nat} {k : List UInt8} (h : IsS w r g k a e) (c : Ch M w w') (h1 : ¬ M r) (h2 : ¬ M g) : IsS w' r g k a e :=
  ⟨by rw [c.block r (Array.getElem?_eq_some_iff.1 h.cells).1 h1]; exact h.cells, own_keep h.own c h2, h.ne, h.none⟩
theorem IsS.lt {w : World} {r g a e : Nat} {k : List UInt8} (h : IsS w r g k a e) : r < w.heap.size ∧ g < w.heap.size := by
  refine ⟨(Array.getElem?_eq_some_iff.1 h.cells).1, ?_⟩
  rcases h.own.2 with ⟨h0, _⟩ | ⟨g', cap, cur, hv, g1, g2, g3⟩
  · cases h0
  · cases hv; exact (Array.getElem?_eq_some_iff.1 g2).1
theorem IsS.few {w : World} {r g a e : Nat} {k : List UInt8} (h : IsS w r g k a e) : k.length ≤ 4105 := by
  rcases h.own.2 with ⟨h0, _⟩ | ⟨g', cap, cur, hv, g1, g2, g3, _⟩
  · cases h0
  · cases hv; exact g3
end Go.Proofs.Ytoggnmfjkbnopaa
