/-
  XRelR, XRelS in one text. MADE BY mergeSeat.py
-/
import Derived.Test.YtegclfpmgilnpaaGRelC
import Derived.Test.YtegclfpmgilnpaaGRelA
namespace Go.Proofs.Ytegclfpmgilnpaa
open Go.RowKit Go.Lac

section
variable {TD : TypeId} {w wr w' : World} {r g2 g3 : Nat} {s s' : RS} {q : Rl} {v z : Value}
theorem heap_only {o : Obj} {g : Nat} (k : Only r wr w') (hne : g ≠ r) (h : wr.heap[g]? = some o) : w'.heap[g]? = some o := by
  rw [k.block g (Array.getElem?_eq_some_iff.1 h).1 hne]; exact h
end
def tkT (T : TypeId) (base r g3 : Nat) (v' : Value) (c : Col) (k : Nat) (l : List Col) : Nat → Tmp → Kn
  | 0 => fun d => match d with
    | 24 => .is (.pointer (some ⟨g3, 4, none⟩))
    | 25 => .is v'
    | 26 => .is (RPtr r)
    | _ => .any
  | 1 => fun d => match d with
    | 24 => .is (.pointer (some ⟨g3, 4, none⟩))
    | 25 => .is v'
    | 27 => .is (pcol c)
    | 28 => Kn.colS [c]
    | _ => .any
  | 2 => fun d => match d with
    | 29 => Kn.ownC base T (k + 1) (l ++ [c])
    | 30 => .is (.pointer (some ⟨g3, 4, none⟩))
    | _ => .any
  | _ => fun _ => .any
theorem own_only {w w' : World} {base r : Nat} {e : TypeId} {size : Nat} {v : Value} {n : Nat} {xs : List Value} (h : w.ownsRow base e size v n xs) (hr : r < base) (k : Only r w w') : w'.ownsRow base e size v n xs := by
  refine ⟨h.1, ?_⟩
  rcases h.2 with h1 | ⟨g, cap, cur, h1, h2, h3, h4⟩
  · exact .inl h1
  · exact .inr ⟨g, cap, cur, h1, h2, heap_only k (by omega) h3, h4⟩
end Go.Proofs.Ytegclfpmgilnpaa
namespace Go.Proofs.Ytegclfpmgilnpaa
open Go.RowKit Go.Lac

theorem results_row_tmp {P : Program} {fn : Func} {p a : Tmp} {ty : TypeId} (h : fn.results = #[.cell p ty, .tmp a]) (tmps : Array Value) (w : World) (g : Nat) (t : TypeId) (cs : Array Value) (fr : Nat × Nat) (d : TypeDesc)
    (hp : tmps.getD p undef = .pointer (some ⟨g, 0, none⟩)) (hg : w.heap[g]? = some (.cells cs t fr))
    (hu : P.underlying ty = some d) (hd : (match d with | .struct _ | .array _ _ => true | _ => false) = true) (hi : (P.info? ty).map (·.size) = some cs.size) :
    (results fn tmps).run P w = .ok (.tuple #[.agg cs, tmps.getD a undef]) w := by
  have hp' : tmps[p]?.getD undef = .pointer (some ⟨g, 0, none⟩) := by simpa using hp
  simp [results, h, hp', asAddr, run_loadVar_row w g t ty cs fr d hg hu hd hi]
theorem colsR_fits : ∀ (n : Nat) (s : RS), ∀ c ∈ (colsR n s).1, c.name.length ≤ 31
  | 0, _, c, hc => by cases hc
  | n + 1, s, c, hc => by
    unfold colsR at hc
    rcases List.mem_cons.1 hc with rfl | hc
    · exact textR_length 31 s
    · exact colsR_fits n _ c hc
theorem rlR_fits (s : RS) : (rlR s).1.fits := by
  refine ⟨?_, fun c hc => ?_⟩
  · have := textR_length 31 (rl1 (rl1 s).2).2
    show (textR 31 (rl1 (rl1 s).2).2).1.length ≤ _
    omega
  · have := colsR_fits _ _ c hc
    omega
def DecPost (T : TypeId) (q : Rl) (er : Int) (w : World) (e : Ending) (w' : World) : Prop :=
  ∃ cv, e = .returned (.tuple #[.agg (relv q cv), .int .i64 er]) ∧ Ext w w' ∧ ColS w' cv q.cols
theorem build_rl0 (w : World) : (Instr.build 39 #[]).run Try.prog w = .ok (.agg #[.int .u32 0, .int .u32 0, .string ⟨#[]⟩, .int .u8 0, .slice none 0 0]) w := by kernel_rfl
theorem colS_nil (w : World) : ColS w (.slice none 0 0) [] := ⟨none, 0, rfl, Nat.le_refl _, Nat.zero_le _, fun _ => rfl, fun x hx => by cases hx⟩

end Go.Proofs.Ytegclfpmgilnpaa
