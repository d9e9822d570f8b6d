/-
  Cells: the program's small answers (types, versions, what is wrong, large, alike).
-/
import Derived.Test.YtcejjckhhdgdnaaCelM
import Derived.Test.YtcejjckhhdgdnaaValE
import Derived.Test.YtcejjckhhdgdnaaValH
import Derived.Deep.MidRow
namespace Go.Proofs.Ytcejjckhhdgdnaa
open Go.RowKit Go.Lac

def pcv (c : Cel) : Array Value := #[.int .u8 (c.k : Nat), .int .u8 (c.v.ty : Nat), .int .i64 c.v.i, .complex .f64 c.v.re c.v.im, strV c.v.t]
def pc (c : Cel) : Value := .agg (pcv c)
def rcv (c : Cel) : Array Value := #[.int .u8 (c.k : Nat), .int .u8 (c.v.ty : Nat), .int .i64 c.v.i, .int .u64 (c.v.re : Nat), .int .u64 (c.v.im : Nat), strV c.v.t]
def rc (c : Cel) : Value := .agg (rcv c)
theorem build61_1 (w : World) (k : Nat) : (Instr.build 135 #[(0, .int .u8 (k : Nat))]).run Try.prog w = .ok (.agg #[.int .u8 (k : Nat), .int .i64 0, .complex .f64 0 0, .string ⟨#[]⟩]) w := by kernel_rfl
theorem build61_0 (w : World) : (Instr.build 135 #[]).run Try.prog w = .ok (.agg #[.int .u8 0, .int .i64 0, .complex .f64 0 0, .string ⟨#[]⟩]) w := by kernel_rfl
theorem load_mid (w : World) (T : TypeId) (b o : Nat) (C : Array Value) (t : TypeId) (cs : Array Value) (d : TypeDesc) (hb : w.heap[b]? = some (.cells C t (0, 0))) (hc : ∀ j v, cs.toList[j]? = some v → C[o + j]? = some v)
    (hu : Try.prog.underlying T = some d) (hd : d.isRow = true) (hi : (Try.prog.info? T).map (·.size) = some cs.size) : (Instr.loadAt T (.pointer (some ⟨b, o, none⟩))).run Try.prog w = .ok (.agg cs) w := by
  have := run_loadAt_mid (P := Try.prog) w b o T cs.toList d (fun j v hv => by rw [cell_of_row w b (o + j) C t _ hb]; exact hc j v hv) hu hd (by simpa using hi)
  simpa using this

theorem vErr_only (k : Nat) : vErr ⟨k, 0, 0, 0, []⟩ = if k < 1 ∨ 6 < k then 11 else 0 := by
  unfold vErr
  by_cases h : k < 1 ∨ 6 < k
  · rw [if_pos h, if_pos h]
  · rw [if_neg h, if_neg h]; simp [plainB]

def fullE (v : Val) (kind : Nat) : Nat := if vErr v ≠ 0 then vErr v else if v.ty ≠ kind then 11 else 0
end Go.Proofs.Ytcejjckhhdgdnaa
