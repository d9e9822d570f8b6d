/-
  Values: the document's as the program's, and back.
-/
import Derived.Test.YtcejjckhhdgdnaaValC
namespace Go.Proofs.Ytcejjckhhdgdnaa
open Go.RowKit Go.Lac

theorem build61 (w : World) (k : Nat) (n : Int) (re im : Nat) (A : ByteArray) : (Instr.build 135 #[(0, .int .u8 (k : Nat)), (1, .int .i64 n), (2, .complex .f64 re im), (3, .string A)]).run Try.prog w = .ok (.agg #[.int .u8 (k : Nat), .int .i64 n, .complex .f64 re im, .string A]) w := by kernel_rfl

section
variable {P : Program} {ρ : Operand → Value} {o : Oper} {w : World} {T : Tmp → Kn} {d : Tmp} {t : TypeId}
theorem Exec.kbuild4 {x y z u : Operand} {vx vy vz vu r : Value} (ho : o.op = .build t #[(0, x), (1, y), (2, z), (3, u)]) (hd : o.dst = some d) (hx : ρ x = vx) (hy : ρ y = vy) (hz : ρ z = vz) (hu : ρ u = vu) (hr : (Instr.build t #[(0, vx), (1, vy), (2, vz), (3, vu)]).run P w = .ok r w) (hv : (T d).holds r w) :
    Exec P ρ o w fun v w' => (∀ d, o.dst = some d → knV T d v w') ∧ Ext w w' :=
  Exec.same hd (by unfold execOp; rw [ho]; simp only [List.map_toArray, List.map_cons, List.map_nil, hx, hy, hz, hu, Sem.run_bind, hr, Result.andThen_ok, Sem.run_pure]) hv
theorem Exec.kbuild1 {x : Operand} {vx r : Value} (ho : o.op = .build t #[(0, x)]) (hd : o.dst = some d) (hx : ρ x = vx) (hr : (Instr.build t #[(0, vx)]).run P w = .ok r w) (hv : (T d).holds r w) :
    Exec P ρ o w fun v w' => (∀ d, o.dst = some d → knV T d v w') ∧ Ext w w' :=
  Exec.same hd (by unfold execOp; rw [ho]; simp only [List.map_toArray, List.map_cons, List.map_nil, hx, Sem.run_bind, hr, Result.andThen_ok, Sem.run_pure]) hv
end

def ownLT (g k : Nat) (n : Int) (re im : Nat) (A : ByteArray) : Tmp → Kn
  | 3 => .is (.pointer (some ⟨g, 0, none⟩))
  | 4 => .is (.int .u8 (k : Nat))
  | 5 => .is (.pointer (some ⟨g, 1, none⟩))
  | 6 => .is (.int .i64 n)
  | 7 => .is (.pointer (some ⟨g, 2, none⟩))
  | 8 => .is (.int .u64 (re : Nat))
  | 9 => .is (.pointer (some ⟨g, 3, none⟩))
  | 10 => .is (.int .u64 (im : Nat))
  | 11 => .is (.complex .f64 re im)
  | 12 => .is (.pointer (some ⟨g, 4, none⟩))
  | 13 => .is (.string A)
  | 14 => .is (.agg #[.int .u8 (k : Nat), .int .i64 n, .complex .f64 re im, .string A])
  | _ => .any

theorem ownLT_pure (g k : Nat) (n : Int) (re im : Nat) (A : ByteArray) (d : Tmp) : (ownLT g k n re im A d).pure := by
  unfold ownLT
  split <;> first | exact Kn.is_pure _ | exact Kn.any_pure

end Go.Proofs.Ytcejjckhhdgdnaa
