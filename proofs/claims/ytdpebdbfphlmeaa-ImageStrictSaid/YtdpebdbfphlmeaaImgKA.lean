/-
  Images: Right (the program's). MADE BY mkImgK.py
-/
import Derived.Test.YtdpebdbfphlmeaaImgK40
import Derived.Test.YtdpebdbfphlmeaaImgK4n
import Derived.Test.YtdpebdbfphlmeaaImgK50
import Derived.Test.YtdpebdbfphlmeaaImgK5n
import Derived.Test.YtdpebdbfphlmeaaImgK60
import Derived.Test.YtdpebdbfphlmeaaImgK6n
import Derived.Test.YtdpebdbfphlmeaaImgKX
namespace Go.Proofs.Ytdpebdbfphlmeaa
open Go.RowKit Go.Lac

theorem right_any (r : Rl) (cv vb va : Value) (k o : Nat) (b a : List Cel) (w : World) (hb : ColS w cv r.cols) (hf : r.fits) (hl : r.cols.length ≤ 1000000) (hvb : PcS w vb b) (hva : PcS w va a) (hla : a.length ≤ 100000) :
    Calls Try.prog 20 #[.agg (relv r cv), .int .u8 (k : Nat), .int .u8 (o : Nat), vb, va] w fun e w' => e = .returned (.int .i64 (rightE r k o b a : Nat)) ∧ Ext w w' := by
  rcases (show k = 4 ∨ k = 5 ∨ k = 6 ∨ (k ≠ 4 ∧ k ≠ 5 ∧ k ≠ 6) by omega) with h | h | h | h
  · subst h
    by_cases ho : o = 0
    · subst ho; exact right40_any r cv vb va b a w hb hf hl hvb hva hla
    · exact right4n_any r cv vb va o b a w hb hf hl hvb hva hla ho
  · subst h
    by_cases ho : o = 0
    · subst ho; exact right50_any r cv vb va b a w hb hf hl hvb hva hla
    · exact right5n_any r cv vb va o b a w hb hf hl hvb hva hla ho
  · subst h
    by_cases ho : o = 0
    · subst ho; exact right60_any r cv vb va b a w hb hf hl hvb hva hla
    · exact right6n_any r cv vb va o b a w hb hf hl hvb hva hla ho
  · exact rightX_any r cv vb va k o b a w hb hf hl hvb hva hla h
end Go.Proofs.Ytdpebdbfphlmeaa
