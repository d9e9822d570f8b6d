/-
  Images: Right (the document's). MADE BY mkImgP.py
-/
import Derived.Test.YtdpebdbfphlmeaaImgP4
import Derived.Test.YtdpebdbfphlmeaaImgP5
import Derived.Test.YtdpebdbfphlmeaaImgP6
import Derived.Test.YtdpebdbfphlmeaaImgPX
namespace Go.Proofs.Ytdpebdbfphlmeaa
open Go.RowKit Go.Lac

theorem rright12_any (r : Rl) (cv vb va : Value) (k o : Nat) (b a : List Cel) (w : World) (hb : ColS w cv r.cols) (hf : r.fits) (hl : r.cols.length ≤ 1000000) (hvb : RcS w vb b) (hva : RcS w va a) (hla : a.length ≤ 100000) :
    Calls Try.prog 21 #[.agg (relv r cv), .int .u8 (k : Nat), .int .u8 (o : Nat), vb, va] w fun e w' => e = .returned (.int .i64 (rightE r k o b a : Nat)) ∧ Ext w w' := by
  rcases (show k = 4 ∨ k = 5 ∨ k = 6 ∨ (k ≠ 4 ∧ k ≠ 5 ∧ k ≠ 6) by omega) with h | h | h | h
  · subst h
    rcases (show o = 0 ∨ o = 1 ∨ o = 2 ∨ 2 < o by omega) with h | h | h | h
    · subst h; exact rr40_any r cv vb va b a w hb hf hl hvb hva hla
    · subst h; exact rr41_any r cv vb va b a w hb hf hl hvb hva hla
    · subst h; exact rr42_any r cv vb va b a w hb hf hl hvb hva hla
    · exact rr4x_any r cv vb va o b a w hb hf hl hvb hva hla h
  · subst h
    rcases (show o = 0 ∨ o = 1 ∨ o = 2 ∨ 2 < o by omega) with h | h | h | h
    · subst h; exact rr50_any r cv vb va b a w hb hf hl hvb hva hla
    · subst h; exact rr51_any r cv vb va b a w hb hf hl hvb hva hla
    · subst h; exact rr52_any r cv vb va b a w hb hf hl hvb hva hla
    · exact rr5x_any r cv vb va o b a w hb hf hl hvb hva hla h
  · subst h
    rcases (show o = 0 ∨ o = 1 ∨ o = 2 ∨ 2 < o by omega) with h | h | h | h
    · subst h; exact rr60_any r cv vb va b a w hb hf hl hvb hva hla
    · subst h; exact rr61_any r cv vb va b a w hb hf hl hvb hva hla
    · subst h; exact rr62_any r cv vb va b a w hb hf hl hvb hva hla
    · exact rr6x_any r cv vb va o b a w hb hf hl hvb hva hla h
  · exact rrX_any r cv vb va k o b a w hb hf hl hvb hva hla h
end Go.Proofs.Ytdpebdbfphlmeaa
