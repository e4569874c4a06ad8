/- spec: the laws' own error of a type by itself is the code's. -/
import Derived.Test.YtbhfkgaenahchaaSpWr1
import Derived.Test.YtbhfkgaenahchaaSpWr2
import Derived.Test.YtbhfkgaenahchaaSpWr3
import Derived.Test.YtbhfkgaenahchaaSpWr4
import Derived.Test.YtbhfkgaenahchaaSpWr5
namespace Go.Proofs.Ytbhfkgaenahchaa
set_option linter.unusedSimpArgs false
set_option linter.unusedVariables false
open Go.RowKit

theorem wrong_any (x : NV) (w : World) : Calls Try.prog 9 #[x.val] w fun e w' => e = .returned (.int .i64 (ckV x : Nat)) ∧ Below w.heap.size w w' := by
  by_cases h0 : x.t.k < 1
  · exact wrong_lo x w h0
  by_cases h14 : 13 < x.t.k
  · exact wrong_hi x w h14
  have hc : x.t.k = 1 ∨ x.t.k = 2 ∨ x.t.k = 3 ∨ x.t.k = 4 ∨ x.t.k = 5 ∨ x.t.k = 6 ∨ x.t.k = 7 ∨ x.t.k = 8 ∨ x.t.k = 9 ∨ x.t.k = 10 ∨ x.t.k = 11 ∨ x.t.k = 12 ∨ x.t.k = 13 := by omega
  rcases hc with h | h | h | h | h | h | h | h | h | h | h | h | h
  · by_cases w1 : x.t.wd < 1
    · exact wrong_1_lo x w h w1
    by_cases w8 : 8 < x.t.wd
    · exact wrong_1_hi x w h w8
    have hw : x.t.wd = 1 ∨ x.t.wd = 2 ∨ x.t.wd = 3 ∨ x.t.wd = 4 ∨ x.t.wd = 5 ∨ x.t.wd = 6 ∨ x.t.wd = 7 ∨ x.t.wd = 8 := by omega
    rcases hw with h2 | h2 | h2 | h2 | h2 | h2 | h2 | h2
    · exact wrong_1_1 x w h h2
    · exact wrong_1_2 x w h h2
    · exact wrong_1_3 x w h h2
    · exact wrong_1_4 x w h h2
    · exact wrong_1_5 x w h h2
    · exact wrong_1_6 x w h h2
    · exact wrong_1_7 x w h h2
    · exact wrong_1_8 x w h h2
  · exact wrong_2 x w h
  · exact wrong_3 x w h
  · exact wrong_4 x w h
  · exact wrong_5 x w h
  · exact wrong_6 x w h
  · exact wrong_7 x w h
  · exact wrong_8 x w h
  · exact wrong_9 x w h
  · exact wrong_10 x w h
  · exact wrong_11 x w h
  · exact wrong_12 x w h
  · exact wrong_13 x w h
end Go.Proofs.Ytbhfkgaenahchaa
