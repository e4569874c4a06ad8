/- lex: the reference's Front. -/
import Derived.Test.YtmefllfmcjjbaaaLxV
import Derived.Test.YtmefllfmcjjbaaaLxVa
import Derived.Test.YtmefllfmcjjbaaaLxVb
namespace Go.Proofs.Ytmefllfmcjjbaaa
open Go.RowKit
set_option linter.unusedSimpArgs false
set_option linter.unusedVariables false

theorem front_ref (s : ByteArray) (hsz : s.size ≤ 65536) (h0 : 0 < s.size) (w : World) : Calls Try.prog 19 #[.string s] w (FrR (front s.data.toList) w) := by
  cases hs : s.data.toList with
  | nil =>
    have : s.data.toList.length = s.size := rfl
    rw [hs] at this
    simp at this
    omega
  | cons c t =>
    rw [front_cons]
    cases hl : letN c.toNat with
    | true => rw [if_pos rfl]; exact fr_name s c t hs hsz hl w
    | false =>
      rw [if_neg (by decide)]
      cases hd : digN c.toNat with
      | true => rw [if_pos rfl]; exact fr_num s c t hs hsz hl hd w
      | false =>
        rw [if_neg (by decide)]
        by_cases h47 : c.toNat = 47
        · rw [if_pos h47]; exact fr_pat s c t hs hsz hl hd h47 w
        · rw [if_neg h47]; exact fr_sign s c t hs hsz hl hd h47 w
end Go.Proofs.Ytmefllfmcjjbaaa
