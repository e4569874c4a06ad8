/- wide.Digits. -/
import Derived.Test.YtimffgmbchpfeaaWd
import Derived.Test.YtimffgmbchpfeaaDMath
import Derived.Test.YtimffgmbchpfeaaMem
import Derived.Deep.Cut
namespace Go.Proofs.Ytimffgmbchpfeaa
open Go.RowKit

/-- The digits' row behind k rounds. -/
def digRow (n k : Nat) : List UInt8 := List.replicate (20 - k) 0 ++ lastD n k
theorem digRow_len (n k : Nat) (h : k ≤ 20) : (digRow n k).length = 20 := by simp [digRow, lastD_len]; omega
theorem digRow_set (n k : Nat) (h : k < 20) : (digRow n k).set (19 - k) (UInt8.ofNat (48 + n / 10 ^ k % 10)) = digRow n (k + 1) := by
  unfold digRow
  rw [show 20 - k = (19 - k) + 1 by omega, show 20 - (k + 1) = 19 - k by omega, List.replicate_succ']
  rw [List.append_assoc, List.set_append_right _ _ (by simp)]
  simp [lastD]
theorem digRow_drop (n k : Nat) : (digRow n k).drop (20 - k) = lastD n k := by
  unfold digRow
  rw [List.drop_append_of_le_length (by simp)]
  simp

theorem isB_dig (n k : Nat) : isB (UInt8.ofNat (48 + n / 10 ^ k % 10)) = .int .u8 (48 + (n : Int) / 10 ^ k % 10) := by
  unfold isB
  rw [dig_nat _ (Nat.mod_lt _ (by decide))]
  simp

theorem rdB_tail {w : World} {g : Nat} {t : TypeId} {l : List UInt8} (h : Blk w g t (l.map isB)) (m : Nat) (_hm : m ≤ l.length) : RdB w (some ⟨g, m, none⟩) (l.length - m) (l.drop m) := by
  refine ⟨by simp, fun _ => ⟨g, m, rfl, h.lt, fun j hj => ?_⟩⟩
  rw [h.at]
  have : m + j < l.length := by simp at hj; omega
  simp [this, isB]
end Go.Proofs.Ytimffgmbchpfeaa
