/- class: Len. -/
import Derived.Test.YtimffgmbchpfeaaCls2
namespace Go.Proofs.Ytimffgmbchpfeaa
open Go.RowKit

theorem rep85 : rep8 85 8 = 6148914691236517205 := by decide
theorem rep51 : rep8 51 8 = 3689348814741910323 := by decide
theorem rep15 : rep8 15 8 = 1085102592571150095 := by decide
theorem wrap_u64_nat (x : Nat) (h : x < 18446744073709551616) : IntKind.u64.wrap (x : Int) = (x : Int) := by rw [IntKind.wrap_u64]; omega
theorem and_le_r (x m : Nat) : x &&& m ≤ m := Nat.and_le_right
end Go.Proofs.Ytimffgmbchpfeaa
