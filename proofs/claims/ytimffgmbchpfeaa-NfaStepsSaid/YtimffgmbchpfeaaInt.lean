/- wide: Int. -/
import Derived.Test.YtimffgmbchpfeaaWd
namespace Go.Proofs.Ytimffgmbchpfeaa
open Go.RowKit

theorem int_neg (n : Nat) (m : Int) (h : m < 0) (w : World) :
    Calls Try.prog 67 #[.int .u64 n, .int .i64 m] w fun e w' => e = .returned (.tuple #[.int .i64 0, .int .i64 40]) ∧ w = w' := by
  go_enter Try.func67, Try.ntmps67
  go_wp2
  go_ret2
  exact ⟨rfl, rfl⟩
theorem int_over (n : Nat) (m : Nat) (hm : m ≤ 9223372036854775807) (h : m < n) (w : World) :
    Calls Try.prog 67 #[.int .u64 n, .int .i64 m] w fun e w' => e = .returned (.tuple #[.int .i64 0, .int .i64 40]) ∧ w = w' := by
  go_enter Try.func67, Try.ntmps67
  go_wp2
  go_ret2
  exact ⟨rfl, rfl⟩
theorem int_ok (n : Nat) (m : Nat) (hm : m ≤ 9223372036854775807) (h : n ≤ m) (w : World) :
    Calls Try.prog 67 #[.int .u64 n, .int .i64 m] w fun e w' => e = .returned (.tuple #[.int .i64 n, .int .i64 0]) ∧ w = w' := by
  go_enter Try.func67, Try.ntmps67
  go_wp2
  go_ret2
  exact ⟨rfl, rfl⟩

/-- The value of an expression: as its name is none or some. -/
def isE (name : ByteArray) (m a : Nat) : Value := .agg #[.string name, .int .u64 m, .int .u64 a]
end Go.Proofs.Ytimffgmbchpfeaa
