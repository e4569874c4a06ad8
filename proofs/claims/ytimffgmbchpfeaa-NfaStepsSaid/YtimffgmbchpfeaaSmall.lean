/- Two small facts that many walks use. -/
import Derived.Test.YtimffgmbchpfeaaBase
namespace Go.Proofs.Ytimffgmbchpfeaa
theorem ret_int {k : IntKind} {a b : Int} (h : a = b) : Ending.returned (.int k a) = .returned (.int k b) := by rw [h]
theorem beq_no {a b : Int} (h : a ≠ b) : (a == b) = false := by simpa using h
end Go.Proofs.Ytimffgmbchpfeaa
