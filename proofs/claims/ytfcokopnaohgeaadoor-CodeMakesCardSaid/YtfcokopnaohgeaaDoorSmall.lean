/- Two small facts that many walks use. -/
import Derived.Test.YtfcokopnaohgeaaDoorBase
namespace Go.Proofs.YtfcokopnaohgeaaDoor
theorem ret_int {k : IntKind} {a b : Int} (h : a = b) : Ending.returned (.int k a) = .returned (.int k b) := by rw [h]
theorem beq_no {a b : Int} (h : a ≠ b) : (a == b) = false := by simpa using h
end Go.Proofs.YtfcokopnaohgeaaDoor
