/- Two small facts that many walks use. -/
import Derived.Test.YtoiegkejkahfgaaDoorBase
namespace Go.Proofs.YtoiegkejkahfgaaDoor
set_option linter.unusedVariables false
set_option linter.unusedSimpArgs false
theorem ret_int {k : IntKind} {a b : Int} (h : a = b) : Ending.returned (.int k a) = .returned (.int k b) := by rw [h]
theorem beq_no {a b : Int} (h : a ≠ b) : (a == b) = false := by simpa using h
end Go.Proofs.YtoiegkejkahfgaaDoor
