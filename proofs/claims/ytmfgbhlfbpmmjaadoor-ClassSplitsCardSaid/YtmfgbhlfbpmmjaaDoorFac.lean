/- class: what is plain of digits. -/
import Derived.Test.YtmfgbhlfbpmmjaaDoorSplit
import Derived.Test.YtmfgbhlfbpmmjaaDoorText2
namespace Go.Proofs.YtmfgbhlfbpmmjaaDoor
open Go.RowKit
def dig : BS := rng 48 57
set_option maxRecDepth 100000
theorem dig_first : firstN dig = 48 := by kernel_rfl
theorem dig_ne : decide (dig = 0#256) = false := by kernel_rfl
theorem dig_len : (bytesOf dig).length = 10 := by kernel_rfl
theorem dig_has5 : has dig 53 = true := by kernel_rfl
theorem dig_hasa : has dig 97 = false := by kernel_rfl
theorem dig_not : (bytesOf (~~~dig)).length = 246 := by kernel_rfl
theorem dig_and : dig &&& ~~~dig = 0#256 := by kernel_rfl
theorem dig_or : dig ||| ~~~dig = ~~~(0#256) := by kernel_rfl
theorem dig_text : textL dig = [91, 48, 45, 57, 93] := by kernel_rfl
theorem all_text : textL (~~~(0#256)) = [46] := by kernel_rfl
theorem slash_name : nameL 47 = [92, 120, 50, 102] := by kernel_rfl
theorem dig_split : (pieceS [dig]).length = 2 := by kernel_rfl
end Go.Proofs.YtmfgbhlfbpmmjaaDoor
