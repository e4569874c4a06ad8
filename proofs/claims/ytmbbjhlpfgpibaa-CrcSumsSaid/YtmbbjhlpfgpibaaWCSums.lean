/- The walk of the law CrcSums. -/
import Derived.Test.YtmbbjhlpfgpibaaChk
import Derived.Test.YtmbbjhlpfgpibaaRSum
namespace Go.Proofs.Ytmbbjhlpfgpibaa
open Go.RowKit

set_option maxRecDepth 8000 in
theorem crcSums_law {w : World} {A : Option Addr} {n c : Nat} {l : List UInt8} (hR : RdB w A n l) (hn : n ≤ 9223372036854775807) :
    Calls Try.prog 3 #[.slice A n c] w fun e w' => e = .returned (.bool true) ∧ Below w.heap.size w w' := by
  by_cases h300 : 300 < n
  · have d0 : decide ((300 : Int) < n) = true := by simp; omega
    go_enter Try.func3, Try.ntmps3
    go_wp2_with (go_at_call 15; refine (checks_any _).mono ?_; rintro e w1 ⟨rfl, hb1⟩)
    go_ret
    exact ⟨rfl, hb1⟩
  have d0 : decide ((300 : Int) < n) = false := by simp; omega
  go_enter Try.func3, Try.ntmps3
  go_wp2_with (go_at_call 15; refine (checks_any _).mono ?_; rintro e w1 ⟨rfl, hb1⟩)
  have hT := hid (tab_new w1)
  have hb2 := hid (hb1.alloc hb1.size (.cells Try.zeroCells45 45))
  have hR2 := hid ((hR.below hb1).alloc (.cells Try.zeroCells45 45))
  have hs1 := hb1.size
  clear hb1
  generalize w1.alloc (.cells Try.zeroCells45 45) = w2 at *
  refine (of_any hT.out hR2.out hn (by omega)).mono ?_
  rintro e w3 ⟨rfl, hT3, hC3⟩
  have hR3 := hid (hR2.out.chg hC3 (fun h0 a ha e => hT.out.ne hR2.out h0 a ha e))
  have hb3 := hid (Chg.below hb2.out hC3 hb2.out.size (fun j hj => by omega))
  clear hT hb2 hR2 hT3 hC3
  go_wp2_with fail
  refine (refsum_any hR3.out (by omega)).mono ?_
  rintro e w4 ⟨rfl, hb4⟩
  go_wp2
  go_ret
  exact ⟨rfl, hb3.out.trans (hb4.mono hb3.out.size)⟩
end Go.Proofs.Ytmbbjhlpfgpibaa
