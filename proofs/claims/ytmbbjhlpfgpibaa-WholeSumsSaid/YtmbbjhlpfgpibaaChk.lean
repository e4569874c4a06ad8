/- The helper 'checks' of the third layer's laws. -/
import Derived.Test.YtmbbjhlpfgpibaaOf
import Derived.Lib.SlBytesConst
namespace Go.Proofs.Ytmbbjhlpfgpibaa
open Go.RowKit

theorem tab_new (w : World) : Tab (w.alloc (.cells Try.zeroCells45 45)) w.heap.size false 0 := tab_fresh w _ (by kernel_rfl)

theorem nine_sum : crcN [49, 50, 51, 52, 53, 54, 55, 56, 57] = 3421780262 := by decide +kernel

theorem rdB_marked (w : World) (l : List UInt8) (t : TypeId) (fr : Nat × Nat) : RdB (w.alloc (.cells (l.map isB).toArray t fr)) (some ⟨w.heap.size, 0, none⟩) l.length l :=
  ⟨rfl, fun _ => ⟨w.heap.size, 0, rfl, by simp, fun j hj => by
    have h := cell_of_row (w.alloc (.cells (l.map isB).toArray t fr)) w.heap.size (0 + j) (l.map isB).toArray t fr (heap_alloc_new w _)
    rw [h, Nat.zero_add]
    simp [hj, isB]⟩⟩

set_option maxRecDepth 8000 in
set_option maxHeartbeats 1000000 in
theorem checks_any (w : World) : Calls Try.prog 15 #[] w fun e w' => e = .returned (.bool true) ∧ Below w.heap.size w w' := by
  have hT := hid (tab_new w)
  have hb0 := hid ((Below.refl w.heap.size w).alloc (Nat.le_refl _) (.cells Try.zeroCells45 45))
  have hcv := fun (w : World) (C : Array Value) (n c : Nat) => Lib.run_convert_bytes_const (P := Try.prog) w 22 5 C n c Try.underlying22 Try.underlying5
  go_enter Try.func15, Try.ntmps15
  go_wp2_with fail
  have hsz : w.heap.size < (w.alloc (.cells Try.zeroCells45 45)).heap.size := by simp
  generalize w.alloc (.cells Try.zeroCells45 45) = w1 at *
  refine (made_any hT.out).mono ?_
  rintro e w' ⟨rfl, rfl⟩
  simp only [Bool.false_eq_true, if_false]
  go_wp2_with fail
  have hb1 := hid (hb0.out.alloc (by omega) (.cells ([49, 50, 51, 52, 53, 54, 55, 56, 57].map isB).toArray 5 (9, 10)))
  have hR : RdB (w1.alloc (.cells ([49, 50, 51, 52, 53, 54, 55, 56, 57].map isB).toArray 5 (9, 10))) (some ⟨w1.heap.size, 0, none⟩) 9 [49, 50, 51, 52, 53, 54, 55, 56, 57] :=
    rdB_marked w1 _ _ _
  have hT1 := hid (hT.out.alloc (.cells ([49, 50, 51, 52, 53, 54, 55, 56, 57].map isB).toArray 5 (9, 10)))
  have HR := hid hR
  clear hT hb0 hR
  trace_state
  change Calls _ _ _ (w1.alloc (.cells ([49, 50, 51, 52, 53, 54, 55, 56, 57].map isB).toArray 5 (9, 10))) _
  generalize w1.alloc (.cells ([49, 50, 51, 52, 53, 54, 55, 56, 57].map isB).toArray 5 (9, 10)) = w2 at *
  refine (of_any hT1.out HR.out (by decide) (by decide)).mono ?_
  rintro e w3 ⟨rfl, hT3, hC3⟩
  rw [nine_sum]
  have hb3 := hid (Chg.below hb1.out hC3 (by have := hb1.out.size; omega) (fun j hj => by omega))
  have HT3 := hid hT3
  clear hT3 hC3 hb1 HR hT1
  go_wp2_with fail
  refine (made_any HT3.out).mono ?_
  rintro e w' ⟨rfl, rfl⟩
  simp only [if_true]
  go_wp2_with fail
  refine (bytes_any HT3.out).mono ?_
  rintro e w' ⟨rfl, rfl⟩
  go_wp2_with fail
  refine (start_any _).mono ?_
  rintro e w4 ⟨rfl, hb4⟩
  go_wp2_with fail
  refine (value_any _ _).mono ?_
  rintro e w5 ⟨rfl, hb5⟩
  have HJ := hid (fun w => join_none 3421780262 0 0 (Int.le_refl 0) w)
  go_wp2_with fail
  refine (HJ.out _).mono ?_
  rintro e w' ⟨rfl, rfl⟩
  go_wp2
  go_ret
  exact ⟨rfl, (hb3.out.trans (hb4.mono hb3.out.size)).trans (hb5.mono (by have := hb3.out.size; have := hb4.size; omega))⟩
end Go.Proofs.Ytmbbjhlpfgpibaa
