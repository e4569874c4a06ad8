/- The walk of the law WideSolves. -/
import Derived.Test.YtmbbjhlpfgpibaaRec
namespace Go.Proofs.Ytmbbjhlpfgpibaa
open Go.RowKit

theorem wideSolves_law (m y a : Nat) (hm : m < 18446744073709551616) (hy : y < 18446744073709551616) (w : World) :
    Calls Try.prog 10 #[.int .u64 m, .int .u64 y, .int .u64 a] w fun e w' => e = .returned (.bool true) ∧ Below w.heap.size w w' := by
  by_cases h1 : y < a
  · have HS := hid (fun w => solve_sub m y a h1 w)
    go_enter Try.func10, Try.ntmps10
    go_wp2_with (first
      | (go_at_call 25; refine (reckons_any _).mono ?_; rintro e w1 ⟨rfl, hb1⟩)
      | (go_at_call 30; refine (HS.out _).mono ?_; rintro e w' ⟨rfl, rfl⟩))
    go_ret
    exact ⟨rfl, hb1⟩
  · rcases Nat.eq_zero_or_pos m with rfl | hm0
    · have HS := hid (fun w => solve_zero y a hy (by omega) w)
      go_enter Try.func10, Try.ntmps10
      go_wp2_with (first
        | (go_at_call 25; refine (reckons_any _).mono ?_; rintro e w1 ⟨rfl, hb1⟩)
        | (go_at_call 30; refine (HS.out _).mono ?_; rintro e w' ⟨rfl, rfl⟩))
      go_ret
      exact ⟨rfl, hb1⟩
    · have hm1 := beq_no (show (m : Int) ≠ 0 by omega)
      by_cases h2 : (y - a) % m = 0
      · have HS := hid (fun w => solve_ok m y a hy (by omega) hm0 h2 w)
        have e : m * ((y - a) / m) + a = y := by
          rw [Nat.mul_div_cancel' (Nat.dvd_of_mod_eq_zero h2)]; omega
        have hz : (y - a) / m ≤ y - a := Nat.div_le_self _ _
        have HL := hid (fun w => line_ok m ((y - a) / m) a hm (by omega) (by omega) w)
        rw [e] at HL
        have hd : ((y : Int) - a) % m = 0 := by
          rw [show (y : Int) - a = ((y - a : Nat) : Int) by omega, ← Int.natCast_emod, h2]; rfl
        have hd0 : 0 ≤ (y : Int) - a := by omega
        have hd1 : (y : Int) - a ≤ 18446744073709551615 := by omega
        clear e hz h2
        generalize (y - a) / m = q at *
        go_enter Try.func10, Try.ntmps10
        go_wp2_with (first
          | (go_at_call 25; refine (reckons_any _).mono ?_; rintro e w1 ⟨rfl, hb1⟩)
          | (go_at_call 29; refine (HL.out _).mono ?_; rintro e w' ⟨rfl, rfl⟩)
          | (go_at_call 30; refine (HS.out _).mono ?_; rintro e w' ⟨rfl, rfl⟩))
        go_ret
        exact ⟨rfl, hb1⟩
      · have HS := hid (fun w => solve_no m y a hy (by omega) hm0 h2 w)
        have hd : ((y : Int) - a) % m ≠ 0 := by
          rw [show (y : Int) - a = ((y - a : Nat) : Int) by omega, ← Int.natCast_emod]; omega
        have hd0 : 0 ≤ (y : Int) - a := by omega
        have hd1 : (y : Int) - a ≤ 18446744073709551615 := by omega
        have hdb := beq_no hd
        clear h2 hd
        go_enter Try.func10, Try.ntmps10
        go_wp2_with (first
          | (go_at_call 25; refine (reckons_any _).mono ?_; rintro e w1 ⟨rfl, hb1⟩)
          | (go_at_call 30; refine (HS.out _).mono ?_; rintro e w' ⟨rfl, rfl⟩))
        go_ways
        go_ret
        exact ⟨rfl, hb1⟩
end Go.Proofs.Ytmbbjhlpfgpibaa
