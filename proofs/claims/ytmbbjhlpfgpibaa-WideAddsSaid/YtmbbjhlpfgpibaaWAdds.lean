/- The walk of the law WideAdds. -/
import Derived.Test.YtmbbjhlpfgpibaaRec
namespace Go.Proofs.Ytmbbjhlpfgpibaa
open Go.RowKit

theorem wideAdds_law (a b : Nat) (ha : a < 18446744073709551616) (hb : b < 18446744073709551616) (w : World) :
    Calls Try.prog 8 #[.int .u64 a, .int .u64 b] w fun e w' => e = .returned (.bool true) ∧ Below w.heap.size w w' := by
  have hm : (18446744073709551615 : Int) - b = ((18446744073709551615 - b : Nat) : Int) := by omega
  by_cases h1 : 18446744073709551616 ≤ a + b
  · have HA := hid (fun w => add_over a b ha hb h1 w)
    have d1 : 18446744073709551615 - b < a := by omega
    by_cases h2 : a < b
    · have HS := hid (fun w => sub_over a b h2 w)
      go_enter Try.func8, Try.ntmps8
      go_wp2_with (first
        | (go_at_call 25; refine (reckons_any _).mono ?_; rintro e w1 ⟨rfl, hb1⟩)
        | (go_at_call 26; refine (HA.out _).mono ?_; rintro e w' ⟨rfl, rfl⟩)
        | (go_at_call 27; refine (HS.out _).mono ?_; rintro e w' ⟨rfl, rfl⟩))
      go_ret
      exact ⟨rfl, hb1⟩
    · have HS := hid (fun w => sub_ok a b ha (by omega) w)
      obtain ⟨c, rfl⟩ : ∃ c, a = b + c := ⟨a - b, by omega⟩
      rw [Nat.add_sub_cancel_left] at HS
      have h3 : c ≤ 18446744073709551615 := by omega
      go_enter Try.func8, Try.ntmps8
      go_wp2_with (first
        | (go_at_call 25; refine (reckons_any _).mono ?_; rintro e w1 ⟨rfl, hb1⟩)
        | (go_at_call 26; refine (HA.out _).mono ?_; rintro e w' ⟨rfl, rfl⟩)
        | (go_at_call 27; refine (HS.out _).mono ?_; rintro e w' ⟨rfl, rfl⟩))
      go_ret
      exact ⟨rfl, hb1⟩
  · have HA := hid (fun w => add_ok a b (by omega) w)
    have d1 : ¬ 18446744073709551615 - b < a := by omega
    by_cases h2 : a < b
    · have HS := hid (fun w => sub_over a b h2 w)
      go_enter Try.func8, Try.ntmps8
      go_wp2_with (first
        | (go_at_call 25; refine (reckons_any _).mono ?_; rintro e w1 ⟨rfl, hb1⟩)
        | (go_at_call 26; refine (HA.out _).mono ?_; rintro e w' ⟨rfl, rfl⟩)
        | (go_at_call 27; refine (HS.out _).mono ?_; rintro e w' ⟨rfl, rfl⟩))
      go_ret
      exact ⟨rfl, hb1⟩
    · have HS := hid (fun w => sub_ok a b ha (by omega) w)
      obtain ⟨c, rfl⟩ : ∃ c, a = b + c := ⟨a - b, by omega⟩
      rw [Nat.add_sub_cancel_left] at HS
      have h3 : c ≤ 18446744073709551615 := by omega
      go_enter Try.func8, Try.ntmps8
      go_wp2_with (first
        | (go_at_call 25; refine (reckons_any _).mono ?_; rintro e w1 ⟨rfl, hb1⟩)
        | (go_at_call 26; refine (HA.out _).mono ?_; rintro e w' ⟨rfl, rfl⟩)
        | (go_at_call 27; refine (HS.out _).mono ?_; rintro e w' ⟨rfl, rfl⟩))
      go_ret
      exact ⟨rfl, hb1⟩
end Go.Proofs.Ytmbbjhlpfgpibaa
