/- The walk of the law WideTimes. -/
import Derived.Test.YtmbbjhlpfgpibaaRec
namespace Go.Proofs.Ytmbbjhlpfgpibaa
open Go.RowKit

theorem q_facts (m x : Nat) (hm : 0 < m) : (18446744073709551615 / m < x ↔ 18446744073709551616 ≤ m * x) := by
  rw [Nat.div_lt_iff_lt_mul hm, Nat.mul_comm x m]
  omega

theorem times_zero (x a : Nat) (hx : x < 18446744073709551616) (ha : a < 18446744073709551616) (w : World) :
    Calls Try.prog 9 #[.int .u64 ((0 : Nat) : Int), .int .u64 x, .int .u64 a] w fun e w' => e = .returned (.bool true) ∧ Below w.heap.size w w' := by
  have HM := hid (fun w => mul_ok 0 x (by decide) hx (by rw [Nat.zero_mul]; decide) w)
  have HL := hid (fun w => line_ok 0 x a (by decide) hx (by rw [Nat.zero_mul]; omega) w)
  have HS := hid (fun w => solve_zero a a ha (Nat.le_refl a) w)
  rw [Nat.zero_mul] at HM HL
  rw [Nat.zero_add] at HL
  go_enter Try.func9, Try.ntmps9
  go_wp2_with (first
    | (go_at_call 25; refine (reckons_any _).mono ?_; rintro e w1 ⟨rfl, hb1⟩)
    | (go_at_call 28; refine (HM.out _).mono ?_; rintro e w' ⟨rfl, rfl⟩)
    | (go_at_call 29; refine (HL.out _).mono ?_; rintro e w' ⟨rfl, rfl⟩)
    | (go_at_call 30; refine (HS.out _).mono ?_; rintro e w' ⟨rfl, rfl⟩))
  go_ret
  exact ⟨rfl, hb1⟩

theorem times_mover (m x a : Nat) (hm0 : 0 < m) (hm : m < 18446744073709551616) (hx : x < 18446744073709551616) (h : 18446744073709551616 ≤ m * x) (w : World) :
    Calls Try.prog 9 #[.int .u64 m, .int .u64 x, .int .u64 a] w fun e w' => e = .returned (.bool true) ∧ Below w.heap.size w w' := by
  have HM := hid (fun w => mul_over m x hm hx h w)
  have HL := hid (fun w => line_mover m x a hm hx h w)
  have h1 := (q_facts m x hm0).2 h
  have hq : (18446744073709551615 : Int) / m = ((18446744073709551615 / m : Nat) : Int) := by rw [Int.natCast_ediv]; rfl
  have hql : 18446744073709551615 / m ≤ 18446744073709551615 := Nat.div_le_self _ _
  generalize 18446744073709551615 / m = q at h1 hq hql
  clear h
  go_enter Try.func9, Try.ntmps9
  go_wp2_with (first
    | (go_at_call 25; refine (reckons_any _).mono ?_; rintro e w1 ⟨rfl, hb1⟩)
    | (go_at_call 28; refine (HM.out _).mono ?_; rintro e w' ⟨rfl, rfl⟩)
    | (go_at_call 29; refine (HL.out _).mono ?_; rintro e w' ⟨rfl, rfl⟩))
  go_ret
  exact ⟨rfl, hb1⟩

theorem times_aover (m x a : Nat) (hm0 : 0 < m) (hm : m < 18446744073709551616) (hx : x < 18446744073709551616) (ha : a < 18446744073709551616) (h : m * x < 18446744073709551616) (h2 : 18446744073709551616 ≤ m * x + a) (w : World) :
    Calls Try.prog 9 #[.int .u64 m, .int .u64 x, .int .u64 a] w fun e w' => e = .returned (.bool true) ∧ Below w.heap.size w w' := by
  have HM := hid (fun w => mul_ok m x hm hx h w)
  have HL := hid (fun w => line_aover m x a hm hx ha h h2 w)
  have h1 : ¬ 18446744073709551615 / m < x := fun hh => absurd ((q_facts m x hm0).1 hh) (by omega)
  have hq : (18446744073709551615 : Int) / m = ((18446744073709551615 / m : Nat) : Int) := by rw [Int.natCast_ediv]; rfl
  have hql : 18446744073709551615 / m ≤ 18446744073709551615 := Nat.div_le_self _ _
  generalize 18446744073709551615 / m = q at h1 hq hql
  have hp1 : ((m * x : Nat) : Int) / m = x := by rw [← Int.natCast_ediv, Nat.mul_div_cancel_left _ hm0]
  have hp2 : ((m * x : Nat) : Int) % m = 0 := by rw [← Int.natCast_emod, Nat.mul_mod_right]; rfl
  have hmp : (18446744073709551615 : Int) - ((m * x : Nat) : Int) = ((18446744073709551615 - m * x : Nat) : Int) := by omega
  have hov : 18446744073709551615 - m * x < a := by omega
  have hpl : m * x ≤ 18446744073709551615 := by omega
  clear h h2
  generalize m * x = p at *
  go_enter Try.func9, Try.ntmps9
  go_wp2_with (first
    | (go_at_call 25; refine (reckons_any _).mono ?_; rintro e w1 ⟨rfl, hb1⟩)
    | (go_at_call 28; refine (HM.out _).mono ?_; rintro e w' ⟨rfl, rfl⟩)
    | (go_at_call 29; refine (HL.out _).mono ?_; rintro e w' ⟨rfl, rfl⟩))
  go_ret
  exact ⟨rfl, hb1⟩

theorem times_ok (m x a : Nat) (hm0 : 0 < m) (hm : m < 18446744073709551616) (hx : x < 18446744073709551616) (h2 : m * x + a < 18446744073709551616) (w : World) :
    Calls Try.prog 9 #[.int .u64 m, .int .u64 x, .int .u64 a] w fun e w' => e = .returned (.bool true) ∧ Below w.heap.size w w' := by
  have HM := hid (fun w => mul_ok m x hm hx (by omega) w)
  have HL := hid (fun w => line_ok m x a hm hx h2 w)
  have HS := hid (fun w => solve_ok m (m * x + a) a h2 (by omega) hm0 (by rw [Nat.add_sub_cancel, Nat.mul_mod_right]) w)
  rw [Nat.add_sub_cancel, Nat.mul_div_cancel_left _ hm0] at HS
  have h1 : ¬ 18446744073709551615 / m < x := fun hh => absurd ((q_facts m x hm0).1 hh) (by omega)
  have hq : (18446744073709551615 : Int) / m = ((18446744073709551615 / m : Nat) : Int) := by rw [Int.natCast_ediv]; rfl
  have hql : 18446744073709551615 / m ≤ 18446744073709551615 := Nat.div_le_self _ _
  generalize 18446744073709551615 / m = q at h1 hq hql
  have hp1 : ((m * x : Nat) : Int) / m = x := by rw [← Int.natCast_ediv, Nat.mul_div_cancel_left _ hm0]
  have hp2 : ((m * x : Nat) : Int) % m = 0 := by rw [← Int.natCast_emod, Nat.mul_mod_right]; rfl
  have hmp : (18446744073709551615 : Int) - ((m * x : Nat) : Int) = ((18446744073709551615 - m * x : Nat) : Int) := by omega
  have hov : ¬ 18446744073709551615 - m * x < a := by omega
  have hpl : m * x ≤ 18446744073709551615 := by omega
  have hal : a ≤ 18446744073709551615 := by omega
  clear h2
  generalize m * x = p at *
  go_enter Try.func9, Try.ntmps9
  go_wp2_with (first
    | (go_at_call 25; refine (reckons_any _).mono ?_; rintro e w1 ⟨rfl, hb1⟩)
    | (go_at_call 28; refine (HM.out _).mono ?_; rintro e w' ⟨rfl, rfl⟩)
    | (go_at_call 29; refine (HL.out _).mono ?_; rintro e w' ⟨rfl, rfl⟩)
    | (go_at_call 30; refine (HS.out _).mono ?_; rintro e w' ⟨rfl, rfl⟩))
  go_ret
  exact ⟨rfl, hb1⟩

theorem wideTimes_law (m x a : Nat) (hm : m < 18446744073709551616) (hx : x < 18446744073709551616) (ha : a < 18446744073709551616) (w : World) :
    Calls Try.prog 9 #[.int .u64 m, .int .u64 x, .int .u64 a] w fun e w' => e = .returned (.bool true) ∧ Below w.heap.size w w' := by
  rcases Nat.eq_zero_or_pos m with rfl | hm0
  · exact times_zero x a hx ha w
  · by_cases h : 18446744073709551616 ≤ m * x
    · exact times_mover m x a hm0 hm hx h w
    · by_cases h2 : 18446744073709551616 ≤ m * x + a
      · exact times_aover m x a hm0 hm hx ha (by omega) h2 w
      · exact times_ok m x a hm0 hm hx (by omega) w
end Go.Proofs.Ytmbbjhlpfgpibaa
