/- wide: numbers that may be too great. -/
import Derived.Test.YtimffgmbchpfeaaSmall
import Derived.Laws.Externs
import Derived.Laws.Bits64b
import Derived.Lib.Mul64
namespace Go.Proofs.Ytimffgmbchpfeaa
open Go.RowKit

theorem ret_two {k : IntKind} {a b : Int} {e : Value} (h : a = b) : Ending.returned (.tuple #[.int k a, e]) = .returned (.tuple #[.int k b, e]) := by rw [h]

theorem add64_run (x y : Nat) (w : World) : (callFunc 76 #[.int .u64 x, .int .u64 y, .int .u64 0]).run Try.prog w =
    .ok (.value (.tuple #[.int .u64 ((x + y : Int) % 18446744073709551616), .int .u64 ((x + y : Int) / 18446744073709551616)])) w := by
  have h := run_add64 (P := Try.prog) (x : Int) (y : Int) 0 (by omega) (by omega) (by omega) (by omega) (w := w)
  rw [run_callFunc_extern Try.func76 (by kernel_rfl) (by kernel_rfl) (by kernel_rfl) (e := add64Entry) (by kernel_rfl), h]
  simp only [Result.andThen, Int.add_zero]

theorem add_ok (x y : Nat) (h : x + y < 18446744073709551616) (w : World) :
    Calls Try.prog 74 #[.int .u64 x, .int .u64 y] w fun e w' => e = .returned (.tuple #[.int .u64 ((x + y : Nat) : Int), .int .i64 0]) ∧ w = w' := by
  have h1 : ((x : Int) + y) % 18446744073709551616 = ((x + y : Nat) : Int) := by omega
  have h2 : ((x : Int) + y) / 18446744073709551616 = 0 := by omega
  have hr := add64_run x y
  rw [h1, h2] at hr
  clear h1 h2
  go_enter Try.func74, Try.ntmps74
  go_wp2
  go_ret2
  exact ⟨rfl, rfl⟩

theorem add_over (x y : Nat) (hx : x < 18446744073709551616) (hy : y < 18446744073709551616) (h : 18446744073709551616 ≤ x + y) (w : World) :
    Calls Try.prog 74 #[.int .u64 x, .int .u64 y] w fun e w' => e = .returned (.tuple #[.int .u64 0, .int .i64 40]) ∧ w = w' := by
  have h2 : ((x : Int) + y) / 18446744073709551616 = 1 := by omega
  have hr := add64_run x y
  rw [h2] at hr
  generalize ((x : Int) + y) % 18446744073709551616 = z at hr
  clear h2 h hx hy
  go_enter Try.func74, Try.ntmps74
  go_wp2
  go_ret2
  exact ⟨rfl, rfl⟩

theorem maskN (a : Nat) (ha : a < 18446744073709551616) : bits .and .u64 (a : Int) 4294967295 = ((a % 4294967296 : Nat) : Int) := by
  have h := bits_and_u64_nat a 4294967295 ha (by omega)
  have e : a &&& 4294967295 = a % 4294967296 := Nat.and_two_pow_sub_one_eq_mod a 32
  rw [e] at h
  exact h
theorem divN (a : Nat) : (a : Int) / 4294967296 = ((a / 4294967296 : Nat) : Int) := by omega
theorem mulN (a b : Nat) : (a : Int) * (b : Int) = ((a * b : Nat) : Int) := (Int.natCast_mul a b).symm
theorem addN (a b : Nat) : (a : Int) + (b : Int) = ((a + b : Nat) : Int) := (Int.natCast_add a b).symm
theorem wrapN (a : Nat) (ha : a < 18446744073709551616) : IntKind.u64.wrap (a : Int) = (a : Int) := by rw [IntKind.wrap_u64]; omega
theorem wrapM (a : Nat) : IntKind.u64.wrap (a : Int) = ((a % 18446744073709551616 : Nat) : Int) := by rw [IntKind.wrap_u64]; omega

set_option maxHeartbeats 1000000 in
theorem mul64_any (x y : Nat) (hx : x < 18446744073709551616) (hy : y < 18446744073709551616) (w : World) :
    Calls Try.prog 75 #[.int .u64 x, .int .u64 y] w fun e w' => e = .returned (.tuple #[.int .u64 ((x * y / 18446744073709551616 : Nat) : Int), .int .u64 ((x * y % 18446744073709551616 : Nat) : Int)]) ∧ w = w' := by
  obtain ⟨bd, bt, bw, hhi⟩ := Lib.mul64_hi x y hx hy
  have ba := Lib.half_mul_le (a := x / 4294967296) (b := y / 4294967296) (by omega) (by omega)
  have bb := Lib.half_mul_le (a := x / 4294967296) (b := y % 4294967296) (by omega) (by omega)
  have bc := Lib.half_mul_le (a := x % 4294967296) (b := y / 4294967296) (by omega) (by omega)
  have ba' : x / 4294967296 * (y / 4294967296) < 18446744073709551616 := by omega
  have bb' : x / 4294967296 * (y % 4294967296) < 18446744073709551616 := by omega
  have bc' : x % 4294967296 * (y / 4294967296) < 18446744073709551616 := by omega
  have bh1 : x / 4294967296 * (y / 4294967296) + (x / 4294967296 * (y % 4294967296) + x % 4294967296 * (y % 4294967296) / 4294967296) / 4294967296 < 18446744073709551616 := by omega
  have bh : x / 4294967296 * (y / 4294967296) + (x / 4294967296 * (y % 4294967296) + x % 4294967296 * (y % 4294967296) / 4294967296) / 4294967296 + ((x / 4294967296 * (y % 4294967296) + x % 4294967296 * (y % 4294967296) / 4294967296) % 4294967296 + x % 4294967296 * (y / 4294967296)) / 4294967296 < 18446744073709551616 := by omega
  go_enter Try.func75, Try.ntmps75
  go_wp2
  simp only [maskN x hx, maskN y hy, divN, mulN, addN, wrapN _ bd, wrapN _ bb', wrapN _ bt, maskN _ bt, wrapN _ bc', wrapN _ bw, wrapN _ ba', wrapN _ bh1, wrapN _ bh, wrapM (x * y)]
  rw [hhi]
  go_ret2
  exact ⟨rfl, rfl⟩

theorem mul_ok (x y : Nat) (hx : x < 18446744073709551616) (hy : y < 18446744073709551616) (h : x * y < 18446744073709551616) (w : World) :
    Calls Try.prog 73 #[.int .u64 x, .int .u64 y] w fun e w' => e = .returned (.tuple #[.int .u64 ((x * y : Nat) : Int), .int .i64 0]) ∧ w = w' := by
  have h1 : x * y / 18446744073709551616 = 0 := Nat.div_eq_of_lt h
  have h2 : x * y % 18446744073709551616 = x * y := Nat.mod_eq_of_lt h
  have hm := fun w => mul64_any x y hx hy w
  rw [h1, h2] at hm
  have HM := hid hm
  clear hm h1 h2 h hx hy
  generalize x * y = z at HM
  go_enter Try.func73, Try.ntmps73
  go_wp2_with (go_at_call 75; refine (HM.out _).mono ?_; rintro e w' ⟨rfl, rfl⟩)
  go_ret2
  exact ⟨rfl, rfl⟩

theorem mul_over (x y : Nat) (hx : x < 18446744073709551616) (hy : y < 18446744073709551616) (h : 18446744073709551616 ≤ x * y) (w : World) :
    Calls Try.prog 73 #[.int .u64 x, .int .u64 y] w fun e w' => e = .returned (.tuple #[.int .u64 0, .int .i64 40]) ∧ w = w' := by
  have h1 : 0 < x * y / 18446744073709551616 := Nat.div_pos h (by decide)
  have HM := hid (fun w => mul64_any x y hx hy w)
  clear h hx hy
  generalize x * y / 18446744073709551616 = z at HM h1
  generalize x * y % 18446744073709551616 = z2 at HM
  have hne := beq_no (show (z : Int) ≠ 0 by omega)
  go_enter Try.func73, Try.ntmps73
  go_wp2_with (go_at_call 75; refine (HM.out _).mono ?_; rintro e w' ⟨rfl, rfl⟩)
  go_ret2
  exact ⟨rfl, rfl⟩

/-- A number so many times, and so much more. -/
theorem line_ok (m x a : Nat) (hm : m < 18446744073709551616) (hx : x < 18446744073709551616) (h : m * x + a < 18446744073709551616) (w : World) :
    Calls Try.prog 70 #[.int .u64 m, .int .u64 x, .int .u64 a] w fun e w' => e = .returned (.tuple #[.int .u64 ((m * x + a : Nat) : Int), .int .i64 0]) ∧ w = w' := by
  have HM := hid (fun w => mul_ok m x hm hx (by omega) w)
  have HA := hid (fun w => add_ok (m * x) a h w)
  clear hm hx h
  generalize m * x = z at HM HA
  go_enter Try.func70, Try.ntmps70
  go_wp2_with (first
    | (go_at_call 73; refine (HM.out _).mono ?_; rintro e w' ⟨rfl, rfl⟩)
    | (go_at_call 74; refine (HA.out _).mono ?_; rintro e w' ⟨rfl, rfl⟩))
  go_ret2
  exact ⟨rfl, rfl⟩
theorem line_mover (m x a : Nat) (hm : m < 18446744073709551616) (hx : x < 18446744073709551616) (h : 18446744073709551616 ≤ m * x) (w : World) :
    Calls Try.prog 70 #[.int .u64 m, .int .u64 x, .int .u64 a] w fun e w' => e = .returned (.tuple #[.int .u64 0, .int .i64 40]) ∧ w = w' := by
  have HM := hid (fun w => mul_over m x hm hx h w)
  clear hm hx h
  go_enter Try.func70, Try.ntmps70
  go_wp2_with (go_at_call 73; refine (HM.out _).mono ?_; rintro e w' ⟨rfl, rfl⟩)
  go_ret2
  exact ⟨rfl, rfl⟩
theorem line_aover (m x a : Nat) (hm : m < 18446744073709551616) (hx : x < 18446744073709551616) (ha : a < 18446744073709551616) (h : m * x < 18446744073709551616) (h2 : 18446744073709551616 ≤ m * x + a) (w : World) :
    Calls Try.prog 70 #[.int .u64 m, .int .u64 x, .int .u64 a] w fun e w' => e = .returned (.tuple #[.int .u64 0, .int .i64 40]) ∧ w = w' := by
  have HM := hid (fun w => mul_ok m x hm hx h w)
  have HA := hid (fun w => add_over (m * x) a h ha h2 w)
  clear hm hx h ha h2
  generalize m * x = z at HM HA
  go_enter Try.func70, Try.ntmps70
  go_wp2_with (first
    | (go_at_call 73; refine (HM.out _).mono ?_; rintro e w' ⟨rfl, rfl⟩)
    | (go_at_call 74; refine (HA.out _).mono ?_; rintro e w' ⟨rfl, rfl⟩))
  go_ret2
  exact ⟨rfl, rfl⟩
theorem line_over (m x a : Nat) (hm : m < 18446744073709551616) (hx : x < 18446744073709551616) (ha : a < 18446744073709551616) (h : 18446744073709551616 ≤ m * x + a) (w : World) :
    Calls Try.prog 70 #[.int .u64 m, .int .u64 x, .int .u64 a] w fun e w' => e = .returned (.tuple #[.int .u64 0, .int .i64 40]) ∧ w = w' := by
  by_cases hb : 18446744073709551616 ≤ m * x
  · exact line_mover m x a hm hx hb w
  · exact line_aover m x a hm hx ha (by omega) h w
end Go.Proofs.Ytimffgmbchpfeaa
