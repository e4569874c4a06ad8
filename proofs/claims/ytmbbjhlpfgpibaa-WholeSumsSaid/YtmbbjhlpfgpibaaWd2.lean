/- wide: what is solved, an expression, an int, a range. -/
import Derived.Test.YtmbbjhlpfgpibaaWd
namespace Go.Proofs.Ytmbbjhlpfgpibaa
open Go.RowKit

theorem solve_sub (m y a : Nat) (h : y < a) (w : World) :
    Calls Try.prog 30 #[.int .u64 m, .int .u64 y, .int .u64 a] w fun e w' => e = .returned (.tuple #[.int .u64 0, .int .i64 40]) ∧ w = w' := by
  have HM := hid (fun w => sub_over y a h w)
  clear h
  go_enter Try.func30, Try.ntmps30
  go_wp2_with (go_at_call 27; refine (HM.out _).mono ?_; rintro e w' ⟨rfl, rfl⟩)
  go_ret2
  exact ⟨rfl, rfl⟩

theorem solve_zero (y a : Nat) (hy : y < 18446744073709551616) (h : a ≤ y) (w : World) :
    Calls Try.prog 30 #[.int .u64 0, .int .u64 y, .int .u64 a] w fun e w' => e = .returned (.tuple #[.int .u64 0, .int .i64 3]) ∧ w = w' := by
  have HM := hid (fun w => sub_ok y a hy h w)
  clear h hy
  generalize y - a = z at HM
  go_enter Try.func30, Try.ntmps30
  go_wp2_with (go_at_call 27; refine (HM.out _).mono ?_; rintro e w' ⟨rfl, rfl⟩)
  go_ret2
  exact ⟨rfl, rfl⟩

theorem solve_no (m y a : Nat) (hy : y < 18446744073709551616) (h : a ≤ y) (hm0 : 0 < m) (hd : (y - a) % m ≠ 0) (w : World) :
    Calls Try.prog 30 #[.int .u64 m, .int .u64 y, .int .u64 a] w fun e w' => e = .returned (.tuple #[.int .u64 0, .int .i64 3]) ∧ w = w' := by
  have HM := hid (fun w => sub_ok y a hy h w)
  have hm1 := beq_no (show (m : Int) ≠ 0 by omega)
  have hz : y - a < 18446744073709551616 := by omega
  clear h hy
  generalize y - a = z at HM hd hz
  have hne : (z : Int) % m ≠ 0 := by
    rw [← Int.natCast_emod]; omega
  have hne' := beq_no hne
  clear hne hd
  go_enter Try.func30, Try.ntmps30
  go_wp2_with (go_at_call 27; refine (HM.out _).mono ?_; rintro e w' ⟨rfl, rfl⟩)
  go_ret2
  exact ⟨rfl, rfl⟩
theorem solve_ok (m y a : Nat) (hy : y < 18446744073709551616) (h : a ≤ y) (hm0 : 0 < m) (hd : (y - a) % m = 0) (w : World) :
    Calls Try.prog 30 #[.int .u64 m, .int .u64 y, .int .u64 a] w fun e w' => e = .returned (.tuple #[.int .u64 (((y - a) / m : Nat) : Int), .int .i64 0]) ∧ w = w' := by
  have HM := hid (fun w => sub_ok y a hy h w)
  have hm1 := beq_no (show (m : Int) ≠ 0 by omega)
  have hz : y - a < 18446744073709551616 := by omega
  clear h hy
  generalize y - a = z at HM hd hz ⊢
  have hne : (z : Int) % m = 0 := by
    rw [← Int.natCast_emod]; omega
  have HQ := hid (show IntKind.u64.wrap ((z : Int) / m) = ((z / m : Nat) : Int) by
    rw [← Int.natCast_ediv]
    exact wrapN _ (Nat.lt_of_le_of_lt (Nat.div_le_self z m) hz))
  clear hd
  go_enter Try.func30, Try.ntmps30
  go_wp2_with (go_at_call 27; refine (HM.out _).mono ?_; rintro e w' ⟨rfl, rfl⟩)
  go_ret2
  exact ⟨ret_two HQ.out, rfl⟩

theorem within_any (n a b : Nat) (w : World) :
    Calls Try.prog 36 #[.int .u64 n, .int .u64 a, .int .u64 b] w fun e w' => e = .returned (.bool (decide (a ≤ n ∧ n ≤ b))) ∧ w = w' := by
  by_cases h1 : a ≤ n <;> by_cases h2 : n ≤ b
  all_goals
    go_enter Try.func36, Try.ntmps36
    go_wp2
    go_ret
    exact ⟨by simp [*], rfl⟩

theorem int_neg (n : Nat) (m : Int) (h : m < 0) (w : World) :
    Calls Try.prog 34 #[.int .u64 n, .int .i64 m] w fun e w' => e = .returned (.tuple #[.int .i64 0, .int .i64 40]) ∧ w = w' := by
  go_enter Try.func34, Try.ntmps34
  go_wp2
  go_ret2
  exact ⟨rfl, rfl⟩
theorem int_over (n : Nat) (m : Nat) (hm : m ≤ 9223372036854775807) (h : m < n) (w : World) :
    Calls Try.prog 34 #[.int .u64 n, .int .i64 m] w fun e w' => e = .returned (.tuple #[.int .i64 0, .int .i64 40]) ∧ w = w' := by
  go_enter Try.func34, Try.ntmps34
  go_wp2
  go_ret2
  exact ⟨rfl, rfl⟩
theorem int_ok (n : Nat) (m : Nat) (hm : m ≤ 9223372036854775807) (h : n ≤ m) (w : World) :
    Calls Try.prog 34 #[.int .u64 n, .int .i64 m] w fun e w' => e = .returned (.tuple #[.int .i64 n, .int .i64 0]) ∧ w = w' := by
  go_enter Try.func34, Try.ntmps34
  go_wp2
  go_ret2
  exact ⟨rfl, rfl⟩

/-- The value of an expression: as its name is none or some. -/
def isE (name : ByteArray) (m a : Nat) : Value := .agg #[.string name, .int .u64 m, .int .u64 a]

theorem eval_plain (m a x : Nat) (w : World) :
    Calls Try.prog 35 #[isE ⟨#[]⟩ m a, .int .u64 x] w fun e w' => e = .returned (.tuple #[.int .u64 a, .int .i64 0]) ∧ Below w.heap.size w w' := by
  unfold isE
  go_enter Try.func35, Try.ntmps35
  go_wp2
  go_ret2
  exact ⟨rfl, (Below.refl _ _).alloc (Nat.le_refl _) _⟩
end Go.Proofs.Ytmbbjhlpfgpibaa
