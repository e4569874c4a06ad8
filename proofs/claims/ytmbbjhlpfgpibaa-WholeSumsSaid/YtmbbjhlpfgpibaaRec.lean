/- wide.Eval; the helper 'reckons' of the fourth layer's laws. -/
import Derived.Test.YtmbbjhlpfgpibaaWd2
import Derived.Test.YtmbbjhlpfgpibaaPar
namespace Go.Proofs.Ytmbbjhlpfgpibaa
open Go.RowKit

theorem eval_line (name : ByteArray) (m a x : Nat) (r f : Value) (he : name.toList.isEmpty = false) (HL : Hid (∀ w : World, Calls Try.prog 29 #[.int .u64 m, .int .u64 x, .int .u64 a] w fun e w' => e = .returned (.tuple #[r, f]) ∧ w = w')) (w : World) :
    Calls Try.prog 35 #[isE name m a, .int .u64 x] w fun e w' => e = .returned (.tuple #[r, f]) ∧ Below w.heap.size w w' := by
  unfold isE
  go_enter Try.func35, Try.ntmps35
  go_wp2_with (go_at_call 29; refine (HL.out _).mono ?_; rintro e w' ⟨rfl, rfl⟩)
  go_ret2
  exact ⟨rfl, (Below.refl _ _).alloc (Nat.le_refl _) _⟩

theorem digits_zero (w : World) :
    Calls Try.prog 32 #[.int .u64 ((0 : Nat) : Int)] w fun e w' => e = .returned (.string ⟨#[48]⟩) ∧ Below w.heap.size w w' := by
  refine (digits_any 0 (by decide) w).mono ?_
  rintro e w' ⟨k, hk, _, rfl, hb⟩
  rw [isLen_one hk (show IsLen 0 1 from ⟨by decide, by decide, .inl rfl⟩)]
  exact ⟨rfl, hb⟩
theorem parse_most (w : World) :
    Calls Try.prog 33 #[.string ⟨#[49, 56, 52, 52, 54, 55, 52, 52, 48, 55, 51, 55, 48, 57, 53, 53, 49, 54, 49, 53]⟩] w fun e w' => e = .returned (.tuple #[.int .u64 18446744073709551615, .int .i64 0]) ∧ w = w' := by
  have h := parse_ok ⟨#[49, 56, 52, 52, 54, 55, 52, 52, 48, 55, 51, 55, 48, 57, 53, 53, 49, 54, 49, 53]⟩ (by decide) (by unfold Wrt isDig; decide) (by decide) w
  have e : valL [49, 56, 52, 52, 54, 55, 52, 52, 48, 55, 51, 55, 48, 57, 53, 53, 49, 54, 49, 53] = 18446744073709551615 := by decide
  rw [e] at h
  exact h

theorem reckons_any (w : World) : Calls Try.prog 25 #[] w fun e w' => e = .returned (.bool true) ∧ Below w.heap.size w w' := by
  have c1 := hid (fun w => line_ok 3 7 2 (by decide) (by decide) (by decide) w)
  have c2 := hid (fun w => add_over 18446744073709551615 1 (by decide) (by decide) (by decide) w)
  have c3 := hid (fun w => sub_over 1 2 (by decide) w)
  have c4 := hid (fun w => solve_ok 3 23 2 (by decide) (by decide) (by decide) (by decide) w)
  have c5 := hid (fun w => eval_line ⟨#[110]⟩ 2 1 5 _ _ (by kernel_rfl) (hid (fun w => line_ok 2 5 1 (by decide) (by decide) (by decide) w)) w)
  have c6 := hid (fun w => parse_most w)
  have c7 := hid (fun w => digits_zero w)
  have c8 := hid (fun w => within_any 5 5 5 w)
  go_enter Try.func25, Try.ntmps25
  go_wp2_with fail
  refine (c1.out _).mono ?_
  rintro e w' ⟨rfl, rfl⟩
  go_wp2_with fail
  refine (c2.out _).mono ?_
  rintro e w' ⟨rfl, rfl⟩
  go_wp2_with fail
  refine (c3.out _).mono ?_
  rintro e w' ⟨rfl, rfl⟩
  go_wp2_with fail
  refine (c4.out _).mono ?_
  rintro e w' ⟨rfl, rfl⟩
  go_wp2_with fail
  refine (c5.out _).mono ?_
  rintro e w1 ⟨rfl, hb1⟩
  go_wp2_with fail
  refine (c6.out _).mono ?_
  rintro e w' ⟨rfl, rfl⟩
  go_wp2_with fail
  refine (c7.out _).mono ?_
  rintro e w2 ⟨rfl, hb2⟩
  go_wp2_with fail
  refine (c8.out _).mono ?_
  rintro e w' ⟨rfl, rfl⟩
  go_wp2
  go_ret
  exact ⟨rfl, hb1.trans (hb2.mono hb1.size)⟩
end Go.Proofs.Ytmbbjhlpfgpibaa
