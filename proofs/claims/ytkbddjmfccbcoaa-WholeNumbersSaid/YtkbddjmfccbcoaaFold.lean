/- Fold and Unfold. -/
import Derived.Test.YtkbddjmfccbcoaaMem
import Derived.Test.YtkbddjmfccbcoaaMath
namespace Go.Proofs.Ytkbddjmfccbcoaa
open Go.RowKit

theorem xor_ones (a : Nat) (h : a < 18446744073709551616) : a ^^^ 18446744073709551615 = 18446744073709551615 - a := by
  have e : (BitVec.ofNat 64 a ^^^ BitVec.allOnes 64).toNat = 18446744073709551615 - a := by
    rw [BitVec.xor_allOnes, BitVec.toNat_not, BitVec.toNat_ofNat]
    omega
  rw [BitVec.toNat_xor, BitVec.toNat_ofNat, BitVec.toNat_allOnes] at e
  rw [Nat.mod_eq_of_lt (by simpa using h)] at e
  exact e

theorem fold_neg_val (n : Int) (h0 : -9223372036854775808 ≤ n) (h1 : n < 0) :
    bits .xor .u64 (IntKind.u64.wrap (IntKind.u64.wrap n * 2)) (IntKind.u64.wrap (n / 9223372036854775808)) = -2 * n - 1 := by
  have e1 : IntKind.u64.wrap (n / 9223372036854775808) = ((18446744073709551615 : Nat) : Int) := by rw [IntKind.wrap_u64]; omega
  have e2 : IntKind.u64.wrap (IntKind.u64.wrap n * 2) = (((2 * (n + 9223372036854775808)).toNat : Nat) : Int) := by
    simp only [IntKind.wrap_u64]; omega
  rw [e1, e2, u64_xor_nat _ _ (by omega) (by omega), xor_ones _ (by omega)]
  omega
theorem fold_pos_val (n : Int) (h0 : n ≤ 9223372036854775807) (h1 : 0 ≤ n) : bits .xor .u64 (n * 2) (n / 9223372036854775808) = 2 * n := by
  have e1 : n / 9223372036854775808 = ((0 : Nat) : Int) := by omega
  have e2 : n * 2 = (((2 * n).toNat : Nat) : Int) := by omega
  rw [e1, e2, u64_xor_nat _ _ (by omega) (by omega), Nat.xor_zero]
  omega

/-- A number with its sign, folded. -/
def foldN (n : Int) : Int := if 0 ≤ n then 2 * n else -2 * n - 1
/-- And back. -/
def unfoldN (n : Nat) : Int := if n % 2 = 0 then ((n / 2 : Nat) : Int) else -((n / 2 : Nat) : Int) - 1

theorem ret_u64 {a b : Int} (h : a = b) : Ending.returned (.int .u64 a) = .returned (.int .u64 b) := by rw [h]

theorem fold_ok (n : Int) (w : World) (h0 : -9223372036854775808 ≤ n) (h1 : n ≤ 9223372036854775807) :
    Calls Try.prog 43 #[.int .i64 n] w fun e w' => e = .returned (.int .u64 (foldN n)) ∧ w = w' := by
  by_cases hs : 0 ≤ n
  · have HF := hid (fold_pos_val n h1 hs)
    have HN := hid (show foldN n = 2 * n from if_pos hs)
    go_enter Try.func43, Try.ntmps43
    go_wp2
    go_ret
    exact ⟨ret_u64 (by rw [HF.out, HN.out]), rfl⟩
  · have hs' : n < 0 := by omega
    have HF := hid (fold_neg_val n h0 hs')
    have HN := hid (show foldN n = -2 * n - 1 from if_neg hs)
    go_enter Try.func43, Try.ntmps43
    go_wp2
    go_ret
    exact ⟨ret_u64 (by rw [HF.out, HN.out]), rfl⟩

theorem i64_xor_neg1 (a : Nat) (ha : a < 9223372036854775808) : bits .xor .i64 (a : Int) (-1) = -(a : Int) - 1 := by
  show IntKind.i64.wrap ((BitVec.ofInt 64 (a : Int) ^^^ BitVec.ofInt 64 (-1)).toNat : Int) = _
  have e1 : BitVec.ofInt 64 (-1) = BitVec.allOnes 64 := by decide
  rw [e1, BitVec.xor_allOnes, BitVec.toNat_not, BitVec.ofInt_natCast, BitVec.toNat_ofNat, IntKind.wrap_i64]
  omega
theorem i64_xor_zero (a : Nat) (ha : a < 9223372036854775808) : bits .xor .i64 (a : Int) 0 = (a : Int) := by
  show IntKind.i64.wrap ((BitVec.ofInt 64 (a : Int) ^^^ BitVec.ofInt 64 0).toNat : Int) = _
  have e1 : BitVec.ofInt 64 0 = 0#64 := by decide
  rw [e1, BitVec.xor_zero, BitVec.ofInt_natCast, BitVec.toNat_ofNat, IntKind.wrap_i64]
  omega

theorem unfold_val (n : Nat) (h : n < 18446744073709551616) :
    bits .xor .i64 (wrap64 ((n : Int) / 2)) (wrap64 (-wrap64 (bits .and .u64 (n : Int) 1))) = unfoldN n := by
  have e0 : bits .and .u64 (n : Int) ((1 : Nat) : Int) = ((n &&& 1 : Nat) : Int) := u64_and_nat n 1 h (by decide)
  have e1 : wrap64 ((n : Int) / 2) = ((n / 2 : Nat) : Int) := by unfold wrap64; omega
  rw [show (1 : Int) = ((1 : Nat) : Int) from rfl, e0, nat_mask1, e1]
  unfold unfoldN
  rcases Nat.mod_two_eq_zero_or_one n with hm | hm
  · rw [hm, if_pos rfl, show wrap64 (-wrap64 ((0 : Nat) : Int)) = 0 from by unfold wrap64; omega]
    exact i64_xor_zero _ (by omega)
  · rw [hm, if_neg (by decide), show wrap64 (-wrap64 ((1 : Nat) : Int)) = -1 from by unfold wrap64; omega]
    exact i64_xor_neg1 _ (by omega)

theorem unfold_ok (n : Nat) (w : World) (h0 : n < 18446744073709551616) :
    Calls Try.prog 44 #[.int .u64 n] w fun e w' => e = .returned (.int .i64 (unfoldN n)) ∧ w = w' := by
  have H := hid (unfold_val n h0)
  clear h0
  go_enter Try.func44, Try.ntmps44
  go_wp2
  go_ret
  exact ⟨by rw [H.out]; rfl, rfl⟩

theorem unfold_fold (a : Int) (h0 : -9223372036854775808 ≤ a) (h1 : a ≤ 9223372036854775807) : unfoldN (foldN a).toNat = a := by
  unfold unfoldN foldN
  by_cases h : 0 ≤ a
  · rw [if_pos h, if_pos (by omega)]; omega
  · rw [if_neg h, if_neg (by omega)]; omega
theorem fold_unfold (n : Nat) (h : n < 18446744073709551616) : foldN (unfoldN n) = n := by
  unfold unfoldN foldN
  by_cases hm : n % 2 = 0
  · rw [if_pos hm, if_pos (by omega)]; omega
  · rw [if_neg hm, if_neg (by omega)]; omega
theorem unfoldN_range (n : Nat) (h : n < 18446744073709551616) : -9223372036854775808 ≤ unfoldN n ∧ unfoldN n ≤ 9223372036854775807 := by
  unfold unfoldN; split <;> omega
theorem foldN_range (a : Int) (h0 : -9223372036854775808 ≤ a) (h1 : a ≤ 9223372036854775807) : 0 ≤ foldN a ∧ foldN a ≤ 18446744073709551615 := by
  unfold foldN; split <;> omega
end Go.Proofs.Ytkbddjmfccbcoaa
