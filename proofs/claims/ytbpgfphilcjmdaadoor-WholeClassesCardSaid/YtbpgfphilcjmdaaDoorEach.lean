/- class: Each, handed a round of a loop. -/
import Derived.Test.YtbpgfphilcjmdaaDoorOfR
import Derived.RangeFuncNested
import Derived.RangeFuncBound
import Derived.RangeFuncCalls
import Derived.RangeFuncLeaves
import Derived.Shelf.Abstract
import Derived.Shelf.RegionOpen
import Derived.OwnWalkIn
import Derived.TacticsInMore
import Derived.LoopNIn
import Derived.LoopIn
import Derived.Lib.TrailingZeros
namespace Go.Proofs.YtbpgfphilcjmdaaDoor
open Go.RowKit Go.Shelf
attribute [local go_sem] Oper.semAt_some

/-- The library's table lies as it was laid. -/
def TabAt (w : World) : Prop := ∀ i, i < 64 → w.cell? ⟨0, i, none⟩ = some (.int .u8 ((Lib.deBruijn64tab.getD i 0 : Nat) : Int))
theorem TabAt.lt {w : World} (h : TabAt w) : 0 < w.heap.size := World.block_lt_of_cell? _ _ (h 0 (by decide))
theorem TabAt.keep {w w' : World} (h : TabAt w) (hb : Below w.heap.size w w') : TabAt w' := fun i hi => (hb.cell (p := ⟨_, i, none⟩) h.lt).trans (h i hi)
theorem TabAt.below {B : Nat} {w w' : World} (h : TabAt w) (hB : 0 < B) (hb : Below B w w') : TabAt w' := fun i hi => (hb.cell (p := ⟨_, i, none⟩) hB).trans (h i hi)

theorem low_bit (q k p : Nat) (hp : p = 2 ^ k * (2 * q + 1)) (hlt : p < 2 ^ 64) : p &&& (2 ^ 64 - p) = 2 ^ k := by
  have h1 : 0 < 2 ^ k := Nat.two_pow_pos k
  have hpp : 0 < p := by rw [hp]; exact Nat.mul_pos h1 (by omega)
  obtain ⟨p', rfl⟩ : ∃ p', p = p' + 1 := ⟨p - 1, by omega⟩
  have hq : p' = 2 ^ k * (2 * q) + (2 ^ k - 1) := by
    rw [Nat.mul_add, Nat.mul_one] at hp
    omega
  apply Nat.eq_of_testBit_eq
  intro j
  rw [Nat.testBit_and, Nat.testBit_two_pow_sub_succ (by omega), Nat.testBit_two_pow]
  have hl : 2 ^ k - 1 < 2 ^ k := by omega
  rw [hp, Nat.testBit_two_pow_mul, hq, Nat.testBit_two_pow_mul_add _ hl]
  by_cases hj : j < k
  · have : ¬ k ≤ j := by omega
    have h3 : ¬ k = j := by omega
    simp [this, h3]
  · by_cases e : j = k
    · subst e
      have : j < 64 := by
        refine Decidable.byContradiction fun h64 => ?_
        have := Nat.pow_le_pow_right (show 0 < 2 by decide) (show 64 ≤ j by omega)
        have h5 : 2 ^ j ≤ 2 ^ j * (2 * q + 1) := Nat.le_mul_of_pos_right _ (by omega)
        omega
      simp [this]
    · obtain ⟨m, hm⟩ : ∃ m, j - k = m + 1 := ⟨j - k - 1, by omega⟩
      have h3 : ¬ k = j := by omega
      simp only [hj, if_false, show k ≤ j by omega, decide_true, Bool.true_and, hm, h3, decide_false]
      rw [Nat.testBit_succ, Nat.testBit_succ, show (2 * q + 1) / 2 = q by omega, show 2 * q / 2 = q by omega]
      cases q.testBit m <;> simp
theorem odd_part (p : Nat) (hp : p ≠ 0) : ∃ k q, p = 2 ^ k * (2 * q + 1) := by
  induction p using Nat.strongRecOn with
  | _ p ih =>
    rcases Nat.mod_two_eq_zero_or_one p with h | h
    · obtain ⟨k, q, e⟩ := ih (p / 2) (by omega) (by omega)
      refine ⟨k + 1, q, ?_⟩
      rw [Nat.pow_succ, Nat.mul_right_comm, ← e]
      omega
    · exact ⟨0, p / 2, by omega⟩
theorem low_lt (q k p : Nat) (hp : p = 2 ^ k * (2 * q + 1)) (hlt : p < 2 ^ 64) : k < 64 := by
  refine Decidable.byContradiction fun h64 => ?_
  have := Nat.pow_le_pow_right (show 0 < 2 by decide) (show 64 ≤ k by omega)
  have h5 : 2 ^ k ≤ 2 ^ k * (2 * q + 1) := Nat.le_mul_of_pos_right _ (by omega)
  omega
theorem neg_and (q k p : Nat) (hp : p = 2 ^ k * (2 * q + 1)) (hlt : p < 18446744073709551616) : bits .and .u64 (p : Int) (IntKind.u64.wrap (-(p : Int))) = ((2 ^ k : Nat) : Int) := by
  have hpp : 0 < p := by rw [hp]; exact Nat.mul_pos (Nat.two_pow_pos k) (by omega)
  have e : IntKind.u64.wrap (-(p : Int)) = ((18446744073709551616 - p : Nat) : Int) := by rw [IntKind.wrap_u64]; omega
  rw [e, and64 _ _ hlt (by omega)]
  exact congrArg _ (low_bit q k p hp hlt)
theorem mul_sh (y : Nat) : IntKind.u64.wrap (y : Int) / 288230376151711744 = ((y % 18446744073709551616 / 288230376151711744 : Nat) : Int) := by
  rw [IntKind.wrap_u64]
  omega
theorem tz_ix (k : Nat) (hk : k < 64) : ∃ j : Nat, j < 64 ∧ IntKind.u64.wrap (((2 ^ k : Nat) : Int) * 285870213051353865) / 288230376151711744 = (j : Int) ∧ Lib.deBruijn64tab.getD j 0 = k := by
  obtain ⟨h1, h2⟩ := Lib.deBruijn64_at k hk
  have hm := mul_sh (2 ^ k * 285870213051353865)
  rw [Int.natCast_mul] at hm
  exact ⟨_, h1, hm, h2⟩
set_option maxRecDepth 8000 in
theorem tz_any {w : World} (hT : TabAt w) (q k p : Nat) (hp : p = 2 ^ k * (2 * q + 1)) (hlt : p < 18446744073709551616) :
    Calls Tryd.prog 49 #[.int .u64 (p : Int)] w fun e w' => e = .returned (.int .i64 (k : Int)) ∧ w = w' := by
  have hk := low_lt q k p hp hlt
  have hpp : 0 < p := by rw [hp]; exact Nat.mul_pos (Nat.two_pow_pos k) (by omega)
  have hn := neg_and q k p hp hlt
  obtain ⟨j, h1, hm, h2⟩ := tz_ix k hk
  have hc := hT j h1
  rw [h2] at hc
  generalize (2 ^ k : Nat) = x at hm hn
  clear h2 hp hT
  go_enter Tryd.func49, Tryd.ntmps49
  go_wp2
  go_ret
  exact ⟨rfl, rfl⟩

/-- The bytes from a word on. -/
def tailB (a : BS) : Nat → List Nat
  | 0 => bytesOf a
  | 1 => bitsOf (wd a 1) 64 ++ (bitsOf (wd a 2) 128 ++ bitsOf (wd a 3) 192)
  | 2 => bitsOf (wd a 2) 128 ++ bitsOf (wd a 3) 192
  | 3 => bitsOf (wd a 3) 192
  | _ => []
theorem tailB_step (a : BS) (i : Nat) (hi : i < 4) : tailB a i = bitsOf (wd a i) (64 * i) ++ tailB a (i + 1) := by
  have : i = 0 ∨ i = 1 ∨ i = 2 ∨ i = 3 := by omega
  rcases this with rfl | rfl | rfl | rfl
  · exact bytesOf_words a
  · rfl
  · rfl
  · simp [tailB]

end Go.Proofs.YtbpgfphilcjmdaaDoor
