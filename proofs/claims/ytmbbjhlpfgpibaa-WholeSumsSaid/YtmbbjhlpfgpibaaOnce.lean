/- crc: the table: behind, fill; sync.Once's parts. -/
import Derived.Test.YtmbbjhlpfgpibaaCMath
import Derived.Test.YtmbbjhlpfgpibaaMem
import Derived.Tactics
import Derived.Tactics2
import Derived.Defers
import Derived.Laws.Pointers
import Derived.Laws.LoneSync
import Derived.Laws.BitsAllLaws
import Derived.RegionTactic
import Derived.RegionCalls
import Derived.Deep.RegionHeld3
namespace Go.Proofs.Ytmbbjhlpfgpibaa
open Go.RowKit

theorem and1 (a : Nat) (h : a < 4294967296) : bits .and .u32 (a : Int) 1 = ((a % 2 : Nat) : Int) := by
  have := u32_and_nat a 1 h (by decide)
  rw [Nat.and_one_is_mod] at this
  exact this

theorem behind_any (r : Nat) (h : r < 4294967296) (w : World) :
    Calls Try.prog 62 #[.int .u32 r] w fun e w' => e = .returned (.int .u32 ((behindN r : Nat) : Int)) ∧ w = w' := by
  go_enter Try.func62, Try.ntmps62
  go_wp2
  go_loop [0, 4] (fun v i => ∃ k q : Nat, k ≤ 8 ∧ i = .int .i64 k ∧ v = .int .u32 q ∧ q < 4294967296 ∧ Hid (q = stepN k r)) (fun _ i => 8 - (intOf i).toNat)
  case atStart => exact ⟨0, r, by omega, rfl, rfl, h, hid rfl⟩
  case round =>
    obtain ⟨k, q, hk, rfl, rfl, hq, HQ⟩ := hrel
    by_cases hlt : k < 8
    · have ha := and1 q hq
      have HC := hid (show (q : Int) / 2 = ((q / 2 : Nat) : Int) by omega)
      have HS := hid (show step1 q = stepN (k + 1) r by rw [stepN_succ, HQ.out])
      have hlt1 := step1_lt hq
      have hql : (q : Int) / 2 ≤ 4294967295 := by omega
      have hql0 : 0 ≤ (q : Int) / 2 := by omega
      have hx : bits .xor .u32 ((q : Int) / 2) 3988292384 = ((q / 2 ^^^ 3988292384 : Nat) : Int) := by
        rw [show (q : Int) / 2 = ((q / 2 : Nat) : Int) by omega]
        exact u32_xor_nat (q / 2) 3988292384 (by omega) (by decide)
      rcases Nat.mod_two_eq_zero_or_one q with h2 | h2
      · rw [h2] at ha
        have HE := hid (show q / 2 = step1 q by unfold step1; rw [if_neg (by omega), Nat.xor_zero])
        clear h2 hx
        go_wp2
        go_round
        case rel => exact ⟨k + 1, step1 q, by omega, by go_num, by rw [HC.out, HE.out], hlt1, hid HS.out⟩
        case measure => simp [intOf]; omega
      · rw [h2] at ha
        have HE := hid (show q / 2 ^^^ 3988292384 = step1 q by unfold step1; rw [if_pos h2]; rfl)
        clear h2
        go_wp2
        go_round
        case rel => exact ⟨k + 1, step1 q, by omega, by go_num, by rw [HE.out], hlt1, hid HS.out⟩
        case measure => simp [intOf]; omega
    · obtain rfl : k = 8 := by omega
      go_wp2
      go_ret
      exact ⟨by rw [HQ.out]; rfl, rfl⟩
end Go.Proofs.Ytmbbjhlpfgpibaa
