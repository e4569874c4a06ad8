/- The reference's Put. -/
import Derived.Test.YtkbddjmfccbcoaaLMath
import Derived.Test.YtkbddjmfccbcoaaMem
namespace Go.Proofs.Ytkbddjmfccbcoaa
open Go.RowKit

/-- n without its k lowest digits of seven bits. -/
def quo7 (n k : Nat) : Nat := n / 128 ^ k
theorem quo7_step (n k : Nat) : quo7 n (k + 1) = quo7 n k / 128 := by
  unfold quo7
  rw [Nat.pow_succ, Nat.div_div_eq_div_mul]
theorem quo7_zero (n : Nat) : quo7 n 0 = n := by simp [quo7]
theorem quo7_more (n k : Nat) (hn : n < 18446744073709551616) (hk : k + 1 < lenD n) : 128 ≤ quo7 n k := by
  obtain ⟨_, _, _, d⟩ := lenD_spec n hn
  rcases d with d | d
  · omega
  · have h1 : 128 ^ (k + 1) ≤ 128 ^ (lenD n - 1) := Nat.pow_le_pow_right (by omega) (by omega)
    unfold quo7
    rw [Nat.le_div_iff_mul_le (Nat.pow_pos (by omega)), Nat.mul_comm, ← Nat.pow_succ]
    omega
theorem quo7_last (n : Nat) (hn : n < 18446744073709551616) : quo7 n (lenD n - 1) < 128 := by
  obtain ⟨a, _, c, _⟩ := lenD_spec n hn
  unfold quo7
  rw [Nat.div_lt_iff_lt_mul (Nat.pow_pos (by omega)), Nat.mul_comm, ← Nat.pow_succ, show (lenD n - 1).succ = lenD n from by omega]
  exact c
theorem quo7_u64 (n k : Nat) (hn : n < 18446744073709551616) : quo7 n k < 18446744073709551616 := Nat.lt_of_le_of_lt (Nat.div_le_self _ _) hn
theorem quo7_wrap (n k : Nat) (hn : n < 18446744073709551616) : IntKind.u64.wrap ((quo7 n k : Int) / 128) = (quo7 n (k + 1) : Int) := by
  have := quo7_u64 n k hn
  rw [quo7_step, IntKind.wrap_u64]
  omega
theorem hi_isB (n k : Nat) : Value.int .u8 (128 + (quo7 n k : Int) % 128) = isB (hiD n k) := by
  unfold isB quo7
  rw [hiD_nat]; simp
theorem lo_isB (n k : Nat) (h : quo7 n k < 128) : Value.int .u8 (quo7 n k : Int) = isB (loD n k) := by
  unfold quo7 at h
  unfold isB quo7
  rw [loD_nat, Nat.mod_eq_of_lt h]

theorem refput_ok {w : World} (n : Nat) (hn : n < 18446744073709551616) :
    Calls Try.prog 35 #[.int .u64 n] w fun e w' => ∃ A c, e = .returned (.slice A (lenD n) c) ∧
      w'.ownsRow w.heap.size 5 1 (.slice A (lenD n) c) (lenD n) ((padD n (lenD n)).map isB) ∧ Below w.heap.size w w' := by
  obtain ⟨g1, g10, gA, gB⟩ := lenD_spec n hn
  clear gA gB
  have HM := hid (fun k => quo7_more n k hn)
  have HL := hid (quo7_last n hn)
  have H0 := hid (quo7_zero n)
  have HW := hid (fun k => quo7_wrap n k hn)
  clear hn
  go_enter Try.func35, Try.ntmps35
  go_wp2
  go_loopw [0, 3] (fun x s wr => ∃ k : Nat, k + 1 ≤ lenD n ∧ x = .int .u64 (quo7 n k) ∧ ∃ A c, s = .slice A k c ∧ wr.ownsRow w.heap.size 5 1 (.slice A k c) k ((hiDs n k).map isB) ∧ Below w.heap.size w wr) (fun _ s _ => match s with | .slice _ k _ => 10 - k | _ => 0)
  case atStart => exact ⟨0, g1, by rw [H0.out], _, _, rfl, World.ownsRow_nil _ _ _ _, Below.refl _ _⟩
  case round =>
    obtain ⟨k, hk, rfl, A, c, rfl, hO, hB⟩ := hrel
    by_cases hlt : k + 1 < lenD n
    · have HQ := hid (HW.out k)
      have hpos : (0 : Int) < IntKind.u64.wrap ((quo7 n k : Int) / 128) := by
        rw [HQ.out]
        have := HM.out k hlt
        have := quo7_step n k
        omega
      have HE := hid (hi_isB n k)
      have hsrc : RdB (wr.alloc (.cells #[.int .u8 (128 + (quo7 n k : Int) % 128)] 5)) (some ⟨wr.heap.size, 0, none⟩) 1 [hiD n k] := by
        rw [HE.out]
        exact RdB.of_blk (l := [hiD n k]) (Blk.fresh wr _ [isB (hiD n k)])
      have hbl : w.heap.size ≤ (wr.alloc (.cells #[.int .u8 (128 + (quo7 n k : Int) % 128)] 5)).heap.size := by simp; have := hB.size; omega
      go_wp2_with (at_builtin; refine wpList_appB rfl (.tmp 7) (.tmp 12) rfl w.heap.size (.slice A k c) k ((hiDs n k).map isB) rfl (hO.alloc _) (some ⟨wr.heap.size, 0, none⟩) 1 1 [hiD n k] rfl hsrc (by omega) hbl ?_; intro A' c' w1 HO hg HV)
      go_roundw
      case rel =>
        have h1 := HO.out
        rw [← List.map_append, ← hiDs_succ] at h1
        exact ⟨k + 1, by omega, by rw [HQ.out], A', c', rfl, h1, (hB.alloc hB.size _).grown hg hbl (fun j hj => (hO.lt j hj).1)⟩
      case measure => simp; omega
    · obtain rfl : k = lenD n - 1 := by omega
      have hz : IntKind.u64.wrap ((quo7 n (lenD n - 1) : Int) / 128) ≤ 0 := by
        rw [HW.out]
        have := HL.out
        have := quo7_step n (lenD n - 1)
        omega
      have h128 := HL.out
      have HE := hid (lo_isB n (lenD n - 1) h128)
      have hsrc : RdB (wr.alloc (.cells #[.int .u8 (quo7 n (lenD n - 1) : Int)] 5)) (some ⟨wr.heap.size, 0, none⟩) 1 [loD n (lenD n - 1)] := by
        rw [HE.out]
        exact RdB.of_blk (l := [loD n (lenD n - 1)]) (Blk.fresh wr _ [isB (loD n (lenD n - 1))])
      have hbl : w.heap.size ≤ (wr.alloc (.cells #[.int .u8 (quo7 n (lenD n - 1) : Int)] 5)).heap.size := by simp; have := hB.size; omega
      have HK := hid (show lenD n - 1 + 1 = lenD n by omega)
      go_wp2_with (at_builtin; refine wpList_appB rfl (.tmp 16) (.tmp 19) rfl w.heap.size (.slice A (lenD n - 1) c) (lenD n - 1) ((hiDs n (lenD n - 1)).map isB) rfl (hO.alloc _) (some ⟨wr.heap.size, 0, none⟩) 1 1 [loD n (lenD n - 1)] rfl hsrc (by omega) hbl ?_; intro A' c' w1 HO hg HV)
      go_ret
      have h1 := HO.out
      rw [← List.map_append] at h1
      rw [HK.out] at h1
      exact ⟨A', c', rfl, h1, (hB.alloc hB.size _).grown hg hbl (fun j hj => (hO.lt j hj).1)⟩
end Go.Proofs.Ytkbddjmfccbcoaa
