/- The walk of the law OctetNumbers. -/
import Derived.Test.YtkbddjmfccbcoaaReads
namespace Go.Proofs.Ytkbddjmfccbcoaa
open Go.RowKit

/-- 256 to the power of k. -/
def p256 (k : Nat) : Nat := 256 ^ k
theorem p256_pos (k : Nat) : 1 ≤ p256 k := Nat.pow_pos (by omega)
theorem p256_step (k : Nat) (h : k < 7) : IntKind.u64.wrap ((p256 k : Int) * 256) = (p256 (k + 1) : Int) := by
  have h2 := pow256_le (k + 1) (by omega)
  have h3 : p256 (k + 1) = p256 k * 256 := Nat.pow_succ 256 k
  have h4 : p256 (k + 1) ≤ 256 ^ 7 := Nat.pow_le_pow_right (by omega) (by omega)
  simp only [Nat.reducePow] at h4
  rw [IntKind.wrap_u64]
  omega
theorem most_over (n k : Nat) (h1 : 1 ≤ k) : 255 < n / p256 (k - 1) ↔ mostN k < n := by
  have hp := p256_pos (k - 1)
  obtain ⟨m, rfl⟩ : ∃ m, k = m + 1 := ⟨k - 1, by omega⟩
  rw [Nat.add_sub_cancel] at hp ⊢
  have h3 : mostN (m + 1) + 1 = 256 * p256 m := by
    unfold mostN p256
    rw [Nat.pow_succ]
    have : 0 < 256 ^ m := Nat.pow_pos (by omega)
    omega
  rw [show 255 < n / p256 m ↔ 256 ≤ n / p256 m from by omega, Nat.le_div_iff_mul_le (by omega)]
  omega
theorem wrap_quo (n k : Nat) (hn : n < 18446744073709551616) : IntKind.u64.wrap ((n : Int) / (p256 k : Int)) = ((n / p256 k : Nat) : Int) := by
  rw [← Int.natCast_ediv, u64wrap _ (Nat.lt_of_le_of_lt (Nat.div_le_self _ _) hn)]
theorem lt_of_most (n k : Nat) (h : n ≤ mostN k) : n < 256 ^ k := by
  unfold mostN at h
  have : 0 < 256 ^ k := Nat.pow_pos (by omega)
  omega
/-- n without its k lowest digits. -/
def quo (n k : Nat) : Nat := n / 256 ^ k
theorem quo_step (n k : Nat) : (quo n k : Int) / 256 = (quo n (k + 1) : Int) := by
  have h : quo n (k + 1) = quo n k / 256 := by
    unfold quo
    rw [Nat.pow_succ, Nat.div_div_eq_div_mul]
  omega
theorem quo_wrap (n k : Nat) (hn : n < 18446744073709551616) : IntKind.u64.wrap ((quo n k : Int) / 256) = (quo n (k + 1) : Int) := by
  rw [quo_step, u64wrap _ (show quo n (k + 1) < _ from Nat.lt_of_le_of_lt (Nat.div_le_self _ _) hn)]
theorem quo_zero (n : Nat) : quo n 0 = n := by simp [quo]
theorem quo_all (n k : Nat) (h : n ≤ mostN k) : ((quo n k : Int) == 0) = true := by
  have := lt_of_most n k h
  have h0 : quo n k = 0 := Nat.div_eq_of_lt this
  simp [h0]
theorem isB_dig (n k : Nat) : isB (dig n k) = .int .u8 ((quo n k : Int) % 256) := by
  unfold isB quo
  rw [dig_toNat]; simp
theorem digits_at (little : Bool) (n width k : Nat) (h : k < width) :
    (if little then (digits little n width)[k]? else (digits little n width)[width - 1 - k]?) = some (dig n k) := by
  cases little
  · simp only [digits, Bool.false_eq_true, if_false]
    rw [List.getElem?_reverse (by rw [digs_len]; omega), digs_len]
    rw [show width - 1 - (width - 1 - k) = k from by omega]
    simp [digs, h]
  · simp [digits, digs, h]

theorem octetNumbers_bad {w : World} (n : Nat) (width : Int) (little : Bool) (hw : width < 1 ∨ 8 < width) :
    Calls Try.prog 3 #[.int .u64 n, .int .i64 width, .bool little] w fun e w' => e = .returned (.bool true) ∧ Below w.heap.size w w' := by
  have hmk : ∀ w : World, (Instr.makeSlice 24 (.int .i64 9) (.int .i64 9)).run Try.prog w = _ := run_makeB 9 (by omega)
  have hcases : decide (width < 1) = true ∨ decide (width < 1) = false ∧ 1 ≤ width ∧ decide (8 < width) = true := by
    rcases hw with hw | hw
    · exact .inl (by simp [hw])
    · exact .inr ⟨by simp; omega, by omega, by simp [hw]⟩
  rcases hcases with d0 | ⟨d0, g0, d1⟩
  all_goals
    go_enter Try.func3, Try.ntmps3
    go_wp2_with (go_at_call 15; refine (reads_any _).mono ?_; rintro e w1 ⟨rfl, hb1⟩)
    go_wp2_with fail
    refine (put_range n width little hw).mono ?_
    rintro e w2 ⟨rfl, rfl⟩
    go_wp2_with fail
    refine (new_any _ 9 9 _).mono ?_
    rintro e w2 ⟨rfl, rfl⟩
    go_wp2_with fail
    refine (num_range width little hw).mono ?_
    rintro e w3 ⟨rfl, rfl⟩
    go_wp2_with fail
    refine (most_no width hw).mono ?_
    rintro e w3 ⟨rfl, rfl⟩
    go_wp2_with fail
    refine (width_no width hw).mono ?_
    rintro e w3 ⟨rfl, rfl⟩
    go_wp2
    go_ret
    exact ⟨rfl, (hb1.alloc hb1.size _).alloc (by have := hb1.size; simp; omega) _⟩

theorem octetNumbers_good {w : World} (n width : Nat) (little : Bool) (hn64 : n < 18446744073709551616) (h1 : 1 ≤ width) (h8 : width ≤ 8) :
    Calls Try.prog 3 #[.int .u64 n, .int .i64 width, .bool little] w fun e w' => e = .returned (.bool true) ∧ Below w.heap.size w w' := by
  have HW := hid (wrap_quo n (width - 1) hn64)
  have HM := hid (most_over n width h1)
  have HN64 := hid hn64
  clear hn64
  have d0 : decide ((width : Int) < 1) = false := by simp; omega
  have d1 : decide ((8 : Int) < width) = false := by simp; omega
  by_cases hn : n ≤ mostN width
  · go_enter Try.func3, Try.ntmps3
    go_wp2_with (go_at_call 15; refine (reads_any _).mono ?_; rintro e w1 ⟨rfl, hb1⟩)
    go_wp2_with fail
    refine (put_at n width little (RdB.nil_ w1 none) (Nat.zero_le _) h1 h8 hn).mono ?_
    rintro e w2 ⟨g, rfl, hG, hb2, hg⟩
    rw [Nat.zero_add]
    rw [List.nil_append] at hG
    have hb2' := hb1.trans (hb2.mono hb1.size)
    have hD := RdB.of_blk hG
    rw [digits_len] at hD
    have hlt := lt_of_most n width hn
    have hE1 : ofB little (((digits little n width).drop 0).take width) = n := by
      rw [List.drop_zero, List.take_of_length_le (by rw [digits_len]; exact Nat.le_refl _), ofB_digits little n width h8 hlt]
    have hE2 : ofB little (digits little n width) = n := ofB_digits little n width h8 hlt
    have HE1 := hid hE1
    have HE2 := hid hE2
    have HG := hid hG
    have HN := hid hn
    have hp := p256_pos (width - 1)
    have hq : ¬ (255 : Int) < IntKind.u64.wrap ((n : Int) / (p256 (width - 1) : Int)) := by
      rw [HW.out]
      intro h
      have := HM.out.1 (by omega)
      omega
    have hp' : (1 : Int) ≤ (p256 (width - 1) : Int) := by omega
    have HQ := hid hq
    clear hE1 hE2 hlt hG hn hq hb2 hg
    go_wp2_with fail
    go_loop [11, 64] (fun x i => ∃ k : Nat, k + 1 ≤ width ∧ i = .int .i64 k ∧ x = .int .u64 (p256 k)) (fun _ i => 8 - (intOf i).toNat)
    case atStart => exact ⟨0, h1, rfl, rfl⟩
    case round =>
      obtain ⟨k, hk, rfl, rfl⟩ := hrel
      by_cases hlt : k + 1 < width
      · have HS := hid (p256_step k (by omega))
        clear hp hp'
        go_wp2
        go_round
        case rel => exact ⟨k + 1, by omega, by go_num, by rw [HS.out]⟩
        case measure => simp [intOf]; omega
      · obtain rfl : k = width - 1 := by omega
        have hge : ¬ ((width - 1 : Nat) : Int) < (width : Int) - 1 := by omega
        have hq := HQ.out
        go_wp2_with fail
        refine (new_rd hD (Nat.le_refl _) (by omega)).mono ?_
        rintro e w3 ⟨p, rfl, hR, hb3, hp3⟩
        have hb3' := hb2'.trans (hb3.mono hb2'.size)
        have hpw : w.heap.size ≤ p := Nat.le_trans hb2'.size hp3
        have hG3 := HG.out.keep hb3
        clear hb3 hp3
        go_wp2_with fail
        refine (num_ok (width := width) hR little h1 h8 (by omega)).mono ?_
        rintro e w4 ⟨rfl, hR4, hg4⟩
        rw [HE1.out]
        have hb4 := below_grown hb3' hg4 hb3'.size hpw
        have hG4 := hG3.grown hg4 (fun e => hR.ne (by omega) _ rfl (by injection e))
        have hD4 := RdB.of_blk hG4
        rw [digits_len] at hD4
        clear hb3' hG3 hg4 hR hb2'
        go_wp2_with fail
        refine (of_any little hD4 (by omega)).mono ?_
        rintro e w5 ⟨rfl, rfl⟩
        rw [HE2.out]
        go_wp2_with fail
        refine (left_any hR4).mono ?_
        rintro e w5 ⟨rfl, k5, rfl⟩
        rw [Nat.zero_add, Int.sub_self]
        go_wp2_with fail
        refine (most_ok width h1 h8).mono ?_
        rintro e w5 ⟨rfl, rfl⟩
        have hle := HN.out
        have hb5 := below_drewN hb4 k5
        have hG5 := hG4.drewN k5
        have HZ := hid (quo_all n width hle)
        have HQ0 := hid (quo_zero n)
        clear hD4 hb4 hG4 hR4
        go_wp2
        go_loop [15, 132] (fun x i => ∃ k : Nat, k ≤ width ∧ i = .int .i64 k ∧ x = .int .u64 (quo n k)) (fun _ i => 8 - (intOf i).toNat)
        case atStart => exact ⟨0, Nat.zero_le _, rfl, by rw [HQ0.out]⟩
        case round =>
          obtain ⟨k, hk, rfl, rfl⟩ := hrel
          by_cases hlt : k < width
          · have hat := digits_at little n width k hlt
            have HS := hid (quo_wrap n k HN64.out)
            cases little
            · have hck := hG5.at (width - 1 - k)
              rw [List.getElem?_map, show (digits false n width)[width - 1 - k]? = some (dig n k) from hat, Option.map_some, isB_dig] at hck
              clear hat
              go_wp2
              go_round
              case rel => exact ⟨k + 1, by omega, by go_num, by rw [HS.out]⟩
              case measure => simp [intOf]; omega
            · have hat2 := digits_at true n width (width - 1 - k) (by omega)
              have hck2 := hG5.at (width - 1 - k)
              rw [List.getElem?_map, show (digits true n width)[width - 1 - k]? = some (dig n (width - 1 - k)) from hat2, Option.map_some, isB_dig] at hck2
              clear hat2
              have hck := hG5.at k
              rw [List.getElem?_map, show (digits true n width)[k]? = some (dig n k) from hat, Option.map_some, isB_dig] at hck
              clear hat
              go_wp2
              go_round
              case rel => exact ⟨k + 1, by omega, by go_num, by rw [HS.out]⟩
              case measure => simp [intOf]; omega
          · obtain rfl : k = width := by omega
            have hz := HZ.out
            go_wp2
            go_ret
            exact ⟨rfl, hb5⟩
  · have hq : (255 : Int) < IntKind.u64.wrap ((n : Int) / (p256 (width - 1) : Int)) := by
      rw [HW.out]
      have := HM.out.2 (by omega)
      omega
    have HQ := hid hq
    have hov : mostN width < n := by omega
    have hp := p256_pos (width - 1)
    have hp' : (1 : Int) ≤ (p256 (width - 1) : Int) := by omega
    clear hq hn
    go_enter Try.func3, Try.ntmps3
    go_wp2_with (go_at_call 15; refine (reads_any _).mono ?_; rintro e w1 ⟨rfl, hb1⟩)
    go_wp2_with fail
    refine (put_over n width little h1 h8 hov).mono ?_
    rintro e w2 ⟨rfl, rfl⟩
    go_wp2_with fail
    go_loop [11, 64] (fun x i => ∃ k : Nat, k + 1 ≤ width ∧ i = .int .i64 k ∧ x = .int .u64 (p256 k)) (fun _ i => 8 - (intOf i).toNat)
    case atStart => exact ⟨0, h1, rfl, rfl⟩
    case round =>
      obtain ⟨k, hk, rfl, rfl⟩ := hrel
      by_cases hlt : k + 1 < width
      · have HS := hid (p256_step k (by omega))
        clear hp hp'
        go_wp2
        go_round
        case rel => exact ⟨k + 1, by omega, by go_num, by rw [HS.out]⟩
        case measure => simp [intOf]; omega
      · obtain rfl : k = width - 1 := by omega
        have hge : ¬ ((width - 1 : Nat) : Int) < (width : Int) - 1 := by omega
        have hq := HQ.out
        go_wp2_with fail
        refine (most_ok width h1 h8).mono ?_
        rintro e w5 ⟨rfl, rfl⟩
        go_wp2
        go_ret
        exact ⟨rfl, hb1⟩

theorem octetNumbers_law {w : World} (n : Nat) (width : Int) (little : Bool) (hn64 : n < 18446744073709551616) :
    Calls Try.prog 3 #[.int .u64 n, .int .i64 width, .bool little] w fun e w' => e = .returned (.bool true) ∧ Below w.heap.size w w' := by
  by_cases hw : width < 1 ∨ 8 < width
  · exact octetNumbers_bad n width little hw
  · obtain ⟨k, rfl⟩ := Int.eq_ofNat_of_zero_le (show 0 ≤ width by omega)
    exact octetNumbers_good n k little hn64 (by omega) (by omega)
end Go.Proofs.Ytkbddjmfccbcoaa
