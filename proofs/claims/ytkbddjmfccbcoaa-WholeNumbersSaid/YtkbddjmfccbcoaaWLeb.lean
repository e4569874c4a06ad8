/- The walks of LebReads and LebPads. -/
import Derived.Test.YtkbddjmfccbcoaaFolds
import Derived.Test.YtkbddjmfccbcoaaRef
import Derived.Test.YtkbddjmfccbcoaaRefP
namespace Go.Proofs.Ytkbddjmfccbcoaa
open Go.RowKit

theorem pad_at_lt (n k i : Nat) (hi : i + 1 < k) : (padD n k)[i]? = some (hiD n i) := by
  unfold padD
  rw [List.getElem?_append_left (by rw [hiDs_len]; omega)]
  unfold hiDs
  rw [List.getElem?_map, List.getElem?_range (by omega)]
  rfl
theorem pad_at_last (n k : Nat) : (padD n k)[k - 1]? = some (loD n (k - 1)) := by
  unfold padD
  rw [List.getElem?_append_right (by rw [hiDs_len]; exact Nat.le_refl _), hiDs_len, Nat.sub_self]
  rfl

/-- What Pad and Put wrote is read as the number. -/
theorem rd_pad (n k : Nat) (lenient : Bool) (rest : List UInt8) (hn : n < 18446744073709551616) (h1 : 1 ≤ k) (h10 : k ≤ 10) (hk : n < 128 ^ k) (hc : lenient = true ∨ k = 1 ∨ 128 ^ (k - 1) ≤ n) :
    RdRes (padD n k ++ rest) lenient n k 0 := by
  have hl := padD_len n k h1
  have hk1 : k - 1 < (padD n k ++ rest).length := by rw [List.length_append, hl]; omega
  have hlast : (padD n k ++ rest)[k - 1]'hk1 = loD n (k - 1) := by
    have := pad_at_last n k
    rw [← List.getElem?_append_left (by rw [hl]; omega) (l₂ := rest)] at this
    exact (List.getElem?_eq_some_iff.1 this).2
  have hp : 0 < 128 ^ (k - 1) := Nat.pow_pos (by omega)
  have hq : n / 128 ^ (k - 1) < 128 := by
    rw [Nat.div_lt_iff_lt_mul hp, Nat.mul_comm, ← Nat.pow_succ, show (k - 1).succ = k from by omega]
    exact hk
  refine ⟨k - 1, by omega, ⟨by omega, fun i hi hik => ?_⟩, .inr (.inr (.inr ⟨⟨hk1, ?_, ?_, ?_⟩, ?_, by omega, rfl⟩))⟩
  · have h := pad_at_lt n k i (by omega)
    rw [← List.getElem?_append_left (by rw [hl]; omega) (l₂ := rest)] at h
    rw [(List.getElem?_eq_some_iff.1 h).2, hiD_nat]
    omega
  · rw [hlast, loD_nat]; omega
  · intro h9
    rw [hlast, loD_nat, h9]
    simp only [Nat.reducePow]
    omega
  · rintro ⟨h0, hpos, hfalse⟩
    rw [hlast, loD_nat, Nat.mod_eq_of_lt hq] at h0
    rcases hc with hc | hc | hc
    · rw [hc] at hfalse; cases hfalse
    · omega
    · have : 1 ≤ n / 128 ^ (k - 1) := (Nat.le_div_iff_mul_le hp).2 (by omega)
      omega
  · rw [show k - 1 + 1 = k from by omega, List.take_append_of_le_length (by rw [hl]; exact Nat.le_refl _), List.take_of_length_le (by rw [hl]; exact Nat.le_refl _), vSum_padD n k h1, Nat.mod_eq_of_lt hk]

theorem lebReads_law {w : World} {A : Option Addr} {n c : Nat} {l : List UInt8} (lenient : Bool) (hR : RdB w A n l) (hn : n ≤ c) (hc : c ≤ 9223372036854775807) :
    Calls Try.prog 9 #[.slice A n c, .bool lenient] w fun e w' => e = .returned (.bool true) ∧ Below w.heap.size w w' := by
  by_cases h200 : 200 < n
  · go_enter Try.func9, Try.ntmps9
    go_wp2_with (go_at_call 34; refine (folds_any _).mono ?_; rintro e w1 ⟨rfl, hb1⟩)
    go_ret
    exact ⟨rfl, hb1⟩
  · obtain ⟨v, m, code, hS⟩ := rd_some l lenient
    go_enter Try.func9, Try.ntmps9
    go_wp2_with (go_at_call 34; refine (folds_any _).mono ?_; rintro e w1 ⟨rfl, hb1⟩)
    go_wp2_with fail
    refine (new_rd (hR.below hb1) hn hc).mono ?_
    rintro e w2 ⟨p, rfl, hR2, hb, hp⟩
    have hb2 := hb1.trans (hb.mono hb1.size)
    have hpw : w.heap.size ≤ p := by have := hb1.size; omega
    go_wp2_with fail
    refine (read_ok (rd := 0) hR2 (by rw [List.drop_zero]; exact hS)).mono ?_
    rintro e w3 ⟨rfl, hR3, hg3⟩
    have hb3 := below_grown hb2 hg3 hb2.size hpw
    clear hR2 hb hp hb2 hg3
    go_wp2_with fail
    refine (refread_ok (hR.below hb3) (by omega) hS).mono ?_
    rintro e w4 ⟨rfl, rfl⟩
    go_wp2_with fail
    refine (at_any hR3).mono ?_
    rintro e w4 ⟨rfl, rfl⟩
    rw [Nat.zero_add]
    go_wp2
    go_ret
    exact ⟨rfl, hb3⟩

theorem lebPads_law {w : World} (n : Nat) (count : Int) (hn : n < 18446744073709551616) :
    Calls Try.prog 13 #[.int .u64 n, .int .i64 count] w fun e w' => e = .returned (.bool true) ∧ Below w.heap.size w w' := by
  obtain ⟨g1, g10, gk, gd⟩ := lenD_spec n hn
  by_cases hbad : count < (lenD n : Int) ∨ 10 < count
  · have HP := hid (fun w => pad_no (w := w) (A := none) (m := 0) (c := 0) n count hn hbad)
    have HR := hid (fun w => refput_ok (w := w) n hn)
    clear gk gd hn
    have hd : decide (count < (lenD n : Int)) = true ∨ decide (count < (lenD n : Int)) = false ∧ decide (10 < count) = true := by
      by_cases h : count < (lenD n : Int)
      · exact .inl (by simp [h])
      · exact .inr ⟨by simp [h], by simp; omega⟩
    rcases hd with d0 | ⟨d0, d1⟩
    all_goals
      go_enter Try.func13, Try.ntmps13
      go_wp2_with (go_at_call 34; refine (folds_any _).mono ?_; rintro e w1 ⟨rfl, hb1⟩)
      go_wp2_with fail
      refine (HP.out _).mono ?_
      rintro e w2 ⟨rfl, rfl⟩
      go_wp2_with fail
      refine (HR.out _).mono ?_
      rintro e w2 ⟨A, c, rfl, hO, hb⟩
      have hb2 := hb1.trans (hb.mono hb1.size)
      clear hO
      go_wp2
      go_ret
      exact ⟨rfl, hb2⟩
  · obtain ⟨k, rfl⟩ := Int.eq_ofNat_of_zero_le (show 0 ≤ count by omega)
    have h1 : lenD n ≤ k := by omega
    have h10 : k ≤ 10 := by omega
    have hk : n < 128 ^ k := Nat.lt_of_lt_of_le gk (Nat.pow_le_pow_right (by omega) h1)
    have hS := rd_pad n k true [] hn (by omega) h10 hk (.inl rfl)
    rw [List.append_nil] at hS
    have HP := hid (fun w => pad_ok (w := w) (c := 0) n k hn (RdB.nil_ w none) (Nat.zero_le _) h1 h10)
    have HR := hid (fun w => refput_ok (w := w) n hn)
    clear gk gd hn hk
    have d0 : decide (k < lenD n) = false := by simp; omega
    have d1 : decide ((10 : Int) < (k : Int)) = false := by simp; omega
    go_enter Try.func13, Try.ntmps13
    go_wp2_with (go_at_call 34; refine (folds_any _).mono ?_; rintro e w1 ⟨rfl, hb1⟩)
    go_wp2_with fail
    refine (HP.out _).mono ?_
    rintro e w2 ⟨g, rfl, hG, hb, hg⟩
    rw [List.nil_append] at hG
    rw [Nat.zero_add]
    have hb2 := hb1.trans (hb.mono hb1.size)
    go_wp2_with fail
    refine (HR.out _).mono ?_
    rintro e w3 ⟨A, c, rfl, hO, hb'⟩
    have hb3 := hb2.trans (hb'.mono hb2.size)
    have hD := RdB.of_blk (hG.keep hb')
    rw [padD_len n k (by omega)] at hD
    clear hO hG hb hg hb' hb2
    go_wp2_with fail
    refine (refread_ok hD (by omega) hS).mono ?_
    rintro e w4 ⟨rfl, rfl⟩
    go_wp2
    go_ret
    exact ⟨rfl, hb3⟩
end Go.Proofs.Ytkbddjmfccbcoaa
