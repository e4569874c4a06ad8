/- The walk of the law WideInts. -/
import Derived.Test.YtmbbjhlpfgpibaaRec
namespace Go.Proofs.Ytmbbjhlpfgpibaa
open Go.RowKit

theorem line_some (m x a : Nat) (hm : m < 18446744073709551616) (hx : x < 18446744073709551616) (ha : a < 18446744073709551616) :
    ∃ R F : Int, ∀ w : World, Calls Try.prog 29 #[.int .u64 m, .int .u64 x, .int .u64 a] w fun e w' => e = .returned (.tuple #[.int .u64 R, .int .i64 F]) ∧ w = w' := by
  by_cases h : m * x + a < 18446744073709551616
  · exact ⟨_, _, fun w => line_ok m x a hm hx h w⟩
  · exact ⟨_, _, fun w => line_over m x a hm hx ha (by omega) w⟩

/-- What Int answers, and what the law asks of it. -/
theorem int_some (n : Nat) (m : Int) (hm : m ≤ 9223372036854775807) :
    (m < 0 ∧ ∀ w : World, Calls Try.prog 34 #[.int .u64 n, .int .i64 m] w fun e w' => e = .returned (.tuple #[.int .i64 0, .int .i64 40]) ∧ w = w') ∨
    (0 ≤ m ∧ m < n ∧ ∀ w : World, Calls Try.prog 34 #[.int .u64 n, .int .i64 m] w fun e w' => e = .returned (.tuple #[.int .i64 0, .int .i64 40]) ∧ w = w') ∨
    (0 ≤ m ∧ (n : Int) ≤ m ∧ ∀ w : World, Calls Try.prog 34 #[.int .u64 n, .int .i64 m] w fun e w' => e = .returned (.tuple #[.int .i64 n, .int .i64 0]) ∧ w = w') := by
  by_cases h : m < 0
  · exact .inl ⟨h, fun w => int_neg n m h w⟩
  · obtain ⟨k, rfl⟩ := Int.eq_ofNat_of_zero_le (show 0 ≤ m by omega)
    by_cases h2 : k < n
    · exact .inr (.inl ⟨by omega, by omega, fun w => int_over n k (by omega) h2 w⟩)
    · exact .inr (.inr ⟨by omega, by omega, fun w => int_ok n k (by omega) (by omega) w⟩)

theorem within_same (n a b : Nat) (w : World) :
    Calls Try.prog 36 #[.int .u64 n, .int .u64 a, .int .u64 b] w fun e w' => e = .returned (.bool (decide (a ≤ n ∧ n ≤ b))) ∧ w' = w := (within_any n a b w).mono fun _ _ ⟨h1, h2⟩ => ⟨h1, h2.symm⟩

set_option maxHeartbeats 2000000 in
theorem ints_plain (n : Nat) (k : Int) (m a : Nat) (hn : n < 18446744073709551616) (hk : k ≤ 9223372036854775807) (hm : m < 18446744073709551616) (ha : a < 18446744073709551616) (w : World) :
    Calls Try.prog 13 #[.int .u64 n, .int .i64 k, isE ⟨#[]⟩ m a] w fun e w' => e = .returned (.bool true) ∧ Below w.heap.size w w' := by
  obtain ⟨R, F, hL⟩ := line_some m n a hm hn ha
  have HL := hid hL
  clear hL
  have HE := hid (fun w => eval_plain m a n w)
  have HW := hid (fun w => within_same n m a w)
  have hnl : n ≤ 18446744073709551615 := by omega
  unfold isE at HE ⊢
  rcases int_some n k hk with ⟨h1, hI⟩ | ⟨h1, h2, hI⟩ | ⟨h1, h2, hI⟩
  all_goals
    have HI := hid hI
    clear hI
    rcases Nat.lt_or_ge n m with h3 | h3
    · have h4 : decide (m ≤ n ∧ n ≤ a) = false := by simp; omega
      rw [h4] at HW
      clear h4
      have hd : decide (m ≤ n) = false := by simp; omega
      go_enter Try.func13, Try.ntmps13
      go_wp2_with fail
      refine (reckons_any _).mono ?_
      rintro e w1 ⟨rfl, hb1⟩
      have hB := (Blk.fresh w 77 [.string ⟨#[]⟩, .int .u64 m, .int .u64 a]).keep hb1
      have hbw := ((Below.refl _ w).alloc (Nat.le_refl _) _).trans (hb1.mono (by simp))
      have c0 := hB.at 0
      have c1 := hB.at 1
      have c2 := hB.at 2
      simp only [List.getElem?_cons_zero, List.getElem?_cons_succ] at c0 c1 c2
      go_wp2_with fail
      refine (HI.out _).mono ?_
      rintro e w' ⟨rfl, rfl⟩
      go_wp2_with fail
      refine (HE.out _).mono ?_
      rintro e w2 ⟨rfl, hb2⟩
      have hB2 := hB.keep hb2
      have hbw2 := hbw.trans (hb2.mono hbw.size)
      clear c0 c1 c2 hb1 hb2 hB hbw
      have c0 := hB2.at 0
      have c1 := hB2.at 1
      have c2 := hB2.at 2
      simp only [List.getElem?_cons_zero, List.getElem?_cons_succ] at c0 c1 c2
      clear hB2
      go_wp2_with fail
      refine (HL.out _).mono ?_
      rintro e w' ⟨rfl, rfl⟩
      go_wp2
      go_quiet ((go_at_call 36; exact Calls.quiet_of_same (HW.out _)))
      go_wp2
      go_ret
      exact ⟨rfl, below_drewN hbw2 _⟩
    · by_cases h5 : n ≤ a
      · have h4 : decide (m ≤ n ∧ n ≤ a) = true := by simp; omega
        rw [h4] at HW
        clear h4
        go_enter Try.func13, Try.ntmps13
        go_wp2_with fail
        refine (reckons_any _).mono ?_
        rintro e w1 ⟨rfl, hb1⟩
        have hB := (Blk.fresh w 77 [.string ⟨#[]⟩, .int .u64 m, .int .u64 a]).keep hb1
        have hbw := ((Below.refl _ w).alloc (Nat.le_refl _) _).trans (hb1.mono (by simp))
        have c0 := hB.at 0
        have c1 := hB.at 1
        have c2 := hB.at 2
        simp only [List.getElem?_cons_zero, List.getElem?_cons_succ] at c0 c1 c2
        go_wp2_with fail
        refine (HI.out _).mono ?_
        rintro e w' ⟨rfl, rfl⟩
        go_wp2_with fail
        refine (HE.out _).mono ?_
        rintro e w2 ⟨rfl, hb2⟩
        have hB2 := hB.keep hb2
        have hbw2 := hbw.trans (hb2.mono hbw.size)
        clear c0 c1 c2 hb1 hb2 hB hbw
        have c0 := hB2.at 0
        have c1 := hB2.at 1
        have c2 := hB2.at 2
        simp only [List.getElem?_cons_zero, List.getElem?_cons_succ] at c0 c1 c2
        clear hB2
        go_wp2_with fail
        refine (HL.out _).mono ?_
        rintro e w' ⟨rfl, rfl⟩
        go_wp2
        go_quiet ((go_at_call 36; exact Calls.quiet_of_same (HW.out _)))
        go_wp2
        go_ret
        exact ⟨rfl, below_drewN hbw2 _⟩
      · have h4 : decide (m ≤ n ∧ n ≤ a) = false := by simp; omega
        rw [h4] at HW
        have hd : decide (n ≤ a) = false := by simp; omega
        clear h4 h5
        go_enter Try.func13, Try.ntmps13
        go_wp2_with fail
        refine (reckons_any _).mono ?_
        rintro e w1 ⟨rfl, hb1⟩
        have hB := (Blk.fresh w 77 [.string ⟨#[]⟩, .int .u64 m, .int .u64 a]).keep hb1
        have hbw := ((Below.refl _ w).alloc (Nat.le_refl _) _).trans (hb1.mono (by simp))
        have c0 := hB.at 0
        have c1 := hB.at 1
        have c2 := hB.at 2
        simp only [List.getElem?_cons_zero, List.getElem?_cons_succ] at c0 c1 c2
        go_wp2_with fail
        refine (HI.out _).mono ?_
        rintro e w' ⟨rfl, rfl⟩
        go_wp2_with fail
        refine (HE.out _).mono ?_
        rintro e w2 ⟨rfl, hb2⟩
        have hB2 := hB.keep hb2
        have hbw2 := hbw.trans (hb2.mono hbw.size)
        clear c0 c1 c2 hb1 hb2 hB hbw
        have c0 := hB2.at 0
        have c1 := hB2.at 1
        have c2 := hB2.at 2
        simp only [List.getElem?_cons_zero, List.getElem?_cons_succ] at c0 c1 c2
        clear hB2
        go_wp2_with fail
        refine (HL.out _).mono ?_
        rintro e w' ⟨rfl, rfl⟩
        go_wp2
        go_quiet ((go_at_call 36; exact Calls.quiet_of_same (HW.out _)))
        go_wp2
        go_ret
        exact ⟨rfl, below_drewN hbw2 _⟩

set_option maxHeartbeats 2000000 in
theorem ints_named (n : Nat) (k : Int) (m a : Nat) (hn : n < 18446744073709551616) (hk : k ≤ 9223372036854775807) (hm : m < 18446744073709551616) (ha : a < 18446744073709551616) (name : ByteArray) (he : name.toList.isEmpty = false) (w : World) :
    Calls Try.prog 13 #[.int .u64 n, .int .i64 k, isE name m a] w fun e w' => e = .returned (.bool true) ∧ Below w.heap.size w w' := by
  obtain ⟨R, F, hL⟩ := line_some m n a hm hn ha
  have HL := hid hL
  clear hL
  have HE := hid (fun w => eval_line name m a n _ _ he HL w)
  have HW := hid (fun w => within_same n m a w)
  have hnl : n ≤ 18446744073709551615 := by omega
  unfold isE at HE ⊢
  rcases int_some n k hk with ⟨h1, hI⟩ | ⟨h1, h2, hI⟩ | ⟨h1, h2, hI⟩
  all_goals
    have HI := hid hI
    clear hI
    rcases Nat.lt_or_ge n m with h3 | h3
    · have h4 : decide (m ≤ n ∧ n ≤ a) = false := by simp; omega
      rw [h4] at HW
      clear h4
      have hd : decide (m ≤ n) = false := by simp; omega
      go_enter Try.func13, Try.ntmps13
      go_wp2_with fail
      refine (reckons_any _).mono ?_
      rintro e w1 ⟨rfl, hb1⟩
      have hB := (Blk.fresh w 77 [.string name, .int .u64 m, .int .u64 a]).keep hb1
      have hbw := ((Below.refl _ w).alloc (Nat.le_refl _) _).trans (hb1.mono (by simp))
      have c0 := hB.at 0
      have c1 := hB.at 1
      have c2 := hB.at 2
      simp only [List.getElem?_cons_zero, List.getElem?_cons_succ] at c0 c1 c2
      go_wp2_with fail
      refine (HI.out _).mono ?_
      rintro e w' ⟨rfl, rfl⟩
      go_wp2_with fail
      refine (HE.out _).mono ?_
      rintro e w2 ⟨rfl, hb2⟩
      have hB2 := hB.keep hb2
      have hbw2 := hbw.trans (hb2.mono hbw.size)
      clear c0 c1 c2 hb1 hb2 hB hbw
      have c0 := hB2.at 0
      have c1 := hB2.at 1
      have c2 := hB2.at 2
      simp only [List.getElem?_cons_zero, List.getElem?_cons_succ] at c0 c1 c2
      clear hB2
      go_wp2_with fail
      refine (HL.out _).mono ?_
      rintro e w' ⟨rfl, rfl⟩
      go_wp2
      go_quiet ((go_at_call 36; exact Calls.quiet_of_same (HW.out _)))
      go_wp2
      go_ret
      exact ⟨rfl, below_drewN hbw2 _⟩
    · by_cases h5 : n ≤ a
      · have h4 : decide (m ≤ n ∧ n ≤ a) = true := by simp; omega
        rw [h4] at HW
        clear h4
        go_enter Try.func13, Try.ntmps13
        go_wp2_with fail
        refine (reckons_any _).mono ?_
        rintro e w1 ⟨rfl, hb1⟩
        have hB := (Blk.fresh w 77 [.string name, .int .u64 m, .int .u64 a]).keep hb1
        have hbw := ((Below.refl _ w).alloc (Nat.le_refl _) _).trans (hb1.mono (by simp))
        have c0 := hB.at 0
        have c1 := hB.at 1
        have c2 := hB.at 2
        simp only [List.getElem?_cons_zero, List.getElem?_cons_succ] at c0 c1 c2
        go_wp2_with fail
        refine (HI.out _).mono ?_
        rintro e w' ⟨rfl, rfl⟩
        go_wp2_with fail
        refine (HE.out _).mono ?_
        rintro e w2 ⟨rfl, hb2⟩
        have hB2 := hB.keep hb2
        have hbw2 := hbw.trans (hb2.mono hbw.size)
        clear c0 c1 c2 hb1 hb2 hB hbw
        have c0 := hB2.at 0
        have c1 := hB2.at 1
        have c2 := hB2.at 2
        simp only [List.getElem?_cons_zero, List.getElem?_cons_succ] at c0 c1 c2
        clear hB2
        go_wp2_with fail
        refine (HL.out _).mono ?_
        rintro e w' ⟨rfl, rfl⟩
        go_wp2
        go_quiet ((go_at_call 36; exact Calls.quiet_of_same (HW.out _)))
        go_wp2
        go_ret
        exact ⟨rfl, below_drewN hbw2 _⟩
      · have h4 : decide (m ≤ n ∧ n ≤ a) = false := by simp; omega
        rw [h4] at HW
        have hd : decide (n ≤ a) = false := by simp; omega
        clear h4 h5
        go_enter Try.func13, Try.ntmps13
        go_wp2_with fail
        refine (reckons_any _).mono ?_
        rintro e w1 ⟨rfl, hb1⟩
        have hB := (Blk.fresh w 77 [.string name, .int .u64 m, .int .u64 a]).keep hb1
        have hbw := ((Below.refl _ w).alloc (Nat.le_refl _) _).trans (hb1.mono (by simp))
        have c0 := hB.at 0
        have c1 := hB.at 1
        have c2 := hB.at 2
        simp only [List.getElem?_cons_zero, List.getElem?_cons_succ] at c0 c1 c2
        go_wp2_with fail
        refine (HI.out _).mono ?_
        rintro e w' ⟨rfl, rfl⟩
        go_wp2_with fail
        refine (HE.out _).mono ?_
        rintro e w2 ⟨rfl, hb2⟩
        have hB2 := hB.keep hb2
        have hbw2 := hbw.trans (hb2.mono hbw.size)
        clear c0 c1 c2 hb1 hb2 hB hbw
        have c0 := hB2.at 0
        have c1 := hB2.at 1
        have c2 := hB2.at 2
        simp only [List.getElem?_cons_zero, List.getElem?_cons_succ] at c0 c1 c2
        clear hB2
        go_wp2_with fail
        refine (HL.out _).mono ?_
        rintro e w' ⟨rfl, rfl⟩
        go_wp2
        go_quiet ((go_at_call 36; exact Calls.quiet_of_same (HW.out _)))
        go_wp2
        go_ret
        exact ⟨rfl, below_drewN hbw2 _⟩

theorem empty_string (s : ByteArray) (h : s.toList.isEmpty = true) : s = ⟨#[]⟩ := by
  have h1 : s.toList = [] := by simpa using h
  rw [Go.ByteArray.toList_eq] at h1
  apply ByteArray.ext
  apply Array.ext'
  exact h1

theorem wideInts_law (n : Nat) (k : Int) (name : ByteArray) (m a : Nat) (hn : n < 18446744073709551616) (hk : k ≤ 9223372036854775807) (hm : m < 18446744073709551616) (ha : a < 18446744073709551616) (w : World) :
    Calls Try.prog 13 #[.int .u64 n, .int .i64 k, isE name m a] w fun e w' => e = .returned (.bool true) ∧ Below w.heap.size w w' := by
  by_cases he : name.toList.isEmpty = true
  · rw [empty_string name he]
    exact ints_plain n k m a hn hk hm ha w
  · exact ints_named n k m a hn hk hm ha name (by simpa using he) w
end Go.Proofs.Ytmbbjhlpfgpibaa
