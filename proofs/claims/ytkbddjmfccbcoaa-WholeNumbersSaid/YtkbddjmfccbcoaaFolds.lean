/- The helper 'folds' of the second layer's laws, and the walk of LebFolds. -/
import Derived.Test.YtkbddjmfccbcoaaRead
import Derived.Test.YtkbddjmfccbcoaaFold
namespace Go.Proofs.Ytkbddjmfccbcoaa
open Go.RowKit

theorem len_300 : lenD 300 = 2 := lenD_unique 300 2 (by decide) (by decide) (by decide) (.inr (by decide))
theorem len_128 : lenD 128 = 2 := lenD_unique 128 2 (by decide) (by decide) (by decide) (.inr (by decide))
theorem rd_300 : RdRes [172, 2, 7] false 300 2 0 := by
  refine ⟨1, by decide, ⟨by decide, fun i hi h => ?_⟩, .inr (.inr (.inr ⟨⟨by decide, by decide, by decide, by decide⟩, by decide, rfl, rfl⟩))⟩
  obtain rfl : i = 0 := by omega
  simp
theorem rd_canon : RdRes [128, 0] false 0 0 21 := by
  refine ⟨1, by decide, ⟨by decide, fun i hi h => ?_⟩, .inr (.inr (.inl ⟨⟨by decide, by decide⟩, by decide, rfl, rfl, rfl, rfl⟩))⟩
  obtain rfl : i = 0 := by omega
  simp

theorem below_after' {w w1 : World} {o : Obj} (h : Below (w.alloc o).heap.size (w.alloc o) w1) : Below w.heap.size w w1 :=
  ((Below.refl _ _).alloc (Nat.le_refl _) o).trans (h.mono (by simp))

theorem folds_any (w : World) : Calls Try.prog 34 #[] w fun e w' => e = .returned (.bool true) ∧ Below w.heap.size w w' := by
  have HF := hid (show foldN (-2) = 3 by decide)
  have HU := hid (show unfoldN 3 = -2 by decide)
  go_enter Try.func34, Try.ntmps34
  go_wp2_with fail
  refine (lebput_ok 300 (by decide) (RdB.nil_ w none) (Nat.zero_le _)).mono ?_
  rintro e w1 ⟨g, rfl, hG, hb1, hg⟩
  rw [len_300] at hG ⊢
  rw [show ([] ++ padD 300 2 : List UInt8) = [172, 2] from by decide] at hG
  go_wp2_with fail
  have hD := RdB.of_blk (l := [172, 2, 7]) (Blk.fresh w1 5 ([172, 2, 7].map isB))
  refine (new_rd hD (by decide) (by decide)).mono ?_
  rintro e w2 ⟨p, rfl, hR, hb, hp⟩
  have hb2' := below_after' hb
  have hb2 := hb1.trans (hb2'.mono hb1.size)
  have hpw : w.heap.size ≤ p := by simp at hp; have := hb1.size; omega
  have hpg : w1.heap.size ≤ p := by simp at hp; omega
  have hG2 := hG.keep hb2'
  go_wp2_with fail
  refine (read_ok (rd := 0) hR (v := 300) (m := 2) (code := 0) rd_300).mono ?_
  rintro e w3 ⟨rfl, hR3, hg3⟩
  have hb3 := below_grown hb2 hg3 hb2.size hpw
  have hG3 := hG2.grown hg3 (fun e => by injection e with e; have := hG.lt; omega)
  clear hR3 hg3 hG2 hb2 hb2' hb hR hD hG hp hpw hpg hg hb1
  go_wp2_with fail
  have hD := RdB.of_blk (l := [128, 0]) (Blk.fresh w3 5 ([128, 0].map isB))
  refine (new_rd hD (by decide) (by decide)).mono ?_
  rintro e w4 ⟨p4, rfl, hR, hb, hp⟩
  have hb4' := below_after' hb
  have hb4 := hb3.trans (hb4'.mono hb3.size)
  have hpw : w.heap.size ≤ p4 := by simp at hp; have := hb3.size; omega
  have hG4 := hG3.keep hb4'
  go_wp2_with fail
  refine (read_ok (rd := 0) hR (v := 0) (m := 0) (code := 21) rd_canon).mono ?_
  rintro e w5 ⟨rfl, hR5, hg5⟩
  have hb5 := below_grown hb4 hg5 hb4.size hpw
  have hG5 := hG4.grown hg5 (fun e => by injection e with e; have := hG3.lt; simp at hp; omega)
  have g0 : w5.cell? ⟨g, 0, none⟩ = some (.int .u8 172) := hG5.at 0
  clear hR5 hg5 hG4 hb4 hb4' hb hR hD hG3 hp hpw hb3
  go_wp2_with fail
  refine (fold_ok (-2) w5 (by decide) (by decide)).mono ?_
  rintro e w6 ⟨rfl, rfl⟩
  rw [HF.out]
  go_wp2_with fail
  refine (unfold_ok 3 w5 (by decide)).mono ?_
  rintro e w6 ⟨rfl, rfl⟩
  rw [HU.out]
  go_wp2_with fail
  refine (len_ok 128 (by decide) w5).mono ?_
  rintro e w6 ⟨rfl, rfl⟩
  rw [len_128]
  go_wp2
  go_ret
  exact ⟨rfl, hb5⟩

theorem uwrap_nat (a : Int) : ∃ u : Nat, IntKind.u64.wrap a = (u : Int) ∧ u < 18446744073709551616 := by
  refine ⟨(IntKind.u64.wrap a).toNat, ?_, ?_⟩ <;> rw [IntKind.wrap_u64] <;> omega

theorem ret_bool {b : Bool} (h : b = true) : Ending.returned (.bool b) = .returned (.bool true) := by rw [h]
theorem fold_nat (a : Int) (X : Nat) (hX : foldN a = (X : Int)) (w : World) (h0 : -9223372036854775808 ≤ a) (h1 : a ≤ 9223372036854775807) :
    Calls Try.prog 43 #[.int .i64 a] w fun e w' => e = .returned (.int .u64 (X : Int)) ∧ w = w' := by
  rw [← hX]
  exact fold_ok a w h0 h1
theorem foldN_nat (a : Int) (h0 : -9223372036854775808 ≤ a) (h1 : a ≤ 9223372036854775807) : ∃ X : Nat, foldN a = (X : Int) ∧ X < 18446744073709551616 :=
  ⟨(foldN a).toNat, by have := foldN_range a h0 h1; omega, by have := foldN_range a h0 h1; omega⟩

theorem lebFolds_law {w : World} (a b : Int) (ha : -9223372036854775808 ≤ a) (ha' : a ≤ 9223372036854775807) (hb : -9223372036854775808 ≤ b) (hb' : b ≤ 9223372036854775807) :
    Calls Try.prog 12 #[.int .i64 a, .int .i64 b] w fun e w' => e = .returned (.bool true) ∧ Below w.heap.size w w' := by
  obtain ⟨X, hX, hX64⟩ := foldN_nat a ha ha'
  obtain ⟨Y, hY, _⟩ := foldN_nat b hb hb'
  obtain ⟨u, hu, hu64⟩ := uwrap_nat a
  have hXa : unfoldN X = a := by
    have := unfold_fold a ha ha'
    rw [hX] at this
    simpa using this
  obtain ⟨r0, r1⟩ := unfoldN_range u hu64
  have hc1 := fun w => fold_nat a X hX w ha ha'
  have hc2 := fun w => fold_nat b Y hY w hb hb'
  have hc3 := fun w => unfold_ok X w hX64
  rw [hXa] at hc3
  have hc4 := fun w => unfold_ok u w hu64
  have hc5 := fun w => fold_nat (unfoldN u) u (fold_unfold u hu64) w r0 r1
  have K1 := hid hc1
  have K2 := hid hc2
  have K3 := hid hc3
  have K4 := hid hc4
  have K5 := hid hc5
  have HU := hid hu
  have hway : (0 ≤ a ∧ 0 ≤ b ∧ a < b ∧ X < Y) ∨ (a < 0 ∧ b < 0 ∧ b < a ∧ X < Y) ∨ (0 ≤ a ∧ ¬ (0 ≤ b ∧ a < b) ∧ (X : Int) = 2 * a) ∨ (a < 0 ∧ ¬ (b < 0 ∧ b < a) ∧ (X : Int) = 2 * -(a + 1) + 1) := by
    unfold foldN at hX hY
    by_cases h1 : 0 ≤ a <;> by_cases h2 : 0 ≤ b <;> simp only [h1, h2, if_true, if_false] at hX hY <;> omega
  clear hX hY hXa hc1 hc2 hc3 hc4 hc5 hu hX64 hu64 r0 r1 hb hb'
  go_enter Try.func12, Try.ntmps12
  go_wp2_with fail
  refine (folds_any w).mono ?_
  rintro e w1 ⟨rfl, hb1⟩
  go_wp2_with fail
  refine (K1.out w1).mono ?_
  rintro e w2 ⟨rfl, rfl⟩
  go_wp2_with fail
  refine (K2.out w1).mono ?_
  rintro e w2 ⟨rfl, rfl⟩
  go_wp2_with fail
  refine (K3.out w1).mono ?_
  rintro e w2 ⟨rfl, rfl⟩
  go_wp2_with fail
  rw [HU.out]
  refine (K4.out w1).mono ?_
  rintro e w2 ⟨rfl, rfl⟩
  go_wp2_with fail
  refine (K5.out w1).mono ?_
  rintro e w2 ⟨rfl, rfl⟩
  have hu2 := HU.out
  rcases hway with ⟨h1, h2, h3, h4⟩ | ⟨h1, h2, h3, h4⟩ | ⟨h1, h2, h3⟩ | ⟨h1, h2, h3⟩
  · go_wp2
    go_ret
    exact ⟨rfl, hb1⟩
  · go_wp2
    go_ret
    exact ⟨rfl, hb1⟩
  · have e1 : (u : Int) = a := by rw [← HU.out, IntKind.wrap_u64]; omega
    have HB := hid (show (2 * a == IntKind.u64.wrap (2 * (u : Int))) = true by rw [e1, IntKind.wrap_u64, beq_iff_eq]; omega)
    clear e1
    go_wp2
    all_goals
      go_ret
      exact ⟨ret_bool HB.out, hb1⟩
  · have H3 := hid h3
    clear h3
    go_wp2
    all_goals
      go_ret
      exact ⟨ret_bool (by rw [H3.out]; simp), hb1⟩
end Go.Proofs.Ytkbddjmfccbcoaa
