/- code: the steps to which one leads. -/
import Derived.Test.YtpbkdokhlimpfaaDoorCdV
namespace Go.Proofs.YtpbkdokhlimpfaaDoor
set_option linter.unusedSimpArgs false
set_option linter.unusedVariables false
open Go.RowKit

theorem own_lit (w : World) (l : List Int) (hl : l.length ≤ 1000000) : (w.alloc (.cells (ints l).toArray 3)).ownsRow w.heap.size 3 1 (.slice (some ⟨w.heap.size, 0, none⟩) l.length l.length) l.length (ints l) :=
  ⟨by simp [ints], .inr ⟨w.heap.size, l.length, (ints l).toArray, rfl, Nat.le_refl _, heap_alloc_new w _, Nat.le_refl _, by unfold maxLen; omega, by simp [ints], by rw [Nat.mul_one]; exact List.take_of_length_le (by simp [ints])⟩⟩
theorem IntsR.lit (w : World) (l : List Int) (hl : l.length ≤ 1000000) : IntsR w l (.returned (.slice (some ⟨w.heap.size, 0, none⟩) l.length l.length)) (w.alloc (.cells (ints l).toArray 3)) :=
  ⟨_, _, rfl, own_lit w l hl, (Below.refl _ _).alloc (Nat.le_refl _) _⟩
theorem IntsR.nil0 (w : World) : IntsR w [] (.returned (.slice none 0 0)) w := ⟨none, 0, rfl, World.ownsRow_nil w _ _ _, Below.refl _ _⟩
set_option maxRecDepth 100000 in
set_option maxHeartbeats 4000000 in
theorem leads_any (i : Int) (x : ST) (b o : Nat) (w : World) {P : Nat → Prop} (hA : At w b o x) (hW : StOk w P x) (hl : x.ws.length ≤ 1000000) (h0 : 0 ≤ i) (h1 : i ≤ 1000000) : Calls Tryd.prog 35 #[.int .i64 i, .pointer (some ⟨b, o, none⟩)] w (IntsR w (ldL i x)) := by
  obtain ⟨RR, hRR⟩ : ∃ RR, RR = IntsR w (ldL i x) := ⟨_, rfl⟩
  rw [← hRR]
  have HRR := hid hRR
  have HFk := hid (forks_any x b o w hA hW hl)
  have hwr : wrap64 (i + 1) = i + 1 := by unfold wrap64; omega
  have c0 := hA.low.c0
  have c1 := hA.low.c1
  try simp only [Nat.add_zero] at c0
  clear hRR hA hW hl
  obtain ⟨xk, hxk⟩ : ∃ k, k = x.k := ⟨_, rfl⟩
  rw [← hxk] at c0
  have HK := hid hxk
  clear hxk
  by_cases hk16 : xk = 16
  · subst hk16
    have HF := hid (show ldL i x = [] from by unfold ldL; rw [← HK.out]; simp)
    go_enter Tryd.func35, Tryd.ntmps35
    go_wp2_with fail
    show RR (.returned (.slice none 0 0)) _
    rw [HRR.out, HF.out]
    exact IntsR.nil0 w
  have e16 : (xk == 16) = false := by simpa using hk16
  by_cases hk20 : xk = 20
  · subst hk20
    have HF := hid (show ldL i x = [] from by unfold ldL; rw [← HK.out]; simp)
    go_enter Tryd.func35, Tryd.ntmps35
    go_wp2_with fail
    show RR (.returned (.slice none 0 0)) _
    rw [HRR.out, HF.out]
    exact IntsR.nil0 w
  have e20 : (xk == 20) = false := by simpa using hk20
  by_cases hk11 : xk = 11
  · subst hk11
    have HF := hid (show ldL i x = [x.a] from by unfold ldL; rw [← HK.out]; simp)
    go_enter Tryd.func35, Tryd.ntmps35
    go_wp2_with fail
    show RR (.returned (.slice (some ⟨w.heap.size, 0, none⟩) 1 1)) _
    rw [HRR.out, HF.out]
    exact IntsR.lit w [x.a] (by simp)
  have e11 : (xk == 11) = false := by simpa using hk11
  by_cases hk10 : xk = 10
  · subst hk10
    have HF := hid (show ldL i x = [x.a, i + 1] from by unfold ldL; rw [← HK.out]; simp)
    go_enter Tryd.func35, Tryd.ntmps35
    go_wp2_with fail
    try rw [hwr]
    show RR (.returned (.slice (some ⟨w.heap.size, 0, none⟩) 2 2)) _
    rw [HRR.out, HF.out]
    exact IntsR.lit w [x.a, i + 1] (by simp)
  have e10 : (xk == 10) = false := by simpa using hk10
  by_cases hk12 : xk = 12
  · subst hk12
    have HF := hid (show ldL i x = [x.a, i + 1] from by unfold ldL; rw [← HK.out]; simp)
    go_enter Tryd.func35, Tryd.ntmps35
    go_wp2_with fail
    try rw [hwr]
    show RR (.returned (.slice (some ⟨w.heap.size, 0, none⟩) 2 2)) _
    rw [HRR.out, HF.out]
    exact IntsR.lit w [x.a, i + 1] (by simp)
  have e12 : (xk == 12) = false := by simpa using hk12
  by_cases hk15 : xk = 15
  · subst hk15
    have HF := hid (show ldL i x = [x.a, i + 1] from by unfold ldL; rw [← HK.out]; simp)
    go_enter Tryd.func35, Tryd.ntmps35
    go_wp2_with fail
    try rw [hwr]
    show RR (.returned (.slice (some ⟨w.heap.size, 0, none⟩) 2 2)) _
    rw [HRR.out, HF.out]
    exact IntsR.lit w [x.a, i + 1] (by simp)
  have e15 : (xk == 15) = false := by simpa using hk15
  by_cases hk13 : xk = 13
  · subst hk13
    have HF := hid (show ldL i x = fkL x from by unfold ldL; rw [← HK.out]; simp)
    go_enter Tryd.func35, Tryd.ntmps35
    go_wp2_with (go_at_call 44; (with_reducible refine HFk.out.mono ?_); rintro e w2 ⟨A, c, rfl, hR1, hR2⟩)
    show RR (.returned (.slice A (fkL x).length c)) w2
    rw [HRR.out, HF.out]
    exact ⟨A, c, rfl, hR1, hR2⟩
  have e13 : (xk == 13) = false := by simpa using hk13
  by_cases hk14 : xk = 14
  · subst hk14
    have HF := hid (show ldL i x = fkL x from by unfold ldL; rw [← HK.out]; simp)
    go_enter Tryd.func35, Tryd.ntmps35
    go_wp2_with (go_at_call 44; (with_reducible refine HFk.out.mono ?_); rintro e w2 ⟨A, c, rfl, hR1, hR2⟩)
    show RR (.returned (.slice A (fkL x).length c)) w2
    rw [HRR.out, HF.out]
    exact ⟨A, c, rfl, hR1, hR2⟩
  have e14 : (xk == 14) = false := by simpa using hk14
  have HF := hid (show ldL i x = [i + 1] from by unfold ldL; rw [← HK.out]; simp [hk16, hk20, hk11, hk10, hk12, hk15, hk13, hk14])
  clear hk16 hk20 hk11 hk10 hk12 hk15 hk13 hk14
  go_enter Tryd.func35, Tryd.ntmps35
  go_wp2_with fail
  try rw [hwr]
  show RR (.returned (.slice (some ⟨w.heap.size, 0, none⟩) 1 1)) _
  rw [HRR.out, HF.out]
  exact IntsR.lit w [i + 1] (by simp)
end Go.Proofs.YtpbkdokhlimpfaaDoor
