/- code: may a step be, by its kind. -/
import Derived.Test.YtpbkdokhlimpfaaDoorCdE
namespace Go.Proofs.YtpbkdokhlimpfaaDoor
set_option linter.unusedSimpArgs false
set_option linter.unusedVariables false
open Go.RowKit

set_option maxRecDepth 100000 in
set_option maxHeartbeats 16000000 in
theorem may_any (p : PT) (x : ST) (b o : Nat) (w : World) {P : Nat → Prop} (hA : At w b o x) (hW : StOk w P x) (hn : p.S.n = p.ss.length) (hl : x.ws.length ≤ 1000000) : Calls Tryd.prog 25 #[p.val, .pointer (some ⟨b, o, none⟩)] w fun e w' => e = .returned (.bool (mayS p x)) ∧ Below w.heap.size w w' := by
  by_cases h13 : x.k = 13
  · exact may_13 p x b o w hA hW hn hl h13
  obtain ⟨hb, h1⟩ := box_prog w p
  have hpc : p.cells.toArray = #[.slice p.S.A p.S.n p.S.c, .int .i64 p.sl, .int .i64 p.su, .int .i64 p.au] := rfl
  rw [hpc] at hb h1
  have HX := hid h1
  have HB := hid hb
  have hA1 := hA.keep (hb.block b hA.lt)
  have HAt := hid hA1
  have hL := hA1.low
  have HWk := hid (hW.keep hb)
  obtain ⟨x0, x1, x2, x3⟩ := h1.four
  obtain ⟨c0, c1, c2, c4, c5, c8, _⟩ := hL
  have HAm := hid (fun i m W => among_any i m W)
  have HH := hid (fun i W => has_any p i W)
  have HNu := hid (number_any p x b o _ hA1)
  have HFk := hid (forked_any p x b o _ hA1 (hW.keep hb) hn hl)
  have HNe := hid hn
  have HFq := hid (fun W (hh : Below (w.alloc (.cells #[.slice p.S.A p.S.n p.S.c, .int .i64 p.sl, .int .i64 p.su, .int .i64 p.au] 24)).heap.size _ W) => forked_any p x b o W (hA1.keep (hh.block b hA1.lt)) ((hW.keep hb).keep hh) hn hl)
  have HFa := hid (fun W (hh : Below (w.alloc (.cells #[.slice p.S.A p.S.n p.S.c, .int .i64 p.sl, .int .i64 p.su, .int .i64 p.au] 24)).heap.size _ W) => And.intro (BoxP.four (p := p) (Blk.keep h1 hh)) (hA1.keep (hh.block b hA1.lt)).low)
  obtain ⟨RR, hRR⟩ : ∃ RR : Ending → World → Prop, RR = fun e w' => e = .returned (.bool (mayS p x)) ∧ Below w.heap.size w w' := ⟨_, rfl⟩
  rw [← hRR]
  have HRR := hid hRR
  clear hb h1 hpc hA hRR hA1 hW hn hl
  obtain ⟨nb, hnb⟩ : ∃ nb, nb = numS p x := ⟨_, rfl⟩
  rw [← hnb] at HNu
  have HNm := hid hnb.symm
  obtain ⟨fk, hfk⟩ : ∃ fk, fk = frkS p x := ⟨_, rfl⟩
  rw [← hfk] at HFk HFq
  have HFe := hid hfk
  clear hnb hfk
  unfold PT.val at *
  obtain ⟨ss, ⟨A, n, c⟩, sl, su, au⟩ := p
  obtain ⟨k, a, xb, fl, mn, mx, mu, ad, ws, bs, W⟩ := x
  simp only at *
  go_enter Tryd.func25, Tryd.ntmps25
  go_upto_region 1 with (fail)
  generalize w.alloc (.cells #[.slice A n c, .int .i64 sl, .int .i64 su, .int .i64 au] 24) = w1 at *
  have HD := hid (fun n => Chg.below (S := fun _ => False) HB.out ((Chg.refl w1 _).drewN n) HB.out.size (fun _ h => h.elim))
  have HD0 := hid (below_then' HB.out (below_d0' w1))
  by_cases h1k : k = 1
  · subst h1k
    go_wp2_with fail
    show RR (.returned (.bool _)) _
    rw [HRR.out]
    exact ⟨by simp [mayS], HB.out⟩
  have g1 : (k == 1) = false := by simpa using h1k
  by_cases h2k : k = 2
  · subst h2k
    go_wp2_with fail
    show RR (.returned (.bool _)) _
    rw [HRR.out]
    exact ⟨by simp [mayS], HB.out⟩
  have g2 : (k == 2) = false := by simpa using h2k
  by_cases h8k : k = 8
  · subst h8k
    go_wp2_with fail
    show RR (.returned (.bool _)) _
    rw [HRR.out]
    exact ⟨by simp [mayS], HB.out⟩
  have g8 : (k == 8) = false := by simpa using h8k
  by_cases h16k : k = 16
  · subst h16k
    go_wp2_with fail
    show RR (.returned (.bool _)) _
    rw [HRR.out]
    exact ⟨by simp [mayS], HB.out⟩
  have g16 : (k == 16) = false := by simpa using h16k
  by_cases h20k : k = 20
  · subst h20k
    go_wp2_with fail
    show RR (.returned (.bool _)) _
    rw [HRR.out]
    exact ⟨by simp [mayS], HB.out⟩
  have g20 : (k == 20) = false := by simpa using h20k
  by_cases h3k : k = 3
  · subst h3k
    by_cases h1 : 1 ≤ a
    · by_cases h2 : a ≤ 8
      · go_wp2_with (go_at_call 36; (with_reducible refine HNu.out.mono ?_); rintro e w4 ⟨rfl, hb4⟩; have HB4 := hid (below_then' HB.out hb4); clear hb4)
        show RR (.returned (.bool _)) _
        rw [HRR.out]
        exact ⟨by simp [mayS, h1, h2, HNm.out], HB4.out⟩
      · go_wp2_with fail
        show RR (.returned (.bool _)) _
        rw [HRR.out]
        exact ⟨by simp [mayS, show decide (a ≤ 8) = false from decide_eq_false (by omega)], HB.out⟩
    · go_wp2_with fail
      show RR (.returned (.bool _)) _
      rw [HRR.out]
      exact ⟨by simp [mayS, show decide (1 ≤ a) = false from decide_eq_false (by omega)], HB.out⟩
  have g3 : (k == 3) = false := by simpa using h3k
  by_cases h4k : k = 4
  · subst h4k
    go_wp2_with (go_at_call 36; (with_reducible refine HNu.out.mono ?_); rintro e w4 ⟨rfl, hb4⟩; have HB4 := hid (below_then' HB.out hb4); clear hb4)
    show RR (.returned (.bool _)) _
    rw [HRR.out]
    exact ⟨by simp [mayS, HNm.out], HB4.out⟩
  have g4 : (k == 4) = false := by simpa using h4k
  by_cases h5k : k = 5
  · subst h5k
    go_upto_region 13 with (fail)
    go_quiet (first | (go_at_call 33; refine Calls.quiet_of_same (HAm.out _ _ _)))
    go_wp2_with fail
    show RR (.returned (.bool _)) _
    rw [HRR.out]
    exact ⟨by simp [mayS], HD.out _⟩
  have g5 : (k == 5) = false := by simpa using h5k
  by_cases h6k : k = 6
  · subst h6k
    by_cases h1 : a = -1
    · have h1b : (a == -1) = true := by simpa using h1
      go_upto_region 17 with (fail)
      go_quiet (first | (go_at_call 33; refine Calls.quiet_of_same (HAm.out _ _ _)))
      go_wp2_with fail
      show RR (.returned (.bool _)) _
      rw [HRR.out]
      exact ⟨by simp [mayS, h1], HD.out _⟩
    · have h1b : (a == -1) = false := by simpa using h1
      go_upto_region 17 with (fail)
      go_quiet (first | (go_at_call 33; refine Calls.quiet_of_same (HAm.out _ _ _)))
      go_wp2_with fail
      show RR (.returned (.bool _)) _
      rw [HRR.out]
      exact ⟨by simp [mayS, h1], HD.out _⟩
  have g6 : (k == 6) = false := by simpa using h6k
  by_cases h7k : k = 7
  · subst h7k
    by_cases h1 : a = -1
    · have h1b : (a == -1) = true := by simpa using h1
      go_upto_region 17 with (fail)
      go_quiet (first | (go_at_call 33; refine Calls.quiet_of_same (HAm.out _ _ _)))
      go_wp2_with fail
      show RR (.returned (.bool _)) _
      rw [HRR.out]
      exact ⟨by simp [mayS, h1], HD.out _⟩
    · have h1b : (a == -1) = false := by simpa using h1
      go_upto_region 17 with (fail)
      go_quiet (first | (go_at_call 33; refine Calls.quiet_of_same (HAm.out _ _ _)))
      go_wp2_with fail
      show RR (.returned (.bool _)) _
      rw [HRR.out]
      exact ⟨by simp [mayS, h1], HD.out _⟩
  have g7 : (k == 7) = false := by simpa using h7k
  by_cases h9k : k = 9
  · subst h9k
    by_cases h1 : a = -1
    · have h1b : (a == -1) = true := by simpa using h1
      go_upto_region 17 with (fail)
      go_quiet (first | (go_at_call 33; refine Calls.quiet_of_same (HAm.out _ _ _)))
      go_wp2_with fail
      show RR (.returned (.bool _)) _
      rw [HRR.out]
      exact ⟨by simp [mayS, h1], HD.out _⟩
    · have h1b : (a == -1) = false := by simpa using h1
      go_upto_region 17 with (fail)
      go_quiet (first | (go_at_call 33; refine Calls.quiet_of_same (HAm.out _ _ _)))
      go_wp2_with fail
      show RR (.returned (.bool _)) _
      rw [HRR.out]
      exact ⟨by simp [mayS, h1], HD.out _⟩
  have g9 : (k == 9) = false := by simpa using h9k
  by_cases h10k : k = 10
  · subst h10k
    go_upto_region 22 with (fail)
    clear c0 c1 c2 c4 c5 c8 x0 x1 x2 x3
    have hd := HD.out 1
    obtain ⟨⟨x0, x1, x2, x3⟩, ⟨c0, c1, c2, c4, c5, c8, _⟩⟩ := HFa.out _ (below_d0' w1)
    simp only at x0 x1 x2 x3 c0 c1 c2 c4 c5 c8
    go_region_with (first | (go_at_call 32; (with_reducible refine (HH.out a _).mono ?_); rintro e w4 ⟨rfl, hb4⟩; have HB4 := hid (below_then' (HD0.out) hb4); clear hb4))
    all_goals
      go_wp2_with fail
      go_ret
      show RR (.returned (.bool _)) _
      rw [HRR.out]
      exact ⟨by simp [mayS, HNe.out], HB4.out⟩
  have g10 : (k == 10) = false := by simpa using h10k
  by_cases h11k : k = 11
  · subst h11k
    go_upto_region 22 with (fail)
    clear c0 c1 c2 c4 c5 c8 x0 x1 x2 x3
    have hd := HD.out 1
    obtain ⟨⟨x0, x1, x2, x3⟩, ⟨c0, c1, c2, c4, c5, c8, _⟩⟩ := HFa.out _ (below_d0' w1)
    simp only at x0 x1 x2 x3 c0 c1 c2 c4 c5 c8
    go_region_with (first | (go_at_call 32; (with_reducible refine (HH.out a _).mono ?_); rintro e w4 ⟨rfl, hb4⟩; have HB4 := hid (below_then' (HD0.out) hb4); clear hb4))
    all_goals
      go_wp2_with fail
      go_ret
      show RR (.returned (.bool _)) _
      rw [HRR.out]
      exact ⟨by simp [mayS, HNe.out], HB4.out⟩
  have g11 : (k == 11) = false := by simpa using h11k
  by_cases h12k : k = 12
  · subst h12k
    go_upto_region 22 with (fail)
    clear c0 c1 c2 c4 c5 c8 x0 x1 x2 x3
    have hd := HD.out 1
    obtain ⟨⟨x0, x1, x2, x3⟩, ⟨c0, c1, c2, c4, c5, c8, _⟩⟩ := HFa.out _ (below_d0' w1)
    simp only at x0 x1 x2 x3 c0 c1 c2 c4 c5 c8
    go_region_with (first | (go_at_call 32; (with_reducible refine (HH.out a _).mono ?_); rintro e w4 ⟨rfl, hb4⟩; have HB4 := hid (below_then' (HD0.out) hb4); clear hb4))
    all_goals
      go_wp2_with fail
      go_ret
      show RR (.returned (.bool _)) _
      rw [HRR.out]
      exact ⟨by simp [mayS, HNe.out], HB4.out⟩
  have g12 : (k == 12) = false := by simpa using h12k
  by_cases h15k : k = 15
  · subst h15k
    go_upto_region 22 with (fail)
    clear c0 c1 c2 c4 c5 c8 x0 x1 x2 x3
    have hd := HD.out 1
    obtain ⟨⟨x0, x1, x2, x3⟩, ⟨c0, c1, c2, c4, c5, c8, _⟩⟩ := HFa.out _ (below_d0' w1)
    simp only at x0 x1 x2 x3 c0 c1 c2 c4 c5 c8
    go_region_with (first | (go_at_call 32; (with_reducible refine (HH.out a _).mono ?_); rintro e w4 ⟨rfl, hb4⟩; have HB4 := hid (below_then' (HD0.out) hb4); clear hb4))
    all_goals
      go_wp2_with fail
      go_ret
      show RR (.returned (.bool _)) _
      rw [HRR.out]
      exact ⟨by simp [mayS, HNe.out], HB4.out⟩
  have g15 : (k == 15) = false := by simpa using h15k
  by_cases h17k : k = 17
  · subst h17k
    go_upto_region 25 with (fail)
    go_quiet (first | (go_at_call 33; refine Calls.quiet_of_same (HAm.out _ _ _)))
    go_wp2_with fail
    show RR (.returned (.bool _)) _
    rw [HRR.out]
    exact ⟨by simp [mayS], HD.out _⟩
  have g17 : (k == 17) = false := by simpa using h17k
  by_cases h18k : k = 18
  · subst h18k
    go_upto_region 25 with (fail)
    go_quiet (first | (go_at_call 33; refine Calls.quiet_of_same (HAm.out _ _ _)))
    go_wp2_with fail
    show RR (.returned (.bool _)) _
    rw [HRR.out]
    exact ⟨by simp [mayS], HD.out _⟩
  have g18 : (k == 18) = false := by simpa using h18k
  by_cases h19k : k = 19
  · subst h19k
    obtain ⟨m1, hm1⟩ : ∃ m1, m1 = amg a su := ⟨_, rfl⟩
    have HA1 := hid (show ∀ W, Calls Tryd.prog 33 #[.int .i64 a, .int .i64 su] W (fun e w' => e = .returned (.bool m1) ∧ w' = W) from fun W => by rw [hm1]; exact among_any a su W)
    have HM1 := hid hm1
    clear hm1
    cases m1
    · go_upto_region 27 with (fail)
      go_quiet (first | (go_at_call 33; first | (with_reducible refine Calls.quiet_of_same (HA1.out _)) | (refine Calls.quiet_of_same (HAm.out _ _ _))))
      go_wp2_with fail
      show RR (.returned (.bool _)) _
      rw [HRR.out]
      exact ⟨by simp [mayS, ← HM1.out], HD.out _⟩
    · go_upto_region 27 with (fail)
      go_quiet (first | (go_at_call 33; first | (with_reducible refine Calls.quiet_of_same (HA1.out _)) | (refine Calls.quiet_of_same (HAm.out _ _ _))))
      go_wp2_with fail
      show RR (.returned (.bool _)) _
      rw [HRR.out]
      exact ⟨by simp [mayS, ← HM1.out], HD.out _⟩
  have g19 : (k == 19) = false := by simpa using h19k
  by_cases h13k : k = 13
  · subst h13k
    exact absurd rfl h13
  have g13 : (k == 13) = false := by simpa using h13k
  by_cases h14k : k = 14
  · subst h14k
    cases fk
    · go_wp2_with (first | (go_at_call 37; (with_reducible refine HFk.out.mono ?_); rintro e w4 ⟨rfl, hb4⟩; have HB4 := hid (below_then' HB.out hb4); have HAt4 := hid (HAt.out.keep (hb4.block b HAt.out.lt)); have HW4 := hid (HWk.out.keep hb4); clear hb4))
      show RR (.returned (.bool _)) _
      rw [HRR.out]
      exact ⟨by simp [mayS, ← HFe.out], HB4.out⟩
    · go_wp2_with (first | (go_at_call 37; (with_reducible refine HFk.out.mono ?_); rintro e w4 ⟨rfl, hb4⟩; have HB4 := hid (below_then' HB.out hb4); have HAt4 := hid (HAt.out.keep (hb4.block b HAt.out.lt)); have HW4 := hid (HWk.out.keep hb4); clear hb4) | (go_at_call 38; (with_reducible refine (picked_any _ b o _ HAt4.out HW4.out).mono ?_); rintro e w5 ⟨rfl, rfl⟩))
      show RR (.returned (.bool _)) _
      rw [HRR.out]
      exact ⟨by simp [mayS, ← HFe.out], HB4.out⟩
  have g14 : (k == 14) = false := by simpa using h14k
  go_wp2_with fail
  show RR (.returned (.bool _)) _
  rw [HRR.out]
  exact ⟨by simp [mayS, h1k, h2k, h8k, h16k, h20k, h3k, h4k, h5k, h6k, h7k, h9k, h10k, h11k, h12k, h15k, h17k, h18k, h19k, h13k, h14k], HB.out⟩
end Go.Proofs.YtpbkdokhlimpfaaDoor
