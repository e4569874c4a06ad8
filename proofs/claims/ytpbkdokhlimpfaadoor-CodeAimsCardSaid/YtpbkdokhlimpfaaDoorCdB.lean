/- code: may a step be. -/
import Derived.Test.YtpbkdokhlimpfaaDoorCdA
import Derived.Deep.CutRange
import Derived.Deep.RegionWith
namespace Go.Proofs.YtpbkdokhlimpfaaDoor
set_option linter.unusedSimpArgs false
set_option linter.unusedVariables false
open Go.RowKit

theorem row_new (w : World) (T : TypeId) (zs cs : Array Value) : Below w.heap.size w ((w.alloc (.cells zs T)).setRow w.heap.size cs) :=
  below_row ((Below.refl _ _).alloc (Nat.le_refl _) _) (Nat.le_refl _) cs
set_option maxRecDepth 100000 in
set_option maxHeartbeats 1000000 in
theorem among_any (i m : Int) (w : World) : Calls Tryd.prog 33 #[.int .i64 i, .int .i64 m] w fun e w' => e = .returned (.bool (amg i m)) ∧ w' = w := by
  by_cases h1 : 0 ≤ i
  · by_cases h2 : i < m
    · go_enter Tryd.func33, Tryd.ntmps33
      go_wp2_with fail
      go_ret
      exact ⟨by simp [amg, h1, h2], rfl⟩
    · go_enter Tryd.func33, Tryd.ntmps33
      go_wp2_with fail
      go_ret
      exact ⟨by simp [amg, h1, h2], rfl⟩
  · go_enter Tryd.func33, Tryd.ntmps33
    go_wp2_with fail
    go_ret
    exact ⟨by unfold amg; rw [show decide (0 ≤ i) = false from decide_eq_false (by omega)]; rfl, rfl⟩
set_option maxRecDepth 100000 in
set_option maxHeartbeats 1000000 in
theorem few_any (i : Int) (w : World) : Calls Tryd.prog 24 #[.int .i64 i] w fun e w' => e = .returned (.bool (decide (0 ≤ i) && decide (i ≤ 4096))) ∧ w' = w := by
  by_cases h1 : 0 ≤ i
  · by_cases h2 : i ≤ 4096
    · go_enter Tryd.func24, Tryd.ntmps24
      go_wp2_with fail
      go_ret
      exact ⟨by simp [h1, h2], rfl⟩
    · go_enter Tryd.func24, Tryd.ntmps24
      go_wp2_with fail
      go_ret
      exact ⟨by simp [h1, h2], rfl⟩
  · go_enter Tryd.func24, Tryd.ntmps24
    go_wp2_with fail
    go_ret
    exact ⟨by rw [show decide (0 ≤ i) = false from decide_eq_false (by omega)]; rfl, rfl⟩
set_option maxRecDepth 100000 in
set_option maxHeartbeats 1000000 in
theorem has_any (p : PT) (i : Int) (w : World) : Calls Tryd.prog 32 #[p.val, .int .i64 i] w fun e w' => e = .returned (.bool (amg i p.S.n)) ∧ Below w.heap.size w w' := by
  obtain ⟨hb, h1⟩ := box_prog w p
  have hpc : p.cells.toArray = #[.slice p.S.A p.S.n p.S.c, .int .i64 p.sl, .int .i64 p.su, .int .i64 p.au] := rfl
  rw [hpc] at hb h1
  obtain ⟨x0, x1, x2, x3⟩ := h1.four
  have HB := hid hb
  have HAm := hid (fun W => among_any i p.S.n W)
  clear hb h1 hpc
  unfold PT.val
  obtain ⟨ss, ⟨A, n, c⟩, sl, su, au⟩ := p
  simp only at *
  go_enter Tryd.func32, Tryd.ntmps32
  go_wp2_with (go_at_call 33; (with_reducible refine (HAm.out _).mono ?_); rintro e w4 ⟨rfl, rfl⟩)
  go_ret
  exact ⟨rfl, HB.out⟩
set_option maxRecDepth 100000 in
set_option maxHeartbeats 4000000 in
theorem number_any (p : PT) (x : ST) (b o : Nat) (w : World) (hA : At w b o x) : Calls Tryd.prog 36 #[p.val, .pointer (some ⟨b, o, none⟩)] w fun e w' => e = .returned (.bool (numS p x)) ∧ Below w.heap.size w w' := by
  obtain ⟨hb, h1⟩ := box_prog w p
  have hpc : p.cells.toArray = #[.slice p.S.A p.S.n p.S.c, .int .i64 p.sl, .int .i64 p.su, .int .i64 p.au] := rfl
  have hL := (hA.keep (hb.block b hA.lt)).low
  rw [hpc] at hb h1 hL
  obtain ⟨x0, x1, x2, x3⟩ := h1.four
  obtain ⟨c0, c1, c2, c4, c5, c8, _⟩ := hL
  have HB := hid hb
  have HAm := hid (fun W => among_any x.b p.sl W)
  obtain ⟨RR, hRR⟩ : ∃ RR : Ending → World → Prop, RR = fun e w' => e = .returned (.bool (numS p x)) ∧ Below w.heap.size w w' := ⟨_, rfl⟩
  rw [← hRR]
  have HRR := hid hRR
  have HN := hid (show numS p x = ((decide (x.b = -1) || amg x.b p.sl) && decide (x.mn ≤ x.mx)) from rfl)
  clear hb h1 hpc hA hRR
  unfold PT.val
  obtain ⟨am, ham⟩ : ∃ am, am = amg x.b p.sl := ⟨_, rfl⟩
  rw [← ham] at HAm HN
  obtain ⟨ss, ⟨A, n, c⟩, sl, su, au⟩ := p
  obtain ⟨k, a, xb, fl, mn, mx, mu, ad, ws, bs, W⟩ := x
  simp only at *
  clear ham
  go_enter Tryd.func36, Tryd.ntmps36
  go_upto_region 1 with (fail)
  generalize w.alloc (.cells #[.slice A n c, .int .i64 sl, .int .i64 su, .int .i64 au] 24) = w1 at *
  have HD := hid (fun n => Chg.below (S := fun _ => False) HB.out ((Chg.refl w1 _).drewN n) HB.out.size (fun _ h => h.elim))
  by_cases hb : xb = -1
  · have hb' : (xb == -1) = true := by simpa using hb
    go_quiet (fail)
    go_wp2_with fail
    show RR (.returned (.bool _)) _
    rw [HRR.out, HN.out]
    exact ⟨by simp [hb], HD.out _⟩
  · have hb' : (xb == -1) = false := by simpa using hb
    cases am
    · go_quiet (first | (go_at_call 33; refine Calls.quiet_of_same (HAm.out _)))
      go_wp2_with fail
      show RR (.returned (.bool _)) _
      rw [HRR.out, HN.out]
      exact ⟨by simp [hb], HD.out _⟩
    · go_quiet (first | (go_at_call 33; refine Calls.quiet_of_same (HAm.out _)))
      go_wp2_with fail
      show RR (.returned (.bool _)) _
      rw [HRR.out, HN.out]
      exact ⟨by simp [hb], HD.out _⟩
end Go.Proofs.YtpbkdokhlimpfaaDoor
