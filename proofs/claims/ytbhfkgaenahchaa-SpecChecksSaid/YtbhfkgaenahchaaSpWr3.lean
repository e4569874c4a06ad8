/- spec: the laws' own error of a type by itself: kinds 10 to 13, and what is none. -/
import Derived.Test.YtbhfkgaenahchaaSpG
namespace Go.Proofs.Ytbhfkgaenahchaa
set_option linter.unusedSimpArgs false
set_option linter.unusedVariables false
open Go.RowKit

set_option maxRecDepth 100000 in
set_option maxHeartbeats 16000000 in
theorem wrong_10 (x : NV) (w : World) (hk : x.t.k = 10) : Calls Try.prog 9 #[x.val] w fun e w' => e = .returned (.int .i64 (ckV x : Nat)) ∧ Below w.heap.size w w' := by
  obtain ⟨cs, hv, hbx⟩ := nbox x
  obtain ⟨hA, hN⟩ := hbx w
  have HA := hid hA
  obtain ⟨x0, x1, x2, x3, x4, x5, x6, x7, x8, x9, x10, x11, x12, x13, x14, x15, x16, x17⟩ := hN.cells
  obtain ⟨R, hR⟩ : ∃ R, R = ckV x := ⟨_, rfl⟩
  rw [← hR, hv]
  unfold ckV foB at hR
  rw [hk] at x0 hR
  have HR := hid hR
  clear hR hA hN hbx hv
  generalize x.K.n = Kn at *
  generalize x.L.n = Ln at *
  generalize x.F.n = Fn at *
  generalize x.C.n = Cn at *
  generalize x.t.k = k at *
  generalize x.t.wd = wd at *
  generalize x.t.li = li at *
  generalize x.t.zg = zg at *
  generalize x.t.le = le at *
  generalize x.t.mn = mn at *
  generalize x.t.mx = mx at *
  generalize x.t.tx = tx at *
  generalize x.t.er = er at *
  generalize x.t.mu = mu at *
  generalize x.t.ad = ad at *
  generalize x.t.rg = rg at *
  generalize x.t.md = md at *
  generalize x.t.el = el at *
  clear hk
  go_enter Try.func9, Try.ntmps9
  go_wp2
  all_goals go_ret
  all_goals refine ⟨?_, HA.out⟩
  all_goals clear HA x0 x1 x2 x3 x4 x5 x6 x7 x8 x9 x10 x11 x12 x13 x14 x15 x16 x17
  all_goals have hR := HR.out
  all_goals clear HR
  all_goals subst hR
  all_goals first
    | (have h1k2 : ¬ (1 : Int) ≤ k := (by omega); rw [decide_eq_false h1k2]; simp; done)
    | (have h1k2 : ¬ k ≤ (13 : Int) := (by omega); rw [decide_eq_false h1k2, Bool.and_false]; simp; done)
    | (simp_all [kidB, swB, wrB, wdB, mostV, mostF, Nat.pos_iff_ne_zero]; done)
    | (simp_all [kidB, swB, wrB, wdB, mostV, mostF, Nat.pos_iff_ne_zero] <;> omega)
    | (simp_all [kidB, swB, wrB, wdB, mostV, mostF, Nat.pos_iff_ne_zero]; split <;> simp_all <;> omega)
    | (have hLK : Ln = Kn := (by omega); have hKb : Kn ≤ 64 := (by omega); subst hLK; simp_all [kidB, swB, wrB, wdB, mostV, mostF, Nat.pos_iff_ne_zero, Nat.max_def]; done)
    | (have hLK : Ln = Kn := (by omega); have hKb : Kn ≤ 64 := (by omega); subst hLK; simp_all [kidB, swB, wrB, wdB, mostV, mostF, Nat.pos_iff_ne_zero, Nat.max_def] <;> (split <;> omega))
    | (have hLK : Ln = Kn := (by omega); have hKb : 64 < Kn := (by omega); subst hLK; simp_all [kidB, swB, wrB, wdB, mostV, mostF, Nat.pos_iff_ne_zero, Nat.max_def]; done)
    | (have hLK : Ln = Kn := (by omega); have hKb : 64 < Kn := (by omega); subst hLK; simp_all [kidB, swB, wrB, wdB, mostV, mostF, Nat.pos_iff_ne_zero, Nat.max_def] <;> (split <;> omega))
    | (have hLK : Ln ≠ Kn := (by omega); simp_all [kidB, swB, wrB, wdB, mostV, mostF, Nat.pos_iff_ne_zero, Nat.max_def]; done)
    | (have hLK : Ln ≠ Kn := (by omega); simp_all [kidB, swB, wrB, wdB, mostV, mostF, Nat.pos_iff_ne_zero, Nat.max_def] <;> omega)
    | (cases her : er.toList.isEmpty <;> by_cases hm : mu = 0 <;> simp_all [kidB, swB, wrB, wdB, mostV, mostF, Nat.pos_iff_ne_zero] <;> done)
    | (have hK1 : Kn = 1 := (by omega); subst hK1; cases her : er.toList.isEmpty <;> by_cases hm : mu = 0 <;> simp_all [kidB, swB, wrB, wdB, mostV, mostF, Nat.pos_iff_ne_zero] <;> done)
    | (exfalso; omega)
set_option maxRecDepth 100000 in
set_option maxHeartbeats 16000000 in
theorem wrong_11 (x : NV) (w : World) (hk : x.t.k = 11) : Calls Try.prog 9 #[x.val] w fun e w' => e = .returned (.int .i64 (ckV x : Nat)) ∧ Below w.heap.size w w' := by
  obtain ⟨cs, hv, hbx⟩ := nbox x
  obtain ⟨hA, hN⟩ := hbx w
  have HA := hid hA
  obtain ⟨x0, x1, x2, x3, x4, x5, x6, x7, x8, x9, x10, x11, x12, x13, x14, x15, x16, x17⟩ := hN.cells
  obtain ⟨R, hR⟩ : ∃ R, R = ckV x := ⟨_, rfl⟩
  rw [← hR, hv]
  unfold ckV foB at hR
  rw [hk] at x0 hR
  have HR := hid hR
  clear hR hA hN hbx hv
  generalize x.K.n = Kn at *
  generalize x.L.n = Ln at *
  generalize x.F.n = Fn at *
  generalize x.C.n = Cn at *
  generalize x.t.k = k at *
  generalize x.t.wd = wd at *
  generalize x.t.li = li at *
  generalize x.t.zg = zg at *
  generalize x.t.le = le at *
  generalize x.t.mn = mn at *
  generalize x.t.mx = mx at *
  generalize x.t.tx = tx at *
  generalize x.t.er = er at *
  generalize x.t.mu = mu at *
  generalize x.t.ad = ad at *
  generalize x.t.rg = rg at *
  generalize x.t.md = md at *
  generalize x.t.el = el at *
  clear hk
  go_enter Try.func9, Try.ntmps9
  go_wp2
  all_goals go_ret
  all_goals refine ⟨?_, HA.out⟩
  all_goals clear HA x0 x1 x2 x3 x4 x5 x6 x7 x8 x9 x10 x11 x12 x13 x14 x15 x16 x17
  all_goals have hR := HR.out
  all_goals clear HR
  all_goals subst hR
  all_goals first
    | (have h1k2 : ¬ (1 : Int) ≤ k := (by omega); rw [decide_eq_false h1k2]; simp; done)
    | (have h1k2 : ¬ k ≤ (13 : Int) := (by omega); rw [decide_eq_false h1k2, Bool.and_false]; simp; done)
    | (simp_all [kidB, swB, wrB, wdB, mostV, mostF, Nat.pos_iff_ne_zero]; done)
    | (simp_all [kidB, swB, wrB, wdB, mostV, mostF, Nat.pos_iff_ne_zero] <;> omega)
    | (simp_all [kidB, swB, wrB, wdB, mostV, mostF, Nat.pos_iff_ne_zero]; split <;> simp_all <;> omega)
    | (have hLK : Ln = Kn := (by omega); have hKb : Kn ≤ 64 := (by omega); subst hLK; simp_all [kidB, swB, wrB, wdB, mostV, mostF, Nat.pos_iff_ne_zero, Nat.max_def]; done)
    | (have hLK : Ln = Kn := (by omega); have hKb : Kn ≤ 64 := (by omega); subst hLK; simp_all [kidB, swB, wrB, wdB, mostV, mostF, Nat.pos_iff_ne_zero, Nat.max_def] <;> (split <;> omega))
    | (have hLK : Ln = Kn := (by omega); have hKb : 64 < Kn := (by omega); subst hLK; simp_all [kidB, swB, wrB, wdB, mostV, mostF, Nat.pos_iff_ne_zero, Nat.max_def]; done)
    | (have hLK : Ln = Kn := (by omega); have hKb : 64 < Kn := (by omega); subst hLK; simp_all [kidB, swB, wrB, wdB, mostV, mostF, Nat.pos_iff_ne_zero, Nat.max_def] <;> (split <;> omega))
    | (have hLK : Ln ≠ Kn := (by omega); simp_all [kidB, swB, wrB, wdB, mostV, mostF, Nat.pos_iff_ne_zero, Nat.max_def]; done)
    | (have hLK : Ln ≠ Kn := (by omega); simp_all [kidB, swB, wrB, wdB, mostV, mostF, Nat.pos_iff_ne_zero, Nat.max_def] <;> omega)
    | (cases her : er.toList.isEmpty <;> by_cases hm : mu = 0 <;> simp_all [kidB, swB, wrB, wdB, mostV, mostF, Nat.pos_iff_ne_zero] <;> done)
    | (have hK1 : Kn = 1 := (by omega); subst hK1; cases her : er.toList.isEmpty <;> by_cases hm : mu = 0 <;> simp_all [kidB, swB, wrB, wdB, mostV, mostF, Nat.pos_iff_ne_zero] <;> done)
    | (exfalso; omega)
set_option maxRecDepth 100000 in
set_option maxHeartbeats 16000000 in
theorem wrong_12 (x : NV) (w : World) (hk : x.t.k = 12) : Calls Try.prog 9 #[x.val] w fun e w' => e = .returned (.int .i64 (ckV x : Nat)) ∧ Below w.heap.size w w' := by
  obtain ⟨cs, hv, hbx⟩ := nbox x
  obtain ⟨hA, hN⟩ := hbx w
  have HA := hid hA
  obtain ⟨x0, x1, x2, x3, x4, x5, x6, x7, x8, x9, x10, x11, x12, x13, x14, x15, x16, x17⟩ := hN.cells
  obtain ⟨R, hR⟩ : ∃ R, R = ckV x := ⟨_, rfl⟩
  rw [← hR, hv]
  unfold ckV foB at hR
  rw [hk] at x0 hR
  have HR := hid hR
  clear hR hA hN hbx hv
  generalize x.K.n = Kn at *
  generalize x.L.n = Ln at *
  generalize x.F.n = Fn at *
  generalize x.C.n = Cn at *
  generalize x.t.k = k at *
  generalize x.t.wd = wd at *
  generalize x.t.li = li at *
  generalize x.t.zg = zg at *
  generalize x.t.le = le at *
  generalize x.t.mn = mn at *
  generalize x.t.mx = mx at *
  generalize x.t.tx = tx at *
  generalize x.t.er = er at *
  generalize x.t.mu = mu at *
  generalize x.t.ad = ad at *
  generalize x.t.rg = rg at *
  generalize x.t.md = md at *
  generalize x.t.el = el at *
  clear hk
  go_enter Try.func9, Try.ntmps9
  go_wp2
  all_goals go_ret
  all_goals refine ⟨?_, HA.out⟩
  all_goals clear HA x0 x1 x2 x3 x4 x5 x6 x7 x8 x9 x10 x11 x12 x13 x14 x15 x16 x17
  all_goals have hR := HR.out
  all_goals clear HR
  all_goals subst hR
  all_goals first
    | (have h1k2 : ¬ (1 : Int) ≤ k := (by omega); rw [decide_eq_false h1k2]; simp; done)
    | (have h1k2 : ¬ k ≤ (13 : Int) := (by omega); rw [decide_eq_false h1k2, Bool.and_false]; simp; done)
    | (simp_all [kidB, swB, wrB, wdB, mostV, mostF, Nat.pos_iff_ne_zero]; done)
    | (simp_all [kidB, swB, wrB, wdB, mostV, mostF, Nat.pos_iff_ne_zero] <;> omega)
    | (simp_all [kidB, swB, wrB, wdB, mostV, mostF, Nat.pos_iff_ne_zero]; split <;> simp_all <;> omega)
    | (have hLK : Ln = Kn := (by omega); have hKb : Kn ≤ 64 := (by omega); subst hLK; simp_all [kidB, swB, wrB, wdB, mostV, mostF, Nat.pos_iff_ne_zero, Nat.max_def]; done)
    | (have hLK : Ln = Kn := (by omega); have hKb : Kn ≤ 64 := (by omega); subst hLK; simp_all [kidB, swB, wrB, wdB, mostV, mostF, Nat.pos_iff_ne_zero, Nat.max_def] <;> (split <;> omega))
    | (have hLK : Ln = Kn := (by omega); have hKb : 64 < Kn := (by omega); subst hLK; simp_all [kidB, swB, wrB, wdB, mostV, mostF, Nat.pos_iff_ne_zero, Nat.max_def]; done)
    | (have hLK : Ln = Kn := (by omega); have hKb : 64 < Kn := (by omega); subst hLK; simp_all [kidB, swB, wrB, wdB, mostV, mostF, Nat.pos_iff_ne_zero, Nat.max_def] <;> (split <;> omega))
    | (have hLK : Ln ≠ Kn := (by omega); simp_all [kidB, swB, wrB, wdB, mostV, mostF, Nat.pos_iff_ne_zero, Nat.max_def]; done)
    | (have hLK : Ln ≠ Kn := (by omega); simp_all [kidB, swB, wrB, wdB, mostV, mostF, Nat.pos_iff_ne_zero, Nat.max_def] <;> omega)
    | (cases her : er.toList.isEmpty <;> by_cases hm : mu = 0 <;> simp_all [kidB, swB, wrB, wdB, mostV, mostF, Nat.pos_iff_ne_zero] <;> done)
    | (have hK1 : Kn = 1 := (by omega); subst hK1; cases her : er.toList.isEmpty <;> by_cases hm : mu = 0 <;> simp_all [kidB, swB, wrB, wdB, mostV, mostF, Nat.pos_iff_ne_zero] <;> done)
    | (exfalso; omega)
set_option maxRecDepth 100000 in
set_option maxHeartbeats 16000000 in
theorem wrong_13 (x : NV) (w : World) (hk : x.t.k = 13) : Calls Try.prog 9 #[x.val] w fun e w' => e = .returned (.int .i64 (ckV x : Nat)) ∧ Below w.heap.size w w' := by
  obtain ⟨cs, hv, hbx⟩ := nbox x
  obtain ⟨hA, hN⟩ := hbx w
  have HA := hid hA
  obtain ⟨x0, x1, x2, x3, x4, x5, x6, x7, x8, x9, x10, x11, x12, x13, x14, x15, x16, x17⟩ := hN.cells
  obtain ⟨R, hR⟩ : ∃ R, R = ckV x := ⟨_, rfl⟩
  rw [← hR, hv]
  unfold ckV foB at hR
  rw [hk] at x0 hR
  have HR := hid hR
  clear hR hA hN hbx hv
  generalize x.K.n = Kn at *
  generalize x.L.n = Ln at *
  generalize x.F.n = Fn at *
  generalize x.C.n = Cn at *
  generalize x.t.k = k at *
  generalize x.t.wd = wd at *
  generalize x.t.li = li at *
  generalize x.t.zg = zg at *
  generalize x.t.le = le at *
  generalize x.t.mn = mn at *
  generalize x.t.mx = mx at *
  generalize x.t.tx = tx at *
  generalize x.t.er = er at *
  generalize x.t.mu = mu at *
  generalize x.t.ad = ad at *
  generalize x.t.rg = rg at *
  generalize x.t.md = md at *
  generalize x.t.el = el at *
  clear hk
  go_enter Try.func9, Try.ntmps9
  go_wp2
  all_goals go_ret
  all_goals refine ⟨?_, HA.out⟩
  all_goals clear HA x0 x1 x2 x3 x4 x5 x6 x7 x8 x9 x10 x11 x12 x13 x14 x15 x16 x17
  all_goals have hR := HR.out
  all_goals clear HR
  all_goals subst hR
  all_goals first
    | (have h1k2 : ¬ (1 : Int) ≤ k := (by omega); rw [decide_eq_false h1k2]; simp; done)
    | (have h1k2 : ¬ k ≤ (13 : Int) := (by omega); rw [decide_eq_false h1k2, Bool.and_false]; simp; done)
    | (simp_all [kidB, swB, wrB, wdB, mostV, mostF, Nat.pos_iff_ne_zero]; done)
    | (simp_all [kidB, swB, wrB, wdB, mostV, mostF, Nat.pos_iff_ne_zero] <;> omega)
    | (simp_all [kidB, swB, wrB, wdB, mostV, mostF, Nat.pos_iff_ne_zero]; split <;> simp_all <;> omega)
    | (have hLK : Ln = Kn := (by omega); have hKb : Kn ≤ 64 := (by omega); subst hLK; simp_all [kidB, swB, wrB, wdB, mostV, mostF, Nat.pos_iff_ne_zero, Nat.max_def]; done)
    | (have hLK : Ln = Kn := (by omega); have hKb : Kn ≤ 64 := (by omega); subst hLK; simp_all [kidB, swB, wrB, wdB, mostV, mostF, Nat.pos_iff_ne_zero, Nat.max_def] <;> (split <;> omega))
    | (have hLK : Ln = Kn := (by omega); have hKb : 64 < Kn := (by omega); subst hLK; simp_all [kidB, swB, wrB, wdB, mostV, mostF, Nat.pos_iff_ne_zero, Nat.max_def]; done)
    | (have hLK : Ln = Kn := (by omega); have hKb : 64 < Kn := (by omega); subst hLK; simp_all [kidB, swB, wrB, wdB, mostV, mostF, Nat.pos_iff_ne_zero, Nat.max_def] <;> (split <;> omega))
    | (have hLK : Ln ≠ Kn := (by omega); simp_all [kidB, swB, wrB, wdB, mostV, mostF, Nat.pos_iff_ne_zero, Nat.max_def]; done)
    | (have hLK : Ln ≠ Kn := (by omega); simp_all [kidB, swB, wrB, wdB, mostV, mostF, Nat.pos_iff_ne_zero, Nat.max_def] <;> omega)
    | (cases her : er.toList.isEmpty <;> by_cases hm : mu = 0 <;> simp_all [kidB, swB, wrB, wdB, mostV, mostF, Nat.pos_iff_ne_zero] <;> done)
    | (have hK1 : Kn = 1 := (by omega); subst hK1; cases her : er.toList.isEmpty <;> by_cases hm : mu = 0 <;> simp_all [kidB, swB, wrB, wdB, mostV, mostF, Nat.pos_iff_ne_zero] <;> done)
    | (exfalso; omega)
set_option maxRecDepth 100000 in
set_option maxHeartbeats 16000000 in
theorem wrong_lo (x : NV) (w : World) (hk : x.t.k < 1) : Calls Try.prog 9 #[x.val] w fun e w' => e = .returned (.int .i64 (ckV x : Nat)) ∧ Below w.heap.size w w' := by
  obtain ⟨cs, hv, hbx⟩ := nbox x
  obtain ⟨hA, hN⟩ := hbx w
  have HA := hid hA
  obtain ⟨x0, x1, x2, x3, x4, x5, x6, x7, x8, x9, x10, x11, x12, x13, x14, x15, x16, x17⟩ := hN.cells
  obtain ⟨R, hR⟩ : ∃ R, R = ckV x := ⟨_, rfl⟩
  rw [← hR, hv]
  unfold ckV foB at hR
  have HR := hid hR
  clear hR hA hN hbx hv
  generalize x.K.n = Kn at *
  generalize x.L.n = Ln at *
  generalize x.F.n = Fn at *
  generalize x.C.n = Cn at *
  generalize x.t.k = k at *
  generalize x.t.wd = wd at *
  generalize x.t.li = li at *
  generalize x.t.zg = zg at *
  generalize x.t.le = le at *
  generalize x.t.mn = mn at *
  generalize x.t.mx = mx at *
  generalize x.t.tx = tx at *
  generalize x.t.er = er at *
  generalize x.t.mu = mu at *
  generalize x.t.ad = ad at *
  generalize x.t.rg = rg at *
  generalize x.t.md = md at *
  generalize x.t.el = el at *
  have h1k : ¬ (1 : Int) ≤ k := by omega
  go_enter Try.func9, Try.ntmps9
  go_wp2
  all_goals go_ret
  all_goals refine ⟨?_, HA.out⟩
  all_goals clear HA x0 x1 x2 x3 x4 x5 x6 x7 x8 x9 x10 x11 x12 x13 x14 x15 x16 x17
  all_goals have hR := HR.out
  all_goals clear HR
  all_goals subst hR
  all_goals first
    | (have h1k2 : ¬ (1 : Int) ≤ k := (by omega); rw [decide_eq_false h1k2]; simp; done)
    | (have h1k2 : ¬ k ≤ (13 : Int) := (by omega); rw [decide_eq_false h1k2, Bool.and_false]; simp; done)
    | (simp_all [kidB, swB, wrB, wdB, mostV, mostF, Nat.pos_iff_ne_zero]; done)
    | (simp_all [kidB, swB, wrB, wdB, mostV, mostF, Nat.pos_iff_ne_zero] <;> omega)
    | (simp_all [kidB, swB, wrB, wdB, mostV, mostF, Nat.pos_iff_ne_zero]; split <;> simp_all <;> omega)
    | (have hLK : Ln = Kn := (by omega); have hKb : Kn ≤ 64 := (by omega); subst hLK; simp_all [kidB, swB, wrB, wdB, mostV, mostF, Nat.pos_iff_ne_zero, Nat.max_def]; done)
    | (have hLK : Ln = Kn := (by omega); have hKb : Kn ≤ 64 := (by omega); subst hLK; simp_all [kidB, swB, wrB, wdB, mostV, mostF, Nat.pos_iff_ne_zero, Nat.max_def] <;> (split <;> omega))
    | (have hLK : Ln = Kn := (by omega); have hKb : 64 < Kn := (by omega); subst hLK; simp_all [kidB, swB, wrB, wdB, mostV, mostF, Nat.pos_iff_ne_zero, Nat.max_def]; done)
    | (have hLK : Ln = Kn := (by omega); have hKb : 64 < Kn := (by omega); subst hLK; simp_all [kidB, swB, wrB, wdB, mostV, mostF, Nat.pos_iff_ne_zero, Nat.max_def] <;> (split <;> omega))
    | (have hLK : Ln ≠ Kn := (by omega); simp_all [kidB, swB, wrB, wdB, mostV, mostF, Nat.pos_iff_ne_zero, Nat.max_def]; done)
    | (have hLK : Ln ≠ Kn := (by omega); simp_all [kidB, swB, wrB, wdB, mostV, mostF, Nat.pos_iff_ne_zero, Nat.max_def] <;> omega)
    | (cases her : er.toList.isEmpty <;> by_cases hm : mu = 0 <;> simp_all [kidB, swB, wrB, wdB, mostV, mostF, Nat.pos_iff_ne_zero] <;> done)
    | (have hK1 : Kn = 1 := (by omega); subst hK1; cases her : er.toList.isEmpty <;> by_cases hm : mu = 0 <;> simp_all [kidB, swB, wrB, wdB, mostV, mostF, Nat.pos_iff_ne_zero] <;> done)
    | (exfalso; omega)
set_option maxRecDepth 100000 in
set_option maxHeartbeats 16000000 in
theorem wrong_hi (x : NV) (w : World) (hk : 13 < x.t.k) : Calls Try.prog 9 #[x.val] w fun e w' => e = .returned (.int .i64 (ckV x : Nat)) ∧ Below w.heap.size w w' := by
  obtain ⟨cs, hv, hbx⟩ := nbox x
  obtain ⟨hA, hN⟩ := hbx w
  have HA := hid hA
  obtain ⟨x0, x1, x2, x3, x4, x5, x6, x7, x8, x9, x10, x11, x12, x13, x14, x15, x16, x17⟩ := hN.cells
  obtain ⟨R, hR⟩ : ∃ R, R = ckV x := ⟨_, rfl⟩
  rw [← hR, hv]
  unfold ckV foB at hR
  have HR := hid hR
  clear hR hA hN hbx hv
  generalize x.K.n = Kn at *
  generalize x.L.n = Ln at *
  generalize x.F.n = Fn at *
  generalize x.C.n = Cn at *
  generalize x.t.k = k at *
  generalize x.t.wd = wd at *
  generalize x.t.li = li at *
  generalize x.t.zg = zg at *
  generalize x.t.le = le at *
  generalize x.t.mn = mn at *
  generalize x.t.mx = mx at *
  generalize x.t.tx = tx at *
  generalize x.t.er = er at *
  generalize x.t.mu = mu at *
  generalize x.t.ad = ad at *
  generalize x.t.rg = rg at *
  generalize x.t.md = md at *
  generalize x.t.el = el at *
  have h1k : ¬ k ≤ (13 : Int) := by omega
  go_enter Try.func9, Try.ntmps9
  go_wp2
  all_goals go_ret
  all_goals refine ⟨?_, HA.out⟩
  all_goals clear HA x0 x1 x2 x3 x4 x5 x6 x7 x8 x9 x10 x11 x12 x13 x14 x15 x16 x17
  all_goals have hR := HR.out
  all_goals clear HR
  all_goals subst hR
  all_goals first
    | (have h1k2 : ¬ (1 : Int) ≤ k := (by omega); rw [decide_eq_false h1k2]; simp; done)
    | (have h1k2 : ¬ k ≤ (13 : Int) := (by omega); rw [decide_eq_false h1k2, Bool.and_false]; simp; done)
    | (simp_all [kidB, swB, wrB, wdB, mostV, mostF, Nat.pos_iff_ne_zero]; done)
    | (simp_all [kidB, swB, wrB, wdB, mostV, mostF, Nat.pos_iff_ne_zero] <;> omega)
    | (simp_all [kidB, swB, wrB, wdB, mostV, mostF, Nat.pos_iff_ne_zero]; split <;> simp_all <;> omega)
    | (have hLK : Ln = Kn := (by omega); have hKb : Kn ≤ 64 := (by omega); subst hLK; simp_all [kidB, swB, wrB, wdB, mostV, mostF, Nat.pos_iff_ne_zero, Nat.max_def]; done)
    | (have hLK : Ln = Kn := (by omega); have hKb : Kn ≤ 64 := (by omega); subst hLK; simp_all [kidB, swB, wrB, wdB, mostV, mostF, Nat.pos_iff_ne_zero, Nat.max_def] <;> (split <;> omega))
    | (have hLK : Ln = Kn := (by omega); have hKb : 64 < Kn := (by omega); subst hLK; simp_all [kidB, swB, wrB, wdB, mostV, mostF, Nat.pos_iff_ne_zero, Nat.max_def]; done)
    | (have hLK : Ln = Kn := (by omega); have hKb : 64 < Kn := (by omega); subst hLK; simp_all [kidB, swB, wrB, wdB, mostV, mostF, Nat.pos_iff_ne_zero, Nat.max_def] <;> (split <;> omega))
    | (have hLK : Ln ≠ Kn := (by omega); simp_all [kidB, swB, wrB, wdB, mostV, mostF, Nat.pos_iff_ne_zero, Nat.max_def]; done)
    | (have hLK : Ln ≠ Kn := (by omega); simp_all [kidB, swB, wrB, wdB, mostV, mostF, Nat.pos_iff_ne_zero, Nat.max_def] <;> omega)
    | (cases her : er.toList.isEmpty <;> by_cases hm : mu = 0 <;> simp_all [kidB, swB, wrB, wdB, mostV, mostF, Nat.pos_iff_ne_zero] <;> done)
    | (have hK1 : Kn = 1 := (by omega); subst hK1; cases her : er.toList.isEmpty <;> by_cases hm : mu = 0 <;> simp_all [kidB, swB, wrB, wdB, mostV, mostF, Nat.pos_iff_ne_zero] <;> done)
    | (exfalso; omega)
end Go.Proofs.Ytbhfkgaenahchaa
