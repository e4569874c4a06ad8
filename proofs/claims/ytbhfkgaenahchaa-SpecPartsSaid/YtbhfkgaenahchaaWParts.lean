/- The law SpecParts: its walk. -/
import Derived.Test.YtbhfkgaenahchaaSpPa
namespace Go.Proofs.Ytbhfkgaenahchaa
set_option linter.unusedSimpArgs false
set_option linter.unusedVariables false
open Go.RowKit

/-- A list in memory, of these numbers. -/
def ListIs (ps : List Int) (v : Value) (w : World) : Prop := ∃ s : SV, v = s.val ∧ s.n = ps.length ∧ Rw w (fun _ => True) s (intC ps)
theorem ListIs.keep {ps : List Int} {v : Value} {w w' : World} (h : ListIs ps v w) (hb : Below w.heap.size w w') : ListIs ps v w' := by
  obtain ⟨s, h1, h2, h3⟩ := h
  exact ⟨s, h1, h2, h3.keep hb⟩
theorem ListIs.own {ps : List Int} {w : World} {base : Nat} {A : Option Addr} {c : Nat} (h : w.ownsRow base 3 1 (.slice A ps.length c) ps.length (intC ps)) : ListIs ps (.slice A ps.length c) w := by
  obtain ⟨s, h1, h2, h3⟩ := own_rw h
  exact ⟨s, h1, h2, h3.mono (fun _ _ _ => rfl) (Nat.le_refl _) (fun _ _ _ => trivial)⟩
theorem ListIs.eq {ps : List Int} {u v : Value} {w : World} (h : ListIs ps u w) (k : ListIs ps v w) (hl : ps.length ≤ 1048576) : Calls Try.prog 21 #[u, v] w fun e w' => ∃ z, e = .returned z ∧ z = .bool true ∧ Below w.heap.size w w' := by
  obtain ⟨s, rfl, h2, h3⟩ := h
  obtain ⟨t, rfl, k2, k3⟩ := k
  refine (eqIs_any s t ps ps w h3 k3 h2 k2 (by omega) (by omega)).mono ?_
  rintro e w' ⟨rfl, hb⟩
  exact ⟨_, rfl, by rw [eqL_refl (fun b => by simp)], hb⟩
set_option maxRecDepth 100000 in
theorem most_run (wd : Int) (h1 : 1 ≤ wd) (h8 : wd ≤ 8) : ∃ e8 e7 p : Int, ∀ w : World,
    (binOp .mul 3 (.int .i64 8) (.int .i64 wd)).run Try.prog w = .ok (.int .i64 e8) w ∧ (binOp .sub 3 (.int .i64 e8) (.int .i64 1)).run Try.prog w = .ok (.int .i64 e7) w ∧
    (binOp .shr 30 (.int .u64 ((mostF wd : Nat) : Int)) (.int .i64 e7)).run Try.prog w = .ok (.int .u64 1) w ∧ (binOp .add 30 (.int .u64 ((mostF wd : Nat) : Int)) (.int .u64 1)).run Try.prog w = .ok (.int .u64 p) w ∧
    (binOp .shl 30 (.int .u64 1) (.int .i64 e8)).run Try.prog w = .ok (.int .u64 p) w ∧ (binOp .eql 30 (.int .u64 p) (.int .u64 p)).run Try.prog w = .ok (.bool true) w := by
  have hc : wd = 1 ∨ wd = 2 ∨ wd = 3 ∨ wd = 4 ∨ wd = 5 ∨ wd = 6 ∨ wd = 7 ∨ wd = 8 := by omega
  rcases hc with rfl | rfl | rfl | rfl | rfl | rfl | rfl | rfl
  · exact ⟨8, 7, 256, fun w => ⟨by kernel_rfl, by kernel_rfl, by kernel_rfl, by kernel_rfl, by kernel_rfl, by kernel_rfl⟩⟩
  · exact ⟨16, 15, 65536, fun w => ⟨by kernel_rfl, by kernel_rfl, by kernel_rfl, by kernel_rfl, by kernel_rfl, by kernel_rfl⟩⟩
  · exact ⟨24, 23, 16777216, fun w => ⟨by kernel_rfl, by kernel_rfl, by kernel_rfl, by kernel_rfl, by kernel_rfl, by kernel_rfl⟩⟩
  · exact ⟨32, 31, 4294967296, fun w => ⟨by kernel_rfl, by kernel_rfl, by kernel_rfl, by kernel_rfl, by kernel_rfl, by kernel_rfl⟩⟩
  · exact ⟨40, 39, 1099511627776, fun w => ⟨by kernel_rfl, by kernel_rfl, by kernel_rfl, by kernel_rfl, by kernel_rfl, by kernel_rfl⟩⟩
  · exact ⟨48, 47, 281474976710656, fun w => ⟨by kernel_rfl, by kernel_rfl, by kernel_rfl, by kernel_rfl, by kernel_rfl, by kernel_rfl⟩⟩
  · exact ⟨56, 55, 72057594037927936, fun w => ⟨by kernel_rfl, by kernel_rfl, by kernel_rfl, by kernel_rfl, by kernel_rfl, by kernel_rfl⟩⟩
  · exact ⟨64, 63, 0, fun w => ⟨by kernel_rfl, by kernel_rfl, by kernel_rfl, by kernel_rfl, by kernel_rfl, by kernel_rfl⟩⟩
set_option maxRecDepth 100000 in
set_option maxHeartbeats 4000000 in
theorem parts_walk (x : NV) (w : World) (hO : NodeOk w (· < w.heap.size) x) : Calls Try.prog 6 #[x.val] w fun e w' => e = .returned (.bool true) ∧ Below w.heap.size w w' := by
  obtain ⟨cs, hv, hbx⟩ := nbox x
  obtain ⟨R, hR⟩ : ∃ R : Ending → World → Prop, R = fun e w' => e = .returned (.bool true) ∧ Below w.heap.size w w' := ⟨_, rfl⟩
  rw [hv, ← hR]
  have HR := hid hR
  obtain ⟨hA, hN⟩ := hbx w
  have HB := hid hA
  have HN := hid hN
  have HO := hid hO
  have HM := hid (fun W => most_any x W)
  have HNu := hid (fun W => number_any x W)
  rw [hv] at HM HNu
  have HV := hid hv
  clear hR hA hN hO hbx hv
  obtain ⟨Kn, hKn⟩ : ∃ n, n = x.K.n := ⟨_, rfl⟩
  obtain ⟨Fn, hFn⟩ : ∃ n, n = x.F.n := ⟨_, rfl⟩
  obtain ⟨Cn, hCn⟩ : ∃ n, n = x.C.n := ⟨_, rfl⟩
  have HNs := hid (And.intro hKn (And.intro hFn hCn))
  clear hKn hFn hCn
  by_cases h1 : 200 < Kn
  · have h1' : (200 : Int) < (Kn : Int) := by omega
    go_enter Try.func6, Try.ntmps6
    go_upto_region 1 with (fail)
    generalize w.alloc (.cells cs 38) = w1 at *
    go_wp2_with (go_at_call 7; (with_reducible refine (builds_any _).mono ?_); rintro e w2 ⟨rfl, hb2⟩; have HB2 := hid (HB.out.trans (hb2.mono HB.out.size)); have HN2 := hid (HN.out.keep hb2); clear hb2 HB HN; have x11 := HN2.out.cells.2.2.2.2.2.2.2.2.2.2.2.1; have x13 := HN2.out.cells.2.2.2.2.2.2.2.2.2.2.2.2.2.1; have x16 := HN2.out.cells.2.2.2.2.2.2.2.2.2.2.2.2.2.2.2.2.1; rw [← HNs.out.1] at x11; rw [← HNs.out.2.1] at x13; rw [← HNs.out.2.2] at x16)
    show R (.returned (.bool true)) w2
    rw [HR.out]
    exact ⟨rfl, HB2.out⟩
  have h1' : ¬ (200 : Int) < (Kn : Int) := by omega
  by_cases h2 : 200 < Fn
  · have h2' : (200 : Int) < (Fn : Int) := by omega
    go_enter Try.func6, Try.ntmps6
    go_upto_region 1 with (fail)
    generalize w.alloc (.cells cs 38) = w1 at *
    go_wp2_with (go_at_call 7; (with_reducible refine (builds_any _).mono ?_); rintro e w2 ⟨rfl, hb2⟩; have HB2 := hid (HB.out.trans (hb2.mono HB.out.size)); have HN2 := hid (HN.out.keep hb2); clear hb2 HB HN; have x11 := HN2.out.cells.2.2.2.2.2.2.2.2.2.2.2.1; have x13 := HN2.out.cells.2.2.2.2.2.2.2.2.2.2.2.2.2.1; have x16 := HN2.out.cells.2.2.2.2.2.2.2.2.2.2.2.2.2.2.2.2.1; rw [← HNs.out.1] at x11; rw [← HNs.out.2.1] at x13; rw [← HNs.out.2.2] at x16)
    show R (.returned (.bool true)) w2
    rw [HR.out]
    exact ⟨rfl, HB2.out⟩
  have h2' : ¬ (200 : Int) < (Fn : Int) := by omega
  by_cases h3 : 200 < Cn
  · have h3' : (200 : Int) < (Cn : Int) := by omega
    go_enter Try.func6, Try.ntmps6
    go_upto_region 1 with (fail)
    generalize w.alloc (.cells cs 38) = w1 at *
    go_wp2_with (go_at_call 7; (with_reducible refine (builds_any _).mono ?_); rintro e w2 ⟨rfl, hb2⟩; have HB2 := hid (HB.out.trans (hb2.mono HB.out.size)); have HN2 := hid (HN.out.keep hb2); clear hb2 HB HN; have x11 := HN2.out.cells.2.2.2.2.2.2.2.2.2.2.2.1; have x13 := HN2.out.cells.2.2.2.2.2.2.2.2.2.2.2.2.2.1; have x16 := HN2.out.cells.2.2.2.2.2.2.2.2.2.2.2.2.2.2.2.2.1; rw [← HNs.out.1] at x11; rw [← HNs.out.2.1] at x13; rw [← HNs.out.2.2] at x16)
    show R (.returned (.bool true)) w2
    rw [HR.out]
    exact ⟨rfl, HB2.out⟩
  have h3' : ¬ (200 : Int) < (Cn : Int) := by omega
  go_enter Try.func6, Try.ntmps6
  go_upto_region 1 with (fail)
  generalize w.alloc (.cells cs 38) = w1 at *
  go_upto_region 5 with (go_at_call 7; (with_reducible refine (builds_any _).mono ?_); rintro e w2 ⟨rfl, hb2⟩; have HB2 := hid (HB.out.trans (hb2.mono HB.out.size)); have HN2 := hid (HN.out.keep hb2); clear hb2 HB HN; have x11 := HN2.out.cells.2.2.2.2.2.2.2.2.2.2.2.1; have x13 := HN2.out.cells.2.2.2.2.2.2.2.2.2.2.2.2.2.1; have x16 := HN2.out.cells.2.2.2.2.2.2.2.2.2.2.2.2.2.2.2.2.1; rw [← HNs.out.1] at x11; rw [← HNs.out.2.1] at x13; rw [← HNs.out.2.2] at x16)
  have hks : x.t.ks.length ≤ 200 := by rw [← HO.out.kn, ← HNs.out.1]; omega
  have hfs : x.t.fs.length ≤ 200 := by rw [← HO.out.fn, ← HNs.out.2.1]; omega
  have hcs : x.t.cs.length ≤ 200 := by rw [← HO.out.cn, ← HNs.out.2.2]; omega
  have hfit : x.K.n ≤ 1000 ∧ x.F.n ≤ 1000 ∧ x.C.n ≤ 1000 := by rw [HO.out.kn, HO.out.fn, HO.out.cn]; omega
  have hpl : x.t.parts.length ≤ 1000 := by
    unfold NT.parts
    simp only [List.length_append, List.length_map]
    split <;> simp <;> omega
  have hOk : ∀ W, Below w2.heap.size w2 W → NodeOk W (· < w.heap.size) x := fun W hb => HO.out.keep (HB2.out.trans (hb.mono HB2.out.size))
  have hKi : ∀ W, Below w2.heap.size w2 W → Calls Try.prog 22 #[.agg cs] W fun e w' => ∃ v, e = .returned v ∧ ListIs x.t.parts v w' ∧ Below W.heap.size W w' := fun W hb => by
    rw [← HV.out]
    refine (Kids_any x W (hOk W hb) ⟨by omega, by omega, by omega⟩ (by omega)).mono ?_
    rintro e W' ⟨A, c, rfl, hb2, ho⟩
    exact ⟨_, rfl, ListIs.own ho, hb2⟩
  have hKl : ∀ W, Below w2.heap.size w2 W → Calls Try.prog 10 #[.agg cs] W fun e w' => ∃ v, e = .returned v ∧ ListIs x.t.parts v w' ∧ Below W.heap.size W w' := fun W hb => by
    rw [← HV.out]
    refine (lkids_any x W (hOk W hb) hfit).mono ?_
    rintro e W' ⟨A, c, rfl, hb2, ho⟩
    exact ⟨_, rfl, ListIs.own ho, hb2⟩
  have hE : ∀ u z W, ListIs x.t.parts u W → ListIs x.t.parts z W → Below w2.heap.size w2 W → Calls Try.prog 21 #[u, z] W fun e w' => ∃ v, e = .returned v ∧ v = .bool true ∧ Below W.heap.size W w' := fun u z W h1 h2 _ => h1.eq h2 (by omega)
  have x0 := HN2.out.cells.1
  clear x11 x13 x16 h1 h2 h3 h1' h2' h3'
  by_cases hk1 : x.t.k = 1
  · rw [hk1] at x0
    refine paa_reg (g := w.heap.size) (cs := cs) (x := x) (Sk := ListIs x.t.parts) (Sl := ListIs x.t.parts) ?_ ?_ (fun _ _ _ h hb => h.keep hb) (fun _ _ _ h hb => h.keep hb) HN2.out x0 hKi hKl hE (fun W hb => (HNu.out W).mono (by rintro e W' ⟨rfl, hb2⟩; exact ⟨_, rfl, by rw [hk1]; rfl, hb2⟩)) ?_
    · exact rfl
    · simp
    clear x0
    intro f w5 e39 hb5
    simp only [paaUs, List.foldl_cons, List.foldl_nil, List.setIfInBounds_toArray, List.set_cons_zero, List.set_cons_succ]
    rw [e39]
    have HB5 := hid (HB2.out.trans (hb5.mono HB2.out.size))
    have HN5 := hid (HN2.out.keep hb5)
    have x0 := HN5.out.cells.1
    have x1 := HN5.out.cells.2.1
    clear hb5 hKi hKl hE hOk hfit hks hfs hcs hpl
    rw [hk1] at x0
    rw [hk1] at HM
    obtain ⟨wd, hwd⟩ : ∃ wd, wd = x.t.wd := ⟨_, rfl⟩
    rw [← hwd] at x1 HM
    clear hwd hk1
    by_cases hw1 : wd < 1
    · have hm0 : mostV 1 wd = 0 := by unfold mostV mostF; rw [if_pos rfl, if_neg (by omega)]
      rw [hm0] at HM
      clear hm0
      go_wp2_with (first
        | ((with_reducible refine wpList_load_node _ rfl HN5.out ?_ ?_ ?_); exact rfl; exact rfl)
        | (go_at_call 24; (with_reducible refine (HM.out _).mono ?_); rintro e w6 ⟨rfl, hb6⟩; have HB6 := hid (HB5.out.trans (hb6.mono HB5.out.size)); clear hb6))
      show R (.returned (.bool true)) w6
      rw [HR.out]
      exact ⟨rfl, HB6.out⟩
    by_cases hw8 : 8 < wd
    · have hm0 : mostV 1 wd = 0 := by unfold mostV mostF; rw [if_pos rfl, if_neg (by omega)]
      rw [hm0] at HM
      clear hm0
      go_wp2_with (first
        | ((with_reducible refine wpList_load_node _ rfl HN5.out ?_ ?_ ?_); exact rfl; exact rfl)
        | (go_at_call 24; (with_reducible refine (HM.out _).mono ?_); rintro e w6 ⟨rfl, hb6⟩; have HB6 := hid (HB5.out.trans (hb6.mono HB5.out.size)); clear hb6))
      show R (.returned (.bool true)) w6
      rw [HR.out]
      exact ⟨rfl, HB6.out⟩
    obtain ⟨e8, e7, p, hrun⟩ := most_run wd (by omega) (by omega)
    have hm1 : mostV 1 wd = mostF wd := by unfold mostV; rw [if_pos rfl]
    rw [hm1] at HM
    clear hm1
    have HRun := hid hrun
    clear hrun
    go_upto_region 10 with (fail)
    refine pm_reg (g := w.heap.size) (cs := cs) (x := x) (wd := wd) (mo := ((mostF wd : Nat) : Int)) (e8 := e8) (e7 := e7) (p := p) ?_ ?_ HN5.out x1 (fun W hb => (HM.out W).mono (by rintro e W' ⟨rfl, hb2⟩; exact ⟨_, rfl, rfl, hb2⟩)) (fun w => (HRun.out w).1) (fun w => (HRun.out w).2.1) (fun w => (HRun.out w).2.2.1) (fun w => (HRun.out w).2.2.2.1) (fun w => (HRun.out w).2.2.2.2.1) (fun w => (HRun.out w).2.2.2.2.2) ?_
    · exact rfl
    · simp
    intro f w6 e2 hb6
    simp only [pmUs, List.foldl_cons, List.foldl_nil, List.setIfInBounds_toArray, List.set_cons_zero, List.set_cons_succ]
    rw [e2]
    have HB6 := hid (HB5.out.trans (hb6.mono HB5.out.size))
    clear hb6
    go_wp2_with fail
    show R (.returned (.bool true)) w6
    rw [HR.out]
    exact ⟨rfl, HB6.out⟩
  have hmx : mostV x.t.k x.t.wd = 18446744073709551615 := by unfold mostV; rw [if_neg hk1]
  rw [hmx] at HM
  clear hmx
  by_cases hk2 : x.t.k = 2
  · rw [hk2] at x0
    refine pab_reg (g := w.heap.size) (cs := cs) (x := x) (Sk := ListIs x.t.parts) (Sl := ListIs x.t.parts) ?_ ?_ (fun _ _ _ h hb => h.keep hb) (fun _ _ _ h hb => h.keep hb) HN2.out x0 hKi hKl hE (fun W hb => (HNu.out W).mono (by rintro e W' ⟨rfl, hb2⟩; exact ⟨_, rfl, by rw [hk2]; rfl, hb2⟩)) ?_
    · exact rfl
    · simp
    clear x0
    intro f w5 e39 hb5
    simp only [pabUs, List.foldl_cons, List.foldl_nil, List.setIfInBounds_toArray, List.set_cons_zero, List.set_cons_succ]
    rw [e39]
    have HB5 := hid (HB2.out.trans (hb5.mono HB2.out.size))
    have HN5 := hid (HN2.out.keep hb5)
    have x0 := HN5.out.cells.1
    have x1 := HN5.out.cells.2.1
    clear hb5 hKi hKl hE hOk hfit hks hfs hcs hpl
    rw [hk2] at x0
    clear hk2 hk1
    go_wp2_with (first
      | ((with_reducible refine wpList_load_node _ rfl HN5.out ?_ ?_ ?_); exact rfl; exact rfl)
      | (go_at_call 24; (with_reducible refine (HM.out _).mono ?_); rintro e w6 ⟨rfl, hb6⟩; have HB6 := hid (HB5.out.trans (hb6.mono HB5.out.size)); clear hb6))
    show R (.returned (.bool true)) w6
    rw [HR.out]
    exact ⟨rfl, HB6.out⟩
  · obtain ⟨k, hk⟩ : ∃ k, k = x.t.k := ⟨_, rfl⟩
    rw [← hk] at x0 hk1 hk2 HNu
    refine pac_reg (g := w.heap.size) (cs := cs) (x := x) (k := k) (Sk := ListIs x.t.parts) (Sl := ListIs x.t.parts) ?_ ?_ (fun _ _ _ h hb => h.keep hb) (fun _ _ _ h hb => h.keep hb) HN2.out x0 (by simpa using hk1) (by simpa using hk2) hKi hKl hE (fun W hb => (HNu.out W).mono (by rintro e W' ⟨rfl, hb2⟩; exact ⟨_, rfl, by simp [hk1, hk2], hb2⟩)) ?_
    · exact rfl
    · simp
    clear x0
    intro f w5 e39 hb5
    simp only [pacUs, List.foldl_cons, List.foldl_nil, List.setIfInBounds_toArray, List.set_cons_zero, List.set_cons_succ]
    rw [e39]
    have HB5 := hid (HB2.out.trans (hb5.mono HB2.out.size))
    have HN5 := hid (HN2.out.keep hb5)
    have x0 := HN5.out.cells.1
    have x1 := HN5.out.cells.2.1
    clear hb5 hKi hKl hE hOk hfit hks hfs hcs hpl
    rw [← hk] at x0
    clear hk hk2
    go_wp2_with (first
      | ((with_reducible refine wpList_load_node _ rfl HN5.out ?_ ?_ ?_); exact rfl; exact rfl)
      | (go_at_call 24; (with_reducible refine (HM.out _).mono ?_); rintro e w6 ⟨rfl, hb6⟩; have HB6 := hid (HB5.out.trans (hb6.mono HB5.out.size)); clear hb6))
    show R (.returned (.bool true)) w6
    rw [HR.out]
    exact ⟨rfl, HB6.out⟩
end Go.Proofs.Ytbhfkgaenahchaa
