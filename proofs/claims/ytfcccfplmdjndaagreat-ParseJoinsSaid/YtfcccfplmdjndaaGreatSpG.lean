/- spec: checkNode. -/
import Derived.Test.YtfcccfplmdjndaaGreatSpH
namespace Go.Proofs.YtfcccfplmdjndaaGreat
set_option linter.unusedSimpArgs false
set_option linter.unusedVariables false
open Go.RowKit

theorem nbx7 {W : World} {g : Nat} {cs : Array Value} {x : NV} (h : NBox W g cs x) : W.cell? ⟨g, 0, none⟩ = some (.int .i64 x.t.k) ∧ W.cell? ⟨g, 1, none⟩ = some (.int .i64 x.t.wd) ∧ W.cell? ⟨g, 5, none⟩ = some (.int .u64 (x.t.mn : Int)) ∧ W.cell? ⟨g, 6, none⟩ = some (.int .u64 (x.t.mx : Int)) ∧ W.cell? ⟨g, 11, none⟩ = some (.slice x.K.A x.K.n x.K.c) ∧ W.cell? ⟨g, 13, none⟩ = some (.slice x.F.A x.F.n x.F.c) ∧ W.cell? ⟨g, 16, none⟩ = some (.slice x.C.A x.C.n x.C.c) := by
 obtain ⟨x0, x1, x2, x3, x4, x5, x6, x7, x8, x9, x10, x11, x12, x13, x14, x15, x16, x17⟩ := h.cells
 exact ⟨x0, x1, x5, x6, x11, x13, x16⟩
def ckV (x : NV) : Nat :=
 if foB x = false then 5 else if 64 < max (max x.K.n x.F.n) x.C.n then 2 else if x.t.k = 1 ∧ ¬ (1 ≤ x.t.wd ∧ x.t.wd ≤ 8) then 1
 else if wrB x.t.k x.t.wd x.t.li x.t.zg x.t.le = false then 5
 else if (x.t.k = 1 ∨ x.t.k = 2) ∧ (x.t.mx < x.t.mn ∨ mostV x.t.k x.t.wd < x.t.mx) then 1
 else if ¬ (x.t.k = 1 ∨ x.t.k = 2) ∧ (x.t.mn ≠ 0 ∨ x.t.mx ≠ 0) then 5
 else if wdB x.t.k x.t.tx x.t.er x.t.mu x.t.ad = false then 5 else 0
theorem max_ite (a b c : Nat) : (if (if a < b then (b : Int) else (a : Int)) < (c : Int) then (c : Int) else if a < b then (b : Int) else (a : Int)) = ((max (max a b) c : Nat) : Int) := by
 split <;> split <;> omega
set_option maxRecDepth 100000 in
set_option maxHeartbeats 4000000 in
theorem ckn_a (x : NV) (w : World) (hfb : foB x = false) : Calls Tryz.prog 28 #[x.val] w fun e w' => e = .returned (.int .i64 (5 : Nat)) ∧ Below w.heap.size w w' := by
 obtain ⟨cs, hv, hbx⟩ := nbox x
 obtain ⟨hA, hN⟩ := hbx w
 clear hbx
 have HB := hid hA
 have HF := hid (fun W => formed_any x W)
 have HW := hid (fun W => width_any x.t.wd W)
 have HWr := hid (fun W => written_any x W)
 have HNu := hid (fun W => numberN_any x W)
 have HM := hid (fun W => most_any x W)
 have HWd := hid (fun W => worded_any x W)
 have HN := hid hN
 have HX := hid (fun (W : World) (h : NBox W w.heap.size cs x) => nbx7 h)
 rw [hv] at HF HWr HNu HM HWd ⊢
 rw [hfb] at HF
 obtain ⟨x0, x1, x5, x6, x11, x13, x16⟩ := HX.out _ HN.out
 clear hA hN hv hfb
 go_enter Tryz.func28, Tryz.ntmps28
 go_upto_region 1 with (fail)
 generalize w.alloc (.cells cs 54) = w1 at *
 go_wp2_with (first
  | ((with_reducible refine wpList_load_node _ rfl HN.out ?_ ?_ ?_); exact rfl; exact rfl)
  | (go_at_call 63; (with_reducible refine (HF.out _).mono ?_); rintro e w' ⟨rfl, hb⟩; have HB' := hid (HB.out.trans (hb.mono HB.out.size)); have HN' := hid (HN.out.keep hb); clear hb HB HN x0 x1 x5 x6 x11 x13 x16; have HB := HB'; have HN := HN'; clear HB' HN'; obtain ⟨x0, x1, x5, x6, x11, x13, x16⟩ := HX.out _ HN.out)
  | (go_at_call 64; (with_reducible refine (HW.out _).mono ?_); rintro e w' ⟨rfl, rfl⟩)
  | (go_at_call 65; (with_reducible refine (HWr.out _).mono ?_); rintro e w' ⟨rfl, hb⟩; have HB' := hid (HB.out.trans (hb.mono HB.out.size)); have HN' := hid (HN.out.keep hb); clear hb HB HN x0 x1 x5 x6 x11 x13 x16; have HB := HB'; have HN := HN'; clear HB' HN'; obtain ⟨x0, x1, x5, x6, x11, x13, x16⟩ := HX.out _ HN.out))
 all_goals go_ret
 all_goals exact ⟨rfl, HB.out⟩
set_option maxRecDepth 100000 in
set_option maxHeartbeats 4000000 in
theorem ckn_b (x : NV) (w : World) (hfb : foB x = true) (hmx : (64 : Int) < ((max (max x.K.n x.F.n) x.C.n : Nat) : Int)) : Calls Tryz.prog 28 #[x.val] w fun e w' => e = .returned (.int .i64 (2 : Nat)) ∧ Below w.heap.size w w' := by
 obtain ⟨cs, hv, hbx⟩ := nbox x
 obtain ⟨hA, hN⟩ := hbx w
 clear hbx
 have HB := hid hA
 have HF := hid (fun W => formed_any x W)
 have HW := hid (fun W => width_any x.t.wd W)
 have HWr := hid (fun W => written_any x W)
 have HNu := hid (fun W => numberN_any x W)
 have HM := hid (fun W => most_any x W)
 have HWd := hid (fun W => worded_any x W)
 have HN := hid hN
 have HX := hid (fun (W : World) (h : NBox W w.heap.size cs x) => nbx7 h)
 rw [hv] at HF HWr HNu HM HWd ⊢
 rw [hfb] at HF
 rw [← max_ite] at hmx
 obtain ⟨x0, x1, x5, x6, x11, x13, x16⟩ := HX.out _ HN.out
 clear hA hN hv hfb
 go_enter Tryz.func28, Tryz.ntmps28
 go_upto_region 1 with (fail)
 generalize w.alloc (.cells cs 54) = w1 at *
 go_wp2_with (first
  | ((with_reducible refine wpList_load_node _ rfl HN.out ?_ ?_ ?_); exact rfl; exact rfl)
  | (go_at_call 63; (with_reducible refine (HF.out _).mono ?_); rintro e w' ⟨rfl, hb⟩; have HB' := hid (HB.out.trans (hb.mono HB.out.size)); have HN' := hid (HN.out.keep hb); clear hb HB HN x0 x1 x5 x6 x11 x13 x16; have HB := HB'; have HN := HN'; clear HB' HN'; obtain ⟨x0, x1, x5, x6, x11, x13, x16⟩ := HX.out _ HN.out)
  | (go_at_call 64; (with_reducible refine (HW.out _).mono ?_); rintro e w' ⟨rfl, rfl⟩)
  | (go_at_call 65; (with_reducible refine (HWr.out _).mono ?_); rintro e w' ⟨rfl, hb⟩; have HB' := hid (HB.out.trans (hb.mono HB.out.size)); have HN' := hid (HN.out.keep hb); clear hb HB HN x0 x1 x5 x6 x11 x13 x16; have HB := HB'; have HN := HN'; clear HB' HN'; obtain ⟨x0, x1, x5, x6, x11, x13, x16⟩ := HX.out _ HN.out))
 all_goals go_ret
 all_goals exact ⟨rfl, HB.out⟩
set_option maxRecDepth 100000 in
set_option maxHeartbeats 4000000 in
theorem ckn_c1 (x : NV) (w : World) (hfb : foB x = true)(hmx : ¬ (64 : Int) < ((max (max x.K.n x.F.n) x.C.n : Nat) : Int))(hk : x.t.k = 1)(hwdb : (decide (1 ≤ x.t.wd) && decide (x.t.wd ≤ 8)) = false) : Calls Tryz.prog 28 #[x.val] w fun e w' => e = .returned (.int .i64 (1 : Nat)) ∧ Below w.heap.size w w' := by
 obtain ⟨cs, hv, hbx⟩ := nbox x
 obtain ⟨hA, hN⟩ := hbx w
 clear hbx
 have HB := hid hA
 have HF := hid (fun W => formed_any x W)
 have HW := hid (fun W => width_any x.t.wd W)
 have HWr := hid (fun W => written_any x W)
 have HNu := hid (fun W => numberN_any x W)
 have HM := hid (fun W => most_any x W)
 have HWd := hid (fun W => worded_any x W)
 have HN := hid hN
 have HX := hid (fun (W : World) (h : NBox W w.heap.size cs x) => nbx7 h)
 rw [hv] at HF HWr HNu HM HWd ⊢
 rw [hfb] at HF
 rw [hwdb] at HW
 rw [← max_ite] at hmx
 obtain ⟨x0, x1, x5, x6, x11, x13, x16⟩ := HX.out _ HN.out
 rw [hk] at HX x0
 clear hA hN hv hfb hwdb hk
 go_enter Tryz.func28, Tryz.ntmps28
 go_upto_region 1 with (fail)
 generalize w.alloc (.cells cs 54) = w1 at *
 go_wp2_with (first
  | ((with_reducible refine wpList_load_node _ rfl HN.out ?_ ?_ ?_); exact rfl; exact rfl)
  | (go_at_call 63; (with_reducible refine (HF.out _).mono ?_); rintro e w' ⟨rfl, hb⟩; have HB' := hid (HB.out.trans (hb.mono HB.out.size)); have HN' := hid (HN.out.keep hb); clear hb HB HN x0 x1 x5 x6 x11 x13 x16; have HB := HB'; have HN := HN'; clear HB' HN'; obtain ⟨x0, x1, x5, x6, x11, x13, x16⟩ := HX.out _ HN.out)
  | (go_at_call 64; (with_reducible refine (HW.out _).mono ?_); rintro e w' ⟨rfl, rfl⟩)
  | (go_at_call 65; (with_reducible refine (HWr.out _).mono ?_); rintro e w' ⟨rfl, hb⟩; have HB' := hid (HB.out.trans (hb.mono HB.out.size)); have HN' := hid (HN.out.keep hb); clear hb HB HN x0 x1 x5 x6 x11 x13 x16; have HB := HB'; have HN := HN'; clear HB' HN'; obtain ⟨x0, x1, x5, x6, x11, x13, x16⟩ := HX.out _ HN.out))
 all_goals go_ret
 all_goals exact ⟨rfl, HB.out⟩
set_option maxRecDepth 100000 in
set_option maxHeartbeats 4000000 in
theorem ckn_d1 (x : NV) (w : World) (hfb : foB x = true)(hmx : ¬ (64 : Int) < ((max (max x.K.n x.F.n) x.C.n : Nat) : Int))(hk : x.t.k = 1)(hwdb : (decide (1 ≤ x.t.wd) && decide (x.t.wd ≤ 8)) = true)(hwb : wrB x.t.k x.t.wd x.t.li x.t.zg x.t.le = false) : Calls Tryz.prog 28 #[x.val] w fun e w' => e = .returned (.int .i64 (5 : Nat)) ∧ Below w.heap.size w w' := by
 obtain ⟨cs, hv, hbx⟩ := nbox x
 obtain ⟨hA, hN⟩ := hbx w
 clear hbx
 have HB := hid hA
 have HF := hid (fun W => formed_any x W)
 have HW := hid (fun W => width_any x.t.wd W)
 have HWr := hid (fun W => written_any x W)
 have HNu := hid (fun W => numberN_any x W)
 have HM := hid (fun W => most_any x W)
 have HWd := hid (fun W => worded_any x W)
 have HN := hid hN
 have HX := hid (fun (W : World) (h : NBox W w.heap.size cs x) => nbx7 h)
 rw [hv] at HF HWr HNu HM HWd ⊢
 rw [hfb] at HF
 rw [hwb] at HWr
 rw [hwdb] at HW
 rw [← max_ite] at hmx
 obtain ⟨x0, x1, x5, x6, x11, x13, x16⟩ := HX.out _ HN.out
 rw [hk] at HX x0
 clear hA hN hv hfb hwb hwdb hk
 go_enter Tryz.func28, Tryz.ntmps28
 go_upto_region 1 with (fail)
 generalize w.alloc (.cells cs 54) = w1 at *
 go_wp2_with (first
  | ((with_reducible refine wpList_load_node _ rfl HN.out ?_ ?_ ?_); exact rfl; exact rfl)
  | (go_at_call 63; (with_reducible refine (HF.out _).mono ?_); rintro e w' ⟨rfl, hb⟩; have HB' := hid (HB.out.trans (hb.mono HB.out.size)); have HN' := hid (HN.out.keep hb); clear hb HB HN x0 x1 x5 x6 x11 x13 x16; have HB := HB'; have HN := HN'; clear HB' HN'; obtain ⟨x0, x1, x5, x6, x11, x13, x16⟩ := HX.out _ HN.out)
  | (go_at_call 64; (with_reducible refine (HW.out _).mono ?_); rintro e w' ⟨rfl, rfl⟩)
  | (go_at_call 65; (with_reducible refine (HWr.out _).mono ?_); rintro e w' ⟨rfl, hb⟩; have HB' := hid (HB.out.trans (hb.mono HB.out.size)); have HN' := hid (HN.out.keep hb); clear hb HB HN x0 x1 x5 x6 x11 x13 x16; have HB := HB'; have HN := HN'; clear HB' HN'; obtain ⟨x0, x1, x5, x6, x11, x13, x16⟩ := HX.out _ HN.out))
 all_goals go_ret
 all_goals exact ⟨rfl, HB.out⟩
set_option maxRecDepth 100000 in
set_option maxHeartbeats 4000000 in
theorem ckn_e1 (x : NV) (w : World) (hfb : foB x = true)(hmx : ¬ (64 : Int) < ((max (max x.K.n x.F.n) x.C.n : Nat) : Int))(hk : x.t.k = 1)(hwdb : (decide (1 ≤ x.t.wd) && decide (x.t.wd ≤ 8)) = true)(hwb : wrB x.t.k x.t.wd x.t.li x.t.zg x.t.le = true)(hnum : (decide (x.t.k = 1) || decide (x.t.k = 2)) = true)(hr : (x.t.mx : Int) < (x.t.mn : Int)) : Calls Tryz.prog 28 #[x.val] w fun e w' => e = .returned (.int .i64 (1 : Nat)) ∧ Below w.heap.size w w' := by
 obtain ⟨cs, hv, hbx⟩ := nbox x
 obtain ⟨hA, hN⟩ := hbx w
 clear hbx
 have HB := hid hA
 have HF := hid (fun W => formed_any x W)
 have HW := hid (fun W => width_any x.t.wd W)
 have HWr := hid (fun W => written_any x W)
 have HNu := hid (fun W => numberN_any x W)
 have HM := hid (fun W => most_any x W)
 have HWd := hid (fun W => worded_any x W)
 have HN := hid hN
 have HX := hid (fun (W : World) (h : NBox W w.heap.size cs x) => nbx7 h)
 rw [hv] at HF HWr HNu HM HWd ⊢
 rw [hfb] at HF
 rw [hwb] at HWr
 rw [hwdb] at HW
 rw [hnum] at HNu
 rw [← max_ite] at hmx
 obtain ⟨x0, x1, x5, x6, x11, x13, x16⟩ := HX.out _ HN.out
 rw [hk] at HX x0
 clear hA hN hv hfb hwb hwdb hnum hk
 go_enter Tryz.func28, Tryz.ntmps28
 go_upto_region 1 with (fail)
 generalize w.alloc (.cells cs 54) = w1 at *
 go_upto_region 9 with (first
  | ((with_reducible refine wpList_load_node _ rfl HN.out ?_ ?_ ?_); exact rfl; exact rfl)
  | (go_at_call 63; (with_reducible refine (HF.out _).mono ?_); rintro e w' ⟨rfl, hb⟩; have HB' := hid (HB.out.trans (hb.mono HB.out.size)); have HN' := hid (HN.out.keep hb); clear hb HB HN x0 x1 x5 x6 x11 x13 x16; have HB := HB'; have HN := HN'; clear HB' HN'; obtain ⟨x0, x1, x5, x6, x11, x13, x16⟩ := HX.out _ HN.out)
  | (go_at_call 64; (with_reducible refine (HW.out _).mono ?_); rintro e w' ⟨rfl, rfl⟩)
  | (go_at_call 65; (with_reducible refine (HWr.out _).mono ?_); rintro e w' ⟨rfl, hb⟩; have HB' := hid (HB.out.trans (hb.mono HB.out.size)); have HN' := hid (HN.out.keep hb); clear hb HB HN x0 x1 x5 x6 x11 x13 x16; have HB := HB'; have HN := HN'; clear HB' HN'; obtain ⟨x0, x1, x5, x6, x11, x13, x16⟩ := HX.out _ HN.out))
 refine ck9_reg (nb := true) (r1 := true) (r2 := _) (g := w.heap.size) (cs := cs) (x := x) rfl HN.out (by simp) HNu.out HM.out (decide_eq_true (by omega)).symm rfl ?_
 intro F w9 hF hb
 have HB' := hid (HB.out.trans (hb.mono HB.out.size)); have HN' := hid (HN.out.keep hb); clear hb HB HN x0 x1 x5 x6 x11 x13 x16; have HB := HB'; have HN := HN'; clear HB' HN'; obtain ⟨x0, x1, x5, x6, x11, x13, x16⟩ := HX.out _ HN.out
 simp only [ck9Us, List.foldl_cons, List.foldl_nil, List.setIfInBounds_toArray, List.set_cons_zero, List.set_cons_succ]
 rw [hF]
 clear hF
 generalize F 34 = f34, F 35 = f35, F 36 = f36, F 37 = f37, F 38 = f38, F 39 = f39, F 40 = f40, F 41 = f41, F 42 = f42, F 43 = f43, F 44 = f44, F 45 = f45, F 46 = f46, F 47 = f47, F 48 = f48, F 49 = f49
 try generalize (if (if x.K.n < x.F.n then (x.F.n : Int) else (x.K.n : Int)) < (x.C.n : Int) then (x.C.n : Int) else if x.K.n < x.F.n then (x.F.n : Int) else (x.K.n : Int)) = mx at *
 simp only [Bool.true_or, Bool.or_true, Bool.or_false, Bool.false_or, Bool.true_and, Bool.false_and, Bool.or_self, Bool.and_self, Bool.and_true, Bool.and_false]
 go_wp2_with (first
  | ((with_reducible refine wpList_load_node _ rfl HN.out ?_ ?_ ?_); exact rfl; exact rfl)
  | (go_at_call 66; (with_reducible refine (HNu.out _).mono ?_); rintro e w' ⟨rfl, hb⟩; have HB' := hid (HB.out.trans (hb.mono HB.out.size)); have HN' := hid (HN.out.keep hb); clear hb HB HN x0 x1 x5 x6 x11 x13 x16; have HB := HB'; have HN := HN'; clear HB' HN'; obtain ⟨x0, x1, x5, x6, x11, x13, x16⟩ := HX.out _ HN.out)
  | (go_at_call 68; (with_reducible refine (HWd.out _).mono ?_); rintro e w' ⟨rfl, hb⟩; have HB' := hid (HB.out.trans (hb.mono HB.out.size)); have HN' := hid (HN.out.keep hb); clear hb HB HN x0 x1 x5 x6 x11 x13 x16; have HB := HB'; have HN := HN'; clear HB' HN'; obtain ⟨x0, x1, x5, x6, x11, x13, x16⟩ := HX.out _ HN.out))
 all_goals go_ret
 all_goals exact ⟨rfl, HB.out⟩
set_option maxRecDepth 100000 in
set_option maxHeartbeats 4000000 in
theorem ckn_f1 (x : NV) (w : World) (hfb : foB x = true)(hmx : ¬ (64 : Int) < ((max (max x.K.n x.F.n) x.C.n : Nat) : Int))(hk : x.t.k = 1)(hwdb : (decide (1 ≤ x.t.wd) && decide (x.t.wd ≤ 8)) = true)(hwb : wrB x.t.k x.t.wd x.t.li x.t.zg x.t.le = true)(hnum : (decide (x.t.k = 1) || decide (x.t.k = 2)) = true)(hr : ¬ (x.t.mx : Int) < (x.t.mn : Int)) (hr2 : ((mostV x.t.k x.t.wd : Nat) : Int) < (x.t.mx : Int)) : Calls Tryz.prog 28 #[x.val] w fun e w' => e = .returned (.int .i64 (1 : Nat)) ∧ Below w.heap.size w w' := by
 obtain ⟨cs, hv, hbx⟩ := nbox x
 obtain ⟨hA, hN⟩ := hbx w
 clear hbx
 have HB := hid hA
 have HF := hid (fun W => formed_any x W)
 have HW := hid (fun W => width_any x.t.wd W)
 have HWr := hid (fun W => written_any x W)
 have HNu := hid (fun W => numberN_any x W)
 have HM := hid (fun W => most_any x W)
 have HWd := hid (fun W => worded_any x W)
 have HN := hid hN
 have HX := hid (fun (W : World) (h : NBox W w.heap.size cs x) => nbx7 h)
 rw [hv] at HF HWr HNu HM HWd ⊢
 rw [hfb] at HF
 rw [hwb] at HWr
 rw [hwdb] at HW
 rw [hnum] at HNu
 rw [← max_ite] at hmx
 obtain ⟨x0, x1, x5, x6, x11, x13, x16⟩ := HX.out _ HN.out
 rw [hk] at HX x0
 clear hA hN hv hfb hwb hwdb hnum hk
 go_enter Tryz.func28, Tryz.ntmps28
 go_upto_region 1 with (fail)
 generalize w.alloc (.cells cs 54) = w1 at *
 go_upto_region 9 with (first
  | ((with_reducible refine wpList_load_node _ rfl HN.out ?_ ?_ ?_); exact rfl; exact rfl)
  | (go_at_call 63; (with_reducible refine (HF.out _).mono ?_); rintro e w' ⟨rfl, hb⟩; have HB' := hid (HB.out.trans (hb.mono HB.out.size)); have HN' := hid (HN.out.keep hb); clear hb HB HN x0 x1 x5 x6 x11 x13 x16; have HB := HB'; have HN := HN'; clear HB' HN'; obtain ⟨x0, x1, x5, x6, x11, x13, x16⟩ := HX.out _ HN.out)
  | (go_at_call 64; (with_reducible refine (HW.out _).mono ?_); rintro e w' ⟨rfl, rfl⟩)
  | (go_at_call 65; (with_reducible refine (HWr.out _).mono ?_); rintro e w' ⟨rfl, hb⟩; have HB' := hid (HB.out.trans (hb.mono HB.out.size)); have HN' := hid (HN.out.keep hb); clear hb HB HN x0 x1 x5 x6 x11 x13 x16; have HB := HB'; have HN := HN'; clear HB' HN'; obtain ⟨x0, x1, x5, x6, x11, x13, x16⟩ := HX.out _ HN.out))
 refine ck9_reg (nb := true) (r1 := false) (r2 := true) (g := w.heap.size) (cs := cs) (x := x) rfl HN.out (by simp) HNu.out HM.out (decide_eq_false (by omega)).symm (decide_eq_true (by omega)).symm ?_
 intro F w9 hF hb
 have HB' := hid (HB.out.trans (hb.mono HB.out.size)); have HN' := hid (HN.out.keep hb); clear hb HB HN x0 x1 x5 x6 x11 x13 x16; have HB := HB'; have HN := HN'; clear HB' HN'; obtain ⟨x0, x1, x5, x6, x11, x13, x16⟩ := HX.out _ HN.out
 simp only [ck9Us, List.foldl_cons, List.foldl_nil, List.setIfInBounds_toArray, List.set_cons_zero, List.set_cons_succ]
 rw [hF]
 clear hF
 generalize F 34 = f34, F 35 = f35, F 36 = f36, F 37 = f37, F 38 = f38, F 39 = f39, F 40 = f40, F 41 = f41, F 42 = f42, F 43 = f43, F 44 = f44, F 45 = f45, F 46 = f46, F 47 = f47, F 48 = f48, F 49 = f49
 try generalize (if (if x.K.n < x.F.n then (x.F.n : Int) else (x.K.n : Int)) < (x.C.n : Int) then (x.C.n : Int) else if x.K.n < x.F.n then (x.F.n : Int) else (x.K.n : Int)) = mx at *
 simp only [Bool.true_or, Bool.or_true, Bool.or_false, Bool.false_or, Bool.true_and, Bool.false_and, Bool.or_self, Bool.and_self, Bool.and_true, Bool.and_false]
 go_wp2_with (first
  | ((with_reducible refine wpList_load_node _ rfl HN.out ?_ ?_ ?_); exact rfl; exact rfl)
  | (go_at_call 66; (with_reducible refine (HNu.out _).mono ?_); rintro e w' ⟨rfl, hb⟩; have HB' := hid (HB.out.trans (hb.mono HB.out.size)); have HN' := hid (HN.out.keep hb); clear hb HB HN x0 x1 x5 x6 x11 x13 x16; have HB := HB'; have HN := HN'; clear HB' HN'; obtain ⟨x0, x1, x5, x6, x11, x13, x16⟩ := HX.out _ HN.out)
  | (go_at_call 68; (with_reducible refine (HWd.out _).mono ?_); rintro e w' ⟨rfl, hb⟩; have HB' := hid (HB.out.trans (hb.mono HB.out.size)); have HN' := hid (HN.out.keep hb); clear hb HB HN x0 x1 x5 x6 x11 x13 x16; have HB := HB'; have HN := HN'; clear HB' HN'; obtain ⟨x0, x1, x5, x6, x11, x13, x16⟩ := HX.out _ HN.out))
 all_goals go_ret
 all_goals exact ⟨rfl, HB.out⟩
set_option maxRecDepth 100000 in
set_option maxHeartbeats 4000000 in
theorem ckn_g1 (x : NV) (w : World) (hfb : foB x = true)(hmx : ¬ (64 : Int) < ((max (max x.K.n x.F.n) x.C.n : Nat) : Int))(hk : x.t.k = 1)(hwdb : (decide (1 ≤ x.t.wd) && decide (x.t.wd ≤ 8)) = true)(hwb : wrB x.t.k x.t.wd x.t.li x.t.zg x.t.le = true)(hnum : (decide (x.t.k = 1) || decide (x.t.k = 2)) = true)(hr : ¬ (x.t.mx : Int) < (x.t.mn : Int)) (hr2 : ¬ ((mostV x.t.k x.t.wd : Nat) : Int) < (x.t.mx : Int))(hdb : wdB x.t.k x.t.tx x.t.er x.t.mu x.t.ad = false) : Calls Tryz.prog 28 #[x.val] w fun e w' => e = .returned (.int .i64 (5 : Nat)) ∧ Below w.heap.size w w' := by
 obtain ⟨cs, hv, hbx⟩ := nbox x
 obtain ⟨hA, hN⟩ := hbx w
 clear hbx
 have HB := hid hA
 have HF := hid (fun W => formed_any x W)
 have HW := hid (fun W => width_any x.t.wd W)
 have HWr := hid (fun W => written_any x W)
 have HNu := hid (fun W => numberN_any x W)
 have HM := hid (fun W => most_any x W)
 have HWd := hid (fun W => worded_any x W)
 have HN := hid hN
 have HX := hid (fun (W : World) (h : NBox W w.heap.size cs x) => nbx7 h)
 rw [hv] at HF HWr HNu HM HWd ⊢
 rw [hfb] at HF
 rw [hwb] at HWr
 rw [hdb] at HWd
 rw [hwdb] at HW
 rw [hnum] at HNu
 rw [← max_ite] at hmx
 obtain ⟨x0, x1, x5, x6, x11, x13, x16⟩ := HX.out _ HN.out
 rw [hk] at HX x0
 clear hA hN hv hfb hwb hdb hwdb hnum hk
 go_enter Tryz.func28, Tryz.ntmps28
 go_upto_region 1 with (fail)
 generalize w.alloc (.cells cs 54) = w1 at *
 go_upto_region 9 with (first
  | ((with_reducible refine wpList_load_node _ rfl HN.out ?_ ?_ ?_); exact rfl; exact rfl)
  | (go_at_call 63; (with_reducible refine (HF.out _).mono ?_); rintro e w' ⟨rfl, hb⟩; have HB' := hid (HB.out.trans (hb.mono HB.out.size)); have HN' := hid (HN.out.keep hb); clear hb HB HN x0 x1 x5 x6 x11 x13 x16; have HB := HB'; have HN := HN'; clear HB' HN'; obtain ⟨x0, x1, x5, x6, x11, x13, x16⟩ := HX.out _ HN.out)
  | (go_at_call 64; (with_reducible refine (HW.out _).mono ?_); rintro e w' ⟨rfl, rfl⟩)
  | (go_at_call 65; (with_reducible refine (HWr.out _).mono ?_); rintro e w' ⟨rfl, hb⟩; have HB' := hid (HB.out.trans (hb.mono HB.out.size)); have HN' := hid (HN.out.keep hb); clear hb HB HN x0 x1 x5 x6 x11 x13 x16; have HB := HB'; have HN := HN'; clear HB' HN'; obtain ⟨x0, x1, x5, x6, x11, x13, x16⟩ := HX.out _ HN.out))
 refine ck9_reg (nb := true) (r1 := false) (r2 := false) (g := w.heap.size) (cs := cs) (x := x) rfl HN.out (by simp) HNu.out HM.out (decide_eq_false (by omega)).symm (decide_eq_false (by omega)).symm ?_
 intro F w9 hF hb
 have HB' := hid (HB.out.trans (hb.mono HB.out.size)); have HN' := hid (HN.out.keep hb); clear hb HB HN x0 x1 x5 x6 x11 x13 x16; have HB := HB'; have HN := HN'; clear HB' HN'; obtain ⟨x0, x1, x5, x6, x11, x13, x16⟩ := HX.out _ HN.out
 simp only [ck9Us, List.foldl_cons, List.foldl_nil, List.setIfInBounds_toArray, List.set_cons_zero, List.set_cons_succ]
 rw [hF]
 clear hF
 generalize F 34 = f34, F 35 = f35, F 36 = f36, F 37 = f37, F 38 = f38, F 39 = f39, F 40 = f40, F 41 = f41, F 42 = f42, F 43 = f43, F 44 = f44, F 45 = f45, F 46 = f46, F 47 = f47, F 48 = f48, F 49 = f49
 try generalize (if (if x.K.n < x.F.n then (x.F.n : Int) else (x.K.n : Int)) < (x.C.n : Int) then (x.C.n : Int) else if x.K.n < x.F.n then (x.F.n : Int) else (x.K.n : Int)) = mx at *
 simp only [Bool.true_or, Bool.or_true, Bool.or_false, Bool.false_or, Bool.true_and, Bool.false_and, Bool.or_self, Bool.and_self, Bool.and_true, Bool.and_false]
 go_wp2_with (first
  | ((with_reducible refine wpList_load_node _ rfl HN.out ?_ ?_ ?_); exact rfl; exact rfl)
  | (go_at_call 66; (with_reducible refine (HNu.out _).mono ?_); rintro e w' ⟨rfl, hb⟩; have HB' := hid (HB.out.trans (hb.mono HB.out.size)); have HN' := hid (HN.out.keep hb); clear hb HB HN x0 x1 x5 x6 x11 x13 x16; have HB := HB'; have HN := HN'; clear HB' HN'; obtain ⟨x0, x1, x5, x6, x11, x13, x16⟩ := HX.out _ HN.out)
  | (go_at_call 68; (with_reducible refine (HWd.out _).mono ?_); rintro e w' ⟨rfl, hb⟩; have HB' := hid (HB.out.trans (hb.mono HB.out.size)); have HN' := hid (HN.out.keep hb); clear hb HB HN x0 x1 x5 x6 x11 x13 x16; have HB := HB'; have HN := HN'; clear HB' HN'; obtain ⟨x0, x1, x5, x6, x11, x13, x16⟩ := HX.out _ HN.out))
 all_goals go_ret
 all_goals exact ⟨rfl, HB.out⟩
set_option maxRecDepth 100000 in
set_option maxHeartbeats 4000000 in
theorem ckn_h1 (x : NV) (w : World) (hfb : foB x = true)(hmx : ¬ (64 : Int) < ((max (max x.K.n x.F.n) x.C.n : Nat) : Int))(hk : x.t.k = 1)(hwdb : (decide (1 ≤ x.t.wd) && decide (x.t.wd ≤ 8)) = true)(hwb : wrB x.t.k x.t.wd x.t.li x.t.zg x.t.le = true)(hnum : (decide (x.t.k = 1) || decide (x.t.k = 2)) = true)(hr : ¬ (x.t.mx : Int) < (x.t.mn : Int)) (hr2 : ¬ ((mostV x.t.k x.t.wd : Nat) : Int) < (x.t.mx : Int))(hdb : wdB x.t.k x.t.tx x.t.er x.t.mu x.t.ad = true) : Calls Tryz.prog 28 #[x.val] w fun e w' => e = .returned (.int .i64 (0 : Nat)) ∧ Below w.heap.size w w' := by
 obtain ⟨cs, hv, hbx⟩ := nbox x
 obtain ⟨hA, hN⟩ := hbx w
 clear hbx
 have HB := hid hA
 have HF := hid (fun W => formed_any x W)
 have HW := hid (fun W => width_any x.t.wd W)
 have HWr := hid (fun W => written_any x W)
 have HNu := hid (fun W => numberN_any x W)
 have HM := hid (fun W => most_any x W)
 have HWd := hid (fun W => worded_any x W)
 have HN := hid hN
 have HX := hid (fun (W : World) (h : NBox W w.heap.size cs x) => nbx7 h)
 rw [hv] at HF HWr HNu HM HWd ⊢
 rw [hfb] at HF
 rw [hwb] at HWr
 rw [hdb] at HWd
 rw [hwdb] at HW
 rw [hnum] at HNu
 rw [← max_ite] at hmx
 obtain ⟨x0, x1, x5, x6, x11, x13, x16⟩ := HX.out _ HN.out
 rw [hk] at HX x0
 clear hA hN hv hfb hwb hdb hwdb hnum hk
 go_enter Tryz.func28, Tryz.ntmps28
 go_upto_region 1 with (fail)
 generalize w.alloc (.cells cs 54) = w1 at *
 go_upto_region 9 with (first
  | ((with_reducible refine wpList_load_node _ rfl HN.out ?_ ?_ ?_); exact rfl; exact rfl)
  | (go_at_call 63; (with_reducible refine (HF.out _).mono ?_); rintro e w' ⟨rfl, hb⟩; have HB' := hid (HB.out.trans (hb.mono HB.out.size)); have HN' := hid (HN.out.keep hb); clear hb HB HN x0 x1 x5 x6 x11 x13 x16; have HB := HB'; have HN := HN'; clear HB' HN'; obtain ⟨x0, x1, x5, x6, x11, x13, x16⟩ := HX.out _ HN.out)
  | (go_at_call 64; (with_reducible refine (HW.out _).mono ?_); rintro e w' ⟨rfl, rfl⟩)
  | (go_at_call 65; (with_reducible refine (HWr.out _).mono ?_); rintro e w' ⟨rfl, hb⟩; have HB' := hid (HB.out.trans (hb.mono HB.out.size)); have HN' := hid (HN.out.keep hb); clear hb HB HN x0 x1 x5 x6 x11 x13 x16; have HB := HB'; have HN := HN'; clear HB' HN'; obtain ⟨x0, x1, x5, x6, x11, x13, x16⟩ := HX.out _ HN.out))
 refine ck9_reg (nb := true) (r1 := false) (r2 := false) (g := w.heap.size) (cs := cs) (x := x) rfl HN.out (by simp) HNu.out HM.out (decide_eq_false (by omega)).symm (decide_eq_false (by omega)).symm ?_
 intro F w9 hF hb
 have HB' := hid (HB.out.trans (hb.mono HB.out.size)); have HN' := hid (HN.out.keep hb); clear hb HB HN x0 x1 x5 x6 x11 x13 x16; have HB := HB'; have HN := HN'; clear HB' HN'; obtain ⟨x0, x1, x5, x6, x11, x13, x16⟩ := HX.out _ HN.out
 simp only [ck9Us, List.foldl_cons, List.foldl_nil, List.setIfInBounds_toArray, List.set_cons_zero, List.set_cons_succ]
 rw [hF]
 clear hF
 generalize F 34 = f34, F 35 = f35, F 36 = f36, F 37 = f37, F 38 = f38, F 39 = f39, F 40 = f40, F 41 = f41, F 42 = f42, F 43 = f43, F 44 = f44, F 45 = f45, F 46 = f46, F 47 = f47, F 48 = f48, F 49 = f49
 try generalize (if (if x.K.n < x.F.n then (x.F.n : Int) else (x.K.n : Int)) < (x.C.n : Int) then (x.C.n : Int) else if x.K.n < x.F.n then (x.F.n : Int) else (x.K.n : Int)) = mx at *
 simp only [Bool.true_or, Bool.or_true, Bool.or_false, Bool.false_or, Bool.true_and, Bool.false_and, Bool.or_self, Bool.and_self, Bool.and_true, Bool.and_false]
 go_wp2_with (first
  | ((with_reducible refine wpList_load_node _ rfl HN.out ?_ ?_ ?_); exact rfl; exact rfl)
  | (go_at_call 66; (with_reducible refine (HNu.out _).mono ?_); rintro e w' ⟨rfl, hb⟩; have HB' := hid (HB.out.trans (hb.mono HB.out.size)); have HN' := hid (HN.out.keep hb); clear hb HB HN x0 x1 x5 x6 x11 x13 x16; have HB := HB'; have HN := HN'; clear HB' HN'; obtain ⟨x0, x1, x5, x6, x11, x13, x16⟩ := HX.out _ HN.out)
  | (go_at_call 68; (with_reducible refine (HWd.out _).mono ?_); rintro e w' ⟨rfl, hb⟩; have HB' := hid (HB.out.trans (hb.mono HB.out.size)); have HN' := hid (HN.out.keep hb); clear hb HB HN x0 x1 x5 x6 x11 x13 x16; have HB := HB'; have HN := HN'; clear HB' HN'; obtain ⟨x0, x1, x5, x6, x11, x13, x16⟩ := HX.out _ HN.out))
 all_goals go_ret
 all_goals exact ⟨rfl, HB.out⟩
set_option maxRecDepth 100000 in
set_option maxHeartbeats 4000000 in
theorem ckn_d2 (x : NV) (w : World) (hfb : foB x = true)(hmx : ¬ (64 : Int) < ((max (max x.K.n x.F.n) x.C.n : Nat) : Int))(hk : x.t.k = 2)(hwb : wrB x.t.k x.t.wd x.t.li x.t.zg x.t.le = false) : Calls Tryz.prog 28 #[x.val] w fun e w' => e = .returned (.int .i64 (5 : Nat)) ∧ Below w.heap.size w w' := by
 obtain ⟨cs, hv, hbx⟩ := nbox x
 obtain ⟨hA, hN⟩ := hbx w
 clear hbx
 have HB := hid hA
 have HF := hid (fun W => formed_any x W)
 have HW := hid (fun W => width_any x.t.wd W)
 have HWr := hid (fun W => written_any x W)
 have HNu := hid (fun W => numberN_any x W)
 have HM := hid (fun W => most_any x W)
 have HWd := hid (fun W => worded_any x W)
 have HN := hid hN
 have HX := hid (fun (W : World) (h : NBox W w.heap.size cs x) => nbx7 h)
 rw [hv] at HF HWr HNu HM HWd ⊢
 rw [hfb] at HF
 rw [hwb] at HWr
 rw [← max_ite] at hmx
 obtain ⟨x0, x1, x5, x6, x11, x13, x16⟩ := HX.out _ HN.out
 rw [hk] at HX x0
 clear hA hN hv hfb hwb hk
 go_enter Tryz.func28, Tryz.ntmps28
 go_upto_region 1 with (fail)
 generalize w.alloc (.cells cs 54) = w1 at *
 go_wp2_with (first
  | ((with_reducible refine wpList_load_node _ rfl HN.out ?_ ?_ ?_); exact rfl; exact rfl)
  | (go_at_call 63; (with_reducible refine (HF.out _).mono ?_); rintro e w' ⟨rfl, hb⟩; have HB' := hid (HB.out.trans (hb.mono HB.out.size)); have HN' := hid (HN.out.keep hb); clear hb HB HN x0 x1 x5 x6 x11 x13 x16; have HB := HB'; have HN := HN'; clear HB' HN'; obtain ⟨x0, x1, x5, x6, x11, x13, x16⟩ := HX.out _ HN.out)
  | (go_at_call 64; (with_reducible refine (HW.out _).mono ?_); rintro e w' ⟨rfl, rfl⟩)
  | (go_at_call 65; (with_reducible refine (HWr.out _).mono ?_); rintro e w' ⟨rfl, hb⟩; have HB' := hid (HB.out.trans (hb.mono HB.out.size)); have HN' := hid (HN.out.keep hb); clear hb HB HN x0 x1 x5 x6 x11 x13 x16; have HB := HB'; have HN := HN'; clear HB' HN'; obtain ⟨x0, x1, x5, x6, x11, x13, x16⟩ := HX.out _ HN.out))
 all_goals go_ret
 all_goals exact ⟨rfl, HB.out⟩
set_option maxRecDepth 100000 in
set_option maxHeartbeats 4000000 in
theorem ckn_e2 (x : NV) (w : World) (hfb : foB x = true)(hmx : ¬ (64 : Int) < ((max (max x.K.n x.F.n) x.C.n : Nat) : Int))(hk : x.t.k = 2)(hwb : wrB x.t.k x.t.wd x.t.li x.t.zg x.t.le = true)(hnum : (decide (x.t.k = 1) || decide (x.t.k = 2)) = true)(hr : (x.t.mx : Int) < (x.t.mn : Int)) : Calls Tryz.prog 28 #[x.val] w fun e w' => e = .returned (.int .i64 (1 : Nat)) ∧ Below w.heap.size w w' := by
 obtain ⟨cs, hv, hbx⟩ := nbox x
 obtain ⟨hA, hN⟩ := hbx w
 clear hbx
 have HB := hid hA
 have HF := hid (fun W => formed_any x W)
 have HW := hid (fun W => width_any x.t.wd W)
 have HWr := hid (fun W => written_any x W)
 have HNu := hid (fun W => numberN_any x W)
 have HM := hid (fun W => most_any x W)
 have HWd := hid (fun W => worded_any x W)
 have HN := hid hN
 have HX := hid (fun (W : World) (h : NBox W w.heap.size cs x) => nbx7 h)
 rw [hv] at HF HWr HNu HM HWd ⊢
 rw [hfb] at HF
 rw [hwb] at HWr
 rw [hnum] at HNu
 rw [← max_ite] at hmx
 obtain ⟨x0, x1, x5, x6, x11, x13, x16⟩ := HX.out _ HN.out
 rw [hk] at HX x0
 clear hA hN hv hfb hwb hnum hk
 go_enter Tryz.func28, Tryz.ntmps28
 go_upto_region 1 with (fail)
 generalize w.alloc (.cells cs 54) = w1 at *
 go_upto_region 9 with (first
  | ((with_reducible refine wpList_load_node _ rfl HN.out ?_ ?_ ?_); exact rfl; exact rfl)
  | (go_at_call 63; (with_reducible refine (HF.out _).mono ?_); rintro e w' ⟨rfl, hb⟩; have HB' := hid (HB.out.trans (hb.mono HB.out.size)); have HN' := hid (HN.out.keep hb); clear hb HB HN x0 x1 x5 x6 x11 x13 x16; have HB := HB'; have HN := HN'; clear HB' HN'; obtain ⟨x0, x1, x5, x6, x11, x13, x16⟩ := HX.out _ HN.out)
  | (go_at_call 64; (with_reducible refine (HW.out _).mono ?_); rintro e w' ⟨rfl, rfl⟩)
  | (go_at_call 65; (with_reducible refine (HWr.out _).mono ?_); rintro e w' ⟨rfl, hb⟩; have HB' := hid (HB.out.trans (hb.mono HB.out.size)); have HN' := hid (HN.out.keep hb); clear hb HB HN x0 x1 x5 x6 x11 x13 x16; have HB := HB'; have HN := HN'; clear HB' HN'; obtain ⟨x0, x1, x5, x6, x11, x13, x16⟩ := HX.out _ HN.out))
 refine ck9_reg (nb := true) (r1 := true) (r2 := _) (g := w.heap.size) (cs := cs) (x := x) rfl HN.out (by simp) HNu.out HM.out (decide_eq_true (by omega)).symm rfl ?_
 intro F w9 hF hb
 have HB' := hid (HB.out.trans (hb.mono HB.out.size)); have HN' := hid (HN.out.keep hb); clear hb HB HN x0 x1 x5 x6 x11 x13 x16; have HB := HB'; have HN := HN'; clear HB' HN'; obtain ⟨x0, x1, x5, x6, x11, x13, x16⟩ := HX.out _ HN.out
 simp only [ck9Us, List.foldl_cons, List.foldl_nil, List.setIfInBounds_toArray, List.set_cons_zero, List.set_cons_succ]
 rw [hF]
 clear hF
 generalize F 34 = f34, F 35 = f35, F 36 = f36, F 37 = f37, F 38 = f38, F 39 = f39, F 40 = f40, F 41 = f41, F 42 = f42, F 43 = f43, F 44 = f44, F 45 = f45, F 46 = f46, F 47 = f47, F 48 = f48, F 49 = f49
 try generalize (if (if x.K.n < x.F.n then (x.F.n : Int) else (x.K.n : Int)) < (x.C.n : Int) then (x.C.n : Int) else if x.K.n < x.F.n then (x.F.n : Int) else (x.K.n : Int)) = mx at *
 simp only [Bool.true_or, Bool.or_true, Bool.or_false, Bool.false_or, Bool.true_and, Bool.false_and, Bool.or_self, Bool.and_self, Bool.and_true, Bool.and_false]
 go_wp2_with (first
  | ((with_reducible refine wpList_load_node _ rfl HN.out ?_ ?_ ?_); exact rfl; exact rfl)
  | (go_at_call 66; (with_reducible refine (HNu.out _).mono ?_); rintro e w' ⟨rfl, hb⟩; have HB' := hid (HB.out.trans (hb.mono HB.out.size)); have HN' := hid (HN.out.keep hb); clear hb HB HN x0 x1 x5 x6 x11 x13 x16; have HB := HB'; have HN := HN'; clear HB' HN'; obtain ⟨x0, x1, x5, x6, x11, x13, x16⟩ := HX.out _ HN.out)
  | (go_at_call 68; (with_reducible refine (HWd.out _).mono ?_); rintro e w' ⟨rfl, hb⟩; have HB' := hid (HB.out.trans (hb.mono HB.out.size)); have HN' := hid (HN.out.keep hb); clear hb HB HN x0 x1 x5 x6 x11 x13 x16; have HB := HB'; have HN := HN'; clear HB' HN'; obtain ⟨x0, x1, x5, x6, x11, x13, x16⟩ := HX.out _ HN.out))
 all_goals go_ret
 all_goals exact ⟨rfl, HB.out⟩
set_option maxRecDepth 100000 in
set_option maxHeartbeats 4000000 in
theorem ckn_f2 (x : NV) (w : World) (hfb : foB x = true)(hmx : ¬ (64 : Int) < ((max (max x.K.n x.F.n) x.C.n : Nat) : Int))(hk : x.t.k = 2)(hwb : wrB x.t.k x.t.wd x.t.li x.t.zg x.t.le = true)(hnum : (decide (x.t.k = 1) || decide (x.t.k = 2)) = true)(hr : ¬ (x.t.mx : Int) < (x.t.mn : Int)) (hr2 : ((mostV x.t.k x.t.wd : Nat) : Int) < (x.t.mx : Int)) : Calls Tryz.prog 28 #[x.val] w fun e w' => e = .returned (.int .i64 (1 : Nat)) ∧ Below w.heap.size w w' := by
 obtain ⟨cs, hv, hbx⟩ := nbox x
 obtain ⟨hA, hN⟩ := hbx w
 clear hbx
 have HB := hid hA
 have HF := hid (fun W => formed_any x W)
 have HW := hid (fun W => width_any x.t.wd W)
 have HWr := hid (fun W => written_any x W)
 have HNu := hid (fun W => numberN_any x W)
 have HM := hid (fun W => most_any x W)
 have HWd := hid (fun W => worded_any x W)
 have HN := hid hN
 have HX := hid (fun (W : World) (h : NBox W w.heap.size cs x) => nbx7 h)
 rw [hv] at HF HWr HNu HM HWd ⊢
 rw [hfb] at HF
 rw [hwb] at HWr
 rw [hnum] at HNu
 rw [← max_ite] at hmx
 obtain ⟨x0, x1, x5, x6, x11, x13, x16⟩ := HX.out _ HN.out
 rw [hk] at HX x0
 clear hA hN hv hfb hwb hnum hk
 go_enter Tryz.func28, Tryz.ntmps28
 go_upto_region 1 with (fail)
 generalize w.alloc (.cells cs 54) = w1 at *
 go_upto_region 9 with (first
  | ((with_reducible refine wpList_load_node _ rfl HN.out ?_ ?_ ?_); exact rfl; exact rfl)
  | (go_at_call 63; (with_reducible refine (HF.out _).mono ?_); rintro e w' ⟨rfl, hb⟩; have HB' := hid (HB.out.trans (hb.mono HB.out.size)); have HN' := hid (HN.out.keep hb); clear hb HB HN x0 x1 x5 x6 x11 x13 x16; have HB := HB'; have HN := HN'; clear HB' HN'; obtain ⟨x0, x1, x5, x6, x11, x13, x16⟩ := HX.out _ HN.out)
  | (go_at_call 64; (with_reducible refine (HW.out _).mono ?_); rintro e w' ⟨rfl, rfl⟩)
  | (go_at_call 65; (with_reducible refine (HWr.out _).mono ?_); rintro e w' ⟨rfl, hb⟩; have HB' := hid (HB.out.trans (hb.mono HB.out.size)); have HN' := hid (HN.out.keep hb); clear hb HB HN x0 x1 x5 x6 x11 x13 x16; have HB := HB'; have HN := HN'; clear HB' HN'; obtain ⟨x0, x1, x5, x6, x11, x13, x16⟩ := HX.out _ HN.out))
 refine ck9_reg (nb := true) (r1 := false) (r2 := true) (g := w.heap.size) (cs := cs) (x := x) rfl HN.out (by simp) HNu.out HM.out (decide_eq_false (by omega)).symm (decide_eq_true (by omega)).symm ?_
 intro F w9 hF hb
 have HB' := hid (HB.out.trans (hb.mono HB.out.size)); have HN' := hid (HN.out.keep hb); clear hb HB HN x0 x1 x5 x6 x11 x13 x16; have HB := HB'; have HN := HN'; clear HB' HN'; obtain ⟨x0, x1, x5, x6, x11, x13, x16⟩ := HX.out _ HN.out
 simp only [ck9Us, List.foldl_cons, List.foldl_nil, List.setIfInBounds_toArray, List.set_cons_zero, List.set_cons_succ]
 rw [hF]
 clear hF
 generalize F 34 = f34, F 35 = f35, F 36 = f36, F 37 = f37, F 38 = f38, F 39 = f39, F 40 = f40, F 41 = f41, F 42 = f42, F 43 = f43, F 44 = f44, F 45 = f45, F 46 = f46, F 47 = f47, F 48 = f48, F 49 = f49
 try generalize (if (if x.K.n < x.F.n then (x.F.n : Int) else (x.K.n : Int)) < (x.C.n : Int) then (x.C.n : Int) else if x.K.n < x.F.n then (x.F.n : Int) else (x.K.n : Int)) = mx at *
 simp only [Bool.true_or, Bool.or_true, Bool.or_false, Bool.false_or, Bool.true_and, Bool.false_and, Bool.or_self, Bool.and_self, Bool.and_true, Bool.and_false]
 go_wp2_with (first
  | ((with_reducible refine wpList_load_node _ rfl HN.out ?_ ?_ ?_); exact rfl; exact rfl)
  | (go_at_call 66; (with_reducible refine (HNu.out _).mono ?_); rintro e w' ⟨rfl, hb⟩; have HB' := hid (HB.out.trans (hb.mono HB.out.size)); have HN' := hid (HN.out.keep hb); clear hb HB HN x0 x1 x5 x6 x11 x13 x16; have HB := HB'; have HN := HN'; clear HB' HN'; obtain ⟨x0, x1, x5, x6, x11, x13, x16⟩ := HX.out _ HN.out)
  | (go_at_call 68; (with_reducible refine (HWd.out _).mono ?_); rintro e w' ⟨rfl, hb⟩; have HB' := hid (HB.out.trans (hb.mono HB.out.size)); have HN' := hid (HN.out.keep hb); clear hb HB HN x0 x1 x5 x6 x11 x13 x16; have HB := HB'; have HN := HN'; clear HB' HN'; obtain ⟨x0, x1, x5, x6, x11, x13, x16⟩ := HX.out _ HN.out))
 all_goals go_ret
 all_goals exact ⟨rfl, HB.out⟩
set_option maxRecDepth 100000 in
set_option maxHeartbeats 4000000 in
theorem ckn_g2 (x : NV) (w : World) (hfb : foB x = true)(hmx : ¬ (64 : Int) < ((max (max x.K.n x.F.n) x.C.n : Nat) : Int))(hk : x.t.k = 2)(hwb : wrB x.t.k x.t.wd x.t.li x.t.zg x.t.le = true)(hnum : (decide (x.t.k = 1) || decide (x.t.k = 2)) = true)(hr : ¬ (x.t.mx : Int) < (x.t.mn : Int)) (hr2 : ¬ ((mostV x.t.k x.t.wd : Nat) : Int) < (x.t.mx : Int))(hdb : wdB x.t.k x.t.tx x.t.er x.t.mu x.t.ad = false) : Calls Tryz.prog 28 #[x.val] w fun e w' => e = .returned (.int .i64 (5 : Nat)) ∧ Below w.heap.size w w' := by
 obtain ⟨cs, hv, hbx⟩ := nbox x
 obtain ⟨hA, hN⟩ := hbx w
 clear hbx
 have HB := hid hA
 have HF := hid (fun W => formed_any x W)
 have HW := hid (fun W => width_any x.t.wd W)
 have HWr := hid (fun W => written_any x W)
 have HNu := hid (fun W => numberN_any x W)
 have HM := hid (fun W => most_any x W)
 have HWd := hid (fun W => worded_any x W)
 have HN := hid hN
 have HX := hid (fun (W : World) (h : NBox W w.heap.size cs x) => nbx7 h)
 rw [hv] at HF HWr HNu HM HWd ⊢
 rw [hfb] at HF
 rw [hwb] at HWr
 rw [hdb] at HWd
 rw [hnum] at HNu
 rw [← max_ite] at hmx
 obtain ⟨x0, x1, x5, x6, x11, x13, x16⟩ := HX.out _ HN.out
 rw [hk] at HX x0
 clear hA hN hv hfb hwb hdb hnum hk
 go_enter Tryz.func28, Tryz.ntmps28
 go_upto_region 1 with (fail)
 generalize w.alloc (.cells cs 54) = w1 at *
 go_upto_region 9 with (first
  | ((with_reducible refine wpList_load_node _ rfl HN.out ?_ ?_ ?_); exact rfl; exact rfl)
  | (go_at_call 63; (with_reducible refine (HF.out _).mono ?_); rintro e w' ⟨rfl, hb⟩; have HB' := hid (HB.out.trans (hb.mono HB.out.size)); have HN' := hid (HN.out.keep hb); clear hb HB HN x0 x1 x5 x6 x11 x13 x16; have HB := HB'; have HN := HN'; clear HB' HN'; obtain ⟨x0, x1, x5, x6, x11, x13, x16⟩ := HX.out _ HN.out)
  | (go_at_call 64; (with_reducible refine (HW.out _).mono ?_); rintro e w' ⟨rfl, rfl⟩)
  | (go_at_call 65; (with_reducible refine (HWr.out _).mono ?_); rintro e w' ⟨rfl, hb⟩; have HB' := hid (HB.out.trans (hb.mono HB.out.size)); have HN' := hid (HN.out.keep hb); clear hb HB HN x0 x1 x5 x6 x11 x13 x16; have HB := HB'; have HN := HN'; clear HB' HN'; obtain ⟨x0, x1, x5, x6, x11, x13, x16⟩ := HX.out _ HN.out))
 refine ck9_reg (nb := true) (r1 := false) (r2 := false) (g := w.heap.size) (cs := cs) (x := x) rfl HN.out (by simp) HNu.out HM.out (decide_eq_false (by omega)).symm (decide_eq_false (by omega)).symm ?_
 intro F w9 hF hb
 have HB' := hid (HB.out.trans (hb.mono HB.out.size)); have HN' := hid (HN.out.keep hb); clear hb HB HN x0 x1 x5 x6 x11 x13 x16; have HB := HB'; have HN := HN'; clear HB' HN'; obtain ⟨x0, x1, x5, x6, x11, x13, x16⟩ := HX.out _ HN.out
 simp only [ck9Us, List.foldl_cons, List.foldl_nil, List.setIfInBounds_toArray, List.set_cons_zero, List.set_cons_succ]
 rw [hF]
 clear hF
 generalize F 34 = f34, F 35 = f35, F 36 = f36, F 37 = f37, F 38 = f38, F 39 = f39, F 40 = f40, F 41 = f41, F 42 = f42, F 43 = f43, F 44 = f44, F 45 = f45, F 46 = f46, F 47 = f47, F 48 = f48, F 49 = f49
 try generalize (if (if x.K.n < x.F.n then (x.F.n : Int) else (x.K.n : Int)) < (x.C.n : Int) then (x.C.n : Int) else if x.K.n < x.F.n then (x.F.n : Int) else (x.K.n : Int)) = mx at *
 simp only [Bool.true_or, Bool.or_true, Bool.or_false, Bool.false_or, Bool.true_and, Bool.false_and, Bool.or_self, Bool.and_self, Bool.and_true, Bool.and_false]
 go_wp2_with (first
  | ((with_reducible refine wpList_load_node _ rfl HN.out ?_ ?_ ?_); exact rfl; exact rfl)
  | (go_at_call 66; (with_reducible refine (HNu.out _).mono ?_); rintro e w' ⟨rfl, hb⟩; have HB' := hid (HB.out.trans (hb.mono HB.out.size)); have HN' := hid (HN.out.keep hb); clear hb HB HN x0 x1 x5 x6 x11 x13 x16; have HB := HB'; have HN := HN'; clear HB' HN'; obtain ⟨x0, x1, x5, x6, x11, x13, x16⟩ := HX.out _ HN.out)
  | (go_at_call 68; (with_reducible refine (HWd.out _).mono ?_); rintro e w' ⟨rfl, hb⟩; have HB' := hid (HB.out.trans (hb.mono HB.out.size)); have HN' := hid (HN.out.keep hb); clear hb HB HN x0 x1 x5 x6 x11 x13 x16; have HB := HB'; have HN := HN'; clear HB' HN'; obtain ⟨x0, x1, x5, x6, x11, x13, x16⟩ := HX.out _ HN.out))
 all_goals go_ret
 all_goals exact ⟨rfl, HB.out⟩
set_option maxRecDepth 100000 in
set_option maxHeartbeats 4000000 in
theorem ckn_h2 (x : NV) (w : World) (hfb : foB x = true)(hmx : ¬ (64 : Int) < ((max (max x.K.n x.F.n) x.C.n : Nat) : Int))(hk : x.t.k = 2)(hwb : wrB x.t.k x.t.wd x.t.li x.t.zg x.t.le = true)(hnum : (decide (x.t.k = 1) || decide (x.t.k = 2)) = true)(hr : ¬ (x.t.mx : Int) < (x.t.mn : Int)) (hr2 : ¬ ((mostV x.t.k x.t.wd : Nat) : Int) < (x.t.mx : Int))(hdb : wdB x.t.k x.t.tx x.t.er x.t.mu x.t.ad = true) : Calls Tryz.prog 28 #[x.val] w fun e w' => e = .returned (.int .i64 (0 : Nat)) ∧ Below w.heap.size w w' := by
 obtain ⟨cs, hv, hbx⟩ := nbox x
 obtain ⟨hA, hN⟩ := hbx w
 clear hbx
 have HB := hid hA
 have HF := hid (fun W => formed_any x W)
 have HW := hid (fun W => width_any x.t.wd W)
 have HWr := hid (fun W => written_any x W)
 have HNu := hid (fun W => numberN_any x W)
 have HM := hid (fun W => most_any x W)
 have HWd := hid (fun W => worded_any x W)
 have HN := hid hN
 have HX := hid (fun (W : World) (h : NBox W w.heap.size cs x) => nbx7 h)
 rw [hv] at HF HWr HNu HM HWd ⊢
 rw [hfb] at HF
 rw [hwb] at HWr
 rw [hdb] at HWd
 rw [hnum] at HNu
 rw [← max_ite] at hmx
 obtain ⟨x0, x1, x5, x6, x11, x13, x16⟩ := HX.out _ HN.out
 rw [hk] at HX x0
 clear hA hN hv hfb hwb hdb hnum hk
 go_enter Tryz.func28, Tryz.ntmps28
 go_upto_region 1 with (fail)
 generalize w.alloc (.cells cs 54) = w1 at *
 go_upto_region 9 with (first
  | ((with_reducible refine wpList_load_node _ rfl HN.out ?_ ?_ ?_); exact rfl; exact rfl)
  | (go_at_call 63; (with_reducible refine (HF.out _).mono ?_); rintro e w' ⟨rfl, hb⟩; have HB' := hid (HB.out.trans (hb.mono HB.out.size)); have HN' := hid (HN.out.keep hb); clear hb HB HN x0 x1 x5 x6 x11 x13 x16; have HB := HB'; have HN := HN'; clear HB' HN'; obtain ⟨x0, x1, x5, x6, x11, x13, x16⟩ := HX.out _ HN.out)
  | (go_at_call 64; (with_reducible refine (HW.out _).mono ?_); rintro e w' ⟨rfl, rfl⟩)
  | (go_at_call 65; (with_reducible refine (HWr.out _).mono ?_); rintro e w' ⟨rfl, hb⟩; have HB' := hid (HB.out.trans (hb.mono HB.out.size)); have HN' := hid (HN.out.keep hb); clear hb HB HN x0 x1 x5 x6 x11 x13 x16; have HB := HB'; have HN := HN'; clear HB' HN'; obtain ⟨x0, x1, x5, x6, x11, x13, x16⟩ := HX.out _ HN.out))
 refine ck9_reg (nb := true) (r1 := false) (r2 := false) (g := w.heap.size) (cs := cs) (x := x) rfl HN.out (by simp) HNu.out HM.out (decide_eq_false (by omega)).symm (decide_eq_false (by omega)).symm ?_
 intro F w9 hF hb
 have HB' := hid (HB.out.trans (hb.mono HB.out.size)); have HN' := hid (HN.out.keep hb); clear hb HB HN x0 x1 x5 x6 x11 x13 x16; have HB := HB'; have HN := HN'; clear HB' HN'; obtain ⟨x0, x1, x5, x6, x11, x13, x16⟩ := HX.out _ HN.out
 simp only [ck9Us, List.foldl_cons, List.foldl_nil, List.setIfInBounds_toArray, List.set_cons_zero, List.set_cons_succ]
 rw [hF]
 clear hF
 generalize F 34 = f34, F 35 = f35, F 36 = f36, F 37 = f37, F 38 = f38, F 39 = f39, F 40 = f40, F 41 = f41, F 42 = f42, F 43 = f43, F 44 = f44, F 45 = f45, F 46 = f46, F 47 = f47, F 48 = f48, F 49 = f49
 try generalize (if (if x.K.n < x.F.n then (x.F.n : Int) else (x.K.n : Int)) < (x.C.n : Int) then (x.C.n : Int) else if x.K.n < x.F.n then (x.F.n : Int) else (x.K.n : Int)) = mx at *
 simp only [Bool.true_or, Bool.or_true, Bool.or_false, Bool.false_or, Bool.true_and, Bool.false_and, Bool.or_self, Bool.and_self, Bool.and_true, Bool.and_false]
 go_wp2_with (first
  | ((with_reducible refine wpList_load_node _ rfl HN.out ?_ ?_ ?_); exact rfl; exact rfl)
  | (go_at_call 66; (with_reducible refine (HNu.out _).mono ?_); rintro e w' ⟨rfl, hb⟩; have HB' := hid (HB.out.trans (hb.mono HB.out.size)); have HN' := hid (HN.out.keep hb); clear hb HB HN x0 x1 x5 x6 x11 x13 x16; have HB := HB'; have HN := HN'; clear HB' HN'; obtain ⟨x0, x1, x5, x6, x11, x13, x16⟩ := HX.out _ HN.out)
  | (go_at_call 68; (with_reducible refine (HWd.out _).mono ?_); rintro e w' ⟨rfl, hb⟩; have HB' := hid (HB.out.trans (hb.mono HB.out.size)); have HN' := hid (HN.out.keep hb); clear hb HB HN x0 x1 x5 x6 x11 x13 x16; have HB := HB'; have HN := HN'; clear HB' HN'; obtain ⟨x0, x1, x5, x6, x11, x13, x16⟩ := HX.out _ HN.out))
 all_goals go_ret
 all_goals exact ⟨rfl, HB.out⟩
set_option maxRecDepth 100000 in
set_option maxHeartbeats 4000000 in
theorem ckn_d0 (x : NV) (w : World) (hfb : foB x = true)(hmx : ¬ (64 : Int) < ((max (max x.K.n x.F.n) x.C.n : Nat) : Int))(hk1 : (x.t.k == 1) = false) (hk1' : ¬ x.t.k = 1)(hwb : wrB x.t.k x.t.wd x.t.li x.t.zg x.t.le = false) : Calls Tryz.prog 28 #[x.val] w fun e w' => e = .returned (.int .i64 (5 : Nat)) ∧ Below w.heap.size w w' := by
 obtain ⟨cs, hv, hbx⟩ := nbox x
 obtain ⟨hA, hN⟩ := hbx w
 clear hbx
 have HB := hid hA
 have HF := hid (fun W => formed_any x W)
 have HW := hid (fun W => width_any x.t.wd W)
 have HWr := hid (fun W => written_any x W)
 have HNu := hid (fun W => numberN_any x W)
 have HM := hid (fun W => most_any x W)
 have HWd := hid (fun W => worded_any x W)
 have HN := hid hN
 have HX := hid (fun (W : World) (h : NBox W w.heap.size cs x) => nbx7 h)
 rw [hv] at HF HWr HNu HM HWd ⊢
 rw [hfb] at HF
 rw [hwb] at HWr
 rw [← max_ite] at hmx
 obtain ⟨x0, x1, x5, x6, x11, x13, x16⟩ := HX.out _ HN.out
 clear hA hN hv hfb hwb
 go_enter Tryz.func28, Tryz.ntmps28
 go_upto_region 1 with (fail)
 generalize w.alloc (.cells cs 54) = w1 at *
 go_wp2_with (first
  | ((with_reducible refine wpList_load_node _ rfl HN.out ?_ ?_ ?_); exact rfl; exact rfl)
  | (go_at_call 63; (with_reducible refine (HF.out _).mono ?_); rintro e w' ⟨rfl, hb⟩; have HB' := hid (HB.out.trans (hb.mono HB.out.size)); have HN' := hid (HN.out.keep hb); clear hb HB HN x0 x1 x5 x6 x11 x13 x16; have HB := HB'; have HN := HN'; clear HB' HN'; obtain ⟨x0, x1, x5, x6, x11, x13, x16⟩ := HX.out _ HN.out)
  | (go_at_call 64; (with_reducible refine (HW.out _).mono ?_); rintro e w' ⟨rfl, rfl⟩)
  | (go_at_call 65; (with_reducible refine (HWr.out _).mono ?_); rintro e w' ⟨rfl, hb⟩; have HB' := hid (HB.out.trans (hb.mono HB.out.size)); have HN' := hid (HN.out.keep hb); clear hb HB HN x0 x1 x5 x6 x11 x13 x16; have HB := HB'; have HN := HN'; clear HB' HN'; obtain ⟨x0, x1, x5, x6, x11, x13, x16⟩ := HX.out _ HN.out))
 all_goals go_ret
 all_goals exact ⟨rfl, HB.out⟩
set_option maxRecDepth 100000 in
set_option maxHeartbeats 4000000 in
theorem ckn_e0 (x : NV) (w : World) (hfb : foB x = true)(hmx : ¬ (64 : Int) < ((max (max x.K.n x.F.n) x.C.n : Nat) : Int))(hk1 : (x.t.k == 1) = false) (hk1' : ¬ x.t.k = 1)(hwb : wrB x.t.k x.t.wd x.t.li x.t.zg x.t.le = true)(hnum : (decide (x.t.k = 1) || decide (x.t.k = 2)) = false)(hr : ¬ (x.t.mn : Int) = 0) : Calls Tryz.prog 28 #[x.val] w fun e w' => e = .returned (.int .i64 (5 : Nat)) ∧ Below w.heap.size w w' := by
 obtain ⟨cs, hv, hbx⟩ := nbox x
 obtain ⟨hA, hN⟩ := hbx w
 clear hbx
 have HB := hid hA
 have HF := hid (fun W => formed_any x W)
 have HW := hid (fun W => width_any x.t.wd W)
 have HWr := hid (fun W => written_any x W)
 have HNu := hid (fun W => numberN_any x W)
 have HM := hid (fun W => most_any x W)
 have HWd := hid (fun W => worded_any x W)
 have HN := hid hN
 have HX := hid (fun (W : World) (h : NBox W w.heap.size cs x) => nbx7 h)
 rw [hv] at HF HWr HNu HM HWd ⊢
 rw [hfb] at HF
 rw [hwb] at HWr
 rw [hnum] at HNu
 rw [← max_ite] at hmx
 obtain ⟨x0, x1, x5, x6, x11, x13, x16⟩ := HX.out _ HN.out
 clear hA hN hv hfb hwb hnum
 go_enter Tryz.func28, Tryz.ntmps28
 go_upto_region 1 with (fail)
 generalize w.alloc (.cells cs 54) = w1 at *
 go_upto_region 9 with (first
  | ((with_reducible refine wpList_load_node _ rfl HN.out ?_ ?_ ?_); exact rfl; exact rfl)
  | (go_at_call 63; (with_reducible refine (HF.out _).mono ?_); rintro e w' ⟨rfl, hb⟩; have HB' := hid (HB.out.trans (hb.mono HB.out.size)); have HN' := hid (HN.out.keep hb); clear hb HB HN x0 x1 x5 x6 x11 x13 x16; have HB := HB'; have HN := HN'; clear HB' HN'; obtain ⟨x0, x1, x5, x6, x11, x13, x16⟩ := HX.out _ HN.out)
  | (go_at_call 64; (with_reducible refine (HW.out _).mono ?_); rintro e w' ⟨rfl, rfl⟩)
  | (go_at_call 65; (with_reducible refine (HWr.out _).mono ?_); rintro e w' ⟨rfl, hb⟩; have HB' := hid (HB.out.trans (hb.mono HB.out.size)); have HN' := hid (HN.out.keep hb); clear hb HB HN x0 x1 x5 x6 x11 x13 x16; have HB := HB'; have HN := HN'; clear HB' HN'; obtain ⟨x0, x1, x5, x6, x11, x13, x16⟩ := HX.out _ HN.out))
 refine ck9_reg (nb := false) (r1 := _) (r2 := _) (g := w.heap.size) (cs := cs) (x := x) rfl HN.out (by simp) HNu.out HM.out rfl rfl ?_
 intro F w9 hF hb
 have HB' := hid (HB.out.trans (hb.mono HB.out.size)); have HN' := hid (HN.out.keep hb); clear hb HB HN x0 x1 x5 x6 x11 x13 x16; have HB := HB'; have HN := HN'; clear HB' HN'; obtain ⟨x0, x1, x5, x6, x11, x13, x16⟩ := HX.out _ HN.out
 simp only [ck9Us, List.foldl_cons, List.foldl_nil, List.setIfInBounds_toArray, List.set_cons_zero, List.set_cons_succ]
 rw [hF]
 clear hF
 generalize F 34 = f34, F 35 = f35, F 36 = f36, F 37 = f37, F 38 = f38, F 39 = f39, F 40 = f40, F 41 = f41, F 42 = f42, F 43 = f43, F 44 = f44, F 45 = f45, F 46 = f46, F 47 = f47, F 48 = f48, F 49 = f49
 try generalize (if (if x.K.n < x.F.n then (x.F.n : Int) else (x.K.n : Int)) < (x.C.n : Int) then (x.C.n : Int) else if x.K.n < x.F.n then (x.F.n : Int) else (x.K.n : Int)) = mx at *
 simp only [Bool.true_or, Bool.or_true, Bool.or_false, Bool.false_or, Bool.true_and, Bool.false_and, Bool.or_self, Bool.and_self, Bool.and_true, Bool.and_false]
 go_wp2_with (first
  | ((with_reducible refine wpList_load_node _ rfl HN.out ?_ ?_ ?_); exact rfl; exact rfl)
  | (go_at_call 66; (with_reducible refine (HNu.out _).mono ?_); rintro e w' ⟨rfl, hb⟩; have HB' := hid (HB.out.trans (hb.mono HB.out.size)); have HN' := hid (HN.out.keep hb); clear hb HB HN x0 x1 x5 x6 x11 x13 x16; have HB := HB'; have HN := HN'; clear HB' HN'; obtain ⟨x0, x1, x5, x6, x11, x13, x16⟩ := HX.out _ HN.out)
  | (go_at_call 68; (with_reducible refine (HWd.out _).mono ?_); rintro e w' ⟨rfl, hb⟩; have HB' := hid (HB.out.trans (hb.mono HB.out.size)); have HN' := hid (HN.out.keep hb); clear hb HB HN x0 x1 x5 x6 x11 x13 x16; have HB := HB'; have HN := HN'; clear HB' HN'; obtain ⟨x0, x1, x5, x6, x11, x13, x16⟩ := HX.out _ HN.out))
 all_goals go_ret
 all_goals exact ⟨rfl, HB.out⟩
set_option maxRecDepth 100000 in
set_option maxHeartbeats 4000000 in
theorem ckn_f0 (x : NV) (w : World) (hfb : foB x = true)(hmx : ¬ (64 : Int) < ((max (max x.K.n x.F.n) x.C.n : Nat) : Int))(hk1 : (x.t.k == 1) = false) (hk1' : ¬ x.t.k = 1)(hwb : wrB x.t.k x.t.wd x.t.li x.t.zg x.t.le = true)(hnum : (decide (x.t.k = 1) || decide (x.t.k = 2)) = false)(hr : (x.t.mn : Int) = 0) (hr2 : ¬ (x.t.mx : Int) = 0) : Calls Tryz.prog 28 #[x.val] w fun e w' => e = .returned (.int .i64 (5 : Nat)) ∧ Below w.heap.size w w' := by
 obtain ⟨cs, hv, hbx⟩ := nbox x
 obtain ⟨hA, hN⟩ := hbx w
 clear hbx
 have HB := hid hA
 have HF := hid (fun W => formed_any x W)
 have HW := hid (fun W => width_any x.t.wd W)
 have HWr := hid (fun W => written_any x W)
 have HNu := hid (fun W => numberN_any x W)
 have HM := hid (fun W => most_any x W)
 have HWd := hid (fun W => worded_any x W)
 have HN := hid hN
 have HX := hid (fun (W : World) (h : NBox W w.heap.size cs x) => nbx7 h)
 rw [hv] at HF HWr HNu HM HWd ⊢
 rw [hfb] at HF
 rw [hwb] at HWr
 rw [hnum] at HNu
 rw [← max_ite] at hmx
 obtain ⟨x0, x1, x5, x6, x11, x13, x16⟩ := HX.out _ HN.out
 clear hA hN hv hfb hwb hnum
 go_enter Tryz.func28, Tryz.ntmps28
 go_upto_region 1 with (fail)
 generalize w.alloc (.cells cs 54) = w1 at *
 go_upto_region 9 with (first
  | ((with_reducible refine wpList_load_node _ rfl HN.out ?_ ?_ ?_); exact rfl; exact rfl)
  | (go_at_call 63; (with_reducible refine (HF.out _).mono ?_); rintro e w' ⟨rfl, hb⟩; have HB' := hid (HB.out.trans (hb.mono HB.out.size)); have HN' := hid (HN.out.keep hb); clear hb HB HN x0 x1 x5 x6 x11 x13 x16; have HB := HB'; have HN := HN'; clear HB' HN'; obtain ⟨x0, x1, x5, x6, x11, x13, x16⟩ := HX.out _ HN.out)
  | (go_at_call 64; (with_reducible refine (HW.out _).mono ?_); rintro e w' ⟨rfl, rfl⟩)
  | (go_at_call 65; (with_reducible refine (HWr.out _).mono ?_); rintro e w' ⟨rfl, hb⟩; have HB' := hid (HB.out.trans (hb.mono HB.out.size)); have HN' := hid (HN.out.keep hb); clear hb HB HN x0 x1 x5 x6 x11 x13 x16; have HB := HB'; have HN := HN'; clear HB' HN'; obtain ⟨x0, x1, x5, x6, x11, x13, x16⟩ := HX.out _ HN.out))
 refine ck9_reg (nb := false) (r1 := _) (r2 := _) (g := w.heap.size) (cs := cs) (x := x) rfl HN.out (by simp) HNu.out HM.out rfl rfl ?_
 intro F w9 hF hb
 have HB' := hid (HB.out.trans (hb.mono HB.out.size)); have HN' := hid (HN.out.keep hb); clear hb HB HN x0 x1 x5 x6 x11 x13 x16; have HB := HB'; have HN := HN'; clear HB' HN'; obtain ⟨x0, x1, x5, x6, x11, x13, x16⟩ := HX.out _ HN.out
 simp only [ck9Us, List.foldl_cons, List.foldl_nil, List.setIfInBounds_toArray, List.set_cons_zero, List.set_cons_succ]
 rw [hF]
 clear hF
 generalize F 34 = f34, F 35 = f35, F 36 = f36, F 37 = f37, F 38 = f38, F 39 = f39, F 40 = f40, F 41 = f41, F 42 = f42, F 43 = f43, F 44 = f44, F 45 = f45, F 46 = f46, F 47 = f47, F 48 = f48, F 49 = f49
 try generalize (if (if x.K.n < x.F.n then (x.F.n : Int) else (x.K.n : Int)) < (x.C.n : Int) then (x.C.n : Int) else if x.K.n < x.F.n then (x.F.n : Int) else (x.K.n : Int)) = mx at *
 simp only [Bool.true_or, Bool.or_true, Bool.or_false, Bool.false_or, Bool.true_and, Bool.false_and, Bool.or_self, Bool.and_self, Bool.and_true, Bool.and_false]
 go_wp2_with (first
  | ((with_reducible refine wpList_load_node _ rfl HN.out ?_ ?_ ?_); exact rfl; exact rfl)
  | (go_at_call 66; (with_reducible refine (HNu.out _).mono ?_); rintro e w' ⟨rfl, hb⟩; have HB' := hid (HB.out.trans (hb.mono HB.out.size)); have HN' := hid (HN.out.keep hb); clear hb HB HN x0 x1 x5 x6 x11 x13 x16; have HB := HB'; have HN := HN'; clear HB' HN'; obtain ⟨x0, x1, x5, x6, x11, x13, x16⟩ := HX.out _ HN.out)
  | (go_at_call 68; (with_reducible refine (HWd.out _).mono ?_); rintro e w' ⟨rfl, hb⟩; have HB' := hid (HB.out.trans (hb.mono HB.out.size)); have HN' := hid (HN.out.keep hb); clear hb HB HN x0 x1 x5 x6 x11 x13 x16; have HB := HB'; have HN := HN'; clear HB' HN'; obtain ⟨x0, x1, x5, x6, x11, x13, x16⟩ := HX.out _ HN.out))
 all_goals go_ret
 all_goals exact ⟨rfl, HB.out⟩
set_option maxRecDepth 100000 in
set_option maxHeartbeats 4000000 in
theorem ckn_g0 (x : NV) (w : World) (hfb : foB x = true)(hmx : ¬ (64 : Int) < ((max (max x.K.n x.F.n) x.C.n : Nat) : Int))(hk1 : (x.t.k == 1) = false) (hk1' : ¬ x.t.k = 1)(hwb : wrB x.t.k x.t.wd x.t.li x.t.zg x.t.le = true)(hnum : (decide (x.t.k = 1) || decide (x.t.k = 2)) = false)(hr : (x.t.mn : Int) = 0) (hr2 : (x.t.mx : Int) = 0)(hdb : wdB x.t.k x.t.tx x.t.er x.t.mu x.t.ad = false) : Calls Tryz.prog 28 #[x.val] w fun e w' => e = .returned (.int .i64 (5 : Nat)) ∧ Below w.heap.size w w' := by
 obtain ⟨cs, hv, hbx⟩ := nbox x
 obtain ⟨hA, hN⟩ := hbx w
 clear hbx
 have HB := hid hA
 have HF := hid (fun W => formed_any x W)
 have HW := hid (fun W => width_any x.t.wd W)
 have HWr := hid (fun W => written_any x W)
 have HNu := hid (fun W => numberN_any x W)
 have HM := hid (fun W => most_any x W)
 have HWd := hid (fun W => worded_any x W)
 have HN := hid hN
 have HX := hid (fun (W : World) (h : NBox W w.heap.size cs x) => nbx7 h)
 rw [hv] at HF HWr HNu HM HWd ⊢
 rw [hfb] at HF
 rw [hwb] at HWr
 rw [hdb] at HWd
 rw [hnum] at HNu
 rw [← max_ite] at hmx
 obtain ⟨x0, x1, x5, x6, x11, x13, x16⟩ := HX.out _ HN.out
 clear hA hN hv hfb hwb hdb hnum
 go_enter Tryz.func28, Tryz.ntmps28
 go_upto_region 1 with (fail)
 generalize w.alloc (.cells cs 54) = w1 at *
 go_upto_region 9 with (first
  | ((with_reducible refine wpList_load_node _ rfl HN.out ?_ ?_ ?_); exact rfl; exact rfl)
  | (go_at_call 63; (with_reducible refine (HF.out _).mono ?_); rintro e w' ⟨rfl, hb⟩; have HB' := hid (HB.out.trans (hb.mono HB.out.size)); have HN' := hid (HN.out.keep hb); clear hb HB HN x0 x1 x5 x6 x11 x13 x16; have HB := HB'; have HN := HN'; clear HB' HN'; obtain ⟨x0, x1, x5, x6, x11, x13, x16⟩ := HX.out _ HN.out)
  | (go_at_call 64; (with_reducible refine (HW.out _).mono ?_); rintro e w' ⟨rfl, rfl⟩)
  | (go_at_call 65; (with_reducible refine (HWr.out _).mono ?_); rintro e w' ⟨rfl, hb⟩; have HB' := hid (HB.out.trans (hb.mono HB.out.size)); have HN' := hid (HN.out.keep hb); clear hb HB HN x0 x1 x5 x6 x11 x13 x16; have HB := HB'; have HN := HN'; clear HB' HN'; obtain ⟨x0, x1, x5, x6, x11, x13, x16⟩ := HX.out _ HN.out))
 refine ck9_reg (nb := false) (r1 := _) (r2 := _) (g := w.heap.size) (cs := cs) (x := x) rfl HN.out (by simp) HNu.out HM.out rfl rfl ?_
 intro F w9 hF hb
 have HB' := hid (HB.out.trans (hb.mono HB.out.size)); have HN' := hid (HN.out.keep hb); clear hb HB HN x0 x1 x5 x6 x11 x13 x16; have HB := HB'; have HN := HN'; clear HB' HN'; obtain ⟨x0, x1, x5, x6, x11, x13, x16⟩ := HX.out _ HN.out
 simp only [ck9Us, List.foldl_cons, List.foldl_nil, List.setIfInBounds_toArray, List.set_cons_zero, List.set_cons_succ]
 rw [hF]
 clear hF
 generalize F 34 = f34, F 35 = f35, F 36 = f36, F 37 = f37, F 38 = f38, F 39 = f39, F 40 = f40, F 41 = f41, F 42 = f42, F 43 = f43, F 44 = f44, F 45 = f45, F 46 = f46, F 47 = f47, F 48 = f48, F 49 = f49
 try generalize (if (if x.K.n < x.F.n then (x.F.n : Int) else (x.K.n : Int)) < (x.C.n : Int) then (x.C.n : Int) else if x.K.n < x.F.n then (x.F.n : Int) else (x.K.n : Int)) = mx at *
 simp only [Bool.true_or, Bool.or_true, Bool.or_false, Bool.false_or, Bool.true_and, Bool.false_and, Bool.or_self, Bool.and_self, Bool.and_true, Bool.and_false]
 go_wp2_with (first
  | ((with_reducible refine wpList_load_node _ rfl HN.out ?_ ?_ ?_); exact rfl; exact rfl)
  | (go_at_call 66; (with_reducible refine (HNu.out _).mono ?_); rintro e w' ⟨rfl, hb⟩; have HB' := hid (HB.out.trans (hb.mono HB.out.size)); have HN' := hid (HN.out.keep hb); clear hb HB HN x0 x1 x5 x6 x11 x13 x16; have HB := HB'; have HN := HN'; clear HB' HN'; obtain ⟨x0, x1, x5, x6, x11, x13, x16⟩ := HX.out _ HN.out)
  | (go_at_call 68; (with_reducible refine (HWd.out _).mono ?_); rintro e w' ⟨rfl, hb⟩; have HB' := hid (HB.out.trans (hb.mono HB.out.size)); have HN' := hid (HN.out.keep hb); clear hb HB HN x0 x1 x5 x6 x11 x13 x16; have HB := HB'; have HN := HN'; clear HB' HN'; obtain ⟨x0, x1, x5, x6, x11, x13, x16⟩ := HX.out _ HN.out))
 all_goals go_ret
 all_goals exact ⟨rfl, HB.out⟩
set_option maxRecDepth 100000 in
set_option maxHeartbeats 4000000 in
theorem ckn_h0 (x : NV) (w : World) (hfb : foB x = true)(hmx : ¬ (64 : Int) < ((max (max x.K.n x.F.n) x.C.n : Nat) : Int))(hk1 : (x.t.k == 1) = false) (hk1' : ¬ x.t.k = 1)(hwb : wrB x.t.k x.t.wd x.t.li x.t.zg x.t.le = true)(hnum : (decide (x.t.k = 1) || decide (x.t.k = 2)) = false)(hr : (x.t.mn : Int) = 0) (hr2 : (x.t.mx : Int) = 0)(hdb : wdB x.t.k x.t.tx x.t.er x.t.mu x.t.ad = true) : Calls Tryz.prog 28 #[x.val] w fun e w' => e = .returned (.int .i64 (0 : Nat)) ∧ Below w.heap.size w w' := by
 obtain ⟨cs, hv, hbx⟩ := nbox x
 obtain ⟨hA, hN⟩ := hbx w
 clear hbx
 have HB := hid hA
 have HF := hid (fun W => formed_any x W)
 have HW := hid (fun W => width_any x.t.wd W)
 have HWr := hid (fun W => written_any x W)
 have HNu := hid (fun W => numberN_any x W)
 have HM := hid (fun W => most_any x W)
 have HWd := hid (fun W => worded_any x W)
 have HN := hid hN
 have HX := hid (fun (W : World) (h : NBox W w.heap.size cs x) => nbx7 h)
 rw [hv] at HF HWr HNu HM HWd ⊢
 rw [hfb] at HF
 rw [hwb] at HWr
 rw [hdb] at HWd
 rw [hnum] at HNu
 rw [← max_ite] at hmx
 obtain ⟨x0, x1, x5, x6, x11, x13, x16⟩ := HX.out _ HN.out
 clear hA hN hv hfb hwb hdb hnum
 go_enter Tryz.func28, Tryz.ntmps28
 go_upto_region 1 with (fail)
 generalize w.alloc (.cells cs 54) = w1 at *
 go_upto_region 9 with (first
  | ((with_reducible refine wpList_load_node _ rfl HN.out ?_ ?_ ?_); exact rfl; exact rfl)
  | (go_at_call 63; (with_reducible refine (HF.out _).mono ?_); rintro e w' ⟨rfl, hb⟩; have HB' := hid (HB.out.trans (hb.mono HB.out.size)); have HN' := hid (HN.out.keep hb); clear hb HB HN x0 x1 x5 x6 x11 x13 x16; have HB := HB'; have HN := HN'; clear HB' HN'; obtain ⟨x0, x1, x5, x6, x11, x13, x16⟩ := HX.out _ HN.out)
  | (go_at_call 64; (with_reducible refine (HW.out _).mono ?_); rintro e w' ⟨rfl, rfl⟩)
  | (go_at_call 65; (with_reducible refine (HWr.out _).mono ?_); rintro e w' ⟨rfl, hb⟩; have HB' := hid (HB.out.trans (hb.mono HB.out.size)); have HN' := hid (HN.out.keep hb); clear hb HB HN x0 x1 x5 x6 x11 x13 x16; have HB := HB'; have HN := HN'; clear HB' HN'; obtain ⟨x0, x1, x5, x6, x11, x13, x16⟩ := HX.out _ HN.out))
 refine ck9_reg (nb := false) (r1 := _) (r2 := _) (g := w.heap.size) (cs := cs) (x := x) rfl HN.out (by simp) HNu.out HM.out rfl rfl ?_
 intro F w9 hF hb
 have HB' := hid (HB.out.trans (hb.mono HB.out.size)); have HN' := hid (HN.out.keep hb); clear hb HB HN x0 x1 x5 x6 x11 x13 x16; have HB := HB'; have HN := HN'; clear HB' HN'; obtain ⟨x0, x1, x5, x6, x11, x13, x16⟩ := HX.out _ HN.out
 simp only [ck9Us, List.foldl_cons, List.foldl_nil, List.setIfInBounds_toArray, List.set_cons_zero, List.set_cons_succ]
 rw [hF]
 clear hF
 generalize F 34 = f34, F 35 = f35, F 36 = f36, F 37 = f37, F 38 = f38, F 39 = f39, F 40 = f40, F 41 = f41, F 42 = f42, F 43 = f43, F 44 = f44, F 45 = f45, F 46 = f46, F 47 = f47, F 48 = f48, F 49 = f49
 try generalize (if (if x.K.n < x.F.n then (x.F.n : Int) else (x.K.n : Int)) < (x.C.n : Int) then (x.C.n : Int) else if x.K.n < x.F.n then (x.F.n : Int) else (x.K.n : Int)) = mx at *
 simp only [Bool.true_or, Bool.or_true, Bool.or_false, Bool.false_or, Bool.true_and, Bool.false_and, Bool.or_self, Bool.and_self, Bool.and_true, Bool.and_false]
 go_wp2_with (first
  | ((with_reducible refine wpList_load_node _ rfl HN.out ?_ ?_ ?_); exact rfl; exact rfl)
  | (go_at_call 66; (with_reducible refine (HNu.out _).mono ?_); rintro e w' ⟨rfl, hb⟩; have HB' := hid (HB.out.trans (hb.mono HB.out.size)); have HN' := hid (HN.out.keep hb); clear hb HB HN x0 x1 x5 x6 x11 x13 x16; have HB := HB'; have HN := HN'; clear HB' HN'; obtain ⟨x0, x1, x5, x6, x11, x13, x16⟩ := HX.out _ HN.out)
  | (go_at_call 68; (with_reducible refine (HWd.out _).mono ?_); rintro e w' ⟨rfl, hb⟩; have HB' := hid (HB.out.trans (hb.mono HB.out.size)); have HN' := hid (HN.out.keep hb); clear hb HB HN x0 x1 x5 x6 x11 x13 x16; have HB := HB'; have HN := HN'; clear HB' HN'; obtain ⟨x0, x1, x5, x6, x11, x13, x16⟩ := HX.out _ HN.out))
 all_goals go_ret
 all_goals exact ⟨rfl, HB.out⟩
end Go.Proofs.YtfcccfplmdjndaaGreat

/- spec: checkNode, put together. -/
namespace Go.Proofs.YtfcccfplmdjndaaGreat
set_option linter.unusedSimpArgs false
set_option linter.unusedVariables false
open Go.RowKit

theorem checkNode_any (x : NV) (w : World) : Calls Tryz.prog 28 #[x.val] w fun e w' => e = .returned (.int .i64 (ckV x : Nat)) ∧ Below w.heap.size w w' := by
 obtain ⟨R, hR⟩ : ∃ R, R = ckV x := ⟨_, rfl⟩
 rw [← hR]
 unfold ckV at hR
 cases hfb : foB x with
 | false => rw [hR, if_pos hfb]; exact ckn_a x w hfb
 | true =>
  rw [if_neg (by rw [hfb]; decide)] at hR
  by_cases hm : 64 < max (max x.K.n x.F.n) x.C.n
  ·rw [hR, if_pos hm]; exact ckn_b x w hfb (by omega)
  rw [if_neg hm] at hR
  have hmx : ¬ (64 : Int) < ((max (max x.K.n x.F.n) x.C.n : Nat) : Int) := by omega
  have hwd : x.t.k = 1 → (decide (1 ≤ x.t.wd) && decide (x.t.wd ≤ 8)) = false → x.t.k = 1 ∧ ¬ (1 ≤ x.t.wd ∧ x.t.wd ≤ 8) := fun h1 h2 => ⟨h1, fun h3 => by simp [h3.1, h3.2] at h2⟩
  have hwd2 : (decide (1 ≤ x.t.wd) && decide (x.t.wd ≤ 8)) = true → ¬ (x.t.k = 1 ∧ ¬ (1 ≤ x.t.wd ∧ x.t.wd ≤ 8)) := fun h1 h2 => h2.2 (by simpa using h1)
  by_cases h1 : x.t.k = 1
  ·cases hb : (decide (1 ≤ x.t.wd) && decide (x.t.wd ≤ 8)) with
   | false => rw [hR, if_pos (hwd h1 hb)]; exact ckn_c1 x w hfb hmx h1 hb
   | true =>
    rw [if_neg (hwd2 hb)] at hR
    have hn : (decide (x.t.k = 1) || decide (x.t.k = 2)) = true := by simp [h1]
    cases hw : wrB x.t.k x.t.wd x.t.li x.t.zg x.t.le with
    | false => rw [hR, if_pos hw]; exact ckn_d1 x w hfb hmx h1 hb hw
    | true =>
     rw [if_neg (by rw [hw]; decide)] at hR
     by_cases hr : x.t.mx < x.t.mn
     ·rw [hR, if_pos ⟨.inl h1, .inl hr⟩]; exact ckn_e1 x w hfb hmx h1 hb hw hn (by omega)
     by_cases hr2 : mostV x.t.k x.t.wd < x.t.mx
     ·rw [hR, if_pos ⟨.inl h1, .inr hr2⟩]; exact ckn_f1 x w hfb hmx h1 hb hw hn (by omega) (by omega)
     rw [if_neg (fun h => h.2.elim hr hr2), if_neg (fun h => h.1 (.inl h1))] at hR
     cases hd : wdB x.t.k x.t.tx x.t.er x.t.mu x.t.ad with
     | false => rw [hR, if_pos hd]; exact ckn_g1 x w hfb hmx h1 hb hw hn (by omega) (by omega) hd
     | true => rw [hR, if_neg (by rw [hd]; decide)]; exact ckn_h1 x w hfb hmx h1 hb hw hn (by omega) (by omega) hd
  rw [if_neg (fun h => h1 h.1)] at hR
  by_cases h2 : x.t.k = 2
  ·have hn : (decide (x.t.k = 1) || decide (x.t.k = 2)) = true := by simp [h2]
   cases hw : wrB x.t.k x.t.wd x.t.li x.t.zg x.t.le with
   | false => rw [hR, if_pos hw]; exact ckn_d2 x w hfb hmx h2 hw
   | true =>
    rw [if_neg (by rw [hw]; decide)] at hR
    by_cases hr : x.t.mx < x.t.mn
    ·rw [hR, if_pos ⟨.inr h2, .inl hr⟩]; exact ckn_e2 x w hfb hmx h2 hw hn (by omega)
    by_cases hr2 : mostV x.t.k x.t.wd < x.t.mx
    ·rw [hR, if_pos ⟨.inr h2, .inr hr2⟩]; exact ckn_f2 x w hfb hmx h2 hw hn (by omega) (by omega)
    rw [if_neg (fun h => h.2.elim hr hr2), if_neg (fun h => h.1 (.inr h2))] at hR
    cases hd : wdB x.t.k x.t.tx x.t.er x.t.mu x.t.ad with
    | false => rw [hR, if_pos hd]; exact ckn_g2 x w hfb hmx h2 hw hn (by omega) (by omega) hd
    | true => rw [hR, if_neg (by rw [hd]; decide)]; exact ckn_h2 x w hfb hmx h2 hw hn (by omega) (by omega) hd
  have hn : (decide (x.t.k = 1) || decide (x.t.k = 2)) = false := by simp [h1, h2]
  have hk : (x.t.k == 1) = false := by simp [h1]
  cases hw : wrB x.t.k x.t.wd x.t.li x.t.zg x.t.le with
  | false => rw [hR, if_pos hw]; exact ckn_d0 x w hfb hmx hk h1 hw
  | true =>
   rw [if_neg (by rw [hw]; decide), if_neg (fun h => h.1.elim h1 h2)] at hR
   by_cases hr : x.t.mn = 0
   ·by_cases hr2 : x.t.mx = 0
    ·rw [if_neg (fun h => h.2.elim (fun h => h hr) (fun h => h hr2))] at hR
     cases hd : wdB x.t.k x.t.tx x.t.er x.t.mu x.t.ad with
     | false => rw [hR, if_pos hd]; exact ckn_g0 x w hfb hmx hk h1 hw hn (by omega) (by omega) hd
     | true => rw [hR, if_neg (by rw [hd]; decide)]; exact ckn_h0 x w hfb hmx hk h1 hw hn (by omega) (by omega) hd
    ·rw [hR, if_pos ⟨fun h => h.elim h1 h2, .inr hr2⟩]; exact ckn_f0 x w hfb hmx hk h1 hw hn (by omega) (by omega)
   ·rw [hR, if_pos ⟨fun h => h.elim h1 h2, .inl hr⟩]; exact ckn_e0 x w hfb hmx hk h1 hw hn (by omega)
end Go.Proofs.YtfcccfplmdjndaaGreat
