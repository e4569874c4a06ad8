/- code: CodeChecks. -/
import Derived.Test.YtpbkdokhlimpfaaDoorCeG
import Derived.Laws.StructEq
namespace Go.Proofs.YtpbkdokhlimpfaaDoor
set_option linter.unusedSimpArgs false
set_option linter.unusedVariables false
open Go.RowKit Go.Sort

theorem run_fte (c p : Int) (W : World) : (Op.equalIn 10000 29 (.agg #[.int .i64 c, .int .i64 p]) (.agg #[.int .i64 c, .int .i64 p])).run Tryd.prog W = .ok true W := by
  have u3 := Tryd.underlying3
  have u4 := Tryd.underlying27
  have a3 := Tryd.isAgg3
  have z3 := Tryd.sizeOf3
  have a4 := Tryd.isAgg27
  have z4 := Tryd.sizeOf27
  have hS : Tryd.prog.underlying 29 = some (.struct (Tryd.prog.fieldsOf 29)) := by kernel_rfl
  have hp : Tryd.prog.stoodInHeld 29 = false := by kernel_rfl
  rw [show (10000 : Nat) = 9999 + 1 from rfl, run_equalIn_agg W 9999 29 _ _ hS hp]
  simp only [Program.fieldsOf, Tryd.underlying29]
  go_simp
theorem sm_ok {p : PT} (h : smS p = true) : p.ss.length ≤ 200 ∧ ∀ x ∈ p.ss, x.ws.length ≤ 300 := by
  unfold smS at h
  rw [Bool.and_eq_true] at h
  exact ⟨by simpa using h.2, fun x hx => by simpa using List.all_eq_true.1 h.1 x hx⟩
set_option maxRecDepth 100000 in
set_option maxHeartbeats 8000000 in
theorem checks_walk (p : PT) (w : World) {P : Nat → Prop} (hP : PtOk w P p) (hn : p.S.n ≤ 9223372036854775807) (ht : Tab10 w) : Calls Tryd.prog 3 #[p.val] w fun e w' => e = .returned (.bool true) ∧ Below w.heap.size w w' := by
  obtain ⟨RR, hRR⟩ : ∃ RR : Ending → World → Prop, RR = fun e w' => e = .returned (.bool true) ∧ Below w.heap.size w w' := ⟨_, rfl⟩
  rw [← hRR]
  have HRR := hid hRR
  obtain ⟨hb, h1⟩ := box_prog w p
  have hpc : p.cells.toArray = #[.slice p.S.A p.S.n p.S.c, .int .i64 p.sl, .int .i64 p.su, .int .i64 p.au] := rfl
  rw [hpc] at hb h1
  have HB := hid hb
  have HX := hid h1
  have HBu := hid (builds_any _ (Tab10.keep ht hb))
  have HSm := hid (fun W (hW : Below w.heap.size w W) => small_any' p W (hP.mono (fun b _ hl => hW.block b hl) hW.size (fun _ h _ => h)) hn)
  have HP := hid (fun W (hW : Below w.heap.size w W) => (hP.mono (Q := P) (fun b _ hl => hW.block b hl) hW.size (fun _ h _ => h)))
  unfold PT.val at HSm
  unfold PT.val
  clear hRR hb h1 hpc hP ht
  go_enter Tryd.func3, Tryd.ntmps3
  go_upto_region 1 with (fail)
  generalize w.alloc (.cells #[.slice p.S.A p.S.n p.S.c, .int .i64 p.sl, .int .i64 p.su, .int .i64 p.au] 24) = w1 at *
  go_upto_region 3 with (go_at_call 7; (with_reducible refine HBu.out.mono ?_); rintro e w2 ⟨rfl, hb2⟩; have HB2 := hid hb2; clear hb2)
  have HB3 := hid (HB.out.trans (HB2.out.mono HB.out.size))
  obtain ⟨x0, x1, x2, x3⟩ := BoxP.four (p := p) (Blk.keep HX.out HB2.out)
  have HSm2 := hid (HSm.out w2 HB3.out)
  obtain ⟨sm, hsm⟩ : ∃ sm, sm = smS p := ⟨_, rfl⟩
  rw [← hsm] at HSm2
  have HSe := hid hsm
  clear hsm
  cases sm
  · go_wp2_with (go_at_call 8; (with_reducible refine HSm2.out.mono ?_); rintro e w3 ⟨rfl, hb3⟩; have HB4 := hid hb3; clear hb3)
    show RR (.returned (.bool true)) w3
    rw [HRR.out]
    exact ⟨rfl, HB3.out.trans (HB4.out.mono HB3.out.size)⟩
  · go_upto_region 5 with (go_at_call 8; (with_reducible refine HSm2.out.mono ?_); rintro e w3 ⟨rfl, hb3⟩; have HB4 := hid hb3; clear hb3)
    have hsm := sm_ok HSe.out.symm
    have HB5 := hid (HB3.out.trans (HB4.out.mono HB3.out.size))
    have HBx := hid (Blk.keep (Blk.keep HX.out HB2.out) HB4.out)
    have HC1 := hid (Check_any may_any p w3.drew (HP.out w3.drew (HB5.out.trans ((below_d0' w3).mono HB5.out.size))) (by omega) (fun x hx => by have := hsm.2 x hx; omega))
    have HW1 := hid (fun W (hW : Below w3.heap.size w3 W) => wrong_any p W (HP.out W (HB5.out.trans (hW.mono HB5.out.size))) (by omega) (fun x hx => by have := hsm.2 x hx; omega))
    obtain ⟨R, hR⟩ : ∃ R, R = ckS (mayS p) p := ⟨_, rfl⟩
    rw [← hR] at HC1 HW1
    unfold PT.val fltV at HC1 HW1
    have hq := fun W => run_fte R.1 R.2 W
    clear hR hsm x0 x1 x2 x3
    have HS3 := hid (fun W (hW : Below w3.heap.size w3 W) => BoxP.four (p := p) (Blk.keep HBx.out hW))
    have hS0 := HS3.out w3.drew (below_d0' w3)
    go_region_held3 (fun W => W.cell? ⟨w.heap.size, 0, none⟩ = some (.slice p.S.A p.S.n p.S.c) ∧ W.cell? ⟨w.heap.size, 1, none⟩ = some (.int .i64 p.sl) ∧ W.cell? ⟨w.heap.size, 2, none⟩ = some (.int .i64 p.su) ∧ W.cell? ⟨w.heap.size, 3, none⟩ = some (.int .i64 p.au))
      (first | with_reducible exact hS0 | with_reducible exact hS1 | with_reducible exact hS2)
      (first
      | ((with_reducible refine HC1.out.mono ?_); rintro e w4 ⟨rfl, hb⟩; have HB6 := hid (below_ofdrew hb); clear hb; have hS1 := HS3.out w4 HB6.out; have HW2 := hid (HW1.out w4 HB6.out))
      | ((with_reducible refine HW2.out.mono ?_); rintro e w5 ⟨rfl, hb⟩; have HB7 := hid (HB6.out.trans (hb.mono HB6.out.size)); clear hb; have hS2 := HS3.out w5 HB7.out))
    clear hS0 hS1 hS2
    go_wp2_with fail
    show RR (.returned (.bool true)) w5
    rw [HRR.out]
    exact ⟨rfl, HB5.out.trans (HB7.out.mono HB5.out.size)⟩
theorem checks_row {W : World} (p : PT) (h : PtOk W (· < W.heap.size) p ∧ p.S.n ≤ 9223372036854775807 ∧ (∀ x ∈ p.ss, StNum x) ∧ I64 p.sl ∧ I64 p.su ∧ I64 p.au) (ht : Tab10 W) : Calls Tryd.prog 3 #[p.val] W fun e w' => e = .returned (.bool true) ∧ Below W.heap.size W w' := checks_walk p W h.1 h.2.1 ht
end Go.Proofs.YtpbkdokhlimpfaaDoor
