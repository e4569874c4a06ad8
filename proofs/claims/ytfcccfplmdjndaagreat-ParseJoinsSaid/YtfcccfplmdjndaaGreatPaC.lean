/- parse: expressions, ranges. -/
import Derived.Test.YtfcccfplmdjndaaGreatPaA
namespace Go.Proofs.YtfcccfplmdjndaaGreat
set_option linter.unusedSimpArgs false
set_option linter.unusedVariables false
open Go.RowKit

variable {w w' w0 : World} {O O0 : Nat → Prop} {g : Nat} {L : List Tk} {s s' : RS}
def exC (x : EX) : List Value := [.string ⟨x.1.toArray⟩, .int .u64 (x.2.1 : Int), .int .u64 (x.2.2 : Int)]
def exV (x : EX) : Value := .agg (exC x).toArray
theorem exC_size (x : EX) : (Tryz.prog.info? 48).map (·.size) = some (exC x).toArray.size := by
 have h : (Tryz.prog.info? 48).map (·.size) = some 3 := by kernel_rfl
 exact h
theorem exC_one (x : EX) : (exC x).toArray.all (·.oneCell') = true := by simp [exC, Value.oneCell']
theorem tok_0 (k p : Nat) (x : List UInt8) (W : World) : (Instr.field 70 (.agg #[.int .i64 (k : Int), .int .i64 (p : Int), .string ⟨x.toArray⟩]) 0).run Tryz.prog W = .ok (.int .i64 (k : Int)) W := by kernel_rfl
set_option maxRecDepth 100000 in
set_option maxHeartbeats 2000000 in
theorem reck_any (h : RdX w O g L s) : Calls Tryz.prog 123 #[.pointer (some ⟨g, 0, none⟩)] w fun e w' => e = .returned (exV (reckP s).1) ∧ StG w O g L (reckP s).2 w' := by
 have HA := hid (At.start h)
 obtain ⟨P, hP⟩ : ∃ P, P = reckP s := ⟨_, rfl⟩
 have HQ := hid hP
 rw [← hP]
 clear hP h
 obtain ⟨ha, h2, h3⟩ := HA.out.two 48 [.string ⟨#[]⟩, .int .u64 0, .int .u64 0] #[.string ⟨#[]⟩, .int .u64 0, .int .u64 0] rfl 48 [.string ⟨#[]⟩, .int .u64 1, .int .u64 0] #[.string ⟨#[]⟩, .int .u64 1, .int .u64 0] rfl
 replace HA := hid ha
 have HX2 := hid h2
 have HX3 := hid h3
 clear ha h2 h3
 go_enter Tryz.func123, Tryz.ntmps123
 go_upto_region 2 with fail
 generalize (w.alloc (.cells #[.string ⟨#[]⟩, .int .u64 0, .int .u64 0] 48)).alloc (.cells #[.string ⟨#[]⟩, .int .u64 1, .int .u64 0] 48) = w1 at *
 obtain ⟨p, hn⟩ := next_g HA.out.rd
 have HC := hid hn
 have q0 := tok_0 (nxt s).1 p (nxt s).2
 clear hn
 by_cases hk : (nxt s).1 = 2
 rotate_left
 ·have hkb : (((nxt s).1 : Int) == 2) = false := by simpa using (show ¬ ((nxt s).1 : Int) = 2 by omega)
  have HRE := hid (show reckP s = reckB 1 s from by unfold reckP; rw [if_neg hk])
  clear hk
  go_upto_region 9 with (go_at_call 51; (with_reducible refine HC.out.mono ?_); rintro e wk ⟨rfl, hk⟩; obtain ⟨Ok, ha, hb⟩ := At.call HA.out hk; replace HA := hid ha; replace HX2 := hid (HX2.out.call hb); replace HX3 := hid (HX3.out.call hb); clear hk ha hb; clear HC)
  clear q0 hkb
  have HC := hid (name_g HA.out.rd)
  obtain ⟨P1, hP1⟩ : ∃ P1, P1 = nameP s := ⟨_, rfl⟩
  rw [← hP1] at HC
  have HP1 := hid hP1
  clear hP1
  have z3_0 := HX3.out.at 0; have y3_0 := HX3.out.free 0; simp only [List.getElem?_cons_zero, List.getElem?_cons_succ] at z3_0
  go_upto_region 10 with (go_at_call 52; (with_reducible refine HC.out.mono ?_); rintro e wk ⟨rfl, hk⟩; obtain ⟨Ok, ha, hb⟩ := At.call HA.out hk; replace HA := hid ha; replace HX2 := hid (HX2.out.call hb); replace HX3 := hid (HX3.out.call hb); clear hk ha hb; clear HC; have z3_0 := HX3.out.at 0; have y3_0 := HX3.out.free 0; simp only [List.getElem?_cons_zero, List.getElem?_cons_succ] at z3_0)
  have ha := HA.out.bset HX3.out 0 (.string ⟨P1.1.toArray⟩)
  have hx := HX3.out.put 0 (.string ⟨P1.1.toArray⟩)
  have hx2 := HX2.out.other (b' := w.heap.size + 1) (fun e => by omega) 0 (.string ⟨P1.1.toArray⟩)
  replace HA := hid ha
  replace HX3 := hid (show Bx _ _ _ _ _ [.string ⟨P1.1.toArray⟩, .int .u64 1, .int .u64 0] from hx)
  replace HX2 := hid hx2
  clear ha hx hx2
  generalize wk.setCell ⟨w.heap.size + 1, 0, none⟩ (.string ⟨P1.1.toArray⟩) = w2 at *
  have HC := hid (show Calls Tryz.prog 86 #[.pointer (some ⟨g, 0, none⟩), .int .i64 4, .string ⟨#[43]⟩] _ (fun e w' => e = .returned (.bool (tookP 4 [43] P1.2).1) ∧ StG _ _ g L (tookP 4 [43] P1.2).2 w') from took_g HA.out.rd 4 [43])
  obtain ⟨P2, hP2⟩ : ∃ P2, P2 = tookP 4 [43] P1.2 := ⟨_, rfl⟩
  rw [← hP2] at HC
  have HP2 := hid hP2
  clear hP2
  obtain ⟨b2, s2⟩ := P2
  have HE := hid (show reckB 1 s = (if b2 = true then ((P1.1, 1, (numP 0 uMax s2).1), (numP 0 uMax s2).2) else ((P1.1, 1, 0), s2)) from by
   unfold reckB
   simp only [← HP1.out, ← HP2.out])
  simp only at HC
  cases b2
  ·go_wp2_with (first
    | (go_at_call 86; (with_reducible refine HC.out.mono ?_); rintro e wk ⟨rfl, hk⟩; obtain ⟨Ok, ha, hb⟩ := At.call HA.out hk; replace HA := hid ha; replace HX2 := hid (HX2.out.call hb); replace HX3 := hid (HX3.out.call hb); clear hk ha hb; clear HC; have z3_0 := HX3.out.at 0; have y3_0 := HX3.out.free 0; simp only [List.getElem?_cons_zero, List.getElem?_cons_succ] at z3_0; have z3_1 := HX3.out.at 1; have y3_1 := HX3.out.free 1; simp only [List.getElem?_cons_zero, List.getElem?_cons_succ] at z3_1; have z3_2 := HX3.out.at 2; have y3_2 := HX3.out.free 2; simp only [List.getElem?_cons_zero, List.getElem?_cons_succ] at z3_2; have z2_0 := HX2.out.at 0; have y2_0 := HX2.out.free 0; simp only [List.getElem?_cons_zero, List.getElem?_cons_succ] at z2_0; have z2_1 := HX2.out.at 1; have y2_1 := HX2.out.free 1; simp only [List.getElem?_cons_zero, List.getElem?_cons_succ] at z2_1; have z2_2 := HX2.out.at 2; have y2_2 := HX2.out.free 2; simp only [List.getElem?_cons_zero, List.getElem?_cons_succ] at z2_2)
    | (with_reducible refine wpList_load_row rfl 48 _ rfl (w.heap.size + 1) rfl 48 (exC (P1.1, 1, 0)).toArray (0, 0) _ HX3.out.bget Tryz.underlying48 rfl (exC_size _) ?_)
    | (with_reducible refine wpList_store_row rfl 48 _ _ rfl w.heap.size (exC (P1.1, 1, 0)).toArray rfl rfl 48 _ HX2.out.bget (exC_size _) rfl (exC_one _) ?_))
   have hb2 := HX2.out.row (cs' := exC (P1.1, 1, 0))
   refine bodyPost_ret (v := exV (P1.1, 1, 0)) (results_cell_row (P := Tryz.prog) (fn := Tryz.f123) rfl _ _ w.heap.size 48 (exC (P1.1, 1, 0)).toArray (0, 0) _ rfl hb2.bget Tryz.underlying48 rfl (exC_size _)) rfl ?_
   rw [HQ.out, HRE.out, HE.out]
   exact ⟨rfl, (HA.out.brow HX2.out _).stg⟩
  ·go_upto_region 11 with (go_at_call 86; (with_reducible refine HC.out.mono ?_); rintro e wk ⟨rfl, hk⟩; obtain ⟨Ok, ha, hb⟩ := At.call HA.out hk; replace HA := hid ha; replace HX2 := hid (HX2.out.call hb); replace HX3 := hid (HX3.out.call hb); clear hk ha hb; clear HC)
   have HC := hid (show Calls Tryz.prog 122 #[.pointer (some ⟨g, 0, none⟩), .int .u64 0, .int .u64 18446744073709551615] _ (fun e w' => e = .returned (.int .u64 ((numP 0 uMax s2).1 : Int)) ∧ StG _ _ g L (numP 0 uMax s2).2 w') from num_g HA.out.rd 0 uMax)
   have z3_2 := HX3.out.at 2; have y3_2 := HX3.out.free 2; simp only [List.getElem?_cons_zero, List.getElem?_cons_succ] at z3_2
   go_upto_region 12 with (go_at_call 122; (with_reducible refine HC.out.mono ?_); rintro e wk ⟨rfl, hk⟩; obtain ⟨Ok, ha, hb⟩ := At.call HA.out hk; replace HA := hid ha; replace HX2 := hid (HX2.out.call hb); replace HX3 := hid (HX3.out.call hb); clear hk ha hb; clear HC; have z3_2 := HX3.out.at 2; have y3_2 := HX3.out.free 2; simp only [List.getElem?_cons_zero, List.getElem?_cons_succ] at z3_2)
   have ha := HA.out.bset HX3.out 2 (.int .u64 ((numP 0 uMax s2).1 : Int))
   have hx := HX3.out.put 2 (.int .u64 ((numP 0 uMax s2).1 : Int))
   have hx2 := HX2.out.other (b' := w.heap.size + 1) (fun e => by omega) 2 (.int .u64 ((numP 0 uMax s2).1 : Int))
   replace HA := hid ha
   replace HX3 := hid (show Bx _ _ _ _ _ (exC (P1.1, 1, (numP 0 uMax s2).1)) from hx)
   replace HX2 := hid hx2
   clear ha hx hx2
   generalize wk.setCell ⟨w.heap.size + 1, 2, none⟩ (.int .u64 ((numP 0 uMax s2).1 : Int)) = w4 at *
   go_wp2_with (first
    | (with_reducible refine wpList_load_row rfl 48 _ rfl (w.heap.size + 1) rfl 48 (exC (P1.1, 1, (numP 0 uMax s2).1)).toArray (0, 0) _ HX3.out.bget Tryz.underlying48 rfl (exC_size _) ?_)
    | (with_reducible refine wpList_store_row rfl 48 _ _ rfl w.heap.size (exC (P1.1, 1, (numP 0 uMax s2).1)).toArray rfl rfl 48 _ HX2.out.bget (exC_size _) rfl (exC_one _) ?_))
   have hb2 := HX2.out.row (cs' := exC (P1.1, 1, (numP 0 uMax s2).1))
   refine bodyPost_ret (v := exV (P1.1, 1, (numP 0 uMax s2).1)) (results_cell_row (P := Tryz.prog) (fn := Tryz.f123) rfl _ _ w.heap.size 48 (exC (P1.1, 1, (numP 0 uMax s2).1)).toArray (0, 0) _ rfl hb2.bget Tryz.underlying48 rfl (exC_size _)) rfl ?_
   rw [HQ.out, HRE.out, HE.out]
   exact ⟨rfl, (HA.out.brow HX2.out _).stg⟩

 ·have hkb : (((nxt s).1 : Int) == 2) = true := by simpa using (show ((nxt s).1 : Int) = 2 by omega)
  have HK := hid hk
  clear hk
  go_upto_region 3 with (go_at_call 51; (with_reducible refine HC.out.mono ?_); rintro e wk ⟨rfl, hk⟩; obtain ⟨Ok, ha, hb⟩ := At.call HA.out hk; replace HA := hid ha; replace HX2 := hid (HX2.out.call hb); replace HX3 := hid (HX3.out.call hb); clear hk ha hb; clear HC)
  clear q0 hkb
  have HC := hid (show Calls Tryz.prog 122 #[.pointer (some ⟨g, 0, none⟩), .int .u64 0, .int .u64 18446744073709551615] _ (fun e w' => e = .returned (.int .u64 ((numP 0 uMax s).1 : Int)) ∧ StG _ _ g L (numP 0 uMax s).2 w') from num_g HA.out.rd 0 uMax)
  obtain ⟨P0, hP0⟩ : ∃ P0, P0 = numP 0 uMax s := ⟨_, rfl⟩
  rw [← hP0] at HC
  have HP0 := hid hP0
  clear hP0
  obtain ⟨n, s0⟩ := P0
  simp only at HC
  go_upto_region 4 with (go_at_call 122; (with_reducible refine HC.out.mono ?_); rintro e wk ⟨rfl, hk⟩; obtain ⟨Ok, ha, hb⟩ := At.call HA.out hk; replace HA := hid ha; replace HX2 := hid (HX2.out.call hb); replace HX3 := hid (HX3.out.call hb); clear hk ha hb; clear HC)
  have HC := hid (show Calls Tryz.prog 86 #[.pointer (some ⟨g, 0, none⟩), .int .i64 4, .string ⟨#[42]⟩] _ (fun e w' => e = .returned (.bool (tookP 4 [42] s0).1) ∧ StG _ _ g L (tookP 4 [42] s0).2 w') from took_g HA.out.rd 4 [42])
  obtain ⟨Pt, hPt⟩ : ∃ Pt, Pt = tookP 4 [42] s0 := ⟨_, rfl⟩
  rw [← hPt] at HC
  have HPt := hid hPt
  clear hPt
  obtain ⟨b0, st⟩ := Pt
  simp only at HC
  cases b0
  ·have HRE := hid (show reckP s = (([], 0, n), st) from by
    unfold reckP
    rw [if_pos HK.out]
    simp only [← HP0.out, ← HPt.out]
    rfl)
   go_wp2_with (first
    | (go_at_call 86; (with_reducible refine HC.out.mono ?_); rintro e wk ⟨rfl, hk⟩; obtain ⟨Ok, ha, hb⟩ := At.call HA.out hk; replace HA := hid ha; replace HX2 := hid (HX2.out.call hb); replace HX3 := hid (HX3.out.call hb); clear hk ha hb; clear HC; have z2_0 := HX2.out.at 0; have y2_0 := HX2.out.free 0; simp only [List.getElem?_cons_zero, List.getElem?_cons_succ] at z2_0; have z2_1 := HX2.out.at 1; have y2_1 := HX2.out.free 1; simp only [List.getElem?_cons_zero, List.getElem?_cons_succ] at z2_1; have z2_2 := HX2.out.at 2; have y2_2 := HX2.out.free 2; simp only [List.getElem?_cons_zero, List.getElem?_cons_succ] at z2_2)
    | (with_reducible refine wpList_store_row rfl 48 _ _ rfl w.heap.size (exC ([], 0, n)).toArray rfl rfl 48 _ HX2.out.bget (exC_size _) rfl (exC_one _) ?_))
   have hb2 := HX2.out.row (cs' := exC ([], 0, n))
   refine bodyPost_ret (v := exV ([], 0, n)) (results_cell_row (P := Tryz.prog) (fn := Tryz.f123) rfl _ _ w.heap.size 48 (exC ([], 0, n)).toArray (0, 0) _ rfl hb2.bget Tryz.underlying48 rfl (exC_size _)) rfl ?_
   rw [HQ.out, HRE.out]
   exact ⟨rfl, (HA.out.brow HX2.out _).stg⟩
  ·go_upto_region 6 with (go_at_call 86; (with_reducible refine HC.out.mono ?_); rintro e wk ⟨rfl, hk⟩; obtain ⟨Ok, ha, hb⟩ := At.call HA.out hk; replace HA := hid ha; replace HX2 := hid (HX2.out.call hb); replace HX3 := hid (HX3.out.call hb); clear hk ha hb; clear HC)
   by_cases h0 : n = 0
   ·subst h0
    have HRE := hid (show reckP s = reckB 0 (oweP 1 st) from by
     unfold reckP
     rw [if_pos HK.out]
     simp only [← HP0.out, ← HPt.out]
     rfl)
    have HC := hid (show Calls Tryz.prog 55 #[.pointer (some ⟨g, 0, none⟩), .int .i64 1] _ (fun e w' => e = .returned (.tuple #[]) ∧ StG _ _ g L (oweP 1 st) w') from owe_g HA.out.rd 1)
    obtain ⟨so, hso⟩ : ∃ so, so = oweP 1 st := ⟨_, rfl⟩
    rw [← hso] at HC HRE
    clear hso
    go_upto_region 8 with (go_at_call 55; (with_reducible refine HC.out.mono ?_); rintro e wk ⟨rfl, hk⟩; obtain ⟨Ok, ha, hb⟩ := At.call HA.out hk; replace HA := hid ha; replace HX2 := hid (HX2.out.call hb); replace HX3 := hid (HX3.out.call hb); clear hk ha hb; clear HC)
    have z3_1 := HX3.out.at 1; have y3_1 := HX3.out.free 1; simp only [List.getElem?_cons_zero, List.getElem?_cons_succ] at z3_1
    go_upto_region 9 with fail
    have ha := HA.out.bset HX3.out 1 (.int .u64 0)
    have hx := HX3.out.put 1 (.int .u64 0)
    have hx2 := HX2.out.other (b' := w.heap.size + 1) (fun e => by omega) 1 (.int .u64 0)
    replace HA := hid ha
    replace HX3 := hid (show Bx _ _ _ _ _ [.string ⟨#[]⟩, .int .u64 0, .int .u64 0] from hx)
    replace HX2 := hid hx2
    clear ha hx hx2
    clear z3_1 y3_1
    generalize wk.setCell ⟨w.heap.size + 1, 1, none⟩ (.int .u64 0) = w9 at *
    have HC := hid (name_g HA.out.rd)
    obtain ⟨P1, hP1⟩ : ∃ P1, P1 = nameP so := ⟨_, rfl⟩
    rw [← hP1] at HC
    have HP1 := hid hP1
    clear hP1
    have z3_0 := HX3.out.at 0; have y3_0 := HX3.out.free 0; simp only [List.getElem?_cons_zero, List.getElem?_cons_succ] at z3_0
    go_upto_region 10 with (go_at_call 52; (with_reducible refine HC.out.mono ?_); rintro e wk ⟨rfl, hk⟩; obtain ⟨Ok, ha, hb⟩ := At.call HA.out hk; replace HA := hid ha; replace HX2 := hid (HX2.out.call hb); replace HX3 := hid (HX3.out.call hb); clear hk ha hb; clear HC; have z3_0 := HX3.out.at 0; have y3_0 := HX3.out.free 0; simp only [List.getElem?_cons_zero, List.getElem?_cons_succ] at z3_0)
    have ha := HA.out.bset HX3.out 0 (.string ⟨P1.1.toArray⟩)
    have hx := HX3.out.put 0 (.string ⟨P1.1.toArray⟩)
    have hx2 := HX2.out.other (b' := w.heap.size + 1) (fun e => by omega) 0 (.string ⟨P1.1.toArray⟩)
    replace HA := hid ha
    replace HX3 := hid (show Bx _ _ _ _ _ [.string ⟨P1.1.toArray⟩, .int .u64 0, .int .u64 0] from hx)
    replace HX2 := hid hx2
    clear ha hx hx2
    generalize wk.setCell ⟨w.heap.size + 1, 0, none⟩ (.string ⟨P1.1.toArray⟩) = w2 at *
    have HC := hid (show Calls Tryz.prog 86 #[.pointer (some ⟨g, 0, none⟩), .int .i64 4, .string ⟨#[43]⟩] _ (fun e w' => e = .returned (.bool (tookP 4 [43] P1.2).1) ∧ StG _ _ g L (tookP 4 [43] P1.2).2 w') from took_g HA.out.rd 4 [43])
    obtain ⟨P2, hP2⟩ : ∃ P2, P2 = tookP 4 [43] P1.2 := ⟨_, rfl⟩
    rw [← hP2] at HC
    have HP2 := hid hP2
    clear hP2
    obtain ⟨b2, s2⟩ := P2
    have HE := hid (show reckB 0 so = (if b2 = true then ((P1.1, 0, (numP 0 uMax s2).1), (numP 0 uMax s2).2) else ((P1.1, 0, 0), s2)) from by
     unfold reckB
     simp only [← HP1.out, ← HP2.out])
    simp only at HC
    cases b2
    ·go_wp2_with (first
      | (go_at_call 86; (with_reducible refine HC.out.mono ?_); rintro e wk ⟨rfl, hk⟩; obtain ⟨Ok, ha, hb⟩ := At.call HA.out hk; replace HA := hid ha; replace HX2 := hid (HX2.out.call hb); replace HX3 := hid (HX3.out.call hb); clear hk ha hb; clear HC; have z3_0 := HX3.out.at 0; have y3_0 := HX3.out.free 0; simp only [List.getElem?_cons_zero, List.getElem?_cons_succ] at z3_0; have z3_1 := HX3.out.at 1; have y3_1 := HX3.out.free 1; simp only [List.getElem?_cons_zero, List.getElem?_cons_succ] at z3_1; have z3_2 := HX3.out.at 2; have y3_2 := HX3.out.free 2; simp only [List.getElem?_cons_zero, List.getElem?_cons_succ] at z3_2; have z2_0 := HX2.out.at 0; have y2_0 := HX2.out.free 0; simp only [List.getElem?_cons_zero, List.getElem?_cons_succ] at z2_0; have z2_1 := HX2.out.at 1; have y2_1 := HX2.out.free 1; simp only [List.getElem?_cons_zero, List.getElem?_cons_succ] at z2_1; have z2_2 := HX2.out.at 2; have y2_2 := HX2.out.free 2; simp only [List.getElem?_cons_zero, List.getElem?_cons_succ] at z2_2)
      | (with_reducible refine wpList_load_row rfl 48 _ rfl (w.heap.size + 1) rfl 48 (exC (P1.1, 0, 0)).toArray (0, 0) _ HX3.out.bget Tryz.underlying48 rfl (exC_size _) ?_)
      | (with_reducible refine wpList_store_row rfl 48 _ _ rfl w.heap.size (exC (P1.1, 0, 0)).toArray rfl rfl 48 _ HX2.out.bget (exC_size _) rfl (exC_one _) ?_))
     have hb2 := HX2.out.row (cs' := exC (P1.1, 0, 0))
     refine bodyPost_ret (v := exV (P1.1, 0, 0)) (results_cell_row (P := Tryz.prog) (fn := Tryz.f123) rfl _ _ w.heap.size 48 (exC (P1.1, 0, 0)).toArray (0, 0) _ rfl hb2.bget Tryz.underlying48 rfl (exC_size _)) rfl ?_
     rw [HQ.out, HRE.out, HE.out]
     exact ⟨rfl, (HA.out.brow HX2.out _).stg⟩
    ·go_upto_region 11 with (go_at_call 86; (with_reducible refine HC.out.mono ?_); rintro e wk ⟨rfl, hk⟩; obtain ⟨Ok, ha, hb⟩ := At.call HA.out hk; replace HA := hid ha; replace HX2 := hid (HX2.out.call hb); replace HX3 := hid (HX3.out.call hb); clear hk ha hb; clear HC)
     have HC := hid (show Calls Tryz.prog 122 #[.pointer (some ⟨g, 0, none⟩), .int .u64 0, .int .u64 18446744073709551615] _ (fun e w' => e = .returned (.int .u64 ((numP 0 uMax s2).1 : Int)) ∧ StG _ _ g L (numP 0 uMax s2).2 w') from num_g HA.out.rd 0 uMax)
     have z3_2 := HX3.out.at 2; have y3_2 := HX3.out.free 2; simp only [List.getElem?_cons_zero, List.getElem?_cons_succ] at z3_2
     go_upto_region 12 with (go_at_call 122; (with_reducible refine HC.out.mono ?_); rintro e wk ⟨rfl, hk⟩; obtain ⟨Ok, ha, hb⟩ := At.call HA.out hk; replace HA := hid ha; replace HX2 := hid (HX2.out.call hb); replace HX3 := hid (HX3.out.call hb); clear hk ha hb; clear HC; have z3_2 := HX3.out.at 2; have y3_2 := HX3.out.free 2; simp only [List.getElem?_cons_zero, List.getElem?_cons_succ] at z3_2)
     have ha := HA.out.bset HX3.out 2 (.int .u64 ((numP 0 uMax s2).1 : Int))
     have hx := HX3.out.put 2 (.int .u64 ((numP 0 uMax s2).1 : Int))
     have hx2 := HX2.out.other (b' := w.heap.size + 1) (fun e => by omega) 2 (.int .u64 ((numP 0 uMax s2).1 : Int))
     replace HA := hid ha
     replace HX3 := hid (show Bx _ _ _ _ _ (exC (P1.1, 0, (numP 0 uMax s2).1)) from hx)
     replace HX2 := hid hx2
     clear ha hx hx2
     generalize wk.setCell ⟨w.heap.size + 1, 2, none⟩ (.int .u64 ((numP 0 uMax s2).1 : Int)) = w4 at *
     go_wp2_with (first
      | (with_reducible refine wpList_load_row rfl 48 _ rfl (w.heap.size + 1) rfl 48 (exC (P1.1, 0, (numP 0 uMax s2).1)).toArray (0, 0) _ HX3.out.bget Tryz.underlying48 rfl (exC_size _) ?_)
      | (with_reducible refine wpList_store_row rfl 48 _ _ rfl w.heap.size (exC (P1.1, 0, (numP 0 uMax s2).1)).toArray rfl rfl 48 _ HX2.out.bget (exC_size _) rfl (exC_one _) ?_))
     have hb2 := HX2.out.row (cs' := exC (P1.1, 0, (numP 0 uMax s2).1))
     refine bodyPost_ret (v := exV (P1.1, 0, (numP 0 uMax s2).1)) (results_cell_row (P := Tryz.prog) (fn := Tryz.f123) rfl _ _ w.heap.size 48 (exC (P1.1, 0, (numP 0 uMax s2).1)).toArray (0, 0) _ rfl hb2.bget Tryz.underlying48 rfl (exC_size _)) rfl ?_
     rw [HQ.out, HRE.out, HE.out]
     exact ⟨rfl, (HA.out.brow HX2.out _).stg⟩

   ·have HRE := hid (show reckP s = reckB n st from by
     unfold reckP
     rw [if_pos HK.out]
     simp only [← HP0.out, ← HPt.out]
     rw [if_pos trivial, if_neg h0])
    have h0b : ((n : Int) == 0) = false := by simpa using h0
    clear h0
    have z3_1 := HX3.out.at 1; have y3_1 := HX3.out.free 1; simp only [List.getElem?_cons_zero, List.getElem?_cons_succ] at z3_1
    go_upto_region 9 with fail
    have ha := HA.out.bset HX3.out 1 (.int .u64 (n : Int))
    have hx := HX3.out.put 1 (.int .u64 (n : Int))
    have hx2 := HX2.out.other (b' := w.heap.size + 1) (fun e => by omega) 1 (.int .u64 (n : Int))
    replace HA := hid ha
    replace HX3 := hid (show Bx _ _ _ _ _ [.string ⟨#[]⟩, .int .u64 (n : Int), .int .u64 0] from hx)
    replace HX2 := hid hx2
    clear ha hx hx2
    clear z3_1 y3_1 h0b
    generalize wk.setCell ⟨w.heap.size + 1, 1, none⟩ (.int .u64 (n : Int)) = w9 at *
    have HC := hid (name_g HA.out.rd)
    obtain ⟨P1, hP1⟩ : ∃ P1, P1 = nameP st := ⟨_, rfl⟩
    rw [← hP1] at HC
    have HP1 := hid hP1
    clear hP1
    have z3_0 := HX3.out.at 0; have y3_0 := HX3.out.free 0; simp only [List.getElem?_cons_zero, List.getElem?_cons_succ] at z3_0
    go_upto_region 10 with (go_at_call 52; (with_reducible refine HC.out.mono ?_); rintro e wk ⟨rfl, hk⟩; obtain ⟨Ok, ha, hb⟩ := At.call HA.out hk; replace HA := hid ha; replace HX2 := hid (HX2.out.call hb); replace HX3 := hid (HX3.out.call hb); clear hk ha hb; clear HC; have z3_0 := HX3.out.at 0; have y3_0 := HX3.out.free 0; simp only [List.getElem?_cons_zero, List.getElem?_cons_succ] at z3_0)
    have ha := HA.out.bset HX3.out 0 (.string ⟨P1.1.toArray⟩)
    have hx := HX3.out.put 0 (.string ⟨P1.1.toArray⟩)
    have hx2 := HX2.out.other (b' := w.heap.size + 1) (fun e => by omega) 0 (.string ⟨P1.1.toArray⟩)
    replace HA := hid ha
    replace HX3 := hid (show Bx _ _ _ _ _ [.string ⟨P1.1.toArray⟩, .int .u64 (n : Int), .int .u64 0] from hx)
    replace HX2 := hid hx2
    clear ha hx hx2
    generalize wk.setCell ⟨w.heap.size + 1, 0, none⟩ (.string ⟨P1.1.toArray⟩) = w2 at *
    have HC := hid (show Calls Tryz.prog 86 #[.pointer (some ⟨g, 0, none⟩), .int .i64 4, .string ⟨#[43]⟩] _ (fun e w' => e = .returned (.bool (tookP 4 [43] P1.2).1) ∧ StG _ _ g L (tookP 4 [43] P1.2).2 w') from took_g HA.out.rd 4 [43])
    obtain ⟨P2, hP2⟩ : ∃ P2, P2 = tookP 4 [43] P1.2 := ⟨_, rfl⟩
    rw [← hP2] at HC
    have HP2 := hid hP2
    clear hP2
    obtain ⟨b2, s2⟩ := P2
    have HE := hid (show reckB n st = (if b2 = true then ((P1.1, n, (numP 0 uMax s2).1), (numP 0 uMax s2).2) else ((P1.1, n, 0), s2)) from by
     unfold reckB
     simp only [← HP1.out, ← HP2.out])
    simp only at HC
    cases b2
    ·go_wp2_with (first
      | (go_at_call 86; (with_reducible refine HC.out.mono ?_); rintro e wk ⟨rfl, hk⟩; obtain ⟨Ok, ha, hb⟩ := At.call HA.out hk; replace HA := hid ha; replace HX2 := hid (HX2.out.call hb); replace HX3 := hid (HX3.out.call hb); clear hk ha hb; clear HC; have z3_0 := HX3.out.at 0; have y3_0 := HX3.out.free 0; simp only [List.getElem?_cons_zero, List.getElem?_cons_succ] at z3_0; have z3_1 := HX3.out.at 1; have y3_1 := HX3.out.free 1; simp only [List.getElem?_cons_zero, List.getElem?_cons_succ] at z3_1; have z3_2 := HX3.out.at 2; have y3_2 := HX3.out.free 2; simp only [List.getElem?_cons_zero, List.getElem?_cons_succ] at z3_2; have z2_0 := HX2.out.at 0; have y2_0 := HX2.out.free 0; simp only [List.getElem?_cons_zero, List.getElem?_cons_succ] at z2_0; have z2_1 := HX2.out.at 1; have y2_1 := HX2.out.free 1; simp only [List.getElem?_cons_zero, List.getElem?_cons_succ] at z2_1; have z2_2 := HX2.out.at 2; have y2_2 := HX2.out.free 2; simp only [List.getElem?_cons_zero, List.getElem?_cons_succ] at z2_2)
      | (with_reducible refine wpList_load_row rfl 48 _ rfl (w.heap.size + 1) rfl 48 (exC (P1.1, n, 0)).toArray (0, 0) _ HX3.out.bget Tryz.underlying48 rfl (exC_size _) ?_)
      | (with_reducible refine wpList_store_row rfl 48 _ _ rfl w.heap.size (exC (P1.1, n, 0)).toArray rfl rfl 48 _ HX2.out.bget (exC_size _) rfl (exC_one _) ?_))
     have hb2 := HX2.out.row (cs' := exC (P1.1, n, 0))
     refine bodyPost_ret (v := exV (P1.1, n, 0)) (results_cell_row (P := Tryz.prog) (fn := Tryz.f123) rfl _ _ w.heap.size 48 (exC (P1.1, n, 0)).toArray (0, 0) _ rfl hb2.bget Tryz.underlying48 rfl (exC_size _)) rfl ?_
     rw [HQ.out, HRE.out, HE.out]
     exact ⟨rfl, (HA.out.brow HX2.out _).stg⟩
    ·go_upto_region 11 with (go_at_call 86; (with_reducible refine HC.out.mono ?_); rintro e wk ⟨rfl, hk⟩; obtain ⟨Ok, ha, hb⟩ := At.call HA.out hk; replace HA := hid ha; replace HX2 := hid (HX2.out.call hb); replace HX3 := hid (HX3.out.call hb); clear hk ha hb; clear HC)
     have HC := hid (show Calls Tryz.prog 122 #[.pointer (some ⟨g, 0, none⟩), .int .u64 0, .int .u64 18446744073709551615] _ (fun e w' => e = .returned (.int .u64 ((numP 0 uMax s2).1 : Int)) ∧ StG _ _ g L (numP 0 uMax s2).2 w') from num_g HA.out.rd 0 uMax)
     have z3_2 := HX3.out.at 2; have y3_2 := HX3.out.free 2; simp only [List.getElem?_cons_zero, List.getElem?_cons_succ] at z3_2
     go_upto_region 12 with (go_at_call 122; (with_reducible refine HC.out.mono ?_); rintro e wk ⟨rfl, hk⟩; obtain ⟨Ok, ha, hb⟩ := At.call HA.out hk; replace HA := hid ha; replace HX2 := hid (HX2.out.call hb); replace HX3 := hid (HX3.out.call hb); clear hk ha hb; clear HC; have z3_2 := HX3.out.at 2; have y3_2 := HX3.out.free 2; simp only [List.getElem?_cons_zero, List.getElem?_cons_succ] at z3_2)
     have ha := HA.out.bset HX3.out 2 (.int .u64 ((numP 0 uMax s2).1 : Int))
     have hx := HX3.out.put 2 (.int .u64 ((numP 0 uMax s2).1 : Int))
     have hx2 := HX2.out.other (b' := w.heap.size + 1) (fun e => by omega) 2 (.int .u64 ((numP 0 uMax s2).1 : Int))
     replace HA := hid ha
     replace HX3 := hid (show Bx _ _ _ _ _ (exC (P1.1, n, (numP 0 uMax s2).1)) from hx)
     replace HX2 := hid hx2
     clear ha hx hx2
     generalize wk.setCell ⟨w.heap.size + 1, 2, none⟩ (.int .u64 ((numP 0 uMax s2).1 : Int)) = w4 at *
     go_wp2_with (first
      | (with_reducible refine wpList_load_row rfl 48 _ rfl (w.heap.size + 1) rfl 48 (exC (P1.1, n, (numP 0 uMax s2).1)).toArray (0, 0) _ HX3.out.bget Tryz.underlying48 rfl (exC_size _) ?_)
      | (with_reducible refine wpList_store_row rfl 48 _ _ rfl w.heap.size (exC (P1.1, n, (numP 0 uMax s2).1)).toArray rfl rfl 48 _ HX2.out.bget (exC_size _) rfl (exC_one _) ?_))
     have hb2 := HX2.out.row (cs' := exC (P1.1, n, (numP 0 uMax s2).1))
     refine bodyPost_ret (v := exV (P1.1, n, (numP 0 uMax s2).1)) (results_cell_row (P := Tryz.prog) (fn := Tryz.f123) rfl _ _ w.heap.size 48 (exC (P1.1, n, (numP 0 uMax s2).1)).toArray (0, 0) _ rfl hb2.bget Tryz.underlying48 rfl (exC_size _)) rfl ?_
     rw [HQ.out, HRE.out, HE.out]
     exact ⟨rfl, (HA.out.brow HX2.out _).stg⟩

end Go.Proofs.YtfcccfplmdjndaaGreat

/- parse: often; what is told behind a case. -/
namespace Go.Proofs.YtfcccfplmdjndaaGreat
set_option linter.unusedSimpArgs false
set_option linter.unusedVariables false
open Go.RowKit

variable {w w' w0 : World} {O O0 : Nat → Prop} {g : Nat} {L : List Tk} {s s' : RS}
set_option maxRecDepth 100000 in
set_option maxHeartbeats 2000000 in
theorem often_any (h : RdX w O g L s) : Calls Tryz.prog 112 #[.pointer (some ⟨g, 0, none⟩)] w fun e w' => e = .returned (exV (oftenP s).1) ∧ StG w O g L (oftenP s).2 w' := by
 have HA := hid (At.start h)
 obtain ⟨P, hP⟩ : ∃ P, P = oftenP s := ⟨_, rfl⟩
 have HQ := hid hP
 rw [← hP]
 clear hP h
 obtain ⟨ha, h2⟩ := HA.out.one 48 [.string ⟨#[]⟩, .int .u64 0, .int .u64 0] #[.string ⟨#[]⟩, .int .u64 0, .int .u64 0] rfl
 replace HA := hid ha
 have HX2 := hid h2
 clear ha h2
 go_enter Tryz.func112, Tryz.ntmps112
 go_upto_region 1 with fail
 generalize w.alloc (.cells #[.string ⟨#[]⟩, .int .u64 0, .int .u64 0] 48) = w1 at *
 have HC := hid (show Calls Tryz.prog 53 #[.pointer (some ⟨g, 0, none⟩), .string ⟨#[91]⟩] _ (fun e w' => e = .returned (.tuple #[]) ∧ StG _ _ g L (signP [91] s) w') from sign_g HA.out.rd [91])
 obtain ⟨s1, hs1⟩ : ∃ s1, s1 = signP [91] s := ⟨_, rfl⟩
 rw [← hs1] at HC
 have HS1 := hid hs1
 clear hs1
 go_upto_region 2 with (go_at_call 53; (with_reducible refine HC.out.mono ?_); rintro e wk ⟨rfl, hk⟩; obtain ⟨Ok, ha, hb⟩ := At.call HA.out hk; replace HA := hid ha; replace HX2 := hid (HX2.out.call hb); clear hk ha hb; clear HC)
 obtain ⟨Pr, hPr⟩ : ∃ Pr, Pr = reckP s1 := ⟨_, rfl⟩
 have HC := hid (reck_any HA.out.rd)
 rw [← hPr] at HC
 have HPr := hid hPr
 clear hPr
 obtain ⟨⟨x1, x2, x3⟩, s2⟩ := Pr
 replace HC := hid (show Calls Tryz.prog 123 #[.pointer (some ⟨g, 0, none⟩)] wk (fun e w' => e = .returned (.agg #[.string ⟨x1.toArray⟩, .int .u64 (x2 : Int), .int .u64 (x3 : Int)]) ∧ StG wk Ok g L s2 w') from HC.out)
 go_upto_region 3 with (go_at_call 123; (with_reducible refine HC.out.mono ?_); rintro e wk ⟨rfl, hk⟩; obtain ⟨Ok, ha, hb⟩ := At.call HA.out hk; replace HA := hid ha; replace HX2 := hid (HX2.out.call hb); clear hk ha hb; clear HC)
 obtain ⟨ha, h3⟩ := HA.out.one 48 (exC (x1, x2, x3)) #[.string ⟨x1.toArray⟩, .int .u64 (x2 : Int), .int .u64 (x3 : Int)] rfl
 replace HA := hid ha
 replace HX2 := hid (HX2.out.alloc (.cells #[.string ⟨x1.toArray⟩, .int .u64 (x2 : Int), .int .u64 (x3 : Int)] 48))
 obtain ⟨b3, hb3⟩ : ∃ b3, b3 = wk.heap.size := ⟨_, rfl⟩
 rw [← hb3] at h3
 have HX3 := hid h3
 simp only [← hb3]
 clear ha h3 hb3
 generalize wk.alloc (.cells #[.string ⟨x1.toArray⟩, .int .u64 (x2 : Int), .int .u64 (x3 : Int)] 48) = w3 at *
 have HC := hid (show Calls Tryz.prog 53 #[.pointer (some ⟨g, 0, none⟩), .string ⟨#[93]⟩] _ (fun e w' => e = .returned (.tuple #[]) ∧ StG _ _ g L (signP [93] s2) w') from sign_g HA.out.rd [93])
 go_wp2_with (first
  | (go_at_call 53; (with_reducible refine HC.out.mono ?_); rintro e wk ⟨rfl, hk⟩; obtain ⟨Ok, ha, hb⟩ := At.call HA.out hk; replace HA := hid ha; replace HX2 := hid (HX2.out.call hb); replace HX3 := hid (HX3.out.call hb); clear hk ha hb; clear HC)
  | (with_reducible refine wpList_load_row rfl 48 _ rfl b3 rfl 48 (exC (x1, x2, x3)).toArray (0, 0) _ HX3.out.bget Tryz.underlying48 rfl (exC_size _) ?_)
  | (with_reducible refine wpList_store_row rfl 48 _ _ rfl w.heap.size (exC (x1, x2, x3)).toArray rfl rfl 48 _ HX2.out.bget (exC_size _) rfl (exC_one _) ?_))
 have hb2 := HX2.out.row (cs' := exC (x1, x2, x3))
 refine bodyPost_ret (v := exV (x1, x2, x3)) (results_cell_row (P := Tryz.prog) (fn := Tryz.f112) rfl _ _ w.heap.size 48 (exC (x1, x2, x3)).toArray (0, 0) _ rfl hb2.bget Tryz.underlying48 rfl (exC_size _)) rfl ?_
 have HRE : oftenP s = ((x1, x2, x3), signP [93] s2) := by unfold oftenP; simp only [← HS1.out, ← HPr.out]
 rw [HQ.out, HRE]
 exact ⟨rfl, (HA.out.brow HX2.out _).stg⟩
def KOk (N : Nat) (D : Int) (K : RS → Int × RS) (L : List Tk) : Prop := ∀ (w : World) (O : Nat → Prop) (g : Nat) (s : RS), RdX w O g L s → EndS s → s.ts.length ≤ N → Calls Tryz.prog 54 #[.pointer (some ⟨g, 0, none⟩), .int .i64 D] w fun e w' => e = .returned (.int .i64 (K s).1) ∧ StG w O g L (K s).2 w'
set_option maxRecDepth 100000 in
set_option maxHeartbeats 2000000 in
theorem told_any {N deep : Nat} {K : RS → Int × RS} (hK : KOk N ((deep : Int) + 1) K L) (hS : ∀ s : RS, 0 < s.ts.length → Suf s (K s).2) (hd : deep ≤ 10000000) (h : RdX w O g L s) (he : EndS s) (hN : s.ts.length ≤ N) : Calls Tryz.prog 124 #[.pointer (some ⟨g, 0, none⟩), .int .i64 (deep : Int)] w fun e w' => e = .returned (.int .i64 (toldP K s).1) ∧ StG w O g L (toldP K s).2 w' := by
 have HA := hid (At.start h)
 obtain ⟨P, hP⟩ : ∃ P, P = toldP K s := ⟨_, rfl⟩
 have HQ := hid hP
 rw [← hP]
 have h1 := suf_sign h.pos [58]
 have HE1 := hid (he.suf h1)
 have HN1 := hid (Nat.le_trans h1.le hN)
 have HK := hid hK
 clear hP h h1 hK hS he hN
 go_enter Tryz.func124, Tryz.ntmps124
 go_upto_region 1 with fail
 have HC := hid (show Calls Tryz.prog 53 #[.pointer (some ⟨g, 0, none⟩), .string ⟨#[58]⟩] _ (fun e w' => e = .returned (.tuple #[]) ∧ StG _ _ g L (signP [58] s) w') from sign_g HA.out.rd [58])
 obtain ⟨s1, hs1⟩ : ∃ s1, s1 = signP [58] s := ⟨_, rfl⟩
 rw [← hs1] at HC HE1 HN1
 have HS1 := hid hs1
 clear hs1
 go_upto_region 2 with (go_at_call 53; (with_reducible refine HC.out.mono ?_); rintro e wk ⟨rfl, hk⟩; obtain ⟨Ok, ha, hb⟩ := At.call HA.out hk; replace HA := hid ha; clear hk ha hb; clear HC)
 have HC := hid (HK.out _ _ _ _ HA.out.rd HE1.out HN1.out)
 obtain ⟨P1, hP1⟩ : ∃ P1, P1 = K s1 := ⟨_, rfl⟩
 rw [← hP1] at HC
 have HP1 := hid hP1
 clear hP1
 go_upto_region 3 with (go_at_call 54; (with_reducible refine HC.out.mono ?_); rintro e wk ⟨rfl, hk⟩; obtain ⟨Ok, ha, hb⟩ := At.call HA.out hk; replace HA := hid ha; clear hk ha hb; clear HC)
 have HC := hid (show Calls Tryz.prog 53 #[.pointer (some ⟨g, 0, none⟩), .string ⟨#[59]⟩] _ (fun e w' => e = .returned (.tuple #[]) ∧ StG _ _ g L (signP [59] P1.2) w') from sign_g HA.out.rd [59])
 go_wp2_with (go_at_call 53; (with_reducible refine HC.out.mono ?_); rintro e wk ⟨rfl, hk⟩; obtain ⟨Ok, ha, hb⟩ := At.call HA.out hk; replace HA := hid ha; clear hk ha hb; clear HC)
 go_ret
 have HRE : toldP K s = (P1.1, signP [59] P1.2) := by unfold toldP; simp only [← HS1.out, ← HP1.out]
 rw [HQ.out, HRE]
 exact ⟨rfl, HA.out.stg⟩
end Go.Proofs.YtfcccfplmdjndaaGreat
