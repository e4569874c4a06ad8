/- nfa: slices.IsSorted of rising numbers. -/
import Derived.Test.YtimffgmbchpfeaaNfS
import Derived.Test.YtimffgmbchpfeaaShelf
import Derived.Test.YtimffgmbchpfeaaNfK
import Derived.Test.YtimffgmbchpfeaaNfY
import Derived.Test.YtimffgmbchpfeaaNfV
import Derived.Test.YtimffgmbchpfeaaNfX
import Derived.Test.YtimffgmbchpfeaaNfS1
import Derived.Test.YtimffgmbchpfeaaRowQ
namespace Go.Proofs.Ytimffgmbchpfeaa
set_option linter.unusedSimpArgs false
set_option linter.unusedVariables false
open Go.RowKit

set_option maxRecDepth 100000 in
set_option maxHeartbeats 1000000 in
theorem sorted_any {A : Option Addr} (c : Nat) (w : World) (l : List Nat) (hs : l.Pairwise (· < ·)) (hl : IL w A (natI l)) (hn : l.length ≤ 5000) : Calls Try.prog 9 #[.slice A l.length c] w fun e w' => e = .returned (.bool true) ∧ Below w.heap.size w w' := by
  have HLs := hid (fun (x y : Int) (W : World) => Try.cmp_Less_int2 x y W)
  have HI := hid hl
  have HS := hid hs
  clear hl hs
  go_enter Try.func9, Try.ntmps9
  go_wp2
  go_loopw [3] (fun i wr => ∃ j : Nat, j ≤ l.length ∧ i = .int .i64 ((j : Int) - 1) ∧ Hid (Below w.heap.size w wr)) (fun i _ => (intOf i + 1).toNat)
  case atStart => exact ⟨l.length, Nat.le_refl _, by go_num, hid (Below.refl _ _)⟩
  case round =>
    obtain ⟨j, hj, rfl, HB⟩ := hrel
    by_cases hlt : 2 ≤ j
    · obtain ⟨p, rfl⟩ : ∃ p, j = p + 2 := ⟨j - 2, by omega⟩
      have e1 : ((p + 2 : Nat) : Int) - 1 = (p : Int) + 1 := by omega
      rw [e1]
      obtain ⟨b, o, rfl, hbl, hcs⟩ := HI.out (by rw [natI_len]; omega)
      have c1 := (HB.out.cell (p := ⟨b, o + (p + 1), none⟩) hbl).trans (hcs (p + 1) (by rw [natI_len]; omega))
      have c2 := (HB.out.cell (p := ⟨b, o + p, none⟩) hbl).trans (hcs p (by rw [natI_len]; omega))
      have hlt2 : l[p]'(by omega) < l[p + 1]'(by omega) := List.pairwise_iff_getElem.1 HS.out p (p + 1) (by omega) (by omega) (by omega)
      have g1 : (natI l)[p + 1]'(by rw [natI_len]; omega) = ((l[p + 1]'(by omega) : Nat) : Int) := by simp [natI]
      have g2 : (natI l)[p]'(by rw [natI_len]; omega) = ((l[p]'(by omega) : Nat) : Int) := by simp [natI]
      rw [g1] at c1
      rw [g2] at c2
      generalize l[p + 1]'(by omega) = x at *
      generalize l[p]'(by omega) = y at *
      have hd : decide ((x : Int) < (y : Int)) = false := decide_eq_false (by omega)
      have HLe := hid (fun (W : World) => HLs.out (x : Int) (y : Int) W)
      rw [hd] at HLe
      have p3 : (p : Int) + 1 < (l.length : Int) := by omega
      have p4 : (0 : Int) < (p : Int) + 1 := by omega
      clear hcs HI HS HLs g1 g2 hlt2 hd e1
      have q1 : (0 : Int) ≤ (p : Int) + 1 := by omega
      have q2 : ¬ ((p : Int) + 1 < 0) := by omega
      have q3 : ((p : Int) + 1).toNat = p + 1 := by omega
      have q4 : (p : Int) < (l.length : Int) := by omega
      have q5 : (p : Int) + 1 - 1 = (p : Int) := by omega
      have q6 : IntKind.i64.wrap (p : Int) = (p : Int) := by rw [IntKind.wrap_i64]; omega
      have HQ := hid (fun (n : Nat) => HLe.out (wr.drewN n))
      go_wp2
      go_quiet (first | (go_at_call 22; refine Calls.quiet_of_same (HLe.out _)))
      have HB9 := hid (show Below w.heap.size w (wr.drewN nq) from HB.out.trans ((show Below wr.heap.size wr (wr.drewN nq) from ⟨rfl, rfl, rfl, Nat.le_refl _, fun _ _ => rfl⟩).mono HB.out.size))
      clear c1 c2 HLe HQ HB
      generalize wr.drewN nq = wd at *
      go_wp2
      go_roundw
      case rel => exact ⟨p + 1, by omega, by go_num, HB9⟩
      case measure => simp [intOf]; omega
    · have h1 : ¬ ((0 : Int) < (j : Int) - 1) := by omega
      have h2 : (j : Int) - 1 ≤ 0 := by omega
      clear HI HS HLs
      go_wp2
      go_ret
      exact ⟨rfl, HB.out⟩
end Go.Proofs.Ytimffgmbchpfeaa

/- nfa: NfaGreat's maths. -/
namespace Go.Proofs.Ytimffgmbchpfeaa
set_option linter.unusedSimpArgs false
set_option linter.unusedVariables false

/-- An expression, so many times. -/
def repT (t : RT) (n : Nat) : RT := .nd 5 (0#256) [t] (n : Int) (n : Int)
theorem autE_len {t : RT} (h : wgT t = 0) : (autE t).length = 1 + cnT t := by
  have := (put_ok t h [[]] 0 (by simp)).1
  unfold autE
  rw [this]
  rfl
theorem rep_cn (t : RT) (n : Nat) : cnT (repT t n) = 1 + n * cnT t := by
  unfold repT
  rw [cnT, if_neg (by decide), if_neg (by decide), if_neg (by decide), if_pos rfl, if_neg (by omega), cnL, cnL]
  simp
theorem rep_wg {t : RT} {n : Nat} (h : wgT t = 0) (hn : n ≤ 256) : wgT (repT t n) = 0 := by
  have hc : ck1 (repT t n) = 0 := by
    show ckF 5 (0#256) 1 (n : Int) (n : Int) = 0
    unfold ckF
    have hf : fmB 5 1 = true := by decide
    rw [if_pos hf, if_neg (by decide), if_pos rfl, if_neg (by omega)]
  unfold repT at hc ⊢
  rw [wgT, if_neg (by rw [hc]; decide), wgL, h, if_neg (by decide), wgL]
theorem rep_ad {t : RT} {n : Nat} (h : wgT t = 0) (hn : n ≤ 256) : adT (repT t n) = min (1 + n * cnT t) 4096 := by rw [ad_cn _ (rep_wg h hn), rep_cn]
theorem great_prod (n c : Nat) : (n + 1) * (1 + c + 1) = n * c + 2 * n + c + 2 := by
  rw [Nat.add_mul, Nat.mul_add, Nat.mul_add]
  omega
/-- Too many states: more than are told. -/
theorem great_no {t : RT} {n : Nat} (h : wgT t = 0) (hn : n ≤ 256) (h2 : 4096 < 1 + adT (repT t n)) : 4096 < (n + 1) * ((autE t).length + 1) := by
  rw [autE_len h, great_prod]
  rw [rep_ad h hn] at h2
  generalize n * cnT t = q at *
  omega
theorem great_yes {t : RT} {n : Nat} (h : wgT t = 0) (hn : n ≤ 256) : (autE (repT t n)).length ≤ (n + 1) * ((autE t).length + 1) := by
  rw [autE_len h, autE_len (rep_wg h hn), rep_cn, great_prod]
  generalize n * cnT t = q at *
  omega
end Go.Proofs.Ytimffgmbchpfeaa

/- nfa: NfaSteps, walked. -/
namespace Go.Proofs.Ytimffgmbchpfeaa
set_option linter.unusedSimpArgs false
set_option linter.unusedVariables false
open Go.RowKit

theorem runP_is (E : EG) : ∀ (b : List Nat) (l : List Nat), (∃ m, l = reachP E m) → ∃ m, runP E l b = reachP E m
  | [], l, h => h
  | c :: b, l, h => runP_is E b _ ⟨_, rfl⟩
theorem BL.take {w : World} {A : Option Addr} {l : List Nat} (h : BL w A l) (j : Nat) : BL w A (l.take j) := fun h0 => by
  have h1 : 0 < l.length := by rw [List.length_take] at h0; omega
  obtain ⟨b, o, e, hl, hc⟩ := h h1
  refine ⟨b, o, e, hl, fun k hk => ?_⟩
  have h2 : k < l.length := by rw [List.length_take] at hk; omega
  rw [hc k h2, List.getElem_take]
/-- The bytes that came in. -/
theorem bl_of_rd {w : World} {A : Option Addr} {n : Nat} {l : List UInt8} (h : RdB w A n l) : BL w A (l.map (·.toNat)) := fun h0 => by
  obtain ⟨b, o, e, hb, hc⟩ := h.2 (by have := h.1; simp at h0; omega)
  exact ⟨b, o, e, hb, fun j hj => by rw [hc j (by simpa using hj)]; simp⟩
theorem equal_any {w : World} {A1 A2 : Option Addr} {l : List Int} (c1 c2 : Nat) (h1 : IL w A1 l) (h2 : IL w A2 l) (hn : l.length ≤ 1000000000) : Calls Try.prog 12 #[.slice A1 l.length c1, .slice A2 l.length c2] w fun e w' => ∃ v, e = .returned v ∧ v = .bool true ∧ Below w.heap.size w w' := by
  cases l with
  | nil => exact (Try.slices_Equal_int_empty A1 A2 c1 0 c2 w (by omega)).mono fun e w' ⟨e1, e2⟩ => ⟨_, e1, by simp, by rw [e2]; exact Below.refl _ _⟩
  | cons x xs =>
    obtain ⟨b1, o1, rfl, _, hc1⟩ := h1 (by simp)
    obtain ⟨b2, o2, rfl, _, hc2⟩ := h2 (by simp)
    refine (Try.slices_Equal_int b1 o1 (x :: xs).length c1 b2 o2 (x :: xs).length c2 (x :: xs) (x :: xs) w (Nat.le_refl _) (Nat.le_refl _) (by omega) (by omega) (IL.getD hc1) (IL.getD hc2)).mono fun e w' ⟨e1, q, e2⟩ => ⟨_, e1, by simp, by rw [e2]; exact below_drewN (Below.refl _ _) q⟩
theorem il_new (W : World) (l : List Int) : IL (W.alloc (.cells (l.map fun x => Value.int .i64 x).toArray 3)) (some ⟨W.heap.size, 0, none⟩) l := fun h0 => by
  have hB : Blk (W.alloc (.cells (l.map fun x => Value.int .i64 x).toArray 3)) W.heap.size 3 (l.map fun x => Value.int .i64 x) := Blk.fresh W _ _
  refine ⟨_, 0, rfl, hB.lt, fun j hj => ?_⟩
  have h1 := hB.at j
  rw [Nat.zero_add, h1, List.getElem?_map, List.getElem?_eq_getElem hj]
  rfl
theorem info_int : ∃ i, Try.prog.info? 3 = some i ∧ i.size = 1 ∧ i.zero = some (.int .i64 0) := by
  have h1 : (Try.prog.info? 3).map (·.size) = some 1 := by kernel_rfl
  have h2 : (Try.prog.info? 3).map (·.zero) = some (some (.int .i64 0)) := by kernel_rfl
  obtain ⟨i, hi, e1⟩ := Option.map_eq_some_iff.1 h1
  rw [hi] at h2
  exact ⟨i, hi, e1, Option.some.inj h2⟩
theorem run_bs2 (W : World) (x y : Int) : (Instr.buildSlice 37 2 #[(0, .int .i64 x), (1, .int .i64 y)]).run Try.prog W = .ok (.slice (some ⟨W.heap.size, 0, none⟩) 2 2) (W.alloc (.cells #[.int .i64 x, .int .i64 y] 3)) := by
  obtain ⟨i, hi, h1, h2⟩ := info_int
  exact Go.run_buildSlice W 37 3 2 _ _ i (.int .i64 0) Try.underlying37 hi h2 (by rw [h1]; decide) (by rw [h1]; decide) (by rw [h1]; kernel_rfl)
theorem run_bs1 (W : World) (x : Int) : (Instr.buildSlice 37 1 #[(0, .int .i64 x)]).run Try.prog W = .ok (.slice (some ⟨W.heap.size, 0, none⟩) 1 1) (W.alloc (.cells #[.int .i64 x] 3)) := by
  obtain ⟨i, hi, h1, h2⟩ := info_int
  exact Go.run_buildSlice W 37 3 1 _ _ i (.int .i64 0) Try.underlying37 hi h2 (by rw [h1]; decide) (by rw [h1]; decide) (by rw [h1]; kernel_rfl)
theorem run_neqB (b : Bool) (w : World) : (binOp .neq 4 (.bool b) (.bool b)).run Try.prog w = .ok (.bool false) w := by cases b <;> kernel_rfl
theorem run_eqI (x y : Int) (b : Bool) (h : decide (x = y) = b) (w : World) : (binOp .eql 3 (.int .i64 x) (.int .i64 y)).run Try.prog w = .ok (.bool b) w := by
  subst h
  kernel_rfl
theorem run_geqI (x y : Int) (b : Bool) (h : decide (y ≤ x) = b) (w : World) : (binOp .geq 3 (.int .i64 x) (.int .i64 y)).run Try.prog w = .ok (.bool b) w := by
  subst h
  kernel_rfl
theorem run_subI (x y z : Int) (h : x - y = z) (hb : -9223372036854775808 ≤ z ∧ z ≤ 9223372036854775807) (w : World) : (binOp .sub 3 (.int .i64 x) (.int .i64 y)).run Try.prog w = .ok (.int .i64 z) w := by
  have hw : IntKind.i64.wrap z = z := by rw [IntKind.wrap_i64]; omega
  rw [show (binOp .sub 3 (.int .i64 x) (.int .i64 y)).run Try.prog w = .ok (.int .i64 (IntKind.i64.wrap (x - y))) w by kernel_rfl, h, hw]
theorem run_idxI (b o n c j : Nat) (k : Int) (hk : k = (j : Int)) (hj : j < n) (w : World) : (Instr.indexAt 37 (.slice (some ⟨b, o, none⟩) n c) (.int .i64 k)).run Try.prog w = .ok (.pointer (some ⟨b, o + j, none⟩)) w := by
  subst hk
  have hj' : (j : Int) < (n : Int) := by omega
  go_simp
theorem run_ldI {w : World} {p : Addr} {x : Int} (h : w.cell? p = some (.int .i64 x)) : (Instr.loadAt 3 (.pointer (some p))).run Try.prog w = .ok (.int .i64 x) w := by
  simp [Instr.loadAt, h]
  go_simp

set_option maxRecDepth 100000 in
set_option maxHeartbeats 2000000 in
theorem steps_any (v : RV) (t : RT) (w : World) (hR : Rep w (· < w.heap.size) v t) (BA : Option Addr) (bc : Nat) (l : List Nat) (hl : BL w BA l) (hl2 : ∀ x ∈ l, x < 256) (hcap : l.length ≤ bc) (hbig : l.length ≤ 9223372036854775807) : Calls Try.prog 3 #[v.val, .slice BA l.length bc] w fun e w' => e = .returned (.bool true) ∧ Below w.heap.size w w' := by
  obtain ⟨hb, hN⟩ := box_new w v
  have HB := hid hb
  have HX := hid hN
  have HR := hid (hR.keep hb)
  have HL := hid hl
  have HL2 := hid hl2
  clear hb hN hR hl hl2
  have HRun := hid (fun W => runs_any W)
  unfold RV.val
  rw [show (#[.int .i64 v.k, .int .u64 ((wd v.s 0 : Nat) : Int), .int .u64 ((wd v.s 1 : Nat) : Int), .int .u64 ((wd v.s 2 : Nat) : Int), .int .u64 ((wd v.s 3 : Nat) : Int), .slice v.A v.n v.c, .int .i64 v.lo, .int .i64 v.hi] : Array Value) = v.cells.toArray from rfl]
  go_enter Try.func3, Try.ntmps3
  go_upto_region 1 with (fail)
  change Code.wp _ _ _ _ (w.alloc (.cells v.cells.toArray 26))
  generalize w.alloc (.cells v.cells.toArray 26) = w1 at *
  go_upto_region 4 with (go_at_call 5; refine (HRun.out _).mono ?_; rintro e w2 ⟨rfl, hb2⟩)
  have hal := al_belowN w2 (.cells #[.int .i64 30] 3)
  have HX3 := hid ((HX.out.keep hb2).keep hal)
  have HNe := hid (show w.heap.size ≠ w2.heap.size from by have h1 := HX.out.lt; have h2 := hb2.size; omega)
  have HB3 := hid ((HB.out.trans (hb2.mono HB.out.size)).trans (hal.mono (Nat.le_trans HB.out.size hb2.size)))
  have HR3 := hid ((HR.out.keep hb2).keep hal)
  have HFew := hid (few_any t v (w2.alloc (.cells #[.int .i64 30] 3)) w2.heap.size 30 (· < w.heap.size) HR3.out (fun b hb => by have h1 := HX.out.lt; have h2 := hb2.size; have h3 : b < w.heap.size := hb; omega) (Blk.fresh w2 3 [.int .i64 30]) (by omega) (by omega))
  have HFs := hid (fg_sz t 30)
  have hw2 : w.heap.size ≤ w2.heap.size := by have h1 := HX.out.lt; have h2 := hb2.size; omega
  have HFin := hid (fun W (hg : (w2.alloc (.cells #[.int .i64 30] 3)).grownBy W (some w2.heap.size)) => (show Below w.heap.size w W from Chg.below HB3.out (Chg.of_grown hg) HB3.out.size (fun q hq => by injection hq with hq; omega)))
  clear hal hb2 HX HR HB HRun
  generalize w2.heap.size = g at *
  generalize w2.alloc (.cells #[.int .i64 30] 3) = w3 at *
  obtain ⟨x0, x1, x2, x3, x4, x5, x6, x7⟩ := Blk.cells8' (v := v) HX3.out
  unfold RV.val at HFew
  cases hfw : (fgT t 30).1 with
  | false =>
    rw [hfw] at HFew
    clear hfw HFs
    go_wp2_with (go_at_call 6; refine HFew.out.mono ?_; rintro e w4 ⟨rfl, hg4, _⟩; have HX4 := hid (show Blk w4 w.heap.size 26 v.cells from (hg4.block _ HX3.out.lt (fun e => HNe.out (by injection e))).trans HX3.out); have HG4 := hid hg4; have HR4 := hid (HR3.out.step hg4 (fun b hb => by have h3 : b < w.heap.size := hb; omega)); clear hg4 x0 x1 x2 x3 x4 x5 x6 x7; obtain ⟨x0, x1, x2, x3, x4, x5, x6, x7⟩ := Blk.cells8' (v := v) HX4.out)
    go_ret
    exact ⟨rfl, HFin.out _ HG4.out⟩
  | true =>
    rw [hfw] at HFew
    have hsz : szT t ≤ 30 := by have := (HFs.out hfw).1; omega
    clear hfw HFs
    by_cases c2 : (30 : Int) < (l.length : Int)
    · go_wp2_with (go_at_call 6; refine HFew.out.mono ?_; rintro e w4 ⟨rfl, hg4, _⟩; have HX4 := hid (show Blk w4 w.heap.size 26 v.cells from (hg4.block _ HX3.out.lt (fun e => HNe.out (by injection e))).trans HX3.out); have HG4 := hid hg4; have HR4 := hid (HR3.out.step hg4 (fun b hb => by have h3 : b < w.heap.size := hb; omega)); clear hg4 x0 x1 x2 x3 x4 x5 x6 x7; obtain ⟨x0, x1, x2, x3, x4, x5, x6, x7⟩ := Blk.cells8' (v := v) HX4.out)
      go_ret
      exact ⟨rfl, HFin.out _ HG4.out⟩
    have hlt4 : ∀ W, w3.grownBy W (some g) → w.heap.size ≤ W.heap.size := fun W hW => by have h1 := HX3.out.lt; have h2 := hW.size; omega
    go_upto_region 6 with (go_at_call 6; refine HFew.out.mono ?_; rintro e w4 ⟨rfl, hg4, _⟩; have HX4 := hid (show Blk w4 w.heap.size 26 v.cells from (hg4.block _ HX3.out.lt (fun e => HNe.out (by injection e))).trans HX3.out); have HG4 := hid hg4; have HR4 := hid (HR3.out.step hg4 (fun b hb => by have h3 : b < w.heap.size := hb; omega)); clear hg4 x0 x1 x2 x3 x4 x5 x6 x7; obtain ⟨x0, x1, x2, x3, x4, x5, x6, x7⟩ := Blk.cells8' (v := v) HX4.out)
    have hl4 := hlt4 _ HG4.out
    have HB4 := hid (HFin.out _ HG4.out)
    have HMk := hid (make_any v t w4 (· < w.heap.size) HR4.out (fun b hb => Nat.lt_of_lt_of_le hb hl4) (by omega))
    unfold RV.val at HMk
    clear HG4 HFin HFew hlt4 HX3 HR3 HB3 HR4
    by_cases hw0 : wgT t = 0
    rotate_left
    · have hw1 : (((wgT t : Nat) : Int) != 0) = true := by simpa using hw0
      have HW0 := hid hw0
      clear hw0
      go_wp2_with (go_at_call 7; refine HMk.out.mono ?_; rintro e w6 ⟨hb6, hmk⟩; rcases hmk with ⟨hz, rfl⟩ | ⟨hz, _, _⟩ | ⟨hz, _, _⟩; rotate_left; exact absurd hz HW0.out; exact absurd hz HW0.out; have HH := hid hb6; clear hb6 hz)
      go_ret
      exact ⟨rfl, (HB4.out.trans (HH.out.mono hl4)).trans ((al_belowN w6 _).mono (Nat.le_trans hl4 HH.out.size))⟩
    have HW0 := hid hw0
    clear hw0
    go_upto_region 7 with (go_at_call 7; refine HMk.out.mono ?_; rintro e w6 ⟨hb6, hmk⟩; rcases hmk with ⟨hz, _⟩ | ⟨_, hz, rfl⟩ | ⟨_, hz1, A1, c1, rfl, hau1⟩; exact absurd HW0.out hz)
    · go_wp2
      go_ret
      exact ⟨rfl, (HB4.out.trans (hb6.mono hl4)).trans ((al_belowN w6 _).mono (Nat.le_trans hl4 hb6.size))⟩
    have hcn := ad_cn t HW0.out
    have hE : (autE t).length ≤ 4096 := by rw [autE_len HW0.out]; omega
    have HE2 := hid (show ∀ s, ((autE t).getD s []).length ≤ 100000 from rows_tot (by
      obtain ⟨_, _, h1, _⟩ := put_ok t HW0.out [[]] 0 (by simp)
      unfold autE
      have h2 : totE [[]] = 0 := rfl
      omega))
    have HR0 := hid (show RnH w w6.heap.size A1 c1 (autE t) (autF t) (w6.alloc (.cells #[.slice A1 (autE t).length c1, .int .i64 ((autF t : Nat) : Int)] 33)) from ⟨(HB4.out.trans (hb6.mono HB4.out.size)).trans ((al_belowN w6 _).mono (Nat.le_trans HB4.out.size hb6.size)), hau1.keep (al_belowN w6 _), Blk.fresh w6 _ _⟩)
    clear hcn hz1 hb6 hau1 HMk HB4 HX4 HW0 x0 x1 x2 x3 x4 x5 x6 x7 hsz
    generalize w6.alloc (.cells #[.slice A1 (autE t).length c1, .int .i64 ((autF t : Nat) : Int)] 33) = w7 at *
    generalize w6.heap.size = g6 at *
    generalize autE t = E at *
    generalize autF t = q at *
    obtain ⟨d0, d1⟩ := HR0.out.cells
    have HS := hid (start_any (en := (q : Int)) HR0.out.au (by omega) HE2.out)
    have hsl : (startP E).length ≤ E.length := reachP_len E _
    go_wp2_with (go_at_call 8; refine HS.out.mono ?_; rintro e w8 ⟨A2, c2, rfl, ho, hb⟩; have HR8 := hid (HR0.out.step hb); have HO8 := hid (rowN_il ho); clear ho hb d0 d1)
    clear HS
    have HKr := hid (show ∃ m, startP E = reachP E m from ⟨_, rfl⟩)
    go_loopw [8, 9] (fun u i wr => ∃ j : Nat, j ≤ l.length ∧ i = .int .i64 (j : Int) ∧ ∃ A3 c3, u = .slice A3 (runP E (startP E) (l.take j)).length c3 ∧ Hid (IL wr A3 (natI (runP E (startP E) (l.take j)))) ∧ Hid (RnH w g6 A1 c1 E q wr)) (fun _ i _ => l.length - (intOf i).toNat)
    case atStart => exact ⟨0, Nat.zero_le _, rfl, A2, c2, rfl, HO8, HR8⟩
    case round =>
      clear HR8 HO8 HR0
      obtain ⟨j, hj, rfl, A3, c3, rfl, HI, HRr⟩ := hrel
      have hRl := runP_len E (l.take j) (startP E) hsl
      obtain ⟨m, hm⟩ := runP_is E (l.take j) _ HKr.out
      have HSo := hid (hm ▸ reach_sorted E m)
      have HLt := hid (show ∀ x ∈ runP E (startP E) (l.take j), x < E.length from fun x hx => reach_lt (hm ▸ hx))
      have HId := hid (show reachP E (natI (runP E (startP E) (l.take j))) = runP E (startP E) (l.take j) from by rw [hm]; exact reach_idem E m)
      have HMt := hid (show matchP E q (l.take j) = (runP E (startP E) (l.take j)).contains q from rfl)
      have HT := hid (fun hlt : j < l.length => (runP_succ E (startP E) l hlt).symm)
      clear hm
      generalize runP E (startP E) (l.take j) = R at *
      go_upto_region 12 with fail
      have HE5 : E.length ≤ 5000 := by omega
      refine st12_reg (g6 := g6) (L1 := E.length) (A1 := A1) (c1 := c1) (q1 := (q : Int)) (LA := A3) (n := R.length) (lc := c3) (BA := BA) (bn := l.length) (bc := bc) (i := j) (eb := R.contains q) (R := fun u W => ∃ A c, u = .slice A R.length c ∧ IL W A (natI R)) rfl rfl rfl rfl (by simp) ?_ ?_ HRr.out.bx ?_ ?_ ?_ ?_ ?_ ?_ ?_
      · exact fun u W W' ⟨A, c, e, hi⟩ hb => ⟨A, c, e, hi.keep hb⟩
      · exact fun W hb => (sorted_any c3 W R HSo.out (HI.out.keep hb) (by omega)).mono fun e w' p => ⟨_, p.1, rfl, p.2⟩
      · intro W hb
        have h1 := ends_any (A := A1) (c := c1) (en := (q : Int)) E.length (HI.out.keep hb) (by rw [natI_len]; omega) c3
        rw [natI_len, natI_contains] at h1
        exact h1.mono fun e w' p => ⟨_, p.1, rfl, p.2⟩
      · exact fun W => run_sliceB_to BA l.length bc j (by omega) W
      · intro W hb
        have hb9 : Below w.heap.size w W := HRr.out.bel.trans (hb.mono HRr.out.bel.size)
        have h1 := match_any q (HRr.out.au.keep hb) HE5 HE2.out BA bc (l.take j) ((HL.out.keep hb9).take j) (fun x hx => HL2.out x (List.mem_of_mem_take hx)) (by rw [List.length_take]; omega)
        rw [HMt.out, show (l.take j).length = j by rw [List.length_take]; omega] at h1
        exact h1.mono fun e w' p => ⟨_, p.1, rfl, p.2⟩
      · exact run_neqB _
      · intro W hb
        have h1 := reach_row (en := (q : Int)) (HRr.out.au.keep hb) HE5 HE2.out A3 c3 (natI R) (HI.out.keep hb) (by rw [natI_len]; omega)
        rw [HId.out, natI_len] at h1
        exact h1.mono fun e w' ⟨A, c, e1, ho, hb2⟩ => ⟨_, e1, ⟨A, c, rfl, rowN_il ho⟩, hb2⟩
      · rintro W u hb ⟨A, c, rfl, hi⟩
        have h1 := equal_any c c3 hi (HI.out.keep hb) (by rw [natI_len]; omega)
        rw [natI_len] at h1
        exact h1
      intro f W hf hW
      have HRW := hid (HRr.out.step hW)
      have HIW := hid (HI.out.keep hW)
      have HSz := hid (HRr.out.bel.size)
      clear HRr HI hW
      simp only [st12Us, List.foldl_cons, List.foldl_nil, List.setIfInBounds_toArray, List.set_cons_zero, List.set_cons_succ]
      rw [hf]
      clear hf
      go_upto_region 14 with fail
      go_wp2
      go_loopw [10] (fun k wr => ∃ m : Nat, 1 ≤ m ∧ (m ≤ R.length ∨ m = 1) ∧ k = .int .i64 (m : Int) ∧ Hid (RnH w g6 A1 c1 E q wr) ∧ Hid (IL wr A3 (natI R))) (fun k _ => R.length + 1 - (intOf k).toNat)
      case atStart => exact ⟨1, Nat.le_refl _, .inr rfl, rfl, HRW, HIW⟩
      case round =>
        clear HRW HIW HSz
        obtain ⟨m, hm1, hm2, rfl, HRr, HI⟩ := hrel
        by_cases hlt : m < R.length
        · have p3 : (m : Int) < (R.length : Int) := by omega
          obtain ⟨b0, o0, rfl, hbl, hcs⟩ := HI.out (by rw [natI_len]; omega)
          have k1 := hcs m (by rw [natI_len]; omega)
          have k2 := hcs (m - 1) (by rw [natI_len]; omega)
          have hxy := hid (show R[m - 1]'(by omega) < R[m]'hlt from List.pairwise_iff_getElem.1 HSo.out (m - 1) m (by omega) hlt (by omega))
          have hxl := hid (show R[m]'hlt < E.length from HLt.out _ (List.getElem_mem _))
          rw [show (natI R)[m]'(by rw [natI_len]; omega) = ((R[m]'hlt : Nat) : Int) by simp [natI]] at k1
          rw [show (natI R)[m - 1]'(by rw [natI_len]; omega) = ((R[m - 1]'(by omega) : Nat) : Int) by simp [natI]] at k2
          generalize R[m]'hlt = x at *
          generalize R[m - 1]'(by omega) = y at *
          go_upto_region 17 with fail
          refine st17_reg (g6 := g6) (L1 := E.length) (A1 := A1) (c1 := c1) (q1 := (q : Int)) (b0 := b0) (o0 := o0) (n := R.length) (lc := c3) (k := m) (x := (x : Int)) (y := (y : Int)) rfl rfl rfl (by simp) ?_ ?_ ?_ ?_ ?_ ?_ ?_ ?_ HRr.out.bx ?_ ?_ ?_
          · exact run_idxI b0 o0 R.length c3 m _ rfl hlt
          · exact fun W hb => run_ldI ((hb.cell (p := ⟨b0, o0 + m, none⟩) hbl).trans k1)
          · exact run_subI _ _ _ rfl (by omega)
          · exact run_idxI b0 o0 R.length c3 (m - 1) _ (by omega) (by omega)
          · exact fun W hb => run_ldI ((hb.cell (p := ⟨b0, o0 + (m - 1), none⟩) hbl).trans k2)
          · exact run_eqI _ _ _ (decide_eq_false (by have := hxy.out; omega))
          · exact run_idxI b0 o0 R.length c3 m _ rfl hlt
          · exact fun W hb => run_ldI ((hb.cell (p := ⟨b0, o0 + m, none⟩) hbl).trans k1)
          · exact fun W hb => (len_any A1 E.length c1 (q : Int) W).mono fun e w' p => ⟨_, p.1, rfl, p.2⟩
          · exact run_geqI _ _ _ (decide_eq_false (by have := hxl.out; omega))
          intro f2 W hf hW
          have HRW := hid (HRr.out.step hW)
          have HIW := hid (HI.out.keep hW)
          simp only [st17Us, List.foldl_cons, List.foldl_nil, List.setIfInBounds_toArray, List.set_cons_zero, List.set_cons_succ]
          rw [hf]
          clear hf hW HRr HI k1 k2 hcs hxy hxl
          go_wp2
          go_roundw
          case rel => exact ⟨m + 1, by omega, .inl (by omega), by go_num, HRW, HIW⟩
          case measure => simp [intOf]; omega
        · have p3 : ¬ (m : Int) < (R.length : Int) := by omega
          clear hm1 hm2
          by_cases hje : j = l.length
          · have p4 : ((j : Int) == (l.length : Int)) = true := by simp [hje]
            go_upto_region 21 with fail
            have HBx := HRr.out.bx
            refine st21_reg (g6 := g6) (L1 := E.length) (A1 := A1) (c1 := c1) (q1 := (q : Int)) (R := fun u W => ∃ A c, u = .slice A 0 c) (R2 := fun u W => ∃ A, u = .slice A 2 2 ∧ IL W A [-1, (E.length : Int)]) (R1 := fun u W => ∃ A, u = .slice A 1 1 ∧ IL W A [-5]) rfl (by simp) ?_ ?_ ?_ HBx ?_ ?_ ?_ ?_ ?_ ?_ ?_ ?_ ?_ ?_
            · exact fun u W W' h hb => h
            · exact fun u W W' ⟨A, e, hi⟩ hb => ⟨A, e, hi.keep hb⟩
            · exact fun u W W' ⟨A, e, hi⟩ hb => ⟨A, e, hi.keep hb⟩
            · intro W hb
              have h1 := step_any (en := (q : Int)) (HRr.out.au.keep hb) HE5 HE2.out none 0 [] (fun h => absurd h (by simp)) (by simp) 97 (by decide)
              rw [show stepP E [] 97 = [] from reach_none E _ (by simp [behL])] at h1
              exact h1.mono fun e w' ⟨A, c, e1, ho, hb2⟩ => ⟨_, e1, ⟨A, c, rfl⟩, hb2⟩
            · exact fun W hb => (len_any A1 E.length c1 (q : Int) W).mono fun e w' p => ⟨_, p.1, rfl, p.2⟩
            · rintro W u hb ⟨A, rfl, hi⟩
              have h1 := step_any (en := (q : Int)) (HRr.out.au.keep hb) HE5 HE2.out A 2 [-1, (E.length : Int)] hi (by simp) 97 (by decide)
              rw [show stepP E [-1, (E.length : Int)] 97 = [] from by
                unfold stepP
                rw [show behL E 97 [-1, (E.length : Int)] = [] from by simp [behL]]
                exact reach_none E _ (by simp)] at h1
              exact h1.mono fun e w' ⟨A, c, e1, ho, hb2⟩ => ⟨_, e1, ⟨A, c, rfl⟩, hb2⟩
            · rintro W u hb ⟨A, rfl, hi⟩
              have h1 := reach_row (en := (q : Int)) (HRr.out.au.keep hb) HE5 HE2.out A 1 [-5] hi (by simp)
              rw [reach_none E [-5] (by intro s hs; (have : s = -5 := (by simpa using hs)); omega)] at h1
              exact h1.mono fun e w' ⟨A, c, e1, ho, hb2⟩ => ⟨_, e1, ⟨A, c, rfl⟩, hb2⟩
            · exact fun u W h => h
            · exact fun W => run_bs2 W (-1) _
            · exact fun W => ⟨_, rfl, il_new W [-1, (E.length : Int)]⟩
            · exact fun W => run_bs1 W (-5)
            · exact fun W => ⟨_, rfl, il_new W [-5]⟩
            intro f2 W hf hW
            simp only [st21Us, List.foldl_cons, List.foldl_nil, List.setIfInBounds_toArray, List.set_cons_zero, List.set_cons_succ]
            rw [hf]
            have HB9 := hid (HRr.out.bel.trans (hW.mono HRr.out.bel.size))
            clear hf hW HBx
            go_wp2
            go_ret
            exact ⟨rfl, HB9.out⟩
          · have p4 : ((j : Int) == (l.length : Int)) = false := by
              apply beq_eq_false_iff_ne.2
              omega
            obtain ⟨bb, ob, rfl, hbl, hcs⟩ := HL.out (by omega)
            have hlt2 : j < l.length := by omega
            have k1 := (HRr.out.bel.cell (p := ⟨bb, ob + j, none⟩) hbl).trans (hcs j hlt2)
            have p5 : (j : Int) < (l.length : Int) := by omega
            have hx := HL2.out _ (List.getElem_mem hlt2)
            have HT2 := hid (HT.out hlt2)
            clear hcs HT
            generalize l[j]'hlt2 = x at *
            have HSt := hid (fun (W : World) (hb : Below wr.heap.size wr W) => step_any (en := (q : Int)) (HRr.out.au.keep hb) HE5 HE2.out A3 c3 (natI R) (HI.out.keep hb) (by rw [natI_len]; omega) x hx)
            rw [HT2.out, natI_len] at HSt
            obtain ⟨d0, d1⟩ := HRr.out.cells
            have HDr := hid (show Below wr.heap.size wr wr.drew from ⟨rfl, rfl, rfl, Nat.le_refl _, fun _ _ => rfl⟩)
            have HKp := hid (fun (W : World) (hb : Below wr.drew.heap.size wr.drew W) => (show W.cell? ⟨g6, 0, none⟩ = some (.slice A1 E.length c1) ∧ W.cell? ⟨g6, 1, none⟩ = some (.int .i64 (q : Int)) ∧ W.cell? ⟨bb, ob + j, none⟩ = some (.int .u8 (x : Int)) from ⟨(HRr.out.step (W' := W) (HDr.out.trans (hb.mono HDr.out.size))).cells.1, (HRr.out.step (W' := W) (HDr.out.trans (hb.mono HDr.out.size))).cells.2, ((HDr.out.trans (hb.mono HDr.out.size)).cell (p := ⟨bb, ob + j, none⟩) (Nat.lt_of_lt_of_le hbl HRr.out.bel.size)).trans k1⟩))
            have HRn := hid (fun (W : World) (hb : Below wr.drew.heap.size wr.drew W) => HRr.out.step (W' := W) (HDr.out.trans (hb.mono HDr.out.size)))
            clear hje HL HL2 HI
            go_upto_region 20 with fail
            go_region_held3 (fun w' => w'.cell? ⟨g6, 0, none⟩ = some (.slice A1 E.length c1) ∧ w'.cell? ⟨g6, 1, none⟩ = some (.int .i64 (q : Int)) ∧ w'.cell? ⟨bb, ob + j, none⟩ = some (.int .u8 (x : Int))) (first | exact ⟨d0, d1, k1⟩ | exact HKp.out _ hb) (first | (go_at_call 15; refine (HSt.out _ HDr.out).mono ?_; rintro e w9 ⟨A9, c9, rfl, ho, hb⟩))
            have HR9 := hid (HRn.out _ hb)
            have HI9 := hid (rowN_il ho)
            clear ho hb HRn HKp HSt HDr
            go_wp2
            go_roundw
            case rel => exact ⟨j + 1, by omega, by go_num, A9, c9, rfl, HI9, HR9⟩
            case measure => simp [intOf]; omega
end Go.Proofs.Ytimffgmbchpfeaa

/- The row of NfaSteps. -/
namespace Go.Proofs.Ytimffgmbchpfeaa.nfaStepsLaw
open Go.ChangeShapes Go.WideShapes Go.ChangeAt Go.RowKit
set_option linter.unusedVariables false

theorem walk (x0 : RV) (y0 : RT) (a1 : Option Addr) (len1 cap1 : Nat) (z1 : List Int) (w : World) (w0 : Rep w (· < w.heap.size) x0 y0) (w1 : IsRow .u8 w a1 len1 cap1 z1) :
    Calls Try.prog 3 #[x0.val, .slice a1 len1 cap1] w fun e w' => e = .returned (.bool true) ∧ Below w.heap.size w w' := by
  obtain ⟨l, hl⟩ := w1.bytes
  have hc := w1.cap
  obtain ⟨rfl, hl2⟩ : l.length = len1 ∧ RdB w a1 len1 l := ⟨hl.1, hl⟩
  have h := steps_any x0 y0 w w0 a1 cap1 (l.map (·.toNat)) (bl_of_rd hl2) (fun x hx => by
    obtain ⟨y, _, rfl⟩ := List.mem_map.1 hx
    exact y.toNat_lt) (by rw [List.length_map]; omega) (by rw [List.length_map]; omega)
  rw [List.length_map] at h
  exact h

set_option maxRecDepth 100000 in
theorem lifted (os : Os) (started : os.Started) (H : Type) (enc : TypeId × Value → H) :
    ReturnsInHanded {} Try.checked os 3 .any (Rows.nfaStepsSpec.pre6 enc Try.prog Try.f3 Rows.nfaStepsRow.domain false) (Rows.nfaStepsSpec.post enc Try.prog Try.f3 false true false false) := by
  refine returnsInHanded_of_change (C := Try.checked) own started (by kernel_rfl) Try.func3
    (ChangeSpec.witness6 (enc := enc) (C := Try.checked) false ⟨#[], #[.agg #[.int .i64 0, .int .u64 0, .int .u64 0, .int .u64 0, .int .u64 0, .slice none 0 0, .int .i64 0, .int .i64 0], .slice none 0 0], []⟩ 8 (by kernel_rfl) (by kernel_rfl) (by kernel_rfl) (by kernel_rfl)) ?_
  intro W base args ds gs before hval0 hW hcnd _
  have hval : ∀ (j : Nat) t v, Try.f3.params[j]? = some t → args[j]? = some v → Value.okWide Try.prog W .any base t v := hval0
  have hW' := hW
  obtain ⟨p, q, hA0, hV, rfl, hfz, hnd⟩ := hW
  have hA : DataW.TrodAll enc Try.prog W 0 (fun _ => true) true Try.f3.params.toList args.toList ds p := hA0
  rw [Try.params3] at hA hval
  obtain ⟨v0, vs0, d0, ds0, p0, q0, hargs, rfl, rfl, h0, r0⟩ := trodAll_cons hA
  obtain ⟨v1, vs1, d1, ds1, p1, q1, rfl, rfl, rfl, h1, r1⟩ := trodAll_cons r0
  obtain ⟨rfl, rfl, rfl⟩ := trodAll_nil r1
  obtain rfl : args = #[v0, v1] := by cases args; simp_all
  obtain ⟨rfl, rfl⟩ := trodVars_none hV
  have k0 := h0
  have lt0 : ∀ x ∈ p0, x.block < W.heap.size := by obtain ⟨m, hm⟩ := k0; exact DataW.trod_lt m _ _ _ hm
  obtain ⟨x0, y0, rfl, w0⟩ := open_rx h0
  obtain ⟨a1, len1, cap1, rfl⟩ := okWide_slice Try.underlying27 (hval 1 27 v1 rfl rfl)
  have k1 := h1
  have lt1 : ∀ x ∈ p1, x.block < W.heap.size := by obtain ⟨m, hm⟩ := k1; exact DataW.trod_lt m _ _ _ hm
  obtain ⟨z1, w1⟩ : ∃ zs, IsRow .u8 W a1 len1 cap1 zs := by
    obtain ⟨fuel, hf⟩ := h1
    rcases open_ints Try.underlying27 Try.underlying5 (by kernel_rfl) hf with ⟨hcs, _⟩ | ⟨x, l, c, zs, hcs, _, hl, hm, hz, _, hcell, hwz⟩
    · simp [Value.cells] at hcs
      obtain ⟨rfl, rfl, rfl⟩ := hcs
      exact ⟨[], .inl ⟨rfl, rfl, rfl, rfl⟩⟩
    · simp [Value.cells] at hcs
      obtain ⟨rfl, rfl, rfl⟩ := hcs
      exact ⟨zs, .inr ⟨_, rfl, hl, hm, by simpa using hz, hcell, hwz⟩⟩
  clear hA0 hval0
  refine (walk x0 y0 a1 len1 cap1 z1 W w0 w1).mono fun e W' ⟨he, bel⟩ => ?_
  subst he
  exact ⟨_, rfl, _, _, _, [], _, [], hW', trodAll_mk1 (shut_bool Try.underlying4 _), (trodAll_cons_mk (Below.trod laidOut (by kernel_rfl) (of_decide_eq_true (by kernel_rfl)) k0 bel lt0) (trodAll_cons_mk (Below.trod laidOut (by kernel_rfl) (of_decide_eq_true (by kernel_rfl)) k1 bel lt1) trodAll_mk0)), rfl, bel.frame _, fun h => by cases h⟩

theorem over : Rows.nfaStepsRow.holds Try.pinned (OpenSpec.ofChange Rows.nfaStepsSpec) :=
  OpenClaim.holds_of_wide 3 Try.f3 rfl rfl rfl rfl rfl rfl rfl ⟨rfl, rfl, rfl, rfl, rfl⟩ rfl rfl rfl rfl rfl (by kernel_rfl) Try.func3 (by kernel_rfl)
    (of_decide_eq_true (by kernel_rfl)) (by unfold Func.isWrapper; first | (rw [if_pos (by decide +kernel)]; kernel_rfl) | (rw [if_neg (by decide +kernel)]; exact ⟨rfl, rfl⟩))
    (fun os started H enc _ => lifted os started H enc)

/-- The given statement. -/
theorem proved : Rows.NfaStepsSaid := over
end Go.Proofs.Ytimffgmbchpfeaa.nfaStepsLaw
