/- code: may a Switch be. -/
import Derived.Test.YtpbkdokhlimpfaaDoorCdC
import Derived.Test.YtpbkdokhlimpfaaDoorCdR
namespace Go.Proofs.YtpbkdokhlimpfaaDoor
set_option linter.unusedSimpArgs false
set_option linter.unusedVariables false
open Go.RowKit

theorem eql_m1 (a b : Int) (W : World) : (binOp .eql 3 (.int .i64 a) (.int .i64 b)).run Tryd.prog W = .ok (.bool (decide (a = b))) W := by kernel_rfl
set_option maxRecDepth 100000 in
set_option maxHeartbeats 16000000 in
theorem may_13 (p : PT) (x : ST) (b o : Nat) (w : World) {P : Nat → Prop} (hA : At w b o x) (hW : StOk w P x) (hn : p.S.n = p.ss.length) (hl : x.ws.length ≤ 1000000) (h13 : x.k = 13) : Calls Tryd.prog 25 #[p.val, .pointer (some ⟨b, o, none⟩)] w fun e w' => e = .returned (.bool (mayS p x)) ∧ Below w.heap.size w w' := by
  obtain ⟨hb, h1⟩ := box_prog w p
  have hpc : p.cells.toArray = #[.slice p.S.A p.S.n p.S.c, .int .i64 p.sl, .int .i64 p.su, .int .i64 p.au] := rfl
  rw [hpc] at hb h1
  have HX := hid h1
  have HB := hid hb
  have hA1 := hA.keep (hb.block b hA.lt)
  have HAt := hid hA1
  have hL := hA1.low
  have HWk := hid (hW.keep hb)
  obtain ⟨x0, x1, x2, x3⟩ := h1.four
  obtain ⟨c0, c1, c2, c4, c5, c8, _⟩ := hL
  have HAm := hid (fun i m W => among_any i m W)
  have HH := hid (fun i W => has_any p i W)
  have HNu := hid (number_any p x b o _ hA1)
  have HFk := hid (forked_any p x b o _ hA1 (hW.keep hb) hn hl)
  have HNe := hid hn
  have HFq := hid (fun W (hh : Below (w.alloc (.cells #[.slice p.S.A p.S.n p.S.c, .int .i64 p.sl, .int .i64 p.su, .int .i64 p.au] 24)).heap.size _ W) => forked_any p x b o W (hA1.keep (hh.block b hA1.lt)) ((hW.keep hb).keep hh) hn hl)
  have HFa := hid (fun W (hh : Below (w.alloc (.cells #[.slice p.S.A p.S.n p.S.c, .int .i64 p.sl, .int .i64 p.su, .int .i64 p.au] 24)).heap.size _ W) => And.intro (BoxP.four (p := p) (Blk.keep h1 hh)) (hA1.keep (hh.block b hA1.lt)).low)
  obtain ⟨RR, hRR⟩ : ∃ RR : Ending → World → Prop, RR = fun e w' => e = .returned (.bool (mayS p x)) ∧ Below w.heap.size w w' := ⟨_, rfl⟩
  rw [← hRR]
  have HRR := hid hRR
  clear hb h1 hpc hA hRR hA1 hW hn hl
  obtain ⟨nb, hnb⟩ : ∃ nb, nb = numS p x := ⟨_, rfl⟩
  rw [← hnb] at HNu
  have HNm := hid hnb.symm
  obtain ⟨fk, hfk⟩ : ∃ fk, fk = frkS p x := ⟨_, rfl⟩
  rw [← hfk] at HFk HFq
  have HFe := hid hfk
  clear hnb hfk
  unfold PT.val at *
  obtain ⟨ss, ⟨A, n, c⟩, sl, su, au⟩ := p
  have h13k := h13
  clear h13
  obtain ⟨k, a, xb, fl, mn, mx, mu, ad, ws, bs, W⟩ := x
  simp only at *
  go_enter Tryd.func25, Tryd.ntmps25
  go_upto_region 1 with (fail)
  generalize w.alloc (.cells #[.slice A n c, .int .i64 sl, .int .i64 su, .int .i64 au] 24) = w1 at *
  have HD := hid (fun n => Chg.below (S := fun _ => False) HB.out ((Chg.refl w1 _).drewN n) HB.out.size (fun _ h => h.elim))
  have HD0 := hid (below_then' HB.out (below_d0' w1))
  have g1 : (k == 1) = false := by rw [h13k]; rfl
  have g2 : (k == 2) = false := by rw [h13k]; rfl
  have g8 : (k == 8) = false := by rw [h13k]; rfl
  have g16 : (k == 16) = false := by rw [h13k]; rfl
  have g20 : (k == 20) = false := by rw [h13k]; rfl
  have g3 : (k == 3) = false := by rw [h13k]; rfl
  have g4 : (k == 4) = false := by rw [h13k]; rfl
  have g5 : (k == 5) = false := by rw [h13k]; rfl
  have g6 : (k == 6) = false := by rw [h13k]; rfl
  have g7 : (k == 7) = false := by rw [h13k]; rfl
  have g9 : (k == 9) = false := by rw [h13k]; rfl
  have g10 : (k == 10) = false := by rw [h13k]; rfl
  have g11 : (k == 11) = false := by rw [h13k]; rfl
  have g12 : (k == 12) = false := by rw [h13k]; rfl
  have g15 : (k == 15) = false := by rw [h13k]; rfl
  have g17 : (k == 17) = false := by rw [h13k]; rfl
  have g18 : (k == 18) = false := by rw [h13k]; rfl
  have g19 : (k == 19) = false := by rw [h13k]; rfl
  subst h13k
  obtain ⟨m1, hm1⟩ : ∃ m1, m1 = amg a sl := ⟨_, rfl⟩
  have HM1 := hid hm1
  clear hm1
  have HCe := hid (fun W (hW : Below w1.heap.size w1 W) => And.intro (HFa.out W hW).2.c1 (And.intro (HFa.out W hW).2.c2 (HFa.out W hW).1.2.1))
  go_upto_region 29 with (fail)
  cases m1
  · refine m13a_reg (gp := w.heap.size) (b1 := b) (o1 := o) (A := A) (n := n) (c := c) (sl := sl) (su := su) (au := au) (xa := a) (xb := xb) rfl rfl (by simp) HX.out HCe.out ?_ ?_
    · exact fun W _ => (among_any a sl W).mono fun e w' hh => ⟨_, by rw [hh.1, ← HM1.out], rfl, by rw [hh.2]; exact Below.refl _ _⟩
    · intro f w' h0 hb
      simp only [m13aUs, List.foldl_cons, List.foldl_nil, List.setIfInBounds_toArray, List.set_cons_zero, List.set_cons_succ]
      rw [h0]
      have HE := hid (below_then' HB.out hb)
      clear hb h0
      go_wp2_with fail
      show RR (.returned (.bool _)) w'
      rw [HRR.out]
      exact ⟨by simp [mayS, ← HM1.out], HE.out⟩
  · by_cases h1 : xb = -1
    · cases fk
      · refine m13c_reg (gp := w.heap.size) (b1 := b) (o1 := o) (A := A) (n := n) (c := c) (sl := sl) (su := su) (au := au) (xa := a) (xb := xb) rfl rfl (by simp) HX.out HCe.out ?_ ?_ ?_ ?_
        · exact fun W _ => (among_any a sl W).mono fun e w' hh => ⟨_, by rw [hh.1, ← HM1.out], rfl, by rw [hh.2]; exact Below.refl _ _⟩
        · exact fun W => by rw [eql_m1]; simp [h1]
        · exact fun W hW => (HFq.out W hW).mono fun e w' hh => ⟨_, hh.1, rfl, hh.2⟩
        · intro f w' h0 hb
          simp only [m13cUs, List.foldl_cons, List.foldl_nil, List.setIfInBounds_toArray, List.set_cons_zero, List.set_cons_succ]
          rw [h0]
          have HE := hid (below_then' HB.out hb)
          clear hb h0
          go_wp2_with fail
          show RR (.returned (.bool _)) w'
          rw [HRR.out]
          exact ⟨by simp [mayS, ← HM1.out, ← HFe.out], HE.out⟩
      · refine m13b_reg (gp := w.heap.size) (b1 := b) (o1 := o) (A := A) (n := n) (c := c) (sl := sl) (su := su) (au := au) (xa := a) (xb := xb) rfl rfl (by simp) HX.out HCe.out ?_ ?_ ?_ ?_
        · exact fun W _ => (among_any a sl W).mono fun e w' hh => ⟨_, by rw [hh.1, ← HM1.out], rfl, by rw [hh.2]; exact Below.refl _ _⟩
        · exact fun W => by rw [eql_m1]; simp [h1]
        · exact fun W hW => (HFq.out W hW).mono fun e w' hh => ⟨_, hh.1, rfl, hh.2⟩
        · intro f w' h0 hb
          simp only [m13bUs, List.foldl_cons, List.foldl_nil, List.setIfInBounds_toArray, List.set_cons_zero, List.set_cons_succ]
          rw [h0]
          have HE := hid (below_then' HB.out hb)
          clear hb h0
          go_wp2_with fail
          show RR (.returned (.bool _)) w'
          rw [HRR.out]
          exact ⟨by (simp [mayS, ← HM1.out, h1]; exact HFe.out.symm), HE.out⟩
    · obtain ⟨m2, hm2⟩ : ∃ m2, m2 = amg xb n := ⟨_, rfl⟩
      have HM2 := hid hm2
      clear hm2
      cases m2
      · refine m13d_reg (gp := w.heap.size) (b1 := b) (o1 := o) (A := A) (n := n) (c := c) (sl := sl) (su := su) (au := au) (xa := a) (xb := xb) rfl rfl (by simp) HX.out HCe.out ?_ ?_ ?_ ?_
        · exact fun W _ => (among_any a sl W).mono fun e w' hh => ⟨_, by rw [hh.1, ← HM1.out], rfl, by rw [hh.2]; exact Below.refl _ _⟩
        · exact fun W => by rw [eql_m1]; simp [h1]
        · exact fun W _ => (HH.out xb W).mono fun e w' hh => ⟨_, by rw [hh.1, ← HM2.out], rfl, hh.2⟩
        · intro f w' h0 hb
          simp only [m13dUs, List.foldl_cons, List.foldl_nil, List.setIfInBounds_toArray, List.set_cons_zero, List.set_cons_succ]
          rw [h0]
          have HE := hid (below_then' HB.out hb)
          clear hb h0
          go_wp2_with fail
          show RR (.returned (.bool _)) w'
          rw [HRR.out]
          exact ⟨by simp [mayS, ← HM1.out, h1, ← HNe.out, ← HM2.out], HE.out⟩
      · cases fk
        · refine m13f_reg (gp := w.heap.size) (b1 := b) (o1 := o) (A := A) (n := n) (c := c) (sl := sl) (su := su) (au := au) (xa := a) (xb := xb) rfl rfl (by simp) HX.out HCe.out ?_ ?_ ?_ ?_ ?_
          · exact fun W _ => (among_any a sl W).mono fun e w' hh => ⟨_, by rw [hh.1, ← HM1.out], rfl, by rw [hh.2]; exact Below.refl _ _⟩
          · exact fun W => by rw [eql_m1]; simp [h1]
          · exact fun W _ => (HH.out xb W).mono fun e w' hh => ⟨_, by rw [hh.1, ← HM2.out], rfl, hh.2⟩
          · exact fun W hW => (HFq.out W hW).mono fun e w' hh => ⟨_, hh.1, rfl, hh.2⟩
          · intro f w' h0 hb
            simp only [m13fUs, List.foldl_cons, List.foldl_nil, List.setIfInBounds_toArray, List.set_cons_zero, List.set_cons_succ]
            rw [h0]
            have HE := hid (below_then' HB.out hb)
            clear hb h0
            go_wp2_with fail
            show RR (.returned (.bool _)) w'
            rw [HRR.out]
            exact ⟨by simp [mayS, ← HM1.out, h1, ← HNe.out, ← HM2.out, ← HFe.out], HE.out⟩
        · refine m13e_reg (gp := w.heap.size) (b1 := b) (o1 := o) (A := A) (n := n) (c := c) (sl := sl) (su := su) (au := au) (xa := a) (xb := xb) rfl rfl (by simp) HX.out HCe.out ?_ ?_ ?_ ?_ ?_
          · exact fun W _ => (among_any a sl W).mono fun e w' hh => ⟨_, by rw [hh.1, ← HM1.out], rfl, by rw [hh.2]; exact Below.refl _ _⟩
          · exact fun W => by rw [eql_m1]; simp [h1]
          · exact fun W _ => (HH.out xb W).mono fun e w' hh => ⟨_, by rw [hh.1, ← HM2.out], rfl, hh.2⟩
          · exact fun W hW => (HFq.out W hW).mono fun e w' hh => ⟨_, hh.1, rfl, hh.2⟩
          · intro f w' h0 hb
            simp only [m13eUs, List.foldl_cons, List.foldl_nil, List.setIfInBounds_toArray, List.set_cons_zero, List.set_cons_succ]
            rw [h0]
            have HE := hid (below_then' HB.out hb)
            clear hb h0
            go_wp2_with fail
            show RR (.returned (.bool _)) w'
            rw [HRR.out]
            exact ⟨by simp [mayS, ← HM1.out, h1, ← HNe.out, ← HM2.out, ← HFe.out], HE.out⟩
end Go.Proofs.YtpbkdokhlimpfaaDoor
