/- code: the Maker's Aim and Turn, walked. -/
import Derived.Test.YtpbkdokhlimpfaaDoorCdS
namespace Go.Proofs.YtpbkdokhlimpfaaDoor
set_option linter.unusedSimpArgs false
set_option linter.unusedVariables false
open Go.RowKit

def ST.aimed (x : ST) (t : Int) : ST := { x with a := t }
def ST.elsed (x : ST) (t : Int) : ST := { x with b := t }
theorem aimed_cells (x : ST) (t : Int) : (x.aimed t).cells = x.cells.set 1 (.int .i64 t) := by
  unfold ST.cells
  rw [List.set_append_left _ _ (by show 1 < 9; decide)]
  rfl
theorem elsed_cells (x : ST) (t : Int) : (x.elsed t).cells = x.cells.set 2 (.int .i64 t) := by
  unfold ST.cells
  rw [List.set_append_left _ _ (by show 2 < 9; decide)]
  rfl
theorem MkOk.below {w w' : World} {O : Nat → Prop} {g : Nat} {p : PT} {ov : Bool} (h : MkOk w O g p ov) (hb : Below w.heap.size w w') : MkOk w' O g p ov :=
  h.chg (Chg.of_below hb (fun _ => False)) (fun _ _ h => h)
theorem MkOk.at {w : World} {O : Nat → Prop} {g : Nat} {p : PT} {ov : Bool} (h : MkOk w O g p ov) {q : Nat} (hq : q < p.ss.length) : ∃ g1, p.S.A = some ⟨g1, 0, none⟩ ∧ g1 < w.heap.size ∧ p.S.n = p.ss.length ∧ (∀ i v, i < 265 → (p.ss[q]).cells[i]? = some v → w.cell? ⟨g1, q * 265 + i, none⟩ = some v) ∧ ∀ j, w.frozen? ⟨g1, j, none⟩ = false := by
  have hr : w.ownsRow 0 37 265 (.slice p.S.A p.S.n p.S.c) p.ss.length (flatS p.ss) := h.own.row
  obtain ⟨g1, hA, hn, _, hl, hc, hf⟩ := owns_at hr (by omega)
  refine ⟨g1, hA, hl, hn, fun i v hi hv => hc _ _ ?_, hf⟩
  rw [flatS_get (fun x hx => st_len (h.own.ways x hx).2) q i hq hi]
  exact hv
set_option maxRecDepth 100000 in
set_option maxHeartbeats 1000000 in
theorem Aim_any (O : Nat → Prop) (g : Nat) (p : PT) (ov : Bool) (step tt : Int) (w : World) (hM : MkOk w O g p ov) (hl : p.ss.length ≤ 1000000) : Calls Tryd.prog 19 #[.pointer (some ⟨g, 0, none⟩), .int .i64 step, .int .i64 tt] w fun e w' => e = .returned (.tuple #[]) ∧ (amg step p.ss.length = false → MkOk w' O g p ov) ∧ (∀ q (hq : q < p.ss.length), step = (q : Int) → MkOk w' O g ⟨p.ss.set q ((p.ss[q]).aimed tt), p.S, p.sl, p.su, p.au⟩ ov) ∧ Chg w w' O := by
  obtain ⟨x0, x1, x2, x3, x4⟩ := hM.box.five
  have hn : p.S.n = p.ss.length := owns_n hM.own.row
  have HHa := hid (has_any p step w)
  unfold PT.val at HHa
  have HM := hid hM
  by_cases hin : 0 ≤ step ∧ step < (p.ss.length : Int)
  · have ha : amg step p.S.n = true := by unfold amg; simp; omega
    rw [ha] at HHa
    obtain ⟨q, rfl⟩ : ∃ q : Nat, step = (q : Int) := ⟨step.toNat, by omega⟩
    have hq : q < p.ss.length := by omega
    have HQ := hid hq
    obtain ⟨g1, hA, hgl, -, hc, hf⟩ := hM.at hq
    have c1 := hc 1 (.int .i64 (p.ss[q]).a) (by decide) rfl
    have hqn : (q : Int) < (p.S.n : Int) := by omega
    have hq0 : (0 : Int) ≤ (q : Int) := by omega
    have hnb : p.S.n ≤ 1000000 := by omega
    have HA := hid hA
    have HC := hid (And.intro c1 hf)
    obtain ⟨RR, hRR⟩ : ∃ RR : Ending → World → Prop, RR = fun e w' => e = .returned (.tuple #[]) ∧ (amg (q : Int) p.ss.length = false → MkOk w' O g p ov) ∧ (∀ k (hk : k < p.ss.length), (q : Int) = (k : Int) → MkOk w' O g ⟨p.ss.set k ((p.ss[k]).aimed tt), p.S, p.sl, p.su, p.au⟩ ov) ∧ Chg w w' O := ⟨_, rfl⟩
    rw [← hRR]
    have HRR := hid hRR
    have HG := hid hgl
    rw [hA] at x0 HHa
    clear hRR hM c1 hf hA hc hin ha hn hl hgl
    go_enter Tryd.func19, Tryd.ntmps19
    go_upto_region 1 with (go_at_call 32; (with_reducible refine HHa.out.mono ?_); rintro e w2 ⟨rfl, hb2⟩; have HM2 := hid (HM.out.below hb2); have HB2 := hid hb2; clear x0 x1 x2 x3 x4 hb2; obtain ⟨x0, x1, x2, x3, x4⟩ := HM2.out.box.five; rw [HA.out] at x0; have c1 := (World.cell?_of_block (w := w) (w' := w2) (a := ⟨g1, q * 265 + 1, none⟩) (HB2.out.block g1 HG.out)).trans HC.out.1; have hf := froz_keep HB2.out HG.out HC.out.2)
    go_wp2_with fail
    go_end0
    rw [HRR.out]
    have hq := HQ.out
    obtain ⟨h1, h2⟩ := HM2.out.setS q HQ.out 1 (by decide) (.int .i64 tt) ((p.ss[q]).aimed tt) (aimed_cells _ _) rfl rfl (HM2.out.own.ways _ (List.getElem_mem HQ.out)).2 g1 HA.out
    refine ⟨rfl, fun h => absurd h (by unfold amg; simp; omega), fun k hk e => ?_, (Chg.of_below HB2.out O).trans h2⟩
    obtain rfl : q = k := by omega
    exact h1
  · have ha : amg step p.S.n = false := by unfold amg; rw [hn]; simp; omega
    rw [ha] at HHa
    obtain ⟨RR, hRR⟩ : ∃ RR : Ending → World → Prop, RR = fun e w' => e = .returned (.tuple #[]) ∧ (amg step p.ss.length = false → MkOk w' O g p ov) ∧ (∀ q (hq : q < p.ss.length), step = (q : Int) → MkOk w' O g ⟨p.ss.set q ((p.ss[q]).aimed tt), p.S, p.sl, p.su, p.au⟩ ov) ∧ Chg w w' O := ⟨_, rfl⟩
    rw [← hRR]
    have HRR := hid hRR
    have HI := hid hin
    clear hRR hM hin ha hn hl
    go_enter Tryd.func19, Tryd.ntmps19
    go_wp2_with (go_at_call 32; (with_reducible refine HHa.out.mono ?_); rintro e w2 ⟨rfl, hb2⟩; have HB2 := hid hb2; clear x0 x1 x2 x3 x4 hb2)
    go_end0
    rw [HRR.out]
    exact ⟨rfl, fun _ => HM.out.below HB2.out, fun q hq e => absurd (show 0 ≤ step ∧ step < (p.ss.length : Int) by omega) HI.out, Chg.of_below HB2.out O⟩
/-- What Turn leaves. -/
def TurnR (w : World) (O : Nat → Prop) (g : Nat) (p : PT) (ov : Bool) (step way tt : Int) (e : Ending) (w' : World) : Prop :=
  e = .returned (.tuple #[]) ∧ (amg step p.ss.length = false → MkOk w' O g p ov) ∧
  (∀ q (hq : q < p.ss.length), step = (q : Int) → way = -1 → MkOk w' O g ⟨p.ss.set q ((p.ss[q]).elsed tt), p.S, p.sl, p.su, p.au⟩ ov) ∧
  (∀ q (hq : q < p.ss.length), step = (q : Int) → ∀ j : Nat, j < (p.ss[q]).ws.length → way = (j : Int) → MkOk w' O g ⟨p.ss.set q ((p.ss[q]).turned j tt), p.S, p.sl, p.su, p.au⟩ ov) ∧
  (∀ q (hq : q < p.ss.length), step = (q : Int) → way ≠ -1 → amg way (p.ss[q]).ws.length = false → MkOk w' O g p ov) ∧ Chg w w' O
set_option maxRecDepth 100000 in
set_option maxHeartbeats 4000000 in
theorem Turn_any (O : Nat → Prop) (g : Nat) (p : PT) (ov : Bool) (step way tt : Int) (w : World) (hM : MkOk w O g p ov) (hl : p.ss.length ≤ 1000000) (hws : ∀ x ∈ p.ss, x.ws.length ≤ 1000000) : Calls Tryd.prog 20 #[.pointer (some ⟨g, 0, none⟩), .int .i64 step, .int .i64 way, .int .i64 tt] w (TurnR w O g p ov step way tt) := by
  obtain ⟨x0, x1, x2, x3, x4⟩ := hM.box.five
  have hn : p.S.n = p.ss.length := owns_n hM.own.row
  have HHa := hid (has_any p step w)
  unfold PT.val at HHa
  have HM := hid hM
  obtain ⟨RR, hRR⟩ : ∃ RR, RR = TurnR w O g p ov step way tt := ⟨_, rfl⟩
  rw [← hRR]
  have HRR := hid hRR
  clear hRR
  by_cases hin : 0 ≤ step ∧ step < (p.ss.length : Int)
  · have ha : amg step p.S.n = true := by unfold amg; simp; omega
    rw [ha] at HHa
    obtain ⟨q, rfl⟩ : ∃ q : Nat, step = (q : Int) := ⟨step.toNat, by omega⟩
    have hq : q < p.ss.length := by omega
    have HQ := hid hq
    obtain ⟨g1, hA, hgl, -, hc, hf⟩ := hM.at hq
    have c2 := hc 2 (.int .i64 (p.ss[q]).b) (by decide) rfl
    have c8 := hc 8 (.slice (p.ss[q]).W.A (p.ss[q]).W.n (p.ss[q]).W.c) (by decide) rfl
    have hqn : (q : Int) < (p.S.n : Int) := by omega
    have hq0 : (0 : Int) ≤ (q : Int) := by omega
    have hnb : p.S.n ≤ 1000000 := by omega
    have hxq : p.ss[q] ∈ p.ss := List.getElem_mem hq
    have HWl := hid (hws _ hxq)
    have hWn : (p.ss[q]).W.n = (p.ss[q]).ws.length := owns_n (hM.own.ways _ hxq).1
    have HA := hid hA
    have HC := hid (And.intro c2 (And.intro c8 hf))
    have HWn := hid hWn
    have HAm := hid (fun W => among_any way (p.ss[q]).W.n W)
    have HG := hid hgl
    rw [hA] at x0 HHa
    obtain ⟨x, hx⟩ : ∃ x, x = p.ss[q] := ⟨_, rfl⟩
    have HX := hid hx
    rw [← hx] at HC HWn HAm HWl
    clear hM c2 c8 hf hA hc hin ha hn hl hgl hq hxq hWn hx hws
    obtain ⟨xW, hxW⟩ : ∃ xW, xW = x.W := ⟨_, rfl⟩
    rw [← hxW] at HC HWn HAm
    have HxW := hid hxW
    clear hxW
    obtain ⟨wA, wN, wC⟩ := xW
    simp only at HC HWn HAm
    have hwb : wN ≤ 1000000 := by have h1 := HWn.out; have h2 := HWl.out; omega
    by_cases hm : way = -1
    · subst hm
      go_enter Tryd.func20, Tryd.ntmps20
      go_upto_region 1 with (go_at_call 32; (with_reducible refine HHa.out.mono ?_); rintro e w2 ⟨rfl, hb2⟩; have HM2 := hid (HM.out.below hb2); have HB2 := hid hb2; clear x0 x1 x2 x3 x4 hb2; obtain ⟨x0, x1, x2, x3, x4⟩ := HM2.out.box.five; rw [HA.out] at x0; have c2 := (World.cell?_of_block (w := w) (w' := w2) (a := ⟨g1, q * 265 + 2, none⟩) (HB2.out.block g1 HG.out)).trans HC.out.1; have hf := froz_keep HB2.out HG.out HC.out.2.2)
      go_wp2_with fail
      go_end0
      rw [HRR.out]
      have hq := HQ.out
      obtain ⟨h1, h2⟩ := HM2.out.setS q HQ.out 2 (by decide) (.int .i64 tt) ((p.ss[q]).elsed tt) (elsed_cells _ _) rfl rfl (HM2.out.own.ways _ (List.getElem_mem HQ.out)).2 g1 HA.out
      refine ⟨rfl, fun h => absurd h (by unfold amg; simp; omega), fun k hk e _ => ?_, fun k hk e j hj e2 => absurd e2 (by omega), fun k hk e h => absurd rfl h, (Chg.of_below HB2.out O).trans h2⟩
      obtain rfl : q = k := by omega
      exact h1
    · have hm' : (way == -1) = false := by simpa using hm
      have HMn := hid hm
      by_cases hin : 0 ≤ way ∧ way < (wN : Int)
      · have ha : amg way wN = true := by unfold amg; simp; omega
        rw [ha] at HAm
        obtain ⟨j, rfl⟩ : ∃ j : Nat, way = (j : Int) := ⟨way.toNat, by omega⟩
        have hjn : (j : Int) < (wN : Int) := hin.2
        have hj0 : (0 : Int) ≤ (j : Int) := hin.1
        have HJ := hid (show j < (p.ss[q]'HQ.out).ws.length from by have h1 := HWn.out; have e : (p.ss[q]'HQ.out).ws.length = x.ws.length := congrArg (fun y : ST => y.ws.length) HX.out.symm; rw [e, ← h1]; omega)
        have hWx : WOwn w 0 x := by have := (HM.out.own.ways _ (List.getElem_mem HQ.out)).1; rw [HX.out]; exact this
        have hWx2 : w.ownsRow 0 46 2 (.slice wA wN wC) x.ws.length (flatW x.ws) := by have h2 := hWx; unfold WOwn SV.val at h2; rw [← HxW.out] at h2; exact h2
        obtain ⟨g2, hA2, -, -, hg2l, hc2, hf2⟩ := owns_at hWx2 (by have := HWn.out; omega)
        subst hA2
        have HA2 := hid (show (p.ss[q]'HQ.out).W.A = some ⟨g2, 0, none⟩ from (congrArg (fun y : ST => y.W.A) HX.out.symm).trans (by rw [← HxW.out]))
        have d1 := hc2 (j * 2 + 1) (.int .i64 ((x.ws.getD j ⟨0, 0⟩).to)) (by
          have hj : j < x.ws.length := by have := HWn.out; omega
          rw [flatW_get x.ws j 1 hj (by decide), List.getD_eq_getElem?_getD, List.getElem?_eq_getElem hj]
          rfl)
        have HC2 := hid (And.intro d1 hf2)
        have HG2 := hid hg2l
        clear hWx hWx2 hc2 hf2 hg2l d1 ha hin
        go_enter Tryd.func20, Tryd.ntmps20
        go_upto_region 1 with (go_at_call 32; (with_reducible refine HHa.out.mono ?_); rintro e w2 ⟨rfl, hb2⟩; have HM2 := hid (HM.out.below hb2); have HB2 := hid hb2; clear x0 x1 x2 x3 x4 hb2; obtain ⟨x0, x1, x2, x3, x4⟩ := HM2.out.box.five; rw [HA.out] at x0; have c8 := (World.cell?_of_block (w := w) (w' := w2) (a := ⟨g1, q * 265 + 8, none⟩) (HB2.out.block g1 HG.out)).trans HC.out.2.1; have d1 := (World.cell?_of_block (w := w) (w' := w2) (a := ⟨g2, j * 2 + 1, none⟩) (HB2.out.block g2 HG2.out)).trans HC2.out.1; have hf := froz_keep HB2.out HG2.out HC2.out.2)
        have HAm2 := hid (HAm.out w2)
        go_wp2_with (go_at_call 33; (with_reducible refine HAm2.out.mono ?_); rintro e w4 ⟨rfl, rfl⟩)
        go_end0
        rw [HRR.out]
        have hq := HQ.out
        obtain ⟨h1, h2⟩ := HM2.out.setW q HQ.out j HJ.out tt g2 HA2.out
        refine ⟨rfl, fun h => absurd h (by unfold amg; simp; omega), fun k hk e h => absurd h (by omega), fun k hk e i hi e2 => ?_, fun k hk e _ h => ?_, (Chg.of_below HB2.out O).trans h2⟩
        · obtain rfl : q = k := by omega
          obtain rfl : j = i := by omega
          exact h1
        · obtain rfl : q = k := by omega
          have hj := HJ.out
          exact absurd h (by unfold amg; simp; omega)
      · have ha : amg way wN = false := by unfold amg; simp; omega
        rw [ha] at HAm
        have HI := hid (show ¬ (0 ≤ way ∧ way < ((p.ss[q]'HQ.out).ws.length : Int)) from by have h1 := HWn.out; have e : (p.ss[q]'HQ.out).ws.length = x.ws.length := congrArg (fun y : ST => y.ws.length) HX.out.symm; rw [e, ← h1]; exact hin)
        clear hin ha
        go_enter Tryd.func20, Tryd.ntmps20
        go_upto_region 1 with (go_at_call 32; (with_reducible refine HHa.out.mono ?_); rintro e w2 ⟨rfl, hb2⟩; have HM2 := hid (HM.out.below hb2); have HB2 := hid hb2; clear x0 x1 x2 x3 x4 hb2; obtain ⟨x0, x1, x2, x3, x4⟩ := HM2.out.box.five; rw [HA.out] at x0; have c8 := (World.cell?_of_block (w := w) (w' := w2) (a := ⟨g1, q * 265 + 8, none⟩) (HB2.out.block g1 HG.out)).trans HC.out.2.1)
        have HAm2 := hid (HAm.out w2)
        go_wp2_with (go_at_call 33; (with_reducible refine HAm2.out.mono ?_); rintro e w4 ⟨rfl, rfl⟩)
        go_end0
        rw [HRR.out]
        have hq := HQ.out
        refine ⟨rfl, fun h => absurd h (by unfold amg; simp; omega), fun k hk e h => absurd h HMn.out, fun k hk e i hi e2 => ?_, fun k hk e _ h => HM2.out, Chg.of_below HB2.out O⟩
        obtain rfl : q = k := by omega
        exact absurd (show 0 ≤ way ∧ way < ((p.ss[q]'HQ.out).ws.length : Int) by omega) HI.out
  · have ha : amg step p.S.n = false := by unfold amg; rw [hn]; simp; omega
    rw [ha] at HHa
    have HI := hid hin
    clear hM hin ha hn hl hws
    go_enter Tryd.func20, Tryd.ntmps20
    go_wp2_with (go_at_call 32; (with_reducible refine HHa.out.mono ?_); rintro e w2 ⟨rfl, hb2⟩; have HB2 := hid hb2; clear x0 x1 x2 x3 x4 hb2)
    go_end0
    rw [HRR.out]
    refine ⟨rfl, fun _ => HM.out.below HB2.out, fun q hq e _ => absurd (show 0 ≤ step ∧ step < (p.ss.length : Int) by omega) HI.out, fun q hq e j _ _ => absurd (show 0 ≤ step ∧ step < (p.ss.length : Int) by omega) HI.out, fun q hq e _ _ => absurd (show 0 ≤ step ∧ step < (p.ss.length : Int) by omega) HI.out, Chg.of_below HB2.out O⟩
end Go.Proofs.YtpbkdokhlimpfaaDoor
