/- code: two clones beside each other, and what a law sets in them. -/
import Derived.Test.YtpbkdokhlimpfaaDoorCeL
namespace Go.Proofs.YtpbkdokhlimpfaaDoor
set_option linter.unusedSimpArgs false
set_option linter.unusedVariables false
open Go.RowKit

structure Ab (wb wr : World) (gA gB : Nat) (a b : PT) : Prop where
  ex : ∃ O1 O2, PO wr O1 a ∧ PO wr O2 b ∧ (∀ k, O1 k → wb.heap.size ≤ k ∧ ¬ (k = gA ∨ k = gB ∨ O2 k)) ∧ (∀ k, O2 k → wb.heap.size ≤ k ∧ ¬ (k = gA ∨ k = gB))
  boxA : BoxP wr gA a
  boxB : BoxP wr gB b
  bel : Below wb.heap.size wb wr
theorem Ab.swap {wb wr : World} {gA gB : Nat} {a b : PT} (h : Ab wb wr gA gB a b) : Ab wb wr gB gA b a := by
  obtain ⟨O1, O2, h1, h2, h3, h4⟩ := h.ex
  refine ⟨⟨O2, O1, h2, h1, fun k hk => ⟨(h4 k hk).1, ?_⟩, fun k hk => ⟨(h3 k hk).1, ?_⟩⟩, h.boxB, h.boxA, h.bel⟩
  · rintro (e | e | e)
    · exact (h4 k hk).2 (.inr e)
    · exact (h4 k hk).2 (.inl e)
    · exact (h3 k e).2 (.inr (.inr hk))
  · rintro (e | e)
    · exact (h3 k hk).2 (.inr (.inl e))
    · exact (h3 k hk).2 (.inl e)
theorem Ab.ownA {wb wr : World} {gA gB : Nat} {a b : PT} (h : Ab wb wr gA gB a b) : POwn wr 0 a := by
  obtain ⟨O1, O2, h1, h2, h3, h4⟩ := h.ex
  exact h1.own
theorem Ab.okA {wb wr : World} {gA gB : Nat} {a b : PT} (h : Ab wb wr gA gB a b) : PtOk wr (fun _ => True) a := by
  obtain ⟨O1, O2, h1, h2, h3, h4⟩ := h.ex
  exact h1.own.ok.mono (fun _ _ _ => rfl) (Nat.le_refl _) (fun _ _ _ => trivial)
theorem Ab.after {wb wr w' : World} {gA gB : Nat} {a b a' : PT} (h : Ab wb wr gA gB a b) (hs : ∀ O, PO wr O a → PO w' O a' ∧ Chg wr w' O) (hc : a'.cells = a.cells) : Ab wb w' gA gB a' b := by
  obtain ⟨O1, O2, h1, h2, h3, h4⟩ := h.ex
  obtain ⟨h5, h6⟩ := hs O1 h1
  refine ⟨⟨O1, O2, h5, h2.chg h6 (fun k hk hn => (h3 k hn).2 (.inr (.inr hk))), h3, h4⟩, ?_, Blk.chg h.boxB h6 (fun hn => (h3 _ hn).2 (.inr (.inl rfl))), Chg.below h.bel h6 h.bel.size (fun j hj => (h3 j hj).1)⟩
  have := Blk.chg h.boxA h6 (fun hn => (h3 _ hn).2 (.inl rfl))
  unfold BoxP at this ⊢
  rw [hc]
  exact this
theorem Ab.keep {wb wr w' : World} {gA gB : Nat} {a b : PT} (h : Ab wb wr gA gB a b) (hb : Below wr.heap.size wr w') : Ab wb w' gA gB a b := by
  obtain ⟨O1, O2, h1, h2, h3, h4⟩ := h.ex
  exact ⟨⟨O1, O2, h1.chg (Chg.of_below hb (fun _ => False)) (fun _ _ h => h), h2.chg (Chg.of_below hb (fun _ => False)) (fun _ _ h => h), h3, h4⟩, Blk.keep h.boxA hb, Blk.keep h.boxB hb, h.bel.trans (hb.mono h.bel.size)⟩
theorem Ab.new {wb w1 w2 wr : World} {base1 base2 gA gB : Nat} {a b : PT} (h1 : POwn w1 base1 a) (h2 : POwn w2 base2 b) (b1 : Below w1.heap.size w1 wr) (b2 : Below w2.heap.size w2 wr) (hs : w1.heap.size ≤ base2) (hb1 : wb.heap.size ≤ base1) (hb2 : wb.heap.size ≤ base2)
    (hA : gA < base1 ∨ w1.heap.size ≤ gA) (hA2 : gA < base2 ∨ w2.heap.size ≤ gA) (hB : gB < base1 ∨ w1.heap.size ≤ gB) (hB2 : gB < base2 ∨ w2.heap.size ≤ gB) (hx : BoxP wr gA a) (hy : BoxP wr gB b) (bel : Below wb.heap.size wb wr) : Ab wb wr gA gB a b := by
  refine ⟨⟨_, _, (PO.of h1).chg (Chg.of_below b1 (fun _ => False)) (fun _ _ h => h), (PO.of h2).chg (Chg.of_below b2 (fun _ => False)) (fun _ _ h => h), fun k hk => ⟨by omega, ?_⟩, fun k hk => ⟨by omega, ?_⟩⟩, hx, hy, bel⟩
  · omega
  · omega
section
variable {wb wr : World} {gA gB : Nat} {ss : List ST} {A : Option Addr} {n c : Nat} {sl su au : Int} {b : PT}
theorem Ab.aim (h : Ab wb wr gA gB ⟨ss, ⟨A, n, c⟩, sl, su, au⟩ b) {q : Nat} (hq : q < ss.length) (t : Int) : ∃ g1, A = some ⟨g1, 0, none⟩ ∧ (∃ v, wr.cell? ⟨g1, q * 265 + 1, none⟩ = some v) ∧ wr.frozen? ⟨g1, q * 265 + 1, none⟩ = false ∧ Ab wb (wr.setCell ⟨g1, q * 265 + 1, none⟩ (.int .i64 t)) gA gB ⟨ss.set q ((ss[q]).aimed t), ⟨A, n, c⟩, sl, su, au⟩ b := by
  obtain ⟨O1, O2, h1, -⟩ := h.ex
  obtain ⟨g1, hA, -, hc, hf⟩ := h1.at (q := q) hq
  refine ⟨g1, hA, ⟨_, hc 1 (.int .i64 (ss[q]).a) (by decide) rfl⟩, hf _, h.after (fun O hO => ?_) rfl⟩
  exact hO.setS q hq 1 (by decide) (.int .i64 t) ((ss[q]).aimed t) (aimed_cells _ _) rfl rfl (hO.own.ways _ (List.getElem_mem hq)).2 g1 hA
theorem Ab.els (h : Ab wb wr gA gB ⟨ss, ⟨A, n, c⟩, sl, su, au⟩ b) {q : Nat} (hq : q < ss.length) (t : Int) : ∃ g1, A = some ⟨g1, 0, none⟩ ∧ (∃ v, wr.cell? ⟨g1, q * 265 + 2, none⟩ = some v) ∧ wr.frozen? ⟨g1, q * 265 + 2, none⟩ = false ∧ Ab wb (wr.setCell ⟨g1, q * 265 + 2, none⟩ (.int .i64 t)) gA gB ⟨ss.set q ((ss[q]).elsed t), ⟨A, n, c⟩, sl, su, au⟩ b := by
  obtain ⟨O1, O2, h1, -⟩ := h.ex
  obtain ⟨g1, hA, -, hc, hf⟩ := h1.at (q := q) hq
  refine ⟨g1, hA, ⟨_, hc 2 (.int .i64 (ss[q]).b) (by decide) rfl⟩, hf _, h.after (fun O hO => ?_) rfl⟩
  exact hO.setS q hq 2 (by decide) (.int .i64 t) ((ss[q]).elsed t) (elsed_cells _ _) rfl rfl (hO.own.ways _ (List.getElem_mem hq)).2 g1 hA
theorem Ab.c8 (h : Ab wb wr gA gB ⟨ss, ⟨A, n, c⟩, sl, su, au⟩ b) {q : Nat} (hq : q < ss.length) : ∃ g1, A = some ⟨g1, 0, none⟩ ∧ wr.cell? ⟨g1, q * 265 + 8, none⟩ = some (.slice (ss[q]).W.A (ss[q]).W.n (ss[q]).W.c) ∧ (ss[q]).W.n = (ss[q]).ws.length := by
  obtain ⟨O1, O2, h1, -⟩ := h.ex
  obtain ⟨g1, hA, -, hc, hf⟩ := h1.at (q := q) hq
  exact ⟨g1, hA, hc 8 _ (by decide) rfl, owns_n (h1.own.ways _ (List.getElem_mem hq)).1⟩
theorem Ab.turn (h : Ab wb wr gA gB ⟨ss, ⟨A, n, c⟩, sl, su, au⟩ b) {q : Nat} (hq : q < ss.length) {j : Nat} (hj : j < (ss[q]).ws.length) (t : Int) : ∃ g2, (ss[q]).W.A = some ⟨g2, 0, none⟩ ∧ (∃ v, wr.cell? ⟨g2, j * 2 + 1, none⟩ = some v) ∧ wr.frozen? ⟨g2, j * 2 + 1, none⟩ = false ∧ Ab wb (wr.setCell ⟨g2, j * 2 + 1, none⟩ (.int .i64 t)) gA gB ⟨ss.set q ((ss[q]).turned j t), ⟨A, n, c⟩, sl, su, au⟩ b := by
  obtain ⟨O1, O2, h1, -⟩ := h.ex
  have hw := (h1.own.ways _ (show ss[q] ∈ ss from List.getElem_mem hq)).1
  unfold WOwn SV.val at hw
  obtain ⟨g2, hA, -, -, -, hc, hf⟩ := owns_at hw (by omega)
  refine ⟨g2, hA, ⟨_, hc (j * 2 + 1) (.int .i64 ((ss[q]).ws[j]).to) ?_⟩, hf _, h.after (fun O hO => ?_) rfl⟩
  · rw [flatW_get _ _ 1 hj (by decide)]
    rfl
  · exact hO.setW q hq j hj t g2 hA
end
end Go.Proofs.YtpbkdokhlimpfaaDoor
