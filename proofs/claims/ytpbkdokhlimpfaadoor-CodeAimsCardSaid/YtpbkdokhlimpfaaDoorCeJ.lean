/- code: a program that was handed out, and is spoilt step by step. -/
import Derived.Test.YtpbkdokhlimpfaaDoorCeI
namespace Go.Proofs.YtpbkdokhlimpfaaDoor
set_option linter.unusedSimpArgs false
set_option linter.unusedVariables false
open Go.RowKit

/-- A program of one's own above a world, in its box. -/
structure QS (wb wr : World) (gq : Nat) (p : PT) (qA : Option Addr) (qc : Nat) (ss : List ST) : Prop where
  bel : Below wb.heap.size wb wr
  own : POwn wr wb.heap.size ⟨ss, ⟨qA, p.S.n, qc⟩, p.sl, p.su, p.au⟩
  box : BoxP wr gq ⟨ss, ⟨qA, p.S.n, qc⟩, p.sl, p.su, p.au⟩
  len : ss.length = p.S.n
  wl : ∀ x ∈ ss, x.ws.length ≤ 1000000
theorem QS.A {wb wr : World} {gq : Nat} {p : PT} {qA : Option Addr} {qc : Nat} {ss : List ST} (h : QS wb wr gq p qA qc ss) (hn : 0 < p.S.n) : ∃ g1, qA = some ⟨g1, 0, none⟩ := by
  obtain ⟨g1, h1, -⟩ := owns_at h.own.row (by show 0 < ss.length; rw [h.len]; exact hn)
  exact ⟨g1, h1⟩
theorem QS.c0 {wb wr : World} {gq : Nat} {p : PT} {qA : Option Addr} {qc : Nat} {ss : List ST} (h : QS wb wr gq p qA qc ss) : wr.cell? ⟨gq, 0, none⟩ = some (.slice qA p.S.n qc) := (BoxP.four (p := ⟨ss, ⟨qA, p.S.n, qc⟩, p.sl, p.su, p.au⟩) h.box).1
theorem QS.c8 {wb wr : World} {gq g1 : Nat} {p : PT} {qc : Nat} {ss : List ST} (h : QS wb wr gq p (some ⟨g1, 0, none⟩) qc ss) {q : Nat} {x : ST} (hx : ss[q]? = some x) : wr.cell? ⟨g1, q * 265 + 8, none⟩ = some (.slice x.W.A x.W.n x.W.c) := by
  obtain ⟨hq, rfl⟩ := List.getElem?_eq_some_iff.1 hx
  obtain ⟨b, o, hA, _, _, hAt⟩ := h.own.ok.at (j := q) (show q < ss.length from hq)
  have hA : (some ⟨g1, 0, none⟩ : Option Addr) = some ⟨b, o, none⟩ := hA
  injection hA with hA
  injection hA with e1 e2
  subst e1 e2
  have := hAt.low.c8
  rw [Nat.zero_add] at this
  exact this
theorem QS.wn {wb wr : World} {gq : Nat} {p : PT} {qA : Option Addr} {qc : Nat} {ss : List ST} (h : QS wb wr gq p qA qc ss) {q : Nat} {x : ST} (hx : ss[q]? = some x) : x.W.n = x.ws.length :=
  owns_n (h.own.ways x (List.mem_of_getElem? hx)).1
theorem QS.way {wb wr : World} {gq : Nat} {p : PT} {qA : Option Addr} {qc : Nat} {ss : List ST} (h : QS wb wr gq p qA qc ss) {q j : Nat} {x : ST} (hx : ss[q]? = some x) (hj : j < x.ws.length) :
    ∃ g2, x.W.A = some ⟨g2, 0, none⟩ ∧ (∃ v, wr.cell? ⟨g2, j * 2 + 1, none⟩ = some v) ∧ wr.frozen? ⟨g2, j * 2 + 1, none⟩ = false ∧ QS wb (wr.setCell ⟨g2, j * 2 + 1, none⟩ (.int .i64 (-1))) gq p qA qc (ss.set q (x.turned j (-1))) := by
  obtain ⟨hq, rfl⟩ := List.getElem?_eq_some_iff.1 hx
  have hw := (h.own.ways _ (show ss[q] ∈ ss from List.getElem_mem hq)).1
  unfold WOwn SV.val at hw
  obtain ⟨g2, hA, -, -, -, hc, hf⟩ := owns_at hw (by omega)
  obtain ⟨ht, hb⟩ := h.own.turn q hq j hj (-1) g2 hA
  refine ⟨g2, hA, ⟨_, hc (j * 2 + 1) (.int .i64 ((ss[q]).ws[j]).to) ?_⟩, hf _, ⟨h.bel.setCell hb _, ht, Blk.other h.box (fun e => ?_) _, by rw [List.length_set]; exact h.len, fun y hy => ?_⟩⟩
  · rw [flatW_get _ _ 1 hj (by decide)]
    rfl
  · simp only at e
    rcases hw.2 with ⟨hv, _⟩ | ⟨g', cap, cur, hv, _, hg, _⟩
    · rw [hA] at hv
      cases hv
    · rw [hA] at hv
      injection hv with e1
      injection e1 with e1
      injection e1 with e1
      subst e1
      have h1 := h.box
      unfold BoxP Blk at h1
      rw [e, hg] at h1
      injection h1 with h1
      injection h1 with _ h1
      revert h1
      decide
  · rcases List.mem_or_eq_of_mem_set hy with hy | rfl
    · exact h.wl y hy
    · show ((ss[q]).ws.set j _).length ≤ 1000000
      rw [List.length_set]
      exact h.wl _ (List.getElem_mem hq)
end Go.Proofs.YtpbkdokhlimpfaaDoor
