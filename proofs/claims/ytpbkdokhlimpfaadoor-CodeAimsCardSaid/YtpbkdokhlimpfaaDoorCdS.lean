/- code: the Maker's Aim and Turn. -/
import Derived.Test.YtpbkdokhlimpfaaDoorCdQ
import Derived.Test.YtpbkdokhlimpfaaDoorCdD
namespace Go.Proofs.YtpbkdokhlimpfaaDoor
set_option linter.unusedSimpArgs false
set_option linter.unusedVariables false
open Go.RowKit

theorem apart_map {l m : List ST} (h : l.map ST.W = m.map ST.W) (hl : l.Pairwise apart) : m.Pairwise apart := by
  have h1 : (l.map ST.W).Pairwise (fun s t : SV => ∀ b, s.val.ownBlock = some b → t.val.ownBlock ≠ some b) := List.pairwise_map.2 hl
  rw [h] at h1
  have h2 := List.pairwise_map.1 h1
  exact h2
theorem map_set_same {α β : Type} (f : α → β) (l : List α) (q : Nat) (hq : q < l.length) (y : α) (h : f y = f l[q]) : l.map f = (l.set q y).map f := by
  rw [List.map_set, h]
  apply List.ext_getElem?
  intro j
  rw [List.getElem?_set]
  split
  · rename_i hj
    subst hj
    rw [if_pos (by simpa using hq), List.getElem?_map, List.getElem?_eq_getElem hq]
    rfl
  · rfl
/-- One cell of one step is another one. -/
theorem MkOk.setS {w : World} {O : Nat → Prop} {g : Nat} {p : PT} {ov : Bool} (h : MkOk w O g p ov) (q : Nat) (hq : q < p.ss.length) (i : Nat) (hi : i < 265) (u : Value) (y : ST) (hy : y.cells = (p.ss[q]).cells.set i u) (hW : y.W = (p.ss[q]).W) (hws : y.ws = (p.ss[q]).ws) (hbs : y.bs.length = 256)
    (g1 : Nat) (hA : p.S.A = some ⟨g1, 0, none⟩) : MkOk (w.setCell ⟨g1, q * 265 + i, none⟩ u) O g ⟨p.ss.set q y, p.S, p.sl, p.su, p.au⟩ ov ∧ Chg w (w.setCell ⟨g1, q * 265 + i, none⟩ u) O := by
  obtain ⟨ss, ⟨A, n, c⟩, sl, su, au⟩ := p
  simp only at hA hq hy hW hws
  subst hA
  have hrow : w.ownsRow 0 37 265 (.slice (some ⟨g1, 0, none⟩) n c) ss.length (flatS ss) := h.own.row
  have hO : O g1 := h.os g1 rfl
  have hl : ∀ x ∈ ss, x.cells.length = 265 := fun x hx => st_len (h.own.ways x hx).2
  have hwo : ∀ x ∈ ss, WOwn (w.setCell ⟨g1, q * 265 + i, none⟩ u) 0 x := fun x hx => owns_mono (h.own.ways x hx).1 (fun b hh => Below.heap_setCell w _ _ b (fun e => by
    simp only at e
    subst e
    exact owns_apart hrow (h.own.ways x hx).1 (by decide) b rfl hh))
  have hm : ∀ x ∈ ss.set q y, x ∈ ss ∨ x = y := fun x hx => List.mem_or_eq_of_mem_set hx
  have hxq : ss[q] ∈ ss := List.getElem_mem hq
  have hwy : WOwn (w.setCell ⟨g1, q * 265 + i, none⟩ u) 0 y := by
    have := hwo _ hxq
    unfold WOwn at this ⊢
    rw [hW, hws]
    exact this
  refine ⟨⟨Blk.other h.box (fun e => ?_) u, h.og, ⟨?_, fun x hx => ?_, ?_⟩, h.os, fun x hx b hh => ?_⟩, (Chg.refl w O).set g1 _ hO u⟩
  · simp only at e
    subst e
    exact h.box.not_row hrow (by decide) rfl
  · have := owns_set hrow (q * 265 + i) u
    rw [flatS_set ss hl q i u y hq hi hy] at this
    show (w.setCell _ _).ownsRow 0 _ 265 _ (ss.set q y).length (flatS (ss.set q y))
    rw [List.length_set]
    exact this
  · rcases hm x hx with hx | rfl
    · exact ⟨hwo x hx, (h.own.ways x hx).2⟩
    · exact ⟨hwy, hbs⟩
  · exact apart_map (map_set_same ST.W ss q hq y hW) h.own.ne
  · rcases hm x hx with hx | rfl
    · exact h.ow x hx b hh
    · exact h.ow _ hxq b (by rw [← hW]; exact hh)
theorem flatW_set : ∀ (l : List WT) (j : Nat) (t : Int) (h : j < l.length), (flatW l).set (j * 2 + 1) (.int .i64 t) = flatW (l.set j ⟨(l[j]).val, t⟩)
  | [], j, t, h => by simp at h
  | x :: l, 0, t, h => rfl
  | x :: l, j + 1, t, h => by
    have := flatW_set l j t (by simpa using h)
    unfold flatW at this ⊢
    rw [List.set_cons_succ, List.flatMap_cons, List.flatMap_cons, List.set_append_right _ _ (by show 2 ≤ (j + 1) * 2 + 1; omega)]
    rw [show (j + 1) * 2 + 1 - x.cells.length = j * 2 + 1 by show (j + 1) * 2 + 1 - 2 = j * 2 + 1; omega, this]
    rfl
/-- A step one of whose ways leads elsewhere. -/
def ST.turned (x : ST) (j : Nat) (t : Int) : ST := { x with ws := x.ws.set j ⟨(x.ws.getD j ⟨0, 0⟩).val, t⟩ }
/-- One way of one step leads elsewhere. -/
theorem MkOk.setW {w : World} {O : Nat → Prop} {g : Nat} {p : PT} {ov : Bool} (h : MkOk w O g p ov) (q : Nat) (hq : q < p.ss.length) (j : Nat) (hj : j < (p.ss[q]).ws.length) (t : Int) (g2 : Nat) (hA : (p.ss[q]).W.A = some ⟨g2, 0, none⟩) :
    MkOk (w.setCell ⟨g2, j * 2 + 1, none⟩ (.int .i64 t)) O g ⟨p.ss.set q ((p.ss[q]).turned j t), p.S, p.sl, p.su, p.au⟩ ov ∧ Chg w (w.setCell ⟨g2, j * 2 + 1, none⟩ (.int .i64 t)) O := by
  obtain ⟨ss, S, sl, su, au⟩ := p
  simp only at hA hq hj
  have hxq : ss[q] ∈ ss := List.getElem_mem hq
  obtain ⟨x, hx⟩ : ∃ x, x = ss[q] := ⟨_, rfl⟩
  have hwx : WOwn w 0 x := by rw [hx]; exact (h.own.ways _ hxq).1
  have hown : x.W.val.ownBlock = some g2 := by rw [hx]; unfold SV.val; rw [hA]; rfl
  have hO : O g2 := h.ow _ hxq g2 (by rw [← hx]; exact hown)
  have hcell : (x.turned j t).cells = x.cells := rfl
  have hflat : flatS (ss.set q (x.turned j t)) = flatS ss := by
    unfold flatS
    rw [List.flatMap_def, List.flatMap_def, ← map_set_same ST.cells ss q hq (x.turned j t) (by rw [hcell, hx])]
  have hwy : WOwn (w.setCell ⟨g2, j * 2 + 1, none⟩ (.int .i64 t)) 0 (x.turned j t) := by
    have hwx2 := hwx
    unfold WOwn SV.val at hwx2
    rw [show x.W.A = some ⟨g2, 0, none⟩ from by rw [hx]; exact hA] at hwx2
    have := owns_set hwx2 (j * 2 + 1) (.int .i64 t)
    rw [flatW_set x.ws j t (by rw [hx]; exact hj)] at this
    unfold WOwn SV.val
    show (w.setCell _ _).ownsRow 0 _ 2 (.slice x.W.A x.W.n x.W.c) (x.ws.set j _).length (flatW (x.ws.set j _))
    rw [List.length_set, show x.W.A = some ⟨g2, 0, none⟩ from by rw [hx]; exact hA, show (x.ws.getD j ⟨0, 0⟩).val = (x.ws[j]'(by rw [hx]; exact hj)).val from by rw [List.getD_eq_getElem?_getD, List.getElem?_eq_getElem (by rw [hx]; exact hj)]; rfl]
    exact this
  have hwo : ∀ k (hk : k < ss.length), k ≠ q → WOwn (w.setCell ⟨g2, j * 2 + 1, none⟩ (.int .i64 t)) 0 ss[k] := fun k hk hne => owns_mono (h.own.ways _ (List.getElem_mem hk)).1 (fun b hh => Below.heap_setCell w _ _ b (fun e => by
    simp only at e
    subst e
    have hp := List.pairwise_iff_getElem.1 h.own.ne
    rcases Nat.lt_or_gt_of_ne hne with hlt | hlt
    · exact hp k q hk hq hlt b hh (by show (ss[q]).W.val.ownBlock = some b; rw [← hx]; exact hown)
    · exact hp q k hq hk hlt b (by show (ss[q]).W.val.ownBlock = some b; rw [← hx]; exact hown) hh))
  rw [← hx]
  refine ⟨⟨Blk.other h.box (fun e => ?_) _, h.og, ⟨?_, fun y hy => ?_, ?_⟩, h.os, fun y hy b hh => ?_⟩, (Chg.refl w O).set g2 _ hO _⟩
  · simp only at e
    subst e
    exact h.box.not_row hwx (by decide) hown
  · show (w.setCell _ _).ownsRow 0 _ 265 S.val (ss.set q (x.turned j t)).length (flatS (ss.set q (x.turned j t)))
    rw [List.length_set, hflat]
    exact owns_mono h.own.row (fun b hh => Below.heap_setCell w _ _ b (fun e => by
      simp only at e
      subst e
      exact owns_apart h.own.row hwx (by decide) b hh hown))
  · obtain ⟨k, hk, hke⟩ := List.mem_iff_getElem.1 hy
    rw [List.getElem_set] at hke
    replace hk : k < ss.length := by simpa using hk
    split at hke
    · subst hke
      exact ⟨hwy, by show x.bs.length = 256; rw [hx]; exact (h.own.ways _ hxq).2⟩
    · rename_i hne
      subst hke
      exact ⟨hwo k hk (fun e => hne e.symm), (h.own.ways _ (List.getElem_mem hk)).2⟩
  · exact apart_map (map_set_same ST.W ss q hq (x.turned j t) (by show x.W = _; rw [hx])) h.own.ne
  · rcases List.mem_or_eq_of_mem_set hy with hy | rfl
    · exact h.ow y hy b hh
    · exact h.ow _ hxq b (by rw [← hx]; exact hh)
end Go.Proofs.YtpbkdokhlimpfaaDoor
