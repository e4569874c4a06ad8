/- code: a maker of a program's steps, for the laws. -/
import Derived.Test.YtpbkdokhlimpfaaDoorCeG
namespace Go.Proofs.YtpbkdokhlimpfaaDoor
set_option linter.unusedSimpArgs false
set_option linter.unusedVariables false
open Go.RowKit

/-- A maker that has the first so many steps of a program; the program's box. -/
structure MkQ (w wr : World) (gb g : Nat) (p : PT) (q : Nat) (a b c : Int) : Prop where
  mq : ∃ ss S, MkB w wr (· = gb) g ⟨ss, S, a, b, c⟩ ∧ ss.map ST.bare = (p.ss.take q).map ST.bare
  box : BoxP wr gb p
theorem MkQ.bel {w wr : World} {gb g : Nat} {p : PT} {q : Nat} {a b c : Int} (h : MkQ w wr gb g p q a b c) : Below w.heap.size w wr := by
  obtain ⟨ss, S, hM, _⟩ := h.mq
  exact hM.bel
theorem MkQ.keep {w wr w' : World} {gb g : Nat} {p : PT} {q : Nat} {a b c : Int} (h : MkQ w wr gb g p q a b c) (hb : Below wr.heap.size wr w') : MkQ w w' gb g p q a b c := by
  obtain ⟨ss, S, hM, he⟩ := h.mq
  exact ⟨⟨ss, S, hM.keep hb, he⟩, Blk.keep h.box hb⟩
theorem MkQ.hk {w wr : World} {gb g : Nat} {p : PT} {q : Nat} {a b c : Int} (h : MkQ w wr gb g p q a b c) : ∀ k, (· = gb) k → k < wr.heap.size := fun k hk => by
  have := Blk.lt h.box
  have hk : k = gb := hk
  omega
theorem MkQ.boxc {w' wr : World} {gb : Nat} {p : PT} (h : BoxP wr gb p) (hc : Chg wr w' (fun k => ¬ k = gb)) : BoxP w' gb p := Blk.chg h hc (fun hn => hn rfl)
theorem Here_q {w wr : World} {gb g : Nat} {p : PT} {q : Nat} {a b c : Int} (h : MkQ w wr gb g p q a b c) (hq : q ≤ p.ss.length) : Calls Tryd.prog 11 #[.pointer (some ⟨g, 0, none⟩)] wr fun e w' => e = .returned (.int .i64 q) ∧ w' = wr := by
  obtain ⟨ss, S, hM, he⟩ := h.mq
  have hl : ss.length = q := by
    have := congrArg List.length he
    rw [List.length_map, List.length_map, List.length_take] at this
    omega
  have := Here_b hM
  rw [show (PT.ss ⟨ss, S, a, b, c⟩).length = q from hl] at this
  exact this
theorem Add_q {w wr : World} {gb g : Nat} {p : PT} {q : Nat} {a b c : Int} (h : MkQ w wr gb g p q a b c) {x : ST} (hx : p.ss[q]? = some x) {P : Nat → Prop} (hs : StOk wr P x) (hl : q < 65536) (hw : x.ws.length ≤ 1000000) : Calls Tryd.prog 12 #[.pointer (some ⟨g, 0, none⟩), x.val] wr fun e w' => e = .returned (.int .i64 q) ∧ MkQ w w' gb g p (q + 1) a b c := by
  obtain ⟨ss, S, hM, he⟩ := h.mq
  have hq := (List.getElem?_eq_some_iff.1 hx).1
  have hl2 : ss.length = q := by
    have := congrArg List.length he
    rw [List.length_map, List.length_map, List.length_take] at this
    omega
  have hA := Add_b hM h.hk x hs (by show ss.length < 65536; omega) hw
  rw [show (PT.ss ⟨ss, S, a, b, c⟩).length = q from hl2] at hA
  refine hA.mono ?_
  rintro e w' ⟨rfl, ⟨s', S', h2⟩, hc⟩
  refine ⟨rfl, ⟨ss ++ [x.moved s'], S', h2, ?_⟩, MkQ.boxc h.box hc⟩
  rw [List.map_append, he, List.take_succ_eq_append_getElem hq, List.map_append, (List.getElem?_eq_some_iff.1 hx).2]
  rfl
theorem Slot_q {w wr : World} {gb g : Nat} {p : PT} {q : Nat} {a b c : Int} (h : MkQ w wr gb g p q a b c) (h0 : 0 ≤ a) (h1 : a ≤ 1000000) : Calls Tryd.prog 13 #[.pointer (some ⟨g, 0, none⟩)] wr fun e w' => e = .returned (.int .i64 a) ∧ MkQ w w' gb g p q (a + 1) b c := by
  obtain ⟨ss, S, hM, he⟩ := h.mq
  refine (Slot_b hM h.hk h0 h1).mono ?_
  rintro e w' ⟨rfl, h2, hc⟩
  exact ⟨rfl, ⟨ss, S, h2, he⟩, MkQ.boxc h.box hc⟩
theorem Sum_q {w wr : World} {gb g : Nat} {p : PT} {q : Nat} {a b c : Int} (h : MkQ w wr gb g p q a b c) (h0 : 0 ≤ b) (h1 : b ≤ 1000000) : Calls Tryd.prog 14 #[.pointer (some ⟨g, 0, none⟩)] wr fun e w' => e = .returned (.int .i64 b) ∧ MkQ w w' gb g p q a (b + 1) c := by
  obtain ⟨ss, S, hM, he⟩ := h.mq
  refine (Sum_b hM h.hk h0 h1).mono ?_
  rintro e w' ⟨rfl, h2, hc⟩
  exact ⟨rfl, ⟨ss, S, h2, he⟩, MkQ.boxc h.box hc⟩
theorem Auto_q {w wr : World} {gb g : Nat} {p : PT} {q : Nat} {a b c : Int} (h : MkQ w wr gb g p q a b c) (h0 : 0 ≤ c) (h1 : c ≤ 1000000) : Calls Tryd.prog 15 #[.pointer (some ⟨g, 0, none⟩)] wr fun e w' => e = .returned (.int .i64 c) ∧ MkQ w w' gb g p q a b (c + 1) := by
  obtain ⟨ss, S, hM, he⟩ := h.mq
  refine (Auto_b hM h.hk h0 h1).mono ?_
  rintro e w' ⟨rfl, h2, hc⟩
  exact ⟨rfl, ⟨ss, S, h2, he⟩, MkQ.boxc h.box hc⟩
theorem ProgR.bare {w : World} {p q : PT} (h : p.bare = q.bare) {e : Ending} {w' : World} (hr : ProgR w p e w') : ProgR w q e w' := by
  unfold ProgR at hr ⊢
  rw [ck_bare h] at hr
  exact ⟨hr.1, hr.2.1, fun h0 => by
    obtain ⟨r, h1, h2, h3⟩ := hr.2.2 h0
    exact ⟨r, h1, h2.trans h, h3⟩⟩
theorem ws_bare {l m : List ST} (h : l.map ST.bare = m.map ST.bare) {k : Nat} (hm : ∀ x ∈ m, x.ws.length ≤ k) : ∀ x ∈ l, x.ws.length ≤ k := by
  intro x hx
  have h1 : x.bare ∈ m.map ST.bare := by rw [← h]; exact List.mem_map_of_mem hx
  obtain ⟨y, hy, he⟩ := List.mem_map.1 h1
  have hb : y.ws = x.ws := show y.bare.ws = x.bare.ws by rw [he]
  rw [← hb]
  exact hm y hy
theorem Program_q {w wr : World} {gb g : Nat} {p : PT} (h : MkQ w wr gb g p p.ss.length p.sl p.su p.au) (hl : p.ss.length ≤ 1000000) (hws : ∀ x ∈ p.ss, x.ws.length ≤ 1000000) : Calls Tryd.prog 16 #[.pointer (some ⟨g, 0, none⟩)] wr (ProgR wr p) := by
  obtain ⟨ss, S, hM, he⟩ := h.mq
  rw [List.take_length] at he
  have hlen : ss.length = p.ss.length := by have := congrArg List.length he; simpa using this
  refine (Program_b hM (by show ss.length ≤ 1000000; omega) (fun x hx => ws_bare he hws x hx)).mono fun e w' hr => hr.bare ?_
  unfold PT.bare
  simp only [PT.mk.injEq, and_true]
  exact he
/-- One way of one step of one's own leads elsewhere. -/
theorem POwn.turn {w : World} {base : Nat} {ss : List ST} {S : SV} {sl su au : Int} (h : POwn w base ⟨ss, S, sl, su, au⟩) (q : Nat) (hq : q < ss.length) (j : Nat) (hj : j < (ss[q]).ws.length) (t : Int) (g2 : Nat) (hA : (ss[q]).W.A = some ⟨g2, 0, none⟩) :
    POwn (w.setCell ⟨g2, j * 2 + 1, none⟩ (.int .i64 t)) base ⟨ss.set q ((ss[q]).turned j t), S, sl, su, au⟩ ∧ base ≤ g2 := by
  have hxq : ss[q] ∈ ss := List.getElem_mem hq
  obtain ⟨x, hx⟩ : ∃ x, x = ss[q] := ⟨_, rfl⟩
  have hwx : WOwn w base x := by rw [hx]; exact (h.ways _ hxq).1
  have hown : x.W.val.ownBlock = some g2 := by rw [hx]; unfold SV.val; rw [hA]; rfl
  have hcell : (x.turned j t).cells = x.cells := rfl
  have hflat : flatS (ss.set q (x.turned j t)) = flatS ss := by
    unfold flatS
    rw [List.flatMap_def, List.flatMap_def, ← map_set_same ST.cells ss q hq (x.turned j t) (by rw [hcell, hx])]
  have hwy : WOwn (w.setCell ⟨g2, j * 2 + 1, none⟩ (.int .i64 t)) base (x.turned j t) := by
    have hwx2 := hwx
    unfold WOwn SV.val at hwx2
    rw [show x.W.A = some ⟨g2, 0, none⟩ from by rw [hx]; exact hA] at hwx2
    have := owns_set hwx2 (j * 2 + 1) (.int .i64 t)
    rw [flatW_set x.ws j t (by rw [hx]; exact hj)] at this
    unfold WOwn SV.val
    show (w.setCell _ _).ownsRow base _ 2 (.slice x.W.A x.W.n x.W.c) (x.ws.set j _).length (flatW (x.ws.set j _))
    rw [List.length_set, show x.W.A = some ⟨g2, 0, none⟩ from by rw [hx]; exact hA, show (x.ws.getD j ⟨0, 0⟩).val = (x.ws[j]'(by rw [hx]; exact hj)).val from by rw [List.getD_eq_getElem?_getD, List.getElem?_eq_getElem (by rw [hx]; exact hj)]; rfl]
    exact this
  have hwo : ∀ k (hk : k < ss.length), k ≠ q → WOwn (w.setCell ⟨g2, j * 2 + 1, none⟩ (.int .i64 t)) base ss[k] := fun k hk hne => owns_mono (h.ways _ (List.getElem_mem hk)).1 (fun b hh => Below.heap_setCell w _ _ b (fun e => by
    simp only at e
    subst e
    have hp := List.pairwise_iff_getElem.1 h.ne
    rcases Nat.lt_or_gt_of_ne hne with hlt | hlt
    · exact hp k q hk hq hlt b hh (by show (ss[q]).W.val.ownBlock = some b; rw [← hx]; exact hown)
    · exact hp q k hq hk hlt b (by show (ss[q]).W.val.ownBlock = some b; rw [← hx]; exact hown) hh))
  rw [← hx]
  refine ⟨⟨?_, fun y hy => ?_, ?_⟩, (owns_block hwx g2 hown).1⟩
  · show (w.setCell _ _).ownsRow base _ 265 S.val (ss.set q (x.turned j t)).length (flatS (ss.set q (x.turned j t)))
    rw [List.length_set, hflat]
    exact owns_mono h.row (fun b hh => Below.heap_setCell w _ _ b (fun e => by
      simp only at e
      subst e
      exact owns_apart h.row hwx (by decide) b hh hown))
  · obtain ⟨k, hk, hke⟩ := List.mem_iff_getElem.1 hy
    rw [List.getElem_set] at hke
    replace hk : k < ss.length := by simpa using hk
    split at hke
    · subst hke
      exact ⟨hwy, by show x.bs.length = 256; rw [hx]; exact (h.ways _ hxq).2⟩
    · rename_i hne
      subst hke
      exact ⟨hwo k hk (fun e => hne e.symm), (h.ways _ (List.getElem_mem hk)).2⟩
  · exact apart_map (map_set_same ST.W ss q hq (x.turned j t) (by show x.W = _; rw [hx])) h.ne
end Go.Proofs.YtpbkdokhlimpfaaDoor
