/- code: Clone. -/
import Derived.Test.YtpbkdokhlimpfaaDoorCdL
namespace Go.Proofs.YtpbkdokhlimpfaaDoor
set_option linter.unusedSimpArgs false
set_option linter.unusedVariables false
open Go.RowKit

theorem owns_set {w : World} {base g : Nat} {e : TypeId} {size n c m : Nat} {xs : List Value} (h : w.ownsRow base e size (.slice (some ⟨g, 0, none⟩) n c) m xs) (i : Nat) (u : Value) : (w.setCell ⟨g, i, none⟩ u).ownsRow base e size (.slice (some ⟨g, 0, none⟩) n c) m (xs.set i u) := by
  refine ⟨by rw [List.length_set]; exact h.1, ?_⟩
  rcases h.2 with ⟨hv, hm⟩ | ⟨g', cap, cur, hv, hb, hg, h1, h2, h3, h4⟩
  · cases hv
  · injection hv with e1 e2 e3
    injection e1 with e1
    injection e1 with e1
    subst e1
    have hk : Blk w g e cur.toList := by unfold Blk; simpa using hg
    have hk2 := hk.put i u
    unfold Blk at hk2
    exact .inr ⟨g, cap, (cur.toList.set i u).toArray, by rw [e2, e3], hb, hk2, h1, h2, by simpa using h3, by rw [← h4]; simp [List.take_set]⟩
theorem owns_apart {w : World} {b1 b2 : Nat} {t e : TypeId} {s1 s2 : Nat} {v u : Value} {n m : Nat} {xs ys : List Value} (h : w.ownsRow b1 e s1 v n xs) (k : w.ownsRow b2 t s2 u m ys) (hne : e ≠ t) : ∀ b, v.ownBlock = some b → u.ownBlock ≠ some b := by
  intro b hb hc
  rcases h.2 with ⟨rfl, _⟩ | ⟨g, cap, cur, rfl, _, hg, _⟩
  · cases hb
  rcases k.2 with ⟨rfl, _⟩ | ⟨g', cap', cur', rfl, _, hg', _⟩
  · cases hc
  have e1 : g = b := by simpa [Value.ownBlock] using hb
  have e2 : g' = b := by simpa [Value.ownBlock] using hc
  subst e1
  subst e2
  rw [hg] at hg'
  injection hg' with hh
  injection hh with _ ht
  exact hne ht
theorem owns_at {w : World} {base : Nat} {e : TypeId} {size n c m : Nat} {A : Option Addr} {xs : List Value} (h : w.ownsRow base e size (.slice A n c) m xs) (hm : 0 < m) : ∃ g, A = some ⟨g, 0, none⟩ ∧ n = m ∧ base ≤ g ∧ g < w.heap.size ∧ (∀ j v, xs[j]? = some v → w.cell? ⟨g, j, none⟩ = some v) ∧ ∀ j, w.frozen? ⟨g, j, none⟩ = false := by
  have hn := owns_n h
  rcases h.2 with ⟨hv, h0⟩ | ⟨g', cap, cur, hv, hb, hg, h1, h2, h3, h4⟩
  · omega
  · have hv0 := hv
    injection hv with e1 e2 e3
    subst e1
    refine ⟨g', rfl, hn, hb, (Array.getElem?_eq_some_iff.1 hg).1, fun j v hj => ?_, fun j => Blk.free (t := e) (cs := cur.toList) (by unfold Blk; simpa using hg) j⟩
    have := h.cells (g := g') rfl j v hj
    rw [addr_add, Nat.zero_add] at this
    exact this
theorem flatS_set : ∀ (l : List ST), (∀ x ∈ l, x.cells.length = 265) → ∀ (j i : Nat) (u : Value) (y : ST) (h : j < l.length), i < 265 → y.cells = (l[j]).cells.set i u → (flatS l).set (j * 265 + i) u = flatS (l.set j y)
  | [], _, j, i, u, y, h, _, _ => by simp at h
  | x :: l, hl, 0, i, u, y, h, hi, hy => by
    unfold flatS
    rw [List.set_cons_zero, List.flatMap_cons, List.flatMap_cons, Nat.zero_mul, Nat.zero_add, List.set_append_left _ _ (by rw [hl x List.mem_cons_self]; exact hi)]
    rw [hy]
    rfl
  | x :: l, hl, j + 1, i, u, y, h, hi, hy => by
    have hx := hl x List.mem_cons_self
    unfold flatS
    rw [List.set_cons_succ, List.flatMap_cons, List.flatMap_cons, List.set_append_right _ _ (by rw [hx]; omega), hx, show (j + 1) * 265 + i - 265 = j * 265 + i by omega]
    have := flatS_set l (fun x hx => hl x (List.mem_cons_of_mem _ hx)) j i u y (by simpa using h) hi (by simpa using hy)
    unfold flatS at this
    rw [this]
theorem st_len {x : ST} (h : x.bs.length = 256) : x.cells.length = 265 := by
  unfold ST.cells
  rw [List.length_append, List.length_map, h]
  rfl
theorem flatS_ones (l : List ST) : ∀ u ∈ flatS l, u.oneCell' = true := by
  intro u hu
  obtain ⟨x, _, hx⟩ := List.mem_flatMap.1 hu
  exact st_ones x u hx
theorem flatW_ones (l : List WT) : ∀ u ∈ flatW l, u.oneCell' = true := by
  intro u hu
  obtain ⟨x, _, hx⟩ := List.mem_flatMap.1 hu
  simp only [WT.cells, List.mem_cons, List.not_mem_nil, or_false] at hx
  rcases hx with rfl | rfl <;> rfl
/-- The step with other places of its ways. -/
def ST.moved (x : ST) (s : SV) : ST := { x with W := s }
theorem moved_cells (x : ST) (s : SV) : (x.moved s).cells = x.cells.set 8 s.val := by
  unfold ST.cells
  rw [List.set_append_left _ _ (by show 8 < 9; decide)]
  rfl
/-- Clone on its way: q steps have ways of their own. -/
structure ClI (w : World) (base g0 : Nat) (p : PT) (S : SV) (q : Nat) (ss : List ST) (wr : World) : Prop where
  bel : Below w.heap.size w wr
  bas : base ≤ wr.heap.size
  lo : w.heap.size ≤ base
  box : BoxP wr g0 ⟨ss, S, p.sl, p.su, p.au⟩
  box1 : BoxP wr (g0 + 1) ⟨[], SV.nil, 0, 0, 0⟩
  row : wr.ownsRow base 37 265 S.val ss.length (flatS ss)
  len : ss.length = p.ss.length
  bare : ss.map ST.bare = p.ss.map ST.bare
  own : ∀ j x, ss[j]? = some x → j < q → WOwn wr base x
  old : ∀ j, q ≤ j → ss[j]? = p.ss[j]?
  ne : (ss.take q).Pairwise apart
theorem bare_bs {l m : List ST} (h : l.map ST.bare = m.map ST.bare) (hm : ∀ x ∈ m, x.bs.length = 256) : ∀ x ∈ l, x.bs.length = 256 := by
  intro x hx
  have h1 : x.bare ∈ m.map ST.bare := by rw [← h]; exact List.mem_map_of_mem hx
  obtain ⟨y, hy, he⟩ := List.mem_map.1 h1
  have := hm y hy
  have hb : y.bs = x.bs := show y.bare.bs = x.bare.bs by rw [he]
  rw [← hb]; exact this
theorem ClI.step {w wr w2 : World} {base g0 q n c : Nat} {A : Option Addr} {p : PT} {ss : List ST} {x : ST} {s' : SV} (h : ClI w base g0 p ⟨A, n, c⟩ q ss wr) (hbs : ∀ x ∈ p.ss, x.bs.length = 256) (hx : ss[q]? = some x) (hg : g0 + 2 ≤ base)
    (hb : Below wr.heap.size wr w2) (ho : w2.ownsRow wr.heap.size 46 2 s'.val x.ws.length (flatW x.ws)) (g : Nat) (hA : A = some ⟨g, 0, none⟩) :
    ClI w base g0 p ⟨A, n, c⟩ (q + 1) (ss.set q (x.moved s')) (w2.setCell ⟨g, q * 265 + 8, none⟩ s'.val) := by
  subst hA
  have hq : q < ss.length := (List.getElem?_eq_some_iff.1 hx).1
  have hxq : ss[q] = x := (List.getElem?_eq_some_iff.1 hx).2
  have hrow2 := owns_mono h.row (fun b hh => hb.block b (owns_block h.row b hh).2)
  obtain ⟨g1, e1, _, hbg, hgl, _, _⟩ := owns_at h.row (by omega)
  injection e1 with e1
  injection e1 with e1
  subst e1
  have hl : ∀ x ∈ ss, x.cells.length = 265 := fun y hy => st_len (bare_bs h.bare hbs y hy)
  have hne : ∀ b, (Value.slice (some ⟨g, 0, none⟩) n c).ownBlock = some b → b = g := fun b hh => by simpa [Value.ownBlock, eq_comm] using hh
  have hw2 : ∀ b, b ≠ g → (w2.setCell ⟨g, q * 265 + 8, none⟩ s'.val).heap[b]? = w2.heap[b]? := fun b hh => Below.heap_setCell _ _ _ _ hh
  have hwy : ∀ y : ST, WOwn wr base y → WOwn (w2.setCell ⟨g, q * 265 + 8, none⟩ s'.val) base y := fun y hy =>
    owns_mono hy (fun b hh => (hw2 b (fun e => by
      subst e
      exact owns_apart h.row hy (by decide) b rfl hh)).trans (hb.block b (owns_block hy b hh).2))
  have hwn : WOwn (w2.setCell ⟨g, q * 265 + 8, none⟩ s'.val) base (x.moved s') := owns_mono (owns_base ho h.bas) (fun b hh => hw2 b (fun e => by
      subst e
      have := (owns_block ho b hh).1
      omega))
  constructor
  · exact (h.bel.trans (hb.mono h.bel.size)).setCell (by show w.heap.size ≤ g; have := h.lo; omega) _
  · show base ≤ (w2.setCell _ _).heap.size
    have := hb.size
    have := h.bas
    simp [World.setCell]
    omega
  · exact h.lo
  · exact Blk.other (Blk.keep h.box hb) (by show g0 ≠ g; omega) _
  · exact Blk.other (Blk.keep h.box1 hb) (by show g0 + 1 ≠ g; omega) _
  · have := owns_set hrow2 (q * 265 + 8) s'.val
    rw [flatS_set ss hl q 8 s'.val (x.moved s') hq (by decide) (by rw [hxq]; exact moved_cells x s')] at this
    rw [List.length_set]
    exact this
  · rw [List.length_set]; exact h.len
  · rw [List.map_set, show (x.moved s').bare = x.bare from rfl, ← h.bare]
    apply List.ext_getElem? 
    intro j
    rw [List.getElem?_set]
    split
    · rename_i hj
      subst hj
      rw [if_pos (by simpa using hq), List.getElem?_map, hx]
      rfl
    · rfl
  · intro j y hy hj
    rw [List.getElem?_set] at hy
    by_cases hjq : q = j
    · rw [if_pos hjq, if_pos (by omega)] at hy
      injection hy with hy
      subst hy
      exact hwn
    · rw [if_neg hjq] at hy
      exact hwy y (h.own j y hy (by omega))
  · intro j hj
    rw [List.getElem?_set_ne (by omega)]
    exact h.old j (by omega)
  · have e : (ss.set q (x.moved s')).take (q + 1) = ss.take q ++ [x.moved s'] := by
      rw [List.take_add_one, List.take_set_of_le (Nat.le_refl q), List.getElem?_set_self hq]
      rfl
    rw [e, List.pairwise_append]
    refine ⟨h.ne, List.pairwise_singleton _ _, fun y hy z hz => ?_⟩
    rw [List.mem_singleton] at hz
    subst hz
    intro b hh hc
    obtain ⟨j, hj, hje⟩ := List.mem_iff_getElem.1 hy
    rw [List.length_take] at hj
    rw [List.getElem_take] at hje
    have hwo := h.own j y (by rw [← hje]; exact List.getElem?_eq_getElem _) (by omega)
    have h1 := (owns_block hwo b hh).2
    have h2 := (owns_block ho b hc).1
    omega
end Go.Proofs.YtpbkdokhlimpfaaDoor
