/- code: two programs of one's own beside each other; what a law aims elsewhere. -/
import Derived.Test.YtpbkdokhlimpfaaDoorCeK
namespace Go.Proofs.YtpbkdokhlimpfaaDoor
set_option linter.unusedSimpArgs false
set_option linter.unusedVariables false
open Go.RowKit

/-- A program of one's own whose blocks are among O. -/
structure PO (w : World) (O : Nat → Prop) (p : PT) : Prop where
  own : POwn w 0 p
  os : ∀ b, p.S.val.ownBlock = some b → O b
  ow : ∀ x ∈ p.ss, ∀ b, x.W.val.ownBlock = some b → O b
theorem PO.chg {w w' : World} {O S : Nat → Prop} {p : PT} (h : PO w O p) (hc : Chg w w' S) (hd : ∀ b, O b → ¬ S b) : PO w' O p :=
  ⟨⟨owns_mono h.own.row (fun b hb => hc.block b (owns_block h.own.row b hb).2 (hd b (h.os b hb))), fun x hx => ⟨owns_mono (h.own.ways x hx).1 (fun b hb => hc.block b (owns_block (h.own.ways x hx).1 b hb).2 (hd b (h.ow x hx b hb))), (h.own.ways x hx).2⟩, h.own.ne⟩, h.os, h.ow⟩
theorem PO.of {w : World} {base : Nat} {p : PT} (h : POwn w base p) : PO w (fun b => base ≤ b ∧ b < w.heap.size) p :=
  ⟨h.wide (Nat.zero_le _), fun b hb => owns_block h.row b hb, fun x hx b hb => owns_block (h.ways x hx).1 b hb⟩
theorem PO.at {w : World} {O : Nat → Prop} {p : PT} (h : PO w O p) {q : Nat} (hq : q < p.ss.length) : ∃ g1, p.S.A = some ⟨g1, 0, none⟩ ∧ p.S.n = p.ss.length ∧ (∀ i v, i < 265 → (p.ss[q]).cells[i]? = some v → w.cell? ⟨g1, q * 265 + i, none⟩ = some v) ∧ ∀ j, w.frozen? ⟨g1, j, none⟩ = false := by
  obtain ⟨g1, hA, hn, -, -, -, hf⟩ := owns_at h.own.row (by omega)
  obtain ⟨b, o, hA2, _, _, hAt⟩ := h.own.ok.at hq
  rw [hA] at hA2
  injection hA2 with hA2
  injection hA2 with e1 e2
  subst e1 e2
  refine ⟨g1, hA, hn, fun i v hi hv => ?_, hf⟩
  have := hAt i v hv
  rw [Nat.zero_add] at this
  exact this
theorem PO.setS {w : World} {O : Nat → Prop} {p : PT} (h : PO w O p) (q : Nat) (hq : q < p.ss.length) (i : Nat) (hi : i < 265) (u : Value) (y : ST) (hy : y.cells = (p.ss[q]).cells.set i u) (hW : y.W = (p.ss[q]).W) (hws : y.ws = (p.ss[q]).ws) (hbs : y.bs.length = 256)
    (g1 : Nat) (hA : p.S.A = some ⟨g1, 0, none⟩) : PO (w.setCell ⟨g1, q * 265 + i, none⟩ u) O ⟨p.ss.set q y, p.S, p.sl, p.su, p.au⟩ ∧ Chg w (w.setCell ⟨g1, q * 265 + i, none⟩ u) O := by
  obtain ⟨ss, ⟨A, n, c⟩, sl, su, au⟩ := p
  simp only at hA hq hy hW hws
  subst hA
  have hrow : w.ownsRow 0 37 265 (.slice (some ⟨g1, 0, none⟩) n c) ss.length (flatS ss) := h.own.row
  have hO : O g1 := h.os g1 rfl
  have hl : ∀ x ∈ ss, x.cells.length = 265 := fun x hx => st_len (h.own.ways x hx).2
  have hwo : ∀ x ∈ ss, WOwn (w.setCell ⟨g1, q * 265 + i, none⟩ u) 0 x := fun x hx => owns_mono (h.own.ways x hx).1 (fun b hh => Below.heap_setCell w _ _ b (fun e => by
    simp only at e
    subst e
    exact owns_apart hrow (h.own.ways x hx).1 (by decide) b rfl hh))
  have hm : ∀ x ∈ ss.set q y, x ∈ ss ∨ x = y := fun x hx => List.mem_or_eq_of_mem_set hx
  have hxq : ss[q] ∈ ss := List.getElem_mem hq
  have hwy : WOwn (w.setCell ⟨g1, q * 265 + i, none⟩ u) 0 y := by
    have := hwo _ hxq
    unfold WOwn at this ⊢
    rw [hW, hws]
    exact this
  refine ⟨⟨⟨?_, fun x hx => ?_, ?_⟩, h.os, fun x hx b hh => ?_⟩, (Chg.refl w O).set g1 _ hO u⟩
  · have := owns_set hrow (q * 265 + i) u
    rw [flatS_set ss hl q i u y hq hi hy] at this
    show (w.setCell _ _).ownsRow 0 _ 265 _ (ss.set q y).length (flatS (ss.set q y))
    rw [List.length_set]
    exact this
  · rcases hm x hx with hx | rfl
    · exact ⟨hwo x hx, (h.own.ways x hx).2⟩
    · exact ⟨hwy, hbs⟩
  · exact apart_map (map_set_same ST.W ss q hq y hW) h.own.ne
  · rcases hm x hx with hx | rfl
    · exact h.ow x hx b hh
    · exact h.ow _ hxq b (by rw [← hW]; exact hh)
/-- One way of one step leads elsewhere. -/
theorem PO.setW {w : World} {O : Nat → Prop} {p : PT} (h : PO w O p) (q : Nat) (hq : q < p.ss.length) (j : Nat) (hj : j < (p.ss[q]).ws.length) (t : Int) (g2 : Nat) (hA : (p.ss[q]).W.A = some ⟨g2, 0, none⟩) :
    PO (w.setCell ⟨g2, j * 2 + 1, none⟩ (.int .i64 t)) O ⟨p.ss.set q ((p.ss[q]).turned j t), p.S, p.sl, p.su, p.au⟩ ∧ Chg w (w.setCell ⟨g2, j * 2 + 1, none⟩ (.int .i64 t)) O := by
  obtain ⟨ss, S, sl, su, au⟩ := p
  simp only at hA hq hj
  have hxq : ss[q] ∈ ss := List.getElem_mem hq
  obtain ⟨x, hx⟩ : ∃ x, x = ss[q] := ⟨_, rfl⟩
  have hwx : WOwn w 0 x := by rw [hx]; exact (h.own.ways _ hxq).1
  have hown : x.W.val.ownBlock = some g2 := by rw [hx]; unfold SV.val; rw [hA]; rfl
  have hO : O g2 := h.ow _ hxq g2 (by rw [← hx]; exact hown)
  have hcell : (x.turned j t).cells = x.cells := rfl
  have hflat : flatS (ss.set q (x.turned j t)) = flatS ss := by
    unfold flatS
    rw [List.flatMap_def, List.flatMap_def, ← map_set_same ST.cells ss q hq (x.turned j t) (by rw [hcell, hx])]
  have hwy : WOwn (w.setCell ⟨g2, j * 2 + 1, none⟩ (.int .i64 t)) 0 (x.turned j t) := by
    have hwx2 := hwx
    unfold WOwn SV.val at hwx2
    rw [show x.W.A = some ⟨g2, 0, none⟩ from by rw [hx]; exact hA] at hwx2
    have := owns_set hwx2 (j * 2 + 1) (.int .i64 t)
    rw [flatW_set x.ws j t (by rw [hx]; exact hj)] at this
    unfold WOwn SV.val
    show (w.setCell _ _).ownsRow 0 _ 2 (.slice x.W.A x.W.n x.W.c) (x.ws.set j _).length (flatW (x.ws.set j _))
    rw [List.length_set, show x.W.A = some ⟨g2, 0, none⟩ from by rw [hx]; exact hA, show (x.ws.getD j ⟨0, 0⟩).val = (x.ws[j]'(by rw [hx]; exact hj)).val from by rw [List.getD_eq_getElem?_getD, List.getElem?_eq_getElem (by rw [hx]; exact hj)]; rfl]
    exact this
  have hwo : ∀ k (hk : k < ss.length), k ≠ q → WOwn (w.setCell ⟨g2, j * 2 + 1, none⟩ (.int .i64 t)) 0 ss[k] := fun k hk hne => owns_mono (h.own.ways _ (List.getElem_mem hk)).1 (fun b hh => Below.heap_setCell w _ _ b (fun e => by
    simp only at e
    subst e
    have hp := List.pairwise_iff_getElem.1 h.own.ne
    rcases Nat.lt_or_gt_of_ne hne with hlt | hlt
    · exact hp k q hk hq hlt b hh (by show (ss[q]).W.val.ownBlock = some b; rw [← hx]; exact hown)
    · exact hp q k hq hk hlt b (by show (ss[q]).W.val.ownBlock = some b; rw [← hx]; exact hown) hh))
  rw [← hx]
  refine ⟨⟨⟨?_, fun y hy => ?_, ?_⟩, h.os, fun y hy b hh => ?_⟩, (Chg.refl w O).set g2 _ hO _⟩
  · show (w.setCell _ _).ownsRow 0 _ 265 S.val (ss.set q (x.turned j t)).length (flatS (ss.set q (x.turned j t)))
    rw [List.length_set, hflat]
    exact owns_mono h.own.row (fun b hh => Below.heap_setCell w _ _ b (fun e => by
      simp only at e
      subst e
      exact owns_apart h.own.row hwx (by decide) b hh hown))
  · obtain ⟨k, hk, hke⟩ := List.mem_iff_getElem.1 hy
    rw [List.getElem_set] at hke
    replace hk : k < ss.length := by simpa using hk
    split at hke
    · subst hke
      exact ⟨hwy, by show x.bs.length = 256; rw [hx]; exact (h.own.ways _ hxq).2⟩
    · rename_i hne
      subst hke
      exact ⟨hwo k hk (fun e => hne e.symm), (h.own.ways _ (List.getElem_mem hk)).2⟩
  · exact apart_map (map_set_same ST.W ss q hq (x.turned j t) (by show x.W = _; rw [hx])) h.own.ne
  · rcases List.mem_or_eq_of_mem_set hy with hy | rfl
    · exact h.ow y hy b hh
    · exact h.ow _ hxq b (by rw [← hx]; exact hh)

/-! What the law aims elsewhere. -/
def aimP (p : PT) (step t : Int) : PT := if h : 0 ≤ step ∧ step < (p.ss.length : Int) then ⟨p.ss.set step.toNat ((p.ss[step.toNat]'(by omega)).aimed t), p.S, p.sl, p.su, p.au⟩ else p
def turnS (x : ST) (way t : Int) : ST := if way = -1 then x.elsed t else if 0 ≤ way ∧ way < (x.ws.length : Int) then x.turned way.toNat t else x
def turnP (p : PT) (step way t : Int) : PT := if h : 0 ≤ step ∧ step < (p.ss.length : Int) then ⟨p.ss.set step.toNat (turnS (p.ss[step.toNat]'(by omega)) way t), p.S, p.sl, p.su, p.au⟩ else p
theorem aimP_in (p : PT) {q : Nat} (hq : q < p.ss.length) (t : Int) : aimP p (q : Int) t = ⟨p.ss.set q ((p.ss[q]).aimed t), p.S, p.sl, p.su, p.au⟩ := by
  unfold aimP
  rw [dif_pos (by omega)]
  rfl
theorem aimP_out (p : PT) {step : Int} (h : ¬ (0 ≤ step ∧ step < (p.ss.length : Int))) (t : Int) : aimP p step t = p := by
  unfold aimP
  rw [dif_neg h]
theorem turnP_in (p : PT) {q : Nat} (hq : q < p.ss.length) (way t : Int) : turnP p (q : Int) way t = ⟨p.ss.set q (turnS (p.ss[q]) way t), p.S, p.sl, p.su, p.au⟩ := by
  unfold turnP
  rw [dif_pos (by omega)]
  rfl
theorem turnP_out (p : PT) {step : Int} (h : ¬ (0 ≤ step ∧ step < (p.ss.length : Int))) (way t : Int) : turnP p step way t = p := by
  unfold turnP
  rw [dif_neg h]
theorem turnS_b (x : ST) (t : Int) : turnS x (-1) t = x.elsed t := by unfold turnS; rw [if_pos rfl]
theorem turnS_w (x : ST) {j : Nat} (hj : j < x.ws.length) (t : Int) : turnS x (j : Int) t = x.turned j t := by
  unfold turnS
  rw [if_neg (by omega), if_pos (by omega)]
  rfl
theorem turnS_no (x : ST) {way : Int} (h : way ≠ -1) (h2 : ¬ (0 ≤ way ∧ way < (x.ws.length : Int))) (t : Int) : turnS x way t = x := by
  unfold turnS
  rw [if_neg h, if_neg h2]
theorem turnS_bare {x y : ST} (h : x.bare = y.bare) (way t : Int) : (turnS x way t).bare = (turnS y way t).bare := by
  have hw : x.ws = y.ws := show x.bare.ws = y.bare.ws by rw [h]
  unfold turnS
  rw [hw]
  split
  · show (x.bare).elsed t = (y.bare).elsed t
    rw [h]
  · split
    · show (x.bare).turned way.toNat t = (y.bare).turned way.toNat t
      rw [h]
    · exact h
theorem set_bare {s p : PT} (h : s.bare = p.bare) (q : Nat) {y z : ST} (hyz : y.bare = z.bare) : (⟨s.ss.set q y, s.S, s.sl, s.su, s.au⟩ : PT).bare = (⟨p.ss.set q z, p.S, p.sl, p.su, p.au⟩ : PT).bare := by
  have h0 : s.ss.map ST.bare = p.ss.map ST.bare := congrArg PT.ss h
  have h1 : s.sl = p.sl := show s.bare.sl = p.bare.sl by rw [h]
  have h2 : s.su = p.su := show s.bare.su = p.bare.su by rw [h]
  have h3 : s.au = p.au := show s.bare.au = p.bare.au by rw [h]
  unfold PT.bare
  simp only [List.map_set, h0, h1, h2, h3, hyz]
theorem set_same_bare {s p : PT} (h : s.bare = p.bare) {q : Nat} (hq : q < p.ss.length) {z : ST} (hz : z = p.ss[q]) : s.bare = (⟨p.ss.set q z, p.S, p.sl, p.su, p.au⟩ : PT).bare := by
  subst hz
  rw [List.set_getElem_self]
  exact h
theorem aimP_len (p : PT) (step t : Int) : (aimP p step t).ss.length = p.ss.length := by
  unfold aimP
  split
  · exact List.length_set
  · rfl
theorem turnP_len (p : PT) (step way t : Int) : (turnP p step way t).ss.length = p.ss.length := by
  unfold turnP
  split
  · exact List.length_set
  · rfl
theorem turnS_ws (x : ST) (way t : Int) : (turnS x way t).ws.length = x.ws.length := by
  unfold turnS
  split
  · rfl
  · split
    · exact List.length_set
    · rfl
theorem aimP_ws {p : PT} {k : Nat} (h : ∀ x ∈ p.ss, x.ws.length ≤ k) (step t : Int) : ∀ x ∈ (aimP p step t).ss, x.ws.length ≤ k := by
  unfold aimP
  split
  · intro x hx
    rcases List.mem_or_eq_of_mem_set hx with hx | rfl
    · exact h x hx
    · show ((p.ss[step.toNat]'(by omega)).ws.length) ≤ k
      exact h _ (List.getElem_mem (by omega))
  · exact h
theorem turnP_ws {p : PT} {k : Nat} (h : ∀ x ∈ p.ss, x.ws.length ≤ k) (step way t : Int) : ∀ x ∈ (turnP p step way t).ss, x.ws.length ≤ k := by
  unfold turnP
  split
  · intro x hx
    rcases List.mem_or_eq_of_mem_set hx with hx | rfl
    · exact h x hx
    · rw [turnS_ws]
      exact h _ (List.getElem_mem (by omega))
  · exact h
theorem aimP_num {p : PT} (h : ∀ x ∈ p.ss, StNum x) (step : Int) {t : Int} (ht : I64 t) : ∀ x ∈ (aimP p step t).ss, StNum x := by
  unfold aimP
  split
  · intro x hx
    rcases List.mem_or_eq_of_mem_set hx with hx | rfl
    · exact h x hx
    · have := h (p.ss[step.toNat]'(by omega)) (List.getElem_mem (by omega))
      exact ⟨ht, this.b, this.ws⟩
  · exact h
theorem turnS_num {x : ST} (h : StNum x) (way : Int) {t : Int} (ht : I64 t) : StNum (turnS x way t) := by
  unfold turnS
  split
  · exact ⟨h.a, ht, h.ws⟩
  · split
    · rename_i hw
      refine ⟨h.a, h.b, fun y hy => ?_⟩
      rcases List.mem_or_eq_of_mem_set (show y ∈ x.ws.set way.toNat ⟨(x.ws.getD way.toNat ⟨0, 0⟩).val, t⟩ from hy) with hy | rfl
      · exact h.ws y hy
      · refine ⟨ht, ?_⟩
        have hl : way.toNat < x.ws.length := by omega
        show (x.ws.getD way.toNat ⟨0, 0⟩).val < _
        rw [List.getD_eq_getElem?_getD, List.getElem?_eq_getElem hl]
        exact (h.ws _ (List.getElem_mem hl)).2
    · exact h
theorem turnP_num {p : PT} (h : ∀ x ∈ p.ss, StNum x) (step way : Int) {t : Int} (ht : I64 t) : ∀ x ∈ (turnP p step way t).ss, StNum x := by
  unfold turnP
  split
  · intro x hx
    rcases List.mem_or_eq_of_mem_set hx with hx | rfl
    · exact h x hx
    · exact turnS_num (h _ (List.getElem_mem (by omega))) way ht
  · exact h

/-- Two makers whose programs are known but for where they lie. -/
structure Tr (w wr : World) (X : Nat → Prop) (gb ga g1 g2 : Nat) (p : PT) (u t : Int) (P1 P2 : PT) : Prop where
  tw : ∃ s1 s2, Tw w wr X g1 g2 s1 s2 ∧ s1.bare = P1.bare ∧ s2.bare = P2.bare
  box : BoxP wr gb p
  arr : Blk wr ga 47 [.int .i64 u, .int .i64 t]
  xb : X gb
  xa : X ga
section
variable {w wr : World} {X : Nat → Prop} {gb ga g1 g2 : Nat} {p : PT} {u t : Int} {P1 P2 : PT}
theorem Tr.bel (h : Tr w wr X gb ga g1 g2 p u t P1 P2) : Below w.heap.size w wr := by
  obtain ⟨s1, s2, hT, e1, e2⟩ := h.tw
  exact hT.bel
theorem Tr.swap (h : Tr w wr X gb ga g1 g2 p u t P1 P2) : Tr w wr X gb ga g2 g1 p u t P2 P1 := by
  obtain ⟨s1, s2, hT, e1, e2⟩ := h.tw
  exact ⟨⟨s2, s1, hT.swap, e2, e1⟩, h.box, h.arr, h.xb, h.xa⟩
theorem Tr.keep {w' : World} (h : Tr w wr X gb ga g1 g2 p u t P1 P2) (hb : Below wr.heap.size wr w') : Tr w w' X gb ga g1 g2 p u t P1 P2 := by
  obtain ⟨s1, s2, hT, e1, e2⟩ := h.tw
  exact ⟨⟨s1, s2, hT.keep hb, e1, e2⟩, Blk.keep h.box hb, Blk.keep h.arr hb, h.xb, h.xa⟩
theorem Tq.all (h : Tq w wr X gb ga g1 g2 p u t p.ss.length p.sl p.su p.au p.ss.length p.sl p.su p.au) : Tr w wr X gb ga g1 g2 p u t p p := by
  obtain ⟨ss1, S1, ss2, S2, hT, e1, e2⟩ := h.tw
  rw [List.take_length] at e1 e2
  refine ⟨⟨_, _, hT, ?_, ?_⟩, h.box, h.arr, h.xb, h.xa⟩ <;> (unfold PT.bare; simp only [PT.mk.injEq, and_true]; assumption)
theorem Program_1 (h : Tr w wr X gb ga g1 g2 p u t P1 P2) (hl : P1.ss.length ≤ 1000000) (hws : ∀ x ∈ P1.ss, x.ws.length ≤ 1000000) : Calls Tryd.prog 16 #[.pointer (some ⟨g1, 0, none⟩)] wr (ProgR wr P1) := by
  obtain ⟨s1, s2, hT, e1, e2⟩ := h.tw
  obtain ⟨K, hK, kx, hM, back⟩ := hT.fst
  have hle := bare_len e1
  exact (Program_b hM (by omega) (ws_bare (congrArg PT.ss e1) hws)).mono fun e w' hr => hr.bare e1
theorem Aim_1 (h : Tr w wr X gb ga g1 g2 p u t P1 P2) (hl : P1.ss.length ≤ 1000000) (step tt : Int) : Calls Tryd.prog 19 #[.pointer (some ⟨g1, 0, none⟩), .int .i64 step, .int .i64 tt] wr fun e w' => e = .returned (.tuple #[]) ∧ Tr w w' X gb ga g1 g2 p u t (aimP P1 step tt) P2 := by
  obtain ⟨s1, s2, hT, e1, e2⟩ := h.tw
  obtain ⟨K, hK, kx, hM, back⟩ := hT.fst
  obtain ⟨O, hO, hst, hg⟩ := hM.step hK
  have hle := bare_len e1
  refine (Aim_any O g1 s1 false step tt wr hO (by omega)).mono ?_
  rintro e w' ⟨rfl, ho, h2, h3⟩
  by_cases hin : 0 ≤ step ∧ step < (P1.ss.length : Int)
  · obtain ⟨q, rfl⟩ : ∃ q : Nat, step = (q : Int) := ⟨step.toNat, by omega⟩
    have hq : q < P1.ss.length := by omega
    have hqs : q < s1.ss.length := by omega
    obtain ⟨hm, hc⟩ := hst w' _ (h2 q hqs rfl).lift h3
    refine ⟨rfl, ⟨⟨_, s2, back _ _ hm hc, ?_, e2⟩, Blk.chg h.box hc (fun hn => hn (kx _ h.xb)), Blk.chg h.arr hc (fun hn => hn (kx _ h.xa)), h.xb, h.xa⟩⟩
    rw [aimP_in P1 hq]
    exact set_bare e1 q (by show (s1.ss[q].bare).aimed tt = (P1.ss[q].bare).aimed tt; rw [bare_get e1 hqs hq])
  · have hf : amg step s1.ss.length = false := by unfold amg; simp; omega
    obtain ⟨hm, hc⟩ := hst w' _ (ho hf).lift h3
    exact ⟨rfl, ⟨⟨_, s2, back _ _ hm hc, by rw [aimP_out P1 hin]; exact e1, e2⟩, Blk.chg h.box hc (fun hn => hn (kx _ h.xb)), Blk.chg h.arr hc (fun hn => hn (kx _ h.xa)), h.xb, h.xa⟩⟩
theorem Turn_1 (h : Tr w wr X gb ga g1 g2 p u t P1 P2) (hl : P1.ss.length ≤ 1000000) (hws : ∀ x ∈ P1.ss, x.ws.length ≤ 1000000) (step way tt : Int) : Calls Tryd.prog 20 #[.pointer (some ⟨g1, 0, none⟩), .int .i64 step, .int .i64 way, .int .i64 tt] wr fun e w' => e = .returned (.tuple #[]) ∧ Tr w w' X gb ga g1 g2 p u t (turnP P1 step way tt) P2 := by
  obtain ⟨s1, s2, hT, e1, e2⟩ := h.tw
  obtain ⟨K, hK, kx, hM, back⟩ := hT.fst
  obtain ⟨O, hO, hst, hg⟩ := hM.step hK
  have hle := bare_len e1
  refine (Turn_any O g1 s1 false step way tt wr hO (by omega) (ws_bare (congrArg PT.ss e1) hws)).mono ?_
  rintro e w' ⟨rfl, ho, hb, hw, hn, h3⟩
  have fin : ∀ s' : PT, MkOk w' O g1 s' false → s'.bare = (turnP P1 step way tt).bare → Tr w w' X gb ga g1 g2 p u t (turnP P1 step way tt) P2 := fun s' hm he => by
    obtain ⟨hm, hc⟩ := hst w' _ hm.lift h3
    exact ⟨⟨_, s2, back _ _ hm hc, he, e2⟩, Blk.chg h.box hc (fun hn => hn (kx _ h.xb)), Blk.chg h.arr hc (fun hn => hn (kx _ h.xa)), h.xb, h.xa⟩
  refine ⟨rfl, ?_⟩
  by_cases hin : 0 ≤ step ∧ step < (P1.ss.length : Int)
  · obtain ⟨q, rfl⟩ : ∃ q : Nat, step = (q : Int) := ⟨step.toNat, by omega⟩
    have hq : q < P1.ss.length := by omega
    have hqs : q < s1.ss.length := by omega
    have hbq := bare_get e1 hqs hq
    have hwl : s1.ss[q].ws.length = P1.ss[q].ws.length := show s1.ss[q].bare.ws.length = P1.ss[q].bare.ws.length by rw [hbq]
    by_cases h1 : way = -1
    · subst h1
      refine fin _ (hb q hqs rfl rfl) ?_
      rw [turnP_in P1 hq, turnS_b]
      exact set_bare e1 q (by show (s1.ss[q].bare).elsed tt = (P1.ss[q].bare).elsed tt; rw [hbq])
    · by_cases h2 : 0 ≤ way ∧ way < (P1.ss[q].ws.length : Int)
      · obtain ⟨j, rfl⟩ : ∃ j : Nat, way = (j : Int) := ⟨way.toNat, by omega⟩
        refine fin _ (hw q hqs rfl j (by omega) rfl) ?_
        rw [turnP_in P1 hq, turnS_w _ (by omega)]
        exact set_bare e1 q (by show (s1.ss[q].bare).turned j tt = (P1.ss[q].bare).turned j tt; rw [hbq])
      · refine fin _ (hn q hqs rfl h1 (by unfold amg; simp; omega)) ?_
        rw [turnP_in P1 hq, turnS_no _ h1 h2]
        exact set_same_bare e1 hq rfl
  · refine fin _ (ho (by unfold amg; simp; omega)) ?_
    rw [turnP_out P1 hin]
    exact e1
end
end Go.Proofs.YtpbkdokhlimpfaaDoor
