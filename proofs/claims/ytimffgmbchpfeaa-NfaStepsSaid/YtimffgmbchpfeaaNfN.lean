/- nfa: has; a walk in memory; meet. -/
import Derived.Test.YtimffgmbchpfeaaNfK
import Derived.Test.YtimffgmbchpfeaaNfL
namespace Go.Proofs.Ytimffgmbchpfeaa
set_option linter.unusedSimpArgs false
set_option linter.unusedVariables false
open Go.RowKit

set_option maxRecDepth 100000 in
theorem has_anyA (A : Option Addr) (n c : Nat) (en s : Int) (w : World) : Calls Try.prog 26 #[.agg #[.slice A n c, .int .i64 en], .int .i64 s] w fun e w' => e = .returned (.bool (decide (0 ≤ s ∧ s < (n : Int)))) ∧ Below w.heap.size w w' := by
  have hal := al_belowN w (.cells #[.slice A n c, .int .i64 en] 33)
  have hb : Blk (w.alloc (.cells #[.slice A n c, .int .i64 en] 33)) w.heap.size 33 [.slice A n c, .int .i64 en] := Blk.fresh w _ _
  have k0 := hb.at 0
  have k1 := hb.at 1
  simp only [List.getElem?_cons_zero, List.getElem?_cons_succ] at k0 k1
  have HLn := hid (fun (W : World) => len_any A n c en W)
  have HA := hid hal
  clear hb hal
  by_cases h0 : 0 ≤ s
  · have e : decide (0 ≤ s ∧ s < (n : Int)) = decide (s < (n : Int)) := by simp [h0]
    rw [e]
    clear e
    go_enter Try.func26, Try.ntmps26
    go_upto_region 1 with fail
    change Code.wp _ _ _ _ (w.alloc (.cells #[.slice A n c, .int .i64 en] 33))
    generalize w.alloc (.cells #[.slice A n c, .int .i64 en] 33) = w1 at *
    go_wp2_with (go_at_call 14; refine (HLn.out _).mono ?_; rintro e w2 ⟨rfl, hb2⟩)
    go_ret
    exact ⟨rfl, HA.out.trans (hb2.mono HA.out.size)⟩
  · have e : decide (0 ≤ s ∧ s < (n : Int)) = false := by simp [h0]
    rw [e]
    clear e
    go_enter Try.func26, Try.ntmps26
    go_upto_region 1 with fail
    change Code.wp _ _ _ _ (w.alloc (.cells #[.slice A n c, .int .i64 en] 33))
    generalize w.alloc (.cells #[.slice A n c, .int .i64 en] 33) = w1 at *
    go_wp2
    go_ret
    exact ⟨rfl, HA.out⟩
def intsN (l : List Nat) : List Value := l.map fun (s : Nat) => Value.int .i64 (s : Int)
/-- A walk in memory. -/
structure WkR (w0 : World) (A : Option Addr) (c : Nat) (E : EG) (en : Int) (B bS : Nat) (k : WK) (W : World) : Prop where
  bel : Below w0.heap.size w0 W
  hB : w0.heap.size ≤ B
  hS : w0.heap.size ≤ bS
  seen : Blk W bS 4 (k.seen.map Value.bool)
  inv : WkI E.length k
  tl : unseen k.seen + k.todo.length ≤ E.length
  td : ∃ tA tc, Blk W B 62 [.slice A E.length c, .int .i64 en, .slice (some ⟨bS, 0, none⟩) E.length E.length, .int .i64 (k.many : Int), .slice tA k.todo.length tc] ∧ W.ownsRow w0.heap.size 3 1 (.slice tA k.todo.length tc) k.todo.length (intsN k.todo)
variable {w0 W W' : World} {A : Option Addr} {c B bS : Nat} {E : EG} {en : Int} {k : WK}
theorem WkR.keep (h : WkR w0 A c E en B bS k W) (hb : Below W.heap.size W W') : WkR w0 A c E en B bS k W' := by
  obtain ⟨tA, tc, h1, h2⟩ := h.td
  exact ⟨h.bel.trans (hb.mono h.bel.size), h.hB, h.hS, h.seen.keep hb, h.inv, h.tl, tA, tc, h1.keep hb, owns_chg h2 (Chg.of_below hb (fun _ => False)) (fun _ _ h => h)⟩
theorem info_intN : (Try.prog.info? 3).map (fun i => (i.zero, i.size, i.bytes)) = some (some (.int .i64 0), 1, 8) := by kernel_rfl
theorem int_cell (W : World) (x : Int) : ∀ j u, ([Value.int .i64 x] : List Value)[j]? = some u → (W.alloc (.cells #[.int .i64 x] 3)).cell? ((⟨W.heap.size, 0, none⟩ : Addr).add j) = some u := by
  intro j u hj
  rw [addr_add, Nat.zero_add]
  exact (Blk.at (Blk.fresh W 3 [.int .i64 x]) j).trans hj
theorem walk_cells {tA : Option Addr} {tc n m : Nat} {q : Int} (h : Blk W B 62 [.slice A n c, .int .i64 en, .slice (some ⟨bS, 0, none⟩) n n, .int .i64 q, .slice tA m tc]) : W.cell? ⟨B, 0, none⟩ = some (.slice A n c) ∧ W.cell? ⟨B, 1, none⟩ = some (.int .i64 en) ∧ W.cell? ⟨B, 2, none⟩ = some (.slice (some ⟨bS, 0, none⟩) n n) ∧ W.cell? ⟨B, 3, none⟩ = some (.int .i64 q) ∧ W.cell? ⟨B, 4, none⟩ = some (.slice tA m tc) ∧ W.frozen? ⟨B, 3, none⟩ = false ∧ W.frozen? ⟨B, 4, none⟩ = false := ⟨h.at 0, h.at 1, h.at 2, h.at 3, h.at 4, h.free 3, h.free 4⟩
theorem seen_cell {l : List Bool} {i : Nat} (h : Blk W bS 4 (l.map Value.bool)) (hi : i < l.length) : W.cell? ⟨bS, i, none⟩ = some (.bool (l.getD i false)) := by
  rw [h.at i, List.getElem?_map, List.getD_eq_getElem?_getD, List.getElem?_eq_getElem hi]
  rfl
/-- A walk's three blocks: what it saw, itself, its row. -/
structure Wk3 (w0 : World) (B bS : Nat) (S : List Bool) (cs : List Value) (T : Value) (m : Nat) (xs : List Value) (W : World) : Prop where
  bel : Below w0.heap.size w0 W
  hB : w0.heap.size ≤ B
  hS : w0.heap.size ≤ bS
  s : Blk W bS 4 (S.map Value.bool)
  b : Blk W B 62 cs
  o : W.ownsRow w0.heap.size 3 1 T m xs
theorem Wk3.ne {S : List Bool} {cs xs : List Value} {T : Value} {m : Nat} (h : Wk3 w0 B bS S cs T m xs W) : B ≠ bS := by
  intro e
  have h1 := h.b
  have h2 := h.s
  rw [e] at h1
  have := h1.symm.trans h2
  injection this with this
  injection this with _ this
  exact absurd this (by decide)
theorem Wk3.keep {S : List Bool} {cs xs : List Value} {T : Value} {m : Nat} (h : Wk3 w0 B bS S cs T m xs W) (hb : Below W.heap.size W W') : Wk3 w0 B bS S cs T m xs W' :=
  ⟨h.bel.trans (hb.mono h.bel.size), h.hB, h.hS, h.s.keep hb, h.b.keep hb, owns_chg h.o (Chg.of_below hb (fun _ => False)) (fun _ _ h => h)⟩
theorem Wk3.sn {S : List Bool} {cs xs : List Value} {T : Value} {m : Nat} (h : Wk3 w0 B bS S cs T m xs W) (i : Nat) (v : Bool) : Wk3 w0 B bS (S.set i v) cs T m xs (W.setCell ⟨bS, i, none⟩ (.bool v)) := by
  refine ⟨h.bel.setCell h.hS _, h.hB, h.hS, ?_, h.b.other (p := ⟨bS, i, none⟩) h.ne _, owns_chg h.o ((Chg.refl W (fun k => k = bS)).set bS i rfl _) (fun k hk e => own_neN h.o h.s (by decide) (by rw [hk, e]))⟩
  rw [List.map_set]
  exact h.s.put i _
theorem Wk3.bb {S : List Bool} {cs xs : List Value} {T : Value} {m : Nat} (h : Wk3 w0 B bS S cs T m xs W) (i : Nat) (u : Value) : Wk3 w0 B bS S (cs.set i u) T m xs (W.setCell ⟨B, i, none⟩ u) :=
  ⟨h.bel.setCell h.hB _, h.hB, h.hS, h.s.other (p := ⟨B, i, none⟩) h.ne.symm _, h.b.put i _, owns_chg h.o ((Chg.refl W (fun k => k = B)).set B i rfl _) (fun k hk e => own_neN h.o h.b (by decide) (by rw [hk, e]))⟩
theorem Wk3.new {S : List Bool} {cs xs ys : List Value} {T T' : Value} {m m' : Nat} (h : Wk3 w0 B bS S cs T m xs W) (hown : W'.ownsRow w0.heap.size 3 1 T' m' ys) (hgr : W.grownBy W' T.ownBlock) : Wk3 w0 B bS S cs T' m' ys W' :=
  ⟨Chg.below h.bel (Chg.of_grown hgr) h.bel.size (fun k hk => (own_blockN h.o k hk).1), h.hB, h.hS, (hgr.block bS h.s.lt (fun e => own_neN h.o h.s (by decide) e.symm)).trans h.s, (hgr.block B h.b.lt (fun e => own_neN h.o h.b (by decide) e.symm)).trans h.b, hown⟩
theorem WkR.three (h : WkR w0 A c E en B bS k W) : ∃ tA tc, Wk3 w0 B bS k.seen [.slice A E.length c, .int .i64 en, .slice (some ⟨bS, 0, none⟩) E.length E.length, .int .i64 (k.many : Int), .slice tA k.todo.length tc] (.slice tA k.todo.length tc) k.todo.length (intsN k.todo) W := by
  obtain ⟨tA, tc, h1, h2⟩ := h.td
  exact ⟨tA, tc, h.bel, h.hB, h.hS, h.seen, h1, h2⟩
theorem WkR.of3 {tA : Option Addr} {tc : Nat} (h : Wk3 w0 B bS k.seen [.slice A E.length c, .int .i64 en, .slice (some ⟨bS, 0, none⟩) E.length E.length, .int .i64 (k.many : Int), .slice tA k.todo.length tc] (.slice tA k.todo.length tc) k.todo.length (intsN k.todo) W) (hi : WkI E.length k) (hl : unseen k.seen + k.todo.length ≤ E.length) : WkR w0 A c E en B bS k W :=
  ⟨h.bel, h.hB, h.hS, h.s, hi, hl, tA, tc, h.b, h.o⟩
set_option maxRecDepth 100000 in
set_option maxHeartbeats 4000000 in
theorem meet_any (h : WkR w0 A c E en B bS k W) (hE : E.length ≤ 5000) (s : Int) : Calls Try.prog 24 #[.pointer (some ⟨B, 0, none⟩), .int .i64 s] W fun e w' => e = .returned (.tuple #[]) ∧ WkR w0 A c E en B bS (meetP k s) w' := by
  obtain ⟨tA, tc, h3⟩ := h.three
  have hb := h3.b
  have hlen := h.inv.len
  have htl := h.tl
  have hsum := h.inv.sum
  have HHas := hid (fun (W : World) => has_anyA A E.length c en s W)
  obtain ⟨d0, d1, d2, d3, d4, d5, d6⟩ := walk_cells hb
  have HI := hid (h.inv.meet s)
  by_cases hr : 0 ≤ s ∧ s < (E.length : Int)
  rotate_left
  · have hm : meetP k s = k := by unfold meetP; rw [if_neg (fun q => hr ⟨q.1, by rw [← hlen]; exact q.2.1⟩)]
    rw [hm]
    have HW := hid h
    rw [decide_eq_false hr] at HHas
    clear hm h h3 hb hlen htl hsum hr HI
    go_enter Try.func24, Try.ntmps24
    go_wp2_with (go_at_call 26; refine (HHas.out _).mono ?_; rintro e w1 ⟨rfl, hb1⟩)
    exact bodyPost_ret (v := .tuple #[]) (results_none rfl _ _ _) rfl ⟨rfl, HW.out.keep hb1⟩
  · rw [decide_eq_true hr] at HHas
    obtain ⟨sn, rfl⟩ : ∃ sn : Nat, s = (sn : Int) := ⟨s.toNat, by omega⟩
    have hsn : sn < E.length := by omega
    cases hv : k.seen.getD sn false with
    | true =>
      have hm : meetP k (sn : Int) = k := by unfold meetP; rw [if_neg (fun q => by have := q.2.2; rw [Int.toNat_natCast, hv] at this; cases this)]
      rw [hm]
      have HW := hid h
      have HSc := hid (fun (W' : World) (hb : Below W.heap.size W W') => seen_cell (h.seen.keep hb) (show sn < k.seen.length by omega))
      rw [hv] at HSc
      have HBk := hid (fun (W' : World) (hw : Below W.heap.size W W') => walk_cells (hb.keep hw))
      clear hm h h3 hb hlen htl hsum hr HI hv
      go_enter Try.func24, Try.ntmps24
      go_wp2_with (go_at_call 26; refine (HHas.out _).mono ?_; rintro e w1 ⟨rfl, hb1⟩; (have sc := HSc.out _ hb1); clear d0 d1 d2 d3 d4 d5 d6; obtain ⟨d0, d1, d2, d3, d4, d5, d6⟩ := HBk.out _ hb1)
      exact bodyPost_ret (v := .tuple #[]) (results_none rfl _ _ _) rfl ⟨rfl, HW.out.keep hb1⟩
    | false =>
      have hm : meetP k (sn : Int) = ⟨k.seen.set sn true, k.many + 1, k.todo ++ [sn]⟩ := by
        unfold meetP
        rw [if_pos ⟨by omega, by omega, by rw [Int.toNat_natCast]; exact hv⟩, Int.toNat_natCast]
      have HSc := hid (fun (W' : World) (hb : Below W.heap.size W W') => seen_cell (h.seen.keep hb) (show sn < k.seen.length by omega))
      rw [hv] at HSc
      have HBk := hid (fun (W' : World) (hw : Below W.heap.size W W') => walk_cells (hb.keep hw))
      have H3 := hid (fun (W' : World) (hb : Below W.heap.size W W') => h3.keep hb)
      have hmany : k.many ≤ 5000 := by omega
      have htd : k.todo.length ≤ 5000 := by omega
      have hI1 := HI.out.1
      have hI2 := HI.out.2.1
      rw [hm] at hI1 hI2 ⊢
      have HI1 := hid hI1
      have HI2 := hid (show unseen (k.seen.set sn true) + (k.todo ++ [sn]).length ≤ E.length by have := hI2; simp only at this; omega)
      clear hm h h3 hb hlen htl hsum hr HI hv hI1 hI2
      obtain ⟨i0, hi0, hz0, hz1, hz2⟩ := info_parts info_intN
      go_enter Try.func24, Try.ntmps24
      go_upto_region 1 with (go_at_call 26; refine (HHas.out _).mono ?_; rintro e w1 ⟨rfl, hb1⟩; (have sc := HSc.out _ hb1); clear d0 d1 d2 d3 d4 d5 d6; obtain ⟨d0, d1, d2, d3, d4, d5, d6⟩ := HBk.out _ hb1)
      have H4 := hid (H3.out _ hb1)
      have f0 : w1.frozen? ⟨bS, sn, none⟩ = false := H4.out.s.free sn
      go_upto_region 2 with fail
      have H5 := hid (H4.out.sn sn true)
      clear d0 d1 d2 d3 d4 d5 d6 f0 sc H3 H4 HHas HSc HBk hb1
      generalize w1.setCell ⟨bS, sn, none⟩ (.bool true) = w2 at *
      obtain ⟨d0, d1, d2, d3, d4, d5, d6⟩ := walk_cells H5.out.b
      go_upto_region 3 with fail
      have H6 := hid (H5.out.bb 3 (.int .i64 ((k.many : Int) + 1)))
      clear d0 d1 d2 d3 d4 d5 d6 H5
      generalize w2.setCell ⟨B, 3, none⟩ (.int .i64 ((k.many : Int) + 1)) = w3 at *
      obtain ⟨d0, d1, d2, d3, d4, d5, d6⟩ := walk_cells (q := ((k.many : Int) + 1)) H6.out.b
      have H7 := hid (H6.out.keep (al_belowN w3 (.cells #[.int .i64 (sn : Int)] 3)))
      have HO7 := hid H7.out.o
      have HN := hid (int_cell w3 (sn : Int))
      have hsz := H6.out.bel.size
      go_wp2_with (first
        | (refine wpList_append_own_at _ rfl _ _ 37 rfl w0.heap.size 3 i0 (.int .i64 0) 1 8 Try.underlying37 hi0 hz0 hz1 hz2 rfl (by decide) _ _ _ rfl HO7.out ⟨w3.heap.size, 0, none⟩ 1 1 [.int .i64 (sn : Int)] rfl rfl HN.out (by intro u hu; simp at hu; subst hu; rfl) (by unfold maxLen; omega) (by omega) (by simp; omega) ?_; intro u7 w7 hown7 hgrow7 _ _; obtain ⟨A7, c7, rfl⟩ := own_shapeN hown7; have H8 := hid (H7.out.new hown7 hgrow7); clear hown7 hgrow7 d0 d1 d2 d3 d4 d5 d6; obtain ⟨d0, d1, d2, d3, d4, d5, d6⟩ := walk_cells (q := ((k.many : Int) + 1)) H8.out.b))
      go_end0
      have H9 := H8.out.bb 4 (.slice A7 (k.todo.length + 1) c7)
      have el : (k.todo ++ [sn]).length = k.todo.length + 1 := by simp
      have ei : intsN (k.todo ++ [sn]) = intsN k.todo ++ [.int .i64 (sn : Int)] := by simp [intsN]
      refine ⟨rfl, WkR.of3 (tA := A7) (tc := c7) (k := ⟨k.seen.set sn true, k.many + 1, k.todo ++ [sn]⟩) ?_ HI1.out HI2.out⟩
      simp only [el, ei]
      exact H9
end Go.Proofs.Ytimffgmbchpfeaa

/- nfa: all. -/
namespace Go.Proofs.Ytimffgmbchpfeaa
set_option linter.unusedSimpArgs false
set_option linter.unusedVariables false
open Go.RowKit
variable {w0 W W' : World} {A : Option Addr} {c B bS : Nat} {E : EG} {en : Int} {k : WK}

def aP (l : List Bool) (j : Nat) : List Nat := (List.range j).filter (fun s => l.getD s false)
theorem aP_all (l : List Bool) : aP l l.length = allP l := rfl
theorem aP_succ (l : List Bool) (j : Nat) : aP l (j + 1) = aP l j ++ (if l.getD j false = true then [j] else []) := by
  unfold aP
  rw [List.range_succ, List.filter_append]
  refine congrArg _ ?_
  simp only [List.filter_cons, List.filter_nil]
theorem aP_len (l : List Bool) (j : Nat) : (aP l j).length ≤ j := by
  unfold aP
  have := List.length_filter_le (fun s => l.getD s false) (List.range j)
  rw [List.length_range] at this
  exact this
/-- What all has of it behind some rounds. -/
structure AlR (W : World) (l : List Bool) (j : Nat) (u : Value) (wr : World) : Prop where
  bel : Below W.heap.size W wr
  row : wr.ownsRow W.heap.size 3 1 u (aP l j).length (intsN (aP l j))
theorem AlR.grown {l : List Bool} {j j' : Nat} {u u' : Value} {wr wr' : World} (h : AlR W l j u wr) (hgr : wr.grownBy wr' u.ownBlock) (ho : wr'.ownsRow W.heap.size 3 1 u' (aP l j').length (intsN (aP l j'))) : AlR W l j' u' wr' :=
  ⟨Chg.below h.bel (Chg.of_grown hgr) h.bel.size (fun q hq => (own_blockN h.row q hq).1), ho⟩
theorem AlR.keep {l : List Bool} {j : Nat} {u : Value} {wr wr' : World} (h : AlR W l j u wr) (hb : Below wr.heap.size wr wr') : AlR W l j u wr' :=
  ⟨h.bel.trans (hb.mono h.bel.size), owns_chg h.row (Chg.of_below hb (fun _ => False)) (fun _ _ h => h)⟩
theorem AlR.shape {l : List Bool} {j : Nat} {u : Value} {wr : World} (h : AlR W l j u wr) : ∃ A c, u = .slice A (aP l j).length c := own_shapeN h.row
set_option maxRecDepth 100000 in
set_option maxHeartbeats 4000000 in
theorem wall_any (h : WkR w0 A c E en B bS k W) (hE : E.length ≤ 5000) : Calls Try.prog 25 #[.pointer (some ⟨B, 0, none⟩)] W fun e w' => ∃ u, e = .returned u ∧ w'.ownsRow W.heap.size 3 1 u (allP k.seen).length (intsN (allP k.seen)) ∧ Below W.heap.size W w' := by
  obtain ⟨tA, tc, h3⟩ := h.three
  have hlen := h.inv.len
  have hsum := h.inv.sum
  have hmany : k.many ≤ 5000 := by have := h.tl; omega
  have hsl : k.seen.length ≤ 5000 := by omega
  obtain ⟨d0, d1, d2, d3, d4, d5, d6⟩ := walk_cells h3.b
  have HBk := hid (fun (W' : World) (hw : Below W.heap.size W W') => walk_cells (h3.b.keep hw))
  have HSc := hid (fun (W' : World) (hb : Below W.heap.size W W') (j : Nat) (hj : j < E.length) => seen_cell (i := j) (h.seen.keep hb) (by omega))
  have HLen := hid hlen
  obtain ⟨n, hn⟩ : ∃ n, n = E.length := ⟨_, rfl⟩
  rw [← hn] at d2 d0 hE HSc HBk HLen
  clear h h3 hlen hsum hsl hn
  obtain ⟨i0, hi0, hz0, hz1, hz2⟩ := info_parts info_intN
  go_enter Try.func25, Try.ntmps25
  go_upto_region 2 with (refine wpList_make_own _ rfl _ _ 37 rfl W.heap.size 3 i0 (.int .i64 0) 1 Try.underlying37 hi0 hz0 hz1 .i64 .i64 _ k.many rfl rfl rfl (by rw [hz2]; omega) (by unfold maxLen; omega) (Nat.le_refl _) ?_; intro w2 hown2 hgr2)
  have HA2 := hid (show AlR W k.seen 0 (.slice (some ⟨W.heap.size, 0, none⟩) 0 k.many) w2 from ⟨Chg.below (Below.refl _ _) (Chg.of_grown hgr2) (Nat.le_refl _) (fun q hq => by cases hq), hown2⟩)
  clear hown2 hgr2 d0 d1 d2 d3 d4 d5 d6
  generalize hu2 : (Value.slice (some ⟨W.heap.size, 0, none⟩) 0 k.many) = u2 at *
  clear hu2
  obtain ⟨d0, d1, d2, d3, d4, d5, d6⟩ := HBk.out _ HA2.out.bel
  go_wp2
  clear d0 d1 d2 d3 d4 d5 d6
  obtain ⟨A2, c2, hs2⟩ := HA2.out.shape
  have hs3 : u2 = .slice A2 (aP k.seen 0).length c2 := hs2
  clear hs2
  go_loopw [3, 16] (fun s3 i wr => ∃ j : Nat, j ≤ n ∧ i = .int .i64 (j : Int) ∧ Hid (AlR W k.seen j s3 wr)) (fun _ i _ => n - (intOf i).toNat)
  case atStart => exact ⟨0, Nat.zero_le _, rfl, HA2⟩
  case round =>
    obtain ⟨j, hj, rfl, HA3⟩ := hrel
    by_cases hlt : j < n
    · have hc := HSc.out _ HA3.out.bel j hlt
      have p3 : (j : Int) < (n : Int) := by omega
      cases hv : k.seen.getD j false with
      | false =>
        rw [hv] at hc
        have HT := hid (show aP k.seen (j + 1) = aP k.seen j by rw [aP_succ, hv]; simp)
        clear hv HSc HBk HA2 hi0 hz0 hz1 hs3
        go_wp2
        go_roundw
        case rel => exact ⟨j + 1, by omega, by go_num, hid ⟨HA3.out.bel, by rw [HT.out]; exact HA3.out.row⟩⟩
        case measure => simp [intOf]; omega
      | true =>
        rw [hv] at hc
        have HT := hid (show aP k.seen (j + 1) = aP k.seen j ++ [j] by rw [aP_succ, hv]; simp)
        have hl := aP_len k.seen j
        have HA4 := hid (HA3.out.keep (al_belowN wr (.cells #[.int .i64 (j : Int)] 3)))
        obtain ⟨A3, c3, rfl⟩ := HA3.out.shape
        have HO4 := hid HA4.out.row
        have HN := hid (int_cell wr (j : Int))
        have hsz := HA3.out.bel.size
        generalize hm : (aP k.seen j).length = m at *
        clear hv HSc HBk HA2 hs3
        go_wp2_with (refine wpList_append_own_at _ rfl _ _ 37 rfl W.heap.size 3 i0 (.int .i64 0) 1 8 Try.underlying37 hi0 hz0 hz1 hz2 rfl (by decide) _ _ _ rfl HO4.out ⟨wr.heap.size, 0, none⟩ 1 1 [.int .i64 (j : Int)] rfl rfl HN.out (by intro u hu; simp at hu; subst hu; rfl) (by unfold maxLen; omega) (by omega) (by simp; omega) ?_; intro u7 w7 hown7 hgrow7 _ _)
        go_roundw
        case rel =>
          refine ⟨j + 1, by omega, by go_num, hid (HA4.out.grown hgrow7 ?_)⟩
          have e1 : (aP k.seen j ++ [j]).length = m + 1 := by rw [List.length_append, hm]; rfl
          have e2 : intsN (aP k.seen j ++ [j]) = intsN (aP k.seen j) ++ [.int .i64 (j : Int)] := by simp [intsN]
          rw [HT.out, e1, e2]
          exact hown7
        case measure => simp [intOf]; omega
    · obtain rfl : j = n := by omega
      clear HSc HBk HA2 hi0 hz0 hz1 hs3
      go_wp2
      go_ret
      have := HA3.out.row
      rw [← HLen.out, aP_all] at this
      exact ⟨_, rfl, this, HA3.out.bel⟩
end Go.Proofs.Ytimffgmbchpfeaa
