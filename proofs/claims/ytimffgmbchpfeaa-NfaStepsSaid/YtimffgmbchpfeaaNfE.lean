/- nfa: one edge more. -/
import Derived.Test.YtimffgmbchpfeaaNfD
namespace Go.Proofs.Ytimffgmbchpfeaa
set_option linter.unusedSimpArgs false
set_option linter.unusedVariables false
open Go.RowKit

variable {w w' w2 : World} {O : Nat → Prop} {v : Value} {E : EG} {vs : List Value} {g : Nat}
theorem StM.below {w1 : World} (h : StM w1 O g E w') (hb : Below w.heap.size w w1) : StM w O g E w' := by
  obtain ⟨O', h1, h2, h3⟩ := h
  exact ⟨O', h1, (Chg.of_below hb O).trans h2, fun b hb2 => (h3 b hb2).imp id (fun q => Nat.le_trans hb.size q)⟩
theorem EdV.outer (h : EdV w O v E vs) (hE : 0 < E.length) : ∃ gA c, v = .slice (some ⟨gA, 0, none⟩) E.length c ∧ gA < w.heap.size ∧ O gA ∧ (∀ j (hj : j < vs.length), w.cell? ⟨gA, j, none⟩ = some vs[j]) ∧ ∀ j, w.frozen? ⟨gA, j, none⟩ = false := by
  have hrow := h.row
  rcases hrow.2 with ⟨hv, hm⟩ | ⟨gA, cap, cur, hv, hb, hg, h1, h2, h3, h4⟩
  · omega
  · subst hv
    refine ⟨gA, cap, rfl, (Array.getElem?_eq_some_iff.1 hg).1, h.own gA rfl, fun j hj => ?_, fun j => Blk.free (t := 64) (cs := cur.toList) (by unfold Blk; simpa using hg) j⟩
    have := hrow.cells (g := gA) rfl j vs[j] (List.getElem?_eq_getElem hj)
    rw [addr_add, Nat.zero_add] at this
    exact this
/-- What stands behind the append of an edge. -/
theorem add_post {gA cA f m cI : Nat} {B : Option Addr} (hb : Blk w g 56 [.slice (some ⟨gA, 0, none⟩) E.length cA, .int .i64 0]) (hO : O g) (hv : EdV w O (.slice (some ⟨gA, 0, none⟩) E.length cA) E vs) (hf : f < E.length) (hfv : f < vs.length) (hB : vs[f] = .slice B m cI) (hm : m = E[f].length) (e : Ed)
    {g9 c9 : Nat} (hown : w'.ownsRow 0 67 6 (.slice (some ⟨g9, 0, none⟩) (m + 1) c9) (m + 1) (flatE E[f] ++ e.cells)) (hgr : (w.alloc (.cells e.cells.toArray 67)).grownBy w' (Value.slice B m cI).ownBlock) (hat : (Value.slice B m cI).ownBlock = some g9 ∨ g9 = (w.alloc (.cells e.cells.toArray 67)).heap.size) :
    w'.cell? ⟨g, 0, none⟩ = some (.slice (some ⟨gA, 0, none⟩) E.length cA) ∧ w'.cell? ⟨gA, f, none⟩ = some (.slice B m cI) ∧ w'.frozen? ⟨gA, f, none⟩ = false ∧ StM w O g (addE E f e) (w'.setCell ⟨gA, f, none⟩ (.slice (some ⟨g9, 0, none⟩) (m + 1) c9)) := by
  have hal := al_belowN w (.cells e.cells.toArray 67)
  have hv1 := hv.chg (Chg.of_below hal (fun _ => False)) (fun _ _ h => h)
  have hb1 := hb.keep hal
  have hk1 := hv1.kid f hfv hf
  rw [← hB] at hgr hat
  have hb2 : Blk w' g 56 [.slice (some ⟨gA, 0, none⟩) E.length cA, .int .i64 0] := (hgr.block g hb1.lt (fun e => own_neN hk1.1 hb1 (by decide) e.symm)).trans hb1
  have hr2 : w'.ownsRow 0 64 1 (.slice (some ⟨gA, 0, none⟩) E.length cA) E.length vs := owns_chg hv1.row (Chg.of_grown hgr) (fun k hk e => own_apartN hv1.row hk1.1 (by decide) k hk e)
  have hadd := hv1.add (w' := w') rfl hf hfv e (u' := .slice (some ⟨g9, 0, none⟩) (m + 1) c9) (by rw [← hm]; exact hown) hgr (by
    rcases hat with q | q
    · exact .inl q.symm
    · exact .inr (by rw [q]; rfl))
  have hcell : w'.cell? ⟨gA, f, none⟩ = some vs[f] := by
    have := hr2.cells (g := gA) rfl f vs[f] (List.getElem?_eq_getElem hfv)
    rw [addr_add, Nat.zero_add] at this
    exact this
  have hfr : w'.frozen? ⟨gA, f, none⟩ = false := by
    rcases hr2.2 with ⟨hv, _⟩ | ⟨g2, cap, cur, hv, _, hg, _⟩
    · cases hv
    · injection hv with e1 _ _
      injection e1 with e1
      injection e1 with e1
      subst e1
      exact Blk.free (t := 64) (cs := cur.toList) (by unfold Blk; simpa using hg) f
  have hne : g ≠ gA := fun e => own_neN hr2 hb2 (by decide) (by rw [e]; rfl)
  refine ⟨hb2.at 0, by rw [hcell, hB], hfr, (fun b => O b ∨ w.heap.size ≤ b), ⟨some ⟨gA, 0, none⟩, cA, vs.set f (.slice (some ⟨g9, 0, none⟩) (m + 1) c9), ?_, .inl hO, ?_⟩, ?_, fun b hb => hb⟩
  · rw [addE_len]
    exact hb2.other (p := ⟨gA, f, none⟩) hne _
  · rw [addE_len]
    exact hadd.mono (fun b hb => hb.imp id (fun q => Nat.le_trans hal.size q))
  · exact ((Chg.of_below hal O).trans ((Chg.of_grown hgr).more (fun k _ e => hk1.2 k e))).set gA f (hv.own gA rfl) _
set_option maxRecDepth 100000 in
set_option maxHeartbeats 4000000 in
theorem free_any (h : MkR w O g E) {f t : Nat} (hf : f < E.length) (hr : totE E ≤ 1000000) : Calls Try.prog 41 #[.pointer (some ⟨g, 0, none⟩), .int .i64 (f : Int), .int .i64 (t : Int)] w fun e w' => e = .returned (.tuple #[]) ∧ StM w O g (freeE E f t) w' := by
  obtain ⟨A, c, vs, hb, hg, hv⟩ := h
  obtain ⟨gA, cA, hA, hltA, hOA, hcells, hfz⟩ := hv.outer (by omega)
  rw [hA] at hb hv
  clear hA
  have hfv : f < vs.length := by rw [hv.len]; exact hf
  have hk := hv.kid f hfv hf
  obtain ⟨B, cI, hB⟩ := own_shapeN hk.1
  have hrow := tot_row E f
  have hgd : E.getD f [] = E[f] := by simp [List.getD, hf]
  rw [hgd] at hrow
  go_enter Try.func41, Try.ntmps41
  go_upto_region 0 with fail
  refine fre_reg (g := g) (gA := gA) (nA := E.length) (cA := cA) (fx := f) (tx := t) (m := E[f].length) (cI := cI) (B := B) (xs := flatE E[f]) (R4 := fun wx => StM w O g (freeE E f t) wx) rfl rfl rfl (by simp) hf (by omega) (hb.at 0) ((hcells f hfv).trans (by rw [hB])) hb.lt hltA (by rw [← hB]; exact hk.1) ?_ ?_
  · intro g9 c9 w' hown hgr hat
    obtain ⟨p1, p2, p3, p4⟩ := add_post (w := w.drew) hb hg (hv.chg (S := fun _ => False) ⟨rfl, rfl, rfl, Nat.le_refl _, fun _ _ _ => rfl⟩ (fun _ _ h => h)) hf hfv hB rfl ⟨t, 0#256, true⟩ hown hgr hat
    exact ⟨p1, p2, p3, trivial, p4.below (⟨rfl, rfl, rfl, Nat.le_refl _, fun _ _ => rfl⟩)⟩
  · intro f2 wx h4
    simp only [freUs, List.foldl_cons, List.foldl_nil, List.setIfInBounds_toArray, List.set_cons_zero, List.set_cons_succ]
    go_end0
    exact ⟨rfl, h4⟩
set_option maxRecDepth 100000 in
set_option maxHeartbeats 4000000 in
theorem by_any (h : MkR w O g E) {f t : Nat} (q : BS) (hf : f < E.length) (hr : totE E ≤ 1000000) (hO : ∀ b, O b → b < w.heap.size) : Calls Try.prog 32 #[.pointer (some ⟨g, 0, none⟩), .int .i64 (f : Int), .int .i64 (t : Int), .agg #[.int .u64 ((wd q 0 : Nat) : Int), .int .u64 ((wd q 1 : Nat) : Int), .int .u64 ((wd q 2 : Nat) : Int), .int .u64 ((wd q 3 : Nat) : Int)]] w fun e w' => e = .returned (.tuple #[]) ∧ StM w O g (addE E f ⟨t, q, false⟩) w' := by
  have hal := al_belowN w (.cells (setL q).toArray 65)
  obtain ⟨A, c, vs, hb, hg, hv⟩ := h.keep hal
  obtain ⟨gA, cA, hA, hltA, hOA, hcells, hfz⟩ := hv.outer (by omega)
  rw [hA] at hb hv
  clear hA
  have hfv : f < vs.length := by rw [hv.len]; exact hf
  have hk := hv.kid f hfv hf
  obtain ⟨B, cI, hB⟩ := own_shapeN hk.1
  have hrow := tot_row E f
  have hgd : E.getD f [] = E[f] := by simp [List.getD, hf]
  rw [hgd] at hrow
  have hqs : Blk (w.alloc (.cells (setL q).toArray 65)) w.heap.size 65 (setL q) := heap_alloc_new w _
  go_enter Try.func32, Try.ntmps32
  go_upto_region 1 with fail
  change Code.wp _ _ _ _ (w.alloc (.cells (setL q).toArray 65))
  refine byr_reg (g := g) (gA := gA) (nA := E.length) (cA := cA) (fx := f) (tx := t) (m := E[f].length) (cI := cI) (B := B) (gs := w.heap.size) (q := q) (xs := flatE E[f]) (R4 := fun wx => StM w O g (addE E f ⟨t, q, false⟩) wx) rfl rfl rfl rfl (by simp) hf (by omega) (hb.at 0) ((hcells f hfv).trans (by rw [hB])) hb.lt hltA hqs hqs.lt (by rw [← hB]; exact hk.1) ?_ ?_
  · intro g9 c9 w' hown hgr hat
    obtain ⟨p1, p2, p3, p4⟩ := add_post (w := (w.alloc (.cells (setL q).toArray 65)).drew) hb hg (hv.chg (S := fun _ => False) ⟨rfl, rfl, rfl, Nat.le_refl _, fun _ _ _ => rfl⟩ (fun _ _ h => h)) hf hfv hB rfl ⟨t, q, false⟩ hown hgr hat
    refine ⟨p1, p2, p3, ?_, p4.below hal.drew⟩
    have hq1 := hqs.keep (al_belowN (w.alloc (.cells (setL q).toArray 65)) (.cells (Ed.mk t q false).cells.toArray 67))
    exact (hgr.block w.heap.size hq1.lt (fun e => by
      rw [← hB] at e
      have := hO _ (hk.2 _ e.symm)
      omega)).trans hq1
  · intro f2 wx h4
    simp only [byrUs, List.foldl_cons, List.foldl_nil, List.setIfInBounds_toArray, List.set_cons_zero, List.set_cons_succ]
    go_end0
    exact ⟨rfl, h4⟩
end Go.Proofs.Ytimffgmbchpfeaa
