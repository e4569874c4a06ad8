/- nfa: Start. -/
import Derived.Test.YtoiegkejkahfgaaDoorNfQ
import Derived.Test.YtoiegkejkahfgaaDoorShelf
namespace Go.Proofs.YtoiegkejkahfgaaDoor
set_option linter.unusedSimpArgs false
set_option linter.unusedVariables false
open Go.RowKit
variable {w0 w w' W W' : World} {A : Option Addr} {c B bS : Nat} {E : EG} {en : Int} {k : WK}

def intsI (l : List Int) : List Value := l.map fun (s : Int) => Value.int .i64 s
theorem ints_nat (l : List Nat) : intsI (natI l) = intsN l := by simp [intsI, intsN, natI]
theorem natI_len (l : List Nat) : (natI l).length = l.length := by simp [natI]
theorem il_of_own {base n lc : Nat} {l : List Int} (h : w.ownsRow base 3 1 (.slice A n lc) n (intsI l)) : IL w A l := fun h0 => by
  have hl : (intsI l).length = l.length := by simp [intsI]
  have h1 := h.1
  rcases h.2 with ⟨hq, hm⟩ | ⟨g, cap, cur, hq, _, hg, _⟩
  · omega
  · injection hq with hq _ _
    subst hq
    refine ⟨g, 0, rfl, (own_blockN h g rfl).2, fun j hj => ?_⟩
    have := h.cells (g := g) rfl j (intsI l)[j] (List.getElem?_eq_getElem (by omega))
    rw [addr_add] at this
    rw [this]
    simp [intsI]
/-- What Reach and its like leave: a fresh row of states. -/
def RowN (w : World) (l : List Nat) (e : Ending) (w' : World) : Prop := ∃ A lc, e = .returned (.slice A l.length lc) ∧ w'.ownsRow w.heap.size 3 1 (.slice A l.length lc) l.length (intsN l) ∧ Below w.heap.size w w'
theorem rowN_il {l : List Nat} {base lc : Nat} (h : w.ownsRow base 3 1 (.slice A l.length lc) l.length (intsN l)) : IL w A (natI l) := il_of_own (n := l.length) (by rw [ints_nat]; exact h)
theorem reach_row (h : AuV w A c E) (hE : E.length ≤ 5000) (hE2 : ∀ s, (E.getD s []).length ≤ 100000) (LA : Option Addr) (lc : Nat) (l : List Int) (hl : IL w LA l) (hln : l.length ≤ 1000000000) : Calls Tryd.prog 21 #[.agg #[.slice A E.length c, .int .i64 en], .slice LA l.length lc] w (RowN w (reachP E l)) :=
  (reach_any h hE (fun s => Nat.le_trans (hE2 s) (by omega)) LA lc l hl hln).mono fun e w' ⟨u, e1, ho, hb⟩ => by
    obtain ⟨A', lc', rfl⟩ := own_shapeN ho
    exact ⟨A', lc', e1, ho, hb⟩
set_option maxRecDepth 100000 in
set_option maxHeartbeats 1000000 in
theorem start_any (h : AuV w A c E) (hE : E.length ≤ 5000) (hE2 : ∀ s, (E.getD s []).length ≤ 100000) : Calls Tryd.prog 7 #[.agg #[.slice A E.length c, .int .i64 en]] w (RowN w (startP E)) := by
  unfold startP
  have hal := al_belowN w (.cells #[.slice A E.length c, .int .i64 en] 33)
  have hb0 : Blk (w.alloc (.cells #[.slice A E.length c, .int .i64 en] 33)) w.heap.size 33 [.slice A E.length c, .int .i64 en] := Blk.fresh w _ _
  have k0 := hb0.at 0
  have k1 := hb0.at 1
  simp only [List.getElem?_cons_zero, List.getElem?_cons_succ] at k0 k1
  have HB := hid hal
  have HV := hid (h.keep hal)
  have HE2 := hid hE2
  clear h hb0 hal hE2
  go_enter Tryd.func7, Tryd.ntmps7
  go_upto_region 1 with fail
  change Code.wp _ _ _ _ (w.alloc (.cells #[.slice A E.length c, .int .i64 en] 33))
  generalize w.alloc (.cells #[.slice A E.length c, .int .i64 en] 33) = w1 at *
  have hal2 := al_belowN w1 (.cells #[.int .i64 0] 3)
  have HR := hid (reach_row (en := en) (HV.out.keep hal2) hE HE2.out (some ⟨w1.heap.size, 0, none⟩) 1 [0] (fun _ => ⟨w1.heap.size, 0, rfl, (Blk.fresh w1 3 [.int .i64 0]).lt, fun j hj => by
    obtain rfl : j = 0 := by simpa using hj
    exact (Blk.fresh w1 3 [.int .i64 0]).at 0⟩) (by simp))
  have HB2 := hid (HB.out.trans (hal2.mono HB.out.size))
  clear hal2 HB HV HE2
  generalize reachP E [0] = R at *
  go_wp2_with (go_at_call 21; refine HR.out.mono ?_; rintro e w9 ⟨A9, c9, rfl, ho, hb⟩)
  go_ret
  exact ⟨A9, c9, rfl, own_base ho HB2.out.size, HB2.out.trans (hb.mono HB2.out.size)⟩
end Go.Proofs.YtoiegkejkahfgaaDoor

/- nfa: Ends. -/
namespace Go.Proofs.YtoiegkejkahfgaaDoor
set_option linter.unusedSimpArgs false
set_option linter.unusedVariables false
open Go.RowKit
variable {w0 w w' W W' : World} {A : Option Addr} {c B bS : Nat} {E : EG} {en : Int} {k : WK}

theorem IL.getD {l : List Int} {b o : Nat} (hc : ∀ j (h : j < l.length), w.cell? ⟨b, o + j, none⟩ = some (.int .i64 l[j])) : ∀ j, j < l.length → w.cell? ⟨b, o + j, none⟩ = some (.int .i64 (l.getD j 0)) := fun j hj => by
  rw [hc j hj, List.getD_eq_getElem?_getD, List.getElem?_eq_getElem hj]
  rfl
theorem contains_any {LA : Option Addr} {l : List Int} (hl : IL w LA l) (hln : l.length ≤ 1000000000) (lc : Nat) (x : Int) : Calls Tryd.prog 49 #[.slice LA l.length lc, .int .i64 x] w fun e w' => e = .returned (.bool (l.contains x)) ∧ w' = w := by
  cases l with
  | nil => exact Tryd.slices_Contains_int_empty LA lc x w
  | cons y ys =>
    obtain ⟨b, o, rfl, _, hc⟩ := hl (by simp)
    refine (Tryd.slices_Contains_int b o (y :: ys).length lc (y :: ys) x w (Nat.le_refl _) (by omega) (IL.getD hc)).mono fun e w' h => ?_
    rw [List.take_length] at h
    exact h
set_option maxRecDepth 100000 in
set_option maxHeartbeats 1000000 in
theorem ends_any (n : Nat) {LA : Option Addr} {l : List Int} (hl : IL w LA l) (hln : l.length ≤ 1000000000) (lc : Nat) : Calls Tryd.prog 33 #[.agg #[.slice A n c, .int .i64 en], .slice LA l.length lc] w fun e w' => e = .returned (.bool (l.contains en)) ∧ Below w.heap.size w w' := by
  have hal := al_belowN w (.cells #[.slice A n c, .int .i64 en] 33)
  have hb0 : Blk (w.alloc (.cells #[.slice A n c, .int .i64 en] 33)) w.heap.size 33 [.slice A n c, .int .i64 en] := Blk.fresh w _ _
  have k0 := hb0.at 0
  have k1 := hb0.at 1
  simp only [List.getElem?_cons_zero, List.getElem?_cons_succ] at k0 k1
  have HB := hid hal
  have HC := hid (contains_any (hl.keep hal) hln lc en)
  clear hb0 hal hl
  generalize l.contains en = R at *
  go_enter Tryd.func33, Tryd.ntmps33
  go_upto_region 1 with fail
  change Code.wp _ _ _ _ (w.alloc (.cells #[.slice A n c, .int .i64 en] 33))
  generalize w.alloc (.cells #[.slice A n c, .int .i64 en] 33) = w1 at *
  go_wp2_with (go_at_call 49; refine HC.out.mono ?_; rintro e w9 ⟨rfl, rfl⟩)
  go_ret
  exact ⟨rfl, HB.out⟩
end Go.Proofs.YtoiegkejkahfgaaDoor
