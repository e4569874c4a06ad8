/- A region that draws its order, by what holds whichever operations have been done. -/
import Derived.Test.YtbpgfphilcjmdaaDoorBase
import Derived.OrdersHeld
namespace Go.Proofs.YtbpgfphilcjmdaaDoor

section
variable {P : Program} {ops : Array Oper} {Q : Exit → Act → World → Prop}

/-- How many are still to be done. -/
def undone (ops : Array Oper) (l : Array Bool) : Nat := ((List.range ops.size).filter (fun j => !l.getD j true)).length

theorem undone_set {l : Array Bool} {i : Nat} (hi : i < ops.size) (hl : l.getD i true = false) : undone ops (l.setIfInBounds i true) + 1 ≤ undone ops l := by
  have hs : ∀ n, i < n → ((List.range n).filter (fun j => !(l.setIfInBounds i true).getD j true)).length + 1 ≤ ((List.range n).filter (fun j => !l.getD j true)).length := by
    intro n
    induction n with
    | zero => intro h; omega
    | succ n ih =>
      intro hin
      rw [List.range_succ, List.filter_append, List.filter_append, List.length_append, List.length_append]
      by_cases hn : i = n
      · subst hn
        have hlt : i < l.size := by
          rcases Nat.lt_or_ge i l.size with h | h
          · exact h
          · simp [Array.getElem?_eq_none h] at hl
        have e : (List.range i).filter (fun j => !(l.setIfInBounds i true).getD j true) = (List.range i).filter (fun j => !l.getD j true) := by
          apply List.filter_congr
          intro j hj
          rw [getD_set_ne true (by have := List.mem_range.1 hj; omega)]
        have e2 : (l.setIfInBounds i true).getD i true = true := by simp [hlt]
        rw [e, List.filter_cons, e2, List.filter_cons, hl]
        simp
      · have := ih (by omega)
        rw [List.filter_cons, List.filter_cons, getD_set_ne true hn]
        cases l.getD n true
        · simp only [Bool.not_false, if_true, List.filter_nil, List.length_cons, List.length_nil]; omega
        · simp only [Bool.not_true, Bool.false_eq_true, if_false, List.filter_nil, List.length_nil]; omega
  exact hs ops.size hi

/-- What holds of the operations that have been done, the frame and the world: kept by each operation that may come next. -/
theorem wpAny_inv (Inv : (Nat → Bool) → Act → World → Prop) (hwf : ∀ (i : Nat) (o : Oper), ops[i]? = some o → o.guard = none ∧ ∀ e ∈ o.after, e.on < i)
    (hstep : ∀ (L : Nat → Bool) (i : Nat) (o : Oper), ops[i]? = some o → L i = false → (∀ e ∈ o.after, Region.binds .any e = true → L e.on = true) → ∀ a w, Inv L a w → ∀ K, (∀ a' w', Inv (fun j => if j = i then true else L j) a' w' → K a' w') → o.wp P a w K Q)
    (hdone : ∀ L a w, (∀ j, j < ops.size → L j = true) → Inv L a w → Q .normal a w) :
    ∀ (fuel : Nat) (l : Array Bool) (a : Act) (w : World), l.size = ops.size → undone ops l ≤ fuel → Inv (fun j => l.getD j true) a w → wpAny P .any ops Q fuel l a w := by
  have hall : ∀ l : Array Bool, l.size = ops.size → Region.ready .any ops l = [] → ∀ j, j < ops.size → l.getD j true = true := by
    intro l hsz hr j
    induction j using Nat.strongRecOn with
    | _ j ih =>
      intro hj
      cases hh : l.getD j true
      · exfalso
        have hm : j ∈ Region.ready .any ops l := by
          rw [mem_ready]
          obtain ⟨o, ho⟩ : ∃ o, ops[j]? = some o := ⟨_, Array.getElem?_eq_getElem hj⟩
          refine ⟨hh, o, ho, fun e he _ => ?_⟩
          have h1 := (hwf j o ho).2 e he
          have h2 := ih e.on h1 (by omega)
          have h3 : e.on < l.size := by omega
          simpa [h3] using h2
        rw [hr] at hm
        cases hm
      · rfl
  intro fuel
  induction fuel with
  | zero =>
    intro l a w hsz hu hi
    have hd : ∀ j, j < ops.size → l.getD j true = true := by
      intro j hj
      cases hh : l.getD j true
      · exfalso
        have : j ∈ (List.range ops.size).filter (fun j => !l.getD j true) := List.mem_filter.2 ⟨List.mem_range.2 hj, by rw [hh]; rfl⟩
        have h0 : (List.range ops.size).filter (fun j => !l.getD j true) = [] := List.eq_nil_of_length_eq_zero (by unfold undone at hu; omega)
        rw [h0] at this
        cases this
      · rfl
    refine ⟨?_, hdone _ a w hd hi⟩
    apply List.eq_nil_iff_forall_not_mem.2
    intro j hm
    obtain ⟨h1, o, ho, _⟩ := mem_ready.1 hm
    rw [hd j (Array.getElem?_eq_some_iff.1 ho).1] at h1
    cases h1
  | succ fuel ih =>
    intro l a w hsz hu hi
    refine ⟨fun hr => hdone _ a w (hall l hsz hr) hi, fun i hm => ?_⟩
    obtain ⟨h1, o, ho, haf⟩ := mem_ready.1 hm
    have hlt := (Array.getElem?_eq_some_iff.1 ho).1
    unfold wpOp
    rw [ho]
    have hw : Region.wanted o (yielded ops a.tmps) = true := by simp [Region.wanted, (hwf i o ho).1]
    simp only [hw, if_true]
    left
    refine hstep (fun j => l.getD j true) i o ho h1 (fun e he hb => ?_) a w hi _ (fun a' w' hi' => ih _ a' w' (by simpa using hsz) (by have := undone_set hlt h1; omega) ?_)
    · have h3 := haf e he hb
      have h4 := (hwf i o ho).2 e he
      have h5 : e.on < l.size := by omega
      simpa [h5] using h3
    · have e : (fun j => (l.setIfInBounds i true).getD j true) = (fun j => if j = i then true else l.getD j true) := by
        funext j
        by_cases hj : j = i
        · subst hj
          have : j < l.size := by omega
          simp [this]
        · rw [getD_set_ne true (Ne.symm hj), if_neg hj]
      rw [e]
      exact hi'

theorem wp_region_inv {id : Nat} {a : Act} {w : World} (hm : P.follows .mixedOrders = true) (Inv : (Nat → Bool) → Act → World → Prop) (hwf : ∀ (i : Nat) (o : Oper), ops[i]? = some o → o.guard = none ∧ ∀ e ∈ o.after, e.on < i)
    (h0 : Inv (fun j => decide (ops.size ≤ j)) a w.drew)
    (hstep : ∀ (L : Nat → Bool) (i : Nat) (o : Oper), ops[i]? = some o → L i = false → (∀ e ∈ o.after, Region.binds .any e = true → L e.on = true) → ∀ a w, Inv L a w → ∀ K, (∀ a' w', Inv (fun j => if j = i then true else L j) a' w' → K a' w') → o.wp P a w K Q)
    (hdone : ∀ L a w, (∀ j, j < ops.size → L j = true) → Inv L a w → Q .normal a w) : (Code.region id ops true).wp P Q a w := by
  refine wp_region_any hm (wpAny_inv Inv hwf hstep hdone _ _ _ _ (by simp) ?_ ?_)
  · unfold undone
    have := List.length_filter_le (fun j => !(Array.replicate ops.size false).getD j true) (List.range ops.size)
    simpa using this
  · have e : (fun j => (Array.replicate ops.size false).getD j true) = (fun j => decide (ops.size ≤ j)) := by
      funext j
      by_cases hj : j < ops.size
      · simp [hj]
      · simp [hj, show ops.size ≤ j by omega]
    rw [e]
    exact h0
end
end Go.Proofs.YtbpgfphilcjmdaaDoor
