/- A region that draws its order, by what holds whichever operations have been done. -/
import Derived.Test.YtoiegkejkahfgaaDoorBase
import Derived.OrdersHeld
import Derived.Deep.Cut
import Derived.OwnWalk
import Derived.Laws.StructEq
import Derived.Shelf.Abstract
import Derived.Laws.Tables
import Derived.Laws.Rows
import Derived.Below
namespace Go.Proofs.YtoiegkejkahfgaaDoor
set_option linter.unusedSimpArgs false
set_option linter.unusedVariables false

section
variable {P : Program} {ops : Array Oper} {Q : Exit → Act → World → Prop}

/-- How many are still to be done. -/
def undone (ops : Array Oper) (l : Array Bool) : Nat := ((List.range ops.size).filter (fun j => !l.getD j true)).length

theorem undone_set {l : Array Bool} {i : Nat} (hi : i < ops.size) (hl : l.getD i true = false) : undone ops (l.setIfInBounds i true) + 1 ≤ undone ops l := by
  have hs : ∀ n, i < n → ((List.range n).filter (fun j => !(l.setIfInBounds i true).getD j true)).length + 1 ≤ ((List.range n).filter (fun j => !l.getD j true)).length := by
    intro n
    induction n with
    | zero => intro h; omega
    | succ n ih =>
      intro hin
      rw [List.range_succ, List.filter_append, List.filter_append, List.length_append, List.length_append]
      by_cases hn : i = n
      · subst hn
        have hlt : i < l.size := by
          rcases Nat.lt_or_ge i l.size with h | h
          · exact h
          · simp [Array.getElem?_eq_none h] at hl
        have e : (List.range i).filter (fun j => !(l.setIfInBounds i true).getD j true) = (List.range i).filter (fun j => !l.getD j true) := by
          apply List.filter_congr
          intro j hj
          rw [getD_set_ne true (by have := List.mem_range.1 hj; omega)]
        have e2 : (l.setIfInBounds i true).getD i true = true := by simp [hlt]
        rw [e, List.filter_cons, e2, List.filter_cons, hl]
        simp
      · have := ih (by omega)
        rw [List.filter_cons, List.filter_cons, getD_set_ne true hn]
        cases l.getD n true
        · simp only [Bool.not_false, if_true, List.filter_nil, List.length_cons, List.length_nil]; omega
        · simp only [Bool.not_true, Bool.false_eq_true, if_false, List.filter_nil, List.length_nil]; omega
  exact hs ops.size hi

/-- What holds of the operations that have been done, the frame and the world: kept by each operation that may come next. -/
theorem wpAny_inv (Inv : (Nat → Bool) → Act → World → Prop) (hwf : ∀ (i : Nat) (o : Oper), ops[i]? = some o → o.guard = none ∧ ∀ e ∈ o.after, e.on < i)
    (hstep : ∀ (L : Nat → Bool) (i : Nat) (o : Oper), ops[i]? = some o → L i = false → (∀ e ∈ o.after, Region.binds .any e = true → L e.on = true) → ∀ a w, Inv L a w → ∀ K, (∀ a' w', Inv (fun j => if j = i then true else L j) a' w' → K a' w') → o.wp P a w K Q)
    (hdone : ∀ L a w, (∀ j, j < ops.size → L j = true) → Inv L a w → Q .normal a w) :
    ∀ (fuel : Nat) (l : Array Bool) (a : Act) (w : World), l.size = ops.size → undone ops l ≤ fuel → Inv (fun j => l.getD j true) a w → wpAny P .any ops Q fuel l a w := by
  have hall : ∀ l : Array Bool, l.size = ops.size → Region.ready .any ops l = [] → ∀ j, j < ops.size → l.getD j true = true := by
    intro l hsz hr j
    induction j using Nat.strongRecOn with
    | _ j ih =>
      intro hj
      cases hh : l.getD j true
      · exfalso
        have hm : j ∈ Region.ready .any ops l := by
          rw [mem_ready]
          obtain ⟨o, ho⟩ : ∃ o, ops[j]? = some o := ⟨_, Array.getElem?_eq_getElem hj⟩
          refine ⟨hh, o, ho, fun e he _ => ?_⟩
          have h1 := (hwf j o ho).2 e he
          have h2 := ih e.on h1 (by omega)
          have h3 : e.on < l.size := by omega
          simpa [h3] using h2
        rw [hr] at hm
        cases hm
      · rfl
  intro fuel
  induction fuel with
  | zero =>
    intro l a w hsz hu hi
    have hd : ∀ j, j < ops.size → l.getD j true = true := by
      intro j hj
      cases hh : l.getD j true
      · exfalso
        have : j ∈ (List.range ops.size).filter (fun j => !l.getD j true) := List.mem_filter.2 ⟨List.mem_range.2 hj, by rw [hh]; rfl⟩
        have h0 : (List.range ops.size).filter (fun j => !l.getD j true) = [] := List.eq_nil_of_length_eq_zero (by unfold undone at hu; omega)
        rw [h0] at this
        cases this
      · rfl
    refine ⟨?_, hdone _ a w hd hi⟩
    apply List.eq_nil_iff_forall_not_mem.2
    intro j hm
    obtain ⟨h1, o, ho, _⟩ := mem_ready.1 hm
    rw [hd j (Array.getElem?_eq_some_iff.1 ho).1] at h1
    cases h1
  | succ fuel ih =>
    intro l a w hsz hu hi
    refine ⟨fun hr => hdone _ a w (hall l hsz hr) hi, fun i hm => ?_⟩
    obtain ⟨h1, o, ho, haf⟩ := mem_ready.1 hm
    have hlt := (Array.getElem?_eq_some_iff.1 ho).1
    unfold wpOp
    rw [ho]
    have hw : Region.wanted o (yielded ops a.tmps) = true := by simp [Region.wanted, (hwf i o ho).1]
    simp only [hw, if_true]
    left
    refine hstep (fun j => l.getD j true) i o ho h1 (fun e he hb => ?_) a w hi _ (fun a' w' hi' => ih _ a' w' (by simpa using hsz) (by have := undone_set hlt h1; omega) ?_)
    · have h3 := haf e he hb
      have h4 := (hwf i o ho).2 e he
      have h5 : e.on < l.size := by omega
      simpa [h5] using h3
    · have e : (fun j => (l.setIfInBounds i true).getD j true) = (fun j => if j = i then true else l.getD j true) := by
        funext j
        by_cases hj : j = i
        · subst hj
          have : j < l.size := by omega
          simp [this]
        · rw [getD_set_ne true (Ne.symm hj), if_neg hj]
      rw [e]
      exact hi'

theorem wp_region_inv {id : Nat} {a : Act} {w : World} (hm : P.follows .mixedOrders = true) (Inv : (Nat → Bool) → Act → World → Prop) (hwf : ∀ (i : Nat) (o : Oper), ops[i]? = some o → o.guard = none ∧ ∀ e ∈ o.after, e.on < i)
    (h0 : Inv (fun j => decide (ops.size ≤ j)) a w.drew)
    (hstep : ∀ (L : Nat → Bool) (i : Nat) (o : Oper), ops[i]? = some o → L i = false → (∀ e ∈ o.after, Region.binds .any e = true → L e.on = true) → ∀ a w, Inv L a w → ∀ K, (∀ a' w', Inv (fun j => if j = i then true else L j) a' w' → K a' w') → o.wp P a w K Q)
    (hdone : ∀ L a w, (∀ j, j < ops.size → L j = true) → Inv L a w → Q .normal a w) : (Code.region id ops true).wp P Q a w := by
  refine wp_region_any hm (wpAny_inv Inv hwf hstep hdone _ _ _ _ (by simp) ?_ ?_)
  · unfold undone
    have := List.length_filter_le (fun j => !(Array.replicate ops.size false).getD j true) (List.range ops.size)
    simpa using this
  · have e : (fun j => (Array.replicate ops.size false).getD j true) = (fun j => decide (ops.size ≤ j)) := by
      funext j
      by_cases hj : j < ops.size
      · simp [hj]
      · simp [hj, show ops.size ≤ j by omega]
    rw [e]
    exact h0
end
end Go.Proofs.YtoiegkejkahfgaaDoor

/- A region that draws its order, by what holds of its slots whichever operations have been done: the frame as a function. -/
namespace Go.Proofs.YtoiegkejkahfgaaDoor
set_option linter.unusedSimpArgs false
set_option linter.unusedVariables false

theorem getD_setV {A : Array Value} {u t : Nat} {v d : Value} (h : u ≠ t) : (A.setIfInBounds u v).getD t d = A.getD t d := by
  rw [Array.getD_eq_getD_getElem?, Array.getD_eq_getD_getElem?, Array.getElem?_setIfInBounds_ne h]
section
variable {P : Program} {ops : Array Oper} {Q : Exit → Act → World → Prop}

/-- What holds of the operations that have been done, the frame and the world: kept by each operation that may come next. -/
theorem wpAny_inv2 (Inv : (Nat → Bool) → Act → World → Prop) (hwf : ∀ (i : Nat) (o : Oper), ops[i]? = some o → o.guard = none ∧ ∀ e ∈ o.after, Region.binds .any e = true → e.on < i)
    (hstep : ∀ (L : Nat → Bool) (i : Nat) (o : Oper), ops[i]? = some o → L i = false → (∀ e ∈ o.after, Region.binds .any e = true → L e.on = true) → ∀ a w, Inv L a w → ∀ K, (∀ a' w', Inv (fun j => if j = i then true else L j) a' w' → K a' w') → o.wp P a w K Q)
    (hdone : ∀ L a w, (∀ j, j < ops.size → L j = true) → Inv L a w → Q .normal a w) :
    ∀ (fuel : Nat) (l : Array Bool) (a : Act) (w : World), l.size = ops.size → undone ops l ≤ fuel → Inv (fun j => l.getD j true) a w → wpAny P .any ops Q fuel l a w := by
  have hall : ∀ l : Array Bool, l.size = ops.size → Region.ready .any ops l = [] → ∀ j, j < ops.size → l.getD j true = true := by
    intro l hsz hr j
    induction j using Nat.strongRecOn with
    | _ j ih =>
      intro hj
      cases hh : l.getD j true
      · exfalso
        have hm : j ∈ Region.ready .any ops l := by
          rw [mem_ready]
          obtain ⟨o, ho⟩ : ∃ o, ops[j]? = some o := ⟨_, Array.getElem?_eq_getElem hj⟩
          refine ⟨hh, o, ho, fun e he hbd => ?_⟩
          have h1 := (hwf j o ho).2 e he hbd
          have h2 := ih e.on h1 (by omega)
          have h3 : e.on < l.size := by omega
          simpa [h3] using h2
        rw [hr] at hm
        cases hm
      · rfl
  intro fuel
  induction fuel with
  | zero =>
    intro l a w hsz hu hi
    have hd : ∀ j, j < ops.size → l.getD j true = true := by
      intro j hj
      cases hh : l.getD j true
      · exfalso
        have : j ∈ (List.range ops.size).filter (fun j => !l.getD j true) := List.mem_filter.2 ⟨List.mem_range.2 hj, by rw [hh]; rfl⟩
        have h0 : (List.range ops.size).filter (fun j => !l.getD j true) = [] := List.eq_nil_of_length_eq_zero (by unfold undone at hu; omega)
        rw [h0] at this
        cases this
      · rfl
    refine ⟨?_, hdone _ a w hd hi⟩
    apply List.eq_nil_iff_forall_not_mem.2
    intro j hm
    obtain ⟨h1, o, ho, _⟩ := mem_ready.1 hm
    rw [hd j (Array.getElem?_eq_some_iff.1 ho).1] at h1
    cases h1
  | succ fuel ih =>
    intro l a w hsz hu hi
    refine ⟨fun hr => hdone _ a w (hall l hsz hr) hi, fun i hm => ?_⟩
    obtain ⟨h1, o, ho, haf⟩ := mem_ready.1 hm
    have hlt := (Array.getElem?_eq_some_iff.1 ho).1
    unfold wpOp
    rw [ho]
    have hw : Region.wanted o (yielded ops a.tmps) = true := by simp [Region.wanted, (hwf i o ho).1]
    simp only [hw, if_true]
    left
    refine hstep (fun j => l.getD j true) i o ho h1 (fun e he hb => ?_) a w hi _ (fun a' w' hi' => ih _ a' w' (by simpa using hsz) (by have := undone_set hlt h1; omega) ?_)
    · have h3 := haf e he hb
      have h4 := (hwf i o ho).2 e he hb
      have h5 : e.on < l.size := by omega
      simpa [h5] using h3
    · have e : (fun j => (l.setIfInBounds i true).getD j true) = (fun j => if j = i then true else l.getD j true) := by
        funext j
        by_cases hj : j = i
        · subst hj
          have : j < l.size := by omega
          simp [this]
        · rw [getD_set_ne true (Ne.symm hj), if_neg hj]
      rw [e]
      exact hi'


/-- The frame's slots as a function. -/
def Act.at (a : Act) (t : Nat) : Value := a.tmps.getD t undef
theorem Act.at_put (a : Act) (d : Option Nat) (v : Value) (hd : ∀ t, d = some t → t < a.tmps.size) (t : Nat) : Act.at (a.put d v) t = if d = some t then v else Act.at a t := by
  cases d with
  | none => rfl
  | some u =>
    have hu := hd u rfl
    unfold Act.at Act.put
    by_cases h : u = t
    · subst h
      simp [hu]
    · rw [if_neg (by intro e; injection e; contradiction)]
      exact getD_setV h
theorem wp_region_fun {id : Nat} {a : Act} {w : World} (hm : P.follows .mixedOrders = true) (C : (Nat → Bool) → (Nat → Value) → World → Prop) (slots : List Nat)
    (hwf : ∀ (i : Nat) (o : Oper), ops[i]? = some o → o.guard = none ∧ ∀ e ∈ o.after, Region.binds .any e = true → e.on < i)
    (hdst : ∀ (i : Nat) (o : Oper), ops[i]? = some o → ∀ t, o.dst = some t → t ∈ slots ∧ t < a.tmps.size)
    (h0 : C (fun j => decide (ops.size ≤ j)) (Act.at a) w.drew)
    (hstep : ∀ (L : Nat → Bool) (i : Nat) (o : Oper), ops[i]? = some o → L i = false → (∀ e ∈ o.after, Region.binds .any e = true → L e.on = true) → ∀ (b : Act) w, (∀ t, t ∉ slots → Act.at b t = Act.at a t) → C L (Act.at b) w → ∀ K, (∀ v w', C (fun j => if j = i then true else L j) (fun t => if o.dst = some t then v else Act.at b t) w' → K (b.put o.dst v) w') → o.wp P b w K Q)
    (hdone : ∀ L (b : Act) w, (∀ j, j < ops.size → L j = true) → b.defers = a.defers → b.tmps.size = a.tmps.size → (∀ t, t ∉ slots → Act.at b t = Act.at a t) → C L (Act.at b) w → Q .normal b w) : (Code.region id ops true).wp P Q a w := by
  refine wp_region_any hm (wpAny_inv2 (fun L b w => b.defers = a.defers ∧ b.tmps.size = a.tmps.size ∧ (∀ t, t ∉ slots → Act.at b t = Act.at a t) ∧ C L (Act.at b) w) hwf ?_ ?_ _ _ _ _ (by simp) ?_ ?_)
  · rintro L i o ho hL haf b w ⟨hd, hs, hf, hc⟩ K hK
    refine hstep L i o ho hL haf b w hf hc K fun v w' hc' => hK _ _ ⟨?_, ?_, ?_, ?_⟩
    · rw [← hd]; cases o.dst <;> rfl
    · rw [← hs]; cases o.dst <;> simp [Act.put]
    · intro t ht
      rw [Act.at_put b _ v (fun u hu => by rw [hs]; exact (hdst i o ho u hu).2), if_neg (fun e => ht (hdst i o ho t e).1)]
      exact hf t ht
    · have e : Act.at (b.put o.dst v) = fun t => if o.dst = some t then v else Act.at b t := funext fun t => Act.at_put b _ v (fun u hu => by rw [hs]; exact (hdst i o ho u hu).2) t
      rw [e]
      exact hc'
  · rintro L b w hL ⟨hd, hs, hf, hc⟩
    exact hdone L b w hL hd hs hf hc
  · unfold undone
    have := List.length_filter_le (fun j => !(Array.replicate ops.size false).getD j true) (List.range ops.size)
    simpa using this
  · refine ⟨rfl, rfl, fun _ _ => rfl, ?_⟩
    have e : (fun j => (Array.replicate ops.size false).getD j true) = (fun j => decide (ops.size ≤ j)) := by
      funext j
      by_cases hj : j < ops.size
      · simp [hj]
      · simp [hj, show ops.size ≤ j by omega]
    rw [e]
    exact h0
theorem wpAny_inv3 (Inv : (Nat → Bool) → Act → World → Prop) (hwf : ∀ (i : Nat) (o : Oper), ops[i]? = some o → ∀ e ∈ o.after, Region.binds .any e = true → e.on < i)
    (hstep : ∀ (L : Nat → Bool) (i : Nat) (o : Oper), ops[i]? = some o → L i = false → (∀ e ∈ o.after, Region.binds .any e = true → L e.on = true) → ∀ a w, Inv L a w → ∀ K, (∀ a' w', Inv (fun j => if j = i then true else L j) a' w' → K a' w') → (Region.wanted o (yielded ops a.tmps) = true → o.wp P a w K Q) ∧ (Region.wanted o (yielded ops a.tmps) = false → K (a.put o.dst undef) w))
    (hdone : ∀ L a w, (∀ j, j < ops.size → L j = true) → Inv L a w → Q .normal a w) :
    ∀ (fuel : Nat) (l : Array Bool) (a : Act) (w : World), l.size = ops.size → undone ops l ≤ fuel → Inv (fun j => l.getD j true) a w → wpAny P .any ops Q fuel l a w := by
  have hall : ∀ l : Array Bool, l.size = ops.size → Region.ready .any ops l = [] → ∀ j, j < ops.size → l.getD j true = true := by
    intro l hsz hr j
    induction j using Nat.strongRecOn with
    | _ j ih =>
      intro hj
      cases hh : l.getD j true
      · exfalso
        have hm : j ∈ Region.ready .any ops l := by
          rw [mem_ready]
          obtain ⟨o, ho⟩ : ∃ o, ops[j]? = some o := ⟨_, Array.getElem?_eq_getElem hj⟩
          refine ⟨hh, o, ho, fun e he hbd => ?_⟩
          have h1 := hwf j o ho e he hbd
          have h2 := ih e.on h1 (by omega)
          have h3 : e.on < l.size := by omega
          simpa [h3] using h2
        rw [hr] at hm
        cases hm
      · rfl
  intro fuel
  induction fuel with
  | zero =>
    intro l a w hsz hu hi
    have hd : ∀ j, j < ops.size → l.getD j true = true := by
      intro j hj
      cases hh : l.getD j true
      · exfalso
        have : j ∈ (List.range ops.size).filter (fun j => !l.getD j true) := List.mem_filter.2 ⟨List.mem_range.2 hj, by rw [hh]; rfl⟩
        have h0 : (List.range ops.size).filter (fun j => !l.getD j true) = [] := List.eq_nil_of_length_eq_zero (by unfold undone at hu; omega)
        rw [h0] at this
        cases this
      · rfl
    refine ⟨?_, hdone _ a w hd hi⟩
    apply List.eq_nil_iff_forall_not_mem.2
    intro j hm
    obtain ⟨h1, o, ho, _⟩ := mem_ready.1 hm
    rw [hd j (Array.getElem?_eq_some_iff.1 ho).1] at h1
    cases h1
  | succ fuel ih =>
    intro l a w hsz hu hi
    refine ⟨fun hr => hdone _ a w (hall l hsz hr) hi, fun i hm => ?_⟩
    obtain ⟨h1, o, ho, haf⟩ := mem_ready.1 hm
    have hlt := (Array.getElem?_eq_some_iff.1 ho).1
    unfold wpOp
    rw [ho]
    have hd1 : ∀ e ∈ o.after, Region.binds .any e = true → l.getD e.on true = true := fun e he hb => by
      have h3 := haf e he hb
      have h4 := hwf i o ho e he hb
      have h5 : e.on < l.size := by omega
      simpa [h5] using h3
    have hst := hstep (fun j => l.getD j true) i o ho h1 hd1 a w hi (wpAny P .any ops Q fuel (l.setIfInBounds i true)) (fun a' w' hi' => ih _ a' w' (by simpa using hsz) (by have := undone_set hlt h1; omega) (by
      have e : (fun j => (l.setIfInBounds i true).getD j true) = (fun j => if j = i then true else l.getD j true) := by
        funext j
        by_cases hj : j = i
        · subst hj
          have : j < l.size := by omega
          simp [this]
        · rw [getD_set_ne true (Ne.symm hj), if_neg hj]
      rw [e]
      exact hi'))
    by_cases hw : Region.wanted o (yielded ops a.tmps) = true
    · simp only [hw, if_true]
      exact .inl (hst.1 hw)
    · have hw2 : Region.wanted o (yielded ops a.tmps) = false := by simpa using hw
      simp only [hw2, Bool.false_eq_true, if_false]
      exact hst.2 hw2

theorem wp_region_fun3 {id : Nat} {a : Act} {w : World} (hm : P.follows .mixedOrders = true) (C : (Nat → Bool) → (Nat → Value) → World → Prop) (slots : List Nat)
    (hwf : ∀ (i : Nat) (o : Oper), ops[i]? = some o → ∀ e ∈ o.after, Region.binds .any e = true → e.on < i)
    (hdst : ∀ (i : Nat) (o : Oper), ops[i]? = some o → ∀ t, o.dst = some t → t ∈ slots ∧ t < a.tmps.size)
    (h0 : C (fun j => decide (ops.size ≤ j)) (Act.at a) w.drew)
    (hstep : ∀ (L : Nat → Bool) (i : Nat) (o : Oper), ops[i]? = some o → L i = false → (∀ e ∈ o.after, Region.binds .any e = true → L e.on = true) → ∀ (b : Act) w, (∀ t, t ∉ slots → Act.at b t = Act.at a t) → C L (Act.at b) w → ∀ K, (∀ v w', C (fun j => if j = i then true else L j) (fun t => if o.dst = some t then v else Act.at b t) w' → K (b.put o.dst v) w') → (Region.wanted o (yielded ops b.tmps) = true → o.wp P b w K Q) ∧ (Region.wanted o (yielded ops b.tmps) = false → K (b.put o.dst undef) w))
    (hdone : ∀ L (b : Act) w, (∀ j, j < ops.size → L j = true) → b.defers = a.defers → b.tmps.size = a.tmps.size → (∀ t, t ∉ slots → Act.at b t = Act.at a t) → C L (Act.at b) w → Q .normal b w) : (Code.region id ops true).wp P Q a w := by
  refine wp_region_any hm (wpAny_inv3 (fun L b w => b.defers = a.defers ∧ b.tmps.size = a.tmps.size ∧ (∀ t, t ∉ slots → Act.at b t = Act.at a t) ∧ C L (Act.at b) w) hwf ?_ ?_ _ _ _ _ (by simp) ?_ ?_)
  · rintro L i o ho hL haf b w ⟨hd, hs, hf, hc⟩ K hK
    refine hstep L i o ho hL haf b w hf hc K fun v w' hc' => hK _ _ ⟨?_, ?_, ?_, ?_⟩
    · rw [← hd]; cases o.dst <;> rfl
    · rw [← hs]; cases o.dst <;> simp [Act.put]
    · intro t ht
      rw [Act.at_put b _ v (fun u hu => by rw [hs]; exact (hdst i o ho u hu).2), if_neg (fun e => ht (hdst i o ho t e).1)]
      exact hf t ht
    · have e : Act.at (b.put o.dst v) = fun t => if o.dst = some t then v else Act.at b t := funext fun t => Act.at_put b _ v (fun u hu => by rw [hs]; exact (hdst i o ho u hu).2) t
      rw [e]
      exact hc'
  · rintro L b w hL ⟨hd, hs, hf, hc⟩
    exact hdone L b w hL hd hs hf hc
  · unfold undone
    have := List.length_filter_le (fun j => !(Array.replicate ops.size false).getD j true) (List.range ops.size)
    simpa using this
  · refine ⟨rfl, rfl, fun _ _ => rfl, ?_⟩
    have e : (fun j => (Array.replicate ops.size false).getD j true) = (fun j => decide (ops.size ≤ j)) := by
      funext j
      by_cases hj : j < ops.size
      · simp [hj]
      · simp [hj, show ops.size ≤ j by omega]
    rw [e]
    exact h0
theorem wanted_of {o : Oper} {b : Act} {j d : Nat} {want v : Bool} (hg : o.guard = some (j, want)) (hj : (ops[j]?).map (·.dst) = some (some d)) (hv : Act.at b d = .bool v) : Region.wanted o (yielded ops b.tmps) = (v == want) := by
  have h1 : b.tmps[d]? = some (.bool v) := by
    unfold Act.at at hv
    rw [Array.getD_eq_getD_getElem?] at hv
    cases h : b.tmps[d]? with
    | none => rw [h] at hv; cases hv
    | some u => rw [h] at hv; exact congrArg some hv
  obtain ⟨oj, hoj, hd⟩ := Option.map_eq_some_iff.1 hj
  unfold Region.wanted
  rw [hg]
  simp only
  unfold yielded
  rw [hoj]
  simp only [Option.bind_some, hd, h1]
  cases v <;> cases want <;> rfl
theorem wanted_none {o : Oper} {b : Act} (hg : o.guard = none) : Region.wanted o (yielded ops b.tmps) = true := by
  unfold Region.wanted
  rw [hg]
end
/-- A frame, told by what changed. -/
theorem act_eq {a b : Act} (us : List (Nat × Value)) (hd : b.defers = a.defers) (hs : b.tmps.size = a.tmps.size) (hf : ∀ t, t ∉ us.map (·.1) → Act.at b t = Act.at a t) (hu : ∀ p ∈ us, Act.at b p.1 = p.2) (hn : (us.map (·.1)).Nodup) :
    b = ⟨us.foldl (fun A p => A.setIfInBounds p.1 p.2) a.tmps, a.defers⟩ := by
  obtain ⟨bt, bd⟩ := b
  obtain ⟨at_, ad⟩ := a
  simp only at hd hs
  subst hd
  congr 1
  have key : ∀ (us : List (Nat × Value)) (A : Array Value), (us.map (·.1)).Nodup → (us.foldl (fun A p => A.setIfInBounds p.1 p.2) A).size = A.size ∧ ∀ t, t < A.size → (us.foldl (fun A p => A.setIfInBounds p.1 p.2) A).getD t undef = match us.find? (fun p => p.1 == t) with | some p => p.2 | none => A.getD t undef := by
    intro us
    induction us with
    | nil => intro A _; exact ⟨rfl, fun _ _ => rfl⟩
    | cons p us ih =>
      intro A hn
      rw [List.map_cons, List.nodup_cons] at hn
      obtain ⟨h1, h2⟩ := ih (A.setIfInBounds p.1 p.2) hn.2
      rw [List.foldl_cons]
      refine ⟨by rw [h1]; simp, fun t ht => ?_⟩
      rw [h2 t (by simpa using ht), List.find?_cons]
      by_cases hp : p.1 = t
      · have hnone : us.find? (fun q => q.1 == t) = none := by
          rw [List.find?_eq_none]
          intro q hq
          have : q.1 ≠ p.1 := fun e => hn.1 (by rw [← e]; exact List.mem_map_of_mem hq)
          simp only [beq_iff_eq]
          rw [← hp]
          exact this
        rw [hnone]
        simp [hp, ht]
      · have hb : (p.1 == t) = false := by simp [hp]
        rw [hb]
        cases us.find? (fun q => q.1 == t) with
        | some q => rfl
        | none => exact getD_setV hp
  obtain ⟨k1, k2⟩ := key us at_ hn
  apply Array.ext
  · rw [k1, hs]
  · intro t h1 h2
    have ht : t < at_.size := by rw [← hs]; exact h1
    have e1 : bt[t] = bt.getD t undef := by simp [h1]
    have e2 : (us.foldl (fun A p => A.setIfInBounds p.1 p.2) at_)[t] = (us.foldl (fun A p => A.setIfInBounds p.1 p.2) at_).getD t undef := by simp [h2]
    rw [e1, e2, k2 t ht]
    cases hfi : us.find? (fun p => p.1 == t) with
    | some p =>
      have hm := List.mem_of_find?_eq_some hfi
      have hp : p.1 = t := by simpa using List.find?_some hfi
      have := hu p hm
      rw [hp] at this
      exact this
    | none =>
      refine hf t fun hm => ?_
      obtain ⟨p, hp, rfl⟩ := List.mem_map.1 hm
      have := List.find?_eq_none.1 hfi p hp
      simp at this
end Go.Proofs.YtoiegkejkahfgaaDoor

/- Regions in open order: the steps' laws. -/
namespace Go.Proofs.YtoiegkejkahfgaaDoor
set_option linter.unusedSimpArgs false
set_option linter.unusedVariables false
open Go.RowKit

section
variable {P : Program} {o : Oper} {a : Act} {w : World} {K : Act → World → Prop} {Q : Exit → Act → World → Prop}
theorem wp_callG (f : FuncId) (args : Array Operand) (tys : Array TypeId) (ho : o.op = .call { callee := .value (.func f), args := args, argTypes := tys })
    (he : ∀ args w, (callFunc f args).run P w = .ok (.enter f args) w) (vs : Array Value) (hvs : args.map a.eval = vs) (R : Value → World → Prop) (h : Calls P f vs w fun e w' => ∃ v, e = .returned v ∧ R v w') (hk : ∀ v w', R v w' → K (a.put o.dst v) w') : o.wp P a w K Q := by
  unfold Oper.wp
  have e : (execOp a.eval o).run P w = .ok (.enter f (args.map a.eval)) w := by
    unfold execOp
    simp only [ho]
    go_simp
  rw [e, Oper.upon_enter, hvs]
  refine h.mono ?_
  rintro _ w' ⟨v, rfl, hr⟩
  exact hk v w' hr
theorem wp_moveG (x : Operand) (ho : o.op = .move x) (v : Value) (hx : a.eval x = v) (h : K (a.put o.dst v) w) : o.wp P a w K Q := by
  unfold Oper.wp
  have e : (execOp a.eval o).run P w = .ok (.value v) w := by
    unfold execOp
    simp only [ho, hx]
    go_simp
  rw [e]
  exact h
theorem wp_extractG (x : Operand) (n : Nat) (ho : o.op = .extract x n) (vs : Array Value) (hx : a.eval x = .tuple vs) (v : Value) (hv : vs[n]? = some v) (h : K (a.put o.dst v) w) : o.wp P a w K Q := by
  unfold Oper.wp
  have e : (execOp a.eval o).run P w = .ok (.value v) w := by
    unfold execOp
    simp only [ho, hx]
    simp [Instr.extract, hv]
  rw [e]
  exact h
theorem wp_binG (op : BinOp) (t1 t2 : TypeId) (x y : Operand) (ho : o.op = .binOp op t1 x y t2) (u v r : Value) (hx : a.eval x = u) (hy : a.eval y = v) (hg : (eqGuard op t1 x y u v).run P w = .ok () w) (hr : (binOp op t1 u v).run P w = .ok r w) (h : K (a.put o.dst r) w) : o.wp P a w K Q := by
  unfold Oper.wp
  have e : (execOp a.eval o).run P w = .ok (.value r) w := by
    unfold execOp
    simp only [ho, hx, hy]
    simp [hg, hr]
  rw [e]
  exact h
end
theorem wf_ops2 {ops : Array Oper} (h : ((List.range ops.size).all fun i => match ops[i]? with | some o => o.guard.isNone && o.after.all (fun e => !Region.binds .any e || decide (e.on < i)) | none => true) = true) :
    ∀ (i : Nat) (o : Oper), ops[i]? = some o → o.guard = none ∧ ∀ e ∈ o.after, Region.binds .any e = true → e.on < i := by
  intro i o ho
  have hlt := (Array.getElem?_eq_some_iff.1 ho).1
  have := List.all_eq_true.1 h i (List.mem_range.2 hlt)
  rw [ho] at this
  simp only [Bool.and_eq_true, Option.isNone_iff_eq_none, Array.all_eq_true_iff_forall_mem] at this
  refine ⟨this.1, fun e he hb => ?_⟩
  have h2 := this.2 e he
  rw [hb] at h2
  simpa using h2
theorem ops_deps {ops : Array Oper} (dep : Nat → List Nat) (h : ((List.range ops.size).all fun i => match ops[i]? with | some o => (dep i).all fun d => o.after.any fun e => decide (e.on = d) && Region.binds .any e | none => true) = true) {i : Nat} {o : Oper} (ho : ops[i]? = some o)
    {L : Nat → Bool} (haf : ∀ e ∈ o.after, Region.binds .any e = true → L e.on = true) : ∀ d ∈ dep i, L d = true := by
  intro d hd
  have h1 := List.all_eq_true.1 h i (List.mem_range.2 (Array.getElem?_eq_some_iff.1 ho).1)
  rw [ho] at h1
  have h2 := List.all_eq_true.1 h1 d hd
  obtain ⟨e, he, hb⟩ : ∃ e, e ∈ o.after ∧ (e.on = d ∧ Region.binds .any e = true) := by
    obtain ⟨n, hn, hb⟩ := Array.any_eq_true.1 h2
    simp only [Bool.and_eq_true, decide_eq_true_eq] at hb
    exact ⟨_, Array.getElem_mem hn, hb⟩
  rw [← hb.1]
  exact haf e he hb.2
theorem ops_dst {ops : Array Oper} (slots : List Nat) (n : Nat) (h : ((List.range ops.size).all fun i => match ops[i]? with | some o => (match o.dst with | some t => slots.contains t && decide (t < n) | none => true) | none => true) = true) : ∀ (i : Nat) (o : Oper), ops[i]? = some o → ∀ t, o.dst = some t → t ∈ slots ∧ t < n := by
  intro i o ho t ht
  have h1 := List.all_eq_true.1 h i (List.mem_range.2 (Array.getElem?_eq_some_iff.1 ho).1)
  rw [ho] at h1
  simp only [ht, Bool.and_eq_true, List.contains_iff_mem, decide_eq_true_eq] at h1
  exact h1
theorem wf_ops3 {ops : Array Oper} (h : ((List.range ops.size).all fun i => match ops[i]? with | some o => o.after.all (fun e => !Region.binds .any e || decide (e.on < i)) | none => true) = true) :
    ∀ (i : Nat) (o : Oper), ops[i]? = some o → ∀ e ∈ o.after, Region.binds .any e = true → e.on < i := by
  intro i o ho e he hb
  have hlt := (Array.getElem?_eq_some_iff.1 ho).1
  have := List.all_eq_true.1 h i (List.mem_range.2 hlt)
  rw [ho] at this
  simp only [Array.all_eq_true_iff_forall_mem] at this
  have h2 := this e he
  rw [hb] at h2
  simpa using h2
section
variable {P : Program} {o : Oper} {a : Act} {w : World} {K : Act → World → Prop} {Q : Exit → Act → World → Prop}
theorem wp_pickG (c x y : Operand) (ho : o.op = .pick c x y) (b : Bool) (hc : a.eval c = .bool b) (v : Value) (hv : (if b then a.eval x else a.eval y) = v) (h : K (a.put o.dst v) w) : o.wp P a w K Q := by
  unfold Oper.wp
  have e : (execOp a.eval o).run P w = .ok (.value v) w := by
    unfold execOp
    simp only [ho, hc]
    cases b <;> simpa [asBool] using hv
  rw [e]
  exact h
theorem wp_lenG (x : Operand) (ty : TypeId) (ho : o.op = .call { callee := .builtin .len, args := #[x], argTypes := #[ty] }) (hu : P.underlying ty = some .string) (l : List UInt8) (hx : a.eval x = .string ⟨l.toArray⟩) (h : K (a.put o.dst (.int .i64 (l.length : Int))) w) : o.wp P a w K Q := by
  unfold Oper.wp
  have e : (execOp a.eval o).run P w = .ok (.value (.int .i64 (l.length : Int))) w := by
    unfold execOp
    simp only [ho, resolve, invoke, builtin, Sem.run_bind, Sem.run_pure, Result.andThen_ok, List.map_toArray, List.map_cons, List.map_nil, hx]
    simp only [Builtin.len_]
    simp [run_underlying hu]
    rfl
  rw [e]
  exact h
end

section
variable {P : Program} {ops : Array Oper} {o : Oper} {a b : Act} {w : World} {K : Act → World → Prop} {Q : Exit → Act → World → Prop}
theorem wanted_cond {j d : Nat} {want W v : Bool} (hg : o.guard = some (j, want)) (hj : (ops[j]?).map (·.dst) = some (some d)) (hv : Act.at b d = cond W (.bool v) undef) : Region.wanted o (yielded ops b.tmps) = (W && (v == want)) := by
  cases W with
  | true => rw [wanted_of hg hj hv, Bool.true_and]
  | false =>
    obtain ⟨oj, hoj, hd⟩ := Option.map_eq_some_iff.1 hj
    have h1 : ∀ u : Bool, b.tmps[d]? ≠ some (.bool u) := by
      intro u hu
      have hv' : Act.at b d = undef := hv
      unfold Act.at at hv'
      rw [Array.getD_eq_getD_getElem?, hu] at hv'
      cases hv'
    unfold Region.wanted
    rw [hg, Bool.false_and]
    simp only
    unfold yielded
    rw [hoj]
    simp only [Option.bind_some, hd]
    cases h : b.tmps[d]? with
    | none => rfl
    | some u =>
      cases u with
      | bool c => exact absurd h (h1 c)
      | _ => rfl
theorem wp_assignG (x : Operand) (ho : o.op = .assign x) (v : Value) (hx : a.eval x = v) (h : K (a.put o.dst v) w) : o.wp P a w K Q := by
  unfold Oper.wp
  have e : (execOp a.eval o).run P w = .ok (.value v) w := by
    unfold execOp
    simp only [ho, hx]
    go_simp
  rw [e]
  exact h
theorem wp_fieldG (t : TypeId) (x : Operand) (n : Nat) (ho : o.op = .fieldAddr t x n) (u v : Value) (hx : a.eval x = u) (hr : (Instr.fieldAt t u n).run P w = .ok v w) (h : K (a.put o.dst v) w) : o.wp P a w K Q := by
  unfold Oper.wp
  have e : (execOp a.eval o).run P w = .ok (.value v) w := by
    unfold execOp
    simp only [ho, hx]
    simp [hr]
  rw [e]
  exact h
theorem wp_loadG (t : TypeId) (x : Operand) (ho : o.op = .load t x) (u v : Value) (hx : a.eval x = u) (hr : (Instr.loadAt t u).run P w = .ok v w) (h : K (a.put o.dst v) w) : o.wp P a w K Q := by
  unfold Oper.wp
  have e : (execOp a.eval o).run P w = .ok (.value v) w := by
    unfold execOp
    simp only [ho, hx]
    simp [hr]
  rw [e]
  exact h
end
end Go.Proofs.YtoiegkejkahfgaaDoor

/- Regions in open order whose steps yield values known ahead: what holds of them, once for all. -/
namespace Go.Proofs.YtoiegkejkahfgaaDoor
set_option linter.unusedSimpArgs false
set_option linter.unusedVariables false
open Go.RowKit


/-- The values of the slots that are written (none: told by sp alone), and memory that only grew. -/
structure FlatC (W1 : World) (slots : List Nat) (vs : List (Option Value)) (sp : Nat → Value → World → Prop) (L : Nat → Bool) (f : Nat → Value) (w : World) : Prop where
  bel : Below W1.heap.size W1 w
  v : ∀ i, L i = true → ∀ u, vs[i]? = some (some u) → f (slots.getD i 0) = u
  s : ∀ i, L i = true → i < slots.length → sp i (f (slots.getD i 0)) w
theorem FlatC.start {W1 : World} {slots : List Nat} {vs : List (Option Value)} {sp : Nat → Value → World → Prop} {f : Nat → Value} {n : Nat} (hs : slots.length = n) (hv : vs.length = n) : FlatC W1 slots vs sp (fun j => decide (n ≤ j)) f W1 :=
  ⟨Below.refl _ _, (fun i h u hu => by
    have h1 := of_decide_eq_true h
    rw [List.getElem?_eq_none (by omega)] at hu
    cases hu), (fun i h hi => by have h1 := of_decide_eq_true h; omega)⟩
theorem FlatC.step {W1 : World} {slots : List Nat} {vs : List (Option Value)} {sp : Nat → Value → World → Prop} {L : Nat → Bool} {f : Nat → Value} {w w2 : World} {v : Value} (hn : slots.Nodup) (ks : ∀ i v w w', sp i v w → Below w.heap.size w w' → sp i v w') (hl : vs.length = slots.length)
    (h : FlatC W1 slots vs sp L f w) (i : Nat) (hi : i < slots.length) (hb : Below w.heap.size w w2) (hv : ∀ u, vs[i]? = some (some u) → v = u) (hs : sp i v w2) : FlatC W1 slots vs sp (fun k => if k = i then true else L k) (fun t => if some (slots.getD i 0) = some t then v else f t) w2 := by
  have hne : ∀ j, j < slots.length → j ≠ i → slots.getD i 0 ≠ slots.getD j 0 := by
    intro j hj hji e
    rw [List.getD_eq_getElem?_getD, List.getD_eq_getElem?_getD, List.getElem?_eq_getElem hi, List.getElem?_eq_getElem hj] at e
    simp only [Option.getD_some] at e
    have := List.pairwise_iff_getElem.1 hn
    rcases Nat.lt_or_gt_of_ne hji with h1 | h1
    · exact this j i hj hi h1 e.symm
    · exact this i j hi hj h1 e
  refine ⟨h.bel.trans (hb.mono h.bel.size), fun j hj u hu => ?_, fun j hj hjl => ?_⟩
  · by_cases e : j = i
    · subst e
      rw [if_pos rfl]
      exact hv u hu
    · rw [if_neg e] at hj
      have hjl : j < slots.length := by rw [← hl]; exact (List.getElem?_eq_some_iff.1 hu).1
      rw [if_neg (fun e2 => hne j hjl e (Option.some.inj e2))]
      exact h.v j hj u hu
  · by_cases e : j = i
    · subst e
      rw [if_pos rfl]
      exact hs
    · rw [if_neg e] at hj
      rw [if_neg (fun e2 => hne j hjl e (Option.some.inj e2))]
      exact ks _ _ _ _ (h.s j hj hjl) hb
section
variable {P : Program} {o : Oper} {a : Act} {w : World} {K : Act → World → Prop} {Q : Exit → Act → World → Prop}
theorem wp_unG (op : UnOp) (t : TypeId) (x : Operand) (ho : o.op = .unOp op t x) (u r : Value) (hx : a.eval x = u) (hr : (Op.unary op u).run P w = .ok r w) (h : K (a.put o.dst r) w) : o.wp P a w K Q := by
  unfold Oper.wp
  have e : (execOp a.eval o).run P w = .ok (.value r) w := by
    unfold execOp
    simp only [ho, hx]
    simp [hr]
  rw [e]
  exact h
theorem wp_lenS (x : Operand) (ty : TypeId) (ho : o.op = .call { callee := .builtin .len, args := #[x], argTypes := #[ty] }) (hu : ∃ e, P.underlying ty = some (.slice e)) (A : Option Addr) (n c : Nat) (hx : a.eval x = .slice A n c) (h : K (a.put o.dst (.int .i64 (n : Int))) w) : o.wp P a w K Q := by
  obtain ⟨e, hu⟩ := hu
  unfold Oper.wp
  have e : (execOp a.eval o).run P w = .ok (.value (.int .i64 (n : Int))) w := by
    unfold execOp
    simp only [ho, resolve, invoke, builtin, Sem.run_bind, Sem.run_pure, Result.andThen_ok, List.map_toArray, List.map_cons, List.map_nil, hx]
    simp only [Builtin.len_]
    simp [run_underlying hu]
    rfl
  rw [e]
  exact h
end
end Go.Proofs.YtoiegkejkahfgaaDoor
