/- A region that draws its order, by what holds of its slots whichever operations have been done: the frame as a function. -/
import Derived.Test.YtbpgfphilcjmdaaDoorInv
namespace Go.Proofs.YtbpgfphilcjmdaaDoor

theorem getD_setV {A : Array Value} {u t : Nat} {v d : Value} (h : u ≠ t) : (A.setIfInBounds u v).getD t d = A.getD t d := by
  rw [Array.getD_eq_getD_getElem?, Array.getD_eq_getD_getElem?, Array.getElem?_setIfInBounds_ne h]
section
variable {P : Program} {ops : Array Oper} {Q : Exit → Act → World → Prop}

/-- What holds of the operations that have been done, the frame and the world: kept by each operation that may come next. -/
theorem wpAny_inv2 (Inv : (Nat → Bool) → Act → World → Prop) (hwf : ∀ (i : Nat) (o : Oper), ops[i]? = some o → o.guard = none ∧ ∀ e ∈ o.after, Region.binds .any e = true → e.on < i)
    (hstep : ∀ (L : Nat → Bool) (i : Nat) (o : Oper), ops[i]? = some o → L i = false → (∀ e ∈ o.after, Region.binds .any e = true → L e.on = true) → ∀ a w, Inv L a w → ∀ K, (∀ a' w', Inv (fun j => if j = i then true else L j) a' w' → K a' w') → o.wp P a w K Q)
    (hdone : ∀ L a w, (∀ j, j < ops.size → L j = true) → Inv L a w → Q .normal a w) :
    ∀ (fuel : Nat) (l : Array Bool) (a : Act) (w : World), l.size = ops.size → undone ops l ≤ fuel → Inv (fun j => l.getD j true) a w → wpAny P .any ops Q fuel l a w := by
  have hall : ∀ l : Array Bool, l.size = ops.size → Region.ready .any ops l = [] → ∀ j, j < ops.size → l.getD j true = true := by
    intro l hsz hr j
    induction j using Nat.strongRecOn with
    | _ j ih =>
      intro hj
      cases hh : l.getD j true
      · exfalso
        have hm : j ∈ Region.ready .any ops l := by
          rw [mem_ready]
          obtain ⟨o, ho⟩ : ∃ o, ops[j]? = some o := ⟨_, Array.getElem?_eq_getElem hj⟩
          refine ⟨hh, o, ho, fun e he hbd => ?_⟩
          have h1 := (hwf j o ho).2 e he hbd
          have h2 := ih e.on h1 (by omega)
          have h3 : e.on < l.size := by omega
          simpa [h3] using h2
        rw [hr] at hm
        cases hm
      · rfl
  intro fuel
  induction fuel with
  | zero =>
    intro l a w hsz hu hi
    have hd : ∀ j, j < ops.size → l.getD j true = true := by
      intro j hj
      cases hh : l.getD j true
      · exfalso
        have : j ∈ (List.range ops.size).filter (fun j => !l.getD j true) := List.mem_filter.2 ⟨List.mem_range.2 hj, by rw [hh]; rfl⟩
        have h0 : (List.range ops.size).filter (fun j => !l.getD j true) = [] := List.eq_nil_of_length_eq_zero (by unfold undone at hu; omega)
        rw [h0] at this
        cases this
      · rfl
    refine ⟨?_, hdone _ a w hd hi⟩
    apply List.eq_nil_iff_forall_not_mem.2
    intro j hm
    obtain ⟨h1, o, ho, _⟩ := mem_ready.1 hm
    rw [hd j (Array.getElem?_eq_some_iff.1 ho).1] at h1
    cases h1
  | succ fuel ih =>
    intro l a w hsz hu hi
    refine ⟨fun hr => hdone _ a w (hall l hsz hr) hi, fun i hm => ?_⟩
    obtain ⟨h1, o, ho, haf⟩ := mem_ready.1 hm
    have hlt := (Array.getElem?_eq_some_iff.1 ho).1
    unfold wpOp
    rw [ho]
    have hw : Region.wanted o (yielded ops a.tmps) = true := by simp [Region.wanted, (hwf i o ho).1]
    simp only [hw, if_true]
    left
    refine hstep (fun j => l.getD j true) i o ho h1 (fun e he hb => ?_) a w hi _ (fun a' w' hi' => ih _ a' w' (by simpa using hsz) (by have := undone_set hlt h1; omega) ?_)
    · have h3 := haf e he hb
      have h4 := (hwf i o ho).2 e he hb
      have h5 : e.on < l.size := by omega
      simpa [h5] using h3
    · have e : (fun j => (l.setIfInBounds i true).getD j true) = (fun j => if j = i then true else l.getD j true) := by
        funext j
        by_cases hj : j = i
        · subst hj
          have : j < l.size := by omega
          simp [this]
        · rw [getD_set_ne true (Ne.symm hj), if_neg hj]
      rw [e]
      exact hi'


/-- The frame's slots as a function. -/
def Act.at (a : Act) (t : Nat) : Value := a.tmps.getD t undef
theorem Act.at_put (a : Act) (d : Option Nat) (v : Value) (hd : ∀ t, d = some t → t < a.tmps.size) (t : Nat) : Act.at (a.put d v) t = if d = some t then v else Act.at a t := by
  cases d with
  | none => rfl
  | some u =>
    have hu := hd u rfl
    unfold Act.at Act.put
    by_cases h : u = t
    · subst h
      simp [hu]
    · rw [if_neg (by intro e; injection e; contradiction)]
      exact getD_setV h
theorem wp_region_fun {id : Nat} {a : Act} {w : World} (hm : P.follows .mixedOrders = true) (C : (Nat → Bool) → (Nat → Value) → World → Prop) (slots : List Nat)
    (hwf : ∀ (i : Nat) (o : Oper), ops[i]? = some o → o.guard = none ∧ ∀ e ∈ o.after, Region.binds .any e = true → e.on < i)
    (hdst : ∀ (i : Nat) (o : Oper), ops[i]? = some o → ∀ t, o.dst = some t → t ∈ slots ∧ t < a.tmps.size)
    (h0 : C (fun j => decide (ops.size ≤ j)) (Act.at a) w.drew)
    (hstep : ∀ (L : Nat → Bool) (i : Nat) (o : Oper), ops[i]? = some o → L i = false → (∀ e ∈ o.after, Region.binds .any e = true → L e.on = true) → ∀ (b : Act) w, (∀ t, t ∉ slots → Act.at b t = Act.at a t) → C L (Act.at b) w → ∀ K, (∀ v w', C (fun j => if j = i then true else L j) (fun t => if o.dst = some t then v else Act.at b t) w' → K (b.put o.dst v) w') → o.wp P b w K Q)
    (hdone : ∀ L (b : Act) w, (∀ j, j < ops.size → L j = true) → b.defers = a.defers → b.tmps.size = a.tmps.size → (∀ t, t ∉ slots → Act.at b t = Act.at a t) → C L (Act.at b) w → Q .normal b w) : (Code.region id ops true).wp P Q a w := by
  refine wp_region_any hm (wpAny_inv2 (fun L b w => b.defers = a.defers ∧ b.tmps.size = a.tmps.size ∧ (∀ t, t ∉ slots → Act.at b t = Act.at a t) ∧ C L (Act.at b) w) hwf ?_ ?_ _ _ _ _ (by simp) ?_ ?_)
  · rintro L i o ho hL haf b w ⟨hd, hs, hf, hc⟩ K hK
    refine hstep L i o ho hL haf b w hf hc K fun v w' hc' => hK _ _ ⟨?_, ?_, ?_, ?_⟩
    · rw [← hd]; cases o.dst <;> rfl
    · rw [← hs]; cases o.dst <;> simp [Act.put]
    · intro t ht
      rw [Act.at_put b _ v (fun u hu => by rw [hs]; exact (hdst i o ho u hu).2), if_neg (fun e => ht (hdst i o ho t e).1)]
      exact hf t ht
    · have e : Act.at (b.put o.dst v) = fun t => if o.dst = some t then v else Act.at b t := funext fun t => Act.at_put b _ v (fun u hu => by rw [hs]; exact (hdst i o ho u hu).2) t
      rw [e]
      exact hc'
  · rintro L b w hL ⟨hd, hs, hf, hc⟩
    exact hdone L b w hL hd hs hf hc
  · unfold undone
    have := List.length_filter_le (fun j => !(Array.replicate ops.size false).getD j true) (List.range ops.size)
    simpa using this
  · refine ⟨rfl, rfl, fun _ _ => rfl, ?_⟩
    have e : (fun j => (Array.replicate ops.size false).getD j true) = (fun j => decide (ops.size ≤ j)) := by
      funext j
      by_cases hj : j < ops.size
      · simp [hj]
      · simp [hj, show ops.size ≤ j by omega]
    rw [e]
    exact h0
theorem wpAny_inv3 (Inv : (Nat → Bool) → Act → World → Prop) (hwf : ∀ (i : Nat) (o : Oper), ops[i]? = some o → ∀ e ∈ o.after, Region.binds .any e = true → e.on < i)
    (hstep : ∀ (L : Nat → Bool) (i : Nat) (o : Oper), ops[i]? = some o → L i = false → (∀ e ∈ o.after, Region.binds .any e = true → L e.on = true) → ∀ a w, Inv L a w → ∀ K, (∀ a' w', Inv (fun j => if j = i then true else L j) a' w' → K a' w') → (Region.wanted o (yielded ops a.tmps) = true → o.wp P a w K Q) ∧ (Region.wanted o (yielded ops a.tmps) = false → K (a.put o.dst undef) w))
    (hdone : ∀ L a w, (∀ j, j < ops.size → L j = true) → Inv L a w → Q .normal a w) :
    ∀ (fuel : Nat) (l : Array Bool) (a : Act) (w : World), l.size = ops.size → undone ops l ≤ fuel → Inv (fun j => l.getD j true) a w → wpAny P .any ops Q fuel l a w := by
  have hall : ∀ l : Array Bool, l.size = ops.size → Region.ready .any ops l = [] → ∀ j, j < ops.size → l.getD j true = true := by
    intro l hsz hr j
    induction j using Nat.strongRecOn with
    | _ j ih =>
      intro hj
      cases hh : l.getD j true
      · exfalso
        have hm : j ∈ Region.ready .any ops l := by
          rw [mem_ready]
          obtain ⟨o, ho⟩ : ∃ o, ops[j]? = some o := ⟨_, Array.getElem?_eq_getElem hj⟩
          refine ⟨hh, o, ho, fun e he hbd => ?_⟩
          have h1 := hwf j o ho e he hbd
          have h2 := ih e.on h1 (by omega)
          have h3 : e.on < l.size := by omega
          simpa [h3] using h2
        rw [hr] at hm
        cases hm
      · rfl
  intro fuel
  induction fuel with
  | zero =>
    intro l a w hsz hu hi
    have hd : ∀ j, j < ops.size → l.getD j true = true := by
      intro j hj
      cases hh : l.getD j true
      · exfalso
        have : j ∈ (List.range ops.size).filter (fun j => !l.getD j true) := List.mem_filter.2 ⟨List.mem_range.2 hj, by rw [hh]; rfl⟩
        have h0 : (List.range ops.size).filter (fun j => !l.getD j true) = [] := List.eq_nil_of_length_eq_zero (by unfold undone at hu; omega)
        rw [h0] at this
        cases this
      · rfl
    refine ⟨?_, hdone _ a w hd hi⟩
    apply List.eq_nil_iff_forall_not_mem.2
    intro j hm
    obtain ⟨h1, o, ho, _⟩ := mem_ready.1 hm
    rw [hd j (Array.getElem?_eq_some_iff.1 ho).1] at h1
    cases h1
  | succ fuel ih =>
    intro l a w hsz hu hi
    refine ⟨fun hr => hdone _ a w (hall l hsz hr) hi, fun i hm => ?_⟩
    obtain ⟨h1, o, ho, haf⟩ := mem_ready.1 hm
    have hlt := (Array.getElem?_eq_some_iff.1 ho).1
    unfold wpOp
    rw [ho]
    have hd1 : ∀ e ∈ o.after, Region.binds .any e = true → l.getD e.on true = true := fun e he hb => by
      have h3 := haf e he hb
      have h4 := hwf i o ho e he hb
      have h5 : e.on < l.size := by omega
      simpa [h5] using h3
    have hst := hstep (fun j => l.getD j true) i o ho h1 hd1 a w hi (wpAny P .any ops Q fuel (l.setIfInBounds i true)) (fun a' w' hi' => ih _ a' w' (by simpa using hsz) (by have := undone_set hlt h1; omega) (by
      have e : (fun j => (l.setIfInBounds i true).getD j true) = (fun j => if j = i then true else l.getD j true) := by
        funext j
        by_cases hj : j = i
        · subst hj
          have : j < l.size := by omega
          simp [this]
        · rw [getD_set_ne true (Ne.symm hj), if_neg hj]
      rw [e]
      exact hi'))
    by_cases hw : Region.wanted o (yielded ops a.tmps) = true
    · simp only [hw, if_true]
      exact .inl (hst.1 hw)
    · have hw2 : Region.wanted o (yielded ops a.tmps) = false := by simpa using hw
      simp only [hw2, Bool.false_eq_true, if_false]
      exact hst.2 hw2

theorem wp_region_fun3 {id : Nat} {a : Act} {w : World} (hm : P.follows .mixedOrders = true) (C : (Nat → Bool) → (Nat → Value) → World → Prop) (slots : List Nat)
    (hwf : ∀ (i : Nat) (o : Oper), ops[i]? = some o → ∀ e ∈ o.after, Region.binds .any e = true → e.on < i)
    (hdst : ∀ (i : Nat) (o : Oper), ops[i]? = some o → ∀ t, o.dst = some t → t ∈ slots ∧ t < a.tmps.size)
    (h0 : C (fun j => decide (ops.size ≤ j)) (Act.at a) w.drew)
    (hstep : ∀ (L : Nat → Bool) (i : Nat) (o : Oper), ops[i]? = some o → L i = false → (∀ e ∈ o.after, Region.binds .any e = true → L e.on = true) → ∀ (b : Act) w, (∀ t, t ∉ slots → Act.at b t = Act.at a t) → C L (Act.at b) w → ∀ K, (∀ v w', C (fun j => if j = i then true else L j) (fun t => if o.dst = some t then v else Act.at b t) w' → K (b.put o.dst v) w') → (Region.wanted o (yielded ops b.tmps) = true → o.wp P b w K Q) ∧ (Region.wanted o (yielded ops b.tmps) = false → K (b.put o.dst undef) w))
    (hdone : ∀ L (b : Act) w, (∀ j, j < ops.size → L j = true) → b.defers = a.defers → b.tmps.size = a.tmps.size → (∀ t, t ∉ slots → Act.at b t = Act.at a t) → C L (Act.at b) w → Q .normal b w) : (Code.region id ops true).wp P Q a w := by
  refine wp_region_any hm (wpAny_inv3 (fun L b w => b.defers = a.defers ∧ b.tmps.size = a.tmps.size ∧ (∀ t, t ∉ slots → Act.at b t = Act.at a t) ∧ C L (Act.at b) w) hwf ?_ ?_ _ _ _ _ (by simp) ?_ ?_)
  · rintro L i o ho hL haf b w ⟨hd, hs, hf, hc⟩ K hK
    refine hstep L i o ho hL haf b w hf hc K fun v w' hc' => hK _ _ ⟨?_, ?_, ?_, ?_⟩
    · rw [← hd]; cases o.dst <;> rfl
    · rw [← hs]; cases o.dst <;> simp [Act.put]
    · intro t ht
      rw [Act.at_put b _ v (fun u hu => by rw [hs]; exact (hdst i o ho u hu).2), if_neg (fun e => ht (hdst i o ho t e).1)]
      exact hf t ht
    · have e : Act.at (b.put o.dst v) = fun t => if o.dst = some t then v else Act.at b t := funext fun t => Act.at_put b _ v (fun u hu => by rw [hs]; exact (hdst i o ho u hu).2) t
      rw [e]
      exact hc'
  · rintro L b w hL ⟨hd, hs, hf, hc⟩
    exact hdone L b w hL hd hs hf hc
  · unfold undone
    have := List.length_filter_le (fun j => !(Array.replicate ops.size false).getD j true) (List.range ops.size)
    simpa using this
  · refine ⟨rfl, rfl, fun _ _ => rfl, ?_⟩
    have e : (fun j => (Array.replicate ops.size false).getD j true) = (fun j => decide (ops.size ≤ j)) := by
      funext j
      by_cases hj : j < ops.size
      · simp [hj]
      · simp [hj, show ops.size ≤ j by omega]
    rw [e]
    exact h0
theorem wanted_of {o : Oper} {b : Act} {j d : Nat} {want v : Bool} (hg : o.guard = some (j, want)) (hj : (ops[j]?).map (·.dst) = some (some d)) (hv : Act.at b d = .bool v) : Region.wanted o (yielded ops b.tmps) = (v == want) := by
  have h1 : b.tmps[d]? = some (.bool v) := by
    unfold Act.at at hv
    rw [Array.getD_eq_getD_getElem?] at hv
    cases h : b.tmps[d]? with
    | none => rw [h] at hv; cases hv
    | some u => rw [h] at hv; exact congrArg some hv
  obtain ⟨oj, hoj, hd⟩ := Option.map_eq_some_iff.1 hj
  unfold Region.wanted
  rw [hg]
  simp only
  unfold yielded
  rw [hoj]
  simp only [Option.bind_some, hd, h1]
  cases v <;> cases want <;> rfl
theorem wanted_none {o : Oper} {b : Act} (hg : o.guard = none) : Region.wanted o (yielded ops b.tmps) = true := by
  unfold Region.wanted
  rw [hg]
end
/-- A frame, told by what changed. -/
theorem act_eq {a b : Act} (us : List (Nat × Value)) (hd : b.defers = a.defers) (hs : b.tmps.size = a.tmps.size) (hf : ∀ t, t ∉ us.map (·.1) → Act.at b t = Act.at a t) (hu : ∀ p ∈ us, Act.at b p.1 = p.2) (hn : (us.map (·.1)).Nodup) :
    b = ⟨us.foldl (fun A p => A.setIfInBounds p.1 p.2) a.tmps, a.defers⟩ := by
  obtain ⟨bt, bd⟩ := b
  obtain ⟨at_, ad⟩ := a
  simp only at hd hs
  subst hd
  congr 1
  have key : ∀ (us : List (Nat × Value)) (A : Array Value), (us.map (·.1)).Nodup → (us.foldl (fun A p => A.setIfInBounds p.1 p.2) A).size = A.size ∧ ∀ t, t < A.size → (us.foldl (fun A p => A.setIfInBounds p.1 p.2) A).getD t undef = match us.find? (fun p => p.1 == t) with | some p => p.2 | none => A.getD t undef := by
    intro us
    induction us with
    | nil => intro A _; exact ⟨rfl, fun _ _ => rfl⟩
    | cons p us ih =>
      intro A hn
      rw [List.map_cons, List.nodup_cons] at hn
      obtain ⟨h1, h2⟩ := ih (A.setIfInBounds p.1 p.2) hn.2
      rw [List.foldl_cons]
      refine ⟨by rw [h1]; simp, fun t ht => ?_⟩
      rw [h2 t (by simpa using ht), List.find?_cons]
      by_cases hp : p.1 = t
      · have hnone : us.find? (fun q => q.1 == t) = none := by
          rw [List.find?_eq_none]
          intro q hq
          have : q.1 ≠ p.1 := fun e => hn.1 (by rw [← e]; exact List.mem_map_of_mem hq)
          simp only [beq_iff_eq]
          rw [← hp]
          exact this
        rw [hnone]
        simp [hp, ht]
      · have hb : (p.1 == t) = false := by simp [hp]
        rw [hb]
        cases us.find? (fun q => q.1 == t) with
        | some q => rfl
        | none => exact getD_setV hp
  obtain ⟨k1, k2⟩ := key us at_ hn
  apply Array.ext
  · rw [k1, hs]
  · intro t h1 h2
    have ht : t < at_.size := by rw [← hs]; exact h1
    have e1 : bt[t] = bt.getD t undef := by simp [h1]
    have e2 : (us.foldl (fun A p => A.setIfInBounds p.1 p.2) at_)[t] = (us.foldl (fun A p => A.setIfInBounds p.1 p.2) at_).getD t undef := by simp [h2]
    rw [e1, e2, k2 t ht]
    cases hfi : us.find? (fun p => p.1 == t) with
    | some p =>
      have hm := List.mem_of_find?_eq_some hfi
      have hp : p.1 = t := by simpa using List.find?_some hfi
      have := hu p hm
      rw [hp] at this
      exact this
    | none =>
      refine hf t fun hm => ?_
      obtain ⟨p, hp, rfl⟩ := List.mem_map.1 hm
      have := List.find?_eq_none.1 hfi p hp
      simp at this
end Go.Proofs.YtbpgfphilcjmdaaDoor
