/- nfa: what can be reached, as functions. Plain mathematics. -/
import Derived.Test.YtimffgmbchpfeaaNfA
namespace Go.Proofs.Ytimffgmbchpfeaa
set_option linter.unusedSimpArgs false
set_option linter.unusedVariables false

/-- A walk: what was seen, how many these are, and what is still to be met (the last one first). -/
structure WK where
  seen : List Bool
  many : Nat
  todo : List Nat
def meetP (k : WK) (s : Int) : WK := if 0 ≤ s ∧ s < (k.seen.length : Int) ∧ k.seen.getD s.toNat false = false then ⟨k.seen.set s.toNat true, k.many + 1, k.todo ++ [s.toNat]⟩ else k
def lsL (l : List Int) (k : WK) : WK := l.foldl meetP k
def feL (l : List Ed) (k : WK) : WK := l.foldl (fun k e => if e.fr then meetP k (e.to : Int) else k) k
def wkP (E : EG) : Nat → WK → WK
  | 0, k => k
  | m + 1, k => if k.todo = [] then k else wkP E m (feL (E.getD (k.todo.getLastD 0) []) ⟨k.seen, k.many, k.todo.dropLast⟩)
def wk0 (n : Nat) : WK := ⟨List.replicate n false, 0, []⟩
def allP (l : List Bool) : List Nat := (List.range l.length).filter (fun s => l.getD s false)
def reachP (E : EG) (l : List Int) : List Nat := allP (wkP E (E.length + 1) (lsL l (wk0 E.length))).seen
def natI (l : List Nat) : List Int := l.map Int.ofNat
def startP (E : EG) : List Nat := reachP E [0]
def behP (l : List Ed) (c : Nat) : List Int := (l.filter (fun e => !e.fr && has e.set c)).map (fun e => (e.to : Int))
def behL (E : EG) (c : Nat) (l : List Int) : List Int := l.flatMap (fun s => if 0 ≤ s ∧ s < (E.length : Int) then behP (E.getD s.toNat []) c else [])
def stepP (E : EG) (l : List Int) (c : Nat) : List Nat := reachP E (behL E c l)
def runP (E : EG) (l : List Nat) (b : List Nat) : List Nat := b.foldl (fun l c => stepP E (natI l) c) l
def matchP (E : EG) (en : Nat) (b : List Nat) : Bool := (runP E (startP E) b).contains en

def unseen (l : List Bool) : Nat := l.count false
/-- What stands of a walk. -/
structure WkI (n : Nat) (k : WK) : Prop where
  len : k.seen.length = n
  todo : ∀ s ∈ k.todo, s < n ∧ k.seen.getD s false = true
  sum : k.many + unseen k.seen = n
theorem unseen_set {l : List Bool} {i : Nat} (h : i < l.length) (hf : l.getD i false = false) : unseen (l.set i true) + 1 = unseen l := by
  unfold unseen
  have hi : l[i] = false := by
    rw [List.getD_eq_getElem?_getD, List.getElem?_eq_getElem h] at hf
    exact hf
  rw [List.count_set h, hi]
  have : 0 < l.count false := List.count_pos_iff.2 (hi ▸ List.getElem_mem h)
  simp
  omega
theorem unseen_le (l : List Bool) : unseen l ≤ l.length := List.count_le_length
theorem getD_set {l : List Bool} {i j : Nat} (h : i < l.length) : (l.set i true).getD j false = (decide (i = j) || l.getD j false) := by
  rw [List.getD_eq_getElem?_getD, List.getD_eq_getElem?_getD, List.getElem?_set]
  by_cases hij : i = j
  · subst hij
    simp [h]
  · simp [hij]
variable {n : Nat} {k : WK} {E : EG}
/-- One more is met: what is left to see and to meet is as many as before. -/
theorem WkI.meet (h : WkI n k) (s : Int) : WkI n (meetP k s) ∧ unseen (meetP k s).seen + (meetP k s).todo.length = unseen k.seen + k.todo.length ∧ (∀ j, k.seen.getD j false = true → (meetP k s).seen.getD j false = true) ∧ (∀ t ∈ k.todo, t ∈ (meetP k s).todo) ∧
    (∀ j, (meetP k s).seen.getD j false = true → k.seen.getD j false = true ∨ ((j : Int) = s ∧ j ∈ (meetP k s).todo)) ∧ (0 ≤ s → s < (n : Int) → (meetP k s).seen.getD s.toNat false = true) := by
  unfold meetP
  by_cases hc : 0 ≤ s ∧ s < (k.seen.length : Int) ∧ k.seen.getD s.toNat false = false
  · rw [if_pos hc]
    obtain ⟨h0, h1, h2⟩ := hc
    have hlt : s.toNat < k.seen.length := by omega
    have hu := unseen_set hlt h2
    have hs := h.sum
    refine ⟨⟨by simp [h.len], fun t ht => ?_, ?_⟩, ?_, fun j hj => ?_, fun t ht => List.mem_append_left _ ht, fun j hj => ?_, fun _ _ => ?_⟩
    · simp only
      rw [getD_set hlt]
      rcases List.mem_append.1 ht with ht | ht
      · have := h.todo t ht
        exact ⟨this.1, by rw [this.2]; simp⟩
      · rw [List.mem_singleton.1 ht]
        exact ⟨by rw [← h.len]; exact hlt, by simp⟩
    · simp only; omega
    · simp only [List.length_append, List.length_cons, List.length_nil]; omega
    · simp only
      rw [getD_set hlt, hj]
      simp
    · simp only at hj ⊢
      rw [getD_set hlt] at hj
      by_cases e : s.toNat = j
      · exact .inr ⟨by omega, by rw [e]; simp⟩
      · simp [e] at hj
        exact .inl hj
    · simp only
      rw [getD_set hlt]
      simp
  · rw [if_neg hc]
    refine ⟨h, rfl, fun _ hj => hj, fun _ ht => ht, fun _ hj => .inl hj, fun h0 h1 => ?_⟩
    by_cases hx : k.seen.getD s.toNat false = false
    · exact absurd ⟨h0, by rw [h.len]; exact h1, hx⟩ hc
    · simpa using hx
/-- What some meetings leave. -/
structure Met (n : Nat) (k k' : WK) : Prop where
  inv : WkI n k'
  mes : unseen k'.seen + k'.todo.length = unseen k.seen + k.todo.length
  up : ∀ j, k.seen.getD j false = true → k'.seen.getD j false = true
  td : ∀ t ∈ k.todo, t ∈ k'.todo
  new : ∀ j, k'.seen.getD j false = true → k.seen.getD j false = true ∨ j ∈ k'.todo
theorem Met.refl (h : WkI n k) : Met n k k := ⟨h, rfl, fun _ h => h, fun _ h => h, fun _ h => .inl h⟩
theorem Met.one {k' : WK} (h : Met n k k') (s : Int) : Met n k (meetP k' s) := by
  obtain ⟨h1, h2, h3, h4, h5, h6⟩ := h.inv.meet s
  exact ⟨h1, h2.trans h.mes, fun j hj => h3 j (h.up j hj), fun t ht => h4 t (h.td t ht), fun j hj => by
    rcases h5 j hj with q | q
    · exact (h.new j q).imp id (fun q => h4 j q)
    · exact .inr q.2⟩
theorem lsL_met {k0 : WK} : ∀ (l : List Int) (k : WK), Met n k0 k → Met n k0 (lsL l k) ∧ (∀ j, k.seen.getD j false = true → (lsL l k).seen.getD j false = true) ∧ (∀ s ∈ l, 0 ≤ s → s < (n : Int) → (lsL l k).seen.getD s.toNat false = true) ∧ (∀ C : Nat → Prop, (∀ j, k.seen.getD j false = true → C j) → (∀ s ∈ l, 0 ≤ s → s < (n : Int) → C s.toNat) → ∀ j, (lsL l k).seen.getD j false = true → C j)
  | [], k, h => ⟨h, fun _ h => h, fun s hs => absurd hs (by simp), fun C hC _ j hj => hC j hj⟩
  | s :: l, k, h => by
    obtain ⟨h1, h2, h3, h4, h5, h6⟩ := h.inv.meet s
    obtain ⟨i1, i2, i3, i4⟩ := lsL_met l (meetP k s) (h.one s)
    refine ⟨i1, fun j hj => i2 j (h3 j hj), fun t ht h0 hn => ?_, fun C hC hl j hj => i4 C (fun j hj => ?_) (fun t ht => hl t (List.mem_cons_of_mem _ ht)) j hj⟩
    · rcases List.mem_cons.1 ht with e | ht
      · rw [e] at h0 hn ⊢
        exact i2 _ (h6 h0 hn)
      · exact i3 t ht h0 hn
    · rcases h5 j hj with q | q
      · exact hC j q
      · have hb := (h1.todo j q.2).1
        have := hl s (by simp) (by omega) (by omega)
        rw [← q.1] at this
        simpa using this
theorem feL_ls : ∀ (l : List Ed) (k : WK), feL l k = lsL ((l.filter (fun e => e.fr)).map (fun e => (e.to : Int))) k
  | [], k => rfl
  | e :: l, k => by
    unfold feL
    rw [List.foldl_cons]
    cases hf : e.fr with
    | true => rw [if_pos rfl, List.filter_cons_of_pos hf, List.map_cons]; exact feL_ls l _
    | false => rw [if_neg (by simp), List.filter_cons_of_neg (by simp [hf])]; exact feL_ls l _
/-- What was seen is still to be met, or leads on to what was seen. -/
def CLk (E : EG) (k : WK) : Prop := ∀ s, k.seen.getD s false = true → s ∈ k.todo ∨ ∀ e ∈ E.getD s [], e.fr = true → e.to < E.length → k.seen.getD e.to false = true
def ClC (E : EG) (C : Nat → Prop) : Prop := ∀ s, C s → ∀ e ∈ E.getD s [], e.fr = true → e.to < E.length → C e.to
theorem last_mem {l : List Nat} (h : l ≠ []) : l.getLastD 0 ∈ l ∧ l = l.dropLast ++ [l.getLastD 0] := by
  cases l with
  | nil => exact absurd rfl h
  | cons a l =>
    rw [List.getLastD_cons]
    have h1 : (a :: l).getLast (by simp) = l.getLastD a := by rw [List.getLast_eq_getLastD]
    have h2 := List.dropLast_concat_getLast (l := a :: l) (by simp)
    rw [h1] at h2
    refine ⟨?_, h2.symm⟩
    rw [← h1]
    exact List.getLast_mem _
theorem wkP_ok (E : EG) : ∀ (m : Nat) (k : WK), WkI E.length k → CLk E k → unseen k.seen + k.todo.length < m → (wkP E m k).todo = [] ∧ WkI E.length (wkP E m k) ∧ CLk E (wkP E m k) ∧ (∀ j, k.seen.getD j false = true → (wkP E m k).seen.getD j false = true) ∧ (∀ C : Nat → Prop, ClC E C → (∀ j, k.seen.getD j false = true → C j) → ∀ j, (wkP E m k).seen.getD j false = true → C j)
  | 0, k, hI, hC, hm => absurd hm (Nat.not_lt_zero _)
  | m + 1, k, hI, hC, hm => by
    unfold wkP
    by_cases ht : k.todo = []
    · rw [if_pos ht]
      exact ⟨ht, hI, hC, fun _ h => h, fun C _ h j hj => h j hj⟩
    · rw [if_neg ht]
      obtain ⟨hl, hd⟩ := last_mem ht
      generalize hs : k.todo.getLastD 0 = s at *
      have hI' : WkI E.length ⟨k.seen, k.many, k.todo.dropLast⟩ := ⟨hI.len, fun t htt => hI.todo t (by rw [hd]; exact List.mem_append_left _ htt), hI.sum⟩
      rw [feL_ls]
      obtain ⟨a1, a2, a3, a4⟩ := lsL_met (((E.getD s []).filter (fun e => e.fr)).map (fun e => (e.to : Int))) ⟨k.seen, k.many, k.todo.dropLast⟩ (Met.refl hI')
      generalize lsL (((E.getD s []).filter (fun e => e.fr)).map (fun e => (e.to : Int))) ⟨k.seen, k.many, k.todo.dropLast⟩ = k2 at *
      have hlen : k.todo.length = k.todo.dropLast.length + 1 := by conv => lhs; rw [hd]
                                                                   simp
      have hmes := a1.mes
      simp only at hmes
      have hC2 : CLk E k2 := by
        intro t hts
        rcases a1.new t hts with q | q
        · simp only at q
          by_cases hst : t = s
          · subst hst
            right
            intro e he hf hlt
            have := a3 (e.to : Int) (List.mem_map.2 ⟨e, List.mem_filter.2 ⟨he, hf⟩, rfl⟩) (by omega) (by omega)
            simpa using this
          · rcases hC t q with q2 | q2
            · left
              rw [hd] at q2
              rcases List.mem_append.1 q2 with q3 | q3
              · exact a1.td t q3
              · exact absurd (List.mem_singleton.1 q3) hst
            · right
              intro e he hf hlt
              exact a2 _ (q2 e he hf hlt)
        · exact .inl q
      obtain ⟨b1, b2, b3, b4, b5⟩ := wkP_ok E m k2 a1.inv hC2 (by omega)
      refine ⟨b1, b2, b3, fun j hj => b4 j (a2 j hj), fun C hCc hk j hj => b5 C hCc (fun i hi => ?_) j hj⟩
      refine a4 C hk (fun x hx h0 hn => ?_) i hi
      obtain ⟨e, he, rfl⟩ := List.mem_map.1 hx
      obtain ⟨he1, he2⟩ := List.mem_filter.1 he
      have := hCc s (hk s (hI.todo s hl).2) e he1 he2 (by omega)
      simpa using this
theorem wk0_I (n : Nat) : WkI n (wk0 n) := ⟨by simp [wk0], fun s hs => absurd hs (by simp [wk0]), by simp [wk0, unseen]⟩
theorem wk0_seen (n j : Nat) : (wk0 n).seen.getD j false = false := by
  simp only [wk0, List.getD_eq_getElem?_getD, List.getElem?_replicate]
  split <;> rfl
/-- What is reached of some. -/
theorem reach_ok (E : EG) (l : List Int) : ∃ S : List Bool, reachP E l = allP S ∧ S.length = E.length ∧ (∀ s ∈ l, 0 ≤ s → s < (E.length : Int) → S.getD s.toNat false = true) ∧ ClC E (fun j => S.getD j false = true) ∧ (∀ C : Nat → Prop, ClC E C → (∀ s ∈ l, 0 ≤ s → s < (E.length : Int) → C s.toNat) → ∀ j, S.getD j false = true → C j) ∧ (unseen (lsL l (wk0 E.length)).seen + (lsL l (wk0 E.length)).todo.length < E.length + 1) := by
  obtain ⟨a1, a2, a3, a4⟩ := lsL_met l (wk0 E.length) (Met.refl (wk0_I E.length))
  have hm : unseen (lsL l (wk0 E.length)).seen + (lsL l (wk0 E.length)).todo.length < E.length + 1 := by
    rw [a1.mes]
    have := unseen_le (wk0 E.length).seen
    simp only [wk0, List.length_replicate, List.length_nil] at this ⊢
    omega
  have hC : CLk E (lsL l (wk0 E.length)) := by
    intro s hs
    rcases a1.new s hs with q | q
    · rw [wk0_seen] at q; cases q
    · exact .inl q
  obtain ⟨b1, b2, b3, b4, b5⟩ := wkP_ok E (E.length + 1) _ a1.inv hC hm
  refine ⟨_, rfl, b2.len, fun s hs h0 hn => b4 _ (a3 s hs h0 hn), fun s hs e he hf hlt => ?_, fun C hCc hl j hj => b5 C hCc (fun i hi => a4 C (fun j hj => by rw [wk0_seen] at hj; cases hj) hl i hi) j hj, hm⟩
  rcases b3 s hs with q | q
  · rw [b1] at q; cases q
  · exact q e he hf hlt
theorem mem_allP {l : List Bool} {j : Nat} : j ∈ allP l ↔ l.getD j false = true := by
  unfold allP
  rw [List.mem_filter, List.mem_range]
  refine ⟨fun h => h.2, fun h => ⟨?_, h⟩⟩
  rcases Nat.lt_or_ge j l.length with q | q
  · exact q
  · rw [List.getD_eq_getElem?_getD, List.getElem?_eq_none q] at h; cases h
theorem allP_sorted (l : List Bool) : (allP l).Pairwise (· < ·) := List.Pairwise.filter _ List.pairwise_lt_range
theorem reach_sorted (E : EG) (l : List Int) : (reachP E l).Pairwise (· < ·) := allP_sorted _
theorem reach_lt {E : EG} {l : List Int} {j : Nat} (h : j ∈ reachP E l) : j < E.length := by
  obtain ⟨S, e, hl, _⟩ := reach_ok E l
  rw [e] at h
  unfold allP at h
  rw [List.mem_filter, List.mem_range] at h
  omega
theorem allP_ext {l m : List Bool} (hl : l.length = m.length) (h : ∀ j, l.getD j false = m.getD j false) : allP l = allP m := by
  unfold allP
  rw [hl]
  congr 1
  funext j
  exact h j
/-- Once more it is the same. -/
theorem reach_idem (E : EG) (l : List Int) : reachP E (natI (reachP E l)) = reachP E l := by
  obtain ⟨S, e1, h1, h2, h3, h4, _⟩ := reach_ok E l
  obtain ⟨T, e2, g1, g2, g3, g4, _⟩ := reach_ok E (natI (reachP E l))
  rw [e2]
  rw [e1] at g2 g4 ⊢
  refine allP_ext (by rw [h1, g1]) (fun j => ?_)
  have key1 : S.getD j false = true → T.getD j false = true := fun hj => by
    have hm := mem_allP.2 hj
    have hlt : j < E.length := by rw [e1.symm] at hm; exact reach_lt hm
    have := g2 (j : Int) (List.mem_map.2 ⟨j, hm, rfl⟩) (by omega) (by omega)
    simpa using this
  have key2 : T.getD j false = true → S.getD j false = true := fun hj => by
    refine g4 (fun j => S.getD j false = true) h3 (fun s hs h0 hn => ?_) j hj
    obtain ⟨i, hi, rfl⟩ := List.mem_map.1 hs
    exact mem_allP.1 hi
  cases hS : S.getD j false with
  | true => exact (key1 hS)
  | false =>
    cases hT : T.getD j false with
    | false => rfl
    | true => rw [key2 hT] at hS; cases hS
/-- Of none nothing is reached. -/
theorem reach_none (E : EG) (l : List Int) (h : ∀ s ∈ l, ¬ (0 ≤ s ∧ s < (E.length : Int))) : reachP E l = [] := by
  obtain ⟨S, e, h1, h2, h3, h4, _⟩ := reach_ok E l
  rw [e]
  refine List.eq_nil_iff_forall_not_mem.2 (fun j hj => ?_)
  exact h4 (fun _ => False) (fun _ h => h.elim) (fun s hs h0 hn => h s hs ⟨h0, hn⟩) j (mem_allP.1 hj)
end Go.Proofs.Ytimffgmbchpfeaa
