/- nfa: what can be reached, as functions. Plain mathematics. -/
import Derived.Test.YtoiegkejkahfgaaDoorNfA
import Derived.Test.YtoiegkejkahfgaaDoorNfK
namespace Go.Proofs.YtoiegkejkahfgaaDoor
set_option linter.unusedSimpArgs false
set_option linter.unusedVariables false

/-- A walk: what was seen, how many these are, and what is still to be met (the last one first). -/
structure WK where
  seen : List Bool
  many : Nat
  todo : List Nat
def meetP (k : WK) (s : Int) : WK := if 0 ≤ s ∧ s < (k.seen.length : Int) ∧ k.seen.getD s.toNat false = false then ⟨k.seen.set s.toNat true, k.many + 1, k.todo ++ [s.toNat]⟩ else k
def lsL (l : List Int) (k : WK) : WK := l.foldl meetP k
def feL (l : List Ed) (k : WK) : WK := l.foldl (fun k e => if e.fr then meetP k (e.to : Int) else k) k
def wkP (E : EG) : Nat → WK → WK
  | 0, k => k
  | m + 1, k => if k.todo = [] then k else wkP E m (feL (E.getD (k.todo.getLastD 0) []) ⟨k.seen, k.many, k.todo.dropLast⟩)
def wk0 (n : Nat) : WK := ⟨List.replicate n false, 0, []⟩
def allP (l : List Bool) : List Nat := (List.range l.length).filter (fun s => l.getD s false)
def reachP (E : EG) (l : List Int) : List Nat := allP (wkP E (E.length + 1) (lsL l (wk0 E.length))).seen
def natI (l : List Nat) : List Int := l.map Int.ofNat
def startP (E : EG) : List Nat := reachP E [0]
def behP (l : List Ed) (c : Nat) : List Int := (l.filter (fun e => !e.fr && has e.set c)).map (fun e => (e.to : Int))
def behL (E : EG) (c : Nat) (l : List Int) : List Int := l.flatMap (fun s => if 0 ≤ s ∧ s < (E.length : Int) then behP (E.getD s.toNat []) c else [])
def stepP (E : EG) (l : List Int) (c : Nat) : List Nat := reachP E (behL E c l)
def runP (E : EG) (l : List Nat) (b : List Nat) : List Nat := b.foldl (fun l c => stepP E (natI l) c) l
def matchP (E : EG) (en : Nat) (b : List Nat) : Bool := (runP E (startP E) b).contains en

def unseen (l : List Bool) : Nat := l.count false
/-- What stands of a walk. -/
structure WkI (n : Nat) (k : WK) : Prop where
  len : k.seen.length = n
  todo : ∀ s ∈ k.todo, s < n ∧ k.seen.getD s false = true
  sum : k.many + unseen k.seen = n
theorem unseen_set {l : List Bool} {i : Nat} (h : i < l.length) (hf : l.getD i false = false) : unseen (l.set i true) + 1 = unseen l := by
  unfold unseen
  have hi : l[i] = false := by
    rw [List.getD_eq_getElem?_getD, List.getElem?_eq_getElem h] at hf
    exact hf
  rw [List.count_set h, hi]
  have : 0 < l.count false := List.count_pos_iff.2 (hi ▸ List.getElem_mem h)
  simp
  omega
theorem unseen_le (l : List Bool) : unseen l ≤ l.length := List.count_le_length
theorem getD_set {l : List Bool} {i j : Nat} (h : i < l.length) : (l.set i true).getD j false = (decide (i = j) || l.getD j false) := by
  rw [List.getD_eq_getElem?_getD, List.getD_eq_getElem?_getD, List.getElem?_set]
  by_cases hij : i = j
  · subst hij
    simp [h]
  · simp [hij]
variable {n : Nat} {k : WK} {E : EG}
/-- One more is met: what is left to see and to meet is as many as before. -/
theorem WkI.meet (h : WkI n k) (s : Int) : WkI n (meetP k s) ∧ unseen (meetP k s).seen + (meetP k s).todo.length = unseen k.seen + k.todo.length ∧ (∀ j, k.seen.getD j false = true → (meetP k s).seen.getD j false = true) ∧ (∀ t ∈ k.todo, t ∈ (meetP k s).todo) ∧
    (∀ j, (meetP k s).seen.getD j false = true → k.seen.getD j false = true ∨ ((j : Int) = s ∧ j ∈ (meetP k s).todo)) ∧ (0 ≤ s → s < (n : Int) → (meetP k s).seen.getD s.toNat false = true) := by
  unfold meetP
  by_cases hc : 0 ≤ s ∧ s < (k.seen.length : Int) ∧ k.seen.getD s.toNat false = false
  · rw [if_pos hc]
    obtain ⟨h0, h1, h2⟩ := hc
    have hlt : s.toNat < k.seen.length := by omega
    have hu := unseen_set hlt h2
    have hs := h.sum
    refine ⟨⟨by simp [h.len], fun t ht => ?_, ?_⟩, ?_, fun j hj => ?_, fun t ht => List.mem_append_left _ ht, fun j hj => ?_, fun _ _ => ?_⟩
    · simp only
      rw [getD_set hlt]
      rcases List.mem_append.1 ht with ht | ht
      · have := h.todo t ht
        exact ⟨this.1, by rw [this.2]; simp⟩
      · rw [List.mem_singleton.1 ht]
        exact ⟨by rw [← h.len]; exact hlt, by simp⟩
    · simp only; omega
    · simp only [List.length_append, List.length_cons, List.length_nil]; omega
    · simp only
      rw [getD_set hlt, hj]
      simp
    · simp only at hj ⊢
      rw [getD_set hlt] at hj
      by_cases e : s.toNat = j
      · exact .inr ⟨by omega, by rw [e]; simp⟩
      · simp [e] at hj
        exact .inl hj
    · simp only
      rw [getD_set hlt]
      simp
  · rw [if_neg hc]
    refine ⟨h, rfl, fun _ hj => hj, fun _ ht => ht, fun _ hj => .inl hj, fun h0 h1 => ?_⟩
    by_cases hx : k.seen.getD s.toNat false = false
    · exact absurd ⟨h0, by rw [h.len]; exact h1, hx⟩ hc
    · simpa using hx
/-- What some meetings leave. -/
structure Met (n : Nat) (k k' : WK) : Prop where
  inv : WkI n k'
  mes : unseen k'.seen + k'.todo.length = unseen k.seen + k.todo.length
  up : ∀ j, k.seen.getD j false = true → k'.seen.getD j false = true
  td : ∀ t ∈ k.todo, t ∈ k'.todo
  new : ∀ j, k'.seen.getD j false = true → k.seen.getD j false = true ∨ j ∈ k'.todo
theorem Met.refl (h : WkI n k) : Met n k k := ⟨h, rfl, fun _ h => h, fun _ h => h, fun _ h => .inl h⟩
theorem Met.one {k' : WK} (h : Met n k k') (s : Int) : Met n k (meetP k' s) := by
  obtain ⟨h1, h2, h3, h4, h5, h6⟩ := h.inv.meet s
  exact ⟨h1, h2.trans h.mes, fun j hj => h3 j (h.up j hj), fun t ht => h4 t (h.td t ht), fun j hj => by
    rcases h5 j hj with q | q
    · exact (h.new j q).imp id (fun q => h4 j q)
    · exact .inr q.2⟩
theorem lsL_met {k0 : WK} : ∀ (l : List Int) (k : WK), Met n k0 k → Met n k0 (lsL l k) ∧ (∀ j, k.seen.getD j false = true → (lsL l k).seen.getD j false = true) ∧ (∀ s ∈ l, 0 ≤ s → s < (n : Int) → (lsL l k).seen.getD s.toNat false = true) ∧ (∀ C : Nat → Prop, (∀ j, k.seen.getD j false = true → C j) → (∀ s ∈ l, 0 ≤ s → s < (n : Int) → C s.toNat) → ∀ j, (lsL l k).seen.getD j false = true → C j)
  | [], k, h => ⟨h, fun _ h => h, fun s hs => absurd hs (by simp), fun C hC _ j hj => hC j hj⟩
  | s :: l, k, h => by
    obtain ⟨h1, h2, h3, h4, h5, h6⟩ := h.inv.meet s
    obtain ⟨i1, i2, i3, i4⟩ := lsL_met l (meetP k s) (h.one s)
    refine ⟨i1, fun j hj => i2 j (h3 j hj), fun t ht h0 hn => ?_, fun C hC hl j hj => i4 C (fun j hj => ?_) (fun t ht => hl t (List.mem_cons_of_mem _ ht)) j hj⟩
    · rcases List.mem_cons.1 ht with e | ht
      · rw [e] at h0 hn ⊢
        exact i2 _ (h6 h0 hn)
      · exact i3 t ht h0 hn
    · rcases h5 j hj with q | q
      · exact hC j q
      · have hb := (h1.todo j q.2).1
        have := hl s (by simp) (by omega) (by omega)
        rw [← q.1] at this
        simpa using this
theorem feL_ls : ∀ (l : List Ed) (k : WK), feL l k = lsL ((l.filter (fun e => e.fr)).map (fun e => (e.to : Int))) k
  | [], k => rfl
  | e :: l, k => by
    unfold feL
    rw [List.foldl_cons]
    cases hf : e.fr with
    | true => rw [if_pos rfl, List.filter_cons_of_pos hf, List.map_cons]; exact feL_ls l _
    | false => rw [if_neg (by simp), List.filter_cons_of_neg (by simp [hf])]; exact feL_ls l _
/-- What was seen is still to be met, or leads on to what was seen. -/
def CLk (E : EG) (k : WK) : Prop := ∀ s, k.seen.getD s false = true → s ∈ k.todo ∨ ∀ e ∈ E.getD s [], e.fr = true → e.to < E.length → k.seen.getD e.to false = true
def ClC (E : EG) (C : Nat → Prop) : Prop := ∀ s, C s → ∀ e ∈ E.getD s [], e.fr = true → e.to < E.length → C e.to
theorem last_mem {l : List Nat} (h : l ≠ []) : l.getLastD 0 ∈ l ∧ l = l.dropLast ++ [l.getLastD 0] := by
  cases l with
  | nil => exact absurd rfl h
  | cons a l =>
    rw [List.getLastD_cons]
    have h1 : (a :: l).getLast (by simp) = l.getLastD a := by rw [List.getLast_eq_getLastD]
    have h2 := List.dropLast_concat_getLast (l := a :: l) (by simp)
    rw [h1] at h2
    refine ⟨?_, h2.symm⟩
    rw [← h1]
    exact List.getLast_mem _
theorem wkP_ok (E : EG) : ∀ (m : Nat) (k : WK), WkI E.length k → CLk E k → unseen k.seen + k.todo.length < m → (wkP E m k).todo = [] ∧ WkI E.length (wkP E m k) ∧ CLk E (wkP E m k) ∧ (∀ j, k.seen.getD j false = true → (wkP E m k).seen.getD j false = true) ∧ (∀ C : Nat → Prop, ClC E C → (∀ j, k.seen.getD j false = true → C j) → ∀ j, (wkP E m k).seen.getD j false = true → C j)
  | 0, k, hI, hC, hm => absurd hm (Nat.not_lt_zero _)
  | m + 1, k, hI, hC, hm => by
    unfold wkP
    by_cases ht : k.todo = []
    · rw [if_pos ht]
      exact ⟨ht, hI, hC, fun _ h => h, fun C _ h j hj => h j hj⟩
    · rw [if_neg ht]
      obtain ⟨hl, hd⟩ := last_mem ht
      generalize hs : k.todo.getLastD 0 = s at *
      have hI' : WkI E.length ⟨k.seen, k.many, k.todo.dropLast⟩ := ⟨hI.len, fun t htt => hI.todo t (by rw [hd]; exact List.mem_append_left _ htt), hI.sum⟩
      rw [feL_ls]
      obtain ⟨a1, a2, a3, a4⟩ := lsL_met (((E.getD s []).filter (fun e => e.fr)).map (fun e => (e.to : Int))) ⟨k.seen, k.many, k.todo.dropLast⟩ (Met.refl hI')
      generalize lsL (((E.getD s []).filter (fun e => e.fr)).map (fun e => (e.to : Int))) ⟨k.seen, k.many, k.todo.dropLast⟩ = k2 at *
      have hlen : k.todo.length = k.todo.dropLast.length + 1 := by conv => lhs; rw [hd]
                                                                   simp
      have hmes := a1.mes
      simp only at hmes
      have hC2 : CLk E k2 := by
        intro t hts
        rcases a1.new t hts with q | q
        · simp only at q
          by_cases hst : t = s
          · subst hst
            right
            intro e he hf hlt
            have := a3 (e.to : Int) (List.mem_map.2 ⟨e, List.mem_filter.2 ⟨he, hf⟩, rfl⟩) (by omega) (by omega)
            simpa using this
          · rcases hC t q with q2 | q2
            · left
              rw [hd] at q2
              rcases List.mem_append.1 q2 with q3 | q3
              · exact a1.td t q3
              · exact absurd (List.mem_singleton.1 q3) hst
            · right
              intro e he hf hlt
              exact a2 _ (q2 e he hf hlt)
        · exact .inl q
      obtain ⟨b1, b2, b3, b4, b5⟩ := wkP_ok E m k2 a1.inv hC2 (by omega)
      refine ⟨b1, b2, b3, fun j hj => b4 j (a2 j hj), fun C hCc hk j hj => b5 C hCc (fun i hi => ?_) j hj⟩
      refine a4 C hk (fun x hx h0 hn => ?_) i hi
      obtain ⟨e, he, rfl⟩ := List.mem_map.1 hx
      obtain ⟨he1, he2⟩ := List.mem_filter.1 he
      have := hCc s (hk s (hI.todo s hl).2) e he1 he2 (by omega)
      simpa using this
theorem wk0_I (n : Nat) : WkI n (wk0 n) := ⟨by simp [wk0], fun s hs => absurd hs (by simp [wk0]), by simp [wk0, unseen]⟩
theorem wk0_seen (n j : Nat) : (wk0 n).seen.getD j false = false := by
  simp only [wk0, List.getD_eq_getElem?_getD, List.getElem?_replicate]
  split <;> rfl
/-- What is reached of some. -/
theorem reach_ok (E : EG) (l : List Int) : ∃ S : List Bool, reachP E l = allP S ∧ S.length = E.length ∧ (∀ s ∈ l, 0 ≤ s → s < (E.length : Int) → S.getD s.toNat false = true) ∧ ClC E (fun j => S.getD j false = true) ∧ (∀ C : Nat → Prop, ClC E C → (∀ s ∈ l, 0 ≤ s → s < (E.length : Int) → C s.toNat) → ∀ j, S.getD j false = true → C j) ∧ (unseen (lsL l (wk0 E.length)).seen + (lsL l (wk0 E.length)).todo.length < E.length + 1) := by
  obtain ⟨a1, a2, a3, a4⟩ := lsL_met l (wk0 E.length) (Met.refl (wk0_I E.length))
  have hm : unseen (lsL l (wk0 E.length)).seen + (lsL l (wk0 E.length)).todo.length < E.length + 1 := by
    rw [a1.mes]
    have := unseen_le (wk0 E.length).seen
    simp only [wk0, List.length_replicate, List.length_nil] at this ⊢
    omega
  have hC : CLk E (lsL l (wk0 E.length)) := by
    intro s hs
    rcases a1.new s hs with q | q
    · rw [wk0_seen] at q; cases q
    · exact .inl q
  obtain ⟨b1, b2, b3, b4, b5⟩ := wkP_ok E (E.length + 1) _ a1.inv hC hm
  refine ⟨_, rfl, b2.len, fun s hs h0 hn => b4 _ (a3 s hs h0 hn), fun s hs e he hf hlt => ?_, fun C hCc hl j hj => b5 C hCc (fun i hi => a4 C (fun j hj => by rw [wk0_seen] at hj; cases hj) hl i hi) j hj, hm⟩
  rcases b3 s hs with q | q
  · rw [b1] at q; cases q
  · exact q e he hf hlt
theorem mem_allP {l : List Bool} {j : Nat} : j ∈ allP l ↔ l.getD j false = true := by
  unfold allP
  rw [List.mem_filter, List.mem_range]
  refine ⟨fun h => h.2, fun h => ⟨?_, h⟩⟩
  rcases Nat.lt_or_ge j l.length with q | q
  · exact q
  · rw [List.getD_eq_getElem?_getD, List.getElem?_eq_none q] at h; cases h
theorem allP_sorted (l : List Bool) : (allP l).Pairwise (· < ·) := List.Pairwise.filter _ List.pairwise_lt_range
theorem reach_sorted (E : EG) (l : List Int) : (reachP E l).Pairwise (· < ·) := allP_sorted _
theorem reach_lt {E : EG} {l : List Int} {j : Nat} (h : j ∈ reachP E l) : j < E.length := by
  obtain ⟨S, e, hl, _⟩ := reach_ok E l
  rw [e] at h
  unfold allP at h
  rw [List.mem_filter, List.mem_range] at h
  omega
theorem allP_ext {l m : List Bool} (hl : l.length = m.length) (h : ∀ j, l.getD j false = m.getD j false) : allP l = allP m := by
  unfold allP
  rw [hl]
  congr 1
  funext j
  exact h j
/-- Once more it is the same. -/
theorem reach_idem (E : EG) (l : List Int) : reachP E (natI (reachP E l)) = reachP E l := by
  obtain ⟨S, e1, h1, h2, h3, h4, _⟩ := reach_ok E l
  obtain ⟨T, e2, g1, g2, g3, g4, _⟩ := reach_ok E (natI (reachP E l))
  rw [e2]
  rw [e1] at g2 g4 ⊢
  refine allP_ext (by rw [h1, g1]) (fun j => ?_)
  have key1 : S.getD j false = true → T.getD j false = true := fun hj => by
    have hm := mem_allP.2 hj
    have hlt : j < E.length := by rw [e1.symm] at hm; exact reach_lt hm
    have := g2 (j : Int) (List.mem_map.2 ⟨j, hm, rfl⟩) (by omega) (by omega)
    simpa using this
  have key2 : T.getD j false = true → S.getD j false = true := fun hj => by
    refine g4 (fun j => S.getD j false = true) h3 (fun s hs h0 hn => ?_) j hj
    obtain ⟨i, hi, rfl⟩ := List.mem_map.1 hs
    exact mem_allP.1 hi
  cases hS : S.getD j false with
  | true => exact (key1 hS)
  | false =>
    cases hT : T.getD j false with
    | false => rfl
    | true => rw [key2 hT] at hS; cases hS
/-- Of none nothing is reached. -/
theorem reach_none (E : EG) (l : List Int) (h : ∀ s ∈ l, ¬ (0 ≤ s ∧ s < (E.length : Int))) : reachP E l = [] := by
  obtain ⟨S, e, h1, h2, h3, h4, _⟩ := reach_ok E l
  rw [e]
  refine List.eq_nil_iff_forall_not_mem.2 (fun j hj => ?_)
  exact h4 (fun _ => False) (fun _ h => h.elim) (fun s hs h0 hn => h s hs ⟨h0, hn⟩) j (mem_allP.1 hj)
end Go.Proofs.YtoiegkejkahfgaaDoor

/- nfa: has; a walk in memory; meet. -/
namespace Go.Proofs.YtoiegkejkahfgaaDoor
set_option linter.unusedSimpArgs false
set_option linter.unusedVariables false
open Go.RowKit

set_option maxRecDepth 100000 in
theorem has_anyA (A : Option Addr) (n c : Nat) (en s : Int) (w : World) : Calls Tryd.prog 22 #[.agg #[.slice A n c, .int .i64 en], .int .i64 s] w fun e w' => e = .returned (.bool (decide (0 ≤ s ∧ s < (n : Int)))) ∧ Below w.heap.size w w' := by
  have hal := al_belowN w (.cells #[.slice A n c, .int .i64 en] 33)
  have hb : Blk (w.alloc (.cells #[.slice A n c, .int .i64 en] 33)) w.heap.size 33 [.slice A n c, .int .i64 en] := Blk.fresh w _ _
  have k0 := hb.at 0
  have k1 := hb.at 1
  simp only [List.getElem?_cons_zero, List.getElem?_cons_succ] at k0 k1
  have HLn := hid (fun (W : World) => len_any A n c en W)
  have HA := hid hal
  clear hb hal
  by_cases h0 : 0 ≤ s
  · have e : decide (0 ≤ s ∧ s < (n : Int)) = decide (s < (n : Int)) := by simp [h0]
    rw [e]
    clear e
    go_enter Tryd.func22, Tryd.ntmps22
    go_upto_region 1 with fail
    change Code.wp _ _ _ _ (w.alloc (.cells #[.slice A n c, .int .i64 en] 33))
    generalize w.alloc (.cells #[.slice A n c, .int .i64 en] 33) = w1 at *
    go_wp2_with (go_at_call 16; refine (HLn.out _).mono ?_; rintro e w2 ⟨rfl, hb2⟩)
    go_ret
    exact ⟨rfl, HA.out.trans (hb2.mono HA.out.size)⟩
  · have e : decide (0 ≤ s ∧ s < (n : Int)) = false := by simp [h0]
    rw [e]
    clear e
    go_enter Tryd.func22, Tryd.ntmps22
    go_upto_region 1 with fail
    change Code.wp _ _ _ _ (w.alloc (.cells #[.slice A n c, .int .i64 en] 33))
    generalize w.alloc (.cells #[.slice A n c, .int .i64 en] 33) = w1 at *
    go_wp2
    go_ret
    exact ⟨rfl, HA.out⟩
def intsN (l : List Nat) : List Value := l.map fun (s : Nat) => Value.int .i64 (s : Int)
/-- A walk in memory. -/
structure WkR (w0 : World) (A : Option Addr) (c : Nat) (E : EG) (en : Int) (B bS : Nat) (k : WK) (W : World) : Prop where
  bel : Below w0.heap.size w0 W
  hB : w0.heap.size ≤ B
  hS : w0.heap.size ≤ bS
  seen : Blk W bS 4 (k.seen.map Value.bool)
  inv : WkI E.length k
  tl : unseen k.seen + k.todo.length ≤ E.length
  td : ∃ tA tc, Blk W B 86 [.slice A E.length c, .int .i64 en, .slice (some ⟨bS, 0, none⟩) E.length E.length, .int .i64 (k.many : Int), .slice tA k.todo.length tc] ∧ W.ownsRow w0.heap.size 3 1 (.slice tA k.todo.length tc) k.todo.length (intsN k.todo)
variable {w0 W W' : World} {A : Option Addr} {c B bS : Nat} {E : EG} {en : Int} {k : WK}
theorem WkR.keep (h : WkR w0 A c E en B bS k W) (hb : Below W.heap.size W W') : WkR w0 A c E en B bS k W' := by
  obtain ⟨tA, tc, h1, h2⟩ := h.td
  exact ⟨h.bel.trans (hb.mono h.bel.size), h.hB, h.hS, h.seen.keep hb, h.inv, h.tl, tA, tc, h1.keep hb, owns_chg h2 (Chg.of_below hb (fun _ => False)) (fun _ _ h => h)⟩
theorem info_intN : (Tryd.prog.info? 3).map (fun i => (i.zero, i.size, i.bytes)) = some (some (.int .i64 0), 1, 8) := by kernel_rfl
theorem int_cell (W : World) (x : Int) : ∀ j u, ([Value.int .i64 x] : List Value)[j]? = some u → (W.alloc (.cells #[.int .i64 x] 3)).cell? ((⟨W.heap.size, 0, none⟩ : Addr).add j) = some u := by
  intro j u hj
  rw [addr_add, Nat.zero_add]
  exact (Blk.at (Blk.fresh W 3 [.int .i64 x]) j).trans hj
theorem walk_cells {tA : Option Addr} {tc n m : Nat} {q : Int} (h : Blk W B 86 [.slice A n c, .int .i64 en, .slice (some ⟨bS, 0, none⟩) n n, .int .i64 q, .slice tA m tc]) : W.cell? ⟨B, 0, none⟩ = some (.slice A n c) ∧ W.cell? ⟨B, 1, none⟩ = some (.int .i64 en) ∧ W.cell? ⟨B, 2, none⟩ = some (.slice (some ⟨bS, 0, none⟩) n n) ∧ W.cell? ⟨B, 3, none⟩ = some (.int .i64 q) ∧ W.cell? ⟨B, 4, none⟩ = some (.slice tA m tc) ∧ W.frozen? ⟨B, 3, none⟩ = false ∧ W.frozen? ⟨B, 4, none⟩ = false := ⟨h.at 0, h.at 1, h.at 2, h.at 3, h.at 4, h.free 3, h.free 4⟩
theorem seen_cell {l : List Bool} {i : Nat} (h : Blk W bS 4 (l.map Value.bool)) (hi : i < l.length) : W.cell? ⟨bS, i, none⟩ = some (.bool (l.getD i false)) := by
  rw [h.at i, List.getElem?_map, List.getD_eq_getElem?_getD, List.getElem?_eq_getElem hi]
  rfl
/-- A walk's three blocks: what it saw, itself, its row. -/
structure Wk3 (w0 : World) (B bS : Nat) (S : List Bool) (cs : List Value) (T : Value) (m : Nat) (xs : List Value) (W : World) : Prop where
  bel : Below w0.heap.size w0 W
  hB : w0.heap.size ≤ B
  hS : w0.heap.size ≤ bS
  s : Blk W bS 4 (S.map Value.bool)
  b : Blk W B 86 cs
  o : W.ownsRow w0.heap.size 3 1 T m xs
theorem Wk3.ne {S : List Bool} {cs xs : List Value} {T : Value} {m : Nat} (h : Wk3 w0 B bS S cs T m xs W) : B ≠ bS := by
  intro e
  have h1 := h.b
  have h2 := h.s
  rw [e] at h1
  have := h1.symm.trans h2
  injection this with this
  injection this with _ this
  exact absurd this (by decide)
theorem Wk3.keep {S : List Bool} {cs xs : List Value} {T : Value} {m : Nat} (h : Wk3 w0 B bS S cs T m xs W) (hb : Below W.heap.size W W') : Wk3 w0 B bS S cs T m xs W' :=
  ⟨h.bel.trans (hb.mono h.bel.size), h.hB, h.hS, h.s.keep hb, h.b.keep hb, owns_chg h.o (Chg.of_below hb (fun _ => False)) (fun _ _ h => h)⟩
theorem Wk3.sn {S : List Bool} {cs xs : List Value} {T : Value} {m : Nat} (h : Wk3 w0 B bS S cs T m xs W) (i : Nat) (v : Bool) : Wk3 w0 B bS (S.set i v) cs T m xs (W.setCell ⟨bS, i, none⟩ (.bool v)) := by
  refine ⟨h.bel.setCell h.hS _, h.hB, h.hS, ?_, h.b.other (p := ⟨bS, i, none⟩) h.ne _, owns_chg h.o ((Chg.refl W (fun k => k = bS)).set bS i rfl _) (fun k hk e => own_neN h.o h.s (by decide) (by rw [hk, e]))⟩
  rw [List.map_set]
  exact h.s.put i _
theorem Wk3.bb {S : List Bool} {cs xs : List Value} {T : Value} {m : Nat} (h : Wk3 w0 B bS S cs T m xs W) (i : Nat) (u : Value) : Wk3 w0 B bS S (cs.set i u) T m xs (W.setCell ⟨B, i, none⟩ u) :=
  ⟨h.bel.setCell h.hB _, h.hB, h.hS, h.s.other (p := ⟨B, i, none⟩) h.ne.symm _, h.b.put i _, owns_chg h.o ((Chg.refl W (fun k => k = B)).set B i rfl _) (fun k hk e => own_neN h.o h.b (by decide) (by rw [hk, e]))⟩
theorem Wk3.new {S : List Bool} {cs xs ys : List Value} {T T' : Value} {m m' : Nat} (h : Wk3 w0 B bS S cs T m xs W) (hown : W'.ownsRow w0.heap.size 3 1 T' m' ys) (hgr : W.grownBy W' T.ownBlock) : Wk3 w0 B bS S cs T' m' ys W' :=
  ⟨Chg.below h.bel (Chg.of_grown hgr) h.bel.size (fun k hk => (own_blockN h.o k hk).1), h.hB, h.hS, (hgr.block bS h.s.lt (fun e => own_neN h.o h.s (by decide) e.symm)).trans h.s, (hgr.block B h.b.lt (fun e => own_neN h.o h.b (by decide) e.symm)).trans h.b, hown⟩
theorem WkR.three (h : WkR w0 A c E en B bS k W) : ∃ tA tc, Wk3 w0 B bS k.seen [.slice A E.length c, .int .i64 en, .slice (some ⟨bS, 0, none⟩) E.length E.length, .int .i64 (k.many : Int), .slice tA k.todo.length tc] (.slice tA k.todo.length tc) k.todo.length (intsN k.todo) W := by
  obtain ⟨tA, tc, h1, h2⟩ := h.td
  exact ⟨tA, tc, h.bel, h.hB, h.hS, h.seen, h1, h2⟩
theorem WkR.of3 {tA : Option Addr} {tc : Nat} (h : Wk3 w0 B bS k.seen [.slice A E.length c, .int .i64 en, .slice (some ⟨bS, 0, none⟩) E.length E.length, .int .i64 (k.many : Int), .slice tA k.todo.length tc] (.slice tA k.todo.length tc) k.todo.length (intsN k.todo) W) (hi : WkI E.length k) (hl : unseen k.seen + k.todo.length ≤ E.length) : WkR w0 A c E en B bS k W :=
  ⟨h.bel, h.hB, h.hS, h.s, hi, hl, tA, tc, h.b, h.o⟩
set_option maxRecDepth 100000 in
set_option maxHeartbeats 4000000 in
theorem meet_any (h : WkR w0 A c E en B bS k W) (hE : E.length ≤ 5000) (s : Int) : Calls Tryd.prog 39 #[.pointer (some ⟨B, 0, none⟩), .int .i64 s] W fun e w' => e = .returned (.tuple #[]) ∧ WkR w0 A c E en B bS (meetP k s) w' := by
  obtain ⟨tA, tc, h3⟩ := h.three
  have hb := h3.b
  have hlen := h.inv.len
  have htl := h.tl
  have hsum := h.inv.sum
  have HHas := hid (fun (W : World) => has_anyA A E.length c en s W)
  obtain ⟨d0, d1, d2, d3, d4, d5, d6⟩ := walk_cells hb
  have HI := hid (h.inv.meet s)
  by_cases hr : 0 ≤ s ∧ s < (E.length : Int)
  rotate_left
  · have hm : meetP k s = k := by unfold meetP; rw [if_neg (fun q => hr ⟨q.1, by rw [← hlen]; exact q.2.1⟩)]
    rw [hm]
    have HW := hid h
    rw [decide_eq_false hr] at HHas
    clear hm h h3 hb hlen htl hsum hr HI
    go_enter Tryd.func39, Tryd.ntmps39
    go_wp2_with (go_at_call 22; refine (HHas.out _).mono ?_; rintro e w1 ⟨rfl, hb1⟩)
    exact bodyPost_ret (v := .tuple #[]) (results_none rfl _ _ _) rfl ⟨rfl, HW.out.keep hb1⟩
  · rw [decide_eq_true hr] at HHas
    obtain ⟨sn, rfl⟩ : ∃ sn : Nat, s = (sn : Int) := ⟨s.toNat, by omega⟩
    have hsn : sn < E.length := by omega
    cases hv : k.seen.getD sn false with
    | true =>
      have hm : meetP k (sn : Int) = k := by unfold meetP; rw [if_neg (fun q => by have := q.2.2; rw [Int.toNat_natCast, hv] at this; cases this)]
      rw [hm]
      have HW := hid h
      have HSc := hid (fun (W' : World) (hb : Below W.heap.size W W') => seen_cell (h.seen.keep hb) (show sn < k.seen.length by omega))
      rw [hv] at HSc
      have HBk := hid (fun (W' : World) (hw : Below W.heap.size W W') => walk_cells (hb.keep hw))
      clear hm h h3 hb hlen htl hsum hr HI hv
      go_enter Tryd.func39, Tryd.ntmps39
      go_wp2_with (go_at_call 22; refine (HHas.out _).mono ?_; rintro e w1 ⟨rfl, hb1⟩; (have sc := HSc.out _ hb1); clear d0 d1 d2 d3 d4 d5 d6; obtain ⟨d0, d1, d2, d3, d4, d5, d6⟩ := HBk.out _ hb1)
      exact bodyPost_ret (v := .tuple #[]) (results_none rfl _ _ _) rfl ⟨rfl, HW.out.keep hb1⟩
    | false =>
      have hm : meetP k (sn : Int) = ⟨k.seen.set sn true, k.many + 1, k.todo ++ [sn]⟩ := by
        unfold meetP
        rw [if_pos ⟨by omega, by omega, by rw [Int.toNat_natCast]; exact hv⟩, Int.toNat_natCast]
      have HSc := hid (fun (W' : World) (hb : Below W.heap.size W W') => seen_cell (h.seen.keep hb) (show sn < k.seen.length by omega))
      rw [hv] at HSc
      have HBk := hid (fun (W' : World) (hw : Below W.heap.size W W') => walk_cells (hb.keep hw))
      have H3 := hid (fun (W' : World) (hb : Below W.heap.size W W') => h3.keep hb)
      have hmany : k.many ≤ 5000 := by omega
      have htd : k.todo.length ≤ 5000 := by omega
      have hI1 := HI.out.1
      have hI2 := HI.out.2.1
      rw [hm] at hI1 hI2 ⊢
      have HI1 := hid hI1
      have HI2 := hid (show unseen (k.seen.set sn true) + (k.todo ++ [sn]).length ≤ E.length by have := hI2; simp only at this; omega)
      clear hm h h3 hb hlen htl hsum hr HI hv hI1 hI2
      obtain ⟨i0, hi0, hz0, hz1, hz2⟩ := info_parts info_intN
      go_enter Tryd.func39, Tryd.ntmps39
      go_upto_region 1 with (go_at_call 22; refine (HHas.out _).mono ?_; rintro e w1 ⟨rfl, hb1⟩; (have sc := HSc.out _ hb1); clear d0 d1 d2 d3 d4 d5 d6; obtain ⟨d0, d1, d2, d3, d4, d5, d6⟩ := HBk.out _ hb1)
      have H4 := hid (H3.out _ hb1)
      have f0 : w1.frozen? ⟨bS, sn, none⟩ = false := H4.out.s.free sn
      go_upto_region 2 with fail
      have H5 := hid (H4.out.sn sn true)
      clear d0 d1 d2 d3 d4 d5 d6 f0 sc H3 H4 HHas HSc HBk hb1
      generalize w1.setCell ⟨bS, sn, none⟩ (.bool true) = w2 at *
      obtain ⟨d0, d1, d2, d3, d4, d5, d6⟩ := walk_cells H5.out.b
      go_upto_region 3 with fail
      have H6 := hid (H5.out.bb 3 (.int .i64 ((k.many : Int) + 1)))
      clear d0 d1 d2 d3 d4 d5 d6 H5
      generalize w2.setCell ⟨B, 3, none⟩ (.int .i64 ((k.many : Int) + 1)) = w3 at *
      obtain ⟨d0, d1, d2, d3, d4, d5, d6⟩ := walk_cells (q := ((k.many : Int) + 1)) H6.out.b
      have H7 := hid (H6.out.keep (al_belowN w3 (.cells #[.int .i64 (sn : Int)] 3)))
      have HO7 := hid H7.out.o
      have HN := hid (int_cell w3 (sn : Int))
      have hsz := H6.out.bel.size
      go_wp2_with (first
        | (refine wpList_append_own_at _ rfl _ _ 37 rfl w0.heap.size 3 i0 (.int .i64 0) 1 8 Tryd.underlying37 hi0 hz0 hz1 hz2 rfl (by decide) _ _ _ rfl HO7.out ⟨w3.heap.size, 0, none⟩ 1 1 [.int .i64 (sn : Int)] rfl rfl HN.out (by intro u hu; simp at hu; subst hu; rfl) (by unfold maxLen; omega) (by omega) (by simp; omega) ?_; intro u7 w7 hown7 hgrow7 _ _; obtain ⟨A7, c7, rfl⟩ := own_shapeN hown7; have H8 := hid (H7.out.new hown7 hgrow7); clear hown7 hgrow7 d0 d1 d2 d3 d4 d5 d6; obtain ⟨d0, d1, d2, d3, d4, d5, d6⟩ := walk_cells (q := ((k.many : Int) + 1)) H8.out.b))
      go_end0
      have H9 := H8.out.bb 4 (.slice A7 (k.todo.length + 1) c7)
      have el : (k.todo ++ [sn]).length = k.todo.length + 1 := by simp
      have ei : intsN (k.todo ++ [sn]) = intsN k.todo ++ [.int .i64 (sn : Int)] := by simp [intsN]
      refine ⟨rfl, WkR.of3 (tA := A7) (tc := c7) (k := ⟨k.seen.set sn true, k.many + 1, k.todo ++ [sn]⟩) ?_ HI1.out HI2.out⟩
      simp only [el, ei]
      exact H9
end Go.Proofs.YtoiegkejkahfgaaDoor

/- nfa: all. -/
namespace Go.Proofs.YtoiegkejkahfgaaDoor
set_option linter.unusedSimpArgs false
set_option linter.unusedVariables false
open Go.RowKit
variable {w0 W W' : World} {A : Option Addr} {c B bS : Nat} {E : EG} {en : Int} {k : WK}

def aP (l : List Bool) (j : Nat) : List Nat := (List.range j).filter (fun s => l.getD s false)
theorem aP_all (l : List Bool) : aP l l.length = allP l := rfl
theorem aP_succ (l : List Bool) (j : Nat) : aP l (j + 1) = aP l j ++ (if l.getD j false = true then [j] else []) := by
  unfold aP
  rw [List.range_succ, List.filter_append]
  refine congrArg _ ?_
  simp only [List.filter_cons, List.filter_nil]
theorem aP_len (l : List Bool) (j : Nat) : (aP l j).length ≤ j := by
  unfold aP
  have := List.length_filter_le (fun s => l.getD s false) (List.range j)
  rw [List.length_range] at this
  exact this
/-- What all has of it behind some rounds. -/
structure AlR (W : World) (l : List Bool) (j : Nat) (u : Value) (wr : World) : Prop where
  bel : Below W.heap.size W wr
  row : wr.ownsRow W.heap.size 3 1 u (aP l j).length (intsN (aP l j))
theorem AlR.grown {l : List Bool} {j j' : Nat} {u u' : Value} {wr wr' : World} (h : AlR W l j u wr) (hgr : wr.grownBy wr' u.ownBlock) (ho : wr'.ownsRow W.heap.size 3 1 u' (aP l j').length (intsN (aP l j'))) : AlR W l j' u' wr' :=
  ⟨Chg.below h.bel (Chg.of_grown hgr) h.bel.size (fun q hq => (own_blockN h.row q hq).1), ho⟩
theorem AlR.keep {l : List Bool} {j : Nat} {u : Value} {wr wr' : World} (h : AlR W l j u wr) (hb : Below wr.heap.size wr wr') : AlR W l j u wr' :=
  ⟨h.bel.trans (hb.mono h.bel.size), owns_chg h.row (Chg.of_below hb (fun _ => False)) (fun _ _ h => h)⟩
theorem AlR.shape {l : List Bool} {j : Nat} {u : Value} {wr : World} (h : AlR W l j u wr) : ∃ A c, u = .slice A (aP l j).length c := own_shapeN h.row
set_option maxRecDepth 100000 in
set_option maxHeartbeats 4000000 in
theorem wall_any (h : WkR w0 A c E en B bS k W) (hE : E.length ≤ 5000) : Calls Tryd.prog 40 #[.pointer (some ⟨B, 0, none⟩)] W fun e w' => ∃ u, e = .returned u ∧ w'.ownsRow W.heap.size 3 1 u (allP k.seen).length (intsN (allP k.seen)) ∧ Below W.heap.size W w' := by
  obtain ⟨tA, tc, h3⟩ := h.three
  have hlen := h.inv.len
  have hsum := h.inv.sum
  have hmany : k.many ≤ 5000 := by have := h.tl; omega
  have hsl : k.seen.length ≤ 5000 := by omega
  obtain ⟨d0, d1, d2, d3, d4, d5, d6⟩ := walk_cells h3.b
  have HBk := hid (fun (W' : World) (hw : Below W.heap.size W W') => walk_cells (h3.b.keep hw))
  have HSc := hid (fun (W' : World) (hb : Below W.heap.size W W') (j : Nat) (hj : j < E.length) => seen_cell (i := j) (h.seen.keep hb) (by omega))
  have HLen := hid hlen
  obtain ⟨n, hn⟩ : ∃ n, n = E.length := ⟨_, rfl⟩
  rw [← hn] at d2 d0 hE HSc HBk HLen
  clear h h3 hlen hsum hsl hn
  obtain ⟨i0, hi0, hz0, hz1, hz2⟩ := info_parts info_intN
  go_enter Tryd.func40, Tryd.ntmps40
  go_upto_region 2 with (refine wpList_make_own _ rfl _ _ 37 rfl W.heap.size 3 i0 (.int .i64 0) 1 Tryd.underlying37 hi0 hz0 hz1 .i64 .i64 _ k.many rfl rfl rfl (by rw [hz2]; omega) (by unfold maxLen; omega) (Nat.le_refl _) ?_; intro w2 hown2 hgr2)
  have HA2 := hid (show AlR W k.seen 0 (.slice (some ⟨W.heap.size, 0, none⟩) 0 k.many) w2 from ⟨Chg.below (Below.refl _ _) (Chg.of_grown hgr2) (Nat.le_refl _) (fun q hq => by cases hq), hown2⟩)
  clear hown2 hgr2 d0 d1 d2 d3 d4 d5 d6
  generalize hu2 : (Value.slice (some ⟨W.heap.size, 0, none⟩) 0 k.many) = u2 at *
  clear hu2
  obtain ⟨d0, d1, d2, d3, d4, d5, d6⟩ := HBk.out _ HA2.out.bel
  go_wp2
  clear d0 d1 d2 d3 d4 d5 d6
  obtain ⟨A2, c2, hs2⟩ := HA2.out.shape
  have hs3 : u2 = .slice A2 (aP k.seen 0).length c2 := hs2
  clear hs2
  go_loopw [3, 16] (fun s3 i wr => ∃ j : Nat, j ≤ n ∧ i = .int .i64 (j : Int) ∧ Hid (AlR W k.seen j s3 wr)) (fun _ i _ => n - (intOf i).toNat)
  case atStart => exact ⟨0, Nat.zero_le _, rfl, HA2⟩
  case round =>
    obtain ⟨j, hj, rfl, HA3⟩ := hrel
    by_cases hlt : j < n
    · have hc := HSc.out _ HA3.out.bel j hlt
      have p3 : (j : Int) < (n : Int) := by omega
      cases hv : k.seen.getD j false with
      | false =>
        rw [hv] at hc
        have HT := hid (show aP k.seen (j + 1) = aP k.seen j by rw [aP_succ, hv]; simp)
        clear hv HSc HBk HA2 hi0 hz0 hz1 hs3
        go_wp2
        go_roundw
        case rel => exact ⟨j + 1, by omega, by go_num, hid ⟨HA3.out.bel, by rw [HT.out]; exact HA3.out.row⟩⟩
        case measure => simp [intOf]; omega
      | true =>
        rw [hv] at hc
        have HT := hid (show aP k.seen (j + 1) = aP k.seen j ++ [j] by rw [aP_succ, hv]; simp)
        have hl := aP_len k.seen j
        have HA4 := hid (HA3.out.keep (al_belowN wr (.cells #[.int .i64 (j : Int)] 3)))
        obtain ⟨A3, c3, rfl⟩ := HA3.out.shape
        have HO4 := hid HA4.out.row
        have HN := hid (int_cell wr (j : Int))
        have hsz := HA3.out.bel.size
        generalize hm : (aP k.seen j).length = m at *
        clear hv HSc HBk HA2 hs3
        go_wp2_with (refine wpList_append_own_at _ rfl _ _ 37 rfl W.heap.size 3 i0 (.int .i64 0) 1 8 Tryd.underlying37 hi0 hz0 hz1 hz2 rfl (by decide) _ _ _ rfl HO4.out ⟨wr.heap.size, 0, none⟩ 1 1 [.int .i64 (j : Int)] rfl rfl HN.out (by intro u hu; simp at hu; subst hu; rfl) (by unfold maxLen; omega) (by omega) (by simp; omega) ?_; intro u7 w7 hown7 hgrow7 _ _)
        go_roundw
        case rel =>
          refine ⟨j + 1, by omega, by go_num, hid (HA4.out.grown hgrow7 ?_)⟩
          have e1 : (aP k.seen j ++ [j]).length = m + 1 := by rw [List.length_append, hm]; rfl
          have e2 : intsN (aP k.seen j ++ [j]) = intsN (aP k.seen j) ++ [.int .i64 (j : Int)] := by simp [intsN]
          rw [HT.out, e1, e2]
          exact hown7
        case measure => simp [intOf]; omega
    · obtain rfl : j = n := by omega
      clear HSc HBk HA2 hi0 hz0 hz1 hs3
      go_wp2
      go_ret
      have := HA3.out.row
      rw [← HLen.out, aP_all] at this
      exact ⟨_, rfl, this, HA3.out.bel⟩
end Go.Proofs.YtoiegkejkahfgaaDoor
