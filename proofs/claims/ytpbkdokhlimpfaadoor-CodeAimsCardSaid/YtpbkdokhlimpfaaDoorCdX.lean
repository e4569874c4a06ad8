/- code: which steps can be met, as plain mathematics. -/
import Derived.Test.YtpbkdokhlimpfaaDoorCdW
namespace Go.Proofs.YtpbkdokhlimpfaaDoor
set_option linter.unusedSimpArgs false
set_option linter.unusedVariables false
open Go.RowKit

theorem fstBad_all {α : Type} (f : α → Bool) : ∀ (l : List α) (i : Nat), fstBad f l i = none → ∀ x ∈ l, f x = true
  | [], _, _, x, hx => by cases hx
  | y :: l, i, h, x, hx => by
    simp only [fstBad] at h
    split at h
    · rename_i hy
      rcases List.mem_cons.1 hx with rfl | hx
      · exact hy
      · exact fstBad_all f l (i + 1) h x hx
    · cases h
theorem ck_ok {f : ST → Bool} {p : PT} (h : (ckS f p).1 = 0) : sizeS p = true ∧ (∀ x ∈ p.ss, f x = true) ∧ lastS p = true := by
  unfold ckS at h
  split at h
  · simp at h
  · rename_i hs
    split at h
    · simp at h
    · rename_i hf
      split at h
      · rename_i hl
        exact ⟨by simpa using hs, fstBad_all f p.ss 0 hf, hl⟩
      · simp at h
theorem size_ok {p : PT} (h : sizeS p = true) : p.ss.length ≠ 0 ∧ p.ss.length ≤ 65536 ∧ 0 ≤ p.sl ∧ p.sl ≤ 4096 ∧ 0 ≤ p.su ∧ p.su ≤ 4096 ∧ 0 ≤ p.au ∧ p.au ≤ 4096 := by
  unfold sizeS fewS at h
  simp only [Bool.and_eq_true, decide_eq_true_eq] at h
  omega
theorem ck_none {f : ST → Bool} {p : PT} (h : (ckS f p).1 = 0) : ckS f p = (0, 0) := by
  unfold ckS at h ⊢
  split at h
  · simp at h
  · rename_i hs
    rw [if_neg hs]
    split at h
    · simp at h
    · split at h
      · rename_i hl
        rw [if_pos hl]
      · simp at h
theorem amg_in {i m : Int} (h : amg i m = true) : 0 ≤ i ∧ i < m := by
  unfold amg at h
  simpa using h
theorem leads_in {p : PT} (h : (ckS (mayS p) p).1 = 0) {i : Nat} {x : ST} (hx : p.ss[i]? = some x) : ∀ j ∈ ldL (i : Int) x, 0 ≤ j ∧ j < (p.ss.length : Int) := by
  obtain ⟨hs, hm, hla⟩ := ck_ok h
  have hil := (List.getElem?_eq_some_iff.1 hx).1
  have hxm : x ∈ p.ss := List.mem_of_getElem? hx
  have hmx := hm x hxm
  have hnext : x.k ≠ 20 → x.k ≠ 16 → x.k ≠ 11 → i + 1 < p.ss.length := fun h1 h2 h3 => by
    rcases Nat.lt_or_ge (i + 1) p.ss.length with hh | hh
    · exact hh
    · exfalso
      have e : p.ss.length - 1 = i := by omega
      unfold lastS at hla
      rw [e, hx] at hla
      simp [h1, h2, h3] at hla
  intro j hj
  unfold ldL at hj
  unfold mayS at hmx
  by_cases h16 : x.k = 16 ∨ x.k = 20
  · rw [if_pos h16] at hj; cases hj
  rw [if_neg h16] at hj
  by_cases h11 : x.k = 11
  · rw [if_pos h11, List.mem_singleton] at hj
    subst hj
    simp [h11] at hmx
    exact amg_in hmx
  rw [if_neg h11] at hj
  have hn := hnext (fun e => h16 (.inr e)) (fun e => h16 (.inl e)) h11
  by_cases h10 : x.k = 10 ∨ x.k = 12 ∨ x.k = 15
  · rw [if_pos h10] at hj
    have ha : amg x.a p.ss.length = true := by
      rcases h10 with e | e | e <;> (simp [e] at hmx; exact hmx)
    simp only [List.mem_cons, List.not_mem_nil, or_false] at hj
    rcases hj with rfl | rfl
    · exact amg_in ha
    · omega
  rw [if_neg h10] at hj
  by_cases h13 : x.k = 13 ∨ x.k = 14
  · rw [if_pos h13] at hj
    have hf : frkS p x = true ∧ (x.k = 13 → x.b = -1 ∨ amg x.b p.ss.length = true) := by
      rcases h13 with e | e
      · simp [e] at hmx
        refine ⟨hmx.2, fun _ => ?_⟩
        have := hmx.1.2
        simpa using this
      · simp [e] at hmx
        exact ⟨hmx.1, fun h => by omega⟩
    unfold fkL at hj
    rcases List.mem_append.1 hj with hj | hj
    · obtain ⟨y, hy, rfl⟩ := List.mem_map.1 hj
      have hfa := hf.1
      unfold frkS at hfa
      rw [Bool.and_eq_true] at hfa
      exact amg_in (List.all_eq_true.1 hfa.1 y hy)
    · split at hj
      · rename_i hb
        rw [List.mem_singleton] at hj
        subst hj
        rcases hf.2 hb.1 with e | e
        · exact absurd e hb.2
        · exact amg_in e
      · cases hj
  · rw [if_neg h13, List.mem_singleton] at hj
    omega
/-- To which steps a number's leads. -/
def stepAt (p : PT) (i : Nat) : List Int := match p.ss[i]? with
  | some x => ldL (i : Int) x
  | none => []
inductive Rch (p : PT) : Nat → Prop
  | zero : Rch p 0
  | step {i : Nat} {j : Int} : Rch p i → j ∈ stepAt p i → Rch p j.toNat
theorem stepAt_in {p : PT} (h : (ckS (mayS p) p).1 = 0) (i : Nat) : ∀ j ∈ stepAt p i, 0 ≤ j ∧ j < (p.ss.length : Int) := by
  unfold stepAt
  cases hx : p.ss[i]? with
  | none => intro j hj; cases hj
  | some x => exact leads_in h hx
structure RcM (p : PT) (met : List Bool) (todo : List Int) : Prop where
  len : met.length = p.ss.length
  td : ∀ t ∈ todo, ∃ i : Nat, t = (i : Int) ∧ met[i]? = some true
  rch : ∀ i : Nat, met[i]? = some true → Rch p i
  clo : ∀ i : Nat, met[i]? = some true → (i : Int) ∈ todo ∨ ∀ j ∈ stepAt p i, met[j.toNat]? = some true
  zero : met[0]? = some true
structure RcN (p : PT) (met : List Bool) (todo : List Int) (a q : Nat) : Prop where
  len : met.length = p.ss.length
  td : ∀ t ∈ todo, ∃ i : Nat, t = (i : Int) ∧ met[i]? = some true
  rch : ∀ i : Nat, met[i]? = some true → Rch p i
  clo : ∀ i : Nat, met[i]? = some true → (i : Int) ∈ todo ∨ i = a ∨ ∀ j ∈ stepAt p i, met[j.toNat]? = some true
  zero : met[0]? = some true
  ra : Rch p a
  don : ∀ j ∈ (stepAt p a).take q, met[j.toNat]? = some true
theorem RcM.pop {p : PT} {met : List Bool} {todo : List Int} {a : Nat} (h : RcM p met (todo ++ [(a : Int)])) : RcN p met todo a 0 := by
  refine ⟨h.len, fun t ht => h.td t (List.mem_append_left _ ht), h.rch, fun i hi => ?_, h.zero, ?_, fun j hj => by simp at hj⟩
  · rcases h.clo i hi with hm | hm
    · rcases List.mem_append.1 hm with hm | hm
      · exact .inl hm
      · rw [List.mem_singleton] at hm
        exact .inr (.inl (by omega))
    · exact .inr (.inr hm)
  · obtain ⟨i, e, hi⟩ := h.td (a : Int) (by simp)
    have : i = a := by omega
    subst this
    exact h.rch i hi
theorem RcN.skip {p : PT} {met : List Bool} {todo : List Int} {a q : Nat} (h : RcN p met todo a q) (hq : q < (stepAt p a).length) (hm : met[((stepAt p a)[q]).toNat]? = some true) : RcN p met todo a (q + 1) := by
  refine ⟨h.len, h.td, h.rch, h.clo, h.zero, h.ra, fun j hj => ?_⟩
  rw [List.take_succ_eq_append_getElem hq] at hj
  rcases List.mem_append.1 hj with hj | hj
  · exact h.don j hj
  · rw [List.mem_singleton] at hj
    subst hj
    exact hm
theorem met_set {met : List Bool} {k i : Nat} (h : met[i]? = some true) : (met.set k true)[i]? = some true := by
  rw [List.getElem?_set]
  split
  · rename_i e
    subst e
    rw [if_pos (List.getElem?_eq_some_iff.1 h).1]
  · exact h
theorem RcN.add {p : PT} {met : List Bool} {todo : List Int} {a q : Nat} (h : RcN p met todo a q) (hc : (ckS (mayS p) p).1 = 0) (hq : q < (stepAt p a).length) : RcN p (met.set ((stepAt p a)[q]).toNat true) (todo ++ [(stepAt p a)[q]]) a (q + 1) := by
  obtain ⟨j, hj⟩ : ∃ j, j = (stepAt p a)[q] := ⟨_, rfl⟩
  have hjm : j ∈ stepAt p a := by rw [hj]; exact List.getElem_mem hq
  have hin := stepAt_in hc a j hjm
  have hself : (met.set j.toNat true)[j.toNat]? = some true := by
    rw [List.getElem?_set_self (by rw [h.len]; omega)]
  rw [← hj]
  refine ⟨by rw [List.length_set]; exact h.len, fun t ht => ?_, fun i hi => ?_, fun i hi => ?_, met_set h.zero, h.ra, fun t ht => ?_⟩
  · rcases List.mem_append.1 ht with ht | ht
    · obtain ⟨i, e, hi⟩ := h.td t ht
      exact ⟨i, e, met_set hi⟩
    · rw [List.mem_singleton] at ht
      subst ht
      exact ⟨t.toNat, by omega, hself⟩
  · rw [List.getElem?_set] at hi
    split at hi
    · rename_i e
      subst e
      exact Rch.step h.ra hjm
    · exact h.rch i hi
  · rw [List.getElem?_set] at hi
    split at hi
    · rename_i e
      subst e
      exact .inl (List.mem_append_right _ (by rw [List.mem_singleton]; omega))
    · rcases h.clo i hi with hm | hm | hm
      · exact .inl (List.mem_append_left _ hm)
      · exact .inr (.inl hm)
      · exact .inr (.inr fun t ht => met_set (hm t ht))
  · rw [List.take_succ_eq_append_getElem hq] at ht
    rcases List.mem_append.1 ht with ht | ht
    · exact met_set (h.don t ht)
    · rw [List.mem_singleton] at ht
      rw [ht, ← hj]
      exact hself
theorem RcN.done {p : PT} {met : List Bool} {todo : List Int} {a q : Nat} (h : RcN p met todo a q) (hq : (stepAt p a).length ≤ q) : RcM p met todo := by
  refine ⟨h.len, h.td, h.rch, fun i hi => ?_, h.zero⟩
  rcases h.clo i hi with hm | hm | hm
  · exact .inl hm
  · subst hm
    exact .inr fun j hj => h.don j (by rw [List.take_of_length_le hq]; exact hj)
  · exact .inr hm
theorem RcM.all {p : PT} {met : List Bool} (h : RcM p met []) : ∀ i : Nat, met[i]? = some true ↔ Rch p i := by
  intro i
  refine ⟨h.rch i, fun hr => ?_⟩
  induction hr with
  | zero => exact h.zero
  | step _ hj ih =>
    rcases h.clo _ ih with hm | hm
    · cases hm
    · exact hm _ hj
/-- How many aren't met yet. -/
def unm (met : List Bool) : Nat := (met.filter (!·)).length
theorem unm_set : ∀ (met : List Bool) (i : Nat), met[i]? = some false → unm (met.set i true) + 1 = unm met
  | [], i, h => by simp at h
  | b :: met, 0, h => by
    have hb : b = false := by simpa using h
    subst hb
    simp [unm]
  | b :: met, i + 1, h => by
    have := unm_set met i (by simpa using h)
    unfold unm at this ⊢
    rw [List.set_cons_succ, List.filter_cons, List.filter_cons]
    cases b <;> simp <;> omega
/-- Whether each step can be met. -/
def rchL (p : PT) (met : List Bool) : Prop := met.length = p.ss.length ∧ if (ckS (mayS p) p).1 = 0 then ∀ i : Nat, met[i]? = some true ↔ Rch p i else ∀ i : Nat, met[i]? ≠ some true
end Go.Proofs.YtpbkdokhlimpfaaDoor
