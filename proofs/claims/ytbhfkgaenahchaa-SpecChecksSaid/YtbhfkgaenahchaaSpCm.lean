/- spec: the law SpecChecks: the error that it reckons, step by step. -/
import Derived.Test.YtbhfkgaenahchaaSpVa
import Derived.Test.YtbhfkgaenahchaaSpOw
namespace Go.Proofs.Ytbhfkgaenahchaa
set_option linter.unusedSimpArgs false
set_option linter.unusedVariables false
open Go.RowKit

/-- Where the law stands: no error so far, and just the numbers of L are held, each once; or the error is known. -/
def StF (n : Nat) (F : List Bool → Nat) (want R : Nat) (L : List Int) : Prop :=
  (want = 0 ∧ ∃ l, l.length = n ∧ Marks l L ∧ L.Nodup ∧ R = F l) ∨ (want ≠ 0 ∧ R = want)
theorem StF.of {n : Nat} {F G : List Bool → Nat} {want R : Nat} {L : List Int} (h : StF n F want R L) (he : want = 0 → ∀ l, l.length = n → F l = G l) : StF n G want R L := by
  rcases h with ⟨h0, l, h1, h2, h3, h4⟩ | h
  · exact .inl ⟨h0, l, h1, h2, h3, h4.trans (he h0 l h1)⟩
  · exact .inr h
theorem StF.bad {n : Nat} {F G : List Bool → Nat} {want R : Nat} {L L' : List Int} (h : StF n F want R L) (hw : want ≠ 0) : StF n G want R L' := by
  rcases h with ⟨h0, _⟩ | h
  · exact absurd h0 hw
  · exact .inr h
def holdW (m : Nat) (want : Nat) (p : Int) : Nat := if want = 0 ∧ (p < 0 ∨ (m : Int) ≤ p) then 3 else want
def holdW2 (want : Nat) (p : Int) (L : List Int) : Nat := if want = 0 ∧ 1 < (L ++ [p]).count p then 4 else want
theorem hold_step {n m : Nat} (hm : m ≤ n) {G : Except Nat (List Bool) → Nat} (hG : ∀ c, G (.error c) = c) {p : Int} {rest : List Int} {want R : Nat} {L : List Int} (h : StF n (fun l => G (hsF m l (p :: rest))) want R L) : StF n (fun l => G (hsF m l rest)) (holdW2 (holdW m want p) p L) R (L ++ [p]) := by
  rcases h with ⟨rfl, l, h1, h2, h3, h4⟩ | ⟨hw, h⟩
  · replace h4 : R = G (hsF m l (p :: rest)) := h4
    rw [hsF_cons] at h4
    by_cases hb : p < 0 ∨ (m : Int) ≤ p
    · have hh : holdF (l.take m) p = .error 3 := by
        unfold holdF
        rw [if_pos (by rw [List.length_take, Nat.min_eq_left (by omega)]; exact hb)]
      rw [hh] at h4
      simp only [hG] at h4
      have e1 : holdW m 0 p = 3 := by unfold holdW; rw [if_pos ⟨rfl, hb⟩]
      have e2 : holdW2 3 p L = 3 := by unfold holdW2; rw [if_neg (by omega)]
      rw [e1, e2]
      exact .inr ⟨by decide, h4⟩
    · have e1 : holdW m 0 p = 0 := by unfold holdW; rw [if_neg (by intro h; exact hb h.2)]
      rw [e1]
      have hp0 : 0 ≤ p := by omega
      have hpm : p.toNat < m := by omega
      have hg : (l.take m).getD p.toNat true = decide (p ∈ L) := by
        rw [List.getD_eq_getElem?_getD, List.getElem?_take_of_lt hpm, h2 _ (by omega), Int.toNat_of_nonneg hp0]
        rfl
      by_cases hin : p ∈ L
      · have hh : holdF (l.take m) p = .error 4 := by
          unfold holdF
          rw [if_neg (by rw [List.length_take, Nat.min_eq_left (by omega)]; exact hb), hg, decide_eq_true hin, if_pos rfl]
        rw [hh] at h4
        simp only [hG] at h4
        have hc : 0 < L.count p := List.count_pos_iff.2 hin
        have e2 : holdW2 0 p L = 4 := by
          unfold holdW2
          rw [if_pos ⟨rfl, by rw [List.count_append]; simp; omega⟩]
        rw [e2]
        exact .inr ⟨by decide, h4⟩
      · have hh : ∃ l1, holdF (l.take m) p = .ok l1 := by
          unfold holdF
          rw [if_neg (by rw [List.length_take, Nat.min_eq_left (by omega)]; exact hb), hg, decide_eq_false hin, if_neg (by decide)]
          exact ⟨_, rfl⟩
        obtain ⟨l1, hh⟩ := hh
        rw [hh] at h4
        have e2 : holdW2 0 p L = 0 := by
          unfold holdW2
          rw [if_neg (by rw [List.count_append, List.count_eq_zero_of_not_mem hin]; simp)]
        rw [e2]
        refine .inl ⟨rfl, l.set p.toNat true, by rw [List.length_set]; exact h1, marks_set h2 hp0, ?_, h4⟩
        rw [List.nodup_append]
        refine ⟨h3, by simp, fun a ha b hb => ?_⟩
        rintro rfl
        rw [List.mem_singleton] at hb
        exact hin (hb ▸ ha)
  · have e1 : holdW m want p = want := by unfold holdW; rw [if_neg (by intro h; exact hw h.1)]
    have e2 : holdW2 want p L = want := by unfold holdW2; rw [if_neg (by intro h; exact hw h.1)]
    rw [e1, e2]
    exact .inr ⟨hw, h⟩
theorem ck_bad {n j : Nat} {vs : List NV} {ds : List DT} {R : Nat} {L : List Int} (hj : j < vs.length) (h : StF n (fun l => finS n ds (ckN j l (vs.drop j))) 0 R L) (hc : ckV vs[j] ≠ 0) (F : List Bool → Nat) : StF n F (ckV vs[j]) R L := by
  rcases h with ⟨_, l, h1, h2, h3, h4⟩ | ⟨h, _⟩
  · simp only [List.drop_eq_getElem_cons hj, ckN_at, if_pos hc] at h4
    exact .inr ⟨hc, h4⟩
  · exact absurd rfl h
theorem ck_good {n j : Nat} {vs : List NV} {ds : List DT} {R : Nat} {L : List Int} (hj : j < vs.length) (h : StF n (fun l => finS n ds (ckN j l (vs.drop j))) 0 R L) (hc : ckV vs[j] = 0) : StF n (fun l => finS n ds (match hsF j l (vs[j].t.parts.drop 0) with | .error c => .error c | .ok l' => ckN (j + 1) l' (vs.drop (j + 1)))) 0 R L :=
  h.of (fun _ l _ => by simp only [List.drop_eq_getElem_cons hj, ckN_at, hc, ne_eq, not_true, if_false, List.drop_zero]; rfl)
def lastF (i : Nat) (l : List Bool) : Nat := if (l.drop i).any (fun b => !b) then 3 else 0
def lastW (want : Nat) (i : Nat) (L : List Int) : Nat := if want = 0 ∧ L.count (i : Int) = 0 then 3 else want
theorem last_step {n i : Nat} (hi : i < n) {want R : Nat} {L : List Int} (h : StF n (lastF i) want R L) : StF n (lastF (i + 1)) (lastW want i L) R L := by
  rcases h with ⟨rfl, l, h1, h2, h3, h4⟩ | ⟨hw, h⟩
  · have hil : i < l.length := by omega
    have hm := h2 i hil
    rw [List.getElem?_eq_getElem hil] at hm
    injection hm with hm
    unfold lastF at h4
    rw [List.drop_eq_getElem_cons hil, List.any_cons, hm] at h4
    by_cases hin : (i : Int) ∈ L
    · have hc : 0 < L.count (i : Int) := List.count_pos_iff.2 hin
      have e : lastW 0 i L = 0 := by unfold lastW; rw [if_neg (by omega)]
      rw [e]
      rw [decide_eq_true hin, Bool.not_true, Bool.false_or] at h4
      exact .inl ⟨rfl, l, h1, h2, h3, h4⟩
    · have e : lastW 0 i L = 3 := by unfold lastW; rw [if_pos ⟨rfl, List.count_eq_zero_of_not_mem hin⟩]
      rw [e]
      rw [decide_eq_false hin, Bool.not_false, Bool.true_or, if_pos rfl] at h4
      exact .inr ⟨by decide, h4⟩
  · have e : lastW want i L = want := by unfold lastW; rw [if_neg (by intro h; exact hw h.1)]
    rw [e]
    exact .inr ⟨hw, h⟩
theorem last_end {n : Nat} {want R : Nat} {L : List Int} (h : StF n (lastF n) want R L) : R = want := by
  rcases h with ⟨rfl, l, h1, _, _, h4⟩ | ⟨_, h⟩
  · rw [h4]
    unfold lastF
    rw [← h1, List.drop_length]
    rfl
  · exact h
end Go.Proofs.Ytbhfkgaenahchaa
