/- regex: which errors a text may have, and where: plain mathematics. -/
import Derived.Test.YtnhpjoknngbkeaaDoorRB6
namespace Go.Proofs.YtnhpjoknngbkeaaDoor

/-- An error that a text may have. -/
def Er (l : List UInt8) (e : Nat × Nat) : Prop := (e.1 = 1 ∨ e.1 = 2 ∨ e.1 = 5 ∨ e.1 = 6 ∨ e.1 = 160) ∧ e.2 ≤ l.length
theorem er {l : List UInt8} {c p : Nat} (h : c = 1 ∨ c = 2 ∨ c = 5 ∨ c = 6 ∨ c = 160) (hp : p ≤ l.length) : Er l (c, p) := ⟨h, hp⟩
theorem pChar_er {l : List UInt8} {i : Nat} (hi : i ≤ l.length) {e : Nat × Nat} (h : pChar l i = .error e) : Er l e := by
  unfold pChar at h
  split at h
  · unfold pEsc at h
    split at h
    · injection h with h; subst h; exact er (by omega) hi
    · cases h
  · split at h
    · injection h with h; subst h; exact er (by omega) hi
    · cases h
theorem pRun_er {l : List UInt8} {i : Nat} (hi : i ≤ l.length) {e : Nat × Nat} (h : pRun l i = .error e) : Er l e := by
  unfold pRun at h
  split at h
  · rename_i e' hc
    injection h with h; subst h; exact pChar_er hi hc
  · rename_i c j hc
    have h1 := pChar_lt hc
    split at h
    · rename_i h45
      have h2 := nx_lt (l := l) (i := j) (by omega)
      split at h
      · rename_i e' hd
        injection h with h; subst h; exact pChar_er (by omega) hd
      · cases h
    · cases h
theorem pBrL_er {l : List UInt8} {b : Nat} (hb : b ≤ l.length) : ∀ (k : Nat) (s : BS) (i : Nat) (e : Nat × Nat), i ≤ l.length → l.length < k + i → pBrL l b k s i = .error e → Er l e
  | 0, _, _, _, h1, h2, _ => absurd h2 (by omega)
  | k + 1, s, i, e, h1, h2, h => by
    unfold pBrL at h
    split at h
    · cases h
    · split at h
      · rename_i e' hc
        injection h with h; subst h; exact pRun_er h1 hc
      · rename_i f t j hc
        have h3 := pRun_lt hc
        split at h
        · injection h with h; subst h; exact er (by omega) hb
        · exact pBrL_er hb k _ j e (by omega) (by omega) h
theorem pSet_er {l : List UInt8} {i : Nat} (hi : i < l.length) {e : Nat × Nat} (h : pSet l i = .error e) : Er l e := by
  unfold pSet at h
  split at h
  · cases h
  · split at h
    · unfold pBr at h
      split at h
      · rename_i e' hc
        injection h with h; subst h
        refine pBrL_er (by omega) _ _ _ _ ?_ ?_ hc
        · split
          · rename_i h94
            have := nx_lt (l := l) (i := i + 1) (by omega)
            omega
          · omega
        · split <;> omega
      · rename_i s j hc
        generalize (if nx l (i + 1) = 94 then ~~~s else s) = s2 at h
        by_cases h2 : s2 = 0#256
        · rw [if_pos h2] at h
          injection h with h; subst h; exact er (by omega) (by omega)
        · rw [if_neg h2] at h; cases h
    · split at h
      · rename_i e' hc
        injection h with h; subst h; exact pChar_er (by omega) hc
      · cases h
theorem pNum_er {l : List UInt8} {i : Nat} (hi : i ≤ l.length) {e : Nat × Nat} (h : pNum l i = .error e) : Er l e := by
  unfold pNum at h
  split at h
  · injection h with h; subst h; exact er (by omega) hi
  · split at h
    · cases h
    · injection h with h; subst h; exact er (by omega) hi
theorem pTimes_er {l : List UInt8} {i : Nat} (hi : i < l.length) {e : Nat × Nat} (h : pTimes l i = .error e) : Er l e := by
  unfold pTimes at h
  split at h
  · cases h
  · split at h
    · cases h
    · split at h
      · cases h
      · unfold pBounds at h
        split at h
        · rename_i e' hc
          injection h with h; subst h; exact pNum_er (by omega) hc
        · rename_i lo j hc
          have h1 := pNum_lt hc
          split at h
          · have h2 := nx_lt (l := l) (i := j) (by omega)
            split at h
            · cases h
            · split at h
              · rename_i e' hd
                injection h with h; subst h; exact pNum_er (by omega) hd
              · rename_i hi2 k hd
                have h3 := pNum_lt hd
                split at h
                · injection h with h; subst h; exact er (by omega) (by omega)
                · split at h
                  · cases h
                  · injection h with h; subst h; exact er (by omega) (by omega)
          · split at h
            · cases h
            · injection h with h; subst h; exact er (by omega) (by omega)
theorem mkN_er {l : List UInt8} {t : RT} {i nd : Nat} (hi : i ≤ l.length) {e : Nat × Nat} (h : mkN t i nd = .error e) : Er l e := by
  unfold mkN at h
  split at h
  · cases h
  · injection h with h; subst h; exact er (by omega) hi
theorem joinN_er {l : List UInt8} {k : Int} {ks : List RT} {i nd : Nat} (hi : i ≤ l.length) {e : Nat × Nat} (h : joinN k ks i nd = .error e) : Er l e := by
  unfold joinN at h
  split at h
  · cases h
  · exact mkN_er hi h
def EEr (l : List UInt8) (E : Nat → Nat → NR RT) : Prop := (∀ i nd e, i ≤ l.length → E i nd = .error e → Er l e) ∧ ∀ i nd t j n, i ≤ l.length → E i nd = .ok (t, j, n) → i ≤ j ∧ j ≤ l.length
theorem pRepL_er {l : List UInt8} : ∀ (k : Nat) (t : RT) (i nd : Nat) (e : Nat × Nat), i ≤ l.length → l.length < k + i → pRepL l k t i nd = .error e → Er l e
  | 0, _, _, _, _, h1, h2, _ => absurd h2 (by omega)
  | k + 1, t, i, nd, e, h1, h2, h => by
    unfold pRepL at h
    split at h
    · rename_i hr
      have hil := isRep_lt hr
      split at h
      · rename_i e' hc
        injection h with h; subst h; exact pTimes_er hil hc
      · rename_i lo hi j hc
        have h3 := pTimes_lt hc
        have h4 := h3.2.1 hil
        split at h
        · rename_i e' hd
          injection h with h; subst h; exact mkN_er h4 hd
        · rename_i t' j' n' hd
          exact pRepL_er k _ j _ e h4 (by omega) h
    · cases h
theorem pRepL_in {l : List UInt8} : ∀ (k : Nat) (t : RT) (i nd : Nat) (t' : RT) (j n : Nat), i ≤ l.length → pRepL l k t i nd = .ok (t', j, n) → i ≤ j ∧ j ≤ l.length
  | 0, _, _, _, _, _, _, _, h => by cases h
  | k + 1, t, i, nd, t', j, n, h1, h => by
    unfold pRepL at h
    split at h
    · rename_i hr
      have hil := isRep_lt hr
      split at h
      · cases h
      · rename_i lo hi j1 hc
        have h3 := pTimes_lt hc
        have h4 := h3.2.1 hil
        split at h
        · cases h
        · rename_i t2 j2 n2 hd
          have := pRepL_in k _ j1 _ _ _ _ h4 h
          omega
    · simp only [Except.ok.injEq, Prod.mk.injEq] at h
      omega
theorem pOne_er {l : List UInt8} {E : Nat → Nat → NR RT} (hE : EEr l E) {i nd : Nat} (hi : i < l.length) {e : Nat × Nat} (h : pOne l E i nd = .error e) : Er l e := by
  unfold pOne at h
  split at h
  · split at h
    · rename_i e' hc
      injection h with h; subst h; exact hE.1 _ _ _ (by omega) hc
    · rename_i t j n hc
      have h1 := hE.2 _ _ _ _ _ (by omega) hc
      split at h
      · cases h
      · injection h with h; subst h; exact er (by omega) (by omega)
  · split at h
    · rename_i e' hc
      injection h with h; subst h; exact pSet_er hi hc
    · rename_i s j hc
      have := pSet_lt hc
      exact mkN_er (by omega) h
theorem pOne_in {l : List UInt8} {E : Nat → Nat → NR RT} (hE : EEr l E) {i nd : Nat} (hi : i < l.length) {t : RT} {j n : Nat} (h : pOne l E i nd = .ok (t, j, n)) : i < j ∧ j ≤ l.length := by
  unfold pOne at h
  split at h
  · split at h
    · cases h
    · rename_i t j1 n hc
      have h1 := hE.2 _ _ _ _ _ (by omega) hc
      split at h
      · have := nx_lt (l := l) (i := j1) (by omega)
        simp only [Except.ok.injEq, Prod.mk.injEq] at h
        omega
      · cases h
  · split at h
    · cases h
    · rename_i s j1 hc
      have := pSet_lt hc
      obtain ⟨_, h2, _, _⟩ := mkN_ok h
      omega
theorem pRep_er {l : List UInt8} {E : Nat → Nat → NR RT} (hE : EEr l E) {i nd : Nat} (hi : i < l.length) {e : Nat × Nat} (h : pRep l E i nd = .error e) : Er l e := by
  unfold pRep at h
  split at h
  · rename_i e' hc
    injection h with h; subst h; exact pOne_er hE hi hc
  · rename_i t j n hc
    have := pOne_in hE hi hc
    exact pRepL_er _ _ j _ e (by omega) (by omega) h
theorem pRep_in {l : List UInt8} {E : Nat → Nat → NR RT} (hE : EEr l E) {i nd : Nat} (hi : i < l.length) {t : RT} {j n : Nat} (h : pRep l E i nd = .ok (t, j, n)) : i < j ∧ j ≤ l.length := by
  unfold pRep at h
  split at h
  · cases h
  · rename_i t1 j1 n1 hc
    have h1 := pOne_in hE hi hc
    have h2 := pRepL_in _ _ j1 _ _ _ _ (by omega) h
    omega
theorem pCatL_er {l : List UInt8} {E : Nat → Nat → NR RT} (hE : EEr l E) : ∀ (k : Nat) (ks : List RT) (i nd : Nat) (e : Nat × Nat), i ≤ l.length → l.length < k + i → pCatL l E k ks i nd = .error e → Er l e
  | 0, _, _, _, _, h1, h2, _ => absurd h2 (by omega)
  | k + 1, ks, i, nd, e, h1, h2, h => by
    unfold pCatL at h
    split at h
    · rename_i hc
      split at h
      · rename_i e' hr
        injection h with h; subst h; exact pRep_er hE hc.1 hr
      · rename_i t j n hr
        have := pRep_in hE hc.1 hr
        exact pCatL_er hE k _ j _ e (by omega) (by omega) h
    · split at h
      · exact mkN_er h1 h
      · exact joinN_er h1 h
theorem joinN_in {k : Int} {ks : List RT} {i nd : Nat} {t : RT} {j n : Nat} (h : joinN k ks i nd = .ok (t, j, n)) : j = i := by
  unfold joinN at h
  split at h
  · simp only [Except.ok.injEq, Prod.mk.injEq] at h
    omega
  · exact (mkN_ok h).2.1
theorem pCatL_in {l : List UInt8} {E : Nat → Nat → NR RT} (hE : EEr l E) : ∀ (k : Nat) (ks : List RT) (i nd : Nat) (t : RT) (j n : Nat), i ≤ l.length → pCatL l E k ks i nd = .ok (t, j, n) → i ≤ j ∧ j ≤ l.length
  | 0, _, _, _, _, _, _, _, h => by cases h
  | k + 1, ks, i, nd, t, j, n, h1, h => by
    unfold pCatL at h
    split at h
    · rename_i hc
      split at h
      · cases h
      · rename_i t1 j1 n1 hr
        have h2 := pRep_in hE hc.1 hr
        have h3 := pCatL_in hE k _ j1 _ _ _ _ (by omega) h
        omega
    · split at h
      · have := (mkN_ok h).2.1
        omega
      · have := joinN_in h
        omega
theorem pEithL_er {l : List UInt8} {E : Nat → Nat → NR RT} (hE : EEr l E) : ∀ (k : Nat) (ks : List RT) (i nd : Nat) (e : Nat × Nat), i ≤ l.length → l.length < k + i → pEithL l E k ks i nd = .error e → Er l e
  | 0, _, _, _, _, h1, h2, _ => absurd h2 (by omega)
  | k + 1, ks, i, nd, e, h1, h2, h => by
    unfold pEithL at h
    split at h
    · rename_i e' hr
      injection h with h; subst h; exact pCatL_er hE _ _ _ _ _ h1 (by omega) hr
    · rename_i t j n hr
      have h3 := pCatL_in hE _ _ _ _ _ _ _ h1 hr
      split at h
      · have := nx_lt (l := l) (i := j) (by omega)
        exact pEithL_er hE k _ (j + 1) _ e (by omega) (by omega) h
      · exact joinN_er h3.2 h
theorem pEithL_in {l : List UInt8} {E : Nat → Nat → NR RT} (hE : EEr l E) : ∀ (k : Nat) (ks : List RT) (i nd : Nat) (t : RT) (j n : Nat), i ≤ l.length → pEithL l E k ks i nd = .ok (t, j, n) → i ≤ j ∧ j ≤ l.length
  | 0, _, _, _, _, _, _, _, h => by cases h
  | k + 1, ks, i, nd, t, j, n, h1, h => by
    unfold pEithL at h
    split at h
    · cases h
    · rename_i t1 j1 n1 hr
      have h3 := pCatL_in hE _ _ _ _ _ _ _ h1 hr
      split at h
      · have := nx_lt (l := l) (i := j1) (by omega)
        have h4 := pEithL_in hE k _ (j1 + 1) _ _ _ _ (by omega) h
        omega
      · have := joinN_in h
        omega
theorem pEither_er (l : List UInt8) : ∀ d, EEr l (pEither l d)
  | 0 => ⟨fun i nd e hi h => by
      have h : Except.error (6, i) = (Except.error e : NR RT) := h
      injection h with h
      subst h
      exact er (by omega) hi, fun i nd t j n _ h => by cases h⟩
  | d + 1 => ⟨fun i nd e hi h => pEithL_er (pEither_er l d) _ _ _ _ _ hi (by omega) h, fun i nd t j n hi h => pEithL_in (pEither_er l d) _ _ _ _ _ _ _ hi h⟩
/-- Whatever text: it is too long, at 0, or wrong in one of five ways, at a place within it. -/
theorem pParse_er {l : List UInt8} {e : Nat × Nat} (h : pParse l = .error e) : Er l e ∧ (l.length ≤ 512 ∨ e = (2, 0)) := by
  unfold pParse at h
  split at h
  · injection h with h; subst h; exact ⟨er (by omega) (by omega), .inr rfl⟩
  · refine ⟨?_, .inl (by omega)⟩
    split at h
    · rename_i e' hc
      injection h with h; subst h; exact (pEither_er l 33).1 _ _ _ (by omega) hc
    · split at h
      · injection h with h; subst h; exact er (by omega) (by omega)
      · cases h
end Go.Proofs.YtnhpjoknngbkeaaDoor
