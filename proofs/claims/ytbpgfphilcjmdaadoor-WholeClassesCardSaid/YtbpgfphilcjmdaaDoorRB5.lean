/- regex: what is read in parentheses is what is read alone: plain mathematics. -/
import Derived.Test.YtbpgfphilcjmdaaDoorRB
namespace Go.Proofs.YtbpgfphilcjmdaaDoor

/-- l stands in L from o on, and a closing parenthesis behind it. -/
structure Sim (l L : List UInt8) (o : Nat) : Prop where
  le : o ≤ L.length
  eq : ∃ r, L.drop o = l ++ 41 :: r
theorem Sim.drop {l L : List UInt8} {o : Nat} (h : Sim l L o) {i : Nat} (hi : i ≤ l.length) : ∃ r, L.drop (o + i) = l.drop i ++ 41 :: r := by
  obtain ⟨r, e⟩ := h.eq
  refine ⟨r, ?_⟩
  rw [← List.drop_drop, e, List.drop_append_of_le_length hi]
theorem Sim.nx {l L : List UInt8} {o : Nat} (h : Sim l L o) {i : Nat} (hi : i < l.length) : Go.Proofs.YtbpgfphilcjmdaaDoor.nx L (o + i) = Go.Proofs.YtbpgfphilcjmdaaDoor.nx l i := by
  obtain ⟨r, e⟩ := h.drop (Nat.le_of_lt hi)
  have h1 : l.drop i = l[i] :: l.drop (i + 1) := List.drop_eq_getElem_cons hi
  rw [h1] at e
  rw [At.nxc e, nx_at hi]
theorem Sim.nxe {l L : List UInt8} {o : Nat} (h : Sim l L o) : Go.Proofs.YtbpgfphilcjmdaaDoor.nx L (o + l.length) = 41 := by
  obtain ⟨r, e⟩ := h.drop (Nat.le_refl _)
  rw [List.drop_length, List.nil_append] at e
  exact At.nxc e
theorem Sim.len {l L : List UInt8} {o : Nat} (h : Sim l L o) : o + l.length < L.length := by
  obtain ⟨r, e⟩ := h.eq
  have h1 := congrArg List.length e
  have h2 := h.le
  simp only [List.length_drop, List.length_append, List.length_cons] at h1
  omega
/-- Of two places one behind the other both are told alike, but that the end is a closing parenthesis. -/
theorem Sim.or {l L : List UInt8} {o : Nat} (h : Sim l L o) {i : Nat} (hi : i ≤ l.length) : (i < l.length ∧ Go.Proofs.YtbpgfphilcjmdaaDoor.nx L (o + i) = Go.Proofs.YtbpgfphilcjmdaaDoor.nx l i) ∨ (i = l.length ∧ Go.Proofs.YtbpgfphilcjmdaaDoor.nx L (o + i) = 41 ∧ Go.Proofs.YtbpgfphilcjmdaaDoor.nx l i = 0) := by
  rcases Nat.lt_or_ge i l.length with h1 | h1
  · exact .inl ⟨h1, h.nx h1⟩
  · obtain rfl : i = l.length := by omega
    exact .inr ⟨rfl, h.nxe, nx_end (Nat.le_refl _)⟩
/-- What isn't told by a closing parenthesis, nor by the end. -/
theorem Sim.not {l L : List UInt8} {o : Nat} (h : Sim l L o) {i : Nat} (hi : i ≤ l.length) {k : Nat} (h41 : k ≠ 41) (h0 : k ≠ 0) : (Go.Proofs.YtbpgfphilcjmdaaDoor.nx L (o + i) = k) = (Go.Proofs.YtbpgfphilcjmdaaDoor.nx l i = k) := by
  rcases h.or hi with ⟨_, e⟩ | ⟨_, e1, e2⟩
  · rw [e]
  · rw [e1, e2]
    exact propext ⟨fun h => absurd h.symm h41, fun h => absurd h.symm h0⟩
theorem Sim.rep {l L : List UInt8} {o : Nat} (h : Sim l L o) {i : Nat} (hi : i ≤ l.length) : isRep (Go.Proofs.YtbpgfphilcjmdaaDoor.nx L (o + i)) = isRep (Go.Proofs.YtbpgfphilcjmdaaDoor.nx l i) := by
  rcases h.or hi with ⟨_, e⟩ | ⟨_, e1, e2⟩
  · rw [e]
  · rw [e1, e2, rep0]
    exact rep_signs.2.2.2.2.2.1
theorem unesc_app {r z : List UInt8} (h : (unesc r).2 ≠ 0) : unesc (r ++ z) = unesc r := by
  cases r with
  | nil => exact absurd rfl h
  | cons a r =>
    by_cases hx : nx (a :: r) 0 = 120
    · have hu : unesc (a :: r) = hexP (a :: r) := by
        unfold unesc
        rw [if_neg (by simp), if_neg (by omega), if_neg (by omega), if_neg (by omega), if_neg (by omega), if_pos hx]
      have hu2 : unesc (a :: r ++ z) = hexP (a :: r ++ z) := by
        have hx2 : nx (a :: r ++ z) 0 = 120 := hx
        unfold unesc
        rw [if_neg (by simp), if_neg (by omega), if_neg (by omega), if_neg (by omega), if_neg (by omega), if_pos hx2]
      rw [hu] at h
      rw [hu, hu2]
      match r, h with
      | [], h => exact absurd rfl h
      | [b], h => exact absurd rfl h
      | b :: c :: r, h =>
        have n1 : nx (a :: b :: c :: r ++ z) 1 = nx (a :: b :: c :: r) 1 := rfl
        have n2 : nx (a :: b :: c :: r ++ z) 2 = nx (a :: b :: c :: r) 2 := rfl
        unfold hexP
        rw [if_neg (show ¬ (a :: b :: c :: r ++ z).length < 3 by simp), if_neg (show ¬ (a :: b :: c :: r).length < 3 by simp), n1, n2]
    · have hx2 : ¬ nx (a :: r ++ z) 0 = 120 := hx
      have e0 : nx (a :: r ++ z) 0 = nx (a :: r) 0 := rfl
      unfold unesc
      rw [if_neg (show ¬ (a :: r ++ z).length = 0 by simp), if_neg (show ¬ (a :: r).length = 0 by simp)]
      simp only [e0, if_neg hx]
theorem pChar_sim {l L : List UInt8} {o : Nat} (h : Sim l L o) {i c j : Nat} (hp : pChar l i = .ok (c, j)) : pChar L (o + i) = .ok (c, o + j) := by
  have hlt := pChar_lt hp
  have hn := h.nx (show i < l.length by omega)
  unfold pChar at hp ⊢
  rw [hn]
  by_cases h92 : nx l i = 92
  · rw [if_pos h92] at hp ⊢
    unfold pEsc at hp ⊢
    obtain ⟨r, e⟩ := h.drop (i := i + 1) (by omega)
    by_cases hz : (unesc (l.drop (i + 1))).2 = 0
    · rw [if_pos hz] at hp; cases hp
    · rw [if_neg hz] at hp
      rw [Nat.add_assoc, e, unesc_app hz, if_neg hz]
      simp only [Except.ok.injEq, Prod.mk.injEq] at hp ⊢
      omega
  · rw [if_neg h92] at hp ⊢
    by_cases hs : nx l i < 32 ∨ 126 < nx l i ∨ isSign (nx l i) = true
    · rw [if_pos hs] at hp; cases hp
    · rw [if_neg hs] at hp ⊢
      simp only [Except.ok.injEq, Prod.mk.injEq] at hp ⊢
      omega
theorem pRun_sim {l L : List UInt8} {o : Nat} (h : Sim l L o) {i f t j : Nat} (hp : pRun l i = .ok ((f, t), j)) : pRun L (o + i) = .ok ((f, t), o + j) := by
  unfold pRun at hp ⊢
  cases hc : pChar l i with
  | error e => rw [hc] at hp; cases hp
  | ok v =>
    obtain ⟨c, k⟩ := v
    rw [hc] at hp
    rw [pChar_sim h hc]
    have hlt := pChar_lt hc
    simp only at hp ⊢
    simp only [h.not (i := k) (by omega) (k := 45) (by decide) (by decide)]
    by_cases h45 : nx l k = 45
    · rw [if_pos h45] at hp ⊢
      cases hd : pChar l (k + 1) with
      | error e => rw [hd] at hp; cases hp
      | ok v =>
        obtain ⟨d, m⟩ := v
        rw [hd] at hp
        rw [Nat.add_assoc, pChar_sim h hd]
        simp only [Except.ok.injEq, Prod.mk.injEq] at hp ⊢
        omega
    · rw [if_neg h45] at hp ⊢
      simp only [Except.ok.injEq, Prod.mk.injEq] at hp ⊢
      omega
theorem pBrL_sim {l L : List UInt8} {o : Nat} (h : Sim l L o) {b b' : Nat} : ∀ (k k' : Nat) (s : BS) (i : Nat) (s' : BS) (j : Nat), k ≤ k' → i ≤ l.length → pBrL l b k s i = .ok (s', j) → pBrL L b' k' s (o + i) = .ok (s', o + j)
  | 0, _, _, _, _, _, _, _, hp => by cases hp
  | k + 1, k', s, i, s', j, hk, hi, hp => by
    obtain ⟨k', rfl⟩ : ∃ m, k' = m + 1 := ⟨k' - 1, by omega⟩
    unfold pBrL at hp ⊢
    simp only [h.not (i := i) hi (k := 93) (by decide) (by decide)]
    by_cases h93 : nx l i = 93
    · rw [if_pos h93] at hp ⊢
      simp only [Except.ok.injEq, Prod.mk.injEq] at hp ⊢
      exact ⟨hp.1, by omega⟩
    · rw [if_neg h93] at hp ⊢
      cases hr : pRun l i with
      | error e => rw [hr] at hp; cases hp
      | ok v =>
        obtain ⟨⟨f, t⟩, m⟩ := v
        rw [hr] at hp
        rw [pRun_sim h hr]
        have hlt := pRun_lt hr
        simp only at hp ⊢
        by_cases ht : t < f
        · rw [if_pos ht] at hp; cases hp
        · rw [if_neg ht] at hp ⊢
          exact pBrL_sim h k k' _ m _ _ (by omega) (by omega) hp
theorem pSet_sim {l L : List UInt8} {o : Nat} (h : Sim l L o) {i : Nat} {s : BS} {j : Nat} (hp : pSet l i = .ok (s, j)) : pSet L (o + i) = .ok (s, o + j) := by
  have hlt := pSet_lt hp
  have hn := h.nx (show i < l.length by omega)
  have hL := h.len
  unfold pSet at hp ⊢
  rw [hn]
  by_cases h46 : nx l i = 46
  · rw [if_pos h46] at hp ⊢
    simp only [Except.ok.injEq, Prod.mk.injEq] at hp ⊢
    exact ⟨hp.1, by omega⟩
  · rw [if_neg h46] at hp ⊢
    by_cases h91 : nx l i = 91
    · rw [if_pos h91] at hp ⊢
      unfold pBr at hp ⊢
      have h94 := h.not (i := i + 1) (by omega) (k := 94) (by decide) (by decide)
      rw [← Nat.add_assoc] at h94
      simp only [h94]
      by_cases h9 : nx l (i + 1) = 94
      · simp only [if_pos h9] at hp ⊢
        cases hb : pBrL l i (l.length + 1) (0#256) (i + 2) with
        | error e => rw [hb] at hp; cases hp
        | ok v =>
          obtain ⟨s2, m⟩ := v
          rw [hb] at hp
          have hi2 : i + 2 ≤ l.length := by have := nx_lt (l := l) (i := i + 1) (by omega); omega
          rw [Nat.add_assoc, pBrL_sim h _ (L.length + 1) _ _ _ _ (by omega) hi2 hb]
          simp only at hp ⊢
          by_cases hz : ~~~s2 = 0#256
          · rw [if_pos hz] at hp; cases hp
          · rw [if_neg hz] at hp ⊢
            simp only [Except.ok.injEq, Prod.mk.injEq] at hp ⊢
            exact ⟨hp.1, by omega⟩
      · simp only [if_neg h9] at hp ⊢
        cases hb : pBrL l i (l.length + 1) (0#256) (i + 1) with
        | error e => rw [hb] at hp; cases hp
        | ok v =>
          obtain ⟨s2, m⟩ := v
          rw [hb] at hp
          rw [Nat.add_assoc, pBrL_sim h _ (L.length + 1) _ _ _ _ (by omega) (by omega) hb]
          simp only at hp ⊢
          by_cases hz : s2 = 0#256
          · rw [if_pos hz] at hp; cases hp
          · rw [if_neg hz] at hp ⊢
            simp only [Except.ok.injEq, Prod.mk.injEq] at hp ⊢
            exact ⟨hp.1, by omega⟩
    · rw [if_neg h91] at hp ⊢
      cases hc : pChar l i with
      | error e => rw [hc] at hp; cases hp
      | ok v =>
        obtain ⟨c, m⟩ := v
        rw [hc] at hp
        rw [pChar_sim h hc]
        simp only [Except.ok.injEq, Prod.mk.injEq] at hp ⊢
        exact ⟨hp.1, by omega⟩
theorem digEnd_sim {l L : List UInt8} {o : Nat} (h : Sim l L o) : ∀ (k k' i : Nat), l.length < k + i → k ≤ k' → i ≤ l.length → digEnd L k' (o + i) = o + digEnd l k i
  | 0, _, _, h1, _, h3 => absurd h1 (by omega)
  | k + 1, k', i, h1, h2, h3 => by
    obtain ⟨k', rfl⟩ : ∃ m, k' = m + 1 := ⟨k' - 1, by omega⟩
    unfold digEnd
    rcases h.or h3 with ⟨hlt, e⟩ | ⟨rfl, e1, e2⟩
    · rw [e]
      by_cases hd : 48 ≤ nx l i ∧ nx l i ≤ 57
      · rw [if_pos hd, if_pos hd, Nat.add_assoc, digEnd_sim h k k' (i + 1) (by omega) (by omega) (by omega)]
      · rw [if_neg hd, if_neg hd]
    · rw [e1, e2, if_neg (by omega), if_neg (by omega)]
theorem pNum_sim {l L : List UInt8} {o : Nat} (h : Sim l L o) {i n j : Nat} (hi : i ≤ l.length) (hp : pNum l i = .ok (n, j)) : pNum L (o + i) = .ok (n, o + j) := by
  have hL := h.len
  have hde := digEnd_sim h (l.length + 1) (L.length + 1) i (by omega) (by omega) hi
  have hle := digEnd_le (l := l) (l.length + 1) i
  have hd : digs L (o + i) = digs l i := by
    unfold digs
    rw [hde, Nat.add_sub_add_left]
    obtain ⟨r, e⟩ := h.drop hi
    rw [e, List.take_append_of_le_length (by rw [List.length_drop]; have := hle.2 hi; omega)]
  unfold pNum at hp ⊢
  rw [hd, hde]
  by_cases hw : wrtB (digs l i) = false
  · rw [if_pos hw] at hp; cases hp
  · rw [if_neg hw] at hp ⊢
    by_cases hv : valL (digs l i) ≤ 256
    · rw [if_pos hv] at hp ⊢
      simp only [Except.ok.injEq, Prod.mk.injEq] at hp ⊢
      omega
    · rw [if_neg hv] at hp; cases hp
theorem pTimes_sim {l L : List UInt8} {o : Nat} (h : Sim l L o) {i lo : Nat} {hi : Int} {j : Nat} (hil : i < l.length) (hp : pTimes l i = .ok ((lo, hi), j)) : pTimes L (o + i) = .ok ((lo, hi), o + j) := by
  have hn := h.nx hil
  unfold pTimes at hp ⊢
  rw [hn]
  by_cases h42 : nx l i = 42
  · rw [if_pos h42] at hp ⊢
    simp only [Except.ok.injEq, Prod.mk.injEq] at hp ⊢
    omega
  rw [if_neg h42] at hp ⊢
  by_cases h43 : nx l i = 43
  · rw [if_pos h43] at hp ⊢
    simp only [Except.ok.injEq, Prod.mk.injEq] at hp ⊢
    omega
  rw [if_neg h43] at hp ⊢
  by_cases h63 : nx l i = 63
  · rw [if_pos h63] at hp ⊢
    simp only [Except.ok.injEq, Prod.mk.injEq] at hp ⊢
    omega
  rw [if_neg h63] at hp ⊢
  unfold pBounds at hp ⊢
  cases h1 : pNum l (i + 1) with
  | error e => rw [h1] at hp; cases hp
  | ok v =>
    obtain ⟨a, m⟩ := v
    rw [h1] at hp
    have hlt := pNum_lt h1
    rw [Nat.add_assoc, pNum_sim h (by omega) h1]
    simp only at hp ⊢
    simp only [h.not (i := m) (by omega) (k := 44) (by decide) (by decide), h.not (i := m) (by omega) (k := 125) (by decide) (by decide)]
    by_cases h44 : nx l m = 44
    · rw [if_pos h44] at hp ⊢
      have hm1 := nx_lt (l := l) (i := m) (by omega)
      have e125 := h.not (i := m + 1) (by omega) (k := 125) (by decide) (by decide)
      rw [← Nat.add_assoc] at e125
      simp only [e125]
      by_cases h25 : nx l (m + 1) = 125
      · rw [if_pos h25] at hp ⊢
        simp only [Except.ok.injEq, Prod.mk.injEq] at hp ⊢
        omega
      · rw [if_neg h25] at hp ⊢
        cases h2 : pNum l (m + 1) with
        | error e => rw [h2] at hp; cases hp
        | ok v =>
          obtain ⟨b, q⟩ := v
          rw [h2] at hp
          have hlt2 := pNum_lt h2
          rw [Nat.add_assoc, pNum_sim h (by omega) h2]
          simp only at hp ⊢
          simp only [h.not (i := q) (by omega) (k := 125) (by decide) (by decide)]
          by_cases hba : b < a
          · rw [if_pos hba] at hp; cases hp
          · rw [if_neg hba] at hp ⊢
            by_cases hq : nx l q = 125
            · rw [if_pos hq] at hp ⊢
              simp only [Except.ok.injEq, Prod.mk.injEq] at hp ⊢
              omega
            · rw [if_neg hq] at hp; cases hp
    · rw [if_neg h44] at hp ⊢
      by_cases hq : nx l m = 125
      · rw [if_pos hq] at hp ⊢
        simp only [Except.ok.injEq, Prod.mk.injEq] at hp ⊢
        omega
      · rw [if_neg hq] at hp; cases hp
/-- It is read alike, or is too deep, or too long. -/
def Like (r : NR RT) (t : RT) (j nd : Nat) : Prop := r = .ok (t, j, nd) ∨ ∃ c p, r = .error (c, p) ∧ (c = 2 ∨ c = 6)
theorem mkN_like {t t' : RT} {i nd j n m o : Nat} (h : mkN t i nd = .ok (t', j, n)) : Like (mkN t (o + i) (nd + m)) t' (o + j) (n + m) := by
  obtain ⟨rfl, rfl, rfl, h4⟩ := mkN_ok h
  unfold mkN
  by_cases h5 : nd + m + 1 ≤ 512
  · rw [if_pos h5]
    exact .inl (by rw [show nd + 1 + m = nd + m + 1 by omega])
  · rw [if_neg h5]
    exact .inr ⟨2, _, rfl, .inl rfl⟩
theorem joinN_like {k : Int} {ks : List RT} {t' : RT} {i nd j n m o : Nat} (h : joinN k ks i nd = .ok (t', j, n)) : Like (joinN k ks (o + i) (nd + m)) t' (o + j) (n + m) := by
  match ks, h with
  | [], h => exact mkN_like h
  | [x], h =>
    unfold joinN at h ⊢
    simp only [Except.ok.injEq, Prod.mk.injEq] at h
    obtain ⟨rfl, rfl, rfl⟩ := h
    exact .inl rfl
  | a :: b :: ks, h => exact mkN_like h
def ELike (l L : List UInt8) (o : Nat) (E E' : Nat → Nat → NR RT) : Prop := ∀ i nd m t j n, i ≤ l.length → E i nd = .ok (t, j, n) → j ≤ l.length ∧ Like (E' (o + i) (nd + m)) t (o + j) (n + m)
theorem pRepL_like {l L : List UInt8} {o : Nat} (h : Sim l L o) : ∀ (k k' : Nat) (t : RT) (i nd m : Nat) (t' : RT) (j n : Nat), k ≤ k' → i ≤ l.length → pRepL l k t i nd = .ok (t', j, n) → j ≤ l.length ∧ Like (pRepL L k' t (o + i) (nd + m)) t' (o + j) (n + m)
  | 0, _, _, _, _, _, _, _, _, _, _, hp => by cases hp
  | k + 1, k', t, i, nd, m, t', j, n, hk, hi, hp => by
    obtain ⟨k', rfl⟩ : ∃ q, k' = q + 1 := ⟨k' - 1, by omega⟩
    unfold pRepL at hp ⊢
    rw [h.rep hi]
    by_cases hr : isRep (nx l i) = true
    · rw [if_pos hr] at hp ⊢
      have hil := isRep_lt hr
      cases ht : pTimes l i with
      | error e => rw [ht] at hp; cases hp
      | ok v =>
        obtain ⟨⟨lo, hi2⟩, q⟩ := v
        rw [ht] at hp
        rw [pTimes_sim h hil ht]
        have hlt := pTimes_lt ht
        simp only at hp ⊢
        cases hm : mkN (.nd 5 (0#256) [t] lo hi2) q nd with
        | error e => rw [hm] at hp; cases hp
        | ok v =>
          obtain ⟨t2, q2, n2⟩ := v
          rw [hm] at hp
          simp only at hp
          obtain ⟨_, _, _, _⟩ := mkN_ok hm
          have hql := hlt.2.1 hil
          rcases mkN_like (m := m) (o := o) hm with e | ⟨c, p, e, hc⟩
          · rw [e]
            exact pRepL_like h k k' t2 q n2 m t' j n (by omega) hql hp
          · refine ⟨?_, .inr ⟨c, p, by rw [e], hc⟩⟩
            exact (pRepL_like h k k t2 q n2 0 t' j n (Nat.le_refl _) hql hp).1
    · rw [if_neg hr] at hp ⊢
      simp only [Except.ok.injEq, Prod.mk.injEq] at hp
      obtain ⟨rfl, rfl, rfl⟩ := hp
      exact ⟨hi, .inl rfl⟩
theorem pRep_like {l L : List UInt8} {o : Nat} (h : Sim l L o) {E E' : Nat → Nat → NR RT} (hE : ELike l L o E E') {i nd m : Nat} {t : RT} {j n : Nat} (hi : i < l.length) (hp : pRep l E i nd = .ok (t, j, n)) : j ≤ l.length ∧ Like (pRep L E' (o + i) (nd + m)) t (o + j) (n + m) := by
  have hL := h.len
  unfold pRep at hp ⊢
  cases ho : pOne l E i nd with
  | error e => rw [ho] at hp; cases hp
  | ok v =>
    obtain ⟨t1, j1, n1⟩ := v
    rw [ho] at hp
    simp only at hp
    have key : j1 ≤ l.length ∧ Like (pOne L E' (o + i) (nd + m)) t1 (o + j1) (n1 + m) := by
      unfold pOne at ho ⊢
      rw [h.nx hi]
      by_cases h40 : nx l i = 40
      · rw [if_pos h40] at ho ⊢
        cases he : E (i + 1) nd with
        | error e => rw [he] at ho; cases ho
        | ok v =>
          obtain ⟨t2, j2, n2⟩ := v
          rw [he] at ho
          simp only at ho
          by_cases h41 : nx l j2 = 41
          · rw [if_pos h41] at ho
            simp only [Except.ok.injEq, Prod.mk.injEq] at ho
            obtain ⟨rfl, rfl, rfl⟩ := ho
            obtain ⟨hj2, hlk⟩ := hE (i + 1) nd m t2 j2 n2 (by omega) he
            have hj3 := nx_lt (l := l) (i := j2) (by omega)
            refine ⟨by omega, ?_⟩
            rw [Nat.add_assoc]
            rcases hlk with e | ⟨c, p, e, hc⟩
            · rw [e]
              simp only
              rw [h.nx hj3, if_pos h41]
              exact .inl (by rw [Nat.add_assoc])
            · rw [e]
              exact .inr ⟨c, p, rfl, hc⟩
          · rw [if_neg h41] at ho; cases ho
      · rw [if_neg h40] at ho ⊢
        cases hs : pSet l i with
        | error e => rw [hs] at ho; cases ho
        | ok v =>
          obtain ⟨s, q⟩ := v
          rw [hs] at ho
          rw [pSet_sim h hs]
          simp only at ho ⊢
          obtain ⟨_, hq, _, _⟩ := mkN_ok ho
          have := pSet_lt hs
          exact ⟨by omega, mkN_like ho⟩
    rcases key.2 with e | ⟨c, p, e, hc⟩
    · rw [e]
      exact pRepL_like h _ _ t1 j1 n1 m t j n (by omega) key.1 hp
    · rw [e]
      exact ⟨(pRepL_like h _ (L.length + 1) t1 j1 n1 0 t j n (by omega) key.1 hp).1, .inr ⟨c, p, rfl, hc⟩⟩
theorem pCatL_like {l L : List UInt8} {o : Nat} (h : Sim l L o) {E E' : Nat → Nat → NR RT} (hE : ELike l L o E E') : ∀ (k k' : Nat) (ks : List RT) (i nd m : Nat) (t : RT) (j n : Nat), k ≤ k' → i ≤ l.length → pCatL l E k ks i nd = .ok (t, j, n) → j ≤ l.length ∧ Like (pCatL L E' k' ks (o + i) (nd + m)) t (o + j) (n + m)
  | 0, _, _, _, _, _, _, _, _, _, _, hp => by cases hp
  | k + 1, k', ks, i, nd, m, t, j, n, hk, hi, hp => by
    obtain ⟨k', rfl⟩ : ∃ q, k' = q + 1 := ⟨k' - 1, by omega⟩
    have hL := h.len
    have hcond : (o + i < L.length ∧ nx L (o + i) ≠ 124 ∧ nx L (o + i) ≠ 41) = (i < l.length ∧ nx l i ≠ 124 ∧ nx l i ≠ 41) := by
      rcases h.or hi with ⟨h1, e⟩ | ⟨h1, e1, _⟩
      · rw [e]
        exact propext ⟨fun ⟨_, a, b⟩ => ⟨h1, a, b⟩, fun ⟨_, a, b⟩ => ⟨by omega, a, b⟩⟩
      · exact propext ⟨fun ⟨_, _, b⟩ => absurd e1 b, fun ⟨a, _, _⟩ => absurd a (by omega)⟩
    unfold pCatL at hp ⊢
    simp only [hcond]
    by_cases hc : i < l.length ∧ nx l i ≠ 124 ∧ nx l i ≠ 41
    · rw [if_pos hc] at hp ⊢
      cases hr : pRep l E i nd with
      | error e => rw [hr] at hp; cases hp
      | ok v =>
        obtain ⟨t1, j1, n1⟩ := v
        rw [hr] at hp
        simp only at hp
        obtain ⟨hj1, hlk⟩ := pRep_like (m := m) h hE hc.1 hr
        rcases hlk with e | ⟨c, p, e, hcc⟩
        · rw [e]
          exact pCatL_like h hE k k' (ks ++ [t1]) j1 n1 m t j n (by omega) hj1 hp
        · rw [e]
          exact ⟨(pCatL_like h hE k k' (ks ++ [t1]) j1 n1 0 t j n (by omega) hj1 hp).1, .inr ⟨c, p, rfl, hcc⟩⟩
    · rw [if_neg hc] at hp ⊢
      by_cases hk0 : ks.isEmpty = true
      · rw [if_pos hk0] at hp ⊢
        obtain ⟨_, hq, _, _⟩ := mkN_ok hp
        exact ⟨by omega, mkN_like hp⟩
      · rw [if_neg hk0] at hp ⊢
        refine ⟨?_, joinN_like hp⟩
        match ks, hp, hk0 with
        | [], _, hk0 => exact absurd rfl hk0
        | [x], hp, _ =>
          unfold joinN at hp
          simp only [Except.ok.injEq, Prod.mk.injEq] at hp
          omega
        | a :: b :: ks, hp, _ =>
          obtain ⟨_, hq, _, _⟩ := mkN_ok (t := .nd 3 (0#256) (a :: b :: ks) 0 0) hp
          omega
theorem pEithL_like {l L : List UInt8} {o : Nat} (h : Sim l L o) {E E' : Nat → Nat → NR RT} (hE : ELike l L o E E') : ∀ (k k' : Nat) (ks : List RT) (i nd m : Nat) (t : RT) (j n : Nat), k ≤ k' → i ≤ l.length → pEithL l E k ks i nd = .ok (t, j, n) → j ≤ l.length ∧ Like (pEithL L E' k' ks (o + i) (nd + m)) t (o + j) (n + m)
  | 0, _, _, _, _, _, _, _, _, _, _, hp => by cases hp
  | k + 1, k', ks, i, nd, m, t, j, n, hk, hi, hp => by
    obtain ⟨k', rfl⟩ : ∃ q, k' = q + 1 := ⟨k' - 1, by omega⟩
    have hL := h.len
    unfold pEithL at hp ⊢
    cases hr : pCatL l E (l.length + 1) [] i nd with
    | error e => rw [hr] at hp; cases hp
    | ok v =>
      obtain ⟨t1, j1, n1⟩ := v
      rw [hr] at hp
      simp only at hp
      obtain ⟨hj1, hlk⟩ := pCatL_like h hE _ (L.length + 1) [] i nd m t1 j1 n1 (by omega) hi hr
      have hjoin : ∀ (us : List RT) (q : NR RT), joinN 4 us j1 n1 = .ok (t, j, n) → us ≠ [] → j = j1 := by
        intro us q hu hne
        match us, hu, hne with
        | [], _, hne => exact absurd rfl hne
        | [x], hu, _ =>
          unfold joinN at hu
          simp only [Except.ok.injEq, Prod.mk.injEq] at hu
          omega
        | a :: b :: us, hu, _ =>
          obtain ⟨_, hq, _, _⟩ := mkN_ok (t := .nd 4 (0#256) (a :: b :: us) 0 0) hu
          omega
      rcases hlk with e | ⟨c, p, e, hcc⟩
      · rw [e]
        simp only
        simp only [h.not (i := j1) hj1 (k := 124) (by decide) (by decide)]
        by_cases h124 : nx l j1 = 124
        · rw [if_pos h124] at hp ⊢
          have hj2 := nx_lt (l := l) (i := j1) (by omega)
          rw [Nat.add_assoc]
          exact pEithL_like h hE k k' (ks ++ [t1]) (j1 + 1) n1 m t j n (by omega) (by omega) hp
        · rw [if_neg h124] at hp ⊢
          have := hjoin _ (.error (0, 0)) hp (by simp)
          exact ⟨by omega, joinN_like hp⟩
      · rw [e]
        refine ⟨?_, .inr ⟨c, p, rfl, hcc⟩⟩
        by_cases h124 : nx l j1 = 124
        · rw [if_pos h124] at hp
          have hj2 := nx_lt (l := l) (i := j1) (by omega)
          exact (pEithL_like h hE k k' (ks ++ [t1]) (j1 + 1) n1 0 t j n (by omega) (by omega) hp).1
        · rw [if_neg h124] at hp
          have := hjoin _ (.error (0, 0)) hp (by simp)
          omega
theorem pEither_like {l L : List UInt8} {o : Nat} (h : Sim l L o) : ∀ d d', d' ≤ d → ELike l L o (pEither l d) (pEither L d')
  | 0, _, _ => fun i nd m t j n _ hp => by cases hp
  | d + 1, 0, _ => fun i nd m t j n hi hp => by
    have hp' : pEithL l (pEither l d) (l.length + 1) [] i nd = .ok (t, j, n) := hp
    exact ⟨(pEithL_like h (pEither_like h d 0 (by omega)) _ (L.length + 1) [] i nd 0 t j n (by have := h.len; omega) hi hp').1, .inr ⟨6, _, rfl, .inr rfl⟩⟩
  | d + 1, d' + 1, hd => fun i nd m t j n hi hp => by
    have hp' : pEithL l (pEither l d) (l.length + 1) [] i nd = .ok (t, j, n) := hp
    exact pEithL_like h (pEither_like h d d' (by omega)) _ (L.length + 1) [] i nd m t j n (by have := h.len; omega) hi hp'
/-- What is read alone, in parentheses. -/
theorem either_alone {l : List UInt8} {t : RT} (hp : pParse l = .ok t) : pEither l 33 0 0 = .ok (t, l.length, szT t) := by
  have hf := pParse_fine hp
  unfold pParse at hp
  rw [if_neg (by omega)] at hp
  cases he : pEither l 33 0 0 with
  | error e => rw [he] at hp; cases hp
  | ok v =>
    obtain ⟨t', j, n⟩ := v
    rw [he] at hp
    simp only at hp
    by_cases hj : j < l.length
    · rw [if_pos hj] at hp; cases hp
    · rw [if_neg hj] at hp
      simp only [Except.ok.injEq] at hp
      subst hp
      obtain ⟨_, h2, _, _⟩ := pEither_fine l 33 _ _ _ _ _ (by omega) he
      have hsim : Sim l (l ++ [41]) 0 := ⟨by omega, ⟨[], by simp⟩⟩
      have hjl := (pEither_like hsim 33 33 (Nat.le_refl _) 0 0 0 t' j n (by omega) he).1
      rw [show j = l.length by omega, h2, Nat.zero_add]
end Go.Proofs.YtbpgfphilcjmdaaDoor
