/- regex: what is read in parentheses is what is read alone: plain mathematics. -/
import Derived.Test.YtplldfbjbekdlaaDoorRB
set_option linter.unusedVariables false
set_option linter.unusedSimpArgs false
namespace Go.Proofs.YtplldfbjbekdlaaDoor

/-- l stands in L from o on, and a closing parenthesis behind it. -/
structure Sim (l L : List UInt8) (o : Nat) : Prop where
  le : o ≤ L.length
  eq : ∃ r, L.drop o = l ++ 41 :: r
theorem Sim.drop {l L : List UInt8} {o : Nat} (h : Sim l L o) {i : Nat} (hi : i ≤ l.length) : ∃ r, L.drop (o + i) = l.drop i ++ 41 :: r := by
  obtain ⟨r, e⟩ := h.eq
  refine ⟨r, ?_⟩
  rw [← List.drop_drop, e, List.drop_append_of_le_length hi]
theorem Sim.nx {l L : List UInt8} {o : Nat} (h : Sim l L o) {i : Nat} (hi : i < l.length) : Go.Proofs.YtplldfbjbekdlaaDoor.nx L (o + i) = Go.Proofs.YtplldfbjbekdlaaDoor.nx l i := by
  obtain ⟨r, e⟩ := h.drop (Nat.le_of_lt hi)
  have h1 : l.drop i = l[i] :: l.drop (i + 1) := List.drop_eq_getElem_cons hi
  rw [h1] at e
  rw [At.nxc e, nx_at hi]
theorem Sim.nxe {l L : List UInt8} {o : Nat} (h : Sim l L o) : Go.Proofs.YtplldfbjbekdlaaDoor.nx L (o + l.length) = 41 := by
  obtain ⟨r, e⟩ := h.drop (Nat.le_refl _)
  rw [List.drop_length, List.nil_append] at e
  exact At.nxc e
theorem Sim.len {l L : List UInt8} {o : Nat} (h : Sim l L o) : o + l.length < L.length := by
  obtain ⟨r, e⟩ := h.eq
  have h1 := congrArg List.length e
  have h2 := h.le
  simp only [List.length_drop, List.length_append, List.length_cons] at h1
  omega
/-- Of two places one behind the other both are told alike, but that the end is a closing parenthesis. -/
theorem Sim.or {l L : List UInt8} {o : Nat} (h : Sim l L o) {i : Nat} (hi : i ≤ l.length) : (i < l.length ∧ Go.Proofs.YtplldfbjbekdlaaDoor.nx L (o + i) = Go.Proofs.YtplldfbjbekdlaaDoor.nx l i) ∨ (i = l.length ∧ Go.Proofs.YtplldfbjbekdlaaDoor.nx L (o + i) = 41 ∧ Go.Proofs.YtplldfbjbekdlaaDoor.nx l i = 0) := by
  rcases Nat.lt_or_ge i l.length with h1 | h1
  · exact .inl ⟨h1, h.nx h1⟩
  · obtain rfl : i = l.length := by omega
    exact .inr ⟨rfl, h.nxe, nx_end (Nat.le_refl _)⟩
/-- What isn't told by a closing parenthesis, nor by the end. -/
theorem Sim.not {l L : List UInt8} {o : Nat} (h : Sim l L o) {i : Nat} (hi : i ≤ l.length) {k : Nat} (h41 : k ≠ 41) (h0 : k ≠ 0) : (Go.Proofs.YtplldfbjbekdlaaDoor.nx L (o + i) = k) = (Go.Proofs.YtplldfbjbekdlaaDoor.nx l i = k) := by
  rcases h.or hi with ⟨_, e⟩ | ⟨_, e1, e2⟩
  · rw [e]
  · rw [e1, e2]
    exact propext ⟨fun h => absurd h.symm h41, fun h => absurd h.symm h0⟩
theorem Sim.rep {l L : List UInt8} {o : Nat} (h : Sim l L o) {i : Nat} (hi : i ≤ l.length) : isRep (Go.Proofs.YtplldfbjbekdlaaDoor.nx L (o + i)) = isRep (Go.Proofs.YtplldfbjbekdlaaDoor.nx l i) := by
  rcases h.or hi with ⟨_, e⟩ | ⟨_, e1, e2⟩
  · rw [e]
  · rw [e1, e2, rep0]
    exact rep_signs.2.2.2.2.2.1
theorem unesc_app {r z : List UInt8} (h : (unesc r).2 ≠ 0) : unesc (r ++ z) = unesc r := by
  cases r with
  | nil => exact absurd rfl h
  | cons a r =>
    by_cases hx : nx (a :: r) 0 = 120
    · have hu : unesc (a :: r) = hexP (a :: r) := by
        unfold unesc
        rw [if_neg (by simp), if_neg (by omega), if_neg (by omega), if_neg (by omega), if_neg (by omega), if_pos hx]
      have hu2 : unesc (a :: r ++ z) = hexP (a :: r ++ z) := by
        have hx2 : nx (a :: r ++ z) 0 = 120 := hx
        unfold unesc
        rw [if_neg (by simp), if_neg (by omega), if_neg (by omega), if_neg (by omega), if_neg (by omega), if_pos hx2]
      rw [hu] at h
      rw [hu, hu2]
      match r, h with
      | [], h => exact absurd rfl h
      | [b], h => exact absurd rfl h
      | b :: c :: r, h =>
        have n1 : nx (a :: b :: c :: r ++ z) 1 = nx (a :: b :: c :: r) 1 := rfl
        have n2 : nx (a :: b :: c :: r ++ z) 2 = nx (a :: b :: c :: r) 2 := rfl
        unfold hexP
        rw [if_neg (show ¬ (a :: b :: c :: r ++ z).length < 3 by simp), if_neg (show ¬ (a :: b :: c :: r).length < 3 by simp), n1, n2]
    · have hx2 : ¬ nx (a :: r ++ z) 0 = 120 := hx
      have e0 : nx (a :: r ++ z) 0 = nx (a :: r) 0 := rfl
      unfold unesc
      rw [if_neg (show ¬ (a :: r ++ z).length = 0 by simp), if_neg (show ¬ (a :: r).length = 0 by simp)]
      simp only [e0, if_neg hx]
theorem pChar_sim {l L : List UInt8} {o : Nat} (h : Sim l L o) {i c j : Nat} (hp : pChar l i = .ok (c, j)) : pChar L (o + i) = .ok (c, o + j) := by
  have hlt := pChar_lt hp
  have hn := h.nx (show i < l.length by omega)
  unfold pChar at hp ⊢
  rw [hn]
  by_cases h92 : nx l i = 92
  · rw [if_pos h92] at hp ⊢
    unfold pEsc at hp ⊢
    obtain ⟨r, e⟩ := h.drop (i := i + 1) (by omega)
    by_cases hz : (unesc (l.drop (i + 1))).2 = 0
    · rw [if_pos hz] at hp; cases hp
    · rw [if_neg hz] at hp
      rw [Nat.add_assoc, e, unesc_app hz, if_neg hz]
      simp only [Except.ok.injEq, Prod.mk.injEq] at hp ⊢
      omega
  · rw [if_neg h92] at hp ⊢
    by_cases hs : nx l i < 32 ∨ 126 < nx l i ∨ isSign (nx l i) = true
    · rw [if_pos hs] at hp; cases hp
    · rw [if_neg hs] at hp ⊢
      simp only [Except.ok.injEq, Prod.mk.injEq] at hp ⊢
      omega
theorem pRun_sim {l L : List UInt8} {o : Nat} (h : Sim l L o) {i f t j : Nat} (hp : pRun l i = .ok ((f, t), j)) : pRun L (o + i) = .ok ((f, t), o + j) := by
  unfold pRun at hp ⊢
  cases hc : pChar l i with
  | error e => rw [hc] at hp; cases hp
  | ok v =>
    obtain ⟨c, k⟩ := v
    rw [hc] at hp
    rw [pChar_sim h hc]
    have hlt := pChar_lt hc
    simp only at hp ⊢
    simp only [h.not (i := k) (by omega) (k := 45) (by decide) (by decide)]
    by_cases h45 : nx l k = 45
    · rw [if_pos h45] at hp ⊢
      cases hd : pChar l (k + 1) with
      | error e => rw [hd] at hp; cases hp
      | ok v =>
        obtain ⟨d, m⟩ := v
        rw [hd] at hp
        rw [Nat.add_assoc, pChar_sim h hd]
        simp only [Except.ok.injEq, Prod.mk.injEq] at hp ⊢
        omega
    · rw [if_neg h45] at hp ⊢
      simp only [Except.ok.injEq, Prod.mk.injEq] at hp ⊢
      omega
theorem pBrL_sim {l L : List UInt8} {o : Nat} (h : Sim l L o) {b b' : Nat} : ∀ (k k' : Nat) (s : BS) (i : Nat) (s' : BS) (j : Nat), k ≤ k' → i ≤ l.length → pBrL l b k s i = .ok (s', j) → pBrL L b' k' s (o + i) = .ok (s', o + j)
  | 0, _, _, _, _, _, _, _, hp => by cases hp
  | k + 1, k', s, i, s', j, hk, hi, hp => by
    obtain ⟨k', rfl⟩ : ∃ m, k' = m + 1 := ⟨k' - 1, by omega⟩
    unfold pBrL at hp ⊢
    simp only [h.not (i := i) hi (k := 93) (by decide) (by decide)]
    by_cases h93 : nx l i = 93
    · rw [if_pos h93] at hp ⊢
      simp only [Except.ok.injEq, Prod.mk.injEq] at hp ⊢
      exact ⟨hp.1, by omega⟩
    · rw [if_neg h93] at hp ⊢
      cases hr : pRun l i with
      | error e => rw [hr] at hp; cases hp
      | ok v =>
        obtain ⟨⟨f, t⟩, m⟩ := v
        rw [hr] at hp
        rw [pRun_sim h hr]
        have hlt := pRun_lt hr
        simp only at hp ⊢
        by_cases ht : t < f
        · rw [if_pos ht] at hp; cases hp
        · rw [if_neg ht] at hp ⊢
          exact pBrL_sim h k k' _ m _ _ (by omega) (by omega) hp
theorem pSet_sim {l L : List UInt8} {o : Nat} (h : Sim l L o) {i : Nat} {s : BS} {j : Nat} (hp : pSet l i = .ok (s, j)) : pSet L (o + i) = .ok (s, o + j) := by
  have hlt := pSet_lt hp
  have hn := h.nx (show i < l.length by omega)
  have hL := h.len
  unfold pSet at hp ⊢
  rw [hn]
  by_cases h46 : nx l i = 46
  · rw [if_pos h46] at hp ⊢
    simp only [Except.ok.injEq, Prod.mk.injEq] at hp ⊢
    exact ⟨hp.1, by omega⟩
  · rw [if_neg h46] at hp ⊢
    by_cases h91 : nx l i = 91
    · rw [if_pos h91] at hp ⊢
      unfold pBr at hp ⊢
      have h94 := h.not (i := i + 1) (by omega) (k := 94) (by decide) (by decide)
      rw [← Nat.add_assoc] at h94
      simp only [h94]
      by_cases h9 : nx l (i + 1) = 94
      · simp only [if_pos h9] at hp ⊢
        cases hb : pBrL l i (l.length + 1) (0#256) (i + 2) with
        | error e => rw [hb] at hp; cases hp
        | ok v =>
          obtain ⟨s2, m⟩ := v
          rw [hb] at hp
          have hi2 : i + 2 ≤ l.length := by have := nx_lt (l := l) (i := i + 1) (by omega); omega
          rw [Nat.add_assoc, pBrL_sim h _ (L.length + 1) _ _ _ _ (by omega) hi2 hb]
          simp only at hp ⊢
          by_cases hz : ~~~s2 = 0#256
          · rw [if_pos hz] at hp; cases hp
          · rw [if_neg hz] at hp ⊢
            simp only [Except.ok.injEq, Prod.mk.injEq] at hp ⊢
            exact ⟨hp.1, by omega⟩
      · simp only [if_neg h9] at hp ⊢
        cases hb : pBrL l i (l.length + 1) (0#256) (i + 1) with
        | error e => rw [hb] at hp; cases hp
        | ok v =>
          obtain ⟨s2, m⟩ := v
          rw [hb] at hp
          rw [Nat.add_assoc, pBrL_sim h _ (L.length + 1) _ _ _ _ (by omega) (by omega) hb]
          simp only at hp ⊢
          by_cases hz : s2 = 0#256
          · rw [if_pos hz] at hp; cases hp
          · rw [if_neg hz] at hp ⊢
            simp only [Except.ok.injEq, Prod.mk.injEq] at hp ⊢
            exact ⟨hp.1, by omega⟩
    · rw [if_neg h91] at hp ⊢
      cases hc : pChar l i with
      | error e => rw [hc] at hp; cases hp
      | ok v =>
        obtain ⟨c, m⟩ := v
        rw [hc] at hp
        rw [pChar_sim h hc]
        simp only [Except.ok.injEq, Prod.mk.injEq] at hp ⊢
        exact ⟨hp.1, by omega⟩
theorem digEnd_sim {l L : List UInt8} {o : Nat} (h : Sim l L o) : ∀ (k k' i : Nat), l.length < k + i → k ≤ k' → i ≤ l.length → digEnd L k' (o + i) = o + digEnd l k i
  | 0, _, _, h1, _, h3 => absurd h1 (by omega)
  | k + 1, k', i, h1, h2, h3 => by
    obtain ⟨k', rfl⟩ : ∃ m, k' = m + 1 := ⟨k' - 1, by omega⟩
    unfold digEnd
    rcases h.or h3 with ⟨hlt, e⟩ | ⟨rfl, e1, e2⟩
    · rw [e]
      by_cases hd : 48 ≤ nx l i ∧ nx l i ≤ 57
      · rw [if_pos hd, if_pos hd, Nat.add_assoc, digEnd_sim h k k' (i + 1) (by omega) (by omega) (by omega)]
      · rw [if_neg hd, if_neg hd]
    · rw [e1, e2, if_neg (by omega), if_neg (by omega)]
theorem pNum_sim {l L : List UInt8} {o : Nat} (h : Sim l L o) {i n j : Nat} (hi : i ≤ l.length) (hp : pNum l i = .ok (n, j)) : pNum L (o + i) = .ok (n, o + j) := by
  have hL := h.len
  have hde := digEnd_sim h (l.length + 1) (L.length + 1) i (by omega) (by omega) hi
  have hle := digEnd_le (l := l) (l.length + 1) i
  have hd : digs L (o + i) = digs l i := by
    unfold digs
    rw [hde, Nat.add_sub_add_left]
    obtain ⟨r, e⟩ := h.drop hi
    rw [e, List.take_append_of_le_length (by rw [List.length_drop]; have := hle.2 hi; omega)]
  unfold pNum at hp ⊢
  rw [hd, hde]
  by_cases hw : wrtB (digs l i) = false
  · rw [if_pos hw] at hp; cases hp
  · rw [if_neg hw] at hp ⊢
    by_cases hv : valL (digs l i) ≤ 256
    · rw [if_pos hv] at hp ⊢
      simp only [Except.ok.injEq, Prod.mk.injEq] at hp ⊢
      omega
    · rw [if_neg hv] at hp; cases hp
theorem pTimes_sim {l L : List UInt8} {o : Nat} (h : Sim l L o) {i lo : Nat} {hi : Int} {j : Nat} (hil : i < l.length) (hp : pTimes l i = .ok ((lo, hi), j)) : pTimes L (o + i) = .ok ((lo, hi), o + j) := by
  have hn := h.nx hil
  unfold pTimes at hp ⊢
  rw [hn]
  by_cases h42 : nx l i = 42
  · rw [if_pos h42] at hp ⊢
    simp only [Except.ok.injEq, Prod.mk.injEq] at hp ⊢
    omega
  rw [if_neg h42] at hp ⊢
  by_cases h43 : nx l i = 43
  · rw [if_pos h43] at hp ⊢
    simp only [Except.ok.injEq, Prod.mk.injEq] at hp ⊢
    omega
  rw [if_neg h43] at hp ⊢
  by_cases h63 : nx l i = 63
  · rw [if_pos h63] at hp ⊢
    simp only [Except.ok.injEq, Prod.mk.injEq] at hp ⊢
    omega
  rw [if_neg h63] at hp ⊢
  unfold pBounds at hp ⊢
  cases h1 : pNum l (i + 1) with
  | error e => rw [h1] at hp; cases hp
  | ok v =>
    obtain ⟨a, m⟩ := v
    rw [h1] at hp
    have hlt := pNum_lt h1
    rw [Nat.add_assoc, pNum_sim h (by omega) h1]
    simp only at hp ⊢
    simp only [h.not (i := m) (by omega) (k := 44) (by decide) (by decide), h.not (i := m) (by omega) (k := 125) (by decide) (by decide)]
    by_cases h44 : nx l m = 44
    · rw [if_pos h44] at hp ⊢
      have hm1 := nx_lt (l := l) (i := m) (by omega)
      have e125 := h.not (i := m + 1) (by omega) (k := 125) (by decide) (by decide)
      rw [← Nat.add_assoc] at e125
      simp only [e125]
      by_cases h25 : nx l (m + 1) = 125
      · rw [if_pos h25] at hp ⊢
        simp only [Except.ok.injEq, Prod.mk.injEq] at hp ⊢
        omega
      · rw [if_neg h25] at hp ⊢
        cases h2 : pNum l (m + 1) with
        | error e => rw [h2] at hp; cases hp
        | ok v =>
          obtain ⟨b, q⟩ := v
          rw [h2] at hp
          have hlt2 := pNum_lt h2
          rw [Nat.add_assoc, pNum_sim h (by omega) h2]
          simp only at hp ⊢
          simp only [h.not (i := q) (by omega) (k := 125) (by decide) (by decide)]
          by_cases hba : b < a
          · rw [if_pos hba] at hp; cases hp
          · rw [if_neg hba] at hp ⊢
            by_cases hq : nx l q = 125
            · rw [if_pos hq] at hp ⊢
              simp only [Except.ok.injEq, Prod.mk.injEq] at hp ⊢
              omega
            · rw [if_neg hq] at hp; cases hp
    · rw [if_neg h44] at hp ⊢
      by_cases hq : nx l m = 125
      · rw [if_pos hq] at hp ⊢
        simp only [Except.ok.injEq, Prod.mk.injEq] at hp ⊢
        omega
      · rw [if_neg hq] at hp; cases hp
/-- It is read alike, or is too deep, or too long. -/
def Like (r : NR RT) (t : RT) (j nd : Nat) : Prop := r = .ok (t, j, nd) ∨ ∃ c p, r = .error (c, p) ∧ (c = 2 ∨ c = 6)
theorem mkN_like {t t' : RT} {i nd j n m o : Nat} (h : mkN t i nd = .ok (t', j, n)) : Like (mkN t (o + i) (nd + m)) t' (o + j) (n + m) := by
  obtain ⟨rfl, rfl, rfl, h4⟩ := mkN_ok h
  unfold mkN
  by_cases h5 : nd + m + 1 ≤ 512
  · rw [if_pos h5]
    exact .inl (by rw [show nd + 1 + m = nd + m + 1 by omega])
  · rw [if_neg h5]
    exact .inr ⟨2, _, rfl, .inl rfl⟩
theorem joinN_like {k : Int} {ks : List RT} {t' : RT} {i nd j n m o : Nat} (h : joinN k ks i nd = .ok (t', j, n)) : Like (joinN k ks (o + i) (nd + m)) t' (o + j) (n + m) := by
  match ks, h with
  | [], h => exact mkN_like h
  | [x], h =>
    unfold joinN at h ⊢
    simp only [Except.ok.injEq, Prod.mk.injEq] at h
    obtain ⟨rfl, rfl, rfl⟩ := h
    exact .inl rfl
  | a :: b :: ks, h => exact mkN_like h
def ELike (l L : List UInt8) (o : Nat) (E E' : Nat → Nat → NR RT) : Prop := ∀ i nd m t j n, i ≤ l.length → E i nd = .ok (t, j, n) → j ≤ l.length ∧ Like (E' (o + i) (nd + m)) t (o + j) (n + m)
theorem pRepL_like {l L : List UInt8} {o : Nat} (h : Sim l L o) : ∀ (k k' : Nat) (t : RT) (i nd m : Nat) (t' : RT) (j n : Nat), k ≤ k' → i ≤ l.length → pRepL l k t i nd = .ok (t', j, n) → j ≤ l.length ∧ Like (pRepL L k' t (o + i) (nd + m)) t' (o + j) (n + m)
  | 0, _, _, _, _, _, _, _, _, _, _, hp => by cases hp
  | k + 1, k', t, i, nd, m, t', j, n, hk, hi, hp => by
    obtain ⟨k', rfl⟩ : ∃ q, k' = q + 1 := ⟨k' - 1, by omega⟩
    unfold pRepL at hp ⊢
    rw [h.rep hi]
    by_cases hr : isRep (nx l i) = true
    · rw [if_pos hr] at hp ⊢
      have hil := isRep_lt hr
      cases ht : pTimes l i with
      | error e => rw [ht] at hp; cases hp
      | ok v =>
        obtain ⟨⟨lo, hi2⟩, q⟩ := v
        rw [ht] at hp
        rw [pTimes_sim h hil ht]
        have hlt := pTimes_lt ht
        simp only at hp ⊢
        cases hm : mkN (.nd 5 (0#256) [t] lo hi2) q nd with
        | error e => rw [hm] at hp; cases hp
        | ok v =>
          obtain ⟨t2, q2, n2⟩ := v
          rw [hm] at hp
          simp only at hp
          obtain ⟨_, _, _, _⟩ := mkN_ok hm
          have hql := hlt.2.1 hil
          rcases mkN_like (m := m) (o := o) hm with e | ⟨c, p, e, hc⟩
          · rw [e]
            exact pRepL_like h k k' t2 q n2 m t' j n (by omega) hql hp
          · refine ⟨?_, .inr ⟨c, p, by rw [e], hc⟩⟩
            exact (pRepL_like h k k t2 q n2 0 t' j n (Nat.le_refl _) hql hp).1
    · rw [if_neg hr] at hp ⊢
      simp only [Except.ok.injEq, Prod.mk.injEq] at hp
      obtain ⟨rfl, rfl, rfl⟩ := hp
      exact ⟨hi, .inl rfl⟩
theorem pRep_like {l L : List UInt8} {o : Nat} (h : Sim l L o) {E E' : Nat → Nat → NR RT} (hE : ELike l L o E E') {i nd m : Nat} {t : RT} {j n : Nat} (hi : i < l.length) (hp : pRep l E i nd = .ok (t, j, n)) : j ≤ l.length ∧ Like (pRep L E' (o + i) (nd + m)) t (o + j) (n + m) := by
  have hL := h.len
  unfold pRep at hp ⊢
  cases ho : pOne l E i nd with
  | error e => rw [ho] at hp; cases hp
  | ok v =>
    obtain ⟨t1, j1, n1⟩ := v
    rw [ho] at hp
    simp only at hp
    have key : j1 ≤ l.length ∧ Like (pOne L E' (o + i) (nd + m)) t1 (o + j1) (n1 + m) := by
      unfold pOne at ho ⊢
      rw [h.nx hi]
      by_cases h40 : nx l i = 40
      · rw [if_pos h40] at ho ⊢
        cases he : E (i + 1) nd with
        | error e => rw [he] at ho; cases ho
        | ok v =>
          obtain ⟨t2, j2, n2⟩ := v
          rw [he] at ho
          simp only at ho
          by_cases h41 : nx l j2 = 41
          · rw [if_pos h41] at ho
            simp only [Except.ok.injEq, Prod.mk.injEq] at ho
            obtain ⟨rfl, rfl, rfl⟩ := ho
            obtain ⟨hj2, hlk⟩ := hE (i + 1) nd m t2 j2 n2 (by omega) he
            have hj3 := nx_lt (l := l) (i := j2) (by omega)
            refine ⟨by omega, ?_⟩
            rw [Nat.add_assoc]
            rcases hlk with e | ⟨c, p, e, hc⟩
            · rw [e]
              simp only
              rw [h.nx hj3, if_pos h41]
              exact .inl (by rw [Nat.add_assoc])
            · rw [e]
              exact .inr ⟨c, p, rfl, hc⟩
          · rw [if_neg h41] at ho; cases ho
      · rw [if_neg h40] at ho ⊢
        cases hs : pSet l i with
        | error e => rw [hs] at ho; cases ho
        | ok v =>
          obtain ⟨s, q⟩ := v
          rw [hs] at ho
          rw [pSet_sim h hs]
          simp only at ho ⊢
          obtain ⟨_, hq, _, _⟩ := mkN_ok ho
          have := pSet_lt hs
          exact ⟨by omega, mkN_like ho⟩
    rcases key.2 with e | ⟨c, p, e, hc⟩
    · rw [e]
      exact pRepL_like h _ _ t1 j1 n1 m t j n (by omega) key.1 hp
    · rw [e]
      exact ⟨(pRepL_like h _ (L.length + 1) t1 j1 n1 0 t j n (by omega) key.1 hp).1, .inr ⟨c, p, rfl, hc⟩⟩
theorem pCatL_like {l L : List UInt8} {o : Nat} (h : Sim l L o) {E E' : Nat → Nat → NR RT} (hE : ELike l L o E E') : ∀ (k k' : Nat) (ks : List RT) (i nd m : Nat) (t : RT) (j n : Nat), k ≤ k' → i ≤ l.length → pCatL l E k ks i nd = .ok (t, j, n) → j ≤ l.length ∧ Like (pCatL L E' k' ks (o + i) (nd + m)) t (o + j) (n + m)
  | 0, _, _, _, _, _, _, _, _, _, _, hp => by cases hp
  | k + 1, k', ks, i, nd, m, t, j, n, hk, hi, hp => by
    obtain ⟨k', rfl⟩ : ∃ q, k' = q + 1 := ⟨k' - 1, by omega⟩
    have hL := h.len
    have hcond : (o + i < L.length ∧ nx L (o + i) ≠ 124 ∧ nx L (o + i) ≠ 41) = (i < l.length ∧ nx l i ≠ 124 ∧ nx l i ≠ 41) := by
      rcases h.or hi with ⟨h1, e⟩ | ⟨h1, e1, _⟩
      · rw [e]
        exact propext ⟨fun ⟨_, a, b⟩ => ⟨h1, a, b⟩, fun ⟨_, a, b⟩ => ⟨by omega, a, b⟩⟩
      · exact propext ⟨fun ⟨_, _, b⟩ => absurd e1 b, fun ⟨a, _, _⟩ => absurd a (by omega)⟩
    unfold pCatL at hp ⊢
    simp only [hcond]
    by_cases hc : i < l.length ∧ nx l i ≠ 124 ∧ nx l i ≠ 41
    · rw [if_pos hc] at hp ⊢
      cases hr : pRep l E i nd with
      | error e => rw [hr] at hp; cases hp
      | ok v =>
        obtain ⟨t1, j1, n1⟩ := v
        rw [hr] at hp
        simp only at hp
        obtain ⟨hj1, hlk⟩ := pRep_like (m := m) h hE hc.1 hr
        rcases hlk with e | ⟨c, p, e, hcc⟩
        · rw [e]
          exact pCatL_like h hE k k' (ks ++ [t1]) j1 n1 m t j n (by omega) hj1 hp
        · rw [e]
          exact ⟨(pCatL_like h hE k k' (ks ++ [t1]) j1 n1 0 t j n (by omega) hj1 hp).1, .inr ⟨c, p, rfl, hcc⟩⟩
    · rw [if_neg hc] at hp ⊢
      by_cases hk0 : ks.isEmpty = true
      · rw [if_pos hk0] at hp ⊢
        obtain ⟨_, hq, _, _⟩ := mkN_ok hp
        exact ⟨by omega, mkN_like hp⟩
      · rw [if_neg hk0] at hp ⊢
        refine ⟨?_, joinN_like hp⟩
        match ks, hp, hk0 with
        | [], _, hk0 => exact absurd rfl hk0
        | [x], hp, _ =>
          unfold joinN at hp
          simp only [Except.ok.injEq, Prod.mk.injEq] at hp
          omega
        | a :: b :: ks, hp, _ =>
          obtain ⟨_, hq, _, _⟩ := mkN_ok (t := .nd 3 (0#256) (a :: b :: ks) 0 0) hp
          omega
theorem pEithL_like {l L : List UInt8} {o : Nat} (h : Sim l L o) {E E' : Nat → Nat → NR RT} (hE : ELike l L o E E') : ∀ (k k' : Nat) (ks : List RT) (i nd m : Nat) (t : RT) (j n : Nat), k ≤ k' → i ≤ l.length → pEithL l E k ks i nd = .ok (t, j, n) → j ≤ l.length ∧ Like (pEithL L E' k' ks (o + i) (nd + m)) t (o + j) (n + m)
  | 0, _, _, _, _, _, _, _, _, _, _, hp => by cases hp
  | k + 1, k', ks, i, nd, m, t, j, n, hk, hi, hp => by
    obtain ⟨k', rfl⟩ : ∃ q, k' = q + 1 := ⟨k' - 1, by omega⟩
    have hL := h.len
    unfold pEithL at hp ⊢
    cases hr : pCatL l E (l.length + 1) [] i nd with
    | error e => rw [hr] at hp; cases hp
    | ok v =>
      obtain ⟨t1, j1, n1⟩ := v
      rw [hr] at hp
      simp only at hp
      obtain ⟨hj1, hlk⟩ := pCatL_like h hE _ (L.length + 1) [] i nd m t1 j1 n1 (by omega) hi hr
      have hjoin : ∀ (us : List RT) (q : NR RT), joinN 4 us j1 n1 = .ok (t, j, n) → us ≠ [] → j = j1 := by
        intro us q hu hne
        match us, hu, hne with
        | [], _, hne => exact absurd rfl hne
        | [x], hu, _ =>
          unfold joinN at hu
          simp only [Except.ok.injEq, Prod.mk.injEq] at hu
          omega
        | a :: b :: us, hu, _ =>
          obtain ⟨_, hq, _, _⟩ := mkN_ok (t := .nd 4 (0#256) (a :: b :: us) 0 0) hu
          omega
      rcases hlk with e | ⟨c, p, e, hcc⟩
      · rw [e]
        simp only
        simp only [h.not (i := j1) hj1 (k := 124) (by decide) (by decide)]
        by_cases h124 : nx l j1 = 124
        · rw [if_pos h124] at hp ⊢
          have hj2 := nx_lt (l := l) (i := j1) (by omega)
          rw [Nat.add_assoc]
          exact pEithL_like h hE k k' (ks ++ [t1]) (j1 + 1) n1 m t j n (by omega) (by omega) hp
        · rw [if_neg h124] at hp ⊢
          have := hjoin _ (.error (0, 0)) hp (by simp)
          exact ⟨by omega, joinN_like hp⟩
      · rw [e]
        refine ⟨?_, .inr ⟨c, p, rfl, hcc⟩⟩
        by_cases h124 : nx l j1 = 124
        · rw [if_pos h124] at hp
          have hj2 := nx_lt (l := l) (i := j1) (by omega)
          exact (pEithL_like h hE k k' (ks ++ [t1]) (j1 + 1) n1 0 t j n (by omega) (by omega) hp).1
        · rw [if_neg h124] at hp
          have := hjoin _ (.error (0, 0)) hp (by simp)
          omega
theorem pEither_like {l L : List UInt8} {o : Nat} (h : Sim l L o) : ∀ d d', d' ≤ d → ELike l L o (pEither l d) (pEither L d')
  | 0, _, _ => fun i nd m t j n _ hp => by cases hp
  | d + 1, 0, _ => fun i nd m t j n hi hp => by
    have hp' : pEithL l (pEither l d) (l.length + 1) [] i nd = .ok (t, j, n) := hp
    exact ⟨(pEithL_like h (pEither_like h d 0 (by omega)) _ (L.length + 1) [] i nd 0 t j n (by have := h.len; omega) hi hp').1, .inr ⟨6, _, rfl, .inr rfl⟩⟩
  | d + 1, d' + 1, hd => fun i nd m t j n hi hp => by
    have hp' : pEithL l (pEither l d) (l.length + 1) [] i nd = .ok (t, j, n) := hp
    exact pEithL_like h (pEither_like h d d' (by omega)) _ (L.length + 1) [] i nd m t j n (by have := h.len; omega) hi hp'
/-- What is read alone, in parentheses. -/
theorem either_alone {l : List UInt8} {t : RT} (hp : pParse l = .ok t) : pEither l 33 0 0 = .ok (t, l.length, szT t) := by
  have hf := pParse_fine hp
  unfold pParse at hp
  rw [if_neg (by omega)] at hp
  cases he : pEither l 33 0 0 with
  | error e => rw [he] at hp; cases hp
  | ok v =>
    obtain ⟨t', j, n⟩ := v
    rw [he] at hp
    simp only at hp
    by_cases hj : j < l.length
    · rw [if_pos hj] at hp; cases hp
    · rw [if_neg hj] at hp
      simp only [Except.ok.injEq] at hp
      subst hp
      obtain ⟨_, h2, _, _⟩ := pEither_fine l 33 _ _ _ _ _ (by omega) he
      have hsim : Sim l (l ++ [41]) 0 := ⟨by omega, ⟨[], by simp⟩⟩
      have hjl := (pEither_like hsim 33 33 (Nat.le_refl _) 0 0 0 t' j n (by omega) he).1
      rw [show j = l.length by omega, h2, Nat.zero_add]
end Go.Proofs.YtplldfbjbekdlaaDoor

/- regex: parts in parentheses, and sets with a bar or a count: plain mathematics. -/
set_option linter.unusedVariables false
set_option linter.unusedSimpArgs false
namespace Go.Proofs.YtplldfbjbekdlaaDoor

/-- An error that a longer text may have where its parts have none. -/
def Bad (r : NR RT) : Prop := ∃ c p, r = .error (c, p) ∧ (c = 2 ∨ c = 6)
theorem paren_rep {l L : List UInt8} {o : Nat} {x : RT} (h : Sim l L (o + 1)) (h40 : nx L o = 40) (hx : pEither l 33 0 0 = .ok (x, l.length, szT x)) (d : Nat) (hd : d ≤ 33) (nd : Nat) :
    Bad (pRep L (pEither L d) o nd) ∨ pRep L (pEither L d) o nd = pRepL L (L.length + 1) x (o + l.length + 2) (nd + szT x) := by
  have hlk := (pEither_like h 33 d hd 0 0 nd x l.length (szT x) (by omega) hx).2
  rw [Nat.add_zero, Nat.zero_add] at hlk
  have h41 := h.nxe
  unfold pRep pOne
  rw [if_pos h40]
  rcases hlk with e | ⟨c, p, e, hc⟩
  · right
    rw [e]
    simp only
    rw [if_pos h41]
    simp only
    rw [show o + 1 + l.length + 1 = o + l.length + 2 by omega, Nat.add_comm (szT x) nd]
  · left
    rw [e]
    exact ⟨c, p, rfl, hc⟩
theorem mkN_or (t : RT) (i nd : Nat) : mkN t i nd = .ok (t, i, nd + 1) ∨ Bad (mkN t i nd) := by
  unfold mkN
  by_cases h : nd + 1 ≤ 512
  · rw [if_pos h]; exact .inl rfl
  · rw [if_neg h]; exact .inr ⟨2, i, rfl, .inl rfl⟩
theorem pCatL_step {l : List UInt8} {E : Nat → Nat → NR RT} {m i nd : Nat} {ks : List RT} (h : i < l.length) (h1 : nx l i ≠ 124) (h2 : nx l i ≠ 41) (hm : 0 < m) : pCatL l E m ks i nd = (match pRep l E i nd with
      | .error e => .error e
      | .ok (t, j, nd') => pCatL l E (m - 1) (ks ++ [t]) j nd') := by
  obtain ⟨m, rfl⟩ : ∃ n, m = n + 1 := ⟨m - 1, by omega⟩
  conv => lhs; unfold pCatL
  rw [if_pos ⟨h, h1, h2⟩]
  rfl
theorem pEithL_step {l : List UInt8} {E : Nat → Nat → NR RT} {m i nd : Nat} {ks : List RT} (hm : 0 < m) : pEithL l E m ks i nd = (match pCatL l E (l.length + 1) [] i nd with
      | .error e => .error e
      | .ok (t, j, nd') => if nx l j = 124 then pEithL l E (m - 1) (ks ++ [t]) (j + 1) nd' else joinN 4 (ks ++ [t]) j nd') := by
  obtain ⟨m, rfl⟩ : ∃ n, m = n + 1 := ⟨m - 1, by omega⟩
  conv => lhs; unfold pEithL
  rfl
theorem Bad.cat {L : List UInt8} {E : Nat → Nat → NR RT} {i nd m : Nat} {ks : List RT} (h : Bad (pRep L E i nd)) (hi : i < L.length) (h1 : nx L i ≠ 124) (h2 : nx L i ≠ 41) (hm : 0 < m) : Bad (pCatL L E m ks i nd) := by
  obtain ⟨c, p, e, hc⟩ := h
  rw [pCatL_step hi h1 h2 hm, e]
  exact ⟨c, p, rfl, hc⟩
theorem Bad.eith {L : List UInt8} {E : Nat → Nat → NR RT} {i nd m : Nat} {ks : List RT} (h : Bad (pCatL L E (L.length + 1) [] i nd)) (hm : 0 < m) : Bad (pEithL L E m ks i nd) := by
  obtain ⟨c, p, e, hc⟩ := h
  rw [pEithL_step hm, e]
  exact ⟨c, p, rfl, hc⟩
/-- What Parse answers of a longer text: this expression, or that it is too great. -/
def Whole (l : List UInt8) (t : RT) : Prop := pParse l = .ok t ∨ ∃ c p, pParse l = .error (c, p) ∧ (c = 2 ∨ c = 6)
theorem whole_bad {L : List UInt8} {t : RT} (hl : L.length ≤ 512) (h : Bad (pEithL L (pEither L 32) (L.length + 1) [] 0 0)) : Whole L t := by
  obtain ⟨c, p, e, hc⟩ := h
  right
  refine ⟨c, p, ?_, hc⟩
  unfold pParse
  rw [if_neg (by omega), show pEither L 33 0 0 = _ from e]
theorem whole_ok {L : List UInt8} {t : RT} {n : Nat} (hl : L.length ≤ 512) (h : pEithL L (pEither L 32) (L.length + 1) [] 0 0 = .ok (t, L.length, n)) : Whole L t := by
  left
  unfold pParse
  rw [if_neg (by omega), show pEither L 33 0 0 = _ from h]
  simp
theorem joins_cat {a b : List UInt8} {x y : RT} (ha : pParse a = .ok x) (hb : pParse b = .ok y) (hl : a.length + b.length ≤ 500) :
    Whole (40 :: (a ++ 41 :: 40 :: (b ++ [41]))) (.nd 3 (0#256) [x, y] 0 0) := by
  obtain ⟨L, hL⟩ : ∃ L, L = 40 :: (a ++ 41 :: 40 :: (b ++ [41])) := ⟨_, rfl⟩
  rw [← hL]
  have hlen : L.length = a.length + b.length + 4 := by rw [hL]; simp; omega
  have s1 : Sim a L (0 + 1) := ⟨by omega, ⟨40 :: (b ++ [41]), by rw [hL]; rfl⟩⟩
  have hd2 : L.drop (a.length + 2) = 40 :: (b ++ [41]) := by
    rw [hL, show a.length + 2 = (a.length + 1) + 1 by omega, List.drop_succ_cons, ← List.drop_drop, List.drop_left]
    rfl
  have s2 : Sim b L (a.length + 2 + 1) := ⟨by omega, ⟨[], by rw [← List.drop_drop, hd2]; rfl⟩⟩
  have n0 : nx L 0 = 40 := by rw [hL]; rfl
  have n2 : nx L (a.length + 2) = 40 := At.nxc hd2
  have ne : nx L L.length = 0 := nx_end (Nat.le_refl _)
  have r40 : isRep 40 = false := rep_signs.2.2.2.2.2.2.2
  have hx := either_alone ha
  have hy := either_alone hb
  rcases paren_rep s1 n0 hx 32 (by omega) 0 with hbad | e1
  · exact whole_bad (by omega) (Bad.eith (Bad.cat hbad (by omega) (by omega) (by omega) (by omega)) (by omega))
  rw [Nat.zero_add, pRepL_halt (by rw [n2]; exact r40) (by omega), Nat.zero_add] at e1
  have c1 : pCatL L (pEither L 32) (L.length + 1) [] 0 0 = pCatL L (pEither L 32) L.length [x] (a.length + 2) (szT x) := by
    rw [pCatL_step (by omega) (by omega) (by omega) (by omega), e1]
    rfl
  rcases paren_rep s2 n2 hy 32 (by omega) (szT x) with hbad | e2
  · refine whole_bad (by omega) (Bad.eith ?_ (by omega))
    rw [c1]
    exact Bad.cat hbad (by omega) (by omega) (by omega) (by omega)
  rw [show a.length + 2 + b.length + 2 = L.length by omega, pRepL_halt (by rw [ne]; exact rep0) (by omega)] at e2
  have c2 : pCatL L (pEither L 32) (L.length + 1) [] 0 0 = mkN (.nd 3 (0#256) [x, y] 0 0) L.length (szT x + szT y) := by
    rw [c1, pCatL_step (by omega) (by omega) (by omega) (by omega), e2]
    simp only
    rw [pCatL_halt (by omega) (by omega)]
    rfl
  rcases mkN_or (.nd 3 (0#256) [x, y] 0 0) L.length (szT x + szT y) with e3 | hbad
  · refine whole_ok (n := szT x + szT y + 1) (by omega) ?_
    rw [pEithL_step (by omega), c2, e3]
    simp only
    rw [if_neg (by rw [ne]; decide)]
    rfl
  · exact whole_bad (by omega) (Bad.eith (by rw [c2]; exact hbad) (by omega))
theorem joins_alt {a b : List UInt8} {x y : RT} (ha : pParse a = .ok x) (hb : pParse b = .ok y) (hl : a.length + b.length ≤ 500) :
    Whole (40 :: (a ++ 41 :: 124 :: 40 :: (b ++ [41]))) (.nd 4 (0#256) [x, y] 0 0) := by
  obtain ⟨L, hL⟩ : ∃ L, L = 40 :: (a ++ 41 :: 124 :: 40 :: (b ++ [41])) := ⟨_, rfl⟩
  rw [← hL]
  have hlen : L.length = a.length + b.length + 5 := by rw [hL]; simp; omega
  have s1 : Sim a L (0 + 1) := ⟨by omega, ⟨124 :: 40 :: (b ++ [41]), by rw [hL]; rfl⟩⟩
  have hd2 : L.drop (a.length + 2) = 124 :: 40 :: (b ++ [41]) := by
    rw [hL, show a.length + 2 = (a.length + 1) + 1 by omega, List.drop_succ_cons, ← List.drop_drop, List.drop_left]
    rfl
  have hd3 : L.drop (a.length + 3) = 40 :: (b ++ [41]) := by
    rw [show a.length + 3 = a.length + 2 + 1 by omega, ← List.drop_drop, hd2]
    rfl
  have s2 : Sim b L (a.length + 3 + 1) := ⟨by omega, ⟨[], by rw [← List.drop_drop, hd3]; rfl⟩⟩
  have n0 : nx L 0 = 40 := by rw [hL]; rfl
  have n2 : nx L (a.length + 2) = 124 := At.nxc hd2
  have n3 : nx L (a.length + 3) = 40 := At.nxc hd3
  have ne : nx L L.length = 0 := nx_end (Nat.le_refl _)
  have r124 : isRep 124 = false := rep_signs.2.2.2.2.2.2.1
  have hx := either_alone ha
  have hy := either_alone hb
  rcases paren_rep s1 n0 hx 32 (by omega) 0 with hbad | e1
  · exact whole_bad (by omega) (Bad.eith (Bad.cat hbad (by omega) (by omega) (by omega) (by omega)) (by omega))
  rw [Nat.zero_add, pRepL_halt (by rw [n2]; exact r124) (by omega), Nat.zero_add] at e1
  have c1 : pCatL L (pEither L 32) (L.length + 1) [] 0 0 = .ok (x, a.length + 2, szT x) := by
    rw [pCatL_step (by omega) (by omega) (by omega) (by omega), e1]
    simp only
    rw [pCatL_halt (by omega) (by omega)]
    rfl
  have p1 : pEithL L (pEither L 32) (L.length + 1) [] 0 0 = pEithL L (pEither L 32) L.length [x] (a.length + 3) (szT x) := by
    rw [pEithL_step (by omega), c1]
    simp only
    rw [if_pos n2]
    rfl
  rcases paren_rep s2 n3 hy 32 (by omega) (szT x) with hbad | e2
  · refine whole_bad (by omega) ?_
    rw [p1]
    exact Bad.eith (Bad.cat hbad (by omega) (by omega) (by omega) (by omega)) (by omega)
  rw [show a.length + 3 + b.length + 2 = L.length by omega, pRepL_halt (by rw [ne]; exact rep0) (by omega)] at e2
  have c2 : pCatL L (pEither L 32) (L.length + 1) [] (a.length + 3) (szT x) = .ok (y, L.length, szT x + szT y) := by
    rw [pCatL_step (by omega) (by omega) (by omega) (by omega), e2]
    simp only
    rw [pCatL_halt (by omega) (by omega)]
    rfl
  have p2 : pEithL L (pEither L 32) (L.length + 1) [] 0 0 = mkN (.nd 4 (0#256) [x, y] 0 0) L.length (szT x + szT y) := by
    rw [p1, pEithL_step (by omega), c2]
    simp only
    rw [if_neg (by rw [ne]; decide)]
    rfl
  rcases mkN_or (.nd 4 (0#256) [x, y] 0 0) L.length (szT x + szT y) with e3 | hbad
  · exact whole_ok (n := szT x + szT y + 1) (by omega) (by rw [p2, e3])
  · exact whole_bad (by omega) (by rw [p2]; exact hbad)
theorem joins_rep {a : List UInt8} {x : RT} (ha : pParse a = .ok x) (hl : a.length ≤ 500) : Whole (40 :: (a ++ [41, 42])) (.nd 5 (0#256) [x] 0 (-1)) := by
  obtain ⟨L, hL⟩ : ∃ L, L = 40 :: (a ++ [41, 42]) := ⟨_, rfl⟩
  rw [← hL]
  have hlen : L.length = a.length + 3 := by rw [hL]; simp
  have s1 : Sim a L (0 + 1) := ⟨by omega, ⟨[42], by rw [hL]; rfl⟩⟩
  have hd2 : L.drop (a.length + 2) = [42] := by
    rw [hL, show a.length + 2 = (a.length + 1) + 1 by omega, List.drop_succ_cons, ← List.drop_drop, List.drop_left]
    rfl
  have n0 : nx L 0 = 40 := by rw [hL]; rfl
  have n2 : nx L (a.length + 2) = 42 := At.nxc hd2
  have ne : nx L L.length = 0 := nx_end (Nat.le_refl _)
  have hx := either_alone ha
  rcases paren_rep s1 n0 hx 32 (by omega) 0 with hbad | e1
  · exact whole_bad (by omega) (Bad.eith (Bad.cat hbad (by omega) (by omega) (by omega) (by omega)) (by omega))
  rw [Nat.zero_add, Nat.zero_add] at e1
  have ht : pTimes L (a.length + 2) = .ok ((0, -1), a.length + 2 + 1) := by
    unfold pTimes
    rw [if_pos n2]
  have e2 : pRep L (pEither L 32) 0 0 = (match mkN (.nd 5 (0#256) [x] ((0 : Nat) : Int) (-1)) L.length (szT x) with
      | .error e => .error e
      | .ok (t', _, nd') => pRepL L L.length t' L.length nd') := by
    rw [e1]
    conv => lhs; unfold pRepL
    rw [if_pos (by rw [n2]; exact rep_signs.1), ht, show a.length + 2 + 1 = L.length by omega]
    rfl
  rcases mkN_or (.nd 5 (0#256) [x] ((0 : Nat) : Int) (-1)) L.length (szT x) with e3 | hbad
  · rw [e3] at e2
    simp only at e2
    rw [pRepL_halt (by rw [ne]; exact rep0) (by omega)] at e2
    have c1 : pCatL L (pEither L 32) (L.length + 1) [] 0 0 = .ok (.nd 5 (0#256) [x] ((0 : Nat) : Int) (-1), L.length, szT x + 1) := by
      rw [pCatL_step (by omega) (by omega) (by omega) (by omega), e2]
      simp only
      rw [pCatL_halt (by omega) (by omega)]
      rfl
    refine whole_ok (n := szT x + 1) (by omega) ?_
    rw [pEithL_step (by omega), c1]
    simp only
    rw [if_neg (by rw [ne]; decide)]
    rfl
  · obtain ⟨c, p, e, hc⟩ := hbad
    rw [e] at e2
    exact whole_bad (by omega) (Bad.eith (Bad.cat ⟨c, p, e2, hc⟩ (by omega) (by omega) (by omega) (by omega)) (by omega))

/-! Sets with a bar between, and with a count. -/
theorem textL_bit (c : Nat) (hc : c < 256) : textL (bit c) = nameL c := by
  have h1 : (bytesOf (bit c)).length = 1 := bit_len ⟨c, hc⟩
  rw [textL_one h1]
  have h2 := ((len_one (bit c)).1 h1).2
  have h3 := has_bit (firstN (bit c)) c (firstN_lt _)
  rw [← h2, has_bit c c hc] at h3
  simp at h3
  rw [← h3]
theorem wg_one {s : BS} (h : s ≠ 0#256) : wgT (.nd 2 s [] 0 0) = 0 := (fine_one h).wg
theorem bit_ne (c : Nat) (hc : c < 256) : bit c ≠ 0#256 := by
  intro e
  have := has_bit c c hc
  rw [e, has_zero] at this
  simp at this
theorem parse_alt2 {s u : BS} (hs : s ≠ 0#256) (hu : u ≠ 0#256) (hl : (textL s).length + (textL u).length ≤ 500) :
    pParse (textL s ++ 124 :: textL u) = .ok (.nd 4 (0#256) [.nd 2 s [] 0 0, .nd 2 u [] 0 0] 0 0) := by
  have hf := fine_many (k := 4) (.inr rfl) (ts := [.nd 2 s [] 0 0, .nd 2 u [] 0 0]) (fun t ht => by
    simp only [List.mem_cons, List.not_mem_nil, or_false] at ht
    rcases ht with rfl | rfl
    · exact fine_one hs
    · exact fine_one hu) (by simp)
  have hw : wrT (.nd 4 (0#256) [.nd 2 s [] 0 0, .nd 2 u [] 0 0] 0 0) = textL s ++ 124 :: textL u := by
    simp [wrT, wrKs, clo, RT.k]
  have h := (parse_text hf.wg (by simp [szT, szL]) (by rw [hw]; simp; omega)).1 (by simp [pdT, pdL, clo, RT.k])
  rw [hw, hf.nr] at h
  exact h
theorem parse_rep3 {s : BS} (hs : s ≠ 0#256) (c : Nat) (hc : c < 256) (hl : (textL s).length ≤ 500) :
    pParse (textL s ++ 123 :: 51 :: 125 :: nameL c) = .ok (.nd 3 (0#256) [.nd 5 (0#256) [.nd 2 s [] 0 0] 3 3, .nd 2 (bit c) [] 0 0] 0 0) := by
  have hr := fine_rep (lo := 3) (hi := 3) (fine_one hs) (by omega) (by omega) (by omega) (fun _ => by omega)
  have hf := fine_many (k := 3) (.inl rfl) (ts := [.nd 5 (0#256) [.nd 2 s [] 0 0] 3 3, .nd 2 (bit c) [] 0 0]) (fun t ht => by
    simp only [List.mem_cons, List.not_mem_nil, or_false] at ht
    rcases ht with rfl | rfl
    · exact hr
    · exact fine_one (bit_ne c hc)) (by simp)
  have ho : oftT 3 3 = [123, 51, 125] := by kernel_rfl
  have hn := nameL_le c
  have hw : wrT (.nd 3 (0#256) [.nd 5 (0#256) [.nd 2 s [] 0 0] 3 3, .nd 2 (bit c) [] 0 0] 0 0) = textL s ++ 123 :: 51 :: 125 :: nameL c := by
    simp [wrT, wrKs, clo, RT.k, ho, textL_bit c hc]
  have h := (parse_text hf.wg (by simp [szT, szL]) (by rw [hw]; simp; omega)).1 (by simp [pdT, pdL, clo, RT.k])
  rw [hw, hf.nr] at h
  exact h
end Go.Proofs.YtplldfbjbekdlaaDoor

/- regex: which errors a text may have, and where: plain mathematics. -/
set_option linter.unusedVariables false
set_option linter.unusedSimpArgs false
namespace Go.Proofs.YtplldfbjbekdlaaDoor

/-- An error that a text may have. -/
def Er (l : List UInt8) (e : Nat × Nat) : Prop := (e.1 = 1 ∨ e.1 = 2 ∨ e.1 = 5 ∨ e.1 = 6 ∨ e.1 = 160) ∧ e.2 ≤ l.length
theorem er {l : List UInt8} {c p : Nat} (h : c = 1 ∨ c = 2 ∨ c = 5 ∨ c = 6 ∨ c = 160) (hp : p ≤ l.length) : Er l (c, p) := ⟨h, hp⟩
theorem pChar_er {l : List UInt8} {i : Nat} (hi : i ≤ l.length) {e : Nat × Nat} (h : pChar l i = .error e) : Er l e := by
  unfold pChar at h
  split at h
  · unfold pEsc at h
    split at h
    · injection h with h; subst h; exact er (by omega) hi
    · cases h
  · split at h
    · injection h with h; subst h; exact er (by omega) hi
    · cases h
theorem pRun_er {l : List UInt8} {i : Nat} (hi : i ≤ l.length) {e : Nat × Nat} (h : pRun l i = .error e) : Er l e := by
  unfold pRun at h
  split at h
  · rename_i e' hc
    injection h with h; subst h; exact pChar_er hi hc
  · rename_i c j hc
    have h1 := pChar_lt hc
    split at h
    · rename_i h45
      have h2 := nx_lt (l := l) (i := j) (by omega)
      split at h
      · rename_i e' hd
        injection h with h; subst h; exact pChar_er (by omega) hd
      · cases h
    · cases h
theorem pBrL_er {l : List UInt8} {b : Nat} (hb : b ≤ l.length) : ∀ (k : Nat) (s : BS) (i : Nat) (e : Nat × Nat), i ≤ l.length → l.length < k + i → pBrL l b k s i = .error e → Er l e
  | 0, _, _, _, h1, h2, _ => absurd h2 (by omega)
  | k + 1, s, i, e, h1, h2, h => by
    unfold pBrL at h
    split at h
    · cases h
    · split at h
      · rename_i e' hc
        injection h with h; subst h; exact pRun_er h1 hc
      · rename_i f t j hc
        have h3 := pRun_lt hc
        split at h
        · injection h with h; subst h; exact er (by omega) hb
        · exact pBrL_er hb k _ j e (by omega) (by omega) h
theorem pSet_er {l : List UInt8} {i : Nat} (hi : i < l.length) {e : Nat × Nat} (h : pSet l i = .error e) : Er l e := by
  unfold pSet at h
  split at h
  · cases h
  · split at h
    · unfold pBr at h
      split at h
      · rename_i e' hc
        injection h with h; subst h
        refine pBrL_er (by omega) _ _ _ _ ?_ ?_ hc
        · split
          · rename_i h94
            have := nx_lt (l := l) (i := i + 1) (by omega)
            omega
          · omega
        · split <;> omega
      · rename_i s j hc
        generalize (if nx l (i + 1) = 94 then ~~~s else s) = s2 at h
        by_cases h2 : s2 = 0#256
        · rw [if_pos h2] at h
          injection h with h; subst h; exact er (by omega) (by omega)
        · rw [if_neg h2] at h; cases h
    · split at h
      · rename_i e' hc
        injection h with h; subst h; exact pChar_er (by omega) hc
      · cases h
theorem pNum_er {l : List UInt8} {i : Nat} (hi : i ≤ l.length) {e : Nat × Nat} (h : pNum l i = .error e) : Er l e := by
  unfold pNum at h
  split at h
  · injection h with h; subst h; exact er (by omega) hi
  · split at h
    · cases h
    · injection h with h; subst h; exact er (by omega) hi
theorem pTimes_er {l : List UInt8} {i : Nat} (hi : i < l.length) {e : Nat × Nat} (h : pTimes l i = .error e) : Er l e := by
  unfold pTimes at h
  split at h
  · cases h
  · split at h
    · cases h
    · split at h
      · cases h
      · unfold pBounds at h
        split at h
        · rename_i e' hc
          injection h with h; subst h; exact pNum_er (by omega) hc
        · rename_i lo j hc
          have h1 := pNum_lt hc
          split at h
          · have h2 := nx_lt (l := l) (i := j) (by omega)
            split at h
            · cases h
            · split at h
              · rename_i e' hd
                injection h with h; subst h; exact pNum_er (by omega) hd
              · rename_i hi2 k hd
                have h3 := pNum_lt hd
                split at h
                · injection h with h; subst h; exact er (by omega) (by omega)
                · split at h
                  · cases h
                  · injection h with h; subst h; exact er (by omega) (by omega)
          · split at h
            · cases h
            · injection h with h; subst h; exact er (by omega) (by omega)
theorem mkN_er {l : List UInt8} {t : RT} {i nd : Nat} (hi : i ≤ l.length) {e : Nat × Nat} (h : mkN t i nd = .error e) : Er l e := by
  unfold mkN at h
  split at h
  · cases h
  · injection h with h; subst h; exact er (by omega) hi
theorem joinN_er {l : List UInt8} {k : Int} {ks : List RT} {i nd : Nat} (hi : i ≤ l.length) {e : Nat × Nat} (h : joinN k ks i nd = .error e) : Er l e := by
  unfold joinN at h
  split at h
  · cases h
  · exact mkN_er hi h
def EEr (l : List UInt8) (E : Nat → Nat → NR RT) : Prop := (∀ i nd e, i ≤ l.length → E i nd = .error e → Er l e) ∧ ∀ i nd t j n, i ≤ l.length → E i nd = .ok (t, j, n) → i ≤ j ∧ j ≤ l.length
theorem pRepL_er {l : List UInt8} : ∀ (k : Nat) (t : RT) (i nd : Nat) (e : Nat × Nat), i ≤ l.length → l.length < k + i → pRepL l k t i nd = .error e → Er l e
  | 0, _, _, _, _, h1, h2, _ => absurd h2 (by omega)
  | k + 1, t, i, nd, e, h1, h2, h => by
    unfold pRepL at h
    split at h
    · rename_i hr
      have hil := isRep_lt hr
      split at h
      · rename_i e' hc
        injection h with h; subst h; exact pTimes_er hil hc
      · rename_i lo hi j hc
        have h3 := pTimes_lt hc
        have h4 := h3.2.1 hil
        split at h
        · rename_i e' hd
          injection h with h; subst h; exact mkN_er h4 hd
        · rename_i t' j' n' hd
          exact pRepL_er k _ j _ e h4 (by omega) h
    · cases h
theorem pRepL_in {l : List UInt8} : ∀ (k : Nat) (t : RT) (i nd : Nat) (t' : RT) (j n : Nat), i ≤ l.length → pRepL l k t i nd = .ok (t', j, n) → i ≤ j ∧ j ≤ l.length
  | 0, _, _, _, _, _, _, _, h => by cases h
  | k + 1, t, i, nd, t', j, n, h1, h => by
    unfold pRepL at h
    split at h
    · rename_i hr
      have hil := isRep_lt hr
      split at h
      · cases h
      · rename_i lo hi j1 hc
        have h3 := pTimes_lt hc
        have h4 := h3.2.1 hil
        split at h
        · cases h
        · rename_i t2 j2 n2 hd
          have := pRepL_in k _ j1 _ _ _ _ h4 h
          omega
    · simp only [Except.ok.injEq, Prod.mk.injEq] at h
      omega
theorem pOne_er {l : List UInt8} {E : Nat → Nat → NR RT} (hE : EEr l E) {i nd : Nat} (hi : i < l.length) {e : Nat × Nat} (h : pOne l E i nd = .error e) : Er l e := by
  unfold pOne at h
  split at h
  · split at h
    · rename_i e' hc
      injection h with h; subst h; exact hE.1 _ _ _ (by omega) hc
    · rename_i t j n hc
      have h1 := hE.2 _ _ _ _ _ (by omega) hc
      split at h
      · cases h
      · injection h with h; subst h; exact er (by omega) (by omega)
  · split at h
    · rename_i e' hc
      injection h with h; subst h; exact pSet_er hi hc
    · rename_i s j hc
      have := pSet_lt hc
      exact mkN_er (by omega) h
theorem pOne_in {l : List UInt8} {E : Nat → Nat → NR RT} (hE : EEr l E) {i nd : Nat} (hi : i < l.length) {t : RT} {j n : Nat} (h : pOne l E i nd = .ok (t, j, n)) : i < j ∧ j ≤ l.length := by
  unfold pOne at h
  split at h
  · split at h
    · cases h
    · rename_i t j1 n hc
      have h1 := hE.2 _ _ _ _ _ (by omega) hc
      split at h
      · have := nx_lt (l := l) (i := j1) (by omega)
        simp only [Except.ok.injEq, Prod.mk.injEq] at h
        omega
      · cases h
  · split at h
    · cases h
    · rename_i s j1 hc
      have := pSet_lt hc
      obtain ⟨_, h2, _, _⟩ := mkN_ok h
      omega
theorem pRep_er {l : List UInt8} {E : Nat → Nat → NR RT} (hE : EEr l E) {i nd : Nat} (hi : i < l.length) {e : Nat × Nat} (h : pRep l E i nd = .error e) : Er l e := by
  unfold pRep at h
  split at h
  · rename_i e' hc
    injection h with h; subst h; exact pOne_er hE hi hc
  · rename_i t j n hc
    have := pOne_in hE hi hc
    exact pRepL_er _ _ j _ e (by omega) (by omega) h
theorem pRep_in {l : List UInt8} {E : Nat → Nat → NR RT} (hE : EEr l E) {i nd : Nat} (hi : i < l.length) {t : RT} {j n : Nat} (h : pRep l E i nd = .ok (t, j, n)) : i < j ∧ j ≤ l.length := by
  unfold pRep at h
  split at h
  · cases h
  · rename_i t1 j1 n1 hc
    have h1 := pOne_in hE hi hc
    have h2 := pRepL_in _ _ j1 _ _ _ _ (by omega) h
    omega
theorem pCatL_er {l : List UInt8} {E : Nat → Nat → NR RT} (hE : EEr l E) : ∀ (k : Nat) (ks : List RT) (i nd : Nat) (e : Nat × Nat), i ≤ l.length → l.length < k + i → pCatL l E k ks i nd = .error e → Er l e
  | 0, _, _, _, _, h1, h2, _ => absurd h2 (by omega)
  | k + 1, ks, i, nd, e, h1, h2, h => by
    unfold pCatL at h
    split at h
    · rename_i hc
      split at h
      · rename_i e' hr
        injection h with h; subst h; exact pRep_er hE hc.1 hr
      · rename_i t j n hr
        have := pRep_in hE hc.1 hr
        exact pCatL_er hE k _ j _ e (by omega) (by omega) h
    · split at h
      · exact mkN_er h1 h
      · exact joinN_er h1 h
theorem joinN_in {k : Int} {ks : List RT} {i nd : Nat} {t : RT} {j n : Nat} (h : joinN k ks i nd = .ok (t, j, n)) : j = i := by
  unfold joinN at h
  split at h
  · simp only [Except.ok.injEq, Prod.mk.injEq] at h
    omega
  · exact (mkN_ok h).2.1
theorem pCatL_in {l : List UInt8} {E : Nat → Nat → NR RT} (hE : EEr l E) : ∀ (k : Nat) (ks : List RT) (i nd : Nat) (t : RT) (j n : Nat), i ≤ l.length → pCatL l E k ks i nd = .ok (t, j, n) → i ≤ j ∧ j ≤ l.length
  | 0, _, _, _, _, _, _, _, h => by cases h
  | k + 1, ks, i, nd, t, j, n, h1, h => by
    unfold pCatL at h
    split at h
    · rename_i hc
      split at h
      · cases h
      · rename_i t1 j1 n1 hr
        have h2 := pRep_in hE hc.1 hr
        have h3 := pCatL_in hE k _ j1 _ _ _ _ (by omega) h
        omega
    · split at h
      · have := (mkN_ok h).2.1
        omega
      · have := joinN_in h
        omega
theorem pEithL_er {l : List UInt8} {E : Nat → Nat → NR RT} (hE : EEr l E) : ∀ (k : Nat) (ks : List RT) (i nd : Nat) (e : Nat × Nat), i ≤ l.length → l.length < k + i → pEithL l E k ks i nd = .error e → Er l e
  | 0, _, _, _, _, h1, h2, _ => absurd h2 (by omega)
  | k + 1, ks, i, nd, e, h1, h2, h => by
    unfold pEithL at h
    split at h
    · rename_i e' hr
      injection h with h; subst h; exact pCatL_er hE _ _ _ _ _ h1 (by omega) hr
    · rename_i t j n hr
      have h3 := pCatL_in hE _ _ _ _ _ _ _ h1 hr
      split at h
      · have := nx_lt (l := l) (i := j) (by omega)
        exact pEithL_er hE k _ (j + 1) _ e (by omega) (by omega) h
      · exact joinN_er h3.2 h
theorem pEithL_in {l : List UInt8} {E : Nat → Nat → NR RT} (hE : EEr l E) : ∀ (k : Nat) (ks : List RT) (i nd : Nat) (t : RT) (j n : Nat), i ≤ l.length → pEithL l E k ks i nd = .ok (t, j, n) → i ≤ j ∧ j ≤ l.length
  | 0, _, _, _, _, _, _, _, h => by cases h
  | k + 1, ks, i, nd, t, j, n, h1, h => by
    unfold pEithL at h
    split at h
    · cases h
    · rename_i t1 j1 n1 hr
      have h3 := pCatL_in hE _ _ _ _ _ _ _ h1 hr
      split at h
      · have := nx_lt (l := l) (i := j1) (by omega)
        have h4 := pEithL_in hE k _ (j1 + 1) _ _ _ _ (by omega) h
        omega
      · have := joinN_in h
        omega
theorem pEither_er (l : List UInt8) : ∀ d, EEr l (pEither l d)
  | 0 => ⟨fun i nd e hi h => by
      have h : Except.error (6, i) = (Except.error e : NR RT) := h
      injection h with h
      subst h
      exact er (by omega) hi, fun i nd t j n _ h => by cases h⟩
  | d + 1 => ⟨fun i nd e hi h => pEithL_er (pEither_er l d) _ _ _ _ _ hi (by omega) h, fun i nd t j n hi h => pEithL_in (pEither_er l d) _ _ _ _ _ _ _ hi h⟩
/-- Whatever text: it is too long, at 0, or wrong in one of five ways, at a place within it. -/
theorem pParse_er {l : List UInt8} {e : Nat × Nat} (h : pParse l = .error e) : Er l e ∧ (l.length ≤ 512 ∨ e = (2, 0)) := by
  unfold pParse at h
  split at h
  · injection h with h; subst h; exact ⟨er (by omega) (by omega), .inr rfl⟩
  · refine ⟨?_, .inl (by omega)⟩
    split at h
    · rename_i e' hc
      injection h with h; subst h; exact (pEither_er l 33).1 _ _ _ (by omega) hc
    · split at h
      · injection h with h; subst h; exact er (by omega) (by omega)
      · cases h
end Go.Proofs.YtplldfbjbekdlaaDoor
