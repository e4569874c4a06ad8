/- regex: the texts of expressions, as a grammar: what Parse reads is one of them. Plain mathematics. -/
import Derived.Test.YtplldfbjbekdlaaDoorRx
namespace Go.Proofs.YtplldfbjbekdlaaDoor
set_option linter.unusedVariables false
set_option linter.unusedSimpArgs false

/-- The bytes from one place up to another. -/
def seg (l : List UInt8) (i j : Nat) : List UInt8 := (l.drop i).take (j - i)
theorem seg_app (l : List UInt8) {i j m : Nat} (h : i ≤ j) (k : j ≤ m) : seg l i m = seg l i j ++ seg l j m := by
  unfold seg
  have e : m - i = (j - i) + (m - j) := by omega
  rw [e, List.take_add, List.drop_drop, show i + (j - i) = j by omega]
theorem seg_nil (l : List UInt8) (i : Nat) : seg l i i = [] := by unfold seg; simp
theorem seg_one {l : List UInt8} {i : Nat} (h : i < l.length) : seg l i (i + 1) = [l[i]] := by
  unfold seg
  rw [List.drop_eq_getElem_cons h, show i + 1 - i = 1 by omega]
  rfl
theorem seg_len {l : List UInt8} {i j : Nat} (h : j ≤ l.length) : (seg l i j).length = j - i := by
  unfold seg
  rw [List.length_take, List.length_drop]
  omega
theorem seg_cons {l : List UInt8} {i j : Nat} (h : i < l.length) (hj : i < j) : seg l i j = l[i] :: seg l (i + 1) j := by
  rw [seg_app l (Nat.le_succ i) hj, seg_one h]
  rfl
theorem seg_snoc {l : List UInt8} {i j : Nat} (h : j < l.length) (hj : i ≤ j) : seg l i (j + 1) = seg l i j ++ [l[j]] := by
  rw [seg_app l hj (Nat.le_succ j), seg_one h]
theorem byte_of {l : List UInt8} {i n : Nat} (h : nx l i = n) (hn : n ≠ 0) : ∃ hi : i < l.length, l[i] = UInt8.ofNat n := by
  have hi := nx_lt (l := l) (i := i) (by omega)
  refine ⟨hi, ?_⟩
  rw [nx_at hi] at h
  rw [← h]
  exact (UInt8.ofNat_toNat).symm
/-- A byte's name. -/
inductive Ch : List UInt8 → Nat → Prop
  | plain {b : UInt8} : 32 ≤ b.toNat → b.toNat ≤ 126 → isSign b.toNat = false → Ch [b] b.toNat
  | esc {b : UInt8} {c : Nat} : (b.toNat = 110 ∧ c = 10 ∨ b.toNat = 114 ∧ c = 13 ∨ b.toNat = 116 ∧ c = 9 ∨ b.toNat = 48 ∧ c = 0 ∨ 33 ≤ b.toNat ∧ b.toNat ≤ 126 ∧ alnum b.toNat = false ∧ c = b.toNat) → Ch [92, b] c
  | hex {x y : UInt8} : 0 ≤ hexI x.toNat → 0 ≤ hexI y.toNat → Ch [92, 120, x, y] ((hexI x.toNat).toNat * 16 + (hexI y.toNat).toNat)
theorem nx_drop (l : List UInt8) (i k : Nat) : nx (l.drop i) k = nx l (i + k) := by
  unfold nx
  rw [List.getD_eq_getElem?_getD, List.getD_eq_getElem?_getD, List.getElem?_drop]
theorem ch_of {l : List UInt8} {i c j : Nat} (h : pChar l i = .ok (c, j)) : Ch (seg l i j) c := by
  have hlt := pChar_lt h
  unfold pChar at h
  split at h
  · rename_i h92
    obtain ⟨hi, hb⟩ := byte_of h92 (by decide)
    unfold pEsc at h
    split at h
    · cases h
    · rename_i hu
      simp only [Except.ok.injEq, Prod.mk.injEq] at h
      obtain ⟨h1, h2⟩ := h
      rw [seg_cons hi (by omega), hb, show UInt8.ofNat 92 = 92 from rfl]
      unfold unesc at h1 h2 hu
      have hd : ∀ k, nx (l.drop (i + 1)) k = nx l (i + 1 + k) := fun k => nx_drop l (i + 1) k
      rw [List.length_drop] at h1 h2 hu
      simp only [hd, Nat.add_zero] at h1 h2 hu
      by_cases hl : l.length - (i + 1) = 0
      · rw [if_pos hl] at hu; exact absurd rfl hu
      · have hi1 : i + 1 < l.length := by omega
        have hn := nx_at hi1
        rw [if_neg hl] at h1 h2 hu
        by_cases q1 : nx l (i + 1) = 110
        · rw [if_pos q1] at h1 h2
          subst h2
          subst h1
          rw [seg_one hi1]
          exact .esc (.inl ⟨by omega, rfl⟩)
        · rw [if_neg q1] at h1 h2 hu
          by_cases q2 : nx l (i + 1) = 114
          · rw [if_pos q2] at h1 h2
            subst h2
            subst h1
            rw [seg_one hi1]
            exact .esc (.inr (.inl ⟨by omega, rfl⟩))
          · rw [if_neg q2] at h1 h2 hu
            by_cases q3 : nx l (i + 1) = 116
            · rw [if_pos q3] at h1 h2
              subst h2
              subst h1
              rw [seg_one hi1]
              exact .esc (.inr (.inr (.inl ⟨by omega, rfl⟩)))
            · rw [if_neg q3] at h1 h2 hu
              by_cases q4 : nx l (i + 1) = 48
              · rw [if_pos q4] at h1 h2
                subst h2
                subst h1
                rw [seg_one hi1]
                exact .esc (.inr (.inr (.inr (.inl ⟨by omega, rfl⟩))))
              · rw [if_neg q4] at h1 h2 hu
                by_cases q5 : nx l (i + 1) = 120
                · rw [if_pos q5] at h1 h2 hu
                  unfold hexP at h1 h2 hu
                  rw [List.length_drop] at h1 h2 hu
                  simp only [hd] at h1 h2 hu
                  by_cases q6 : l.length - (i + 1) < 3
                  · rw [if_pos q6] at hu; exact absurd rfl hu
                  · rw [if_neg q6] at h1 h2 hu
                    by_cases q7 : hexI (nx l (i + 1 + 1)) < 0 ∨ hexI (nx l (i + 1 + 2)) < 0
                    · rw [if_pos q7] at hu; exact absurd rfl hu
                    · rw [if_neg q7] at h1 h2
                      subst h2
                      subst h1
                      obtain ⟨_, hb5⟩ := byte_of q5 (by decide)
                      have e : seg l (i + 1) (i + 1 + 3) = [120, l[i + 1 + 1]'(by omega), l[i + 1 + 2]'(by omega)] := by
                        rw [seg_cons hi1 (by omega), hb5, seg_cons (by omega) (by omega), seg_cons (by omega) (by omega), seg_nil]
                        rfl
                      rw [e, nx_at (show i + 1 + 1 < l.length by omega), nx_at (show i + 1 + 2 < l.length by omega)]
                      rw [nx_at (show i + 1 + 1 < l.length by omega), nx_at (show i + 1 + 2 < l.length by omega)] at q7
                      exact .hex (by omega) (by omega)
                · rw [if_neg q5] at h1 h2 hu
                  by_cases q6 : nx l (i + 1) ≤ 32 ∨ 126 < nx l (i + 1) ∨ alnum (nx l (i + 1)) = true
                  · rw [if_pos q6] at hu; exact absurd rfl hu
                  · rw [if_neg q6] at h1 h2
                    subst h2
                    subst h1
                    rw [seg_one hi1, hn]
                    rw [hn] at q6
                    refine .esc (.inr (.inr (.inr (.inr ⟨by omega, by omega, ?_, rfl⟩))))
                    cases ha : alnum l[i + 1].toNat with
                    | false => rfl
                    | true => exact absurd (.inr (.inr ha)) q6
  · split at h
    · cases h
    · rename_i h92 hs
      simp only [Except.ok.injEq, Prod.mk.injEq] at h
      obtain ⟨h1, h2⟩ := h
      subst h1
      subst h2
      have hi : i < l.length := by omega
      rw [seg_one hi, nx_at hi]
      rw [nx_at hi] at hs
      refine .plain (by omega) (by omega) ?_
      cases ha : isSign l[i].toNat with
      | false => rfl
      | true => exact absurd (.inr (.inr ha)) hs
/-- Some bytes in brackets: one, or from one up to another. -/
inductive Rn : List UInt8 → Nat → Nat → Prop
  | one {u : List UInt8} {c : Nat} : Ch u c → Rn u c c
  | two {u v : List UInt8} {c d : Nat} : Ch u c → Ch v d → Rn (u ++ 45 :: v) c d
theorem rn_of {l : List UInt8} {i f t j : Nat} (h : pRun l i = .ok ((f, t), j)) : Rn (seg l i j) f t := by
  unfold pRun at h
  cases hc : pChar l i with
  | error e => rw [hc] at h; cases h
  | ok v =>
    obtain ⟨c, m⟩ := v
    rw [hc] at h
    simp only at h
    have h1 := ch_of hc
    have l1 := pChar_lt hc
    split at h
    · rename_i h45
      cases hd : pChar l (m + 1) with
      | error e => rw [hd] at h; cases h
      | ok v =>
        obtain ⟨d, k⟩ := v
        rw [hd] at h
        simp only [Except.ok.injEq, Prod.mk.injEq] at h
        obtain ⟨⟨rfl, rfl⟩, rfl⟩ := h
        have l2 := pChar_lt hd
        obtain ⟨hm, hb⟩ := byte_of h45 (by decide)
        rw [seg_app l (show i ≤ m by omega) (show m ≤ k by omega), seg_cons hm (by omega), hb]
        exact .two h1 (ch_of hd)
    · simp only [Except.ok.injEq, Prod.mk.injEq] at h
      obtain ⟨⟨rfl, rfl⟩, rfl⟩ := h
      exact .one h1
/-- The bytes between brackets: one behind the other, put into a set that there was. -/
inductive Bs : List UInt8 → BS → BS → Prop
  | nil (s : BS) : Bs [] s s
  | cons {u r : List UInt8} {f t : Nat} {s s' : BS} : Rn u f t → f ≤ t → t < 256 → Bs r (s ||| rng f t) s' → Bs (u ++ r) s s'
theorem bs_of {l : List UInt8} {b : Nat} : ∀ {k : Nat} {s : BS} {i : Nat} {s' : BS} {j : Nat}, pBrL l b k s i = .ok (s', j) → ∃ m, j = m + 1 ∧ i ≤ m ∧ nx l m = 93 ∧ Bs (seg l i m) s s'
  | 0, _, _, _, _, h => by cases h
  | k + 1, s, i, s', j, h => by
    unfold pBrL at h
    split at h
    · rename_i h93
      simp only [Except.ok.injEq, Prod.mk.injEq] at h
      obtain ⟨rfl, rfl⟩ := h
      exact ⟨i, rfl, Nat.le_refl _, h93, by rw [seg_nil]; exact .nil _⟩
    · cases hr : pRun l i with
      | error e => rw [hr] at h; cases h
      | ok v =>
        obtain ⟨⟨f, t⟩, n⟩ := v
        rw [hr] at h
        simp only at h
        split at h
        · cases h
        · rename_i hft
          have hl := pRun_lt hr
          obtain ⟨m, e, h1, h2, h3⟩ := bs_of h
          refine ⟨m, e, by omega, h2, ?_⟩
          rw [seg_app l (show i ≤ n by omega) h1]
          exact .cons (rn_of hr) (by omega) hl.2.2.2 h3
end Go.Proofs.YtplldfbjbekdlaaDoor

/- regex: the texts of expressions, as a grammar: counts, pieces, expressions. Plain mathematics. -/
namespace Go.Proofs.YtplldfbjbekdlaaDoor
set_option linter.unusedVariables false
set_option linter.unusedSimpArgs false

/-- Digits of a number. -/
def Dg (d : List UInt8) (n : Nat) : Prop := (∀ c ∈ d, 48 ≤ c.toNat ∧ c.toNat ≤ 57) ∧ wrtB d = true ∧ valL d = n ∧ n ≤ 256
theorem dig_all {l : List UInt8} : ∀ (k i : Nat), ∀ c ∈ seg l i (digEnd l k i), 48 ≤ c.toNat ∧ c.toNat ≤ 57
  | 0, i, c, h => by
    unfold digEnd at h
    rw [seg_nil] at h
    cases h
  | k + 1, i, c, h => by
    unfold digEnd at h
    split at h
    · rename_i hd
      have hi := nx_lt (l := l) (i := i) (by omega)
      have hl := (digEnd_le (l := l) k (i + 1)).1
      rw [seg_cons hi (by omega)] at h
      rcases List.mem_cons.1 h with rfl | h
      · rw [nx_at hi] at hd
        exact hd
      · exact dig_all k (i + 1) c h
    · rw [seg_nil] at h
      cases h
theorem dg_of {l : List UInt8} {i n j : Nat} (h : pNum l i = .ok (n, j)) : Dg (seg l i j) n := by
  unfold pNum at h
  split at h
  · cases h
  · rename_i hw
    split at h
    · rename_i hv
      simp only [Except.ok.injEq, Prod.mk.injEq] at h
      obtain ⟨h1, h2⟩ := h
      have e : digs l i = seg l i j := by unfold digs seg; rw [h2]
      rw [e] at hw hv h1
      refine ⟨?_, by simpa using hw, h1, by omega⟩
      rw [← h2]
      exact dig_all _ _
    · cases h
/-- How often. -/
inductive Ct : List UInt8 → Nat → Int → Prop
  | star : Ct [42] 0 (-1)
  | plus : Ct [43] 1 (-1)
  | quest : Ct [63] 0 1
  | just {d : List UInt8} {n : Nat} : Dg d n → Ct (123 :: (d ++ [125])) n n
  | up {d : List UInt8} {n : Nat} : Dg d n → Ct (123 :: (d ++ [44, 125])) n (-1)
  | to {d e : List UInt8} {n m : Nat} : Dg d n → Dg e m → n ≤ m → Ct (123 :: (d ++ 44 :: (e ++ [125]))) n m
theorem ct_of {l : List UInt8} {i lo : Nat} {hi : Int} {j : Nat} (hr : isRep (nx l i) = true) (h : pTimes l i = .ok ((lo, hi), j)) : Ct (seg l i j) lo hi := by
  have hil := isRep_lt hr
  have hlt := pTimes_lt h
  unfold pTimes at h
  split at h
  · rename_i q
    obtain ⟨hi', hb⟩ := byte_of q (by decide)
    simp only [Except.ok.injEq, Prod.mk.injEq] at h
    obtain ⟨⟨rfl, rfl⟩, rfl⟩ := h
    rw [seg_one hil, hb]
    exact .star
  · split at h
    · rename_i q
      obtain ⟨hi', hb⟩ := byte_of q (by decide)
      simp only [Except.ok.injEq, Prod.mk.injEq] at h
      obtain ⟨⟨rfl, rfl⟩, rfl⟩ := h
      rw [seg_one hil, hb]
      exact .plus
    · split at h
      · rename_i q
        obtain ⟨hi', hb⟩ := byte_of q (by decide)
        simp only [Except.ok.injEq, Prod.mk.injEq] at h
        obtain ⟨⟨rfl, rfl⟩, rfl⟩ := h
        rw [seg_one hil, hb]
        exact .quest
      · rename_i q1 q2 q3
        have q4 : nx l i = 123 := by
          unfold isRep at hr
          have hb := nx_byte l i
          revert hr q1 q2 q3
          generalize nx l i = x at *
          intro hr q1 q2 q3
          have : ∀ x : Fin 256, decide (0 ≤ firstIdx rxReps (x.1).toUInt8) = true → x.1 = 42 ∨ x.1 = 43 ∨ x.1 = 63 ∨ x.1 = 123 := by decide +kernel
          rcases this ⟨x, hb⟩ hr with h | h | h | h
          · exact absurd h q1
          · exact absurd h q2
          · exact absurd h q3
          · exact h
        obtain ⟨_, hb⟩ := byte_of q4 (by decide)
        unfold pBounds at h
        cases hn : pNum l (i + 1) with
        | error e => rw [hn] at h; cases h
        | ok v =>
          obtain ⟨a, m⟩ := v
          rw [hn] at h
          simp only at h
          have d1 := dg_of hn
          have l1 := pNum_lt hn
          split at h
          · rename_i q
            obtain ⟨hm, hbm⟩ := byte_of q (by decide)
            split at h
            · rename_i q5
              obtain ⟨hm5, hbm5⟩ := byte_of q5 (by decide)
              simp only [Except.ok.injEq, Prod.mk.injEq] at h
              obtain ⟨⟨rfl, rfl⟩, rfl⟩ := h
              rw [seg_cons hil (by omega), hb, seg_app l (show i + 1 ≤ m by omega) (show m ≤ m + 2 by omega), seg_cons hm (by omega), seg_one hm5, hbm, hbm5]
              exact .up d1
            · cases hn2 : pNum l (m + 1) with
              | error e => rw [hn2] at h; cases h
              | ok v =>
                obtain ⟨b, k⟩ := v
                rw [hn2] at h
                simp only at h
                have d2 := dg_of hn2
                have l2 := pNum_lt hn2
                split at h
                · cases h
                · rename_i hab
                  split at h
                  · rename_i q6
                    obtain ⟨hk, hbk⟩ := byte_of q6 (by decide)
                    simp only [Except.ok.injEq, Prod.mk.injEq] at h
                    obtain ⟨⟨rfl, rfl⟩, rfl⟩ := h
                    rw [seg_cons hil (by omega), hb, seg_app l (show i + 1 ≤ m by omega) (show m ≤ k + 1 by omega), seg_cons hm (by omega), seg_snoc hk (by omega), hbm, hbk]
                    exact .to d1 d2 (by omega)
                  · cases h
          · split at h
            · rename_i q
              obtain ⟨hm, hbm⟩ := byte_of q (by decide)
              simp only [Except.ok.injEq, Prod.mk.injEq] at h
              obtain ⟨⟨rfl, rfl⟩, rfl⟩ := h
              rw [seg_cons hil (by omega), hb, seg_snoc hm (by omega), hbm]
              exact .just d1
            · cases h
/-- A piece; what stands in brackets is A. -/
inductive Pc (A : List UInt8 → RT → Prop) : List UInt8 → RT → Prop
  | dot : Pc A [46] (.nd 2 (~~~(0#256)) [] 0 0)
  | chr {u : List UInt8} {c : Nat} : Ch u c → u.head? ≠ some 46 → Pc A u (.nd 2 (bit c) [] 0 0)
  | set {u : List UInt8} {s : BS} : Bs u (0#256) s → u.head? ≠ some 94 → s ≠ 0#256 → Pc A (91 :: (u ++ [93])) (.nd 2 s [] 0 0)
  | not {u : List UInt8} {s : BS} : Bs u (0#256) s → Pc A (91 :: 94 :: (u ++ [93])) (.nd 2 (~~~s) [] 0 0)
  | par {u : List UInt8} {t : RT} : A u t → Pc A (40 :: (u ++ [41])) t
/-- A piece, so often and so often. -/
inductive Rp (A : List UInt8 → RT → Prop) : List UInt8 → RT → Prop
  | pc {u : List UInt8} {t : RT} : Pc A u t → Rp A u t
  | ct {u v : List UInt8} {t : RT} {lo : Nat} {hi : Int} : Rp A u t → Ct v lo hi → Rp A (u ++ v) (.nd 5 (0#256) [t] lo hi)
/-- Pieces, one behind the other. -/
inductive Ca (A : List UInt8 → RT → Prop) : List UInt8 → List RT → Prop
  | nil : Ca A [] []
  | snoc {u v : List UInt8} {ks : List RT} {t : RT} : Ca A u ks → Rp A v t → Ca A (u ++ v) (ks ++ [t])
def catT (ks : List RT) : RT := match ks with | [] => .nd 1 (0#256) [] 0 0 | [t] => t | _ => .nd 3 (0#256) ks 0 0
def altT (ks : List RT) : RT := match ks with | [t] => t | _ => .nd 4 (0#256) ks 0 0
/-- What stands between bars. -/
inductive Aa (A : List UInt8 → RT → Prop) : List UInt8 → List RT → Prop
  | one {u : List UInt8} {ks : List RT} : Ca A u ks → Aa A u [catT ks]
  | more {u v : List UInt8} {ts ks : List RT} : Aa A u ts → Ca A v ks → Aa A (u ++ 124 :: v) (ts ++ [catT ks])
/-- An expression, so deep. -/
def Ad : Nat → List UInt8 → RT → Prop
  | 0 => fun _ _ => False
  | d + 1 => fun u t => ∃ ts, Aa (Ad d) u ts ∧ t = altT ts
/-- What a reader of expressions answers, from a place on. -/
def Rd1 (l : List UInt8) (A : List UInt8 → RT → Prop) (E : Nat → Nat → NR RT) : Prop := ∀ i nd t j nd', i ≤ l.length → E i nd = .ok (t, j, nd') → i ≤ j ∧ j ≤ l.length ∧ A (seg l i j) t
theorem pc_of {l : List UInt8} {A : List UInt8 → RT → Prop} {E : Nat → Nat → NR RT} (hE : Rd1 l A E) {i nd : Nat} {t : RT} {j nd' : Nat} (h : pOne l E i nd = .ok (t, j, nd')) : i < j ∧ j ≤ l.length ∧ Pc A (seg l i j) t := by
  unfold pOne at h
  split at h
  · rename_i q
    obtain ⟨hi, hb⟩ := byte_of q (by decide)
    cases he : E (i + 1) nd with
    | error e => rw [he] at h; cases h
    | ok v =>
      obtain ⟨t', m, n'⟩ := v
      rw [he] at h
      simp only at h
      obtain ⟨h1, h2, h3⟩ := hE _ _ _ _ _ (by omega) he
      split at h
      · rename_i q2
        obtain ⟨hm, hbm⟩ := byte_of q2 (by decide)
        simp only [Except.ok.injEq, Prod.mk.injEq] at h
        obtain ⟨rfl, rfl, rfl⟩ := h
        refine ⟨by omega, by omega, ?_⟩
        rw [seg_cons hi (by omega), hb, seg_snoc hm h1, hbm]
        exact .par h3
      · cases h
  · cases hs : pSet l i with
    | error e => rw [hs] at h; cases h
    | ok v =>
      obtain ⟨s, m⟩ := v
      rw [hs] at h
      simp only at h
      obtain ⟨rfl, rfl, _, _⟩ := mkN_ok h
      have hl := pSet_lt hs
      refine ⟨hl.1, hl.2, ?_⟩
      unfold pSet at hs
      split at hs
      · rename_i q
        obtain ⟨hi, hb⟩ := byte_of q (by decide)
        simp only [Except.ok.injEq, Prod.mk.injEq] at hs
        obtain ⟨rfl, rfl⟩ := hs
        rw [seg_one hi, hb]
        exact .dot
      · rename_i q46
        split at hs
        · rename_i q
          obtain ⟨hi, hb⟩ := byte_of q (by decide)
          unfold pBr at hs
          by_cases q9 : nx l (i + 1) = 94
          · simp only [if_pos q9] at hs
            cases hbr : pBrL l i (l.length + 1) (0#256) (i + 2) with
            | error e => rw [hbr] at hs; cases hs
            | ok v =>
              obtain ⟨s0, m0⟩ := v
              rw [hbr] at hs
              simp only at hs
              split at hs
              · cases hs
              · simp only [Except.ok.injEq, Prod.mk.injEq] at hs
                obtain ⟨rfl, rfl⟩ := hs
                obtain ⟨m1, e, h1, h2, h3⟩ := bs_of hbr
                obtain ⟨hi9, hb9⟩ := byte_of q9 (by decide)
                obtain ⟨hm, hbm⟩ := byte_of h2 (by decide)
                subst e
                rw [seg_cons hi (by omega), hb, seg_cons hi9 (by omega), hb9, seg_snoc hm (by omega), hbm]
                exact .not h3
          · simp only [if_neg q9] at hs
            cases hbr : pBrL l i (l.length + 1) (0#256) (i + 1) with
            | error e => rw [hbr] at hs; cases hs
            | ok v =>
              obtain ⟨s0, m0⟩ := v
              rw [hbr] at hs
              simp only at hs
              split at hs
              · cases hs
              · rename_i hne
                simp only [Except.ok.injEq, Prod.mk.injEq] at hs
                obtain ⟨rfl, rfl⟩ := hs
                obtain ⟨m1, e, h1, h2, h3⟩ := bs_of hbr
                obtain ⟨hm, hbm⟩ := byte_of h2 (by decide)
                subst e
                rw [seg_cons hi (by omega), hb, seg_snoc hm (by omega), hbm]
                refine .set h3 ?_ hne
                intro hh
                rcases Nat.eq_or_lt_of_le h1 with e | e
                · rw [e, seg_nil] at hh; cases hh
                · rw [seg_cons (by omega) e] at hh
                  injection hh with hh
                  refine q9 ?_
                  rw [nx_at (by omega), hh]
                  rfl
        · cases hc : pChar l i with
          | error e => rw [hc] at hs; cases hs
          | ok v =>
            obtain ⟨c, n⟩ := v
            rw [hc] at hs
            simp only [Except.ok.injEq, Prod.mk.injEq] at hs
            obtain ⟨rfl, rfl⟩ := hs
            refine .chr (ch_of hc) ?_
            rw [seg_cons (by omega) hl.1]
            intro hh
            injection hh with hh
            refine q46 ?_
            rw [nx_at (by omega), hh]
            rfl
theorem rp_of {l : List UInt8} {A : List UInt8 → RT → Prop} {i : Nat} : ∀ {k : Nat} {t : RT} {m nd : Nat} {t' : RT} {j nd' : Nat}, i ≤ m → Rp A (seg l i m) t → m ≤ l.length → pRepL l k t m nd = .ok (t', j, nd') → m ≤ j ∧ j ≤ l.length ∧ Rp A (seg l i j) t'
  | 0, _, _, _, _, _, _, _, _, _, h => by cases h
  | k + 1, t, m, nd, t', j, nd', hm, hr, hl, h => by
    unfold pRepL at h
    split at h
    · rename_i q
      cases ht : pTimes l m with
      | error e => rw [ht] at h; cases h
      | ok v =>
        obtain ⟨⟨lo, hi⟩, n⟩ := v
        rw [ht] at h
        simp only at h
        have hlt := pTimes_lt ht
        have hml := isRep_lt q
        have hct := ct_of q ht
        cases hk : mkN (.nd 5 (0#256) [t] lo hi) n nd with
        | error e => rw [hk] at h; cases h
        | ok v =>
          obtain ⟨t2, n2, nd2⟩ := v
          rw [hk] at h
          simp only at h
          obtain ⟨rfl, rfl, _, _⟩ := mkN_ok hk
          have hr2 : Rp A (seg l i n2) (.nd 5 (0#256) [t] lo hi) := by
            rw [seg_app l hm (show m ≤ n2 by omega)]
            exact .ct hr hct
          obtain ⟨h1, h2, h3⟩ := rp_of (by omega) hr2 (hlt.2.1 hml) h
          exact ⟨by omega, h2, h3⟩
    · simp only [Except.ok.injEq, Prod.mk.injEq] at h
      obtain ⟨rfl, rfl, rfl⟩ := h
      exact ⟨Nat.le_refl _, hl, hr⟩
theorem rep_of {l : List UInt8} {A : List UInt8 → RT → Prop} {E : Nat → Nat → NR RT} (hE : Rd1 l A E) {i nd : Nat} {t : RT} {j nd' : Nat} (h : pRep l E i nd = .ok (t, j, nd')) : i < j ∧ j ≤ l.length ∧ Rp A (seg l i j) t := by
  unfold pRep at h
  cases ho : pOne l E i nd with
  | error e => rw [ho] at h; cases h
  | ok v =>
    obtain ⟨t1, m, n1⟩ := v
    rw [ho] at h
    simp only at h
    obtain ⟨h1, h2, h3⟩ := pc_of hE ho
    obtain ⟨h4, h5, h6⟩ := rp_of (by omega) (.pc h3) h2 h
    exact ⟨by omega, h5, h6⟩
end Go.Proofs.YtplldfbjbekdlaaDoor

/- regex: the texts of expressions, as a grammar: what Parse reads is one. Plain mathematics. -/
namespace Go.Proofs.YtplldfbjbekdlaaDoor
set_option linter.unusedVariables false
set_option linter.unusedSimpArgs false

theorem join_cat {ks : List RT} {i nd : Nat} {t : RT} {j n : Nat} (h : (if ks.isEmpty = true then mkN (.nd 1 (0#256) [] 0 0) i nd else joinN 3 ks i nd) = .ok (t, j, n)) : t = catT ks ∧ j = i := by
  cases ks with
  | nil =>
    have h : mkN (.nd 1 (0#256) [] 0 0) i nd = .ok (t, j, n) := h
    obtain ⟨rfl, rfl, _, _⟩ := mkN_ok h
    exact ⟨rfl, rfl⟩
  | cons a r =>
    rw [if_neg (by simp)] at h
    cases r with
    | nil =>
      simp only [joinN, Except.ok.injEq, Prod.mk.injEq] at h
      obtain ⟨rfl, rfl, rfl⟩ := h
      exact ⟨rfl, rfl⟩
    | cons b r =>
      have h : mkN (.nd 3 (0#256) (a :: b :: r) 0 0) i nd = .ok (t, j, n) := h
      obtain ⟨rfl, rfl, _, _⟩ := mkN_ok h
      exact ⟨rfl, rfl⟩
theorem join_alt {ks : List RT} (hk : ks ≠ []) {i nd : Nat} {t : RT} {j n : Nat} (h : joinN 4 ks i nd = .ok (t, j, n)) : t = altT ks ∧ j = i := by
  cases ks with
  | nil => exact absurd rfl hk
  | cons a r =>
    cases r with
    | nil =>
      simp only [joinN, Except.ok.injEq, Prod.mk.injEq] at h
      obtain ⟨rfl, rfl, rfl⟩ := h
      exact ⟨rfl, rfl⟩
    | cons b r =>
      have h : mkN (.nd 4 (0#256) (a :: b :: r) 0 0) i nd = .ok (t, j, n) := h
      obtain ⟨rfl, rfl, _, _⟩ := mkN_ok h
      exact ⟨rfl, rfl⟩
theorem ca_of {l : List UInt8} {A : List UInt8 → RT → Prop} {E : Nat → Nat → NR RT} (hE : Rd1 l A E) {i0 : Nat} : ∀ {k : Nat} {ks : List RT} {i nd : Nat} {t : RT} {j n : Nat}, i0 ≤ i → i ≤ l.length → Ca A (seg l i0 i) ks → pCatL l E k ks i nd = .ok (t, j, n) → i ≤ j ∧ j ≤ l.length ∧ ∃ ks', t = catT ks' ∧ Ca A (seg l i0 j) ks'
  | 0, _, _, _, _, _, _, _, _, _, h => by cases h
  | k + 1, ks, i, nd, t, j, n, h0, hl, hc, h => by
    unfold pCatL at h
    split at h
    · cases hr : pRep l E i nd with
      | error e => rw [hr] at h; cases h
      | ok v =>
        obtain ⟨t1, m, n1⟩ := v
        rw [hr] at h
        simp only at h
        obtain ⟨h1, h2, h3⟩ := rep_of hE hr
        have hc2 : Ca A (seg l i0 m) (ks ++ [t1]) := by
          rw [seg_app l h0 (show i ≤ m by omega)]
          exact .snoc hc h3
        obtain ⟨h4, h5, h6⟩ := ca_of hE (by omega) h2 hc2 h
        exact ⟨by omega, h5, h6⟩
    · obtain ⟨rfl, rfl⟩ := join_cat h
      exact ⟨Nat.le_refl _, hl, ks, rfl, hc⟩
theorem aa_of {l : List UInt8} {A : List UInt8 → RT → Prop} {E : Nat → Nat → NR RT} (hE : Rd1 l A E) {i0 : Nat} : ∀ {k : Nat} {ts : List RT} {i nd : Nat} {t : RT} {j n : Nat}, i ≤ l.length → ((ts = [] ∧ i = i0) ∨ (i0 < i ∧ nx l (i - 1) = 124 ∧ Aa A (seg l i0 (i - 1)) ts)) → pEithL l E k ts i nd = .ok (t, j, n) → i ≤ j ∧ j ≤ l.length ∧ ∃ ts', t = altT ts' ∧ Aa A (seg l i0 j) ts'
  | 0, _, _, _, _, _, _, _, _, h => by cases h
  | k + 1, ts, i, nd, t, j, n, hl, hs, h => by
    unfold pEithL at h
    cases hc : pCatL l E (l.length + 1) [] i nd with
    | error e => rw [hc] at h; cases h
    | ok v =>
      obtain ⟨t1, m, n1⟩ := v
      rw [hc] at h
      simp only at h
      obtain ⟨h1, h2, ks, rfl, h3⟩ := ca_of hE (Nat.le_refl _) hl (by rw [seg_nil]; exact .nil) hc
      have ha : Aa A (seg l i0 m) (ts ++ [catT ks]) := by
        rcases hs with ⟨rfl, rfl⟩ | ⟨q1, q2, q3⟩
        · exact .one h3
        · obtain ⟨hq, hb⟩ := byte_of q2 (by decide)
          rw [seg_app l (show i0 ≤ i - 1 by omega) (show i - 1 ≤ m by omega), seg_cons hq (by omega), hb, show i - 1 + 1 = i by omega]
          exact .more q3 h3
      split at h
      · rename_i q
        have hm := nx_lt (l := l) (i := m) (by omega)
        have hi0 : i0 ≤ i := by rcases hs with ⟨_, rfl⟩ | ⟨q, _⟩ <;> omega
        obtain ⟨h4, h5, h6⟩ := aa_of hE (i0 := i0) (by omega) (.inr ⟨by omega, by rw [Nat.add_sub_cancel]; exact q, by rw [Nat.add_sub_cancel]; exact ha⟩) h
        exact ⟨by omega, h5, h6⟩
      · obtain ⟨rfl, rfl⟩ := join_alt (by simp) h
        exact ⟨h1, h2, _, rfl, ha⟩
theorem either_of (l : List UInt8) : ∀ d, Rd1 l (Ad d) (pEither l d)
  | 0 => fun i nd t j n _ h => by cases h
  | d + 1 => fun i nd t j n hi h => by
    unfold pEither at h
    obtain ⟨h1, h2, ts, e, h3⟩ := aa_of (either_of l d) (i0 := i) hi (.inl ⟨rfl, rfl⟩) h
    exact ⟨h1, h2, ts, h3, e⟩
/-- A text that Parse reads is one of the grammar, as the tree that it answers. -/
theorem parse_of {l : List UInt8} {t : RT} (h : pParse l = .ok t) : Ad 33 l t := by
  unfold pParse at h
  split at h
  · cases h
  · cases he : pEither l 33 0 0 with
    | error e => rw [he] at h; cases h
    | ok v =>
      obtain ⟨t1, i, n⟩ := v
      rw [he] at h
      simp only at h
      obtain ⟨h1, h2, h3⟩ := either_of l 33 _ _ _ _ _ (Nat.zero_le _) he
      split at h
      · cases h
      · injection h with h
        subst h
        have e : i = l.length := by omega
        have : seg l 0 i = l := by unfold seg; rw [e, List.drop_zero, Nat.sub_zero, List.take_length]
        rw [this] at h3
        exact h3
end Go.Proofs.YtplldfbjbekdlaaDoor

/- regex: the reference's Skip as a function, and that it goes past a piece. Plain mathematics. -/
namespace Go.Proofs.YtplldfbjbekdlaaDoor
set_option linter.unusedVariables false
set_option linter.unusedSimpArgs false

/-- From a place on, skip by skip, up to a byte; how many bytes with it. -/
def lpT (S : List UInt8 → Option Nat) (cl : Nat) (s : List UInt8) : Nat → Nat → Option Nat
  | 0, _ => none
  | k + 1, n => if s.length ≤ n then none else if nx s n = cl then some (n + 1) else match S (s.drop n) with
    | none => none
    | some m => lpT S cl s k (n + m)
/-- How many bytes the first piece of a text has; none: it would not end well. -/
def skP : Nat → List UInt8 → Option Nat
  | 0, _ => none
  | d + 1, s => if s.length = 0 then none else if nx s 0 = 92 then (if s.length = 1 then none else if nx s 1 = 120 then (if s.length < 4 then none else some 4) else some 2) else if nx s 0 = 91 then lpT (skP d) 93 s (s.length + 1) 1 else if nx s 0 = 40 then lpT (skP d) 41 s (s.length + 1) 1 else some 1
theorem lpT_le {S : List UInt8 → Option Nat} (hS : ∀ t m, S t = some m → 1 ≤ m ∧ m ≤ t.length) {cl : Nat} {s : List UInt8} : ∀ (k n m : Nat), lpT S cl s k n = some m → n + 1 ≤ m ∧ m ≤ s.length
  | 0, _, _, h => by cases h
  | k + 1, n, m, h => by
    unfold lpT at h
    split at h
    · cases h
    · split at h
      · injection h with h
        omega
      · cases hs : S (s.drop n) with
        | none => rw [hs] at h; cases h
        | some j =>
          rw [hs] at h
          have := hS _ _ hs
          rw [List.length_drop] at this
          have := lpT_le hS k _ _ h
          omega
theorem skP_le : ∀ (d : Nat) (s : List UInt8) (m : Nat), skP d s = some m → 1 ≤ m ∧ m ≤ s.length
  | 0, _, _, h => by cases h
  | d + 1, s, m, h => by
    unfold skP at h
    split at h
    · cases h
    · split at h
      · split at h
        · cases h
        · split at h
          · split at h
            · cases h
            · injection h with h
              omega
          · injection h with h
            omega
      · split at h
        · have := lpT_le (skP_le d) _ _ _ h
          omega
        · split at h
          · have := lpT_le (skP_le d) _ _ _ h
            omega
          · injection h with h
            omega
/-- Units that are gone past, one by one; none begins with a byte. -/
inductive Us (S : List UInt8 → Option Nat) (cl : Nat) : List UInt8 → Prop
  | nil : Us S cl []
  | cons {b : UInt8} {x u : List UInt8} : b.toNat ≠ cl → (∀ r, S (b :: x ++ r) = some (x.length + 1)) → Us S cl u → Us S cl (b :: x ++ u)
theorem Us.app {S : List UInt8 → Option Nat} {cl : Nat} {u v : List UInt8} (h : Us S cl u) (k : Us S cl v) : Us S cl (u ++ v) := by
  induction h with
  | nil => exact k
  | cons h1 h2 _ ih =>
    rw [List.append_assoc]
    exact .cons h1 h2 ih
theorem nx_app {pre s : List UInt8} : nx (pre ++ s) pre.length = nx s 0 := by
  unfold nx
  rw [List.getD_eq_getElem?_getD, List.getD_eq_getElem?_getD, List.getElem?_append_right (Nat.le_refl _), Nat.sub_self]
theorem lp_us {S : List UInt8 → Option Nat} {cl : UInt8} {u : List UInt8} (h : Us S cl.toNat u) : ∀ (pre r : List UInt8) (k : Nat), u.length < k → lpT S cl.toNat (pre ++ (u ++ cl :: r)) k pre.length = some (pre.length + u.length + 1) := by
  induction h with
  | nil =>
    intro pre r k hk
    obtain ⟨q, rfl⟩ : ∃ q, k = q + 1 := ⟨k - 1, by simp at hk; omega⟩
    unfold lpT
    rw [if_neg (by simp), nx_app, if_pos (show nx ([] ++ cl :: r) 0 = cl.toNat from rfl)]
    rfl
  | @cons b x u h1 h2 h3 ih =>
    intro pre r k hk
    obtain ⟨q, rfl⟩ : ∃ q, k = q + 1 := ⟨k - 1, by simp at hk; omega⟩
    unfold lpT
    have e : b :: x ++ u ++ cl :: r = b :: x ++ (u ++ cl :: r) := List.append_assoc _ _ _
    rw [if_neg (by simp), nx_app, if_neg (show ¬ nx (b :: x ++ u ++ cl :: r) 0 = cl.toNat from h1), List.drop_left, e, h2]
    simp only
    have e2 : pre ++ (b :: x ++ (u ++ cl :: r)) = (pre ++ b :: x) ++ (u ++ cl :: r) := (List.append_assoc _ _ _).symm
    have hl : pre.length + (x.length + 1) = (pre ++ b :: x).length := by simp
    rw [e2, hl, ih (pre ++ b :: x) r q (by simp at hk; omega)]
    simp
    omega
theorem sign_bytes : ∀ b : Fin 256, isSign b.1 = false → b.1 ≠ 92 ∧ b.1 ≠ 91 ∧ b.1 ≠ 93 ∧ b.1 ≠ 40 ∧ b.1 ≠ 41 ∧ b.1 ≠ 124 ∧ b.1 ≠ 42 ∧ b.1 ≠ 43 ∧ b.1 ≠ 63 ∧ b.1 ≠ 123 ∧ b.1 ≠ 125 ∧ b.1 ≠ 94 ∧ b.1 ≠ 45 := by decide +kernel
theorem sign_byte {b : UInt8} (h : isSign b.toNat = false) : b.toNat ≠ 92 ∧ b.toNat ≠ 91 ∧ b.toNat ≠ 93 ∧ b.toNat ≠ 40 ∧ b.toNat ≠ 41 ∧ b.toNat ≠ 124 ∧ b.toNat ≠ 42 ∧ b.toNat ≠ 43 ∧ b.toNat ≠ 63 ∧ b.toNat ≠ 123 ∧ b.toNat ≠ 125 ∧ b.toNat ≠ 94 ∧ b.toNat ≠ 45 :=
  sign_bytes ⟨b.toNat, UInt8.toNat_lt b⟩ h
/-- A byte that stands for itself, wherever. -/
theorem sk_byte {b : UInt8} (h : b.toNat ≠ 92 ∧ b.toNat ≠ 91 ∧ b.toNat ≠ 40) (d : Nat) (r : List UInt8) : skP (d + 1) (b :: r) = some 1 := by
  unfold skP
  have e : nx (b :: r) 0 = b.toNat := rfl
  rw [if_neg (by simp), e, if_neg h.1, if_neg h.2.1, if_neg h.2.2]
/-- How a byte's name begins, and that it is gone past. -/
theorem ch_skip {u : List UInt8} {c : Nat} (h : Ch u c) : ∃ b x, u = b :: x ∧ b.toNat ≠ 93 ∧ b.toNat ≠ 41 ∧ b.toNat ≠ 124 ∧ b.toNat ≠ 91 ∧ b.toNat ≠ 40 ∧ b.toNat ≠ 94 ∧ b.toNat ≠ 42 ∧ b.toNat ≠ 43 ∧ b.toNat ≠ 63 ∧ b.toNat ≠ 123 ∧ b.toNat ≠ 45 ∧ ∀ d r, skP (d + 1) (b :: x ++ r) = some (x.length + 1) := by
  cases h with
  | @plain b h1 h2 h3 =>
    obtain ⟨q1, q2, q3, q4, q5, q6, q7, q8, q9, q10, q11, q12, q13⟩ := sign_byte h3
    exact ⟨b, [], rfl, q3, q5, q6, q2, q4, q12, q7, q8, q9, q10, q13, fun d r => sk_byte ⟨q1, q2, q4⟩ d r⟩
  | @esc b c h =>
    refine ⟨92, [b], rfl, by decide, by decide, by decide, by decide, by decide, by decide, by decide, by decide, by decide, by decide, by decide, fun d r => ?_⟩
    have hb : b.toNat ≠ 120 := by
      intro e
      rw [e] at h
      have ha : alnum 120 = true := by decide
      rw [ha] at h
      rcases h with h | h | h | h | h
      · omega
      · omega
      · omega
      · omega
      · exact absurd h.2.2.1 (by decide)
    unfold skP
    rw [if_neg (by simp), if_pos (show nx ([92, b] ++ r) 0 = 92 from rfl), if_neg (by simp), if_neg (show ¬ nx ([92, b] ++ r) 1 = 120 from hb)]
    rfl
  | @hex x y h1 h2 =>
    refine ⟨92, [120, x, y], rfl, by decide, by decide, by decide, by decide, by decide, by decide, by decide, by decide, by decide, by decide, by decide, fun d r => ?_⟩
    unfold skP
    rw [if_neg (by simp), if_pos (show nx ([92, 120, x, y] ++ r) 0 = 92 from rfl), if_neg (by simp), if_pos (show nx ([92, 120, x, y] ++ r) 1 = 120 from rfl), if_neg (by simp)]
    rfl
theorem us_one {S : List UInt8 → Option Nat} {cl : Nat} {b : UInt8} {x : List UInt8} (h1 : b.toNat ≠ cl) (h2 : ∀ r, S (b :: x ++ r) = some (x.length + 1)) : Us S cl (b :: x) := by
  have := Us.cons h1 h2 (.nil (S := S) (cl := cl))
  rwa [List.append_nil] at this
theorem us_bytes {d cl : Nat} : ∀ u : List UInt8, (∀ b ∈ u, b.toNat ≠ cl ∧ b.toNat ≠ 92 ∧ b.toNat ≠ 91 ∧ b.toNat ≠ 40) → Us (skP (d + 1)) cl u
  | [], _ => .nil
  | b :: u, h => by
    have hb := h b (by simp)
    exact Us.cons (x := []) hb.1 (fun r => sk_byte hb.2 d r) (us_bytes u (fun c hc => h c (List.mem_cons_of_mem _ hc)))
theorem us_rn {u : List UInt8} {f t : Nat} (h : Rn u f t) (d : Nat) : Us (skP (d + 1)) 93 u := by
  cases h with
  | one h =>
    obtain ⟨b, x, rfl, q1, _, _, _, _, _, _, _, _, _, _, q2⟩ := ch_skip h
    exact us_one q1 (fun r => q2 d r)
  | two h k =>
    obtain ⟨b, x, rfl, q1, _, _, _, _, _, _, _, _, _, _, q2⟩ := ch_skip h
    obtain ⟨b', x', rfl, q1', _, _, _, _, _, _, _, _, _, _, q2'⟩ := ch_skip k
    refine (us_one q1 (fun r => q2 d r)).app ?_
    exact Us.cons (b := 45) (x := []) (by decide) (fun r => sk_byte (by decide) d r) (us_one q1' (fun r => q2' d r))
theorem us_bs {u : List UInt8} {s s' : BS} (h : Bs u s s') (d : Nat) : Us (skP (d + 1)) 93 u := by
  induction h with
  | nil => exact .nil
  | cons h _ _ _ ih => exact (us_rn h d).app ih
theorem dg_bytes {d : List UInt8} {n : Nat} (h : Dg d n) : ∀ b ∈ d, b.toNat ≠ 41 ∧ b.toNat ≠ 92 ∧ b.toNat ≠ 91 ∧ b.toNat ≠ 40 ∧ b.toNat ≠ 124 ∧ b.toNat ≠ 125 ∧ b.toNat ≠ 44 := fun b hb => by
  have := h.1 b hb
  omega
theorem ct_bytes {v : List UInt8} {lo : Nat} {hi : Int} (h : Ct v lo hi) : ∀ b ∈ v, b.toNat ≠ 41 ∧ b.toNat ≠ 92 ∧ b.toNat ≠ 91 ∧ b.toNat ≠ 40 ∧ b.toNat ≠ 124 := by
  cases h with
  | star => decide
  | plus => decide
  | quest => decide
  | just h =>
    intro b hb
    rcases List.mem_cons.1 hb with rfl | hb
    · decide
    · rcases List.mem_append.1 hb with hb | hb
      · have := dg_bytes h b hb; exact ⟨this.1, this.2.1, this.2.2.1, this.2.2.2.1, this.2.2.2.2.1⟩
      · have : b = 125 := by simpa using hb
        subst this
        decide
  | up h =>
    intro b hb
    rcases List.mem_cons.1 hb with rfl | hb
    · decide
    · rcases List.mem_append.1 hb with hb | hb
      · have := dg_bytes h b hb; exact ⟨this.1, this.2.1, this.2.2.1, this.2.2.2.1, this.2.2.2.2.1⟩
      · have : b = 44 ∨ b = 125 := by simpa using hb
        rcases this with rfl | rfl <;> decide
  | to h k _ =>
    intro b hb
    rcases List.mem_cons.1 hb with rfl | hb
    · decide
    · rcases List.mem_append.1 hb with hb | hb
      · have := dg_bytes h b hb; exact ⟨this.1, this.2.1, this.2.2.1, this.2.2.2.1, this.2.2.2.2.1⟩
      · rcases List.mem_cons.1 hb with rfl | hb
        · decide
        · rcases List.mem_append.1 hb with hb | hb
          · have := dg_bytes k b hb; exact ⟨this.1, this.2.1, this.2.2.1, this.2.2.2.1, this.2.2.2.2.1⟩
          · have : b = 125 := by simpa using hb
            subst this
            decide
/-- A piece is gone past, whatever stands behind it, if what stands in its brackets is. -/
theorem pc_skip {A : List UInt8 → RT → Prop} {d : Nat} (hA : ∀ u t, A u t → Us (skP (d + 1)) 41 u) {u : List UInt8} {t : RT} (h : Pc A u t) : ∃ b x, u = b :: x ∧ b.toNat ≠ 41 ∧ b.toNat ≠ 124 ∧ b.toNat ≠ 42 ∧ b.toNat ≠ 43 ∧ b.toNat ≠ 63 ∧ b.toNat ≠ 123 ∧ ∀ r, skP (d + 2) (b :: x ++ r) = some (x.length + 1) := by
  cases h with
  | dot => exact ⟨46, [], rfl, by decide, by decide, by decide, by decide, by decide, by decide, fun r => sk_byte (by decide) (d + 1) r⟩
  | chr h _ =>
    obtain ⟨b, x, e, q1, q2, q3, q4, q5, q6, q7, q8, q9, q10, q11, q12⟩ := ch_skip h
    exact ⟨b, x, e, q2, q3, q7, q8, q9, q10, fun r => q12 (d + 1) r⟩
  | @set u s h _ _ =>
    refine ⟨91, u ++ [93], rfl, by decide, by decide, by decide, by decide, by decide, by decide, fun r => ?_⟩
    have e : 91 :: (u ++ [93]) ++ r = [91] ++ (u ++ 93 :: r) := by simp
    rw [e]
    unfold skP
    rw [if_neg (by simp), if_neg (show ¬ nx ([91] ++ (u ++ 93 :: r)) 0 = 92 from (by decide : ¬ (91 : UInt8).toNat = 92)), if_pos (show nx ([91] ++ (u ++ 93 :: r)) 0 = 91 from rfl)]
    have hl := lp_us (cl := 93) (us_bs h d) [91] r (([91] ++ (u ++ 93 :: r)).length + 1) (by simp; omega)
    refine hl.trans ?_
    simp
    omega
  | @not u s h =>
    refine ⟨91, 94 :: (u ++ [93]), rfl, by decide, by decide, by decide, by decide, by decide, by decide, fun r => ?_⟩
    have e : 91 :: 94 :: (u ++ [93]) ++ r = [91] ++ (94 :: u ++ 93 :: r) := by simp
    rw [e]
    unfold skP
    rw [if_neg (by simp), if_neg (show ¬ nx ([91] ++ (94 :: u ++ 93 :: r)) 0 = 92 from (by decide : ¬ (91 : UInt8).toNat = 92)), if_pos (show nx ([91] ++ (94 :: u ++ 93 :: r)) 0 = 91 from rfl)]
    have hu : Us (skP (d + 1)) (93 : UInt8).toNat (94 :: u) := Us.cons (b := 94) (x := []) (by decide) (fun r => sk_byte (by decide) d r) (us_bs h d)
    have hl := lp_us (cl := 93) hu [91] r (([91] ++ (94 :: u ++ 93 :: r)).length + 1) (by simp; omega)
    refine hl.trans ?_
    simp
    omega
  | @par u t h =>
    refine ⟨40, u ++ [41], rfl, by decide, by decide, by decide, by decide, by decide, by decide, fun r => ?_⟩
    have e : 40 :: (u ++ [41]) ++ r = [40] ++ (u ++ 41 :: r) := by simp
    rw [e]
    unfold skP
    rw [if_neg (by simp), if_neg (show ¬ nx ([40] ++ (u ++ 41 :: r)) 0 = 92 from (by decide : ¬ (40 : UInt8).toNat = 92)), if_neg (show ¬ nx ([40] ++ (u ++ 41 :: r)) 0 = 91 from (by decide : ¬ (40 : UInt8).toNat = 91)), if_pos (show nx ([40] ++ (u ++ 41 :: r)) 0 = 40 from rfl)]
    have hl := lp_us (cl := 41) (hA u t h) [40] r (([40] ++ (u ++ 41 :: r)).length + 1) (by simp; omega)
    refine hl.trans ?_
    simp
    omega
end Go.Proofs.YtplldfbjbekdlaaDoor

/- regex: the reference as functions: names, sets, counts; what they answer to texts of the grammar. Plain mathematics. -/
namespace Go.Proofs.YtplldfbjbekdlaaDoor
set_option linter.unusedVariables false
set_option linter.unusedSimpArgs false

theorem us_pc {A : List UInt8 → RT → Prop} {d : Nat} (hA : ∀ u t, A u t → Us (skP (d + 1)) 41 u) {u : List UInt8} {t : RT} (h : Pc A u t) : Us (skP (d + 2)) 41 u := by
  obtain ⟨b, x, rfl, q1, _, _, _, _, _, q2⟩ := pc_skip hA h
  exact us_one q1 q2
theorem us_rp {A : List UInt8 → RT → Prop} {d : Nat} (hA : ∀ u t, A u t → Us (skP (d + 1)) 41 u) {u : List UInt8} {t : RT} (h : Rp A u t) : Us (skP (d + 2)) 41 u := by
  induction h with
  | pc h => exact us_pc hA h
  | ct _ k ih => exact ih.app (us_bytes _ (fun b hb => by have := ct_bytes k b hb; exact ⟨this.1, this.2.1, this.2.2.1, this.2.2.2.1⟩))
theorem us_ca {A : List UInt8 → RT → Prop} {d : Nat} (hA : ∀ u t, A u t → Us (skP (d + 1)) 41 u) {u : List UInt8} {ks : List RT} (h : Ca A u ks) : Us (skP (d + 2)) 41 u := by
  induction h with
  | nil => exact .nil
  | snoc _ k ih => exact ih.app (us_rp hA k)
theorem us_aa {A : List UInt8 → RT → Prop} {d : Nat} (hA : ∀ u t, A u t → Us (skP (d + 1)) 41 u) {u : List UInt8} {ts : List RT} (h : Aa A u ts) : Us (skP (d + 2)) 41 u := by
  induction h with
  | one k => exact us_ca hA k
  | more _ k ih => exact ih.app (Us.cons (b := 124) (x := []) (by decide) (fun r => sk_byte (by decide) (d + 1) r) (us_ca hA k))
theorem us_ad : ∀ (d : Nat) (u : List UInt8) (t : RT), Ad d u t → Us (skP (d + 1)) 41 u
  | 0, _, _, h => h.elim
  | d + 1, u, t, ⟨ts, h, _⟩ => us_aa (us_ad d) h
/-- The byte of a name. -/
def nmP (u : List UInt8) : Option Nat :=
  if u.length = 0 then none else if nx u 0 ≠ 92 then some (nx u 0) else if u.length = 1 then none
  else if nx u 1 = 110 then some 10 else if nx u 1 = 114 then some 13 else if nx u 1 = 116 then some 9 else if nx u 1 = 48 then some 0
  else if nx u 1 = 120 then (if u.length < 4 then none else some ((hdP (nx u 2) * 16 + hdP (nx u 3)) % 256)) else some (nx u 1)
where hdP (c : Nat) : Nat := if c ≤ 57 then (c + 256 - 48) % 256 else (c + 256 - 97 + 10) % 256
theorem hex_dig : ∀ c : Fin 256, 0 ≤ hexI c.1 → nmP.hdP c.1 = (hexI c.1).toNat ∧ (hexI c.1).toNat < 16 := by decide +kernel
theorem nm_ch {u : List UInt8} {c : Nat} (h : Ch u c) : nmP u = some c := by
  cases h with
  | @plain b h1 h2 h3 =>
    unfold nmP
    rw [if_neg (by simp), if_pos (show nx [b] 0 ≠ 92 from (sign_byte h3).1)]
    rfl
  | @esc b c h =>
    have e1 : nx [92, b] 1 = b.toNat := rfl
    unfold nmP
    rw [if_neg (by simp), if_neg (by intro q; exact q rfl), if_neg (by simp), e1]
    have ha : ∀ n : Nat, alnum b.toNat = false → alnum n = true → b.toNat ≠ n := fun n h1 h2 e => by rw [e, h2] at h1; cases h1
    rcases h with ⟨q, rfl⟩ | ⟨q, rfl⟩ | ⟨q, rfl⟩ | ⟨q, rfl⟩ | ⟨_, _, q, rfl⟩
    · rw [if_pos q]
    · rw [if_neg (by omega), if_pos q]
    · rw [if_neg (by omega), if_neg (by omega), if_pos q]
    · rw [if_neg (by omega), if_neg (by omega), if_neg (by omega), if_pos q]
    · rw [if_neg (ha _ q (by decide)), if_neg (ha _ q (by decide)), if_neg (ha _ q (by decide)), if_neg (ha _ q (by decide)), if_neg (ha _ q (by decide))]
  | @hex x y h1 h2 =>
    have e1 : nx [92, 120, x, y] 1 = 120 := rfl
    have e2 : nx [92, 120, x, y] 2 = x.toNat := rfl
    have e3 : nx [92, 120, x, y] 3 = y.toNat := rfl
    obtain ⟨a1, a2⟩ := hex_dig ⟨x.toNat, UInt8.toNat_lt x⟩ h1
    obtain ⟨b1, b2⟩ := hex_dig ⟨y.toNat, UInt8.toNat_lt y⟩ h2
    simp only at a1 a2 b1 b2
    unfold nmP
    rw [if_neg (by simp), if_neg (by intro q; exact q rfl), if_neg (by simp), e1, if_neg (by decide), if_neg (by decide), if_neg (by decide), if_neg (by decide), if_pos rfl, if_neg (by simp), e2, e3, a1, b1]
    rw [Nat.mod_eq_of_lt (by omega)]
/-- What is between brackets, put into a set that there was. -/
def stP : Nat → List UInt8 → BS → Option BS
  | 0, _, _ => none
  | k + 1, s, o => if s.length = 0 then some o else match skP 1 s with
    | none => none
    | some n => match nmP (s.take n) with
      | none => none
      | some f => if nx (s.drop n) 0 = 45 then (match skP 1 ((s.drop n).drop 1) with
          | none => none
          | some m => match nmP (((s.drop n).drop 1).take m) with
            | none => none
            | some t => stP k (((s.drop n).drop 1).drop m) (o ||| rng f t))
        else stP k (s.drop n) (o ||| rng f f)
/-- How a text between brackets begins. -/
theorem bs_head {u : List UInt8} {s s' : BS} (h : Bs u s s') : nx u 0 ≠ 45 := by
  cases h with
  | nil => decide
  | cons h _ _ _ =>
    cases h with
    | one h =>
      obtain ⟨b, x, rfl, _, _, _, _, _, _, _, _, _, _, q, _⟩ := ch_skip h
      exact q
    | two h _ =>
      obtain ⟨b, x, rfl, _, _, _, _, _, _, _, _, _, _, q, _⟩ := ch_skip h
      exact q
theorem ch_front {u r : List UInt8} {c : Nat} (h : Ch u c) : skP 1 (u ++ r) = some u.length ∧ nmP ((u ++ r).take u.length) = some c ∧ (u ++ r).drop u.length = r ∧ 0 < u.length := by
  have hn := nm_ch h
  obtain ⟨b, x, rfl, _, _, _, _, _, _, _, _, _, _, _, q⟩ := ch_skip h
  refine ⟨q 0 r, ?_, List.drop_left, by simp⟩
  rw [List.take_left]
  exact hn
theorem st_bs {u : List UInt8} {s s' : BS} (h : Bs u s s') : ∀ k, u.length < k → stP k u s = some s' := by
  induction h with
  | nil s =>
    intro k hk
    obtain ⟨q, rfl⟩ : ∃ q, k = q + 1 := ⟨k - 1, by simp at hk; omega⟩
    rfl
  | @cons u r f t s s' h hft ht hr ih =>
    intro k hk
    obtain ⟨q, rfl⟩ : ∃ q, k = q + 1 := ⟨k - 1, by omega⟩
    have hh := bs_head hr
    rw [List.length_append] at hk
    cases h with
    | one h =>
      obtain ⟨e1, e2, e3, e4⟩ := ch_front (r := r) h
      unfold stP
      rw [if_neg (by rw [List.length_append]; omega), e1]
      simp only
      rw [e2]
      simp only
      rw [e3, if_neg hh]
      exact ih q (by omega)
    | @two v w c d h h2 =>
      rw [List.length_append, List.length_cons] at hk
      rw [List.append_assoc, List.cons_append]
      obtain ⟨e1, e2, e3, e4⟩ := ch_front (r := 45 :: (w ++ r)) h
      obtain ⟨g1, g2, g3, g4⟩ := ch_front (r := r) h2
      unfold stP
      rw [if_neg (by rw [List.length_append]; omega), e1]
      simp only
      rw [e2]
      simp only
      rw [e3, if_pos (show nx (45 :: (w ++ r)) 0 = 45 from rfl), show (45 :: (w ++ r)).drop 1 = w ++ r from rfl, g1]
      simp only
      rw [g2]
      simp only
      rw [g3]
      exact ih q (by omega)
/-- How many bytes at the front tell how often. -/
def clB : Nat → List UInt8 → Nat → Option Nat
  | 0, _, _ => none
  | k + 1, s, n => if s.length ≤ n then none else if nx s n = 125 then some (n + 1) else clB k s (n + 1)
def cnP (s : List UInt8) : Option Nat := if s.length = 0 then some 0 else if nx s 0 = 42 ∨ nx s 0 = 43 ∨ nx s 0 = 63 then some 1 else if nx s 0 ≠ 123 then some 0 else clB (s.length + 1) s 1
theorem cl_run : ∀ (d r pre : List UInt8) (k : Nat), (∀ b ∈ d, b.toNat ≠ 125) → d.length < k → clB k (pre ++ (d ++ 125 :: r)) pre.length = some (pre.length + d.length + 1)
  | [], r, pre, k, _, hk => by
    obtain ⟨q, rfl⟩ : ∃ q, k = q + 1 := ⟨k - 1, by simp at hk; omega⟩
    unfold clB
    rw [if_neg (by simp), nx_app, if_pos (show nx ([] ++ 125 :: r) 0 = 125 from rfl)]
    rfl
  | b :: d, r, pre, k, h, hk => by
    obtain ⟨q, rfl⟩ : ∃ q, k = q + 1 := ⟨k - 1, by simp at hk; omega⟩
    unfold clB
    rw [if_neg (by simp), nx_app, if_neg (show ¬ nx (b :: d ++ 125 :: r) 0 = 125 from h b (by simp))]
    have e : pre ++ (b :: d ++ 125 :: r) = (pre ++ [b]) ++ (d ++ 125 :: r) := by simp
    rw [e, show pre.length + 1 = (pre ++ [b]).length by simp, cl_run d r (pre ++ [b]) q (fun c hc => h c (by simp [hc])) (by simp at hk; omega)]
    simp
    omega
theorem cn_ct {v : List UInt8} {lo : Nat} {hi : Int} (h : Ct v lo hi) (r : List UInt8) : cnP (v ++ r) = some v.length ∧ 0 < v.length := by
  have br : ∀ d : List UInt8, (∀ b ∈ d, b.toNat ≠ 125) → cnP (123 :: (d ++ 125 :: r)) = some (d.length + 2) := fun d hd => by
    unfold cnP
    rw [if_neg (by simp), if_neg (show ¬ (nx (123 :: (d ++ 125 :: r)) 0 = 42 ∨ nx (123 :: (d ++ 125 :: r)) 0 = 43 ∨ nx (123 :: (d ++ 125 :: r)) 0 = 63) from (by decide : ¬ ((123 : UInt8).toNat = 42 ∨ (123 : UInt8).toNat = 43 ∨ (123 : UInt8).toNat = 63))), if_neg (show ¬ nx (123 :: (d ++ 125 :: r)) 0 ≠ 123 from (fun q => q rfl))]
    have := cl_run d r [123] ((123 :: (d ++ 125 :: r)).length + 1) hd (by simp; omega)
    refine this.trans ?_
    simp
    omega
  have dg : ∀ {d : List UInt8} {n : Nat}, Dg d n → ∀ b ∈ d, b.toNat ≠ 125 := fun h b hb => (dg_bytes h b hb).2.2.2.2.2.1
  cases h with
  | star => exact ⟨rfl, by decide⟩
  | plus => exact ⟨rfl, by decide⟩
  | quest => exact ⟨rfl, by decide⟩
  | @just d n h =>
    refine ⟨?_, by simp⟩
    rw [show 123 :: (d ++ [125]) ++ r = 123 :: (d ++ 125 :: r) by simp, br d (dg h)]
    simp
  | @up d n h =>
    refine ⟨?_, by simp⟩
    rw [show 123 :: (d ++ [44, 125]) ++ r = 123 :: ((d ++ [44]) ++ 125 :: r) by simp, br (d ++ [44]) (fun b hb => by
      rcases List.mem_append.1 hb with hb | hb
      · exact dg h b hb
      · have : b = 44 := by simpa using hb
        subst this
        decide)]
    simp
  | @to d e n m h k _ =>
    refine ⟨?_, by simp⟩
    rw [show 123 :: (d ++ 44 :: (e ++ [125])) ++ r = 123 :: ((d ++ 44 :: e) ++ 125 :: r) by simp, br (d ++ 44 :: e) (fun b hb => by
      rcases List.mem_append.1 hb with hb | hb
      · exact dg h b hb
      · rcases List.mem_cons.1 hb with rfl | hb
        · decide
        · exact dg k b hb)]
    simp
    omega
end Go.Proofs.YtplldfbjbekdlaaDoor

/- regex: the reference as functions: how often, pieces, the split at bars, expressions; what they answer to texts of the grammar. Plain mathematics. -/
namespace Go.Proofs.YtplldfbjbekdlaaDoor
set_option linter.unusedVariables false
set_option linter.unusedSimpArgs false

/-- From how often, to how often: the digits. -/
def oftL (s : List UInt8) : Nat → Nat → Nat → Nat → Bool → Option (Nat × Nat × Bool)
  | 0, _, _, _, _ => none
  | k + 1, i, lo, hi, b => if s.length - 1 ≤ i then some (lo, hi, b) else if 1000 < lo ∨ 1000 < hi then none else if nx s i = 44 then oftL s k (i + 1) lo hi true else if b = true then oftL s k (i + 1) lo (hi * 10 + (nx s i + 256 - 48) % 256) b else oftL s k (i + 1) (lo * 10 + (nx s i + 256 - 48) % 256) hi b
/-- From how often, to how often. -/
def oftP (s : List UInt8) : Option (Nat × Int) :=
  if s = [42] then some (0, -1) else if s = [43] then some (1, -1) else if s = [63] then some (0, 1) else match oftL s (s.length + 1) 1 0 0 false with
  | none => none
  | some (lo, hi, b) => if b = false then some (lo, (lo : Int)) else if s.length < 2 then none else if nx s (s.length - 2) = 44 then some (lo, -1) else some (lo, (hi : Int))
def vF (d : List UInt8) (v : Nat) : Nat := d.foldl (fun v c => 10 * v + (c.toNat - 48)) v
theorem vF_le : ∀ (d : List UInt8) (v : Nat), v ≤ vF d v
  | [], v => Nat.le_refl _
  | c :: d, v => by
    have := vF_le d (10 * v + (c.toNat - 48))
    unfold vF at this ⊢
    rw [List.foldl_cons]
    omega
theorem of_lo : ∀ (d pre r : List UInt8) (k lo hi : Nat), (∀ c ∈ d, 48 ≤ c.toNat ∧ c.toNat ≤ 57) → vF d lo ≤ 1000 → hi ≤ 1000 → 0 < r.length → oftL (pre ++ (d ++ r)) (k + d.length) pre.length lo hi false = oftL (pre ++ (d ++ r)) k (pre.length + d.length) (vF d lo) hi false
  | [], _, _, _, _, _, _, _, _, _ => rfl
  | c :: d, pre, r, k, lo, hi, hd, hv, hh, hr => by
    have h0 := vF_le (c :: d) lo
    have hc := hd c (by simp)
    have e : pre ++ (c :: d ++ r) = (pre ++ [c]) ++ (d ++ r) := by simp
    have hn : nx (pre ++ (c :: d ++ r)) pre.length = c.toNat := by rw [nx_app]; rfl
    rw [show k + (c :: d).length = (k + d.length) + 1 from rfl]
    conv => lhs; unfold oftL
    rw [if_neg (by simp; omega), if_neg (by omega), hn, if_neg (by omega), if_neg (by decide), show (c.toNat + 256 - 48) % 256 = c.toNat - 48 by omega, Nat.mul_comm, e, show pre.length + 1 = (pre ++ [c]).length by simp]
    rw [of_lo d (pre ++ [c]) r k _ hi (fun x hx => hd x (by simp [hx])) (by exact hv) hh hr]
    rw [show (pre ++ [c]).length + d.length = pre.length + (c :: d).length by simp; omega]
    rfl
theorem of_hi : ∀ (d pre r : List UInt8) (k lo hi : Nat), (∀ c ∈ d, 48 ≤ c.toNat ∧ c.toNat ≤ 57) → vF d hi ≤ 1000 → lo ≤ 1000 → 0 < r.length → oftL (pre ++ (d ++ r)) (k + d.length) pre.length lo hi true = oftL (pre ++ (d ++ r)) k (pre.length + d.length) lo (vF d hi) true
  | [], _, _, _, _, _, _, _, _, _ => rfl
  | c :: d, pre, r, k, lo, hi, hd, hv, hh, hr => by
    have h0 := vF_le (c :: d) hi
    have hc := hd c (by simp)
    have e : pre ++ (c :: d ++ r) = (pre ++ [c]) ++ (d ++ r) := by simp
    have hn : nx (pre ++ (c :: d ++ r)) pre.length = c.toNat := by rw [nx_app]; rfl
    rw [show k + (c :: d).length = (k + d.length) + 1 from rfl]
    conv => lhs; unfold oftL
    rw [if_neg (by simp; omega), if_neg (by omega), hn, if_neg (by omega), if_pos rfl, show (c.toNat + 256 - 48) % 256 = c.toNat - 48 by omega, Nat.mul_comm, e, show pre.length + 1 = (pre ++ [c]).length by simp]
    rw [of_hi d (pre ++ [c]) r k lo _ (fun x hx => hd x (by simp [hx])) (by exact hv) hh hr]
    rw [show (pre ++ [c]).length + d.length = pre.length + (c :: d).length by simp; omega]
    rfl
theorem of_end {s : List UInt8} {k i lo hi : Nat} {b : Bool} (h : s.length - 1 ≤ i) : oftL s (k + 1) i lo hi b = some (lo, hi, b) := by
  unfold oftL
  rw [if_pos h]
theorem of_ct {v : List UInt8} {lo : Nat} {hi : Int} (h : Ct v lo hi) : oftP v = some (lo, hi) := by
  have ne : ∀ (x : List UInt8) (b : UInt8), b.toNat ≠ 123 → ¬ (123 :: x = [b]) := fun x b hb e => by
    injection e with e
    exact hb (by rw [← e]; rfl)
  have dv : ∀ {d : List UInt8} {n : Nat}, Dg d n → vF d 0 = n ∧ n ≤ 256 := fun h => ⟨h.2.2.1, h.2.2.2⟩
  cases h with
  | star => decide
  | plus => decide
  | quest => decide
  | @just d n h =>
    obtain ⟨e, q⟩ := dv h
    unfold oftP
    rw [if_neg (ne _ _ (by decide)), if_neg (ne _ _ (by decide)), if_neg (ne _ _ (by decide))]
    have t1 := of_lo d [123] [125] 3 0 0 h.1 (by omega) (by omega) (by simp)
    have t2 : oftL ([123] ++ (d ++ [125])) 3 (([123] : List UInt8).length + d.length) lo 0 false = some (lo, 0, false) := of_end (by simp; omega)
    rw [e, t2, show 3 + d.length = ([123] ++ (d ++ [125])).length + 1 by simp; omega] at t1
    have t4 : oftL (123 :: (d ++ [125])) ((123 :: (d ++ [125])).length + 1) 1 0 0 false = some (lo, 0, false) := t1
    rw [t4]
    rfl
  | @up d n h =>
    obtain ⟨e, q⟩ := dv h
    unfold oftP
    rw [if_neg (ne _ _ (by decide)), if_neg (ne _ _ (by decide)), if_neg (ne _ _ (by decide))]
    have := of_lo d [123] [44, 125] 4 0 0 h.1 (by omega) (by omega) (by simp)
    have hn : nx ([123] ++ (d ++ [44, 125])) (([123] : List UInt8).length + d.length) = 44 := by
      rw [show [123] ++ (d ++ [44, 125]) = ([123] ++ d) ++ [44, 125] by simp, show ([123] : List UInt8).length + d.length = ([123] ++ d).length by simp; omega, nx_app]
      rfl
    have h2 : oftL ([123] ++ (d ++ [44, 125])) 4 (([123] : List UInt8).length + d.length) lo 0 false = some (lo, 0, true) := by
      unfold oftL
      rw [if_neg (by simp; omega), if_neg (by omega), if_pos hn]
      exact of_end (by simp; omega)
    rw [e, h2, show 4 + d.length = ([123] ++ (d ++ [44, 125])).length + 1 by simp; omega] at this
    have t2 : oftL (123 :: (d ++ [44, 125])) ((123 :: (d ++ [44, 125])).length + 1) 1 0 0 false = some (lo, 0, true) := this
    rw [t2]
    simp only
    rw [if_neg (by decide), if_neg (by simp), if_pos]
    rw [show (123 :: (d ++ [44, 125])).length - 2 = ([123] : List UInt8).length + d.length by simp; omega]
    exact hn
  | @to d g n m h k hnm =>
    obtain ⟨e, q⟩ := dv h
    obtain ⟨e2, q2⟩ := dv k
    unfold oftP
    rw [if_neg (ne _ _ (by decide)), if_neg (ne _ _ (by decide)), if_neg (ne _ _ (by decide))]
    have t1 := of_lo d [123] (44 :: (g ++ [125])) (g.length + 4) 0 0 h.1 (by omega) (by omega) (by simp)
    have ee : [123] ++ (d ++ 44 :: (g ++ [125])) = ([123] ++ d ++ [44]) ++ (g ++ [125]) := by simp
    have hn : nx ([123] ++ (d ++ 44 :: (g ++ [125]))) (([123] : List UInt8).length + d.length) = 44 := by
      rw [show [123] ++ (d ++ 44 :: (g ++ [125])) = ([123] ++ d) ++ 44 :: (g ++ [125]) by simp, show ([123] : List UInt8).length + d.length = ([123] ++ d).length by simp; omega, nx_app]
      rfl
    have t2 : oftL ([123] ++ (d ++ 44 :: (g ++ [125]))) (g.length + 4) (([123] : List UInt8).length + d.length) lo 0 false = some (lo, m, true) := by
      unfold oftL
      rw [if_neg (by simp; omega), if_neg (by omega), if_pos hn]
      have t3 := of_hi g ([123] ++ d ++ [44]) [125] 3 lo 0 k.1 (by omega) (by omega) (by simp)
      rw [e2, of_end (by simp; omega)] at t3
      rw [ee, show g.length + 3 = 3 + g.length by omega, show ([123] : List UInt8).length + d.length + 1 = ([123] ++ d ++ [44]).length by simp; omega]
      exact t3
    rw [e, t2, show g.length + 4 + d.length = ([123] ++ (d ++ 44 :: (g ++ [125]))).length + 1 by simp; omega] at t1
    have t4 : oftL (123 :: (d ++ 44 :: (g ++ [125]))) ((123 :: (d ++ 44 :: (g ++ [125]))).length + 1) 1 0 0 false = some (lo, m, true) := t1
    rw [t4]
    simp only
    rw [if_neg (by decide), if_neg (by simp; omega), if_neg]
    have hg : g ≠ [] := by
      intro z
      have := k.2.1
      rw [z] at this
      exact absurd this (by decide)
    obtain ⟨g', c, rfl⟩ : ∃ g' c, g = g' ++ [c] := ⟨g.dropLast, g.getLast hg, (List.dropLast_concat_getLast hg).symm⟩
    have hc := k.1 c (by simp)
    rw [show 123 :: (d ++ 44 :: (g' ++ [c] ++ [125])) = (123 :: (d ++ 44 :: g')) ++ [c, 125] by simp, show ((123 :: (d ++ 44 :: g')) ++ [c, 125]).length - 2 = (123 :: (d ++ 44 :: g')).length by simp; omega, nx_app]
    show c.toNat ≠ 44
    omega
end Go.Proofs.YtplldfbjbekdlaaDoor

/- regex: the reference as functions: pieces, the split at bars, expressions; what they answer to texts of the grammar. Plain mathematics. -/
namespace Go.Proofs.YtplldfbjbekdlaaDoor
set_option linter.unusedVariables false
set_option linter.unusedSimpArgs false

/-- The set between brackets. -/
def seP (s : List UInt8) : Option BS :=
  if s.length = 0 then none else if nx s 0 = 94 then (stP (s.length + 1) (s.drop 1) (0#256)).map (fun o => ~~~o) else stP (s.length + 1) s (0#256)
/-- A piece. -/
def pcP (R : List UInt8 → Option RT) (s : List UInt8) : Option RT :=
  if s.length = 0 then none else if nx s 0 = 40 then (if s.length < 2 then none else R ((s.drop 1).take (s.length - 2))) else if nx s 0 = 46 then some (.nd 2 (~~~(0#256)) [] 0 0)
  else if nx s 0 = 91 then (if s.length < 2 then none else (seP ((s.drop 1).take (s.length - 2))).map (fun o => .nd 2 o [] 0 0)) else (nmP s).map (fun c => .nd 2 (bit c) [] 0 0)
/-- The counts behind a piece. -/
def ctL : Nat → List UInt8 → RT → Option (RT × List UInt8)
  | 0, _, _ => none
  | k + 1, s, t => match cnP s with
    | none => none
    | some n => if n = 0 then some (t, s) else match oftP (s.take n) with
      | none => none
      | some (lo, hi) => ctL k (s.drop n) (.nd 5 (0#256) [t] lo hi)
/-- Pieces behind each other. -/
def caL (R : List UInt8 → Option RT) (d : Nat) : Nat → List UInt8 → List RT → Option (List RT)
  | 0, _, _ => none
  | k + 1, s, ks => if s.length = 0 then some ks else match skP d s with
    | none => none
    | some n => match pcP R (s.take n) with
      | none => none
      | some t => match ctL (s.length + 1) (s.drop n) t with
        | none => none
        | some (t', s') => caL R d k s' (ks ++ [t'])
def caP (R : List UInt8 → Option RT) (d : Nat) (s : List UInt8) : Option RT := (caL R d (s.length + 1) s []).map catT
/-- The bars outside of brackets. -/
def baL (d : Nat) (s : List UInt8) : Nat → Nat → Nat → List (List UInt8) → Option (List (List UInt8) × Nat)
  | 0, _, _, _ => none
  | k + 1, i, f, ps => if s.length ≤ i then some (ps, f) else match skP d (s.drop i) with
    | none => none
    | some n => baL d s k (i + n) (if nx s i = 124 then i + 1 else f) (if nx s i = 124 then ps ++ [(s.drop f).take (i - f)] else ps)
def alP (C : List UInt8 → Option RT) : List (List UInt8) → Option (List RT)
  | [] => some []
  | p :: ps => match C p with
    | none => none
    | some t => (alP C ps).map (fun ts => t :: ts)
/-- The expression of a text. -/
def reP : Nat → List UInt8 → Option RT
  | 0, _ => none
  | d + 1, s => match baL (d + 2) s (s.length + 1) 0 0 [] with
    | none => none
    | some (ps, f) => if ps.length = 0 then caP (reP d) (d + 2) s else (alP (caP (reP d) (d + 2)) (ps ++ [s.drop f])).map (fun ts => .nd 4 (0#256) ts 0 0)
theorem alP_app (C : List UInt8 → Option RT) : ∀ {ps qs : List (List UInt8)} {ts us : List RT}, alP C ps = some ts → alP C qs = some us → alP C (ps ++ qs) = some (ts ++ us)
  | [], qs, ts, us, h, k => by
    injection h with h
    subst h
    exact k
  | p :: ps, qs, ts, us, h, k => by
    unfold alP at h
    cases hc : C p with
    | none => rw [hc] at h; cases h
    | some t =>
      rw [hc] at h
      cases ha : alP C ps with
      | none => rw [ha] at h; cases h
      | some ts' =>
        rw [ha] at h
        simp only [Option.map_some, Option.some.injEq] at h
        subst h
        show alP C (p :: (ps ++ qs)) = _
        unfold alP
        rw [hc, alP_app C ha k]
        rfl
theorem se_set {u : List UInt8} {s : BS} (h : Bs u (0#256) s) (h2 : u.head? ≠ some 94) (h3 : s ≠ 0#256) : seP u = some s := by
  have hu : u ≠ [] := by
    rintro rfl
    have := st_bs h 1 (by simp)
    injection this with this
    exact h3 this.symm
  obtain ⟨b, x, rfl⟩ : ∃ b x, u = b :: x := by
    cases u with
    | nil => exact absurd rfl hu
    | cons b x => exact ⟨b, x, rfl⟩
  unfold seP
  rw [if_neg (by simp), if_neg (show ¬ nx (b :: x) 0 = 94 from fun e => h2 (by
    have : b.toNat = 94 := e
    show some b = some 94
    rw [show b = 94 from UInt8.toNat_inj.1 this]))]
  exact st_bs h _ (by omega)
theorem se_not {u : List UInt8} {s : BS} (h : Bs u (0#256) s) : seP (94 :: u) = some (~~~s) := by
  unfold seP
  rw [if_neg (by simp), if_pos (show nx (94 :: u) 0 = 94 from rfl), show (94 :: u).drop 1 = u from rfl, st_bs h _ (by simp; omega)]
  rfl
theorem mid (b c : UInt8) (u : List UInt8) : ((b :: (u ++ [c])).drop 1).take ((b :: (u ++ [c])).length - 2) = u := by
  show (u ++ [c]).take _ = u
  rw [show (b :: (u ++ [c])).length - 2 = u.length by simp]
  exact List.take_left
theorem pcP_of {A : List UInt8 → RT → Prop} {R : List UInt8 → Option RT} (hR : ∀ u t, A u t → R u = some t) {u : List UInt8} {t : RT} (h : Pc A u t) : pcP R u = some t := by
  cases h with
  | dot => rfl
  | @chr u c h h2 =>
    have hn := nm_ch h
    obtain ⟨b, x, rfl, _, _, _, q3, q4, _, _, _, _, _, _, _⟩ := ch_skip h
    unfold pcP
    rw [if_neg (by simp), if_neg (show ¬ nx (b :: x) 0 = 40 from q4), if_neg (show ¬ nx (b :: x) 0 = 46 from fun e => h2 (by
      have : b.toNat = 46 := e
      show some b = some 46
      rw [show b = 46 from UInt8.toNat_inj.1 this])), if_neg (show ¬ nx (b :: x) 0 = 91 from q3), hn]
    rfl
  | @set u s h h2 h3 =>
    unfold pcP
    rw [if_neg (by simp), if_neg (show ¬ nx (91 :: (u ++ [93])) 0 = 40 from (by decide : ¬ (91 : UInt8).toNat = 40)), if_neg (show ¬ nx (91 :: (u ++ [93])) 0 = 46 from (by decide : ¬ (91 : UInt8).toNat = 46)), if_pos (show nx (91 :: (u ++ [93])) 0 = 91 from rfl), if_neg (by simp), mid, se_set h h2 h3]
    rfl
  | @not u s h =>
    unfold pcP
    rw [if_neg (by simp), if_neg (show ¬ nx (91 :: 94 :: (u ++ [93])) 0 = 40 from (by decide : ¬ (91 : UInt8).toNat = 40)), if_neg (show ¬ nx (91 :: 94 :: (u ++ [93])) 0 = 46 from (by decide : ¬ (91 : UInt8).toNat = 46)), if_pos (show nx (91 :: 94 :: (u ++ [93])) 0 = 91 from rfl), if_neg (by simp), show 91 :: 94 :: (u ++ [93]) = 91 :: ((94 :: u) ++ [93]) from rfl, mid, se_not h]
    rfl
  | @par u t h =>
    unfold pcP
    rw [if_neg (by simp), if_pos (show nx (40 :: (u ++ [41])) 0 = 40 from rfl), if_neg (by simp), mid]
    exact hR _ _ h
/-- No count at the front. -/
def NoC (r : List UInt8) : Prop := cnP r = some 0
theorem noC_nil : NoC [] := rfl
theorem noC_cons {b : UInt8} {x : List UInt8} (h : b.toNat ≠ 42 ∧ b.toNat ≠ 43 ∧ b.toNat ≠ 63 ∧ b.toNat ≠ 123) : NoC (b :: x) := by
  unfold NoC cnP
  rw [if_neg (by simp), if_neg (show ¬ (nx (b :: x) 0 = 42 ∨ nx (b :: x) 0 = 43 ∨ nx (b :: x) 0 = 63) from by
    show ¬ (b.toNat = 42 ∨ b.toNat = 43 ∨ b.toNat = 63)
    omega), if_pos (show nx (b :: x) 0 ≠ 123 from h.2.2.2)]
theorem rp_ct {A : List UInt8 → RT → Prop} {w : List UInt8} {t : RT} (h : Rp A w t) : ∃ u v t0 m, Pc A u t0 ∧ w = u ++ v ∧ m ≤ v.length ∧ ∀ k r, ctL (k + m) (v ++ r) t0 = ctL k r t := by
  induction h with
  | @pc u t h => exact ⟨u, [], t, 0, h, (List.append_nil u).symm, Nat.le_refl _, fun _ _ => rfl⟩
  | @ct u v t lo hi _ hc ih =>
    obtain ⟨a, b, t0, m, h1, rfl, h2, h3⟩ := ih
    obtain ⟨_, hv⟩ := cn_ct hc []
    refine ⟨a, b ++ v, t0, m + 1, h1, List.append_assoc _ _ _, by simp; omega, fun k r => ?_⟩
    rw [List.append_assoc, show k + (m + 1) = (k + 1) + m by omega, h3]
    obtain ⟨e, _⟩ := cn_ct hc r
    conv => lhs; unfold ctL
    rw [e]
    simp only
    rw [if_neg (by omega), List.take_left, of_ct hc]
    simp only
    rw [List.drop_left]
/-- What is told of the pieces behind each other: whatever stands behind them. -/
theorem ca_run {A : List UInt8 → RT → Prop} {R : List UInt8 → Option RT} {d : Nat} (hA : ∀ u t, A u t → Us (skP (d + 1)) 41 u) (hR : ∀ u t, A u t → R u = some t) {w : List UInt8} {ks : List RT} (h : Ca A w ks) : ∃ m, m ≤ w.length ∧ ∀ k r js, NoC r → caL R (d + 2) (k + m) (w ++ r) js = caL R (d + 2) k r (js ++ ks) := by
  induction h with
  | nil => exact ⟨0, Nat.le_refl _, fun k r js _ => by rw [List.append_nil]; rfl⟩
  | @snoc u v ks t _ hr ih =>
    obtain ⟨m, hm, ih⟩ := ih
    obtain ⟨a, b, t0, n, h1, rfl, h2, h3⟩ := rp_ct hr
    have hp := pcP_of hR h1
    obtain ⟨c, x, rfl, _, _, q1, q2, q3, q4, q5⟩ := pc_skip hA h1
    refine ⟨m + 1, by simp; omega, fun k r js hn => ?_⟩
    have hno : NoC (c :: x ++ b ++ r) := by
      rw [List.append_assoc, List.cons_append]
      exact noC_cons ⟨q1, q2, q3, q4⟩
    rw [List.append_assoc, show k + (m + 1) = (k + 1) + m by omega, ih _ _ _ hno]
    conv => lhs; unfold caL
    rw [if_neg (by simp), List.append_assoc, q5 (b ++ r)]
    simp only
    have e1 : (c :: x ++ (b ++ r)).take (x.length + 1) = c :: x := by
      rw [show x.length + 1 = (c :: x).length from rfl, List.take_left]
    have e2 : (c :: x ++ (b ++ r)).drop (x.length + 1) = b ++ r := by
      rw [show x.length + 1 = (c :: x).length from rfl, List.drop_left]
    rw [e1, e2, hp]
    simp only
    obtain ⟨q, hq⟩ : ∃ q, (c :: x ++ (b ++ r)).length + 1 = (q + 1) + n := ⟨(c :: x ++ (b ++ r)).length - n, by simp; omega⟩
    rw [hq, h3]
    have e3 : ctL (q + 1) r t = some (t, r) := by
      unfold ctL
      rw [show cnP r = some 0 from hn]
      rfl
    rw [e3]
    simp only
    rw [List.append_assoc]
theorem caP_of {A : List UInt8 → RT → Prop} {R : List UInt8 → Option RT} {d : Nat} (hA : ∀ u t, A u t → Us (skP (d + 1)) 41 u) (hR : ∀ u t, A u t → R u = some t) {w : List UInt8} {ks : List RT} (h : Ca A w ks) : caP R (d + 2) w = some (catT ks) := by
  obtain ⟨m, hm, hr⟩ := ca_run hA hR h
  obtain ⟨q, hq⟩ : ∃ q, w.length + 1 = (q + 1) + m := ⟨w.length - m, by omega⟩
  have := hr (q + 1) [] [] noC_nil
  rw [List.append_nil] at this
  unfold caP
  rw [hq, this]
  unfold caL
  rw [if_pos (show ([] : List UInt8).length = 0 from rfl)]
  rfl
/-- The units between bars. -/
theorem bu_ca {A : List UInt8 → RT → Prop} {d : Nat} (hA : ∀ u t, A u t → Us (skP (d + 1)) 41 u) {u : List UInt8} {ks : List RT} (h : Ca A u ks) : Us (skP (d + 2)) 124 u := by
  induction h with
  | nil => exact .nil
  | snoc _ k ih =>
    refine ih.app ?_
    clear ih
    induction k with
    | pc h =>
      obtain ⟨b, x, rfl, _, q1, _, _, _, _, q2⟩ := pc_skip hA h
      exact us_one q1 q2
    | ct _ k ih => exact ih.app (us_bytes _ (fun b hb => by have := ct_bytes k b hb; exact ⟨this.2.2.2.2, this.2.1, this.2.2.1, this.2.2.2.1⟩))
theorem ba_us {d : Nat} {u : List UInt8} (h : Us (skP d) 124 u) : ∃ m, m ≤ u.length ∧ ∀ (pre r : List UInt8) (k f : Nat) (ps : List (List UInt8)), baL d (pre ++ (u ++ r)) (k + m) pre.length f ps = baL d (pre ++ (u ++ r)) k (pre.length + u.length) f ps := by
  induction h with
  | nil => exact ⟨0, Nat.le_refl _, fun _ _ _ _ _ => rfl⟩
  | @cons b x u h1 h2 _ ih =>
    obtain ⟨m, hm, ih⟩ := ih
    refine ⟨m + 1, by simp; omega, fun pre r k f ps => ?_⟩
    have hn : nx (pre ++ (b :: x ++ u ++ r)) pre.length = b.toNat := by rw [nx_app]; rfl
    have e : pre ++ (b :: x ++ u ++ r) = (pre ++ b :: x) ++ (u ++ r) := by simp
    rw [show k + (m + 1) = (k + m) + 1 from rfl]
    conv => lhs; unfold baL
    rw [if_neg (by simp), List.drop_left, List.append_assoc (b :: x) u r, h2]
    simp only
    rw [← List.append_assoc (b :: x) u r, hn, if_neg h1, if_neg h1, e, show pre.length + (x.length + 1) = (pre ++ b :: x).length by simp, ih]
    rw [show (pre ++ b :: x).length + u.length = pre.length + (b :: x ++ u).length by simp; omega]
theorem aa_run {A : List UInt8 → RT → Prop} {R : List UInt8 → Option RT} {d : Nat} (hA : ∀ u t, A u t → Us (skP (d + 1)) 41 u) (hR : ∀ u t, A u t → R u = some t) {w : List UInt8} {ts : List RT} (h : Aa A w ts) : ∃ m f ps, m ≤ w.length ∧ f ≤ w.length ∧ alP (caP R (d + 2)) (ps ++ [w.drop f]) = some ts ∧ (ps = [] → f = 0) ∧ (ps ++ [w.drop f]).length = ts.length ∧ ∀ k r, baL (d + 2) (w ++ r) (k + m) 0 0 [] = baL (d + 2) (w ++ r) k w.length f ps := by
  induction h with
  | @one u ks h =>
    obtain ⟨m, hm, hb⟩ := ba_us (bu_ca hA h)
    refine ⟨m, 0, [], hm, Nat.zero_le _, ?_, fun _ => rfl, rfl, fun k r => ?_⟩
    · show alP _ [u] = _
      unfold alP
      rw [caP_of hA hR h]
      rfl
    · have := hb [] r k 0 []
      rw [show ([] : List UInt8).length + u.length = u.length by simp] at this
      exact this
  | @more u v ts ks _ h ih =>
    obtain ⟨m, f, ps, hm, hf, ha, _, hl, ih⟩ := ih
    obtain ⟨n, hn, hb⟩ := ba_us (bu_ca hA h)
    refine ⟨n + 1 + m, u.length + 1, ps ++ [u.drop f], by simp; omega, by simp, ?_, fun e => absurd e (by simp), ?_, fun k r => ?_⟩
    · have e : (u ++ 124 :: v).drop (u.length + 1) = v := by
        rw [show u ++ 124 :: v = (u ++ [124]) ++ v by simp, show u.length + 1 = (u ++ [124]).length by simp, List.drop_left]
      rw [e]
      refine alP_app _ ha ?_
      unfold alP
      rw [caP_of hA hR h]
      rfl
    · rw [List.length_append, hl]
      simp
    · have e : u ++ 124 :: v ++ r = u ++ (124 :: (v ++ r)) := by simp
      rw [e, show k + (n + 1 + m) = (k + n + 1) + m by omega, ih]
      have hx : nx (u ++ 124 :: (v ++ r)) u.length = 124 := by rw [nx_app]; rfl
      conv => lhs; unfold baL
      rw [if_neg (by simp), List.drop_left, show skP (d + 2) (124 :: (v ++ r)) = some 1 from sk_byte (by decide) (d + 1) _]
      simp only
      rw [hx, if_pos rfl, if_pos rfl]
      have e2 : ((u ++ 124 :: (v ++ r)).drop f).take (u.length - f) = u.drop f := by
        rw [List.drop_append_of_le_length hf, show u.length - f = (u.drop f).length by simp, List.take_left]
      have e3 : u ++ 124 :: (v ++ r) = (u ++ [124]) ++ (v ++ r) := by simp
      rw [e2, e3, show u.length + 1 = (u ++ [124]).length by simp, hb]
      have e9 : (u ++ [(124 : UInt8)]).length + v.length = (u ++ (124 : UInt8) :: v).length := by simp; omega
      rw [e9]
theorem reP_of : ∀ (d : Nat) (u : List UInt8) (t : RT), Ad d u t → reP d u = some t
  | 0, _, _, h => h.elim
  | d + 1, u, t, ⟨ts, h, e⟩ => by
    subst e
    have hA := us_ad d
    have hR := reP_of d
    obtain ⟨m, f, ps, hm, hf, ha, h0, hl, hr⟩ := aa_run hA hR h
    obtain ⟨q, hq⟩ : ∃ q, u.length + 1 = (q + 1) + m := ⟨u.length - m, by omega⟩
    have hb := hr (q + 1) []
    rw [List.append_nil] at hb
    have he : baL (d + 2) u (q + 1) u.length f ps = some (ps, f) := by
      unfold baL
      rw [if_pos (Nat.le_refl _)]
    unfold reP
    rw [hq, hb, he]
    simp only
    cases ps with
    | nil =>
      have hf0 := h0 rfl
      subst hf0
      rw [if_pos (show ([] : List (List UInt8)).length = 0 from rfl)]
      cases h with
      | one h =>
        rw [caP_of hA hR h]
        rfl
      | @more _ _ ts' _ h' _ =>
        exfalso
        cases h' <;> simp at hl
    | cons p ps =>
      rw [if_neg (by simp), ha]
      simp only [Option.map_some, Option.some.injEq]
      simp only [List.cons_append, List.length_cons, List.length_append] at hl
      match ts, hl with
      | [], hl => simp at hl
      | [_], hl => simp at hl
      | _ :: _ :: _, _ => rfl
/-- What is parsed is what the reference answers. -/
theorem ref_parse {l : List UInt8} {t : RT} (h : pParse l = .ok t) : reP 33 l = some t := reP_of 33 l t (parse_of h)
end Go.Proofs.YtplldfbjbekdlaaDoor
