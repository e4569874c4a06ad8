/- lex: two texts with a line end between: plain mathematics. -/
import Derived.Test.YtmefllfmcjjbaaaLxP
namespace Go.Proofs.Ytmefllfmcjjbaaa

/-- How many rounds are granted doesn't matter. -/
theorem scan_fuel : ∀ (m m' : Nat) (r : List UInt8) (p n : Nat), r.length < m → r.length < m' → scanF m r p n = scanF m' r p n
  | 0, _, _, _, _, h, _ => absurd h (by omega)
  | m + 1, m', r, p, n, h, h' => by
    obtain ⟨m', rfl⟩ : ∃ q, m' = q + 1 := ⟨m' - 1, by omega⟩
    rw [scanF_succ, scanF_succ]
    by_cases he : r.drop (gap false r) = []
    · rw [he, scanG_end, scanG_end]
    · by_cases hn : n = 8192
      · rw [hn, scanG_full he, scanG_full he]
      · cases hf : front (r.drop (gap false r)) with
        | error e => rw [scanG_bad he hn hf, scanG_bad he hn hf]
        | ok v =>
          obtain ⟨k, x, j⟩ := v
          have hfl := front_len hf
          rw [List.length_drop] at hfl
          rw [scanG_ok he hn hf, scanG_ok he hn hf, scan_fuel m m' _ _ _ (by rw [List.length_drop, List.length_drop]; omega) (by rw [List.length_drop, List.length_drop]; omega)]
/-- The same tokens, so many bytes later. -/
def Shift (d : Nat) : Except (Nat × Nat) (List Tk) → Except (Nat × Nat) (List Tk) → Prop
  | .error (c, q), r => r = .error (c, q + d)
  | .ok ts, r => ∃ us, r = .ok us ∧ Alike us ts
theorem Alike.cons {a b : List Tk} (h : Alike a b) (k p q : Nat) (x : List UInt8) : Alike (⟨k, p, x⟩ :: a) (⟨k, q, x⟩ :: b) := by
  unfold Alike at h ⊢
  rw [List.map_cons, h]
  rfl
theorem Alike.app {a b c d : List Tk} (h : Alike a b) (h2 : Alike c d) : Alike (a ++ c) (b ++ d) := by
  unfold Alike at h h2 ⊢
  rw [List.map_append, List.map_append, h, h2]
theorem Alike.refl (a : List Tk) : Alike a a := rfl
theorem scan_shift (d : Nat) : ∀ (m : Nat) (r : List UInt8) (p n n' : Nat), r.length < m → n + r.length < 8192 → n' + r.length < 8192 → Shift d (scanF m r p n) (scanF m r (p + d) n')
  | 0, _, _, _, _, h, _, _ => absurd h (by omega)
  | m + 1, r, p, n, n', h, hn, hn' => by
    rw [scanF_succ, scanF_succ]
    by_cases he : r.drop (gap false r) = []
    · rw [he, scanG_end, scanG_end]
      exact ⟨_, rfl, rfl⟩
    · cases hf : front (r.drop (gap false r)) with
      | error e =>
        rw [scanG_bad he (by omega) hf, scanG_bad he (by omega) hf]
        show Except.error (e, p + d + gap false r) = Except.error (e, p + gap false r + d)
        rw [show p + d + gap false r = p + gap false r + d by omega]
      | ok v =>
        obtain ⟨k, x, j⟩ := v
        have hfl := front_len hf
        rw [List.length_drop] at hfl
        have hl : ((r.drop (gap false r)).drop j).length + 1 ≤ r.length := by rw [List.length_drop, List.length_drop]; omega
        have ih := scan_shift d m ((r.drop (gap false r)).drop j) (p + gap false r + j) (n + 1) (n' + 1) (by omega) (by omega) (by omega)
        rw [scanG_ok he (by omega) hf, scanG_ok he (by omega) hf, show p + d + gap false r + j = p + gap false r + j + d by omega]
        generalize scanF m ((r.drop (gap false r)).drop j) (p + gap false r + j) (n + 1) = R at *
        generalize scanF m ((r.drop (gap false r)).drop j) (p + gap false r + j + d) (n' + 1) = R' at *
        cases R with
        | error e =>
          obtain ⟨c, q⟩ := e
          have ih : R' = .error (c, q + d) := ih
          rw [ih]
          rfl
        | ok ts =>
          obtain ⟨us, ih, h2⟩ := ih
          rw [ih]
          exact ⟨_, rfl, h2.cons _ _ _ _⟩
theorem gap_app : ∀ (b : Bool) (r t : List UInt8), gap b (r ++ 10 :: t) = if gap b r = r.length then r.length + 1 + gap false t else gap b r
  | b, [], t => by
    rw [List.nil_append, gap_cons, if_pos (by decide), if_pos (show gap b [] = ([] : List UInt8).length by cases b <;> rfl), List.length_nil]
    omega
  | b, c :: r, t => by
    have h1 := gap_app false r t
    have h2 := gap_app b r t
    have h3 := gap_app true r t
    have g1 := gap_le false r
    have g2 := gap_le b r
    have g3 := gap_le true r
    rw [List.cons_append, gap_cons, gap_cons, List.length_cons]
    by_cases c1 : c.toNat = 10
    · rw [if_pos c1, if_pos c1, h1]
      by_cases e : gap false r = r.length
      · rw [if_pos e, if_pos (by omega)]; omega
      · rw [if_neg e, if_neg (by omega)]
    · rw [if_neg c1, if_neg c1]
      by_cases c2 : b = true ∨ c.toNat = 32 ∨ c.toNat = 9 ∨ c.toNat = 13
      · rw [if_pos c2, if_pos c2, h2]
        by_cases e : gap b r = r.length
        · rw [if_pos e, if_pos (by omega)]; omega
        · rw [if_neg e, if_neg (by omega)]
      · rw [if_neg c2, if_neg c2]
        by_cases c3 : c.toNat = 35
        · rw [if_pos c3, if_pos c3, h3]
          by_cases e : gap true r = r.length
          · rw [if_pos e, if_pos (by omega)]; omega
          · rw [if_neg e, if_neg (by omega)]
        · rw [if_neg c3, if_neg c3, if_neg (by omega)]
theorem span_app2 {p : UInt8 → Bool} (h10 : p 10 = false) (t : List UInt8) : ∀ r, span p (r ++ 10 :: t) = span p r
  | [] => by rw [List.nil_append, span_cons, h10, if_neg (by decide)]; rfl
  | c :: r => by rw [List.cons_append, span_cons, span_cons, span_app2 h10 t r]
/-- Where a token begins, a line end further on changes nothing. -/
theorem front_app {r : List UInt8} (h : r ≠ []) (t : List UInt8) : front (r ++ 10 :: t) = front r := by
  cases r with
  | nil => exact absurd rfl h
  | cons c r =>
    have s1 := span_app2 (p := namB) (by decide) t (c :: r)
    have s2 := span_app2 (p := digB) (by decide) t (c :: r)
    have s3 := span_app2 (p := patB) (by decide) t r
    have l1 := span_le namB (c :: r)
    have l2 := span_le digB (c :: r)
    have l3 := span_le patB r
    rw [List.cons_append] at s1 s2
    have t1 : (c :: (r ++ 10 :: t)).take (span namB (c :: r)) = (c :: r).take (span namB (c :: r)) := by rw [← List.cons_append, List.take_append_of_le_length l1]
    have t2 : (c :: (r ++ 10 :: t)).take (span digB (c :: r)) = (c :: r).take (span digB (c :: r)) := by rw [← List.cons_append, List.take_append_of_le_length l2]
    have t3 : (r ++ 10 :: t).take (span patB r) = r.take (span patB r) := List.take_append_of_le_length l3
    have t4 : ((r ++ 10 :: t).drop (span patB r)).head? = some 47 ↔ (r.drop (span patB r)).head? = some 47 := by
      rw [List.drop_append_of_le_length l3]
      cases r.drop (span patB r) with
      | nil => simp
      | cons a u => rfl
    have t5 : (c.toNat = 46 ∧ (r ++ 10 :: t).head? = some 46) ↔ (c.toNat = 46 ∧ r.head? = some 46) := by
      cases r with
      | nil => simp
      | cons a u => rfl
    rw [List.cons_append, front_cons, front_cons, s1, s2, s3, t1, t2, t3]
    simp only [t4, t5]
/-- What the tokens of both are. -/
theorem scan_pair (b : List UInt8) : ∀ (m : Nat) (r : List UInt8) (p n : Nat), r.length + b.length + 1 < m → n + r.length < 8192 → match scanF m r p n with
    | .error e => scanF m (r ++ 10 :: b) p n = .error e
    | .ok ts => ∃ gs e, ts = gs ++ [e] ∧ gs.length ≤ r.length ∧ scanF m (r ++ 10 :: b) p n = thenR gs (scanF m b (p + r.length + 1) (n + gs.length))
  | 0, _, _, _, h, _ => absurd h (by omega)
  | m + 1, r, p, n, h, hn => by
    have hg := gap_le false r
    rw [scanF_succ (r := r), scanF_succ (r := r ++ 10 :: b), gap_app]
    by_cases he : gap false r = r.length
    · rw [if_pos he, he, List.drop_eq_nil_of_le (Nat.le_refl _), scanG_end]
      refine ⟨[], ⟨5, p + r.length, []⟩, rfl, by simp, ?_⟩
      have hd : (r ++ 10 :: b).drop (r.length + 1 + gap false b) = b.drop (gap false b) := by
        rw [show r.length + 1 + gap false b = r.length + (1 + gap false b) by omega, ← List.drop_drop, List.drop_left, show 1 + gap false b = gap false b + 1 by omega, List.drop_succ_cons]
      rw [hd, thenR_nil, scanF_succ (r := b), show p + (r.length + 1 + gap false b) = p + r.length + 1 + gap false b by omega]
      rfl
    · rw [if_neg he]
      have hne : r.drop (gap false r) ≠ [] := by
        intro e
        have := congrArg List.length e
        rw [List.length_drop, List.length_nil] at this
        omega
      have hd : (r ++ 10 :: b).drop (gap false r) = r.drop (gap false r) ++ 10 :: b := List.drop_append_of_le_length hg
      have hne2 : r.drop (gap false r) ++ 10 :: b ≠ [] := by simp
      rw [hd]
      cases hf : front (r.drop (gap false r)) with
      | error e =>
        rw [scanG_bad hne (by omega) hf]
        show scanG m (r.drop (gap false r) ++ 10 :: b) _ _ = _
        rw [scanG_bad hne2 (by omega) ((front_app hne b).trans hf)]
      | ok v =>
        obtain ⟨k, x, j⟩ := v
        have hfl := front_len hf
        rw [List.length_drop] at hfl
        have hd2 : (r.drop (gap false r) ++ 10 :: b).drop j = (r.drop (gap false r)).drop j ++ 10 :: b := List.drop_append_of_le_length (by rw [List.length_drop]; omega)
        have hlr : ((r.drop (gap false r)).drop j).length = r.length - gap false r - j := by rw [List.length_drop, List.length_drop]
        have ih := scan_pair b m ((r.drop (gap false r)).drop j) (p + gap false r + j) (n + 1) (by omega) (by omega)
        rw [scanG_ok hne (by omega) hf, scanG_ok hne2 (by omega) ((front_app hne b).trans hf), hd2]
        generalize scanF m ((r.drop (gap false r)).drop j) (p + gap false r + j) (n + 1) = R at *
        cases R with
        | error _ =>
          have ih : scanF m ((r.drop (gap false r)).drop j ++ 10 :: b) (p + gap false r + j) (n + 1) = _ := ih
          rw [ih]
          rfl
        | ok ts =>
          obtain ⟨gs, e, h1, h2, h3⟩ := ih
          rw [h3]
          refine ⟨⟨k, p + gap false r, x⟩ :: gs, e, by rw [h1]; rfl, by simp only [List.length_cons]; omega, ?_⟩
          rw [thenR_then, show p + gap false r + j + ((r.drop (gap false r)).drop j).length + 1 = p + r.length + 1 by omega, scan_fuel m (m + 1) b _ _ (by omega) (by omega)]
          show thenR _ _ = thenR _ _
          rw [show n + 1 + gs.length = n + ((⟨k, p + gap false r, x⟩ : Tk) :: gs).length by simp only [List.length_cons]; omega]
          rfl
/-- The tokens of two texts, a line end between. -/
theorem pair_scan (a b : List UInt8) (ha : a.length ≤ 1500) (hb : b.length ≤ 1500) : match scanT a with
    | .error _ => ∃ e', scanT (a ++ 10 :: b) = .error e'
    | .ok ts => ∃ gs e, ts = gs ++ [e] ∧ match scanT b with
      | .error (c, q) => scanT (a ++ 10 :: b) = .error (c, q + (a.length + 1))
      | .ok us => ∃ vs, scanT (a ++ 10 :: b) = .ok vs ∧ Alike vs (gs ++ us) := by
  have hl : (a ++ 10 :: b).length = a.length + b.length + 1 := by simp; omega
  have h1 : scanT a = scanF (a.length + b.length + 3) a 0 0 := by
    unfold scanT
    rw [if_neg (by omega)]
    exact scan_fuel _ _ _ _ _ (by omega) (by omega)
  have h2 : scanT b = scanF (a.length + b.length + 3) b 0 0 := by
    unfold scanT
    rw [if_neg (by omega)]
    exact scan_fuel _ _ _ _ _ (by omega) (by omega)
  have h3 : scanT (a ++ 10 :: b) = scanF (a.length + b.length + 3) (a ++ 10 :: b) 0 0 := by
    unfold scanT
    rw [if_neg (by omega), hl]
  have hp := scan_pair b (a.length + b.length + 3) a 0 0 (by omega) (by omega)
  rw [h1, h2, h3]
  generalize scanF (a.length + b.length + 3) a 0 0 = R at *
  cases R with
  | error e => exact ⟨e, hp⟩
  | ok ts =>
    obtain ⟨gs, e, k1, k2, k3⟩ := hp
    refine ⟨gs, e, k1, ?_⟩
    have hs := scan_shift (a.length + 1) (a.length + b.length + 3) b 0 0 (0 + gs.length) (by omega) (by omega) (by omega)
    rw [k3, show 0 + a.length + 1 = 0 + (a.length + 1) by omega]
    generalize scanF (a.length + b.length + 3) b 0 0 = R at *
    generalize scanF (a.length + b.length + 3) b (0 + (a.length + 1)) (0 + gs.length) = R' at *
    cases R with
    | error e =>
      obtain ⟨c, q⟩ := e
      have hs : R' = .error (c, q + (a.length + 1)) := hs
      rw [hs]
      rfl
    | ok us =>
      obtain ⟨vs, hs, h4⟩ := hs
      rw [hs]
      exact ⟨gs ++ vs, rfl, (Alike.refl gs).app h4⟩
end Go.Proofs.Ytmefllfmcjjbaaa
