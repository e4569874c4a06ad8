/- tree: the text of what is parsed is what was parsed. -/
import Derived.Test.YtdhipmdapodpkaaTrW
namespace Go.Proofs.Ytdhipmdapodpkaa
set_option linter.unusedSimpArgs false
set_option linter.unusedVariables false

theorem drop_nx {l : List UInt8} {i k : Nat} (h : nx l i = k) (hk : k ≠ 0) : l.drop i = k.toUInt8 :: l.drop (i + 1) := by
  have hi := nx_lt (l := l) (i := i) (by rw [h]; exact hk)
  rw [List.drop_eq_getElem_cons hi]
  congr 1
  rw [← h, nx_at hi]
  simp
theorem dec_text {l : List UInt8} {i n j : Nat} (h : pNumT l i = .ok (n, j)) : l.drop i = decL n ++ l.drop j := by
  obtain ⟨h1, h2, h3, h4, h5, h6⟩ := pNumT_lt h
  have h7 : decL n = digs l i := by
    unfold decL
    rw [isLen_one (lenN_isLen n) (by rw [← h5]; exact wrt_isLen _ h4), ← h5]
    exact lastD_valL _ h4.1
  rw [h7]
  unfold digs
  rw [← h6]
  conv => lhs; rw [← List.take_append_drop (j - i) (l.drop i)]
  rw [List.drop_drop, show i + (j - i) = j by omega]
theorem hex_back : ∀ c : Fin 256, hexI c.val ≠ -1 → (hexD (hexI c.val).toNat).toNat = c.val := by decide +kernel
theorem hex_of {l : List UInt8} {i : Nat} (h : hexI (nx l i) ≠ -1) : l.drop i = hexD (hexI (nx l i)).toNat :: l.drop (i + 1) := by
  have h1 := hex_back ⟨nx l i, nx_byte l i⟩ h
  have h2 : nx l i ≠ 0 := fun e => h (by rw [e]; exact hexI_zero)
  rw [drop_nx rfl h2]
  congr 1
  have h3 := congrArg Nat.toUInt8 h1
  simp only at h3
  rw [← h3]
  simp
theorem hexL_snoc (d : List UInt8) (c : UInt8) : hexL (d ++ [c]) = hexL d ++ [hexD (c.toNat / 16), hexD (c.toNat % 16)] := by
  unfold hexL; simp
theorem dat_text {l : List UInt8} : ∀ {k : Nat} {acc : List UInt8} {i : Nat} {ds : List UInt8} {j : Nat}, pDatL l k acc i = .ok (ds, j) → hexL acc ++ l.drop i = hexL ds ++ l.drop j := by
  intro k
  induction k with
  | zero => intro acc i ds j h; cases h
  | succ k ih =>
    intro acc i ds j h
    unfold pDatL at h
    split at h
    · split at h
      · cases h
      · split at h
        · cases h
        · rename_i h1 h2
          have h4 := ih h
          rw [← h4, hexL_snoc, hex_of h1, hex_of h2]
          have r1 := hexI_rng l i
          have r2 := hexI_rng l (i + 1)
          have e1 : ((16 * hexI (nx l i) + hexI (nx l (i + 1))).toNat.toUInt8).toNat = 16 * (hexI (nx l i)).toNat + (hexI (nx l (i + 1))).toNat := by
            rw [show (16 * hexI (nx l i) + hexI (nx l (i + 1))).toNat = 16 * (hexI (nx l i)).toNat + (hexI (nx l (i + 1))).toNat by omega]
            exact Nat.mod_eq_of_lt (by omega)
          rw [e1, show (16 * (hexI (nx l i)).toNat + (hexI (nx l (i + 1))).toNat) / 16 = (hexI (nx l i)).toNat by omega, show (16 * (hexI (nx l i)).toNat + (hexI (nx l (i + 1))).toNat) % 16 = (hexI (nx l (i + 1))).toNat by omega]
          simp [show i + 1 + 1 = i + 2 by omega]
    · simp only [Except.ok.injEq, Prod.mk.injEq] at h
      obtain ⟨rfl, rfl⟩ := h
      rfl
theorem datO_text {l : List UInt8} {i : Nat} {ds : List UInt8} {j : Nat} (h : pDatO l i = .ok (ds, j)) : l.drop i = hexS ds ++ l.drop j := by
  unfold pDatO at h
  split at h
  · rename_i hc
    have h1 := pDatL_lt h
    have h2 := dat_text h
    unfold hexS
    rw [if_neg (by rw [h1.1]; simp), drop_nx hc (by decide)]
    rw [show hexL [] = [] from rfl, List.nil_append] at h2
    rw [h2]
    rfl
  · simp only [Except.ok.injEq, Prod.mk.injEq] at h
    obtain ⟨rfl, rfl⟩ := h
    rfl
theorem dpL_app_le (d : Nat) : ∀ (a b : List TT), dpL a ≤ d → dpL b ≤ d → dpL (a ++ b) ≤ d
  | [], b, _, h => h
  | x :: a, b, h, h2 => by
    rw [List.cons_append, dpL]
    rw [dpL] at h
    have := dpL_app_le d a b (by omega) h2
    omega
theorem part_text {l : List UInt8} {d : Nat} {E : Nat → Except Nat (TT × Nat)} (hE : ∀ i t j, E i = .ok (t, j) → l.drop i = textT t ++ l.drop j ∧ dpT t ≤ d) : ∀ {k : Nat} {acc : List TT} {i : Nat} {ks : List TT} {j : Nat}, pPartL l E k acc i = .ok (ks, j) →
    ∃ ts, ks = acc ++ ts ∧ ts ≠ [] ∧ dpL ts ≤ d ∧ ∀ sg : UInt8, sg :: l.drop i = textS sg ts ++ (41 :: l.drop j) := by
  intro k
  induction k with
  | zero => intro acc i ks j h; cases h
  | succ k ih =>
    intro acc i ks j h
    unfold pPartL at h
    split at h
    · cases h
    · rename_i t j' he
      obtain ⟨h1, h2⟩ := hE _ _ _ he
      split at h
      · rename_i hc
        simp only [Except.ok.injEq, Prod.mk.injEq] at h
        obtain ⟨rfl, rfl⟩ := h
        refine ⟨[t], rfl, by simp, by simp only [dpL]; omega, fun sg => ?_⟩
        rw [h1, drop_nx hc (by decide)]
        simp [textS]
      · split at h
        · rename_i hc
          obtain ⟨ts, e, hne, hd, ht⟩ := ih h
          refine ⟨t :: ts, by rw [e]; simp, by simp, by simp only [dpL]; omega, fun sg => ?_⟩
          have h3 := ht 44
          rw [h1, drop_nx hc (by decide), textS, List.cons_append, List.append_assoc, ← h3]
          rfl
        · cases h
theorem tree_text {l : List UInt8} : ∀ (d : Nat) {i : Nat} {t : TT} {j : Nat}, pTree l d i = .ok (t, j) → l.drop i = textT t ++ l.drop j ∧ dpT t ≤ d := by
  intro d
  induction d with
  | zero =>
    intro i t j h
    unfold pTree at h
    split at h <;> cases h
  | succ d ih =>
    intro i t j h
    unfold pTree at h
    split at h
    · cases h
    · split at h
      · cases h
      · rename_i n i2 hn
        have h1 := dec_text hn
        split at h
        · cases h
        · rename_i ds i3 hd
          have h2 := datO_text hd
          split at h
          · cases h
          · rename_i ks i4 hk
            simp only [Except.ok.injEq, Prod.mk.injEq] at h
            obtain ⟨rfl, rfl⟩ := h
            have h3 : l.drop i3 = (if ks.isEmpty = true then [] else textS 40 ks ++ [41]) ++ l.drop i4 ∧ dpL ks ≤ d := by
              unfold pPartO at hk
              split at hk
              · rename_i hc
                obtain ⟨ts, e, hne, hdd, ht⟩ := part_text (fun i t j h => ih h) hk
                rw [List.nil_append] at e
                subst e
                refine ⟨?_, hdd⟩
                rw [drop_nx hc (by decide), if_neg (by simpa using hne), List.append_assoc]
                exact ht 40
              · simp only [Except.ok.injEq, Prod.mk.injEq] at hk
                obtain ⟨rfl, rfl⟩ := hk
                exact ⟨rfl, by simp [dpL]⟩
            refine ⟨?_, by rw [dpT]; omega⟩
            rw [textT]
            simp only [List.append_assoc]
            rw [← h3.1, ← h2, ← h1]
            by_cases hb : nx l i = 95
            · rw [if_pos hb, if_pos (by simpa using hb), drop_nx hb (by decide)]
              rfl
            · rw [if_neg hb, if_neg (by simpa using hb)]
              rfl
/-- What is parsed has that text, and is nested no deeper than 400. -/
theorem parse_text {l : List UInt8} {t : TT} (h : pParse l = .ok t) : textT t = l ∧ dpT t ≤ 400 := by
  unfold pParse at h
  split at h
  · cases h
  · split at h
    · cases h
    · rename_i t' i hp
      split at h
      · cases h
      · rename_i hi
        simp only [Except.ok.injEq] at h
        subst h
        have h1 := tree_text 400 hp
        rw [List.drop_zero, List.drop_eq_nil_of_le (by omega), List.append_nil] at h1
        exact ⟨h1.1.symm, h1.2⟩
end Go.Proofs.Ytdhipmdapodpkaa
