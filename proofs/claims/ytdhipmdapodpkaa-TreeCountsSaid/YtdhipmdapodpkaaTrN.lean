/- tree: a tree's text is parsed as it; how long and how deep a tree is that the law calls few. -/
import Derived.Test.YtdhipmdapodpkaaTrM
import Derived.Test.YtdhipmdapodpkaaTrH
namespace Go.Proofs.Ytdhipmdapodpkaa
set_option linter.unusedSimpArgs false
set_option linter.unusedVariables false
open Go.RowKit

theorem nx_cons {l : List UInt8} {i : Nat} {c : UInt8} {r : List UInt8} (h : l.drop i = c :: r) : nx l i = c.toNat ∧ l.drop (i + 1) = r ∧ i < l.length := by
  have hi : i < l.length := by
    rcases Nat.lt_or_ge i l.length with h1 | h1
    · exact h1
    · rw [List.drop_eq_nil_of_le h1] at h; cases h
  rw [List.drop_eq_getElem_cons hi] at h
  injection h with h1 h2
  exact ⟨by rw [nx_at hi, h1], h2, hi⟩
theorem nx_nil {l : List UInt8} {i : Nat} (h : l.drop i = []) : nx l i = 0 := nx_end (List.drop_eq_nil_iff.1 h)
theorem drop_past {l a r : List UInt8} {i : Nat} (h : l.drop i = a ++ r) : l.drop (i + a.length) = r := by
  rw [← List.drop_drop, h, List.drop_left]
theorem len_of {l a r : List UInt8} {i : Nat} (h : l.drop i = a ++ r) : a.length < l.length + 1 := by
  have := congrArg List.length h
  rw [List.length_drop, List.length_append] at this
  omega
theorem digEnd_run {l r : List UInt8} (hs : ∀ i, l.drop i = r → digC (nx l i) = false) : ∀ (ds : List UInt8) (i k : Nat), l.drop i = ds ++ r → (∀ c ∈ ds, isDig c) → ds.length < k → digEnd l k i = i + ds.length
  | ds, i, 0, _, _, hk => by omega
  | [], i, k + 1, h, _, _ => by
    unfold digEnd
    rw [if_neg (by rw [hs i h]; simp)]
    rfl
  | c :: ds, i, k + 1, h, hd, hk => by
    obtain ⟨h1, h2, _⟩ := nx_cons (r := ds ++ r) h
    have hc := hd c List.mem_cons_self
    unfold digEnd
    rw [if_pos (by rw [h1, digC_iff]; exact hc), digEnd_run hs ds (i + 1) k h2 (fun c hc => hd c (List.mem_cons_of_mem _ hc)) (by simpa using hk)]
    rw [List.length_cons]
    omega
theorem num_back {l r : List UInt8} {i n : Nat} (h : l.drop i = decL n ++ r) (hs : ∀ i, l.drop i = r → digC (nx l i) = false) (hn : n < 18446744073709551616) : pNumT l i = .ok (n, i + (decL n).length) := by
  obtain ⟨hw, hv⟩ := isLen_wrt n (lenN n) (lenN_isLen n)
  have he := digEnd_run hs (decL n) i (l.length + 1) h hw.1 (len_of h)
  have hg : digs l i = decL n := by
    unfold digs
    rw [he, h, Nat.add_sub_cancel_left, List.take_left]
  have hw' : Wrt (decL n) := hw
  have hv' : valL (decL n) = n := hv
  unfold pNumT
  rw [hg, if_neg (by rw [(wrtB_iff _ hw'.1).2 hw']; simp), hv', if_pos hn, he]
theorem hex_fin : ∀ k : Fin 16, hexI (hexD k.val).toNat = (k.val : Int) := by decide +kernel
theorem hexL_len (d : List UInt8) : (hexL d).length = 2 * d.length := by
  induction d with
  | nil => rfl
  | cons c d ih => unfold hexL at *; rw [List.flatMap_cons, List.length_append, ih]; simp only [List.length_cons, List.length_nil]; omega
theorem datL_back {l r : List UInt8} (hs : ∀ i, l.drop i = r → hexI (nx l i) = -1) : ∀ (ds acc : List UInt8) (i k : Nat), l.drop i = hexL ds ++ r → (acc ≠ [] ∨ ds ≠ []) → ds.length < k → pDatL l k acc i = .ok (acc ++ ds, i + 2 * ds.length)
  | ds, acc, i, 0, _, _, hk => by omega
  | [], acc, i, k + 1, h, ha, _ => by
    unfold pDatL
    rw [if_neg]
    · simp
    · rintro (h1 | h1)
      · rcases ha with ha | ha
        · cases acc with
          | nil => exact ha rfl
          | cons _ _ => cases h1
        · exact ha rfl
      · exact h1 (hs i h)
  | c :: ds, acc, i, k + 1, h, ha, hk => by
    have h0 : l.drop i = hexD (c.toNat / 16) :: hexD (c.toNat % 16) :: (hexL ds ++ r) := h
    obtain ⟨a1, a2, _⟩ := nx_cons h0
    obtain ⟨b1, b2, _⟩ := nx_cons a2
    have hc := c.toNat_lt
    have e1 : hexI (nx l i) = ((c.toNat / 16 : Nat) : Int) := by rw [a1]; exact hex_fin ⟨c.toNat / 16, by omega⟩
    have e2 : hexI (nx l (i + 1)) = ((c.toNat % 16 : Nat) : Int) := by rw [b1]; exact hex_fin ⟨c.toNat % 16, by omega⟩
    have e3 : (16 * ((c.toNat / 16 : Nat) : Int) + ((c.toNat % 16 : Nat) : Int)).toNat.toUInt8 = c := by
      rw [show (16 * ((c.toNat / 16 : Nat) : Int) + ((c.toNat % 16 : Nat) : Int)).toNat = c.toNat by omega]
      exact UInt8.ofNat_toNat
    unfold pDatL
    rw [if_pos (.inr (by rw [e1]; omega)), if_neg (by rw [e1]; omega), if_neg (by rw [e2]; omega), e1, e2, e3, datL_back hs ds (acc ++ [c]) (i + 2) k b2 (.inl (by simp)) (by simpa using hk)]
    rw [List.append_assoc, List.length_cons]
    simp only [List.cons_append, List.nil_append, Except.ok.injEq, Prod.mk.injEq, true_and]
    omega
theorem datO_back {l r ds : List UInt8} {i : Nat} (h : l.drop i = hexS ds ++ r) (hs : ∀ i, l.drop i = r → hexI (nx l i) = -1 ∧ nx l i ≠ 58) : pDatO l i = .ok (ds, i + (hexS ds).length) := by
  unfold pDatO
  cases ds with
  | nil =>
    have h : l.drop i = r := h
    rw [if_neg (hs i h).2]
    rfl
  | cons c ds =>
    have h' : l.drop i = 58 :: (hexL (c :: ds) ++ r) := h
    obtain ⟨a1, a2, _⟩ := nx_cons h'
    have hl := len_of a2
    rw [hexL_len] at hl
    rw [if_pos (show nx l i = 58 from a1)]
    unfold pDat
    rw [datL_back (fun i h => (hs i h).1) (c :: ds) [] (i + 1) _ a2 (.inr (by simp)) (by omega)]
    have : (hexS (c :: ds)).length = 2 * (c :: ds).length + 1 := by
      show (58 :: hexL (c :: ds)).length = _
      rw [List.length_cons, hexL_len]
    rw [this, List.nil_append]
    simp only [Except.ok.injEq, Prod.mk.injEq, true_and]
    omega
/-- What may stand behind a tree's text. -/
def Behind (r : List UInt8) : Prop := ∀ c r', r = c :: r' → c = 41 ∨ c = 44
theorem Behind.nil : Behind [] := fun c r' e => by cases e
theorem Behind.close (r : List UInt8) : Behind (41 :: r) := fun c r' e => by injection e with e; exact .inl e.symm
theorem Behind.comma (r : List UInt8) : Behind (44 :: r) := fun c r' e => by injection e with e; exact .inr e.symm
theorem Behind.nx {l r : List UInt8} {i : Nat} (hB : Behind r) (h : l.drop i = r) : nx l i = 0 ∨ nx l i = 41 ∨ nx l i = 44 := by
  cases r with
  | nil => exact .inl (nx_nil h)
  | cons c r =>
    have h1 := (nx_cons h).1
    rcases hB c r rfl with rfl | rfl
    · exact .inr (.inl h1)
    · exact .inr (.inr h1)
theorem partL_back {l : List UInt8} {E : Nat → Except Nat (TT × Nat)} : ∀ (ts : List TT) (t : TT) (acc : List TT) (i k : Nat) (r : List UInt8), (∀ x ∈ t :: ts, ∀ i r, Behind r → l.drop i = textT x ++ r → E i = .ok (x, i + (textT x).length)) → l.drop i = textT t ++ (textS 44 ts ++ 41 :: r) → ts.length < k →
    pPartL l E k acc i = .ok (acc ++ t :: ts, i + (textT t).length + (textS 44 ts).length + 1)
  | ts, t, acc, i, 0, r, _, _, hk => by omega
  | [], t, acc, i, k + 1, r, hE, h, _ => by
    have h : l.drop i = textT t ++ 41 :: r := by simpa [textS] using h
    have h1 := hE t List.mem_cons_self i (41 :: r) (.close r) h
    have a1 := (nx_cons (drop_past h)).1
    unfold pPartL
    rw [h1]
    simp only
    rw [if_pos (show nx l (i + (textT t).length) = 41 from a1)]
    simp [textS]
  | u :: us, t, acc, i, k + 1, r, hE, h, hk => by
    have h : l.drop i = textT t ++ 44 :: (textT u ++ (textS 44 us ++ 41 :: r)) := by simpa [textS] using h
    have h1 := hE t List.mem_cons_self i _ (.comma _) h
    obtain ⟨a1, a2, _⟩ := nx_cons (drop_past h)
    have h2 := partL_back us u (acc ++ [t]) (i + (textT t).length + 1) k r (fun x hx => hE x (List.mem_cons_of_mem _ hx)) a2 (by simpa using hk)
    unfold pPartL
    rw [h1]
    simp only
    rw [if_neg (by rw [a1]; decide), if_pos (show nx l (i + (textT t).length) = 44 from a1), h2, List.append_assoc, textS]
    simp only [List.cons_append, List.nil_append, List.length_cons, List.length_append, Except.ok.injEq, Prod.mk.injEq, true_and]
    omega
theorem dpL_mem {ks : List TT} {t : TT} (h : t ∈ ks) : dpT t ≤ dpL ks := by
  induction ks with
  | nil => cases h
  | cons x ks ih =>
    rw [dpL]
    rcases List.mem_cons.1 h with rfl | h
    · omega
    · have := ih h
      omega
theorem textS_ge (ks : List TT) (sg : UInt8) : ks.length ≤ (textS sg ks).length := by
  induction ks generalizing sg with
  | nil => simp
  | cons t ks ih =>
    rw [textS]
    have := ih 44
    simp only [List.length_cons, List.length_append]
    omega
theorem tree_back {w : World} {P : Nat → Prop} : ∀ (t : TT) (v : TV), Rep w P v t → ∀ (l : List UInt8) (d i : Nat) (r : List UInt8), dpT t ≤ d → Behind r → l.drop i = textT t ++ r → pTree l d i = .ok (t, i + (textT t).length) := by
  refine TT.ind fun n b ds ks ih v hR l d i r hd hB h => ?_
  obtain ⟨_, _, hn, _, _, _, vs, hl, _, hr⟩ := hR.inv
  rw [dpT] at hd
  obtain ⟨d, rfl⟩ : ∃ d', d = d' + 1 := ⟨d - 1, by omega⟩
  obtain ⟨kT, hkT⟩ : ∃ kT, kT = (if ks.isEmpty = true then ([] : List UInt8) else textS 40 ks ++ [41]) := ⟨_, rfl⟩
  obtain ⟨hw, hv⟩ := isLen_wrt n (lenN n) (lenN_isLen n)
  have hw' : Wrt (decL n) := hw
  have hlen : (textT (.nd n b ds ks)).length = (if b = true then ([95] : List UInt8) else []).length + ((decL n).length + ((hexS ds).length + kT.length)) := by
    rw [textT, ← hkT, List.length_append, List.length_append, List.length_append]
  rw [textT, ← hkT, List.append_assoc, List.append_assoc, List.append_assoc] at h
  rw [hlen]
  have hst : okH l i = true ∧ decide (nx l i = 95) = b ∧ (if nx l i = 95 then i + 1 else i) = i + (if b = true then ([95] : List UInt8) else []).length := by
    cases b with
    | true =>
      have h' : l.drop i = 95 :: (decL n ++ (hexS ds ++ (kT ++ r))) := h
      have a1 : nx l i = 95 := (nx_cons h').1
      exact ⟨by unfold okH; rw [a1]; rfl, by rw [a1]; rfl, by rw [if_pos a1]; rfl⟩
    | false =>
      have h' : l.drop i = decL n ++ (hexS ds ++ (kT ++ r)) := h
      obtain ⟨c, cs, hc⟩ : ∃ c cs, decL n = c :: cs := by
        cases hd : decL n with
        | nil => exact absurd hd hw'.2.1
        | cons c cs => exact ⟨c, cs, rfl⟩
      have hc1 := hw'.1 c (by rw [hc]; exact List.mem_cons_self)
      rw [hc] at h'
      have a1 := (nx_cons (r := cs ++ (hexS ds ++ (kT ++ r))) h').1
      have a2 : nx l i ≠ 95 := by rw [a1]; have := hc1.2; omega
      refine ⟨?_, by simpa using a2, by rw [if_neg a2]; rfl⟩
      unfold okH
      rw [a1, (digC_iff _).2 hc1, Bool.or_true]
  obtain ⟨g1, g2, g3⟩ := hst
  have h1 := drop_past h
  have hk3 : ∀ j, l.drop j = kT ++ r → nx l j = 0 ∨ nx l j = 41 ∨ nx l j = 44 ∨ nx l j = 40 := by
    intro j hj
    cases ks with
    | nil =>
      rw [hkT] at hj
      have := hB.nx hj
      omega
    | cons t ts =>
      rw [hkT] at hj
      have hj : l.drop j = 40 :: (textT t ++ textS 44 ts ++ [41] ++ r) := hj
      have : nx l j = 40 := (nx_cons hj).1
      omega
  have hk2 : ∀ j, l.drop j = hexS ds ++ (kT ++ r) → nx l j = 0 ∨ nx l j = 41 ∨ nx l j = 44 ∨ nx l j = 40 ∨ nx l j = 58 := by
    intro j hj
    cases ds with
    | nil =>
      have := hk3 j hj
      omega
    | cons c ds =>
      have hj : l.drop j = 58 :: (hexL (c :: ds) ++ (kT ++ r)) := hj
      have : nx l j = 58 := (nx_cons hj).1
      omega
  have e1 := num_back h1 (fun j hj => by rcases hk2 j hj with h | h | h | h | h <;> (rw [h]; decide)) hn
  have h2 := drop_past h1
  have e2 := datO_back h2 (fun j hj => by rcases hk3 j hj with h | h | h | h <;> (rw [h]; decide +kernel))
  have h3 := drop_past h2
  have e3 : pPartO l (pTree l d) (i + (if b = true then ([95] : List UInt8) else []).length + (decL n).length + (hexS ds).length) = .ok (ks, i + (if b = true then ([95] : List UInt8) else []).length + (decL n).length + (hexS ds).length + kT.length) := by
    generalize i + (if b = true then ([95] : List UInt8) else []).length + (decL n).length + (hexS ds).length = j at h3
    unfold pPartO
    cases ks with
    | nil =>
      rw [hkT] at h3 ⊢
      have := hB.nx h3
      rw [if_neg (by omega)]
      rfl
    | cons t ts =>
      have hkT' : kT = 40 :: (textT t ++ (textS 44 ts ++ [41])) := by rw [hkT]; simp [textS]
      rw [hkT'] at h3
      have h4 : l.drop j = 40 :: (textT t ++ (textS 44 ts ++ 41 :: r)) := by simpa using h3
      obtain ⟨a1, a2, _⟩ := nx_cons h4
      have hg := textS_ge ts 44
      have hl1 := len_of (drop_past a2)
      rw [if_pos (show nx l j = 40 from a1), partL_back ts t [] (j + 1) (l.length + 1) r (fun x hx j r hB hj => ?_) a2 (by omega), hkT']
      · simp only [List.nil_append, List.length_cons, List.length_append, List.length_nil, Except.ok.injEq, Prod.mk.injEq, true_and]
        omega
      · obtain ⟨q, hq, rfl⟩ := List.getElem_of_mem hx
        exact ih _ hx _ (hr q (by omega) hq) l d j r (by have := dpL_mem hx; omega) hB hj
  rw [pTree, if_neg (by rw [g1]; simp), g3, e1]
  simp only
  rw [e2]
  simp only
  rw [e3]
  simp only
  rw [g2]
  simp only [Except.ok.injEq, Prod.mk.injEq, true_and]
  omega
/-- A tree's text is parsed as it. -/
theorem parse_back {w : World} {P : Nat → Prop} {t : TT} {v : TV} (hR : Rep w P v t) (hd : dpT t ≤ 400) (hl : (textT t).length ≤ 1048576) : pParse (textT t) = .ok t := by
  unfold pParse
  rw [if_neg (by omega), tree_back t v hR (textT t) 400 0 [] hd .nil (by rw [List.drop_zero, List.append_nil])]
  simp only
  rw [if_neg (by omega)]
theorem text_one {w w' : World} {P Q : Nat → Prop} {t u : TT} {v x : TV} (hR : Rep w P v t) (hd : dpT t ≤ 400) (hl : (textT t).length ≤ 1048576) (hR' : Rep w' Q x u) (hd' : dpT u ≤ 400) (e : textT t = textT u) : t = u := by
  have h1 := parse_back hR hd hl
  have h2 := parse_back hR' hd' (by rw [← e]; exact hl)
  rw [e, h2] at h1
  injection h1 with h1
  exact h1.symm
theorem few_text {w : World} {P : Nat → Prop} : ∀ (t : TT) (v : TV), Rep w P v t → ∀ left deep : Int, (fewT left deep t).1 = true → ((textT t).length : Int) + 1 ≤ 625 * (left - (fewT left deep t).2) ∧ (dpT t : Int) + deep ≤ 101 ∧ (szT t : Int) = left - (fewT left deep t).2 := by
  refine TT.ind fun n b d ks ih v hR left deep hf => ?_
  obtain ⟨_, _, hn, _, _, _, vs, hl, _, hr⟩ := hR.inv
  have key : ∀ (ks : List TT), (∀ t ∈ ks, ∀ left deep : Int, (fewT left deep t).1 = true → ((textT t).length : Int) + 1 ≤ 625 * (left - (fewT left deep t).2) ∧ (dpT t : Int) + deep ≤ 101 ∧ (szT t : Int) = left - (fewT left deep t).2) →
      ∀ (left deep : Int) (sg : UInt8), (fewL left deep ks).1 = true → ((textS sg ks).length : Int) ≤ 625 * (left - (fewL left deep ks).2) ∧ (dpL ks = 0 ∨ (dpL ks : Int) + deep ≤ 101) ∧ (szL ks : Int) = left - (fewL left deep ks).2 := by
    intro ks
    induction ks with
    | nil => intro _ left deep sg _; simp [fewL, textS, dpL, szL]
    | cons t ks ihk =>
      intro h left deep sg hf
      have h1 := h t List.mem_cons_self left deep
      simp only [fewL, textS, dpL, szL] at hf ⊢
      split at hf
      · rename_i ht
        rw [if_pos ht]
        have h2 := ihk (fun t ht => h t (List.mem_cons_of_mem _ ht)) (fewT left deep t).2 deep 44 hf
        have h3 := h1 ht
        simp only [List.length_cons, List.length_append]
        push_cast
        refine ⟨by omega, ?_, by omega⟩
        rcases h2.2.1 with h4 | h4 <;> omega
      · cases hf
  rw [fewT] at hf ⊢
  split at hf
  · cases hf
  · rename_i hc
    rw [if_neg hc]
    have h1 := key ks (fun t ht left deep hf => by
      obtain ⟨j, hj, rfl⟩ := List.getElem_of_mem ht
      exact ih _ ht (vs[j]'(by omega)) (hr j (by omega) hj) left deep hf) (left - 1) (deep + 1) 40 hf
    have h2 := decL_len hn
    have h3 := hexS_len d
    rw [textT, dpT, szT]
    simp only [List.length_append]
    have h4 : (if b = true then [95] else ([] : List UInt8)).length ≤ 1 := by split <;> simp
    have h5 : (if ks.isEmpty = true then ([] : List UInt8) else textS 40 ks ++ [41]).length ≤ (textS 40 ks).length + 1 := by
      split
      · simp
      · simp
    push_cast
    refine ⟨by omega, ?_, by omega⟩
    rcases h1.2.1 with h6 | h6 <;> omega
end Go.Proofs.Ytdhipmdapodpkaa
