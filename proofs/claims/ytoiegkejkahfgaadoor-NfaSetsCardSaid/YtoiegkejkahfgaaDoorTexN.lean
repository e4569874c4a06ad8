/- class: a set's text tells the set. -/
import Derived.Test.YtoiegkejkahfgaaDoorOfR
import Derived.Test.YtoiegkejkahfgaaDoorText
namespace Go.Proofs.YtoiegkejkahfgaaDoor
set_option linter.unusedVariables false
set_option linter.unusedSimpArgs false

/-- A name read back. -/
def hexV (h : UInt8) : Nat := if h.toNat < 58 then h.toNat - 48 else h.toNat - 87
def decN : List UInt8 → Option (Nat × List UInt8)
  | [] => none
  | x :: r => if x = 92 then (match r with | _ :: h :: k :: r => some (hexV h * 16 + hexV k, r) | _ => none) else some (x.toNat, r)
theorem plain_u8 : ∀ c : Fin 256, plain c.1 = true → c.1.toUInt8 ≠ 92 ∧ c.1.toUInt8 ≠ 45 ∧ c.1.toUInt8 ≠ 93 ∧ c.1.toUInt8 ≠ 91 ∧ c.1.toUInt8 ≠ 46 ∧ c.1.toUInt8.toNat = c.1 := by decide +kernel
theorem hex_u8 : ∀ c : Fin 256, hexV (hexD (c.1 / 16)) * 16 + hexV (hexD (c.1 % 16)) = c.1 := by decide +kernel
theorem decN_name (c : Nat) (hc : c < 256) (r : List UInt8) : decN (nameL c ++ r) = some (c, r) := by
  unfold nameL
  by_cases hp : plain c = true
  · rw [if_pos hp]
    obtain ⟨h1, _, _, _, _, h5⟩ := plain_u8 ⟨c, hc⟩ hp
    simp only [List.singleton_append, decN]
    rw [if_neg h1]
    simp only at h5
    rw [h5]
  · rw [if_neg hp]
    have h := hex_u8 ⟨c, hc⟩
    simp only at h
    simp only [List.cons_append, List.nil_append, decN, if_true]
    rw [h]
/-- What no name begins with. -/
theorem name_head (c : Nat) (hc : c < 256) (r : List UInt8) : ∃ x t, nameL c ++ r = x :: t ∧ x ≠ 45 ∧ x ≠ 93 ∧ x ≠ 91 ∧ x ≠ 46 := by
  unfold nameL
  by_cases hp : plain c = true
  · rw [if_pos hp]
    obtain ⟨_, h2, h3, h4, h5, _⟩ := plain_u8 ⟨c, hc⟩ hp
    exact ⟨_, _, rfl, h2, h3, h4, h5⟩
  · rw [if_neg hp]
    exact ⟨92, _, rfl, by decide, by decide, by decide, by decide⟩
theorem name_inj {c d : Nat} (hc : c < 256) (hd : d < 256) {r s : List UInt8} (h : nameL c ++ r = nameL d ++ s) : c = d ∧ r = s := by
  have h1 := decN_name c hc r
  rw [h, decN_name d hd s] at h1
  simp only [Option.some.injEq, Prod.mk.injEq] at h1
  exact ⟨h1.1.symm, h1.2.symm⟩

/-- A run's text, and runs'. -/
def runT (p : Nat × Nat) : List UInt8 := nameL p.1 ++ (if p.1 < p.2 then 45 :: nameL p.2 else [])
theorem runsT_inj : ∀ (l m : List (Nat × Nat)), (∀ p ∈ l, p.1 ≤ p.2 ∧ p.2 < 256) → (∀ p ∈ m, p.1 ≤ p.2 ∧ p.2 < 256) → l.flatMap runT ++ [93] = m.flatMap runT ++ [93] → l = m
  | [], [], _, _, _ => rfl
  | [], q :: m, _, hm, h => by
    exfalso
    have hq := hm q (List.mem_cons_self ..)
    simp only [List.flatMap_nil, List.nil_append, List.flatMap_cons, runT, List.append_assoc] at h
    obtain ⟨x, t, e, _, h2, _⟩ := name_head q.1 (by omega) ((if q.1 < q.2 then 45 :: nameL q.2 else []) ++ (m.flatMap runT ++ [93]))
    rw [e] at h
    injection h with h _
    exact h2 h.symm
  | p :: l, [], hl, _, h => by
    exfalso
    have hp := hl p (List.mem_cons_self ..)
    simp only [List.flatMap_nil, List.nil_append, List.flatMap_cons, runT, List.append_assoc] at h
    obtain ⟨x, t, e, _, h2, _⟩ := name_head p.1 (by omega) ((if p.1 < p.2 then 45 :: nameL p.2 else []) ++ (l.flatMap runT ++ [93]))
    rw [e] at h
    injection h with h _
    exact h2 h
  | p :: l, q :: m, hl, hm, h => by
    have hp := hl p (List.mem_cons_self ..)
    have hq := hm q (List.mem_cons_self ..)
    have hl' := fun x hx => hl x (List.mem_cons_of_mem _ hx)
    have hm' := fun x hx => hm x (List.mem_cons_of_mem _ hx)
    simp only [List.flatMap_cons, runT, List.append_assoc] at h
    obtain ⟨h1, h2⟩ := name_inj (by omega) (by omega) h
    have nd : ∀ (l : List (Nat × Nat)), (∀ p ∈ l, p.1 ≤ p.2 ∧ p.2 < 256) → ∀ t, l.flatMap runT ++ [93] ≠ 45 :: t := by
      intro l hl t he
      cases l with
      | nil => simp at he
      | cons p l =>
        have hp := hl p (List.mem_cons_self ..)
        simp only [List.flatMap_cons, runT, List.append_assoc] at he
        obtain ⟨x, t', e, h3, _⟩ := name_head p.1 (by omega) ((if p.1 < p.2 then 45 :: nameL p.2 else []) ++ (l.flatMap runT ++ [93]))
        rw [e] at he
        injection he with he _
        exact h3 he
    by_cases c1 : p.1 < p.2
    · rw [if_pos c1] at h2
      by_cases c2 : q.1 < q.2
      · rw [if_pos c2] at h2
        simp only [List.cons_append, List.cons.injEq, true_and] at h2
        obtain ⟨h3, h4⟩ := name_inj hp.2 hq.2 h2
        rw [runsT_inj l m hl' hm' h4]
        rw [show p = q from Prod.ext h1 h3]
      · rw [if_neg c2] at h2
        exact absurd h2.symm (nd m hm' _)
    · rw [if_neg c1] at h2
      by_cases c2 : q.1 < q.2
      · rw [if_pos c2] at h2
        exact absurd h2 (nd l hl' _)
      · rw [if_neg c2] at h2
        simp only [List.nil_append] at h2
        rw [runsT_inj l m hl' hm' h2]
        rw [show p = q from Prod.ext h1 (by omega)]

theorem lastF_in (a : BS) : ∀ n c x, has a c = true → c ≤ x → x ≤ lastF a c n → has a x = true
  | 0, c, x, h, h1, h2 => by
    rw [lastF] at h2
    rw [show x = c by omega]
    exact h
  | n + 1, c, x, h, h1, h2 => by
    unfold lastF at h2
    split at h2
    · rename_i hc
      by_cases hx : x = c
      · rw [hx]; exact h
      · exact lastF_in a n (c + 1) x hc.2 (by omega) h2
    · rw [show x = c by omega]; exact h
theorem lastF_up (a : BS) : ∀ n c x, c ≤ x → x ≤ 255 → x ≤ c + n → (∀ y, c ≤ y → y ≤ x → has a y = true) → x ≤ lastF a c n
  | 0, c, x, h1, h2, h3, h => by rw [lastF]; omega
  | n + 1, c, x, h1, h2, h3, h => by
    by_cases hx : x = c
    · rw [hx]; exact lastF_ge a c _
    · unfold lastF
      rw [if_pos ⟨by omega, h (c + 1) (by omega) (by omega)⟩]
      exact lastF_up a n (c + 1) x (by omega) h2 (by omega) (fun y h4 h5 => h y (by omega) h5)
/-- Does a run begin here? -/
def starts (a : BS) (c : Nat) : Bool := !(decide (0 < c) && has a (c - 1))
theorem start_of (a : BS) : ∀ x, has a x = true → ∃ c, c ≤ x ∧ has a c = true ∧ starts a c = true ∧ ∀ y, c ≤ y → y ≤ x → has a y = true
  | 0, h => ⟨0, Nat.le_refl _, h, by simp [starts], fun y h1 h2 => by rw [show y = 0 by omega]; exact h⟩
  | x + 1, h => by
    cases hx : has a x
    · exact ⟨x + 1, Nat.le_refl _, h, by simp [starts, hx], fun y h1 h2 => by rw [show y = x + 1 by omega]; exact h⟩
    · obtain ⟨c, h1, h2, h3, h4⟩ := start_of a x hx
      exact ⟨c, by omega, h2, h3, fun y h5 h6 => by
        by_cases hy : y = x + 1
        · rw [hy]; exact h
        · exact h4 y h5 (by omega)⟩
def runsOf (a : BS) : List (Nat × Nat) := ((bytesOf a).filter (starts a)).map fun c => (c, lastN a c)
theorem mem_runs (a : BS) (x : Nat) : has a x = true ↔ ∃ p ∈ runsOf a, p.1 ≤ x ∧ x ≤ p.2 := by
  constructor
  · intro h
    have hx := has_lt a x h
    obtain ⟨c, h1, h2, h3, h4⟩ := start_of a x h
    refine ⟨(c, lastN a c), ?_, h1, lastF_up a 256 c x h1 (by omega) (by omega) h4⟩
    unfold runsOf
    exact List.mem_map.2 ⟨c, List.mem_filter.2 ⟨(mem_bytesOf a c).2 h2, h3⟩, rfl⟩
  · rintro ⟨p, hp, h1, h2⟩
    obtain ⟨c, hc, rfl⟩ := List.mem_map.1 hp
    exact lastF_in a 256 c x ((mem_bytesOf a c).1 (List.mem_filter.1 hc).1) h1 h2
theorem runs_ok (a : BS) : ∀ p ∈ runsOf a, p.1 ≤ p.2 ∧ p.2 < 256 := by
  intro p hp
  obtain ⟨c, hc, rfl⟩ := List.mem_map.1 hp
  have h1 := bytesOf_lt a c (List.mem_filter.1 hc).1
  have h2 := lastF_le a c 256 (by omega)
  exact ⟨lastF_ge a c 256, Nat.lt_succ_of_le h2⟩
theorem runs_inj {a b : BS} (h : runsOf a = runsOf b) : a = b := by
  refine bs_has_ext fun c _ => ?_
  rw [Bool.eq_iff_iff, mem_runs, mem_runs, h]
end Go.Proofs.YtoiegkejkahfgaaDoor

/- class: of no two sets the text is the same; what it is. -/
namespace Go.Proofs.YtoiegkejkahfgaaDoor
set_option linter.unusedVariables false
set_option linter.unusedSimpArgs false

theorem pieces_runs (a : BS) (l : List Nat) : pieces a l = ((l.filter (starts a)).map fun c => (c, lastN a c)).flatMap runT := by
  induction l with
  | nil => rfl
  | cons c l ih =>
    have e : pieces a (c :: l) = piece a c ++ pieces a l := rfl
    rw [e, ih, List.filter_cons]
    by_cases h : 0 < c ∧ has a (c - 1) = true
    · have hs : starts a c = false := by simp [starts, h.1, h.2]
      rw [hs, piece, if_pos h]
      simp
    · have hs : starts a c = true := by
        unfold starts
        by_cases h0 : 0 < c
        · have : has a (c - 1) = false := by
            cases hh : has a (c - 1)
            · rfl
            · exact absurd ⟨h0, hh⟩ h
          simp [this]
        · simp [h0]
      rw [hs, piece, if_neg h, if_pos rfl, List.map_cons, List.flatMap_cons]
      rfl
theorem pieces_all (a : BS) : pieces a (bytesOf a) = (runsOf a).flatMap runT := pieces_runs a _
theorem textL_inj {a b : BS} (h : textL a = textL b) : a = b := by
  have ha := firstN_lt a
  have hb := firstN_lt b
  have hn : ∀ c, c < 256 → ∃ x t, nameL c = x :: t ∧ x ≠ 91 ∧ x ≠ 46 := by
    intro c hc
    obtain ⟨x, t, e, _, _, h1, h2⟩ := name_head c hc []
    rw [List.append_nil] at e
    exact ⟨x, t, e, h1, h2⟩
  obtain ⟨xa, ta, ea, na1, na2⟩ := hn _ ha
  obtain ⟨xb, tb, eb, nb1, nb2⟩ := hn _ hb
  unfold textL at h
  by_cases a1 : a = ~~~(0#256)
  · rw [if_pos a1] at h
    by_cases b1 : b = ~~~(0#256)
    · rw [a1, b1]
    · rw [if_neg b1] at h
      split at h
      · rw [eb] at h
        injection h with h _
        exact absurd h.symm nb2
      · injection h with h _
        exact absurd h (by decide)
  · rw [if_neg a1] at h
    by_cases b1 : b = ~~~(0#256)
    · rw [if_pos b1] at h
      split at h
      · rw [ea] at h
        injection h with h _
        exact absurd h na2
      · injection h with h _
        exact absurd h (by decide)
    · rw [if_neg b1] at h
      by_cases a2 : a ≠ 0#256 ∧ a = bit (firstN a)
      · rw [if_pos a2] at h
        by_cases b2 : b ≠ 0#256 ∧ b = bit (firstN b)
        · rw [if_pos b2] at h
          obtain ⟨e, _⟩ := name_inj ha hb (r := []) (s := []) (by simpa using h)
          rw [a2.2, b2.2, e]
        · rw [if_neg b2, ea] at h
          injection h with h _
          exact absurd h na1
      · rw [if_neg a2] at h
        by_cases b2 : b ≠ 0#256 ∧ b = bit (firstN b)
        · rw [if_pos b2, eb] at h
          injection h with h _
          exact absurd h.symm nb1
        · rw [if_neg b2] at h
          injection h with _ h
          rw [pieces_all, pieces_all] at h
          exact runs_inj (runsT_inj _ _ (runs_ok a) (runs_ok b) h)
theorem bit_len : ∀ f : Fin 256, (bytesOf (bit f.1)).length = 1 := by decide +kernel
theorem len_one (a : BS) : (bytesOf a).length = 1 ↔ a ≠ 0#256 ∧ a = bit (firstN a) := by
  constructor
  · intro h
    obtain ⟨f, hf⟩ := List.length_eq_one_iff.1 h
    have h1 : firstN a = f := by simp [firstN, hf]
    have hm : has a f = true := (mem_bytesOf a f).1 (by rw [hf]; simp)
    refine ⟨?_, ?_⟩
    · rintro rfl
      rw [has_zero] at hm
      cases hm
    · rw [h1]
      refine bs_has_ext fun c _ => ?_
      rw [has_bit f c (has_lt a f hm), Bool.eq_iff_iff, ← mem_bytesOf, hf]
      simp
  · rintro ⟨_, h⟩
    rw [h]
    exact bit_len ⟨firstN a, firstN_lt a⟩
theorem textL_one {a : BS} (h : (bytesOf a).length = 1) : textL a = nameL (firstN a) := by
  have h1 := (len_one a).1 h
  have h2 : a ≠ ~~~(0#256) := by
    rintro rfl
    have : (bytesOf (~~~(0#256) : BS)).length = 256 := by decide +kernel
    omega
  unfold textL
  rw [if_neg h2, if_pos h1]
theorem textL_other {a : BS} (h : (bytesOf a).length ≠ 1) (h2 : a ≠ ~~~(0#256)) : textL a = 91 :: (pieces a (bytesOf a) ++ [93]) := by
  unfold textL
  rw [if_neg h2, if_neg (fun h3 => h ((len_one a).2 h3))]
end Go.Proofs.YtoiegkejkahfgaaDoor
