/- class: of no two sets the text is the same; what it is. -/
import Derived.Test.YtplldfbjbekdlaaDoorTexM
import Derived.Test.YtplldfbjbekdlaaDoorText2
namespace Go.Proofs.YtplldfbjbekdlaaDoor
set_option linter.unusedVariables false
set_option linter.unusedSimpArgs false

theorem pieces_runs (a : BS) (l : List Nat) : pieces a l = ((l.filter (starts a)).map fun c => (c, lastN a c)).flatMap runT := by
  induction l with
  | nil => rfl
  | cons c l ih =>
    have e : pieces a (c :: l) = piece a c ++ pieces a l := rfl
    rw [e, ih, List.filter_cons]
    by_cases h : 0 < c ∧ has a (c - 1) = true
    · have hs : starts a c = false := by simp [starts, h.1, h.2]
      rw [hs, piece, if_pos h]
      simp
    · have hs : starts a c = true := by
        unfold starts
        by_cases h0 : 0 < c
        · have : has a (c - 1) = false := by
            cases hh : has a (c - 1)
            · rfl
            · exact absurd ⟨h0, hh⟩ h
          simp [this]
        · simp [h0]
      rw [hs, piece, if_neg h, if_pos rfl, List.map_cons, List.flatMap_cons]
      rfl
theorem pieces_all (a : BS) : pieces a (bytesOf a) = (runsOf a).flatMap runT := pieces_runs a _
theorem textL_inj {a b : BS} (h : textL a = textL b) : a = b := by
  have ha := firstN_lt a
  have hb := firstN_lt b
  have hn : ∀ c, c < 256 → ∃ x t, nameL c = x :: t ∧ x ≠ 91 ∧ x ≠ 46 := by
    intro c hc
    obtain ⟨x, t, e, _, _, h1, h2⟩ := name_head c hc []
    rw [List.append_nil] at e
    exact ⟨x, t, e, h1, h2⟩
  obtain ⟨xa, ta, ea, na1, na2⟩ := hn _ ha
  obtain ⟨xb, tb, eb, nb1, nb2⟩ := hn _ hb
  unfold textL at h
  by_cases a1 : a = ~~~(0#256)
  · rw [if_pos a1] at h
    by_cases b1 : b = ~~~(0#256)
    · rw [a1, b1]
    · rw [if_neg b1] at h
      split at h
      · rw [eb] at h
        injection h with h _
        exact absurd h.symm nb2
      · injection h with h _
        exact absurd h (by decide)
  · rw [if_neg a1] at h
    by_cases b1 : b = ~~~(0#256)
    · rw [if_pos b1] at h
      split at h
      · rw [ea] at h
        injection h with h _
        exact absurd h na2
      · injection h with h _
        exact absurd h (by decide)
    · rw [if_neg b1] at h
      by_cases a2 : a ≠ 0#256 ∧ a = bit (firstN a)
      · rw [if_pos a2] at h
        by_cases b2 : b ≠ 0#256 ∧ b = bit (firstN b)
        · rw [if_pos b2] at h
          obtain ⟨e, _⟩ := name_inj ha hb (r := []) (s := []) (by simpa using h)
          rw [a2.2, b2.2, e]
        · rw [if_neg b2, ea] at h
          injection h with h _
          exact absurd h na1
      · rw [if_neg a2] at h
        by_cases b2 : b ≠ 0#256 ∧ b = bit (firstN b)
        · rw [if_pos b2, eb] at h
          injection h with h _
          exact absurd h.symm nb1
        · rw [if_neg b2] at h
          injection h with _ h
          rw [pieces_all, pieces_all] at h
          exact runs_inj (runsT_inj _ _ (runs_ok a) (runs_ok b) h)
theorem bit_len : ∀ f : Fin 256, (bytesOf (bit f.1)).length = 1 := by decide +kernel
theorem len_one (a : BS) : (bytesOf a).length = 1 ↔ a ≠ 0#256 ∧ a = bit (firstN a) := by
  constructor
  · intro h
    obtain ⟨f, hf⟩ := List.length_eq_one_iff.1 h
    have h1 : firstN a = f := by simp [firstN, hf]
    have hm : has a f = true := (mem_bytesOf a f).1 (by rw [hf]; simp)
    refine ⟨?_, ?_⟩
    · rintro rfl
      rw [has_zero] at hm
      cases hm
    · rw [h1]
      refine bs_has_ext fun c _ => ?_
      rw [has_bit f c (has_lt a f hm), Bool.eq_iff_iff, ← mem_bytesOf, hf]
      simp
  · rintro ⟨_, h⟩
    rw [h]
    exact bit_len ⟨firstN a, firstN_lt a⟩
theorem textL_one {a : BS} (h : (bytesOf a).length = 1) : textL a = nameL (firstN a) := by
  have h1 := (len_one a).1 h
  have h2 : a ≠ ~~~(0#256) := by
    rintro rfl
    have : (bytesOf (~~~(0#256) : BS)).length = 256 := by decide +kernel
    omega
  unfold textL
  rw [if_neg h2, if_pos h1]
theorem textL_other {a : BS} (h : (bytesOf a).length ≠ 1) (h2 : a ≠ ~~~(0#256)) : textL a = 91 :: (pieces a (bytesOf a) ++ [93]) := by
  unfold textL
  rw [if_neg h2, if_neg (fun h3 => h ((len_one a).2 h3))]
end Go.Proofs.YtplldfbjbekdlaaDoor
