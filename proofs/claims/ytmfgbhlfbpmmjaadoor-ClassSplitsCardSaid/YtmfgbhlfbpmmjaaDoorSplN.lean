/- class: how many pieces; what is in them. -/
import Derived.Test.YtmfgbhlfbpmmjaaDoorSplM
namespace Go.Proofs.YtmfgbhlfbpmmjaaDoor

theorem stepS_len (ps : List BS) (s : BS) : (stepS ps s).length ≤ 2 * ps.length := by
  have h := curS_le s ps ps.length
  rw [curS_all] at h
  omega
theorem pieceS_len (l : List BS) : (pieceS l).length ≤ 2 ^ l.length := by
  have h : ∀ (l ps : List BS), (l.foldl stepS ps).length ≤ 2 ^ l.length * ps.length := by
    intro l
    induction l with
    | nil => intro ps; simp
    | cons s l ih =>
      intro ps
      rw [List.foldl_cons, List.length_cons, Nat.pow_succ, Nat.mul_assoc]
      exact Nat.le_trans (ih _) (Nat.mul_le_mul_left _ (stepS_len ps s))
  have h2 := h l [~~~(0#256)]
  rw [List.length_singleton, Nat.mul_one] at h2
  exact h2
theorem pieceS_small (l : List BS) (hl : l.length ≤ 20) (k : Nat) : (pieceS (l.take k)).length ≤ 1048576 := by
  refine Nat.le_trans (pieceS_len _) ?_
  have h1 : (l.take k).length ≤ 20 := by simp; omega
  exact Nat.pow_le_pow_right (by decide) h1
/-- Each byte is in a piece. -/
theorem step_cover {ps : List BS} (s : BS) (h : ∀ c, c < 256 → ∃ p ∈ ps, has p c = true) : ∀ c, c < 256 → ∃ p ∈ stepS ps s, has p c = true := by
  intro c hc
  obtain ⟨p, hp, hpc⟩ := h c hc
  by_cases hcut : cuts s p = true
  · cases hs : has s c
    · refine ⟨p &&& ~~~s, List.mem_append_right _ (List.mem_filterMap.2 ⟨p, hp, by simp [hcut]⟩), ?_⟩
      rw [has_and, hpc, has_not, hs, decide_eq_true hc]
      rfl
    · refine ⟨p &&& s, List.mem_append_left _ (List.mem_map.2 ⟨p, hp, by simp [inN, hcut]⟩), ?_⟩
      rw [has_and, hpc, hs]
      rfl
  · exact ⟨p, List.mem_append_left _ (List.mem_map.2 ⟨p, hp, by simp [inN, hcut]⟩), hpc⟩
/-- No piece is empty. -/
theorem step_ne {ps : List BS} (s : BS) (h : ∀ p ∈ ps, p ≠ 0#256) : ∀ p ∈ stepS ps s, p ≠ 0#256 := by
  intro p hp
  rcases List.mem_append.1 hp with hp | hp
  · obtain ⟨q, hq, rfl⟩ := List.mem_map.1 hp
    unfold inN
    split
    · rename_i hc; exact ((cuts_iff s q).1 hc).1
    · exact h q hq
  · obtain ⟨q, hq, he⟩ := List.mem_filterMap.1 hp
    split at he
    · rename_i hc
      injection he with he
      rw [← he]
      exact ((cuts_iff s q).1 hc).2
    · cases he
/-- Each piece of the next list lies within the set or without. -/
theorem step_whole {ps : List BS} (s : BS) : ∀ p ∈ stepS ps s, p &&& s = 0#256 ∨ p &&& ~~~s = 0#256 := by
  intro p hp
  rcases List.mem_append.1 hp with hp | hp
  · obtain ⟨q, hq, rfl⟩ := List.mem_map.1 hp
    unfold inN
    split
    · right
      refine bs_has_ext fun c hc => ?_
      rw [has_and, has_and, has_not, has_zero]
      cases has s c <;> simp
    · rename_i hc
      have : ¬(q &&& s ≠ 0#256 ∧ q &&& ~~~s ≠ 0#256) := fun h => hc ((cuts_iff s q).2 h)
      by_cases h1 : q &&& s = 0#256
      · exact .inl h1
      · right
        by_cases h2 : q &&& ~~~s = 0#256
        · exact h2
        · exact absurd ⟨h1, h2⟩ this
  · obtain ⟨q, hq, he⟩ := List.mem_filterMap.1 hp
    split at he
    · injection he with he
      left
      rw [← he]
      refine bs_has_ext fun c hc => ?_
      rw [has_and, has_and, has_not, has_zero]
      cases has s c <;> simp
    · cases he

/-- No byte in common. -/
def Apart (p q : BS) : Prop := p &&& q = 0#256
theorem apart_iff (p q : BS) : Apart p q ↔ ∀ c, has p c = true → has q c = true → False := by
  unfold Apart
  constructor
  · intro h c h1 h2
    have := congrArg (fun x => has x c) h
    simp only [has_and, h1, h2, has_zero] at this
    cases this
  · intro h
    refine bs_has_ext fun c _ => ?_
    rw [has_and, has_zero]
    cases h1 : has p c
    · rfl
    · cases h2 : has q c
      · rfl
      · exact (h c h1 h2).elim
theorem apart_sub {p q p' q' : BS} (h : Apart p q) (hp : ∀ c, has p' c = true → has p c = true) (hq : ∀ c, has q' c = true → has q c = true) : Apart p' q' :=
  (apart_iff _ _).2 fun c h1 h2 => (apart_iff _ _).1 h c (hp c h1) (hq c h2)
theorem pw_all {R : BS → BS → Prop} {ps : List BS} (h : ps.Pairwise R) (hs : ∀ a b, R a b → R b a) : ∀ p ∈ ps, ∀ q ∈ ps, p ≠ q → R p q := by
  induction h with
  | nil => intro p hp; cases hp
  | cons h1 _ ih =>
    intro p hp q hq hne
    rcases List.mem_cons.1 hp with e1 | m1
    · rcases List.mem_cons.1 hq with e2 | m2
      · exact absurd (e1.trans e2.symm) hne
      · rw [e1]; exact h1 q m2
    · rcases List.mem_cons.1 hq with e2 | m2
      · rw [e2]; exact hs _ _ (h1 p m1)
      · exact ih p m1 q m2 hne
theorem and_sub (p s : BS) (c : Nat) (h : has (p &&& s) c = true) : has p c = true := by
  rw [has_and] at h
  exact (Bool.and_eq_true_iff.1 h).1
theorem inN_sub (s p : BS) (c : Nat) (h : has (inN s p) c = true) : has p c = true := by
  unfold inN at h
  split at h
  · exact and_sub _ _ _ h
  · exact h
theorem step_apart {ps : List BS} (s : BS) (h : ps.Pairwise Apart) : (stepS ps s).Pairwise Apart := by
  have hs : ∀ a b, Apart a b → Apart b a := fun a b h => (apart_iff _ _).2 fun c h1 h2 => (apart_iff _ _).1 h c h2 h1
  unfold stepS
  refine List.pairwise_append.2 ⟨?_, ?_, ?_⟩
  · exact List.pairwise_map.2 (h.imp fun hab => apart_sub hab (inN_sub s _) (inN_sub s _))
  · refine List.pairwise_filterMap.2 (h.imp fun {a b} hab x hx y hy => ?_)
    split at hx
    · injection hx with hx
      split at hy
      · injection hy with hy
        rw [← hx, ← hy]
        exact apart_sub hab (and_sub _ _) (and_sub _ _)
      · cases hy
    · cases hx
  · intro x hx y hy
    obtain ⟨p, hp, rfl⟩ := List.mem_map.1 hx
    obtain ⟨q, hq, he⟩ := List.mem_filterMap.1 hy
    split at he
    · rename_i hc
      injection he with he
      rw [← he]
      by_cases hpq : p = q
      · subst hpq
        unfold inN
        rw [if_pos hc]
        refine (apart_iff _ _).2 fun c h1 h2 => ?_
        rw [has_and, Bool.and_eq_true] at h1 h2
        rw [has_not, h1.2] at h2
        simp at h2
      · exact apart_sub (pw_all h hs p hp q hq hpq) (inN_sub s p) (and_sub _ _)
    · cases he
end Go.Proofs.YtmfgbhlfbpmmjaaDoor
