/- class: the pieces: apart, whole, told apart. -/
import Derived.Test.YtmfgbhlfbpmmjaaDoorSplN
import Derived.Test.YtmfgbhlfbpmmjaaDoorFirst
namespace Go.Proofs.YtmfgbhlfbpmmjaaDoor
/-- Some set of these has all of one piece, and nothing of the other. -/
def Sub (p q : BS) : Prop := ∀ c, has p c = true → has q c = true
def Sep (seen : List BS) (p q : BS) : Prop := ∃ s ∈ seen, (Sub p s ∧ Apart q s) ∨ (Sub q s ∧ Apart p s)
theorem sep_symm {seen : List BS} {p q : BS} (h : Sep seen p q) : Sep seen q p := by
  obtain ⟨s, hs, h | h⟩ := h
  · exact ⟨s, hs, .inr h⟩
  · exact ⟨s, hs, .inl h⟩
theorem sub_trans {p q r : BS} (h : Sub p q) (k : Sub q r) : Sub p r := fun c hc => k c (h c hc)
theorem apart_left {p q s : BS} (h : Sub p q) (k : Apart q s) : Apart p s := apart_sub k h (fun _ h => h)
theorem sep_sub {seen : List BS} {p q p' q' : BS} (h : Sep seen p q) (hp : Sub p' p) (hq : Sub q' q) : Sep seen p' q' := by
  obtain ⟨s, hs, ⟨h1, h2⟩ | ⟨h1, h2⟩⟩ := h
  · exact ⟨s, hs, .inl ⟨sub_trans hp h1, apart_left hq h2⟩⟩
  · exact ⟨s, hs, .inr ⟨sub_trans hq h1, apart_left hp h2⟩⟩
theorem sep_more {seen : List BS} {p q : BS} (s : BS) (h : Sep seen p q) : Sep (seen ++ [s]) p q := by
  obtain ⟨s0, hs, h⟩ := h
  exact ⟨s0, List.mem_append_left _ hs, h⟩
theorem apart_of_sep {seen : List BS} {p q : BS} (h : Sep seen p q) : Apart p q := by
  obtain ⟨s, _, ⟨h1, h2⟩ | ⟨h1, h2⟩⟩ := h
  · exact (apart_iff _ _).2 fun c hp hq => (apart_iff _ _).1 h2 c hq (h1 c hp)
  · exact (apart_iff _ _).2 fun c hp hq => (apart_iff _ _).1 h2 c hp (h1 c hq)
theorem sub_and (p s : BS) : Sub (p &&& s) p := fun c h => and_sub p s c h
theorem sub_and2 (p s : BS) : Sub (p &&& s) s := fun c h => by
  rw [has_and] at h
  exact (Bool.and_eq_true_iff.1 h).2
theorem not_apart (p s : BS) : Apart (p &&& ~~~s) s := (apart_iff _ _).2 fun c h1 h2 => by
  rw [has_and, has_not, h2] at h1
  simp at h1
theorem step_sep {seen ps : List BS} (s : BS) (h : ps.Pairwise (Sep seen)) : (stepS ps s).Pairwise (Sep (seen ++ [s])) := by
  have hs : ∀ a b, Sep seen a b → Sep seen b a := fun a b h => sep_symm h
  unfold stepS
  refine List.pairwise_append.2 ⟨?_, ?_, ?_⟩
  · exact List.pairwise_map.2 (h.imp fun hab => sep_more s (sep_sub hab (inN_sub s _) (inN_sub s _)))
  · refine List.pairwise_filterMap.2 (h.imp fun {a b} hab x hx y hy => ?_)
    split at hx
    · injection hx with hx
      split at hy
      · injection hy with hy
        rw [← hx, ← hy]
        exact sep_more s (sep_sub hab (sub_and _ _) (sub_and _ _))
      · cases hy
    · cases hx
  · intro x hx y hy
    obtain ⟨p, hp, rfl⟩ := List.mem_map.1 hx
    obtain ⟨q, hq, he⟩ := List.mem_filterMap.1 hy
    split at he
    · rename_i hc
      injection he with he
      rw [← he]
      by_cases hpq : p = q
      · subst hpq
        unfold inN
        rw [if_pos hc]
        exact ⟨s, by simp, .inl ⟨sub_and2 _ _, not_apart _ _⟩⟩
      · exact sep_more s (sep_sub (pw_all h hs p hp q hq hpq) (inN_sub s p) (sub_and _ _))
    · cases he
/-- Each piece lies within a set, or without. -/
def Whole1 (s p : BS) : Prop := p &&& s = 0#256 ∨ p &&& s = p
theorem and_zero_iff (p s : BS) : p &&& ~~~s = 0#256 ↔ p &&& s = p := by
  constructor
  · intro h
    refine bs_has_ext fun c hc => ?_
    have := congrArg (fun x => has x c) h
    simp only [has_and, has_not, has_zero, decide_eq_true hc, Bool.true_and] at this
    rw [has_and]
    cases h1 : has p c <;> cases h2 : has s c <;> simp_all
  · intro h
    refine bs_has_ext fun c hc => ?_
    have := congrArg (fun x => has x c) h
    simp only [has_and] at this
    rw [has_and, has_not, has_zero]
    cases h1 : has p c <;> cases h2 : has s c <;> simp_all
theorem whole_sub {s p p' : BS} (h : Whole1 s p) (hs : Sub p' p) : Whole1 s p' := by
  rcases h with h | h
  · left
    exact apart_left hs h
  · right
    refine bs_has_ext fun c _ => ?_
    rw [has_and]
    cases h1 : has p' c
    · rfl
    · have h2 := hs c h1
      have := congrArg (fun x => has x c) h
      simp only [has_and, h2, Bool.true_and] at this
      rw [this]
      rfl
theorem step_parent {ps : List BS} (s : BS) : ∀ p ∈ stepS ps s, ∃ q ∈ ps, Sub p q := by
  intro p hp
  rcases List.mem_append.1 hp with hp | hp
  · obtain ⟨q, hq, rfl⟩ := List.mem_map.1 hp
    exact ⟨q, hq, inN_sub s q⟩
  · obtain ⟨q, hq, he⟩ := List.mem_filterMap.1 hp
    split at he
    · injection he with he
      exact ⟨q, hq, by rw [← he]; exact sub_and _ _⟩
    · cases he
structure Good (seen ps : List BS) : Prop where
  ne : ∀ p ∈ ps, p ≠ 0#256
  cover : ∀ c, c < 256 → ∃ p ∈ ps, has p c = true
  whole : ∀ s ∈ seen, ∀ p ∈ ps, Whole1 s p
  sep : ps.Pairwise (Sep seen)
theorem good_step {seen ps : List BS} (s : BS) (h : Good seen ps) : Good (seen ++ [s]) (stepS ps s) where
  ne := step_ne s h.ne
  cover := step_cover s h.cover
  whole := by
    intro t ht p hp
    rcases List.mem_append.1 ht with ht | ht
    · obtain ⟨q, hq, hs⟩ := step_parent s p hp
      exact whole_sub (h.whole t ht q hq) hs
    · obtain rfl := List.mem_singleton.1 ht
      rcases step_whole t p hp with h1 | h1
      · exact .inl h1
      · exact .inr ((and_zero_iff _ _).1 h1)
  sep := step_sep s h.sep
theorem good_fold (l : List BS) : ∀ (seen ps : List BS), Good seen ps → Good (seen ++ l) (l.foldl stepS ps) := by
  induction l with
  | nil => intro seen ps h; simpa using h
  | cons s l ih =>
    intro seen ps h
    have := ih _ _ (good_step s h)
    rwa [List.append_assoc] at this
theorem good_pieces (l : List BS) : Good l (pieceS l) := by
  have h : Good [] [~~~(0#256)] := {
    ne := by
      intro p hp
      obtain rfl := List.mem_singleton.1 hp
      decide
    cover := fun c hc => ⟨_, List.mem_singleton.2 rfl, by rw [has_not, decide_eq_true hc, has_zero]; rfl⟩
    whole := by simp
    sep := List.pairwise_singleton _ _ }
  exact good_fold l [] _ h
theorem good_perm {l ps qs : List BS} (h : Good l ps) (hp : qs.Perm ps) : Good l qs where
  ne := fun p hm => h.ne p (hp.mem_iff.1 hm)
  cover := fun c hc => by
    obtain ⟨p, hm, hh⟩ := h.cover c hc
    exact ⟨p, hp.mem_iff.2 hm, hh⟩
  whole := fun s hs p hm => h.whole s hs p (hp.mem_iff.1 hm)
  sep := (hp.pairwise_iff (fun {a b} h => sep_symm h)).2 h.sep
/-- What is in one of them at least. -/
def orL (ps : List BS) : BS := ps.foldl (· ||| ·) 0#256
theorem orL_take (ps : List BS) (k : Nat) (hk : k < ps.length) : orL (ps.take (k + 1)) = orL (ps.take k) ||| ps[k] := by
  unfold orL
  rw [List.take_succ_eq_append_getElem hk, List.foldl_append]
  rfl
theorem has_orL (ps : List BS) (c : Nat) : has (orL ps) c = ps.any (fun p => has p c) := by
  suffices h : ∀ s : BS, has (ps.foldl (· ||| ·) s) c = (has s c || ps.any (fun p => has p c)) by
    have := h 0#256
    rwa [has_zero, Bool.false_or] at this
  induction ps with
  | nil => intro s; simp
  | cons d l ih =>
    intro s
    rw [List.foldl_cons, ih, has_or, List.any_cons, Bool.or_assoc]
theorem Good.all {l ps : List BS} (h : Good l ps) : orL ps = ~~~(0#256) := by
  refine bs_has_ext fun c hc => ?_
  rw [has_orL, has_not, has_zero, decide_eq_true hc]
  obtain ⟨p, hp, hh⟩ := h.cover c hc
  rw [List.any_eq_true.2 ⟨p, hp, hh⟩]
  rfl
theorem Good.apart {l ps : List BS} (h : Good l ps) (i j : Nat) (hij : i < j) (hj : j < ps.length) : Sep l ps[i] ps[j] :=
  List.pairwise_iff_getElem.1 h.sep i j (by omega) hj hij
theorem Good.none {l ps : List BS} (h : Good l ps) (k : Nat) (hk : k < ps.length) : orL (ps.take k) &&& ps[k] = 0#256 := by
  refine bs_has_ext fun c _ => ?_
  rw [has_and, has_orL, has_zero]
  cases h1 : (ps.take k).any (fun p => has p c)
  · rfl
  · obtain ⟨p, hp, hh⟩ := List.any_eq_true.1 h1
    obtain ⟨i, hi, rfl⟩ := List.mem_iff_getElem.1 hp
    simp only [List.getElem_take] at hh
    have hi2 : i < k := by simp at hi; omega
    have := (apart_iff _ _).1 (apart_of_sep (h.apart i k hi2 hk)) c hh
    cases h2 : has ps[k] c
    · simp
    · exact (this h2).elim
/-- Some set tells them apart. -/
def tells (p q s : BS) : Bool := decide (p &&& s = 0#256) != decide (q &&& s = 0#256)
theorem Good.tells {l ps : List BS} (h : Good l ps) (i j : Nat) (hij : i < j) (hj : j < ps.length) : l.any (tells ps[j] ps[i]) = true := by
  have hn1 := h.ne ps[i] (List.getElem_mem _)
  have hn2 := h.ne ps[j] (List.getElem_mem _)
  have hsub : ∀ p s : BS, Sub p s → p ≠ 0#256 → p &&& s ≠ 0#256 := by
    intro p s hs hn he
    apply hn
    refine bs_has_ext fun c _ => ?_
    have := congrArg (fun x => has x c) he
    simp only [has_and, has_zero] at this
    rw [has_zero]
    cases h1 : has p c
    · rfl
    · rw [h1, hs c h1] at this
      exact this
  obtain ⟨s, hs, ⟨h1, h2⟩ | ⟨h1, h2⟩⟩ := h.apart i j hij hj
  · refine List.any_eq_true.2 ⟨s, hs, ?_⟩
    unfold Go.Proofs.YtmfgbhlfbpmmjaaDoor.tells
    unfold Apart at h2
    rw [decide_eq_true h2, decide_eq_false (hsub _ _ h1 hn1)]
    rfl
  · refine List.any_eq_true.2 ⟨s, hs, ?_⟩
    unfold Go.Proofs.YtmfgbhlfbpmmjaaDoor.tells
    unfold Apart at h2
    rw [decide_eq_true h2, decide_eq_false (hsub _ _ h1 hn2)]
    rfl
theorem has_firstN (p : BS) (h : p ≠ 0#256) : has p (firstN p) = true := by
  unfold firstN
  cases he : bytesOf p with
  | nil => exact absurd ((bytesOf_nil p).1 he) h
  | cons x xs => exact (mem_bytesOf p x).1 (by rw [he]; simp)
theorem Good.rising {l ps : List BS} (h : Good l ps) (hs : ps.Pairwise (fun a b => firstN a ≤ firstN b)) (i j : Nat) (hij : i < j) (hj : j < ps.length) : firstN ps[i] < firstN ps[j] := by
  have h1 := List.pairwise_iff_getElem.1 hs i j (by omega) hj hij
  have h2 := apart_of_sep (h.apart i j hij hj)
  have h3 := has_firstN _ (h.ne ps[i] (List.getElem_mem _))
  have h4 := has_firstN _ (h.ne ps[j] (List.getElem_mem _))
  rcases Nat.lt_or_eq_of_le h1 with h5 | h5
  · exact h5
  · rw [← h5] at h4
    exact ((apart_iff _ _).1 h2 _ h3 h4).elim
end Go.Proofs.YtmfgbhlfbpmmjaaDoor
