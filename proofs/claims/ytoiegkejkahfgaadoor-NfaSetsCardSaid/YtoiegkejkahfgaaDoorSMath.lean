/- Sets of bytes as numbers of 256 bits: plain mathematics. -/
import Derived.Test.YtoiegkejkahfgaaDoorBase
namespace Go.Proofs.YtoiegkejkahfgaaDoor
set_option linter.unusedVariables false
set_option linter.unusedSimpArgs false

abbrev BS := BitVec 256
/-- The i-th of its four words. -/
def wd (a : BS) (i : Nat) : Nat := a.toNat / 2 ^ (64 * i) % 2 ^ 64
/-- Is the byte c in it? -/
def has (a : BS) (c : Nat) : Bool := a.getLsbD c
theorem wd_lt (a : BS) (i : Nat) : wd a i < 18446744073709551616 := Nat.mod_lt _ (by decide)
theorem wd_bit (a : BS) (i j : Nat) : (wd a i).testBit j = (decide (j < 64) && has a (64 * i + j)) := by
  unfold wd has
  rw [Nat.testBit_mod_two_pow, Nat.testBit_div_two_pow, ← BitVec.testBit_toNat, Nat.add_comm]
theorem has_lt (a : BS) (c : Nat) (h : has a c = true) : c < 256 := BitVec.lt_of_getLsbD h
theorem has_wd (a : BS) (c : Nat) : has a c = (wd a (c / 64)).testBit (c % 64) := by
  rw [wd_bit, decide_eq_true (Nat.mod_lt _ (by decide)), Bool.true_and, Nat.div_add_mod]
theorem bs_has_ext {a b : BS} (h : ∀ c, c < 256 → has a c = has b c) : a = b := BitVec.eq_of_getLsbD_eq (fun c hc => h c hc)
theorem bs_ext {a b : BS} (h0 : wd a 0 = wd b 0) (h1 : wd a 1 = wd b 1) (h2 : wd a 2 = wd b 2) (h3 : wd a 3 = wd b 3) : a = b := by
  refine bs_has_ext fun c hc => ?_
  rw [has_wd, has_wd]
  have : c / 64 = 0 ∨ c / 64 = 1 ∨ c / 64 = 2 ∨ c / 64 = 3 := by omega
  rcases this with e | e | e | e <;> rw [e]
  · rw [h0]
  · rw [h1]
  · rw [h2]
  · rw [h3]
theorem has_and (a b : BS) (c : Nat) : has (a &&& b) c = (has a c && has b c) := BitVec.getLsbD_and
theorem has_or (a b : BS) (c : Nat) : has (a ||| b) c = (has a c || has b c) := BitVec.getLsbD_or
theorem has_not (a : BS) (c : Nat) : has (~~~a) c = (decide (c < 256) && !has a c) := BitVec.getLsbD_not
theorem has_zero (c : Nat) : has (0#256) c = false := BitVec.getLsbD_zero
theorem wd_and (a b : BS) (i : Nat) : wd (a &&& b) i = wd a i &&& wd b i := by
  apply Nat.eq_of_testBit_eq
  intro j
  rw [wd_bit, Nat.testBit_and, wd_bit, wd_bit, has_and]
  cases decide (j < 64) <;> simp
theorem wd_or (a b : BS) (i : Nat) : wd (a ||| b) i = wd a i ||| wd b i := by
  apply Nat.eq_of_testBit_eq
  intro j
  rw [wd_bit, Nat.testBit_or, wd_bit, wd_bit, has_or]
  cases decide (j < 64) <;> simp
theorem wd_not (a : BS) (i : Nat) (hi : i < 4) : wd (~~~a) i = 18446744073709551615 - wd a i := by
  have e : 18446744073709551615 - wd a i = 2 ^ 64 - (wd a i + 1) := by
    have := wd_lt a i
    omega
  rw [e]
  apply Nat.eq_of_testBit_eq
  intro j
  rw [Nat.testBit_two_pow_sub_succ (show wd a i < 2 ^ 64 from wd_lt a i), wd_bit, wd_bit, has_not]
  by_cases hj : j < 64
  · simp [hj, show 64 * i + j < 256 by omega]
  · simp [hj]
theorem wd_zero (i : Nat) : wd (0#256) i = 0 := by simp [wd]
theorem wd_all (i : Nat) (hi : i < 4) : wd (~~~(0#256)) i = 18446744073709551615 := by rw [wd_not _ _ hi, wd_zero]

/-- One byte alone. -/
def bit (c : Nat) : BS := BitVec.twoPow 256 c
theorem has_bit (c d : Nat) (hc : c < 256) : has (bit c) d = decide (d = c) := by
  unfold has bit
  rw [BitVec.getLsbD_twoPow]
  by_cases e : d = c
  · subst e; simp [hc]
  · simp [e, Ne.symm e]
theorem wd_bit_self (c : Nat) (hc : c < 256) : wd (bit c) (c / 64) = 2 ^ (c % 64) := by
  apply Nat.eq_of_testBit_eq
  intro j
  rw [wd_bit, has_bit _ _ hc, Nat.testBit_two_pow]
  by_cases e : c % 64 = j
  · subst e
    simp [Nat.mod_lt, Nat.div_add_mod]
  · by_cases hj : j < 64
    · have : ¬ (64 * (c / 64) + j = c) := by omega
      simp [hj, e, this]
    · simp [hj, e]
theorem wd_bit_other (c i : Nat) (hc : c < 256) (hi : i ≠ c / 64) : wd (bit c) i = 0 := by
  apply Nat.eq_of_testBit_eq
  intro j
  rw [wd_bit, has_bit _ _ hc, Nat.zero_testBit]
  by_cases hj : j < 64
  · have : ¬ (64 * i + j = c) := by omega
    simp [this]
  · simp [hj]

/-- The words, any of them. -/
theorem of_words (n : Nat → Nat) (h : ∀ i, n i < 18446744073709551616) : ∃ a : BS, ∀ i, i < 4 → wd a i = n i := by
  have h0 := h 0
  have h1 := h 1
  have h2 := h 2
  have h3 := h 3
  refine ⟨BitVec.ofNat 256 (n 0 + 2 ^ 64 * (n 1 + 2 ^ 64 * (n 2 + 2 ^ 64 * n 3))), fun i hi => ?_⟩
  unfold wd
  have e : (BitVec.ofNat 256 (n 0 + 2 ^ 64 * (n 1 + 2 ^ 64 * (n 2 + 2 ^ 64 * n 3)))).toNat = n 0 + 2 ^ 64 * (n 1 + 2 ^ 64 * (n 2 + 2 ^ 64 * n 3)) := by
    rw [BitVec.toNat_ofNat]
    apply Nat.mod_eq_of_lt
    omega
  rw [e]
  have : i = 0 ∨ i = 1 ∨ i = 2 ∨ i = 3 := by omega
  rcases this with rfl | rfl | rfl | rfl
  · omega
  · simp only [Nat.mul_one]; omega
  · simp only [Nat.reduceMul]; omega
  · simp only [Nat.reduceMul]; omega

/-- The bytes in it, rising. -/
def bytesOf (a : BS) : List Nat := (List.range 256).filter (has a)
theorem mem_bytesOf (a : BS) (c : Nat) : c ∈ bytesOf a ↔ has a c = true := by
  unfold bytesOf
  rw [List.mem_filter, List.mem_range]
  exact ⟨fun h => h.2, fun h => ⟨has_lt a c h, h⟩⟩
theorem bytesOf_lt (a : BS) (c : Nat) (h : c ∈ bytesOf a) : c < 256 := has_lt a c ((mem_bytesOf a c).1 h)
theorem bytesOf_len (a : BS) : (bytesOf a).length ≤ 256 := by
  have := List.length_filter_le (has a) (List.range 256)
  simpa [bytesOf] using this
theorem bytesOf_sorted (a : BS) : (bytesOf a).Pairwise (· < ·) := List.Pairwise.filter _ List.pairwise_lt_range
theorem bytesOf_nil (a : BS) : bytesOf a = [] ↔ a = 0#256 := by
  constructor
  · intro h
    refine bs_has_ext fun c hc => ?_
    rw [has_zero]
    cases hh : has a c
    · rfl
    · have := (mem_bytesOf a c).2 hh
      rw [h] at this
      cases this
  · rintro rfl
    apply List.filter_eq_nil_iff.2
    intro c _
    simp [has_zero]

/-- The bits of a word, rising, so much higher. -/
def bitsOf (p o : Nat) : List Nat := ((List.range 64).filter p.testBit).map (o + ·)
theorem bytesOf_words (a : BS) : bytesOf a = bitsOf (wd a 0) 0 ++ (bitsOf (wd a 1) 64 ++ (bitsOf (wd a 2) 128 ++ bitsOf (wd a 3) 192)) := by
  have hw : ∀ i, ((List.range 64).map (64 * i + ·)).filter (has a) = bitsOf (wd a i) (64 * i) := by
    intro i
    unfold bitsOf
    rw [List.filter_map]
    congr 1
    apply List.filter_congr
    intro j hj
    have hj : j < 64 := List.mem_range.1 hj
    rw [wd_bit]
    simp [hj]
  have hr : List.range 256 = (List.range 64).map (64 * 0 + ·) ++ ((List.range 64).map (64 * 1 + ·) ++ ((List.range 64).map (64 * 2 + ·) ++ (List.range 64).map (64 * 3 + ·))) := by decide +kernel
  unfold bytesOf
  rw [hr, List.filter_append, List.filter_append, List.filter_append, hw 0, hw 1, hw 2, hw 3]

theorem bitsOf_zero (o : Nat) : bitsOf 0 o = [] := by
  unfold bitsOf
  rw [List.map_eq_nil_iff, List.filter_eq_nil_iff]
  intro c _
  simp

/-- The least bit, and the others. -/
theorem and_pred_bit (q k j : Nat) : ((2 ^ k * (2 * q + 1)) &&& (2 ^ k * (2 * q + 1) - 1)).testBit j = ((2 ^ k * (2 * q + 1)).testBit j && decide (j ≠ k)) := by
  have hp : 2 ^ k * (2 * q + 1) - 1 = 2 ^ k * (2 * q) + (2 ^ k - 1) := by
    have h1 : 0 < 2 ^ k := Nat.two_pow_pos k
    rw [Nat.mul_add, Nat.mul_one]
    omega
  have hl : 2 ^ k - 1 < 2 ^ k := by have h1 : 0 < 2 ^ k := Nat.two_pow_pos k; omega
  rw [Nat.testBit_and, hp, Nat.testBit_two_pow_mul_add _ hl, Nat.testBit_two_pow_mul]
  by_cases hj : j < k
  · simp [hj, show ¬ k ≤ j by omega]
  · simp only [hj, if_false, show k ≤ j by omega, decide_true, Bool.true_and]
    by_cases e : j = k
    · subst e
      simp
    · obtain ⟨m, hm⟩ : ∃ m, j - k = m + 1 := ⟨j - k - 1, by omega⟩
      rw [hm, Nat.testBit_succ, Nat.testBit_succ]
      rw [show (2 * q + 1) / 2 = q by omega, show 2 * q / 2 = q by omega]
      simp [e]
theorem bits_split (f g : Nat → Bool) (k n : Nat) (hk : k < n) (hlo : ∀ j, j < k → f j = false) (hf : f k = true) (hg : ∀ j, g j = (f j && decide (j ≠ k))) :
    (List.range n).filter f = k :: (List.range n).filter g := by
  have hr : List.range n = List.range k ++ (k :: (List.range (n - k - 1)).map (k + 1 + ·)) := by
    apply List.ext_getElem
    · simp; omega
    · intro i h1 h2
      simp at h1
      rw [List.getElem_range, List.getElem_append]
      split
      · simp
      · rename_i h3
        have h3 : k ≤ i := by simpa using h3
        simp only [List.length_range]
        rcases Nat.eq_or_lt_of_le h3 with rfl | h4
        · simp
        · obtain ⟨m, hm⟩ : ∃ m, i - k = m + 1 := ⟨i - k - 1, by omega⟩
          simp only [hm, List.getElem_cons_succ, List.getElem_map, List.getElem_range]
          omega
  have hl : (List.range k).filter f = [] := List.filter_eq_nil_iff.2 (fun j hj => by rw [hlo j (List.mem_range.1 hj)]; simp)
  have hl2 : (List.range k).filter g = [] := List.filter_eq_nil_iff.2 (fun j hj => by rw [hg, hlo j (List.mem_range.1 hj)]; simp)
  have hgk : g k = false := by rw [hg]; simp
  rw [hr, List.filter_append, List.filter_append, hl, hl2, List.nil_append, List.nil_append, List.filter_cons_of_pos hf, List.filter_cons_of_neg (by rw [hgk]; simp)]
  congr 1
  apply List.filter_congr
  intro j hj
  obtain ⟨i, _, rfl⟩ := List.mem_map.1 hj
  rw [hg]
  have : k + 1 + i ≠ k := by omega
  simp [this]
theorem bitsOf_step (q k o : Nat) (hk : k < 64) :
    bitsOf (2 ^ k * (2 * q + 1)) o = (o + k) :: bitsOf ((2 ^ k * (2 * q + 1)) &&& (2 ^ k * (2 * q + 1) - 1)) o := by
  unfold bitsOf
  rw [bits_split (2 ^ k * (2 * q + 1)).testBit ((2 ^ k * (2 * q + 1)) &&& (2 ^ k * (2 * q + 1) - 1)).testBit k 64 hk ?_ ?_ (and_pred_bit q k)]
  · rfl
  · intro j hj
    rw [Nat.testBit_two_pow_mul]
    simp [show ¬ k ≤ j by omega]
  · rw [Nat.testBit_two_pow_mul]
    simp
end Go.Proofs.YtoiegkejkahfgaaDoor
