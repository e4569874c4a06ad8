/- Decimal digits: plain arithmetic. -/
import Derived.Test.YtimffgmbchpfeaaBase
namespace Go.Proofs.Ytimffgmbchpfeaa

/-- Is it a digit? -/
def isDig (c : UInt8) : Prop := 48 ≤ c.toNat ∧ c.toNat ≤ 57
/-- The k last digits of a number. -/
def lastD (n : Nat) : Nat → List UInt8
  | 0 => []
  | k + 1 => UInt8.ofNat (48 + n / 10 ^ k % 10) :: lastD n k
/-- The number of some digits. -/
def valL (l : List UInt8) : Nat := l.foldl (fun v c => 10 * v + (c.toNat - 48)) 0
/-- Digits, one at least, a nought ahead of no other one. -/
def Wrt (l : List UInt8) : Prop := (∀ c ∈ l, isDig c) ∧ l ≠ [] ∧ (l.length = 1 ∨ l.getD 0 0 ≠ 48)
/-- How many digits a number has. -/
def IsLen (n k : Nat) : Prop := 1 ≤ k ∧ n < 10 ^ k ∧ (k = 1 ∨ 10 ^ (k - 1) ≤ n)

theorem lastD_len (n k : Nat) : (lastD n k).length = k := by
  induction k with
  | zero => rfl
  | succ k ih => simp [lastD, ih]
theorem dig_nat (d : Nat) (h : d < 10) : (UInt8.ofNat (48 + d)).toNat = 48 + d := by
  simp [UInt8.toNat_ofNat']; omega
theorem lastD_dig (n k : Nat) : ∀ c ∈ lastD n k, isDig c := by
  induction k with
  | zero => simp [lastD]
  | succ k ih =>
    intro c hc
    simp only [lastD, List.mem_cons] at hc
    rcases hc with rfl | hc
    · unfold isDig
      rw [dig_nat _ (Nat.mod_lt _ (by decide))]
      have := Nat.mod_lt (n / 10 ^ k) (show 10 > 0 by decide)
      omega
    · exact ih c hc

theorem foldl_val (l : List UInt8) (v : Nat) : l.foldl (fun v c => 10 * v + (c.toNat - 48)) v = v * 10 ^ l.length + valL l := by
  induction l generalizing v with
  | nil => simp [valL]
  | cons c l ih =>
    unfold valL
    simp only [List.foldl_cons, List.length_cons]
    rw [ih, ih (10 * 0 + (c.toNat - 48)), Nat.pow_succ]
    rw [Nat.add_mul, Nat.add_mul]
    have : 10 * v * 10 ^ l.length = v * (10 ^ l.length * 10) := by
      rw [Nat.mul_comm 10 v, Nat.mul_assoc, Nat.mul_comm 10]
    omega
theorem valL_cons (c : UInt8) (l : List UInt8) : valL (c :: l) = (c.toNat - 48) * 10 ^ l.length + valL l := by
  conv => lhs; unfold valL
  simp only [List.foldl_cons]
  rw [foldl_val]
  simp
theorem valL_snoc (l : List UInt8) (c : UInt8) : valL (l ++ [c]) = 10 * valL l + (c.toNat - 48) := by
  simp [valL]
theorem valL_nil : valL [] = 0 := rfl

theorem mod_pow_succ (n k : Nat) : n / 10 ^ k % 10 * 10 ^ k + n % 10 ^ k = n % 10 ^ (k + 1) := by
  rw [Nat.pow_succ, Nat.mod_mul, Nat.mul_comm (10 ^ k) (n / 10 ^ k % 10)]
  omega
theorem valL_lastD (n k : Nat) : valL (lastD n k) = n % 10 ^ k := by
  induction k with
  | zero => simp [lastD, valL, Nat.mod_one]
  | succ k ih =>
    simp only [lastD]
    rw [valL_cons, lastD_len, ih, dig_nat _ (Nat.mod_lt _ (by decide)), Nat.add_sub_cancel_left, mod_pow_succ]

theorem valL_lt (l : List UInt8) (h : ∀ c ∈ l, isDig c) : valL l < 10 ^ l.length := by
  induction l with
  | nil => simp [valL]
  | cons c l ih =>
    have h1 := ih (fun x hx => h x (by simp [hx]))
    obtain ⟨h2, h3⟩ := h c (by simp)
    rw [valL_cons, List.length_cons, Nat.pow_succ]
    have : (c.toNat - 48) * 10 ^ l.length ≤ 9 * 10 ^ l.length := Nat.mul_le_mul_right _ (by omega)
    omega
theorem lastD_low (n m k : Nat) (h : n % 10 ^ k = m % 10 ^ k) : lastD n k = lastD m k := by
  induction k with
  | zero => rfl
  | succ k ih =>
    have e1 : n / 10 ^ k % 10 = n % 10 ^ (k + 1) / 10 ^ k := by rw [Nat.pow_succ, Nat.mod_mul_right_div_self]
    have e2 : m / 10 ^ k % 10 = m % 10 ^ (k + 1) / 10 ^ k := by rw [Nat.pow_succ, Nat.mod_mul_right_div_self]
    have e3 : n % 10 ^ k = m % 10 ^ k := by
      have := congrArg (· % 10 ^ k) h
      simp only [Nat.pow_succ, Nat.mod_mul_right_mod] at this
      exact this
    simp only [lastD]
    rw [e1, e2, h, ih e3]
theorem lastD_valL (l : List UInt8) (h : ∀ c ∈ l, isDig c) : lastD (valL l) l.length = l := by
  induction l with
  | nil => rfl
  | cons c l ih =>
    have hl : ∀ x ∈ l, isDig x := fun x hx => h x (by simp [hx])
    have h1 := ih hl
    have hlt := valL_lt l hl
    obtain ⟨h2, h3⟩ := h c (by simp)
    rw [List.length_cons]
    simp only [lastD]
    rw [valL_cons]
    have hp : 0 < 10 ^ l.length := Nat.pow_pos (by decide)
    have e1 : ((c.toNat - 48) * 10 ^ l.length + valL l) / 10 ^ l.length = c.toNat - 48 := by
      rw [Nat.mul_comm, Nat.mul_add_div hp, Nat.div_eq_of_lt hlt, Nat.add_zero]
    rw [e1, lastD_low _ (valL l) l.length (by rw [Nat.mul_comm, Nat.mul_add_mod]), h1]
    congr 1
    rw [Nat.mod_eq_of_lt (by omega), show 48 + (c.toNat - 48) = c.toNat by omega]
    exact UInt8.ofNat_toNat

theorem isLen_wrt (n k : Nat) (h : IsLen n k) : Wrt (lastD n k) ∧ valL (lastD n k) = n := by
  obtain ⟨h1, h2, h3⟩ := h
  obtain ⟨j, rfl⟩ : ∃ j, k = j + 1 := ⟨k - 1, by omega⟩
  refine ⟨⟨lastD_dig _ _, by simp [lastD], ?_⟩, ?_⟩
  · rcases h3 with h3 | h3
    · left; rw [lastD_len]; exact h3
    · right
      rw [Nat.add_sub_cancel] at h3
      have hp : 0 < 10 ^ j := Nat.pow_pos (by decide)
      have h4 : 1 ≤ n / 10 ^ j := (Nat.le_div_iff_mul_le hp).2 (by omega)
      have h5 : n / 10 ^ j < 10 := (Nat.div_lt_iff_lt_mul hp).2 (by rw [Nat.pow_succ] at h2; omega)
      simp only [lastD, List.getD_cons_zero]
      intro e
      have := congrArg UInt8.toNat e
      rw [dig_nat _ (Nat.mod_lt _ (by decide)), Nat.mod_eq_of_lt h5] at this
      have e48 : (48 : UInt8).toNat = 48 := rfl
      omega
  · rw [valL_lastD]; exact Nat.mod_eq_of_lt h2
theorem wrt_isLen (l : List UInt8) (h : Wrt l) : IsLen (valL l) l.length := by
  obtain ⟨h1, h2, h3⟩ := h
  refine ⟨?_, valL_lt l h1, ?_⟩
  · cases l with
    | nil => exact absurd rfl h2
    | cons c l => simp
  · rcases h3 with h3 | h3
    · exact .inl h3
    · cases l with
      | nil => exact absurd rfl h2
      | cons c l =>
        right
        simp only [List.getD_cons_zero] at h3
        obtain ⟨h4, h5⟩ := h1 c (by simp)
        have : c.toNat ≠ 48 := fun e => h3 (UInt8.toNat_inj.1 (by rw [e]; rfl))
        rw [valL_cons, List.length_cons, Nat.add_sub_cancel]
        have : 1 * 10 ^ l.length ≤ (c.toNat - 48) * 10 ^ l.length := Nat.mul_le_mul_right _ (by omega)
        omega
theorem isLen_one {n k m : Nat} (h : IsLen n k) (h' : IsLen n m) : k = m := by
  obtain ⟨h1, h2, h3⟩ := h
  obtain ⟨h4, h5, h6⟩ := h'
  rcases Nat.lt_trichotomy k m with hh | hh | hh
  · rcases h6 with h6 | h6
    · omega
    · have := Nat.pow_le_pow_right (show 10 > 0 by decide) (show k ≤ m - 1 by omega)
      omega
  · exact hh
  · rcases h3 with h3 | h3
    · omega
    · have := Nat.pow_le_pow_right (show 10 > 0 by decide) (show m ≤ k - 1 by omega)
      omega
/-- Digits are those of their number. -/
theorem lastD_back (l : List UInt8) (h : Wrt l) (k : Nat) (hk : IsLen (valL l) k) : lastD (valL l) k = l := by
  rw [isLen_one hk (wrt_isLen l h)]
  exact lastD_valL l h.1

theorem valL_take_le (l : List UInt8) (k : Nat) : valL (l.take k) ≤ valL l := by
  have h : valL l = valL (l.take k) * 10 ^ (l.drop k).length + valL (l.drop k) := by
    conv => lhs; rw [← List.take_append_drop k l]; unfold valL
    rw [List.foldl_append, foldl_val]
    rfl
  have hp : 0 < 10 ^ (l.drop k).length := Nat.pow_pos (by decide)
  have := Nat.le_mul_of_pos_right (valL (l.take k)) hp
  omega
end Go.Proofs.Ytimffgmbchpfeaa
