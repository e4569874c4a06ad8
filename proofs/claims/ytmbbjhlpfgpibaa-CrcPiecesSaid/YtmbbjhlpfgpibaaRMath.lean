/- The long division, bit by bit: plain arithmetic. -/
import Derived.Test.YtmbbjhlpfgpibaaCMath
namespace Go.Proofs.Ytmbbjhlpfgpibaa

/-- The bits of bytes, and noughts behind. -/
def mb (l : List UInt8) (j : Nat) : Nat := (l.getD (j / 8) 0).toNat / 2 ^ (j % 8) % 2
/-- The remainder, bit by bit. -/
def Sb (l : List UInt8) : Nat → Nat
  | 0 => ones
  | i + 1 => step1 (Sb l i ^^^ mb l i)
/-- What the division has made of bit j, so many steps done. -/
def dvv (l : List UInt8) (i j : Nat) : Nat := if j < i + 32 then ((Sb l i).testBit (j - i)).toNat.xor (mb l j) else mb l j
/-- The polynomial's bits, as they are laid. -/
def polyL : List Nat := [0, 0, 0, 0, 0, 1, 0, 0, 1, 1, 0, 0, 0, 0, 0, 1, 0, 0, 0, 1, 1, 1, 0, 1, 1, 0, 1, 1, 0, 1, 1, 1]

theorem mb_le (l : List UInt8) (j : Nat) : mb l j ≤ 1 := by have := Nat.mod_lt ((l.getD (j / 8) 0).toNat / 2 ^ (j % 8)) (show 2 > 0 by decide); unfold mb; omega
theorem mb_far (l : List UInt8) (j : Nat) (h : 8 * l.length ≤ j) : mb l j = 0 := by
  unfold mb
  have : l.getD (j / 8) 0 = 0 := by simp [List.getD, List.getElem?_eq_none (show l.length ≤ j / 8 by omega)]
  rw [this]
  simp
theorem mb_at (l : List UInt8) (i k : Nat) (hi : i < l.length) (hk : k < 8) : mb l (8 * i + k) = l[i].toNat / 2 ^ k % 2 := by
  unfold mb
  rw [show (8 * i + k) / 8 = i by omega, show (8 * i + k) % 8 = k by omega]
  simp [List.getD, hi]
theorem Sb_lt (l : List UInt8) (i : Nat) : Sb l i < 4294967296 := by
  induction i with
  | zero => exact ones_lt
  | succ i ih => exact step1_lt (xor_lt32 ih (by have := mb_le l i; omega))

theorem xor01 (a b : Nat) (ha : a ≤ 1) (hb : b ≤ 1) : a.xor b = (a + b) % 2 := by
  rcases (show a = 0 ∨ a = 1 by omega) with rfl | rfl <;> rcases (show b = 0 ∨ b = 1 by omega) with rfl | rfl <;> rfl
theorem toNat_le (b : Bool) : b.toNat ≤ 1 := by cases b <;> decide
theorem dvv_le (l : List UInt8) (i j : Nat) : dvv l i j ≤ 1 := by
  unfold dvv
  split
  · rw [xor01 _ _ (toNat_le _) (mb_le l j)]; omega
  · exact mb_le l j
theorem ones_bit (j : Nat) : ones.testBit j = decide (j < 32) := by
  have : ones = 2 ^ 32 - 1 := rfl
  rw [this, Nat.testBit_two_pow_sub_one]
theorem dvv_zero (l : List UInt8) (j : Nat) : dvv l 0 j = if j < 32 then 1 - mb l j else mb l j := by
  unfold dvv
  by_cases h : j < 32
  · rw [if_pos (by omega), if_pos h]
    show (ones.testBit (j - 0)).toNat.xor (mb l j) = _
    rw [Nat.sub_zero, ones_bit, decide_eq_true h]
    rw [xor01 _ _ (by decide) (mb_le l j)]
    have := mb_le l j
    show (1 + mb l j) % 2 = _
    omega
  · rw [if_neg (by omega), if_neg h]

theorem bit_small (m t : Nat) (hm : m ≤ 1) (ht : 1 ≤ t) : m.testBit t = false := by
  apply Nat.testBit_lt_two_pow
  calc m ≤ 1 := hm
    _ < 2 ^ t := Nat.one_lt_two_pow (by omega)
theorem step1_bit (r t : Nat) : (step1 r).testBit t = (r.testBit (t + 1) ^^ (decide (r % 2 = 1) && pol.testBit t)) := by
  unfold step1
  rw [Nat.testBit_xor, Nat.testBit_div_two]
  by_cases h : r % 2 = 1
  · simp [h]
  · simp [h]
theorem bit0 (l : List UInt8) (i : Nat) : dvv l i i = (Sb l i ^^^ mb l i) % 2 := by
  unfold dvv
  rw [if_pos (by omega), Nat.sub_self, xor01 _ _ (toNat_le _) (mb_le l i), mod2_xor, Nat.testBit_zero]
  have h1 := Nat.mod_two_eq_zero_or_one (Sb l i)
  have h2 := mb_le l i
  rcases h1 with h1 | h1 <;> simp [h1] <;> omega
theorem Sb_bit (l : List UInt8) (i t : Nat) : (Sb l (i + 1)).testBit t = ((Sb l i).testBit (t + 1) ^^ (decide (dvv l i i = 1) && pol.testBit t)) := by
  show (step1 (Sb l i ^^^ mb l i)).testBit t = _
  rw [step1_bit, ← bit0, Nat.testBit_xor, bit_small (mb l i) (t + 1) (mb_le l i) (by omega), Bool.xor_false]
theorem poly_bit (t : Nat) (ht : t < 32) : (pol.testBit t).toNat = polyL.getD t 0 := by
  have : ∀ t : Fin 32, (pol.testBit t.1).toNat = polyL.getD t.1 0 := by decide
  exact this ⟨t, ht⟩
theorem Sb_32 (l : List UInt8) (i : Nat) : (Sb l i).testBit 32 = false := Nat.testBit_lt_two_pow (Sb_lt l i)

theorem dvv_step (l : List UInt8) (i t : Nat) (ht : t < 32) (h1 : dvv l i i = 1) : dvv l (i + 1) (i + 1 + t) = (dvv l i (i + 1 + t) + polyL.getD t 0) % 2 := by
  rw [← poly_bit t ht]
  have e : dvv l (i + 1) (i + 1 + t) = ((Sb l (i + 1)).testBit t).toNat.xor (mb l (i + 1 + t)) := by
    unfold dvv; rw [if_pos (by omega), show i + 1 + t - (i + 1) = t by omega]
  have e2 : dvv l i (i + 1 + t) = ((Sb l i).testBit (t + 1)).toNat.xor (mb l (i + 1 + t)) := by
    by_cases h : t + 1 < 32
    · unfold dvv; rw [if_pos (by omega), show i + 1 + t - i = t + 1 by omega]
    · unfold dvv; rw [if_neg (by omega), show t + 1 = 32 by omega, Sb_32]; simp
  rw [e, e2, Sb_bit, decide_eq_true h1, Bool.true_and, xor01 _ _ (toNat_le _) (mb_le _ _), xor01 _ _ (toNat_le _) (mb_le _ _)]
  cases (Sb l i).testBit (t + 1) <;> cases pol.testBit t <;> simp <;> omega
theorem dvv_stay (l : List UInt8) (i j : Nat) (hj : i + 1 ≤ j) (h0 : dvv l i i ≠ 1) : dvv l (i + 1) j = dvv l i j := by
  obtain ⟨t, rfl⟩ : ∃ t, j = i + 1 + t := ⟨j - (i + 1), by omega⟩
  by_cases ht : t < 32
  · have e : dvv l (i + 1) (i + 1 + t) = ((Sb l (i + 1)).testBit t).toNat.xor (mb l (i + 1 + t)) := by
      unfold dvv; rw [if_pos (by omega), show i + 1 + t - (i + 1) = t by omega]
    have e2 : dvv l i (i + 1 + t) = ((Sb l i).testBit (t + 1)).toNat.xor (mb l (i + 1 + t)) := by
      by_cases h : t + 1 < 32
      · unfold dvv; rw [if_pos (by omega), show i + 1 + t - i = t + 1 by omega]
      · unfold dvv; rw [if_neg (by omega), show t + 1 = 32 by omega, Sb_32]; simp
    rw [e, e2, Sb_bit, decide_eq_false h0, Bool.false_and, Bool.xor_false]
  · unfold dvv; rw [if_neg (by omega), if_neg (by omega)]
theorem dvv_far (l : List UInt8) (i j : Nat) (hj : i + 33 ≤ j) : dvv l (i + 1) j = dvv l i j := by
  unfold dvv; rw [if_neg (by omega), if_neg (by omega)]

/-- Bits of a byte, one by one into the remainder. -/
def Fb (c : Nat) : Nat → Nat → Nat
  | 0, s => s
  | k + 1, s => step1 (Fb c k s ^^^ (c / 2 ^ k % 2))
theorem half_split (c : Nat) : c = (c % 2) ^^^ (2 * (c / 2)) := by
  have h := Nat.two_pow_add_eq_or_of_lt (i := 1) (b := c % 2) (by omega) (c / 2)
  apply Nat.eq_of_testBit_eq
  intro i
  rw [Nat.testBit_xor]
  cases i with
  | zero => simp [Nat.testBit_zero]
  | succ i =>
    rw [bit_small (c % 2) (i + 1) (by omega) (by omega), Bool.false_xor]
    rw [← Nat.testBit_div_two, ← Nat.testBit_div_two]
    congr 1
    omega
theorem Fb_eq (c k s : Nat) : Fb c k s ^^^ (c / 2 ^ k) = stepN k (s ^^^ c) := by
  induction k with
  | zero => simp [Fb, stepN]
  | succ k ih =>
    rw [stepN_succ, ← ih]
    show step1 (Fb c k s ^^^ (c / 2 ^ k % 2)) ^^^ (c / 2 ^ (k + 1)) = _
    have e : c / 2 ^ k = (c / 2 ^ k % 2) ^^^ (2 * (c / 2 ^ (k + 1))) := by
      have := half_split (c / 2 ^ k)
      rw [Nat.div_div_eq_div_mul, ← Nat.pow_succ] at this
      exact this
    conv => rhs; rw [e, ← Nat.xor_assoc, step1_xor, step1_even]
theorem Fb_byte (c s : Nat) (hc : c < 256) : Fb c 8 s = upd s c := by
  have h := Fb_eq c 8 s
  rw [show c / 2 ^ 8 = 0 by omega, Nat.xor_zero] at h
  rw [h, upd_eq]
  rfl
theorem Sb_in (l : List UInt8) (i k : Nat) (hi : i < l.length) (hk : k ≤ 8) : Sb l (8 * i + k) = Fb l[i].toNat k (Sb l (8 * i)) := by
  induction k with
  | zero => rfl
  | succ k ih =>
    show step1 (Sb l (8 * i + k) ^^^ mb l (8 * i + k)) = step1 (Fb _ k _ ^^^ _)
    rw [ih (by omega), mb_at l i k hi (by omega)]
theorem Sb_bytes (l : List UInt8) (i : Nat) (hi : i ≤ l.length) : Sb l (8 * i) = crcF ones (l.take i) := by
  induction i with
  | zero => simp [Sb, crcF]
  | succ i ih =>
    have h := Sb_in l i 8 (by omega) (Nat.le_refl 8)
    rw [show 8 * (i + 1) = 8 * i + 8 by omega, h, Fb_byte _ _ l[i].toNat_lt, ih (by omega), List.take_succ_eq_append_getElem (by omega), crcF_snoc]
/-- What is left is the checksum. -/
theorem Sb_all (l : List UInt8) : Sb l (8 * l.length) ^^^ ones = crcN l := by
  rw [Sb_bytes l l.length (Nat.le_refl _), List.take_length]
  unfold crcN more
  rw [Nat.zero_xor]
/-- The bits that are left. -/
theorem dvv_end (l : List UInt8) (t : Nat) (ht : t < 32) : dvv l (8 * l.length) (8 * l.length + t) = ((Sb l (8 * l.length)).testBit t).toNat := by
  unfold dvv
  rw [if_pos (by omega), mb_far l _ (by omega), Nat.add_sub_cancel_left, xor01 _ _ (toNat_le _) (by decide)]
  have := toNat_le ((Sb l (8 * l.length)).testBit t)
  omega
/-- The highest bits of a number, one more. -/
theorem high_step (X k : Nat) (hk : k < 32) (hX : X < 4294967296) : X / 2 ^ (32 - (k + 1)) = 2 * (X / 2 ^ (32 - k)) + (X.testBit (31 - k)).toNat := by
  have e : 2 ^ (32 - k) = 2 ^ (32 - (k + 1)) * 2 := by rw [← Nat.pow_succ]; congr 1; omega
  have _h := hX
  rw [e, ← Nat.div_div_eq_div_mul, Nat.testBit_eq_decide_div_mod_eq, show 32 - (k + 1) = 31 - k by omega]
  have := Nat.mod_two_eq_zero_or_one (X / 2 ^ (31 - k))
  rcases this with h | h <;> simp [h] <;> omega
end Go.Proofs.Ytmbbjhlpfgpibaa
