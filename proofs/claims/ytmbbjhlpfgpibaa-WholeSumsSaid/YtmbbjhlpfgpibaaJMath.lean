/- What noughts behind do to a remainder; matrices: plain arithmetic. -/
import Derived.Test.YtmbbjhlpfgpibaaCMath
namespace Go.Proofs.Ytmbbjhlpfgpibaa

/-- So many bytes of 0 behind. -/
def zN : Nat → Nat → Nat
  | 0, r => r
  | k + 1, r => zN k (behindN r)
theorem zN_add (j k r : Nat) : zN (j + k) r = zN k (zN j r) := by
  induction j generalizing r with
  | zero => simp [zN]
  | succ j ih => rw [Nat.add_right_comm]; exact ih (behindN r)
theorem zN_xor (k a b : Nat) : zN k (a ^^^ b) = zN k a ^^^ zN k b := by
  induction k generalizing a b with
  | zero => rfl
  | succ k ih => show zN k (behindN (a ^^^ b)) = _; rw [behindN_xor, ih]; rfl
theorem zN_lt (k : Nat) {r : Nat} (h : r < 4294967296) : zN k r < 4294967296 := by
  induction k generalizing r with
  | zero => exact h
  | succ k ih => exact ih (behindN_lt h)
theorem crcF_two (r s : Nat) (l : List UInt8) : crcF (r ^^^ s) l = crcF r l ^^^ zN l.length s := by
  induction l generalizing r s with
  | nil => rfl
  | cons c l ih =>
    show crcF (upd (r ^^^ s) c.toNat) l = crcF (upd r c.toNat) l ^^^ zN l.length (behindN s)
    rw [← ih]
    congr 1
    rw [upd_eq, upd_eq, Nat.xor_assoc, Nat.xor_comm s, ← Nat.xor_assoc, behindN_xor]
/-- The checksum of two pieces. -/
theorem crcN_join (l m : List UInt8) : crcN (l ++ m) = zN m.length (crcN l) ^^^ crcN m := by
  rw [crcN_append]
  unfold more
  rw [Nat.xor_comm (crcN l) ones, crcF_two]
  show _ = zN m.length (crcN l) ^^^ (crcF (0 ^^^ ones) m ^^^ ones)
  rw [Nat.zero_xor, Nat.xor_assoc, Nat.xor_comm (zN m.length (crcN l)) ones, ← Nat.xor_assoc, Nat.xor_comm]

/-- A way of changing remainders, each bit by itself. -/
structure Lin (f : Nat → Nat) : Prop where
  xor : ∀ a b, f (a ^^^ b) = f a ^^^ f b
  lt : ∀ a, a < 4294967296 → f a < 4294967296
theorem Lin.zero {f : Nat → Nat} (h : Lin f) : f 0 = 0 := by
  have := h.xor 0 0
  rw [Nat.xor_self, Nat.xor_self] at this
  exact this
theorem lin_zN (k : Nat) : Lin (zN k) := ⟨zN_xor k, fun _ h => zN_lt k h⟩
/-- A matrix. -/
def matL (f : Nat → Nat) : List Nat := (List.range 32).map (fun i => f (2 ^ i))
theorem matL_len (f : Nat → Nat) : (matL f).length = 32 := by simp [matL]
theorem matL_get (f : Nat → Nat) (i : Nat) (h : i < 32) : (matL f)[i]'(by rw [matL_len]; exact h) = f (2 ^ i) := by simp [matL]
theorem pow_lt32 (i : Nat) (h : i < 32) : 2 ^ i < 4294967296 := Nat.pow_lt_pow_right (n := 32) (by decide) h
theorem mod_bit (r i : Nat) : r % 2 ^ (i + 1) = r % 2 ^ i ^^^ (if r / 2 ^ i % 2 = 1 then 2 ^ i else 0) := by
  apply Nat.eq_of_testBit_eq
  intro j
  rw [Nat.testBit_mod_two_pow, Nat.testBit_xor, Nat.testBit_mod_two_pow]
  have hb : r.testBit i = decide (r / 2 ^ i % 2 = 1) := Nat.testBit_eq_decide_div_mod_eq
  by_cases h : r / 2 ^ i % 2 = 1
  · rw [if_pos h, Nat.testBit_two_pow]
    by_cases e : i = j
    · subst e; simp [hb, h]
    · by_cases h1 : j < i
      · simp [e, h1, show j < i + 1 by omega]
      · simp [e, h1, show ¬ j < i + 1 by omega]
  · rw [if_neg h, Nat.zero_testBit, Bool.xor_false]
    by_cases e : i = j
    · subst e; simp [hb, h]
    · by_cases h1 : j < i
      · simp [h1, show j < i + 1 by omega]
      · simp [h1, show ¬ j < i + 1 by omega]
theorem of_step {f : Nat → Nat} (h : Lin f) (r i : Nat) : f (r % 2 ^ (i + 1)) = if r / 2 ^ i % 2 = 1 then f (r % 2 ^ i) ^^^ f (2 ^ i) else f (r % 2 ^ i) := by
  rw [mod_bit, h.xor]
  by_cases e : r / 2 ^ i % 2 = 1
  · rw [if_pos e, if_pos e]
  · rw [if_neg e, if_neg e, h.zero, Nat.xor_zero]
end Go.Proofs.Ytmbbjhlpfgpibaa
