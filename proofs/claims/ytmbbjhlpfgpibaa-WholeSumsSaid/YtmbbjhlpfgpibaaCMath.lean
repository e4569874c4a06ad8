/- Remainders of 32 bits: plain arithmetic. -/
import Derived.Test.YtmbbjhlpfgpibaaBase
namespace Go.Proofs.Ytmbbjhlpfgpibaa

/-- The polynomial, bit 31 the power 0. -/
def pol : Nat := 3988292384
/-- A remainder, one bit of 0 behind. -/
def step1 (r : Nat) : Nat := r / 2 ^^^ (if r % 2 = 1 then pol else 0)
def stepN : Nat → Nat → Nat
  | 0, r => r
  | k + 1, r => stepN k (step1 r)

theorem stepN_succ (k r : Nat) : stepN (k + 1) r = step1 (stepN k r) := by
  induction k generalizing r with
  | zero => rfl
  | succ k ih => show stepN (k + 1) (step1 r) = _; rw [ih (step1 r)]; rfl
theorem stepN_add (j k r : Nat) : stepN (j + k) r = stepN k (stepN j r) := by
  induction j generalizing r with
  | zero => simp [stepN]
  | succ j ih => rw [Nat.add_right_comm]; show stepN (j + k) (step1 r) = stepN k (stepN j (step1 r)); exact ih _

theorem div2_xor (a b : Nat) : (a ^^^ b) / 2 = a / 2 ^^^ b / 2 := by
  apply Nat.eq_of_testBit_eq
  intro i
  simp [Nat.testBit_div_two]
theorem mod2_xor (a b : Nat) : (a ^^^ b) % 2 = (a % 2 + b % 2) % 2 := by
  have h := Nat.testBit_xor a b 0
  simp only [Nat.testBit_zero] at h
  have h1 := Nat.mod_two_eq_zero_or_one a
  have h2 := Nat.mod_two_eq_zero_or_one b
  have h3 := Nat.mod_two_eq_zero_or_one (a ^^^ b)
  rcases h1 with h1 | h1 <;> rcases h2 with h2 | h2 <;> rcases h3 with h3 | h3 <;> simp [h1, h2, h3] at h ⊢
theorem xor_self_mid (a b p : Nat) : (a ^^^ p) ^^^ (b ^^^ p) = a ^^^ b := by
  rw [Nat.xor_assoc, Nat.xor_comm b p, ← Nat.xor_assoc p p b, Nat.xor_self, Nat.zero_xor]
theorem step1_xor (a b : Nat) : step1 (a ^^^ b) = step1 a ^^^ step1 b := by
  unfold step1
  rw [div2_xor, mod2_xor]
  have h1 := Nat.mod_two_eq_zero_or_one a
  have h2 := Nat.mod_two_eq_zero_or_one b
  rcases h1 with h1 | h1 <;> rcases h2 with h2 | h2 <;> simp only [h1, h2]
  · simp
  · simp [Nat.xor_assoc]
  · simp
    rw [Nat.xor_assoc, Nat.xor_comm (b / 2), ← Nat.xor_assoc]
  · simp [xor_self_mid]
theorem step1_zero : step1 0 = 0 := by decide
theorem stepN_xor (k a b : Nat) : stepN k (a ^^^ b) = stepN k a ^^^ stepN k b := by
  induction k generalizing a b with
  | zero => rfl
  | succ k ih => show stepN k (step1 (a ^^^ b)) = _; rw [step1_xor, ih]; rfl
theorem stepN_zero (k : Nat) : stepN k 0 = 0 := by
  induction k with
  | zero => rfl
  | succ k ih => show stepN k (step1 0) = 0; rw [step1_zero, ih]
theorem xor_lt32 {a b : Nat} (ha : a < 4294967296) (hb : b < 4294967296) : a ^^^ b < 4294967296 :=
  Nat.xor_lt_two_pow (n := 32) ha hb
theorem step1_lt {r : Nat} (h : r < 4294967296) : step1 r < 4294967296 := by
  unfold step1
  refine xor_lt32 (by omega) ?_
  split <;> decide
theorem stepN_lt (k : Nat) {r : Nat} (h : r < 4294967296) : stepN k r < 4294967296 := by
  induction k generalizing r with
  | zero => exact h
  | succ k ih => exact ih (step1_lt h)

/-- Eight bits of 0 behind. -/
def behindN (r : Nat) : Nat := stepN 8 r
theorem behindN_lt {r : Nat} (h : r < 4294967296) : behindN r < 4294967296 := stepN_lt 8 h
theorem behindN_xor (a b : Nat) : behindN (a ^^^ b) = behindN a ^^^ behindN b := stepN_xor 8 a b
theorem step1_even (a : Nat) : step1 (2 * a) = a := by unfold step1; rw [if_neg (by omega), Nat.xor_zero]; omega
theorem behindN_high (a : Nat) : behindN (a * 256) = a := by
  unfold behindN
  have : ∀ k b, stepN k (b * 2 ^ k) = b := by
    intro k
    induction k with
    | zero => intro b; simp [stepN]
    | succ k ih => intro b; show stepN k (step1 (b * 2 ^ (k + 1))) = b; rw [show b * 2 ^ (k + 1) = 2 * (b * 2 ^ k) by rw [Nat.pow_succ]; rw [← Nat.mul_assoc, Nat.mul_comm 2]]; rw [step1_even, ih]
  exact this 8 a

/-- A remainder, one byte more behind: by the table. -/
def upd (r c : Nat) : Nat := r / 256 ^^^ behindN ((r % 256) ^^^ c)
theorem split256 (r : Nat) : r = r / 256 * 256 ^^^ r % 256 := by
  have h := Nat.two_pow_add_eq_or_of_lt (i := 8) (b := r % 256) (by omega) (r / 256)
  have h2 : 2 ^ 8 * (r / 256) ||| r % 256 = 2 ^ 8 * (r / 256) ^^^ r % 256 := by
    apply Nat.eq_of_testBit_eq
    intro i
    rw [Nat.testBit_or, Nat.testBit_xor]
    by_cases hi : i < 8
    · have : (2 ^ 8 * (r / 256)).testBit i = false := by
        rw [Nat.testBit_two_pow_mul]; simp; omega
      rw [this]; simp
    · have : (r % 256).testBit i = false := Nat.testBit_lt_two_pow (Nat.lt_of_lt_of_le (show r % 256 < 2 ^ 8 by omega) (Nat.pow_le_pow_right (by decide) (by omega)))
      rw [this]; simp
  rw [h2] at h
  rw [Nat.mul_comm (r / 256) 256]
  have e : (2 : Nat) ^ 8 = 256 := rfl
  rw [e] at h
  rw [← h]
  omega
theorem upd_eq (r c : Nat) : upd r c = behindN (r ^^^ c) := by
  conv => rhs; rw [split256 r]
  rw [Nat.xor_assoc, behindN_xor, behindN_high]
  rfl
theorem upd_lt {r c : Nat} (hr : r < 4294967296) (hc : c < 256) : upd r c < 4294967296 := by
  rw [upd_eq]
  exact behindN_lt (xor_lt32 hr (by omega))

/-- A remainder, bytes more behind. -/
def crcF (r : Nat) (l : List UInt8) : Nat := l.foldl (fun r c => upd r c.toNat) r
theorem crcF_snoc (r : Nat) (l : List UInt8) (c : UInt8) : crcF r (l ++ [c]) = upd (crcF r l) c.toNat := by simp [crcF]
theorem crcF_append (r : Nat) (l m : List UInt8) : crcF r (l ++ m) = crcF (crcF r l) m := by simp [crcF]
theorem crcF_lt {r : Nat} (hr : r < 4294967296) (l : List UInt8) : crcF r l < 4294967296 := by
  induction l generalizing r with
  | nil => exact hr
  | cons c l ih => exact ih (upd_lt hr c.toNat_lt)
/-- 32 bits that are 1. -/
def ones : Nat := 4294967295
/-- The checksum of some bytes more. -/
def more (s : Nat) (l : List UInt8) : Nat := crcF (s ^^^ ones) l ^^^ ones
/-- The checksum. -/
def crcN (l : List UInt8) : Nat := more 0 l
theorem ones_lt : ones < 4294967296 := by decide
theorem xor_ones2 (s : Nat) : s ^^^ ones ^^^ ones = s := by rw [Nat.xor_assoc, Nat.xor_self, Nat.xor_zero]
theorem more_lt {s : Nat} (hs : s < 4294967296) (l : List UInt8) : more s l < 4294967296 := xor_lt32 (crcF_lt (xor_lt32 hs ones_lt) l) ones_lt
theorem crcN_lt (l : List UInt8) : crcN l < 4294967296 := more_lt (by decide) l
theorem more_append (s : Nat) (l m : List UInt8) : more (more s l) m = more s (l ++ m) := by
  unfold more
  rw [xor_ones2, crcF_append]
theorem crcN_append (l m : List UInt8) : crcN (l ++ m) = more (crcN l) m := (more_append 0 l m).symm
theorem more_nil (s : Nat) : more s [] = s := by unfold more crcF; simp [xor_ones2]
theorem crcN_nil : crcN [] = 0 := more_nil 0
end Go.Proofs.Ytmbbjhlpfgpibaa
