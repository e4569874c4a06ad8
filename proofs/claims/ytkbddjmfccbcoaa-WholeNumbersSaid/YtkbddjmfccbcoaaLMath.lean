/- Plain facts on numbers of seven bits a byte. -/
import Derived.Test.YtkbddjmfccbcoaaMath
import Derived.Lib.BitFns
namespace Go.Proofs.Ytkbddjmfccbcoaa

theorem pow128 (k : Nat) : (128 : Nat) ^ k = 2 ^ (7 * k) := by rw [show (128 : Nat) = 2 ^ 7 from rfl, ← Nat.pow_mul]

/-- A digit with one more behind it; the last digit. -/
def hiD (n i : Nat) : UInt8 := UInt8.ofNat (128 + n / 128 ^ i % 128)
def loD (n i : Nat) : UInt8 := UInt8.ofNat (n / 128 ^ i % 128)
theorem hiD_nat (n i : Nat) : (hiD n i).toNat = 128 + n / 128 ^ i % 128 := by unfold hiD; rw [UInt8.toNat_ofNat']; omega
theorem loD_nat (n i : Nat) : (loD n i).toNat = n / 128 ^ i % 128 := by unfold loD; rw [UInt8.toNat_ofNat']; omega
def hiDs (n k : Nat) : List UInt8 := (List.range k).map (hiD n)
/-- n in k bytes. -/
def padD (n k : Nat) : List UInt8 := hiDs n (k - 1) ++ [loD n (k - 1)]
theorem hiDs_len (n k : Nat) : (hiDs n k).length = k := by simp [hiDs]
theorem padD_len (n k : Nat) (h : 1 ≤ k) : (padD n k).length = k := by simp [padD, hiDs_len]; omega
theorem hiDs_succ (n k : Nat) : hiDs n (k + 1) = hiDs n k ++ [hiD n k] := by simp [hiDs, List.range_succ]

/-- The number of some bytes' digits. -/
def vSum : List UInt8 → Nat
  | [] => 0
  | c :: t => c.toNat % 128 + 128 * vSum t
theorem vSum_snoc (l : List UInt8) (c : UInt8) : vSum (l ++ [c]) = vSum l + c.toNat % 128 * 128 ^ l.length := by
  induction l with
  | nil => simp [vSum]
  | cons d t ih =>
    simp only [List.cons_append, vSum, ih, List.length_cons, Nat.pow_succ, Nat.mul_add, Nat.add_assoc]
    have : 128 * (c.toNat % 128 * 128 ^ t.length) = c.toNat % 128 * (128 ^ t.length * 128) := by
      rw [Nat.mul_left_comm, Nat.mul_comm 128]
    rw [this]
theorem vSum_lt (l : List UInt8) : vSum l < 128 ^ l.length := by
  induction l with
  | nil => simp [vSum]
  | cons d t ih =>
    simp only [vSum, List.length_cons, Nat.pow_succ]
    omega
theorem vSum_hiDs (n k : Nat) : vSum (hiDs n k) = n % 128 ^ k := by
  induction k with
  | zero => simp [hiDs, vSum, Nat.mod_one]
  | succ k ih =>
    rw [hiDs_succ, vSum_snoc, ih, hiD_nat, hiDs_len, Nat.pow_succ, Nat.mod_mul, Nat.mul_comm]
    congr 2
    omega
theorem vSum_padD (n k : Nat) (h : 1 ≤ k) : vSum (padD n k) = n % 128 ^ k := by
  obtain ⟨m, rfl⟩ : ∃ m, k = m + 1 := ⟨k - 1, by omega⟩
  unfold padD
  rw [Nat.add_sub_cancel, vSum_snoc, vSum_hiDs, loD_nat, hiDs_len, Nat.pow_succ, Nat.mod_mul, Nat.mul_comm, Nat.mod_mod]

/-- In how few bytes n fits. -/
def lenD (n : Nat) : Nat := (Lib.bitLen (n ||| 1) + 6) / 7

theorem bl_bounds (x : Nat) (h0 : x ≠ 0) (h : x < 18446744073709551616) : 1 ≤ Lib.bitLen x ∧ 2 ^ (Lib.bitLen x - 1) ≤ x ∧ x < 2 ^ Lib.bitLen x := by
  have aux : ∀ (f x : Nat), x < 2 ^ f → x ≠ 0 → 1 ≤ Lib.bitLenAux f x ∧ 2 ^ (Lib.bitLenAux f x - 1) ≤ x ∧ x < 2 ^ Lib.bitLenAux f x := by
    intro f
    induction f with
    | zero => intro x hx h0; simp at hx; omega
    | succ f ih =>
      intro x hx h0
      unfold Lib.bitLenAux
      rw [if_neg h0]
      by_cases h1 : x / 2 = 0
      · have hx1 : x = 1 := by omega
        subst hx1
        have : Lib.bitLenAux f 0 = 0 := by cases f <;> simp [Lib.bitLenAux]
        rw [h1, this]
        decide
      · obtain ⟨a, b, c⟩ := ih (x / 2) (by rw [Nat.pow_succ] at hx; omega) h1
        refine ⟨by omega, ?_, ?_⟩
        · rw [show 1 + Lib.bitLenAux f (x / 2) - 1 = (Lib.bitLenAux f (x / 2) - 1) + 1 from by omega, Nat.pow_succ]; omega
        · rw [Nat.add_comm, Nat.pow_succ]; omega
  exact aux 64 x h h0

theorem or_one (n : Nat) : n ||| 1 = n + (1 - n % 2) := by
  rcases Nat.mod_two_eq_zero_or_one n with h | h
  · rw [h, nat_join 1 n 1 (by simpa using h) (by decide)]
  · have e : n = (n - 1) ||| 1 := by rw [nat_join 1 (n - 1) 1 (by omega) (by decide)]; omega
    rw [h]
    conv => lhs; rw [e]
    rw [Nat.or_assoc, Nat.or_self, ← e]
    omega

theorem lenD_spec (n : Nat) (h : n < 18446744073709551616) : 1 ≤ lenD n ∧ lenD n ≤ 10 ∧ n < 128 ^ lenD n ∧ (lenD n = 1 ∨ 128 ^ (lenD n - 1) ≤ n) := by
  have ho := or_one n
  have hlt : n ||| 1 < 18446744073709551616 := by omega
  have hne : n ||| 1 ≠ 0 := by omega
  obtain ⟨h1, h2, h3⟩ := bl_bounds (n ||| 1) hne hlt
  have h64 : Lib.bitLen (n ||| 1) ≤ 64 := by
    rcases Nat.lt_or_ge 64 (Lib.bitLen (n ||| 1)) with hh | hh
    · have : 2 ^ 64 ≤ 2 ^ (Lib.bitLen (n ||| 1) - 1) := Nat.pow_le_pow_right (by omega) (by omega)
      simp only [Nat.reducePow] at this
      omega
    · exact hh
  have hk : lenD n = (Lib.bitLen (n ||| 1) + 6) / 7 := rfl
  refine ⟨by omega, by omega, ?_, ?_⟩
  · rw [pow128]
    have : 2 ^ Lib.bitLen (n ||| 1) ≤ 2 ^ (7 * lenD n) := Nat.pow_le_pow_right (by omega) (by omega)
    omega
  · rcases Nat.lt_or_ge 1 (lenD n) with hh | hh
    · right
      rw [pow128]
      have h4 : 2 ^ (7 * (lenD n - 1)) ≤ 2 ^ (Lib.bitLen (n ||| 1) - 1) := Nat.pow_le_pow_right (by omega) (by omega)
      obtain ⟨m, hm⟩ : ∃ m, 7 * (lenD n - 1) = m + 1 := ⟨7 * (lenD n - 1) - 1, by omega⟩
      rw [hm, Nat.pow_succ] at h4 ⊢
      omega
    · left; omega
theorem lenD_unique (n k : Nat) (h : n < 18446744073709551616) (h1 : 1 ≤ k) (h2 : n < 128 ^ k) (h3 : k = 1 ∨ 128 ^ (k - 1) ≤ n) : lenD n = k := by
  obtain ⟨a, _, c, d⟩ := lenD_spec n h
  rcases Nat.lt_trichotomy (lenD n) k with hh | hh | hh
  · rcases h3 with h3 | h3
    · omega
    · have : 128 ^ lenD n ≤ 128 ^ (k - 1) := Nat.pow_le_pow_right (by omega) (by omega)
      omega
  · exact hh
  · rcases d with d | d
    · omega
    · have : 128 ^ k ≤ 128 ^ (lenD n - 1) := Nat.pow_le_pow_right (by omega) (by omega)
      omega

theorem byte_or (x : Nat) (h : x < 256) : x ||| 128 = 128 + x % 128 := by
  have : ∀ y : Fin 256, y.val ||| 128 = 128 + y.val % 128 := by decide +kernel
  exact this ⟨x, h⟩
theorem byte_and (x : Nat) (h : x < 256) : x &&& (255 - 128) = x % 128 := by
  have : ∀ y : Fin 256, y.val &&& (255 - 128) = y.val % 128 := by decide +kernel
  exact this ⟨x, h⟩
theorem hi_val (n k : Nat) : bits .or .u8 ((n : Int) / 2 ^ (7 * k) % 256) 128 = ((hiD n k).toNat : Int) := by
  have e : (n : Int) / 2 ^ (7 * k) % 256 = ((n / 128 ^ k % 256 : Nat) : Int) := by rw [pow128]; simp
  have h : bits .or .u8 ((n / 128 ^ k % 256 : Nat) : Int) ((128 : Nat) : Int) = _ := u8_or_nat (n / 128 ^ k % 256) 128 (by omega) (by decide)
  rw [e, show (128 : Int) = ((128 : Nat) : Int) from rfl, h, byte_or _ (by omega), hiD_nat]
  omega
theorem andNot_val (c : UInt8) : bits .andNot .u8 (c.toNat : Int) 128 = ((c.toNat % 128 : Nat) : Int) := by
  have h : bits .andNot .u8 (c.toNat : Int) ((128 : Nat) : Int) = _ := u8_andNot_nat c.toNat 128 c.toNat_lt (by decide)
  rw [show (128 : Int) = ((128 : Nat) : Int) from rfl, h, byte_and _ c.toNat_lt]
theorem lo_val (n k : Nat) : bits .andNot .u8 ((hiD n k).toNat : Int) 128 = ((loD n k).toNat : Int) := by
  rw [andNot_val, hiD_nat, loD_nat]; omega

/-- The row when k of 'count' digits are written behind 'pre'. -/
def lebRow (pre : List UInt8) (n count k : Nat) : List UInt8 := pre ++ (hiDs n k ++ List.replicate (count - k) 0)
theorem lebRow_len (pre : List UInt8) (n count k : Nat) (h : k ≤ count) : (lebRow pre n count k).length = pre.length + count := by simp [lebRow, hiDs_len]; omega
theorem lebRow_zero (pre : List UInt8) (n count : Nat) : lebRow pre n count 0 = pre ++ List.replicate count 0 := by simp [lebRow, hiDs]
theorem lebRow_set (pre : List UInt8) (n count k : Nat) (h : k < count) : (lebRow pre n count k).set (pre.length + k) (hiD n k) = lebRow pre n count (k + 1) := by
  unfold lebRow
  rw [List.set_append_right _ _ (by omega), List.set_append_right _ _ (by rw [hiDs_len]; omega), hiDs_len, hiDs_succ]
  obtain ⟨m, hm⟩ : ∃ m, count - k = m + 1 := ⟨count - k - 1, by omega⟩
  rw [hm, show count - (k + 1) = m from by omega, show pre.length + k - pre.length - k = 0 from by omega]
  simp [List.replicate_succ]
theorem lebRow_last (pre : List UInt8) (n k : Nat) : (lebRow pre n (k + 1) (k + 1))[pre.length + k]? = some (hiD n k) := by
  unfold lebRow
  rw [Nat.sub_self, hiDs_succ]
  simp [hiDs_len]
theorem lebRow_fin (pre : List UInt8) (n k : Nat) : (lebRow pre n (k + 1) (k + 1)).set (pre.length + k) (loD n k) = pre ++ padD n (k + 1) := by
  unfold lebRow padD
  rw [Nat.sub_self, hiDs_succ, Nat.add_sub_cancel, List.replicate_zero, List.append_nil, List.set_append_right _ _ (by omega), List.set_append_right _ _ (by rw [hiDs_len]; omega), hiDs_len,
    show pre.length + k - pre.length - k = 0 from by omega]
  simp

theorem pow128_le (k : Nat) (h : k ≤ 9) : (128 : Nat) ^ k ≤ 9223372036854775808 := by
  have : (128 : Nat) ^ k ≤ 128 ^ 9 := Nat.pow_le_pow_right (by omega) h
  simpa using this
theorem dig_small (b : UInt8) (cnt : Nat) (h9 : cnt ≤ 9) (hb : cnt = 9 → b.toNat ≤ 1) : b.toNat % 128 * 128 ^ cnt < 18446744073709551616 ∧ b.toNat % 128 * 128 ^ cnt + 128 ^ cnt ≤ 18446744073709551616 := by
  rcases (show cnt ≤ 8 ∨ cnt = 9 by omega) with h | rfl
  · have h2 : (128 : Nat) ^ cnt ≤ 128 ^ 8 := Nat.pow_le_pow_right (by omega) h
    simp only [Nat.reducePow] at h2
    have h3 : b.toNat % 128 * 128 ^ cnt ≤ 127 * 128 ^ cnt := Nat.mul_le_mul_right _ (by omega)
    omega
  · have := hb rfl
    rcases (show b.toNat = 0 ∨ b.toNat = 1 by omega) with e | e <;> rw [e] <;> decide
theorem step_val (v cnt : Nat) (b : UInt8) (hv : v < 128 ^ cnt) (h9 : cnt ≤ 9) (hb : cnt = 9 → b.toNat ≤ 1) :
    bits .or .u64 (v : Int) (IntKind.u64.wrap (IntKind.u64.wrap (bits .andNot .u8 (b.toNat : Int) 128) * 2 ^ (7 * cnt))) = ((v + b.toNat % 128 * 128 ^ cnt : Nat) : Int) := by
  obtain ⟨h1, h2⟩ := dig_small b cnt h9 hb
  have hp := pow128_le cnt h9
  have e : IntKind.u64.wrap (bits .andNot .u8 (b.toNat : Int) 128) * 2 ^ (7 * cnt) = ((b.toNat % 128 * 128 ^ cnt : Nat) : Int) := by
    rw [andNot_val, u64wrap _ (by omega), pow128]; simp
  rw [e, u64wrap _ h1, u64_or_nat _ _ (by omega) h1, Nat.or_comm, nat_join (7 * cnt) _ _ (by rw [pow128]; exact Nat.mul_mod_left _ _) (by rw [← pow128]; exact hv), Nat.add_comm]
end Go.Proofs.Ytkbddjmfccbcoaa
