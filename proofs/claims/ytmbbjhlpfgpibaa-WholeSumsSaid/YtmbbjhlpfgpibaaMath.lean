/- Plain facts on numbers and bytes; no program is named here. -/
import Derived.WalkKit
import Derived.Laws.BitsAllLaws
namespace Go.Proofs.Ytmbbjhlpfgpibaa

theorem u64wrap (n : Nat) (h : n < 18446744073709551616) : IntKind.u64.wrap (n : Int) = n := by
  rw [IntKind.wrap_u64]; omega

theorem pow256 (k : Nat) : (256 : Nat) ^ k = 2 ^ (8 * k) := by rw [show (256 : Nat) = 2 ^ 8 from rfl, ← Nat.pow_mul]

theorem pow256_le (k : Nat) (h : k ≤ 8) : (256 : Nat) ^ k ≤ 18446744073709551616 := by
  have : (256 : Nat) ^ k ≤ 256 ^ 8 := Nat.pow_le_pow_right (by omega) h
  simpa using this

theorem byte_lt_pow (c k : Nat) (hc : c < 256) (hk : k < 8) : c * 256 ^ k < 18446744073709551616 := by
  have h1 : c * 256 ^ k ≤ 255 * 256 ^ k := Nat.mul_le_mul_right _ (by omega)
  have h2 := pow256_le (k + 1) (by omega)
  have h3 : 0 < 256 ^ k := Nat.pow_pos (by omega)
  rw [Nat.pow_succ] at h2
  omega

theorem or_le (m c k : Nat) (hm : m < 256 ^ k) (hc : c < 256) (hk : k < 8) :
    bits .or .u64 (m : Int) (IntKind.u64.wrap ((c : Int) * 2 ^ (8 * k))) = ((m + c * 256 ^ k : Nat) : Int) := by
  have e : (c : Int) * 2 ^ (8 * k) = ((c * 256 ^ k : Nat) : Int) := by
    rw [pow256]; simp
  have hb := byte_lt_pow c k hc hk
  have hp := pow256_le k (by omega)
  rw [e, u64wrap _ hb, u64_or_nat _ _ (by omega) hb, Nat.or_comm, nat_join (8 * k) _ _ (by rw [pow256]; exact Nat.mul_mod_left _ _) (by rw [← pow256]; exact hm), Nat.add_comm]

theorem or_be (m c : Nat) (hm : m < 72057594037927936) (hc : c < 256) : bits .or .u64 ((m : Int) * 256) (c : Int) = ((m * 256 + c : Nat) : Int) := by
  have e : (m : Int) * 256 = ((m * 256 : Nat) : Int) := by simp
  rw [e, u64_or_nat _ _ (by omega) (by omega), nat_join 8 _ _ (by omega) (by omega)]

/-- The number whose digits to the base 256 these bytes are, the lowest one first. -/
def leSum : List UInt8 → Nat
  | [] => 0
  | c :: t => c.toNat + 256 * leSum t

/-- The highest one first. -/
def beSum (l : List UInt8) : Nat := l.foldl (fun a c => a * 256 + c.toNat) 0

theorem leSum_snoc (l : List UInt8) (c : UInt8) : leSum (l ++ [c]) = leSum l + c.toNat * 256 ^ l.length := by
  induction l with
  | nil => simp [leSum]
  | cons d t ih =>
    simp only [List.cons_append, leSum, ih, List.length_cons, Nat.pow_succ, Nat.mul_add, Nat.add_assoc]
    have : 256 * (c.toNat * 256 ^ t.length) = c.toNat * (256 ^ t.length * 256) := by
      rw [Nat.mul_left_comm, Nat.mul_comm 256]
    rw [this]
theorem beSum_snoc (l : List UInt8) (c : UInt8) : beSum (l ++ [c]) = beSum l * 256 + c.toNat := by simp [beSum]
theorem leSum_lt (l : List UInt8) : leSum l < 256 ^ l.length := by
  induction l with
  | nil => simp [leSum]
  | cons d t ih =>
    simp only [leSum, List.length_cons, Nat.pow_succ]
    have := d.toNat_lt
    omega
theorem leSum_reverse (l : List UInt8) : leSum l.reverse = beSum l := by
  have h : ∀ (n : Nat) (l : List UInt8), l.length = n → leSum l.reverse = beSum l := by
    intro n
    induction n with
    | zero => intro l h; obtain rfl := List.eq_nil_of_length_eq_zero h; rfl
    | succ n ih =>
      intro l h
      obtain ⟨t, c, rfl⟩ : ∃ t c, l = t ++ [c] := ⟨l.dropLast, l.getLast (by intro e; subst e; simp at h), (List.dropLast_concat_getLast _).symm⟩
      rw [List.reverse_append, beSum_snoc, ← ih t (by simpa using h)]
      simp [leSum]; omega
  exact h _ l rfl
theorem beSum_lt (l : List UInt8) : beSum l < 256 ^ l.length := by
  rw [← leSum_reverse]; simpa using leSum_lt l.reverse

def ofB (little : Bool) (l : List UInt8) : Nat := if little then leSum (l.take 8) else beSum (l.take 8)

theorem take_snoc (l : List UInt8) (k : Nat) (h : k < l.length) : l.take (k + 1) = l.take k ++ [l[k]] := by
  rw [List.take_succ_eq_append_getElem h]

theorem le_step (l : List UInt8) (k : Nat) (h : k < l.length) (h8 : k < 8) :
    bits .or .u64 (leSum (l.take k) : Int) (IntKind.u64.wrap ((l[k].toNat : Int) * 2 ^ (8 * k))) = (leSum (l.take (k + 1)) : Int) := by
  have hm := leSum_lt (l.take k)
  have hl : (l.take k).length = k := by simp; omega
  rw [or_le _ _ _ (by rw [hl] at hm; exact hm) l[k].toNat_lt h8, take_snoc l k h, leSum_snoc, hl]
theorem be_small (l : List UInt8) (k : Nat) (h8 : k < 8) : (beSum (l.take k) : Int) < 72057594037927936 := by
  have hm := beSum_lt (l.take k)
  have h2 : (256 : Nat) ^ (l.take k).length ≤ 256 ^ 7 := Nat.pow_le_pow_right (by omega) (by simp; omega)
  have : beSum (l.take k) < 256 ^ 7 := Nat.lt_of_lt_of_le hm h2
  simp only [Nat.reducePow] at this
  omega
theorem be_step (l : List UInt8) (k : Nat) (h : k < l.length) (h8 : k < 8) :
    bits .or .u64 (IntKind.u64.wrap ((beSum (l.take k) : Int) * 256)) (l[k].toNat : Int) = (beSum (l.take (k + 1)) : Int) := by
  have := be_small l k h8
  have e : IntKind.u64.wrap ((beSum (l.take k) : Int) * 256) = (beSum (l.take k) : Int) * 256 := by rw [IntKind.wrap_u64]; omega
  rw [e, or_be _ _ (by omega) l[k].toNat_lt, take_snoc l k h, beSum_snoc]
theorem take_eq8 (l : List UInt8) (k : Nat) (h : k = 8 ∨ k = l.length ∧ l.length ≤ 8) : l.take k = l.take 8 := by
  rcases h with rfl | ⟨rfl, h⟩
  · rfl
  · rw [List.take_of_length_le (Nat.le_refl _), List.take_of_length_le h]

theorem ofB_lt (little : Bool) (l : List UInt8) (k : Nat) (h : l.length ≤ k) : ofB little l < 256 ^ k := by
  have h1 : (l.take 8).length ≤ k := by simp; omega
  have h2 : (256 : Nat) ^ (l.take 8).length ≤ 256 ^ k := Nat.pow_le_pow_right (by omega) h1
  unfold ofB
  split
  · exact Nat.lt_of_lt_of_le (leSum_lt _) h2
  · exact Nat.lt_of_lt_of_le (beSum_lt _) h2

/-- The i-th digit of n to the base 256. -/
def dig (n i : Nat) : UInt8 := UInt8.ofNat (n / 256 ^ i % 256)
/-- The k lowest digits, the lowest one first. -/
def digs (n k : Nat) : List UInt8 := (List.range k).map (dig n)
/-- In k bytes. -/
def digits (little : Bool) (n k : Nat) : List UInt8 := if little then digs n k else (digs n k).reverse

theorem dig_toNat (n i : Nat) : (dig n i).toNat = n / 256 ^ i % 256 := by
  unfold dig; rw [UInt8.toNat_ofNat']; omega
theorem dig_val (n k : Nat) : Value.int .u8 ((n : Int) / 2 ^ (8 * k) % 256) = .int .u8 ((dig n k).toNat : Int) := by
  rw [dig_toNat, pow256]; simp
theorem digs_len (n k : Nat) : (digs n k).length = k := by simp [digs]
theorem digits_len (little : Bool) (n k : Nat) : (digits little n k).length = k := by
  unfold digits; split <;> simp [digs_len]
theorem digs_succ (n k : Nat) : digs n (k + 1) = digs n k ++ [dig n k] := by simp [digs, List.range_succ]
theorem leSum_digs (n k : Nat) : leSum (digs n k) = n % 256 ^ k := by
  induction k with
  | zero => simp [digs, leSum, Nat.mod_one]
  | succ k ih =>
    rw [digs_succ, leSum_snoc, ih, dig_toNat, digs_len, Nat.pow_succ, Nat.mod_mul, Nat.mul_comm]
theorem beSum_digs (n k : Nat) : beSum (digs n k).reverse = n % 256 ^ k := by
  rw [← leSum_reverse, List.reverse_reverse, leSum_digs]
theorem ofB_digits (little : Bool) (n k : Nat) (h8 : k ≤ 8) (hn : n < 256 ^ k) : ofB little (digits little n k) = n := by
  cases little
  · simp only [ofB, digits, Bool.false_eq_true, if_false]
    rw [List.take_of_length_le (by simp [digs_len]; exact h8), beSum_digs, Nat.mod_eq_of_lt hn]
  · simp only [ofB, digits, if_true]
    rw [List.take_of_length_le (by rw [digs_len]; exact h8), leSum_digs, Nat.mod_eq_of_lt hn]

/-- What stands in the row when k of 'width' digits are written behind 'pre'. -/
def putRow (little : Bool) (pre : List UInt8) (n width k : Nat) : List UInt8 :=
  if little then pre ++ (digs n k ++ List.replicate (width - k) 0) else pre ++ (List.replicate (width - k) 0 ++ (digs n k).reverse)
theorem putRow_len (little : Bool) (pre : List UInt8) (n width k : Nat) (h : k ≤ width) : (putRow little pre n width k).length = pre.length + width := by
  unfold putRow; split <;> simp [digs_len] <;> omega
theorem putRow_zero (little : Bool) (pre : List UInt8) (n width : Nat) : putRow little pre n width 0 = pre ++ List.replicate width 0 := by
  unfold putRow; split <;> simp [digs]
theorem putRow_all (little : Bool) (pre : List UInt8) (n width : Nat) : putRow little pre n width width = pre ++ digits little n width := by
  unfold putRow digits; split <;> simp
theorem putRow_le (pre : List UInt8) (n width k : Nat) (h : k < width) : (putRow true pre n width k).set (pre.length + k) (dig n k) = putRow true pre n width (k + 1) := by
  simp only [putRow, if_true]
  rw [List.set_append_right _ _ (by omega), List.set_append_right _ _ (by rw [digs_len]; omega), digs_len, digs_succ]
  obtain ⟨m, hm⟩ : ∃ m, width - k = m + 1 := ⟨width - k - 1, by omega⟩
  rw [hm, show width - (k + 1) = m from by omega, show pre.length + k - pre.length - k = 0 from by omega]
  simp [List.replicate_succ]
theorem putRow_be (pre : List UInt8) (n width k : Nat) (h : k < width) : (putRow false pre n width k).set (pre.length + width - 1 - k) (dig n k) = putRow false pre n width (k + 1) := by
  simp only [putRow, Bool.false_eq_true, if_false]
  rw [List.set_append_right _ _ (by omega), List.set_append_left _ _ (by simp; omega), digs_succ]
  obtain ⟨m, hm⟩ : ∃ m, width - k = m + 1 := ⟨width - k - 1, by omega⟩
  rw [hm, show width - (k + 1) = m from by omega, show pre.length + width - 1 - k - pre.length = m from by omega, List.replicate_succ', List.set_append_right _ _ (by simp)]
  simp
end Go.Proofs.Ytmbbjhlpfgpibaa
