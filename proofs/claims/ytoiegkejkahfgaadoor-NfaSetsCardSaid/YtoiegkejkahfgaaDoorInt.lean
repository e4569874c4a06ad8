/- Decimal digits: plain arithmetic. -/
import Derived.Test.YtoiegkejkahfgaaDoorBase
import Derived.Test.YtoiegkejkahfgaaDoorSmall
import Derived.Laws.Externs
import Derived.Laws.Bits64b
import Derived.Lib.Mul64
import Derived.Test.YtoiegkejkahfgaaDoorMem
import Derived.Deep.Cut
namespace Go.Proofs.YtoiegkejkahfgaaDoor
set_option linter.unusedVariables false
set_option linter.unusedSimpArgs false

/-- Is it a digit? -/
def isDig (c : UInt8) : Prop := 48 ≤ c.toNat ∧ c.toNat ≤ 57
/-- The k last digits of a number. -/
def lastD (n : Nat) : Nat → List UInt8
  | 0 => []
  | k + 1 => UInt8.ofNat (48 + n / 10 ^ k % 10) :: lastD n k
/-- The number of some digits. -/
def valL (l : List UInt8) : Nat := l.foldl (fun v c => 10 * v + (c.toNat - 48)) 0
/-- Digits, one at least, a nought ahead of no other one. -/
def Wrt (l : List UInt8) : Prop := (∀ c ∈ l, isDig c) ∧ l ≠ [] ∧ (l.length = 1 ∨ l.getD 0 0 ≠ 48)
/-- How many digits a number has. -/
def IsLen (n k : Nat) : Prop := 1 ≤ k ∧ n < 10 ^ k ∧ (k = 1 ∨ 10 ^ (k - 1) ≤ n)

theorem lastD_len (n k : Nat) : (lastD n k).length = k := by
  induction k with
  | zero => rfl
  | succ k ih => simp [lastD, ih]
theorem dig_nat (d : Nat) (h : d < 10) : (UInt8.ofNat (48 + d)).toNat = 48 + d := by
  simp [UInt8.toNat_ofNat']; omega
theorem lastD_dig (n k : Nat) : ∀ c ∈ lastD n k, isDig c := by
  induction k with
  | zero => simp [lastD]
  | succ k ih =>
    intro c hc
    simp only [lastD, List.mem_cons] at hc
    rcases hc with rfl | hc
    · unfold isDig
      rw [dig_nat _ (Nat.mod_lt _ (by decide))]
      have := Nat.mod_lt (n / 10 ^ k) (show 10 > 0 by decide)
      omega
    · exact ih c hc

theorem foldl_val (l : List UInt8) (v : Nat) : l.foldl (fun v c => 10 * v + (c.toNat - 48)) v = v * 10 ^ l.length + valL l := by
  induction l generalizing v with
  | nil => simp [valL]
  | cons c l ih =>
    unfold valL
    simp only [List.foldl_cons, List.length_cons]
    rw [ih, ih (10 * 0 + (c.toNat - 48)), Nat.pow_succ]
    rw [Nat.add_mul, Nat.add_mul]
    have : 10 * v * 10 ^ l.length = v * (10 ^ l.length * 10) := by
      rw [Nat.mul_comm 10 v, Nat.mul_assoc, Nat.mul_comm 10]
    omega
theorem valL_cons (c : UInt8) (l : List UInt8) : valL (c :: l) = (c.toNat - 48) * 10 ^ l.length + valL l := by
  conv => lhs; unfold valL
  simp only [List.foldl_cons]
  rw [foldl_val]
  simp
theorem valL_snoc (l : List UInt8) (c : UInt8) : valL (l ++ [c]) = 10 * valL l + (c.toNat - 48) := by
  simp [valL]
theorem valL_nil : valL [] = 0 := rfl

theorem mod_pow_succ (n k : Nat) : n / 10 ^ k % 10 * 10 ^ k + n % 10 ^ k = n % 10 ^ (k + 1) := by
  rw [Nat.pow_succ, Nat.mod_mul, Nat.mul_comm (10 ^ k) (n / 10 ^ k % 10)]
  omega
theorem valL_lastD (n k : Nat) : valL (lastD n k) = n % 10 ^ k := by
  induction k with
  | zero => simp [lastD, valL, Nat.mod_one]
  | succ k ih =>
    simp only [lastD]
    rw [valL_cons, lastD_len, ih, dig_nat _ (Nat.mod_lt _ (by decide)), Nat.add_sub_cancel_left, mod_pow_succ]

theorem valL_lt (l : List UInt8) (h : ∀ c ∈ l, isDig c) : valL l < 10 ^ l.length := by
  induction l with
  | nil => simp [valL]
  | cons c l ih =>
    have h1 := ih (fun x hx => h x (by simp [hx]))
    obtain ⟨h2, h3⟩ := h c (by simp)
    rw [valL_cons, List.length_cons, Nat.pow_succ]
    have : (c.toNat - 48) * 10 ^ l.length ≤ 9 * 10 ^ l.length := Nat.mul_le_mul_right _ (by omega)
    omega
theorem lastD_low (n m k : Nat) (h : n % 10 ^ k = m % 10 ^ k) : lastD n k = lastD m k := by
  induction k with
  | zero => rfl
  | succ k ih =>
    have e1 : n / 10 ^ k % 10 = n % 10 ^ (k + 1) / 10 ^ k := by rw [Nat.pow_succ, Nat.mod_mul_right_div_self]
    have e2 : m / 10 ^ k % 10 = m % 10 ^ (k + 1) / 10 ^ k := by rw [Nat.pow_succ, Nat.mod_mul_right_div_self]
    have e3 : n % 10 ^ k = m % 10 ^ k := by
      have := congrArg (· % 10 ^ k) h
      simp only [Nat.pow_succ, Nat.mod_mul_right_mod] at this
      exact this
    simp only [lastD]
    rw [e1, e2, h, ih e3]
theorem lastD_valL (l : List UInt8) (h : ∀ c ∈ l, isDig c) : lastD (valL l) l.length = l := by
  induction l with
  | nil => rfl
  | cons c l ih =>
    have hl : ∀ x ∈ l, isDig x := fun x hx => h x (by simp [hx])
    have h1 := ih hl
    have hlt := valL_lt l hl
    obtain ⟨h2, h3⟩ := h c (by simp)
    rw [List.length_cons]
    simp only [lastD]
    rw [valL_cons]
    have hp : 0 < 10 ^ l.length := Nat.pow_pos (by decide)
    have e1 : ((c.toNat - 48) * 10 ^ l.length + valL l) / 10 ^ l.length = c.toNat - 48 := by
      rw [Nat.mul_comm, Nat.mul_add_div hp, Nat.div_eq_of_lt hlt, Nat.add_zero]
    rw [e1, lastD_low _ (valL l) l.length (by rw [Nat.mul_comm, Nat.mul_add_mod]), h1]
    congr 1
    rw [Nat.mod_eq_of_lt (by omega), show 48 + (c.toNat - 48) = c.toNat by omega]
    exact UInt8.ofNat_toNat

theorem isLen_wrt (n k : Nat) (h : IsLen n k) : Wrt (lastD n k) ∧ valL (lastD n k) = n := by
  obtain ⟨h1, h2, h3⟩ := h
  obtain ⟨j, rfl⟩ : ∃ j, k = j + 1 := ⟨k - 1, by omega⟩
  refine ⟨⟨lastD_dig _ _, by simp [lastD], ?_⟩, ?_⟩
  · rcases h3 with h3 | h3
    · left; rw [lastD_len]; exact h3
    · right
      rw [Nat.add_sub_cancel] at h3
      have hp : 0 < 10 ^ j := Nat.pow_pos (by decide)
      have h4 : 1 ≤ n / 10 ^ j := (Nat.le_div_iff_mul_le hp).2 (by omega)
      have h5 : n / 10 ^ j < 10 := (Nat.div_lt_iff_lt_mul hp).2 (by rw [Nat.pow_succ] at h2; omega)
      simp only [lastD, List.getD_cons_zero]
      intro e
      have := congrArg UInt8.toNat e
      rw [dig_nat _ (Nat.mod_lt _ (by decide)), Nat.mod_eq_of_lt h5] at this
      have e48 : (48 : UInt8).toNat = 48 := rfl
      omega
  · rw [valL_lastD]; exact Nat.mod_eq_of_lt h2
theorem wrt_isLen (l : List UInt8) (h : Wrt l) : IsLen (valL l) l.length := by
  obtain ⟨h1, h2, h3⟩ := h
  refine ⟨?_, valL_lt l h1, ?_⟩
  · cases l with
    | nil => exact absurd rfl h2
    | cons c l => simp
  · rcases h3 with h3 | h3
    · exact .inl h3
    · cases l with
      | nil => exact absurd rfl h2
      | cons c l =>
        right
        simp only [List.getD_cons_zero] at h3
        obtain ⟨h4, h5⟩ := h1 c (by simp)
        have : c.toNat ≠ 48 := fun e => h3 (UInt8.toNat_inj.1 (by rw [e]; rfl))
        rw [valL_cons, List.length_cons, Nat.add_sub_cancel]
        have : 1 * 10 ^ l.length ≤ (c.toNat - 48) * 10 ^ l.length := Nat.mul_le_mul_right _ (by omega)
        omega
theorem isLen_one {n k m : Nat} (h : IsLen n k) (h' : IsLen n m) : k = m := by
  obtain ⟨h1, h2, h3⟩ := h
  obtain ⟨h4, h5, h6⟩ := h'
  rcases Nat.lt_trichotomy k m with hh | hh | hh
  · rcases h6 with h6 | h6
    · omega
    · have := Nat.pow_le_pow_right (show 10 > 0 by decide) (show k ≤ m - 1 by omega)
      omega
  · exact hh
  · rcases h3 with h3 | h3
    · omega
    · have := Nat.pow_le_pow_right (show 10 > 0 by decide) (show m ≤ k - 1 by omega)
      omega
/-- Digits are those of their number. -/
theorem lastD_back (l : List UInt8) (h : Wrt l) (k : Nat) (hk : IsLen (valL l) k) : lastD (valL l) k = l := by
  rw [isLen_one hk (wrt_isLen l h)]
  exact lastD_valL l h.1

theorem valL_take_le (l : List UInt8) (k : Nat) : valL (l.take k) ≤ valL l := by
  have h : valL l = valL (l.take k) * 10 ^ (l.drop k).length + valL (l.drop k) := by
    conv => lhs; rw [← List.take_append_drop k l]; unfold valL
    rw [List.foldl_append, foldl_val]
    rfl
  have hp : 0 < 10 ^ (l.drop k).length := Nat.pow_pos (by decide)
  have := Nat.le_mul_of_pos_right (valL (l.take k)) hp
  omega
end Go.Proofs.YtoiegkejkahfgaaDoor

/- wide: numbers that may be too great. -/
namespace Go.Proofs.YtoiegkejkahfgaaDoor
set_option linter.unusedVariables false
set_option linter.unusedSimpArgs false
open Go.RowKit

theorem ret_two {k : IntKind} {a b : Int} {e : Value} (h : a = b) : Ending.returned (.tuple #[.int k a, e]) = .returned (.tuple #[.int k b, e]) := by rw [h]

theorem add64_run (x y : Nat) (w : World) : (callFunc 100 #[.int .u64 x, .int .u64 y, .int .u64 0]).run Tryd.prog w =
    .ok (.value (.tuple #[.int .u64 ((x + y : Int) % 18446744073709551616), .int .u64 ((x + y : Int) / 18446744073709551616)])) w := by
  have h := run_add64 (P := Tryd.prog) (x : Int) (y : Int) 0 (by omega) (by omega) (by omega) (by omega) (w := w)
  rw [run_callFunc_extern Tryd.func100 (by kernel_rfl) (by kernel_rfl) (by kernel_rfl) (e := add64Entry) (by kernel_rfl), h]
  simp only [Result.andThen, Int.add_zero]

theorem add_ok (x y : Nat) (h : x + y < 18446744073709551616) (w : World) :
    Calls Tryd.prog 98 #[.int .u64 x, .int .u64 y] w fun e w' => e = .returned (.tuple #[.int .u64 ((x + y : Nat) : Int), .int .i64 0]) ∧ w = w' := by
  have h1 : ((x : Int) + y) % 18446744073709551616 = ((x + y : Nat) : Int) := by omega
  have h2 : ((x : Int) + y) / 18446744073709551616 = 0 := by omega
  have hr := add64_run x y
  rw [h1, h2] at hr
  clear h1 h2
  go_enter Tryd.func98, Tryd.ntmps98
  go_wp2
  go_ret2
  exact ⟨rfl, rfl⟩

theorem add_over (x y : Nat) (hx : x < 18446744073709551616) (hy : y < 18446744073709551616) (h : 18446744073709551616 ≤ x + y) (w : World) :
    Calls Tryd.prog 98 #[.int .u64 x, .int .u64 y] w fun e w' => e = .returned (.tuple #[.int .u64 0, .int .i64 40]) ∧ w = w' := by
  have h2 : ((x : Int) + y) / 18446744073709551616 = 1 := by omega
  have hr := add64_run x y
  rw [h2] at hr
  generalize ((x : Int) + y) % 18446744073709551616 = z at hr
  clear h2 h hx hy
  go_enter Tryd.func98, Tryd.ntmps98
  go_wp2
  go_ret2
  exact ⟨rfl, rfl⟩

theorem maskN (a : Nat) (ha : a < 18446744073709551616) : bits .and .u64 (a : Int) 4294967295 = ((a % 4294967296 : Nat) : Int) := by
  have h := bits_and_u64_nat a 4294967295 ha (by omega)
  have e : a &&& 4294967295 = a % 4294967296 := Nat.and_two_pow_sub_one_eq_mod a 32
  rw [e] at h
  exact h
theorem divN (a : Nat) : (a : Int) / 4294967296 = ((a / 4294967296 : Nat) : Int) := by omega
theorem mulN (a b : Nat) : (a : Int) * (b : Int) = ((a * b : Nat) : Int) := (Int.natCast_mul a b).symm
theorem addN (a b : Nat) : (a : Int) + (b : Int) = ((a + b : Nat) : Int) := (Int.natCast_add a b).symm
theorem wrapN (a : Nat) (ha : a < 18446744073709551616) : IntKind.u64.wrap (a : Int) = (a : Int) := by rw [IntKind.wrap_u64]; omega
theorem wrapM (a : Nat) : IntKind.u64.wrap (a : Int) = ((a % 18446744073709551616 : Nat) : Int) := by rw [IntKind.wrap_u64]; omega

set_option maxHeartbeats 1000000 in
theorem mul64_any (x y : Nat) (hx : x < 18446744073709551616) (hy : y < 18446744073709551616) (w : World) :
    Calls Tryd.prog 99 #[.int .u64 x, .int .u64 y] w fun e w' => e = .returned (.tuple #[.int .u64 ((x * y / 18446744073709551616 : Nat) : Int), .int .u64 ((x * y % 18446744073709551616 : Nat) : Int)]) ∧ w = w' := by
  obtain ⟨bd, bt, bw, hhi⟩ := Lib.mul64_hi x y hx hy
  have ba := Lib.half_mul_le (a := x / 4294967296) (b := y / 4294967296) (by omega) (by omega)
  have bb := Lib.half_mul_le (a := x / 4294967296) (b := y % 4294967296) (by omega) (by omega)
  have bc := Lib.half_mul_le (a := x % 4294967296) (b := y / 4294967296) (by omega) (by omega)
  have ba' : x / 4294967296 * (y / 4294967296) < 18446744073709551616 := by omega
  have bb' : x / 4294967296 * (y % 4294967296) < 18446744073709551616 := by omega
  have bc' : x % 4294967296 * (y / 4294967296) < 18446744073709551616 := by omega
  have bh1 : x / 4294967296 * (y / 4294967296) + (x / 4294967296 * (y % 4294967296) + x % 4294967296 * (y % 4294967296) / 4294967296) / 4294967296 < 18446744073709551616 := by omega
  have bh : x / 4294967296 * (y / 4294967296) + (x / 4294967296 * (y % 4294967296) + x % 4294967296 * (y % 4294967296) / 4294967296) / 4294967296 + ((x / 4294967296 * (y % 4294967296) + x % 4294967296 * (y % 4294967296) / 4294967296) % 4294967296 + x % 4294967296 * (y / 4294967296)) / 4294967296 < 18446744073709551616 := by omega
  go_enter Tryd.func99, Tryd.ntmps99
  go_wp2
  simp only [maskN x hx, maskN y hy, divN, mulN, addN, wrapN _ bd, wrapN _ bb', wrapN _ bt, maskN _ bt, wrapN _ bc', wrapN _ bw, wrapN _ ba', wrapN _ bh1, wrapN _ bh, wrapM (x * y)]
  rw [hhi]
  go_ret2
  exact ⟨rfl, rfl⟩

theorem mul_ok (x y : Nat) (hx : x < 18446744073709551616) (hy : y < 18446744073709551616) (h : x * y < 18446744073709551616) (w : World) :
    Calls Tryd.prog 97 #[.int .u64 x, .int .u64 y] w fun e w' => e = .returned (.tuple #[.int .u64 ((x * y : Nat) : Int), .int .i64 0]) ∧ w = w' := by
  have h1 : x * y / 18446744073709551616 = 0 := Nat.div_eq_of_lt h
  have h2 : x * y % 18446744073709551616 = x * y := Nat.mod_eq_of_lt h
  have hm := fun w => mul64_any x y hx hy w
  rw [h1, h2] at hm
  have HM := hid hm
  clear hm h1 h2 h hx hy
  generalize x * y = z at HM
  go_enter Tryd.func97, Tryd.ntmps97
  go_wp2_with (go_at_call 99; refine (HM.out _).mono ?_; rintro e w' ⟨rfl, rfl⟩)
  go_ret2
  exact ⟨rfl, rfl⟩

theorem mul_over (x y : Nat) (hx : x < 18446744073709551616) (hy : y < 18446744073709551616) (h : 18446744073709551616 ≤ x * y) (w : World) :
    Calls Tryd.prog 97 #[.int .u64 x, .int .u64 y] w fun e w' => e = .returned (.tuple #[.int .u64 0, .int .i64 40]) ∧ w = w' := by
  have h1 : 0 < x * y / 18446744073709551616 := Nat.div_pos h (by decide)
  have HM := hid (fun w => mul64_any x y hx hy w)
  clear h hx hy
  generalize x * y / 18446744073709551616 = z at HM h1
  generalize x * y % 18446744073709551616 = z2 at HM
  have hne := beq_no (show (z : Int) ≠ 0 by omega)
  go_enter Tryd.func97, Tryd.ntmps97
  go_wp2_with (go_at_call 99; refine (HM.out _).mono ?_; rintro e w' ⟨rfl, rfl⟩)
  go_ret2
  exact ⟨rfl, rfl⟩

/-- A number so many times, and so much more. -/
theorem line_ok (m x a : Nat) (hm : m < 18446744073709551616) (hx : x < 18446744073709551616) (h : m * x + a < 18446744073709551616) (w : World) :
    Calls Tryd.prog 94 #[.int .u64 m, .int .u64 x, .int .u64 a] w fun e w' => e = .returned (.tuple #[.int .u64 ((m * x + a : Nat) : Int), .int .i64 0]) ∧ w = w' := by
  have HM := hid (fun w => mul_ok m x hm hx (by omega) w)
  have HA := hid (fun w => add_ok (m * x) a h w)
  clear hm hx h
  generalize m * x = z at HM HA
  go_enter Tryd.func94, Tryd.ntmps94
  go_wp2_with (first
    | (go_at_call 97; refine (HM.out _).mono ?_; rintro e w' ⟨rfl, rfl⟩)
    | (go_at_call 98; refine (HA.out _).mono ?_; rintro e w' ⟨rfl, rfl⟩))
  go_ret2
  exact ⟨rfl, rfl⟩
theorem line_mover (m x a : Nat) (hm : m < 18446744073709551616) (hx : x < 18446744073709551616) (h : 18446744073709551616 ≤ m * x) (w : World) :
    Calls Tryd.prog 94 #[.int .u64 m, .int .u64 x, .int .u64 a] w fun e w' => e = .returned (.tuple #[.int .u64 0, .int .i64 40]) ∧ w = w' := by
  have HM := hid (fun w => mul_over m x hm hx h w)
  clear hm hx h
  go_enter Tryd.func94, Tryd.ntmps94
  go_wp2_with (go_at_call 97; refine (HM.out _).mono ?_; rintro e w' ⟨rfl, rfl⟩)
  go_ret2
  exact ⟨rfl, rfl⟩
theorem line_aover (m x a : Nat) (hm : m < 18446744073709551616) (hx : x < 18446744073709551616) (ha : a < 18446744073709551616) (h : m * x < 18446744073709551616) (h2 : 18446744073709551616 ≤ m * x + a) (w : World) :
    Calls Tryd.prog 94 #[.int .u64 m, .int .u64 x, .int .u64 a] w fun e w' => e = .returned (.tuple #[.int .u64 0, .int .i64 40]) ∧ w = w' := by
  have HM := hid (fun w => mul_ok m x hm hx h w)
  have HA := hid (fun w => add_over (m * x) a h ha h2 w)
  clear hm hx h ha h2
  generalize m * x = z at HM HA
  go_enter Tryd.func94, Tryd.ntmps94
  go_wp2_with (first
    | (go_at_call 97; refine (HM.out _).mono ?_; rintro e w' ⟨rfl, rfl⟩)
    | (go_at_call 98; refine (HA.out _).mono ?_; rintro e w' ⟨rfl, rfl⟩))
  go_ret2
  exact ⟨rfl, rfl⟩
theorem line_over (m x a : Nat) (hm : m < 18446744073709551616) (hx : x < 18446744073709551616) (ha : a < 18446744073709551616) (h : 18446744073709551616 ≤ m * x + a) (w : World) :
    Calls Tryd.prog 94 #[.int .u64 m, .int .u64 x, .int .u64 a] w fun e w' => e = .returned (.tuple #[.int .u64 0, .int .i64 40]) ∧ w = w' := by
  by_cases hb : 18446744073709551616 ≤ m * x
  · exact line_mover m x a hm hx hb w
  · exact line_aover m x a hm hx ha (by omega) h w
end Go.Proofs.YtoiegkejkahfgaaDoor

/- wide.Digits. -/
namespace Go.Proofs.YtoiegkejkahfgaaDoor
set_option linter.unusedVariables false
set_option linter.unusedSimpArgs false
open Go.RowKit

/-- The digits' row behind k rounds. -/
def digRow (n k : Nat) : List UInt8 := List.replicate (20 - k) 0 ++ lastD n k
theorem digRow_len (n k : Nat) (h : k ≤ 20) : (digRow n k).length = 20 := by simp [digRow, lastD_len]; omega
theorem digRow_set (n k : Nat) (h : k < 20) : (digRow n k).set (19 - k) (UInt8.ofNat (48 + n / 10 ^ k % 10)) = digRow n (k + 1) := by
  unfold digRow
  rw [show 20 - k = (19 - k) + 1 by omega, show 20 - (k + 1) = 19 - k by omega, List.replicate_succ']
  rw [List.append_assoc, List.set_append_right _ _ (by simp)]
  simp [lastD]
theorem digRow_drop (n k : Nat) : (digRow n k).drop (20 - k) = lastD n k := by
  unfold digRow
  rw [List.drop_append_of_le_length (by simp)]
  simp

theorem isB_dig (n k : Nat) : isB (UInt8.ofNat (48 + n / 10 ^ k % 10)) = .int .u8 (48 + (n : Int) / 10 ^ k % 10) := by
  unfold isB
  rw [dig_nat _ (Nat.mod_lt _ (by decide))]
  simp

theorem rdB_tail {w : World} {g : Nat} {t : TypeId} {l : List UInt8} (h : Blk w g t (l.map isB)) (m : Nat) (_hm : m ≤ l.length) : RdB w (some ⟨g, m, none⟩) (l.length - m) (l.drop m) := by
  refine ⟨by simp, fun _ => ⟨g, m, rfl, h.lt, fun j hj => ?_⟩⟩
  rw [h.at]
  have : m + j < l.length := by simp at hj; omega
  simp [this, isB]
end Go.Proofs.YtoiegkejkahfgaaDoor

/- wide.written, wide.Parse. -/
namespace Go.Proofs.YtoiegkejkahfgaaDoor
set_option linter.unusedVariables false
set_option linter.unusedSimpArgs false
open Go.RowKit

theorem written_bad (s : ByteArray) (k : Nat) (hs : s.size ≤ maxLen) (hk : k < s.size) (hg : ∀ j (h : j < k), isDig s[j]) (hb : ¬ isDig s[k]) (w : World) :
    Calls Tryd.prog 93 #[.string s] w fun e w' => e = .returned (.bool false) ∧ w = w' := by
  unfold maxLen at hs
  have HG := hid hg
  have HB := hid hb
  clear hg hb
  go_enter Tryd.func93, Tryd.ntmps93
  go_wp2
  go_loop [6] (fun i => ∃ j : Nat, j ≤ k ∧ i = .int .i64 j) (fun i => s.size - (intOf i).toNat)
  case atStart => exact ⟨0, by omega, rfl⟩
  case round =>
    obtain ⟨j, hj, rfl⟩ := hrel
    have hjs : j < s.size := by omega
    by_cases hlt : j < k
    · have hd := HG.out j hlt
      obtain ⟨h1, h2⟩ := hd
      go_wp2
      go_round
      case rel => exact ⟨j + 1, by omega, by go_num⟩
      case measure => simp [intOf]; omega
    · obtain rfl : j = k := by omega
      have hb := HB.out
      unfold isDig at hb
      by_cases h1 : s[j].toNat < 48
      · clear hb
        go_wp2
        go_ret
        exact ⟨rfl, rfl⟩
      · have h2 : 57 < s[j].toNat := by omega
        clear hb
        go_wp2
        go_ret
        exact ⟨rfl, rfl⟩

theorem str_len (s : ByteArray) : s.data.toList.length = s.size := rfl
theorem byte_ne {c : UInt8} (h : ¬ c = 48) : ¬ ((c.toNat : Int) = 48) := fun e => h (UInt8.toNat_inj.1 (by have e48 : (48 : UInt8).toNat = 48 := rfl; omega))
/-- Digits alone. -/
theorem written_digs (s : ByteArray) (hs : s.size ≤ maxLen) (hg : ∀ j (h : j < s.size), isDig s[j]) (w : World) :
    Calls Tryd.prog 93 #[.string s] w fun e w' => e = .returned (.bool (decide (s.size ≠ 0 ∧ (s.size = 1 ∨ s.data.toList.getD 0 0 ≠ 48)))) ∧ w = w' := by
  unfold maxLen at hs
  have HG := hid hg
  clear hg
  go_enter Tryd.func93, Tryd.ntmps93
  go_wp2
  go_loop [6] (fun i => ∃ j : Nat, j ≤ s.size ∧ i = .int .i64 j) (fun i => s.size - (intOf i).toNat)
  case atStart => exact ⟨0, by omega, rfl⟩
  case round =>
    obtain ⟨j, hj, rfl⟩ := hrel
    by_cases hlt : j < s.size
    · have hd := HG.out j hlt
      obtain ⟨h1, h2⟩ := hd
      go_wp2
      go_round
      case rel => exact ⟨j + 1, by omega, by go_num⟩
      case measure => simp [intOf]; omega
    · go_upto_region 7 with (fail)
      obtain ⟨⟨l⟩⟩ := s
      clear HG
      have hj' : l.length ≤ j := by simpa [ByteArray.size] using hlt
      have hjl : j ≤ l.length := by simpa [ByteArray.size] using hj
      obtain rfl : j = l.length := by omega
      clear hj' hjl hj hlt
      rcases l with _ | ⟨c, l⟩
      · go_wp2
        go_ret
        exact ⟨rfl, rfl⟩
      · rcases l with _ | ⟨d, l⟩
        · by_cases hc : c = 48
          · subst hc
            go_wp2
            go_ret
            exact ⟨rfl, rfl⟩
          · go_wp2
            go_ret
            exact ⟨by simp [hc]; exact byte_ne hc, rfl⟩
        · by_cases hc : c = 48
          · subst hc
            go_wp2
            go_ret
            exact ⟨by simp; rfl, rfl⟩
          · go_wp2
            go_ret
            exact ⟨by simp; exact byte_ne hc, rfl⟩

theorem wrt_iff (s : ByteArray) (hd : ∀ c ∈ s.data.toList, isDig c) : Wrt s.data.toList ↔ (s.size ≠ 0 ∧ (s.size = 1 ∨ s.data.toList.getD 0 0 ≠ 48)) := by
  unfold Wrt
  rw [← str_len]
  generalize s.data.toList = l at *
  constructor
  · rintro ⟨_, h2, h3⟩
    exact ⟨by simpa using h2, h3⟩
  · rintro ⟨h2, h3⟩
    exact ⟨hd, by simpa using h2, h3⟩

theorem written_yes (s : ByteArray) (hs : s.size ≤ maxLen) (h : Wrt s.data.toList) (w : World) :
    Calls Tryd.prog 93 #[.string s] w fun e w' => e = .returned (.bool true) ∧ w = w' := by
  refine (written_digs s hs (fun j hj => h.1 _ (List.getElem_mem (l := s.data.toList) hj)) w).mono ?_
  rintro e w' ⟨rfl, rfl⟩
  rw [decide_eq_true ((wrt_iff s h.1).1 h)]
  exact ⟨rfl, rfl⟩

theorem first_bad (l : List UInt8) (h : ¬ ∀ c ∈ l, isDig c) : ∃ k, ∃ hk : k < l.length, (∀ j (_ : j < k), isDig l[j]) ∧ ¬ isDig l[k] := by
  induction l with
  | nil => exact absurd (by simp) h
  | cons c l ih =>
    by_cases hc : isDig c
    · obtain ⟨k, hk, h1, h2⟩ := ih (fun h' => h (fun x hx => by
        rcases List.mem_cons.1 hx with rfl | hx
        · exact hc
        · exact h' x hx))
      refine ⟨k + 1, by simpa using hk, fun j hj => ?_, by simpa using h2⟩
      cases j with
      | zero => simpa using hc
      | succ j => simpa using h1 j (by omega)
    · exact ⟨0, by simp, fun j hj => absurd hj (by omega), by simpa using hc⟩

theorem written_no (s : ByteArray) (hs : s.size ≤ maxLen) (h : ¬ Wrt s.data.toList) (w : World) :
    Calls Tryd.prog 93 #[.string s] w fun e w' => e = .returned (.bool false) ∧ w = w' := by
  by_cases hd : ∀ c ∈ s.data.toList, isDig c
  · refine (written_digs s hs (fun j hj => hd _ (List.getElem_mem (l := s.data.toList) hj)) w).mono ?_
    rintro e w' ⟨rfl, rfl⟩
    rw [decide_eq_false (fun hh => h ((wrt_iff s hd).2 hh))]
    exact ⟨rfl, rfl⟩
  · obtain ⟨k, hk, h1, h2⟩ := first_bad _ hd
    exact written_bad s k hs hk h1 h2 w

theorem parse_form (s : ByteArray) (hs : s.size ≤ maxLen) (h : ¬ Wrt s.data.toList) (w : World) :
    Calls Tryd.prog 90 #[.string s] w fun e w' => e = .returned (.tuple #[.int .u64 0, .int .i64 5]) ∧ w = w' := by
  have HW := hid (fun w => written_no s hs h w)
  clear h
  go_enter Tryd.func90, Tryd.ntmps90
  go_wp2_with (go_at_call 93; refine (HW.out _).mono ?_; rintro e w' ⟨rfl, rfl⟩)
  go_ret2
  exact ⟨rfl, rfl⟩

theorem valL_take_succ (l : List UInt8) (k : Nat) (h : k < l.length) : valL (l.take (k + 1)) = 10 * valL (l.take k) + (l[k].toNat - 48) := by
  rw [List.take_succ_eq_append_getElem h, valL_snoc]

theorem line_at (m x c : Nat) (hc : 48 ≤ c) (hm : m < 18446744073709551616) (hx : x < 18446744073709551616) (h : m * x + (c - 48) < 18446744073709551616) (w : World) :
    Calls Tryd.prog 94 #[.int .u64 m, .int .u64 x, .int .u64 ((c : Int) - 48)] w fun e w' => e = .returned (.tuple #[.int .u64 ((m * x + (c - 48) : Nat) : Int), .int .i64 0]) ∧ w = w' := by
  have h2 := line_ok m x (c - 48) hm hx h w
  rw [show ((c - 48 : Nat) : Int) = (c : Int) - 48 by omega] at h2
  exact h2
theorem line_at_over (m x c : Nat) (hc : 48 ≤ c) (hc2 : c < 256) (hm : m < 18446744073709551616) (hx : x < 18446744073709551616) (h : 18446744073709551616 ≤ m * x + (c - 48)) (w : World) :
    Calls Tryd.prog 94 #[.int .u64 m, .int .u64 x, .int .u64 ((c : Int) - 48)] w fun e w' => e = .returned (.tuple #[.int .u64 0, .int .i64 40]) ∧ w = w' := by
  have h2 := line_over m x (c - 48) hm hx (by omega) h w
  rw [show ((c - 48 : Nat) : Int) = (c : Int) - 48 by omega] at h2
  exact h2

theorem parse_ok (s : ByteArray) (hs : s.size ≤ maxLen) (h : Wrt s.data.toList) (hv : valL s.data.toList < 18446744073709551616) (w : World) :
    Calls Tryd.prog 90 #[.string s] w fun e w' => e = .returned (.tuple #[.int .u64 ((valL s.data.toList : Nat) : Int), .int .i64 0]) ∧ w = w' := by
  have HW := hid (fun w => written_yes s hs h w)
  have HD := hid h.1
  have HV := hid hv
  clear h hv
  unfold maxLen at hs
  go_enter Tryd.func90, Tryd.ntmps90
  go_wp2_with (go_at_call 93; refine (HW.out _).mono ?_; rintro e w' ⟨rfl, rfl⟩)
  go_loop [4, 13] (fun v i => ∃ j : Nat, j ≤ s.size ∧ i = .int .i64 j ∧ v = .int .u64 ((valL (s.data.toList.take j) : Nat) : Int)) (fun _ i => s.size - (intOf i).toNat)
  case atStart => exact ⟨0, by omega, rfl, rfl⟩
  case round =>
    obtain ⟨j, hj, rfl, rfl⟩ := hrel
    by_cases hlt : j < s.size
    · have hd := HD.out s[j] (List.getElem_mem (l := s.data.toList) hlt)
      obtain ⟨h1, h2⟩ := hd
      have hs1 : valL (s.data.toList.take (j + 1)) = 10 * valL (s.data.toList.take j) + (s[j].toNat - 48) := valL_take_succ s.data.toList j hlt
      have hle := valL_take_le s.data.toList (j + 1)
      have HL := hid (fun w => line_at 10 (valL (s.data.toList.take j)) s[j].toNat h1 (by omega) (by have := HV.out; omega) (by have := HV.out; omega) w)
      rw [← hs1] at HL
      clear hs1 hle
      generalize hv1 : valL (s.data.toList.take (j + 1)) = v1 at HL
      have HV1 := hid hv1
      clear hv1
      generalize valL (s.data.toList.take j) = v0 at *
      go_wp2_with fail
      refine (HL.out _).mono ?_
      rintro e w' ⟨rfl, rfl⟩
      go_wp2
      go_round
      case rel => exact ⟨j + 1, by omega, by go_num, by rw [HV1.out]⟩
      case measure => simp [intOf]; omega
    · have HE := hid (show s.data.toList.take j = s.data.toList from List.take_of_length_le (by rw [str_len]; omega))
      go_wp2
      go_ret2
      exact ⟨by rw [HE.out]; rfl, rfl⟩

theorem parse_over (s : ByteArray) (hs : s.size ≤ maxLen) (h : Wrt s.data.toList) (hv : 18446744073709551616 ≤ valL s.data.toList) (w : World) :
    Calls Tryd.prog 90 #[.string s] w fun e w' => e = .returned (.tuple #[.int .u64 0, .int .i64 40]) ∧ w = w' := by
  have HW := hid (fun w => written_yes s hs h w)
  have HD := hid h.1
  have HV := hid hv
  clear h hv
  unfold maxLen at hs
  go_enter Tryd.func90, Tryd.ntmps90
  go_wp2_with (go_at_call 93; refine (HW.out _).mono ?_; rintro e w' ⟨rfl, rfl⟩)
  go_loop [4, 13] (fun v i => ∃ j : Nat, j ≤ s.size ∧ i = .int .i64 j ∧ v = .int .u64 ((valL (s.data.toList.take j) : Nat) : Int) ∧ valL (s.data.toList.take j) < 18446744073709551616) (fun _ i => s.size - (intOf i).toNat)
  case atStart => exact ⟨0, by omega, rfl, rfl, by simp [valL]⟩
  case round =>
    obtain ⟨j, hj, rfl, rfl, hlo⟩ := hrel
    by_cases hlt : j < s.size
    · have hd := HD.out s[j] (List.getElem_mem (l := s.data.toList) hlt)
      obtain ⟨h1, h2⟩ := hd
      have hs1 : valL (s.data.toList.take (j + 1)) = 10 * valL (s.data.toList.take j) + (s[j].toNat - 48) := valL_take_succ s.data.toList j hlt
      by_cases hov : valL (s.data.toList.take (j + 1)) < 18446744073709551616
      · have HL := hid (fun w => line_at 10 (valL (s.data.toList.take j)) s[j].toNat h1 (by omega) (by omega) (by omega) w)
        rw [← hs1] at HL
        have HO := hid hov
        clear hs1 hlo hov
        generalize hv1 : valL (s.data.toList.take (j + 1)) = v1 at HL HO
        have HV1 := hid hv1
        clear hv1
        generalize valL (s.data.toList.take j) = v0 at *
        go_wp2_with fail
        refine (HL.out _).mono ?_
        rintro e w' ⟨rfl, rfl⟩
        go_wp2
        go_round
        case rel => exact ⟨j + 1, by omega, by go_num, by rw [HV1.out], by rw [HV1.out]; exact HO.out⟩
        case measure => simp [intOf]; omega
      · have HL := hid (fun w => line_at_over 10 (valL (s.data.toList.take j)) s[j].toNat h1 (by omega) (by omega) (by omega) (by omega) w)
        clear hs1 hlo hov
        generalize valL (s.data.toList.take j) = v0 at *
        go_wp2_with fail
        refine (HL.out _).mono ?_
        rintro e w' ⟨rfl, rfl⟩
        go_wp2
        go_ret2
        exact ⟨rfl, rfl⟩
    · have HE := List.take_of_length_le (l := s.data.toList) (i := j) (by rw [str_len]; omega)
      rw [HE] at hlo
      exact absurd HV.out (by omega)
end Go.Proofs.YtoiegkejkahfgaaDoor

/- wide: Int. -/
namespace Go.Proofs.YtoiegkejkahfgaaDoor
set_option linter.unusedVariables false
set_option linter.unusedSimpArgs false
open Go.RowKit

theorem int_neg (n : Nat) (m : Int) (h : m < 0) (w : World) :
    Calls Tryd.prog 91 #[.int .u64 n, .int .i64 m] w fun e w' => e = .returned (.tuple #[.int .i64 0, .int .i64 40]) ∧ w = w' := by
  go_enter Tryd.func91, Tryd.ntmps91
  go_wp2
  go_ret2
  exact ⟨rfl, rfl⟩
theorem int_over (n : Nat) (m : Nat) (hm : m ≤ 9223372036854775807) (h : m < n) (w : World) :
    Calls Tryd.prog 91 #[.int .u64 n, .int .i64 m] w fun e w' => e = .returned (.tuple #[.int .i64 0, .int .i64 40]) ∧ w = w' := by
  go_enter Tryd.func91, Tryd.ntmps91
  go_wp2
  go_ret2
  exact ⟨rfl, rfl⟩
theorem int_ok (n : Nat) (m : Nat) (hm : m ≤ 9223372036854775807) (h : n ≤ m) (w : World) :
    Calls Tryd.prog 91 #[.int .u64 n, .int .i64 m] w fun e w' => e = .returned (.tuple #[.int .i64 n, .int .i64 0]) ∧ w = w' := by
  go_enter Tryd.func91, Tryd.ntmps91
  go_wp2
  go_ret2
  exact ⟨rfl, rfl⟩

/-- The value of an expression: as its name is none or some. -/
def isE (name : ByteArray) (m a : Nat) : Value := .agg #[.string name, .int .u64 m, .int .u64 a]
end Go.Proofs.YtoiegkejkahfgaaDoor
