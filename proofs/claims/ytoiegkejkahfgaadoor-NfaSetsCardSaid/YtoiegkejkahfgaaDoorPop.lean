/- How many bits of a word are 1, as the library reckons it: plain mathematics. -/
import Derived.Test.YtoiegkejkahfgaaDoorSMath
namespace Go.Proofs.YtoiegkejkahfgaaDoor
set_option linter.unusedVariables false
set_option linter.unusedSimpArgs false

/-- So many bytes alike. -/
def rep8 (c : Nat) : Nat → Nat
  | 0 => 0
  | k + 1 => c + 256 * rep8 c k
theorem and_split (u v s t : Nat) (hu : u < 256) (hv : v < 256) : (u + 256 * s) &&& (v + 256 * t) = (u &&& v) + 256 * (s &&& t) := by
  have h1 : ((u + 256 * s) &&& (v + 256 * t)) % 2 ^ 8 = u &&& v := by
    rw [Nat.and_mod_two_pow, show (u + 256 * s) % 2 ^ 8 = u by omega, show (v + 256 * t) % 2 ^ 8 = v by omega]
  have h2 : ((u + 256 * s) &&& (v + 256 * t)) / 2 ^ 8 = s &&& t := by
    rw [Nat.and_div_two_pow, show (u + 256 * s) / 2 ^ 8 = s by omega, show (v + 256 * t) / 2 ^ 8 = t by omega]
  omega

def swA (k x : Nat) : Nat := (x / 2 &&& rep8 85 k) + (x &&& rep8 85 k)
def swB (k y : Nat) : Nat := (y / 4 &&& rep8 51 k) + (y &&& rep8 51 k)
def swC (k z : Nat) : Nat := (z / 16 + z) &&& rep8 15 k
def byA (b : Nat) : Nat := (b / 2 &&& 85) + (b &&& 85)
def byB (y : Nat) : Nat := (y / 4 &&& 51) + (y &&& 51)
def byC (z : Nat) : Nat := (z / 16 + z) &&& 15

theorem byA_drop : ∀ b : Fin 256, ∀ e : Fin 2, (b.1 / 2 + 128 * e.1) &&& 85 = b.1 / 2 &&& 85 := by decide +kernel
theorem byA_le : ∀ b : Fin 256, byA b.1 ≤ 170 := by decide +kernel
theorem byB_drop : ∀ b : Fin 256, ∀ e : Fin 4, (b.1 / 4 + 64 * e.1) &&& 51 = b.1 / 4 &&& 51 := by decide +kernel
theorem byB_le : ∀ b : Fin 256, byB b.1 ≤ 102 := by decide +kernel
theorem byAB_nib : ∀ b : Fin 256, byB (byA b.1) % 16 ≤ 4 ∧ byB (byA b.1) / 16 ≤ 4 := by decide +kernel
theorem byC_drop : ∀ b : Fin 256, ∀ e : Fin 5, (b.1 / 16 + 16 * e.1 + b.1) &&& 15 = byC b.1 := by decide +kernel
theorem by_pop : ∀ b : Fin 256, byC (byB (byA b.1)) = ((List.range 8).filter b.1.testBit).length := by decide +kernel

theorem rep8_succ (c k : Nat) : rep8 c (k + 1) = c + 256 * rep8 c k := rfl
theorem swA_step (k b r : Nat) (hb : b < 256) : swA (k + 1) (b + 256 * r) = byA b + 256 * swA k r := by
  have h1 : (b + 256 * r) / 2 = (b / 2 + 128 * (r % 2)) + 256 * (r / 2) := by omega
  have h2 := byA_drop ⟨b, hb⟩ ⟨r % 2, by omega⟩
  simp only at h2
  unfold swA byA
  rw [rep8_succ, h1, and_split _ _ _ _ (by omega) (by omega), and_split _ _ _ _ hb (by omega), h2]
  generalize b / 2 &&& 85 = u1
  generalize b &&& 85 = u2
  generalize r / 2 &&& rep8 85 k = u3
  generalize r &&& rep8 85 k = u4
  omega
theorem swB_step (k b r : Nat) (hb : b < 256) : swB (k + 1) (b + 256 * r) = byB b + 256 * swB k r := by
  have h1 : (b + 256 * r) / 4 = (b / 4 + 64 * (r % 4)) + 256 * (r / 4) := by omega
  have h2 := byB_drop ⟨b, hb⟩ ⟨r % 4, by omega⟩
  simp only at h2
  unfold swB byB
  rw [rep8_succ, h1, and_split _ _ _ _ (by omega) (by omega), and_split _ _ _ _ hb (by omega), h2]
  generalize b / 4 &&& 51 = u1
  generalize b &&& 51 = u2
  generalize r / 4 &&& rep8 51 k = u3
  generalize r &&& rep8 51 k = u4
  omega
theorem swC_step (k z r : Nat) (hz : z % 16 ≤ 4) (hz2 : z / 16 ≤ 4) (hr : r % 16 ≤ 4) : swC (k + 1) (z + 256 * r) = byC z + 256 * swC k r := by
  have h1 : (z + 256 * r) / 16 + (z + 256 * r) = (z / 16 + 16 * (r % 16) + z) + 256 * (r / 16 + r) := by omega
  unfold swC
  rw [h1, rep8_succ, and_split _ _ _ _ (by omega) (by omega), byC_drop ⟨z, by omega⟩ ⟨r % 16, by omega⟩]

theorem swAB_low (k r : Nat) : swB k (swA k r) % 16 ≤ 4 := by
  cases k with
  | zero => simp [swB, swA, rep8]
  | succ k =>
    have e : r = r % 256 + 256 * (r / 256) := by omega
    rw [e, swA_step _ _ _ (by omega), swB_step _ _ _ (by have := byA_le ⟨r % 256, by omega⟩; simp only at this; omega)]
    have := (byAB_nib ⟨r % 256, by omega⟩).1
    simp only at this
    omega
theorem sw_step (k b r : Nat) (hb : b < 256) : swC (k + 1) (swB (k + 1) (swA (k + 1) (b + 256 * r))) = ((List.range 8).filter b.testBit).length + 256 * swC k (swB k (swA k r)) := by
  have hA := byA_le ⟨b, hb⟩
  have hN := byAB_nib ⟨b, hb⟩
  simp only at hA hN
  rw [swA_step _ _ _ hb, swB_step _ _ _ (by omega), swC_step _ _ _ hN.1 hN.2 (swAB_low k r), by_pop ⟨b, hb⟩]

/-- So many bits, of the first n. -/
def cnt (n x : Nat) : Nat := ((List.range n).filter x.testBit).length
theorem cnt_split (n b r : Nat) (hb : b < 256) : cnt (8 + n) (b + 256 * r) = cnt 8 b + cnt n r := by
  unfold cnt
  rw [List.range_add, List.filter_append, List.length_append]
  congr 1
  · congr 1
    apply List.filter_congr
    intro i hi
    have hi : i < 8 := List.mem_range.1 hi
    have h1 := Nat.testBit_two_pow_mul_add r (i := 8) hb i
    rw [if_pos hi] at h1
    rw [Nat.add_comm]
    exact h1
  · rw [List.filter_map, List.length_map]
    congr 1
    apply List.filter_congr
    intro i hi
    have h1 := Nat.testBit_two_pow_mul_add r (i := 8) hb (8 + i)
    rw [if_neg (by omega), Nat.add_sub_cancel_left] at h1
    simp only [Function.comp]
    rw [Nat.add_comm b]
    exact h1
theorem cnt8_le (b : Nat) : cnt 8 b ≤ 8 := by
  have := List.length_filter_le b.testBit (List.range 8)
  simpa [cnt] using this
theorem cnt_zero_n (x : Nat) : cnt 0 x = 0 := rfl

def swG (k x : Nat) : Nat := swC k (swB k (swA k x))
theorem swG_step (k n x : Nat) : ∃ p, p ≤ 8 ∧ swG (k + 1) x = p + 256 * swG k (x / 256) ∧ cnt (8 + n) x = p + cnt n (x / 256) := by
  have hb : x % 256 < 256 := Nat.mod_lt _ (by decide)
  have e : x % 256 + 256 * (x / 256) = x := Nat.mod_add_div _ _
  have h1 := sw_step k (x % 256) (x / 256) hb
  have h2 := cnt_split n (x % 256) (x / 256) hb
  rw [e] at h1 h2
  exact ⟨cnt 8 (x % 256), cnt8_le _, h1, h2⟩
/-- The first three steps. -/
def sw (x : Nat) : Nat := swG 8 x
theorem sw_bytes (x : Nat) : ∃ p0 p1 p2 p3 p4 p5 p6 p7 : Nat, (p0 ≤ 8 ∧ p1 ≤ 8 ∧ p2 ≤ 8 ∧ p3 ≤ 8 ∧ p4 ≤ 8 ∧ p5 ≤ 8 ∧ p6 ≤ 8 ∧ p7 ≤ 8) ∧
    sw x = p0 + 256 * (p1 + 256 * (p2 + 256 * (p3 + 256 * (p4 + 256 * (p5 + 256 * (p6 + 256 * p7)))))) ∧ cnt 64 x = p0 + (p1 + (p2 + (p3 + (p4 + (p5 + (p6 + p7)))))) := by
  obtain ⟨p0, h0, a0, c0⟩ := swG_step 7 56 x
  obtain ⟨p1, h1, a1, c1⟩ := swG_step 6 48 (x / 256)
  obtain ⟨p2, h2, a2, c2⟩ := swG_step 5 40 (x / 256 / 256)
  obtain ⟨p3, h3, a3, c3⟩ := swG_step 4 32 (x / 256 / 256 / 256)
  obtain ⟨p4, h4, a4, c4⟩ := swG_step 3 24 (x / 256 / 256 / 256 / 256)
  obtain ⟨p5, h5, a5, c5⟩ := swG_step 2 16 (x / 256 / 256 / 256 / 256 / 256)
  obtain ⟨p6, h6, a6, c6⟩ := swG_step 1 8 (x / 256 / 256 / 256 / 256 / 256 / 256)
  obtain ⟨p7, h7, a7, c7⟩ := swG_step 0 0 (x / 256 / 256 / 256 / 256 / 256 / 256 / 256)
  refine ⟨p0, p1, p2, p3, p4, p5, p6, p7, ⟨h0, h1, h2, h3, h4, h5, h6, h7⟩, ?_, ?_⟩
  · have z : swG 0 (x / 256 / 256 / 256 / 256 / 256 / 256 / 256 / 256) = 0 := by simp [swG, swC, rep8]
    unfold sw
    rw [a0, a1, a2, a3, a4, a5, a6, a7, z, Nat.mul_zero, Nat.add_zero]
  · rw [show (64 : Nat) = 8 + 56 from rfl, c0, show (56 : Nat) = 8 + 48 from rfl, c1, show (48 : Nat) = 8 + 40 from rfl, c2, show (40 : Nat) = 8 + 32 from rfl, c3, show (32 : Nat) = 8 + 24 from rfl, c4, show (24 : Nat) = 8 + 16 from rfl, c5, show (16 : Nat) = 8 + 8 from rfl, c6, c7, cnt_zero_n]
    rfl
theorem div_one (p q : Nat) (hp : p < 256) : (p + 256 * q) / 256 = q := by omega
/-- The last three. -/
theorem sw_sum (x y z v : Nat) (hy : y = sw x + sw x / 256) (hz : z = y + y / 65536) (hv : v = z + z / 4294967296) : v < 18446744073709551616 ∧ z < 18446744073709551616 ∧ y < 18446744073709551616 ∧ sw x < 18446744073709551616 ∧ v % 128 = cnt 64 x := by
  obtain ⟨p0, p1, p2, p3, p4, p5, p6, p7, ⟨h0, h1, h2, h3, h4, h5, h6, h7⟩, hs, hc⟩ := sw_bytes x
  rw [hs, div_one _ _ (by omega)] at hy
  have ez : y / 65536 = ((p2 + p3) + 256 * ((p3 + p4) + 256 * ((p4 + p5) + 256 * ((p5 + p6) + 256 * ((p6 + p7) + 256 * p7))))) := by omega
  rw [ez] at hz
  have ev : z / 4294967296 = ((p4 + p5 + p6 + p7) + 256 * ((p5 + p6 + p7) + 256 * ((p6 + p7) + 256 * p7))) := by omega
  rw [ev] at hv
  rw [hs, hc]
  clear ez ev hs hc
  refine ⟨by omega, by omega, by omega, by omega, by omega⟩
theorem bitsOf_len (p o : Nat) : (bitsOf p o).length = cnt 64 p := by simp [bitsOf, cnt]
end Go.Proofs.YtoiegkejkahfgaaDoor
