/- The rows of the long division, and what is known of them. -/
import Derived.Test.YtmbbjhlpfgpibaaRMath
import Derived.Test.YtmbbjhlpfgpibaaMem
import Derived.Deep.AppendLies
import Derived.Laws.OwnMore
namespace Go.Proofs.Ytmbbjhlpfgpibaa
open Go.RowKit

def iV (x : Nat) : Value := .int .i64 (x : Int)
/-- Block g is a row of numbers of its own. -/
def RowI (w : World) (B g cap N : Nat) (M : List Nat) : Prop := M.length = N ∧ w.ownsRow B 3 1 (.slice (some ⟨g, 0, none⟩) N cap) N (M.map iV)
section
variable {w w' : World} {B g cap N : Nat} {M : List Nat}
theorem RowI.cell (h : RowI w B g cap N M) (j : Nat) (hj : j < N) : w.cell? ⟨g, j, none⟩ = some (.int .i64 ((M.getD j 0 : Nat) : Int)) := by
  rw [h.2.cellAt j (by omega)]
  have : j < M.length := by rw [h.1]; exact hj
  simp [this, List.getD, iV]
theorem RowI.free (h : RowI w B g cap N M) (j : Nat) : w.frozen? ⟨g, j, none⟩ = false := h.2.frozenAt j
theorem RowI.set (h : RowI w B g cap N M) (j x : Nat) : RowI (w.setCell ⟨g, j, none⟩ (.int .i64 (x : Int))) B g cap N (M.set j x) := by
  refine ⟨by simp [h.1], ?_⟩
  have := (h.2.stored j (iV x)).1
  rw [← List.map_set] at this
  exact this
theorem RowI.drewN (h : RowI w B g cap N M) (k : Nat) : RowI (w.drewN k) B g cap N M := h
theorem RowI.drew (h : RowI w B g cap N M) : RowI w.drew B g cap N M := h
theorem RowI.alloc (h : RowI w B g cap N M) (o : Obj) : RowI (w.alloc o) B g cap N M := ⟨h.1, h.2.alloc o⟩
end

theorem getD_set {M : List Nat} {i j x : Nat} (hi : i < M.length) : (M.set i x).getD j 0 = if j = i then x else M.getD j 0 := by
  by_cases h : j = i
  · subst h
    rw [if_pos rfl]
    simp [List.getD, hi]
  · rw [if_neg h]
    simp [List.getD, Ne.symm h]

/-- The first bits turned, so many. -/
def flipL (l : List UInt8) (N k : Nat) : List Nat := (List.range N).map (fun j => if j < k then 1 - mb l j else mb l j)
theorem flipL_zero (l : List UInt8) (N : Nat) : flipL l N 0 = (List.range N).map (mb l) := by simp [flipL]
theorem flipL_len (l : List UInt8) (N k : Nat) : (flipL l N k).length = N := by simp [flipL]
theorem flipL_get (l : List UInt8) (N k j : Nat) (hj : j < N) : (flipL l N k).getD j 0 = if j < k then 1 - mb l j else mb l j := by
  unfold flipL
  simp [List.getD, hj]
theorem flipL_set (l : List UInt8) (N k : Nat) : (flipL l N k).set k (1 - mb l k) = flipL l N (k + 1) := by
  apply List.ext_getElem
  · simp [flipL]
  · intro j h1 h2
    have hj : j < N := by simpa [flipL] using h2
    simp only [flipL, List.getElem_set, List.getElem_map, List.getElem_range]
    by_cases e : k = j
    · subst e; rw [if_pos rfl, if_pos (by omega)]
    · rw [if_neg e]
      by_cases h : j < k
      · rw [if_pos h, if_pos (by omega)]
      · rw [if_neg h, if_neg (by omega)]

/-- So many steps are done. -/
def Inv (l : List UInt8) (N i : Nat) (M : List Nat) : Prop := M.length = N ∧ ∀ j, i ≤ j → j < N → M.getD j 0 = dvv l i j
/-- In a step, so many bits are done. -/
def Inv6 (l : List UInt8) (N i k : Nat) (M : List Nat) : Prop := M.length = N ∧ ∀ j, i + 1 ≤ j → j < N → M.getD j 0 = if j < i + 1 + k then dvv l (i + 1) j else dvv l i j
theorem inv_start (l : List UInt8) (N : Nat) : Inv l N 0 (flipL l N 32) := ⟨flipL_len _ _ _, fun j _ hj => by rw [flipL_get l N 32 j hj, dvv_zero]⟩
theorem inv_stay {l : List UInt8} {N i : Nat} {M : List Nat} (h : Inv l N i M) (h0 : dvv l i i ≠ 1) : Inv l N (i + 1) M :=
  ⟨h.1, fun j hj hN => by rw [h.2 j (by omega) hN, dvv_stay l i j hj h0]⟩
theorem inv6_start {l : List UInt8} {N i : Nat} {M : List Nat} (h : Inv l N i M) : Inv6 l N i 0 M :=
  ⟨h.1, fun j hj hN => by rw [if_neg (by omega)]; exact h.2 j (by omega) hN⟩
theorem inv6_get {l : List UInt8} {N i k : Nat} {M : List Nat} (h : Inv6 l N i k M) (hN : i + 1 + k < N) : M.getD (i + 1 + k) 0 = dvv l i (i + 1 + k) := by
  rw [h.2 (i + 1 + k) (by omega) hN, if_neg (by omega)]
theorem inv6_step {l : List UInt8} {N i k : Nat} {M : List Nat} (h : Inv6 l N i k M) (hN : i + 1 + k < N) (hk : k < 32) (h1 : dvv l i i = 1) :
    Inv6 l N i (k + 1) (M.set (i + 1 + k) ((M.getD (i + 1 + k) 0 + polyL.getD k 0) % 2)) := by
  refine ⟨by simp [h.1], fun j hj hjN => ?_⟩
  rw [getD_set (by rw [h.1]; exact hN)]
  by_cases e : j = i + 1 + k
  · subst e
    rw [if_pos rfl, if_pos (by omega), inv6_get h hN, dvv_step l i k hk h1]
  · rw [if_neg e, h.2 j hj hjN]
    by_cases h2 : j < i + 1 + k
    · rw [if_pos h2, if_pos (by omega)]
    · rw [if_neg h2, if_neg (by omega)]
theorem inv6_end {l : List UInt8} {N i : Nat} {M : List Nat} (h : Inv6 l N i 32 M) : Inv l N (i + 1) M :=
  ⟨h.1, fun j hj hN => by
    rw [h.2 j hj hN]
    by_cases h2 : j < i + 1 + 32
    · rw [if_pos h2]
    · rw [if_neg h2, dvv_far l i j (by omega)]⟩
theorem poly_le (k : Nat) : polyL.getD k 0 ≤ 1 := by
  by_cases h : k < 32
  · rw [← poly_bit k h]; exact toNat_le _
  · simp [List.getD, List.getElem?_eq_none (show polyL.length ≤ k by show 32 ≤ k; omega)]
theorem poly_cell (k : Nat) (hk : k < 32) : (polyL.map iV)[k]? = some (.int .i64 ((polyL.getD k 0 : Nat) : Int)) := by
  have : k < polyL.length := hk
  simp [this, List.getD, iV]

/-- The number that is told at the end, its highest bits so many. -/
def outN (l : List UInt8) (k : Nat) : Nat := (Sb l (8 * l.length) ^^^ ones) / 2 ^ (32 - k)
theorem outN_lt (l : List UInt8) (k : Nat) : outN l k < 4294967296 := Nat.lt_of_le_of_lt (Nat.div_le_self _ _) (xor_lt32 (Sb_lt l _) ones_lt)
theorem outN_zero (l : List UInt8) : outN l 0 = 0 := Nat.div_eq_of_lt (show _ < 2 ^ 32 from xor_lt32 (Sb_lt l _) ones_lt)
theorem outN_all (l : List UInt8) : outN l 32 = crcN l := by unfold outN; rw [Nat.sub_self, Nat.pow_zero, Nat.div_one, Sb_all]
theorem outN_step {l : List UInt8} {M : List Nat} {N k : Nat} (h : Inv l N (8 * l.length) M) (hN : N = 8 * l.length + 32) (hk : k < 32) :
    M.getD (N - 1 - k) 0 ≤ 1 ∧ outN l (k + 1) = 2 * outN l k + (1 - M.getD (N - 1 - k) 0) := by
  have e : M.getD (N - 1 - k) 0 = ((Sb l (8 * l.length)).testBit (31 - k)).toNat := by
    rw [h.2 (N - 1 - k) (by omega) (by omega), show N - 1 - k = 8 * l.length + (31 - k) by omega, dvv_end l (31 - k) (by omega)]
  rw [e]
  refine ⟨toNat_le _, ?_⟩
  unfold outN
  rw [high_step _ k hk (xor_lt32 (Sb_lt l _) ones_lt), Nat.testBit_xor, ones_bit, decide_eq_true (by omega)]
  cases (Sb l (8 * l.length)).testBit (31 - k) <;> rfl
end Go.Proofs.Ytmbbjhlpfgpibaa
