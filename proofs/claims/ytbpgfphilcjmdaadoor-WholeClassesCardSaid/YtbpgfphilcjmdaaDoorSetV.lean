/- class: a set's value; four words in a block. -/
import Derived.Test.YtbpgfphilcjmdaaDoorPop
import Derived.Test.YtbpgfphilcjmdaaDoorMem
import Derived.Test.YtbpgfphilcjmdaaDoorSmall
import Derived.Laws.Bits64b
import Derived.Laws.Rows
namespace Go.Proofs.YtbpgfphilcjmdaaDoor
open Go.RowKit

def u64V (n : Nat) : Value := .int .u64 (n : Int)
/-- Four words. -/
def four (f : Nat → Nat) : List Value := [u64V (f 0), u64V (f 1), u64V (f 2), u64V (f 3)]
def setL (a : BS) : List Value := four (wd a)
/-- A set's value. -/
def setV (a : BS) : Value := .agg #[.int .u64 ((wd a 0 : Nat) : Int), .int .u64 ((wd a 1 : Nat) : Int), .int .u64 ((wd a 2 : Nat) : Int), .int .u64 ((wd a 3 : Nat) : Int)]
theorem setV_eq (a : BS) : setV a = .agg (setL a).toArray := rfl
/-- The first k of them as f has them, the others as g. -/
def mix (f g : Nat → Nat) (k : Nat) : List Value := four (fun i => if i < k then f i else g i)
theorem mix_zero (f g : Nat → Nat) : mix f g 0 = four g := by simp [mix]
theorem mix_all (f g : Nat → Nat) : mix f g 4 = four f := by simp [mix, four]
theorem four_get (f : Nat → Nat) (k : Nat) (hk : k < 4) : (four f)[k]? = some (u64V (f k)) := by
  have : k = 0 ∨ k = 1 ∨ k = 2 ∨ k = 3 := by omega
  rcases this with rfl | rfl | rfl | rfl <;> rfl
theorem four_set (f : Nat → Nat) (k x : Nat) (hk : k < 4) : (four f).set k (u64V x) = four (fun i => if i = k then x else f i) := by
  have : k = 0 ∨ k = 1 ∨ k = 2 ∨ k = 3 := by omega
  rcases this with rfl | rfl | rfl | rfl <;> simp [four]
theorem Blk.cells4 {w : World} {g : Nat} {t : TypeId} {a : BS} (h : Blk w g t (setL a)) : w.cell? ⟨g, 0, none⟩ = some (.int .u64 ((wd a 0 : Nat) : Int)) ∧ w.cell? ⟨g, 1, none⟩ = some (.int .u64 ((wd a 1 : Nat) : Int)) ∧
    w.cell? ⟨g, 2, none⟩ = some (.int .u64 ((wd a 2 : Nat) : Int)) ∧ w.cell? ⟨g, 3, none⟩ = some (.int .u64 ((wd a 3 : Nat) : Int)) := ⟨h.at 0, h.at 1, h.at 2, h.at 3⟩
theorem mix_get (f g : Nat → Nat) (k : Nat) (hk : k < 4) : (mix f g k)[k]? = some (u64V (g k)) := by
  unfold mix
  rw [four_get _ _ hk, if_neg (Nat.lt_irrefl _)]
theorem mix_set (f g : Nat → Nat) (k : Nat) (hk : k < 4) : (mix f g k).set k (u64V (f k)) = mix f g (k + 1) := by
  unfold mix
  rw [four_set _ _ _ hk]
  congr 1
  funext i
  by_cases h : i = k
  · subst h; simp
  · by_cases h2 : i < k
    · simp [h, h2, show i < k + 1 by omega]
    · simp [h, h2, show ¬ i < k + 1 by omega]
theorem four_size (f : Nat → Nat) : (four f).toArray.size = 4 := rfl
theorem four_one (f : Nat → Nat) : (four f).toArray.all (·.oneCell') = true := by simp [four, u64V, Value.oneCell']
theorem set_info (f : Nat → Nat) : (Tryd.prog.info? 40).map (·.size) = some (four f).toArray.size := by
  rw [four_size]; kernel_rfl
theorem blk_row {w : World} {g : Nat} {t : TypeId} {cs : List Value} (h : Blk w g t cs) (cs' : List Value) : Blk (w.setRow g cs'.toArray) g t cs' := setRow_heap w g _ _ t (0, 0) h
theorem below_row {B g : Nat} {a w : World} (h : Below B a w) (hg : B ≤ g) (cs : Array Value) : Below B a (w.setRow g cs) :=
  ⟨h.os, h.tape, h.output, by have := h.size; simpa [World.setRow] using this, fun k hk => (setRow_other w g k cs (by omega)).trans (h.block k hk)⟩
theorem and64 (x y : Nat) (hx : x < 18446744073709551616) (hy : y < 18446744073709551616) : bits .and .u64 (x : Int) (y : Int) = ((x &&& y : Nat) : Int) := bits_and_u64_nat x y hx hy
theorem or64 (x y : Nat) (hx : x < 18446744073709551616) (hy : y < 18446744073709551616) : bits .or .u64 (x : Int) (y : Int) = ((x ||| y : Nat) : Int) := bits_or_u64_nat x y hx hy
theorem not64 (x : Nat) (hx : x < 18446744073709551616) : bits .xor .u64 (if IntKind.u64.signed = true then -1 else IntKind.u64.max) (x : Int) = ((18446744073709551615 - x : Nat) : Int) := by
  have h2 : (BitVec.ofInt 64 (x : Int)).toNat = x := by
    rw [BitVec.ofInt_natCast, BitVec.toNat_ofNat]; exact Nat.mod_eq_of_lt (by omega)
  have h1 : BitVec.ofInt 64 (if IntKind.u64.signed = true then -1 else IntKind.u64.max) = BitVec.allOnes 64 := by decide
  show IntKind.u64.wrap ((BitVec.ofInt 64 (if IntKind.u64.signed = true then -1 else IntKind.u64.max) ^^^ BitVec.ofInt 64 (x : Int)).toNat : Int) = _
  rw [h1, BitVec.allOnes_xor, BitVec.toNat_not, h2, IntKind.wrap_u64]
  omega
theorem below_alloc2 {w : World} (o o' : Obj) : Below w.heap.size w ((w.alloc o).alloc o') := ((Below.refl _ _).alloc (Nat.le_refl _) o).alloc (by simp) o'
theorem below_alloc3 {w : World} (o o' o'' : Obj) : Below w.heap.size w (((w.alloc o).alloc o').alloc o'') := (below_alloc2 o o').alloc (by simp; omega) o''
end Go.Proofs.YtbpgfphilcjmdaaDoor
