/- class: the text of a set, as a function. -/
import Derived.Test.YtoiegkejkahfgaaDoorOfR
namespace Go.Proofs.YtoiegkejkahfgaaDoor
set_option linter.unusedVariables false
set_option linter.unusedSimpArgs false
open Go.RowKit

def firstN (a : BS) : Nat := (bytesOf a).headD 0
/-- What one byte of a set writes: nothing, if it stands in a run already. -/
def piece (a : BS) (c : Nat) : List UInt8 :=
  if 0 < c ∧ has a (c - 1) = true then [] else nameL c ++ (if c < lastN a c then 45 :: nameL (lastN a c) else [])
def pieces (a : BS) (l : List Nat) : List UInt8 := l.flatMap (piece a)
/-- A set's text. -/
def textL (a : BS) : List UInt8 :=
  if a = ~~~(0#256) then [46] else if a ≠ 0#256 ∧ a = bit (firstN a) then nameL (firstN a) else 91 :: (pieces a (bytesOf a) ++ [93])
theorem firstN_lt (a : BS) : firstN a < 256 := by
  unfold firstN
  cases h : bytesOf a with
  | nil => decide
  | cons c l => exact bytesOf_lt a c (by rw [h]; simp)
theorem ofL_one (c : Nat) (hc : c < 256) : ofL [c.toUInt8] = bit c := by
  have : c.toUInt8.toNat = c := by simp; omega
  simp [ofL, this]
end Go.Proofs.YtoiegkejkahfgaaDoor
