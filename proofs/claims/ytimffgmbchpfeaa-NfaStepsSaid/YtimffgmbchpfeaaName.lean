/- class: Name; strings.IndexByte. -/
import Derived.Test.YtimffgmbchpfeaaLenP
import Derived.Laws.Externs
namespace Go.Proofs.Ytimffgmbchpfeaa
open Go.RowKit

theorem idx_run (s : ByteArray) (c : Nat) (w : World) : (callFunc 59 #[.string s, .int .u8 (c : Int)]).run Try.prog w = .ok (.value (.int .i64 (firstIdx s c.toUInt8))) w := by
  rw [run_callFunc_extern Try.func59 (by kernel_rfl) (by kernel_rfl) (by kernel_rfl) (e := Extern.BytealgIndexByte.indexByte) (by kernel_rfl), run_indexByte_string]
  simp only [Result.andThen, Int.toNat_natCast]
theorem index_any (s : ByteArray) (c : Nat) (w : World) :
    Calls Try.prog 49 #[.string s, .int .u8 (c : Int)] w fun e w' => e = .returned (.int .i64 (firstIdx s c.toUInt8)) ∧ w = w' := by
  have hr := idx_run s c
  generalize firstIdx s c.toUInt8 = k at hr ⊢
  go_enter Try.func49, Try.ntmps49
  go_wp2
  go_ret
  exact ⟨rfl, rfl⟩

/-- The signs that mean something of their own. -/
def clsSigns : ByteArray := ⟨#[92, 47, 91, 93, 40, 41, 123, 125, 124, 42, 43, 63, 46, 45, 94, 35, 34]⟩
def hexD (k : Nat) : UInt8 := if k < 10 then (48 + k).toUInt8 else (87 + k).toUInt8
/-- Does a byte stand for itself? -/
def plain (c : Nat) : Bool := decide (32 < c) && (decide (c ≤ 126) && decide (firstIdx clsSigns c.toUInt8 < 0))
/-- A byte's name. -/
def nameL (c : Nat) : List UInt8 := if plain c then [c.toUInt8] else [92, 120, hexD (c / 16), hexD (c % 16)]

theorem enc_one (c : Nat) (h : c < 127) : Utf8.encode (c : Int) = ⟨[c.toUInt8].toArray⟩ := by
  have hv : Utf8.valid (c : Int) = true := by simp [Utf8.valid]; omega
  unfold Utf8.encode
  simp [hv, show c < 128 by omega]
theorem not_neg_of {z : Int} (h : 0 ≤ z) : decide (z < 0) = false := decide_eq_false (by omega)
theorem hex_ix (k : Nat) (hk : k < 16) (W : World) : (Instr.index 9 (.string ⟨#[48, 49, 50, 51, 52, 53, 54, 55, 56, 57, 97, 98, 99, 100, 101, 102]⟩) (.int .u8 (k : Int))).run Try.prog W = .ok (.int .u8 ((hexD k).toNat : Int)) W := by
  have : k = 0 ∨ k = 1 ∨ k = 2 ∨ k = 3 ∨ k = 4 ∨ k = 5 ∨ k = 6 ∨ k = 7 ∨ k = 8 ∨ k = 9 ∨ k = 10 ∨ k = 11 ∨ k = 12 ∨ k = 13 ∨ k = 14 ∨ k = 15 := by omega
  rcases this with rfl | rfl | rfl | rfl | rfl | rfl | rfl | rfl | rfl | rfl | rfl | rfl | rfl | rfl | rfl | rfl <;> (show _ = _; kernel_rfl)
theorem and15 (c : Nat) (hc : c < 256) : bits .and .u8 (c : Int) 15 = ((c % 16 : Nat) : Int) := by
  have h1 : (BitVec.ofInt 8 (c : Int)).toNat = c := by
    rw [BitVec.ofInt_natCast, BitVec.toNat_ofNat]; exact Nat.mod_eq_of_lt (by omega)
  have h2 : (BitVec.ofInt 8 (15 : Int)).toNat = 15 := by decide
  show IntKind.u8.wrap ((BitVec.ofInt 8 (c : Int) &&& BitVec.ofInt 8 15).toNat : Int) = _
  rw [BitVec.toNat_and, h1, h2, show c &&& 15 = c % 16 from Nat.and_two_pow_sub_one_eq_mod c 4]
  simp [IntKind.wrap, IntKind.bits, IntKind.signed]
  omega
theorem RdB.two (w : World) (x y : UInt8) : RdB (w.alloc (.cells #[.int .u8 (x.toNat : Int), .int .u8 (y.toNat : Int)] 5)) (some ⟨w.heap.size, 0, none⟩) 2 [x, y] := by
  have h := Blk.fresh w 5 [.int .u8 (x.toNat : Int), .int .u8 (y.toNat : Int)]
  refine ⟨rfl, fun _ => ⟨w.heap.size, 0, rfl, h.lt, fun j hj => ?_⟩⟩
  rw [Nat.zero_add, show (#[Value.int .u8 (x.toNat : Int), .int .u8 (y.toNat : Int)] : Array Value) = [Value.int .u8 (x.toNat : Int), .int .u8 (y.toNat : Int)].toArray from rfl, h.at j]
  have : j = 0 ∨ j = 1 := by simp at hj; omega
  rcases this with rfl | rfl <;> rfl
end Go.Proofs.Ytimffgmbchpfeaa
