/- class: Name; strings.IndexByte. -/
import Derived.Test.YtplldfbjbekdlaaDoorLenP
import Derived.Laws.Externs
namespace Go.Proofs.YtplldfbjbekdlaaDoor
open Go.RowKit

theorem idx_run (s : ByteArray) (c : Nat) (w : World) : (callFunc 65 #[.string s, .int .u8 (c : Int)]).run Tryd.prog w = .ok (.value (.int .i64 (firstIdx s c.toUInt8))) w := by
  rw [run_callFunc_extern Tryd.func65 (by kernel_rfl) (by kernel_rfl) (by kernel_rfl) (e := Extern.BytealgIndexByte.indexByte) (by kernel_rfl), run_indexByte_string]
  simp only [Result.andThen, Int.toNat_natCast]
theorem index_any (s : ByteArray) (c : Nat) (w : World) :
    Calls Tryd.prog 50 #[.string s, .int .u8 (c : Int)] w fun e w' => e = .returned (.int .i64 (firstIdx s c.toUInt8)) ∧ w = w' := by
  have hr := idx_run s c
  generalize firstIdx s c.toUInt8 = k at hr ⊢
  go_enter Tryd.func50, Tryd.ntmps50
  go_wp2
  go_ret
  exact ⟨rfl, rfl⟩

/-- The signs that mean something of their own. -/
def clsSigns : ByteArray := ⟨#[92, 47, 91, 93, 40, 41, 123, 125, 124, 42, 43, 63, 46, 45, 94, 35, 34]⟩
def hexD (k : Nat) : UInt8 := if k < 10 then (48 + k).toUInt8 else (87 + k).toUInt8
/-- Does a byte stand for itself? -/
def plain (c : Nat) : Bool := decide (32 < c) && (decide (c ≤ 126) && decide (firstIdx clsSigns c.toUInt8 < 0))
/-- A byte's name. -/
def nameL (c : Nat) : List UInt8 := if plain c then [c.toUInt8] else [92, 120, hexD (c / 16), hexD (c % 16)]

theorem enc_one (c : Nat) (h : c < 127) : Utf8.encode (c : Int) = ⟨[c.toUInt8].toArray⟩ := by
  have hv : Utf8.valid (c : Int) = true := by simp [Utf8.valid]; omega
  unfold Utf8.encode
  simp [hv, show c < 128 by omega]
theorem not_neg_of {z : Int} (h : 0 ≤ z) : decide (z < 0) = false := decide_eq_false (by omega)
theorem hex_ix (k : Nat) (hk : k < 16) (W : World) : (Instr.index 9 (.string ⟨#[48, 49, 50, 51, 52, 53, 54, 55, 56, 57, 97, 98, 99, 100, 101, 102]⟩) (.int .u8 (k : Int))).run Tryd.prog W = .ok (.int .u8 ((hexD k).toNat : Int)) W := by
  have : k = 0 ∨ k = 1 ∨ k = 2 ∨ k = 3 ∨ k = 4 ∨ k = 5 ∨ k = 6 ∨ k = 7 ∨ k = 8 ∨ k = 9 ∨ k = 10 ∨ k = 11 ∨ k = 12 ∨ k = 13 ∨ k = 14 ∨ k = 15 := by omega
  rcases this with rfl | rfl | rfl | rfl | rfl | rfl | rfl | rfl | rfl | rfl | rfl | rfl | rfl | rfl | rfl | rfl <;> (show _ = _; kernel_rfl)
theorem and15 (c : Nat) (hc : c < 256) : bits .and .u8 (c : Int) 15 = ((c % 16 : Nat) : Int) := by
  have h1 : (BitVec.ofInt 8 (c : Int)).toNat = c := by
    rw [BitVec.ofInt_natCast, BitVec.toNat_ofNat]; exact Nat.mod_eq_of_lt (by omega)
  have h2 : (BitVec.ofInt 8 (15 : Int)).toNat = 15 := by decide
  show IntKind.u8.wrap ((BitVec.ofInt 8 (c : Int) &&& BitVec.ofInt 8 15).toNat : Int) = _
  rw [BitVec.toNat_and, h1, h2, show c &&& 15 = c % 16 from Nat.and_two_pow_sub_one_eq_mod c 4]
  simp [IntKind.wrap, IntKind.bits, IntKind.signed]
  omega
theorem RdB.two (w : World) (x y : UInt8) : RdB (w.alloc (.cells #[.int .u8 (x.toNat : Int), .int .u8 (y.toNat : Int)] 5)) (some ⟨w.heap.size, 0, none⟩) 2 [x, y] := by
  have h := Blk.fresh w 5 [.int .u8 (x.toNat : Int), .int .u8 (y.toNat : Int)]
  refine ⟨rfl, fun _ => ⟨w.heap.size, 0, rfl, h.lt, fun j hj => ?_⟩⟩
  rw [Nat.zero_add, show (#[Value.int .u8 (x.toNat : Int), .int .u8 (y.toNat : Int)] : Array Value) = [Value.int .u8 (x.toNat : Int), .int .u8 (y.toNat : Int)].toArray from rfl, h.at j]
  have : j = 0 ∨ j = 1 := by simp at hj; omega
  rcases this with rfl | rfl <;> rfl
set_option maxRecDepth 8000 in
theorem name_any (c : Nat) (hc : c < 256) (w : World) :
    Calls Tryd.prog 43 #[.int .u8 (c : Int)] w fun e w' => e = .returned (.string ⟨(nameL c).toArray⟩) ∧ Below w.heap.size w w' := by
  have HI := hid (fun W => index_any clsSigns c W)
  have hx := fun W => hex_ix (c / 16) (by omega) W
  have hy := fun W => hex_ix (c % 16) (by omega) W
  have ha := and15 c hc
  have hcv := run_str (show RdB (w.alloc (.cells #[.int .u8 ((hexD (c / 16)).toNat : Int), .int .u8 ((hexD (c % 16)).toNat : Int)] 5)).drew _ _ _ from RdB.two w (hexD (c / 16)) (hexD (c % 16))) 2
  have hcv0 := run_str (RdB.two w (hexD (c / 16)) (hexD (c % 16))) 2
  have had := fun W => run_strAdd [92, 120] [hexD (c / 16), hexD (c % 16)] (by simp) W
  have HN := hid (show plain c = false → nameL c = [92, 120] ++ [hexD (c / 16), hexD (c % 16)] from fun h => by simp [nameL, h])
  have HP := hid (show plain c = true → nameL c = [c.toUInt8] from fun h => by simp [nameL, h])
  have HE := hid (enc_one c)
  have hpl := hid (show plain c = (decide (32 < c) && (decide (c ≤ 126) && decide (firstIdx clsSigns c.toUInt8 < 0))) from rfl)
  unfold clsSigns at HI hpl
  generalize nameL c = res at *
  generalize hexD (c / 16) = h1 at *
  generalize hexD (c % 16) = h2 at *
  have hq : ((c : Int) / 16) = ((c / 16 : Nat) : Int) := by omega
  generalize c / 16 = x at *
  generalize c % 16 = y at *
  go_enter Tryd.func43, Tryd.ntmps43
  go_wp2_with (go_at_call 50; refine (HI.out _).mono ?_; rintro e w' ⟨rfl, rfl⟩)
  · have k1 : 32 < (c : Int) := by assumption
    have k2 : (c : Int) ≤ 126 := by assumption
    have k3 : firstIdx ⟨#[92, 47, 91, 93, 40, 41, 123, 125, 124, 42, 43, 63, 46, 45, 94, 35, 34]⟩ (UInt8.ofNat c) < 0 := by assumption
    have hp : plain c = true := by
      rw [hpl.out, decide_eq_true (show 32 < c by omega), decide_eq_true (show c ≤ 126 by omega)]
      simp only [Bool.true_and]
      exact decide_eq_true k3
    go_ret
    exact ⟨by rw [HP.out hp, ← HE.out (by omega)]; rfl, Below.refl _ _⟩
  · have k3 : 0 ≤ firstIdx ⟨#[92, 47, 91, 93, 40, 41, 123, 125, 124, 42, 43, 63, 46, 45, 94, 35, 34]⟩ (UInt8.ofNat c) := by assumption
    have hp : plain c = false := by
      rw [hpl.out]
      have k4 : decide (firstIdx ⟨#[92, 47, 91, 93, 40, 41, 123, 125, 124, 42, 43, 63, 46, 45, 94, 35, 34]⟩ c.toUInt8 < 0) = false := not_neg_of k3
      rw [k4, Bool.and_false, Bool.and_false]
    have hr := HN.out hp
    clear hpl HP HE k3 hp HN
    subst hr
    go_region
    all_goals (go_wp2; go_ret; exact ⟨rfl, ((Below.refl _ _).alloc (Nat.le_refl _) _).drew⟩)
  · have k3 : 126 < (c : Int) := by assumption
    have hp : plain c = false := by
      rw [hpl.out, decide_eq_false (show ¬ c ≤ 126 by omega), Bool.false_and, Bool.and_false]
    have hr := HN.out hp
    clear hpl HP HE hp HN
    subst hr
    go_region
    all_goals (go_wp2; go_ret; exact ⟨rfl, ((Below.refl _ _).alloc (Nat.le_refl _) _).drew⟩)
  · have k3 : (c : Int) ≤ 32 := by assumption
    have hp : plain c = false := by
      rw [hpl.out, decide_eq_false (show ¬ 32 < c by omega), Bool.false_and]
    have hr := HN.out hp
    clear hpl HP HE hp HN
    subst hr
    go_region
    all_goals (go_wp2; go_ret; exact ⟨rfl, ((Below.refl _ _).alloc (Nat.le_refl _) _).drew⟩)
end Go.Proofs.YtplldfbjbekdlaaDoor
