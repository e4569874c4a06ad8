/- crc: matrices. -/
import Derived.Test.YtmbbjhlpfgpibaaJMath
import Derived.Test.YtmbbjhlpfgpibaaOpen
import Derived.Laws.Rows
namespace Go.Proofs.Ytmbbjhlpfgpibaa
open Go.RowKit

/-- The value of a matrix. -/
def isM (f : Nat → Nat) : Value := .agg ((matL f).map u32V).toArray
theorem isM_size (f : Nat → Nat) : ((matL f).map u32V).toArray.size = 32 := by simp [matL]
theorem mat_info (f : Nat → Nat) : (Try.prog.info? 100).map (·.size) = some ((matL f).map u32V).toArray.size := by
  rw [isM_size]; kernel_rfl

theorem run_ix (f : Nat → Nat) (k : Nat) (hk : k < 32) (w : World) : (Instr.index 100 (isM f) (.int .i64 (k : Int))).run Try.prog w = .ok (.int .u32 ((f (2 ^ k) : Nat) : Int)) w := by
  have hs : (sizeOf 24).run Try.prog w = .ok 1 w := by kernel_rfl
  have hg : (matL f)[k]? = some (f (2 ^ k)) := by simp [matL, hk]
  unfold isM
  simp [Instr.index, run_underlying Try.underlying100, asIntOf, hs, part, hk, hg, u32V]

set_option maxRecDepth 8000 in
theorem of_mat {f : Nat → Nat} (hf : Lin f) (r : Nat) (hr : r < 4294967296) (w : World) :
    Calls Try.prog 54 #[isM f, .int .u32 r] w fun e w' => e = .returned (.int .u32 ((f r : Nat) : Int)) ∧ Below w.heap.size w w' := by
  have HF := hid hf
  have hix := fun (k : Nat) (hk : k < 32) => run_ix f k hk
  have HI := hid hix
  clear hf hix
  have hb : Below w.heap.size w (w.alloc (.cells ((matL f).map u32V).toArray 100)) := (Below.refl _ _).alloc (Nat.le_refl _) _
  have hg := heap_alloc_new w (.cells ((matL f).map u32V).toArray 100)
  unfold isM
  go_enter Try.func54, Try.ntmps54
  go_wp2_with (refine wpList_load_row rfl 100 _ rfl w.heap.size rfl 100 _ (0, 0) _ hg Try.underlying100 rfl (mat_info f) ?_)
  have HI' := hid (fun (k : Nat) (hk : k < 32) (w : World) => show (Instr.index 100 (.agg ((matL f).map u32V).toArray) (.int .i64 (k : Int))).run Try.prog w = .ok (.int .u32 ((f (2 ^ k) : Nat) : Int)) w from HI.out k hk w)
  clear HI hg
  generalize ((matL f).map u32V).toArray = C at *
  generalize w.alloc (.cells C 100) = w1 at *
  go_loop [5, 9] (fun v i => ∃ k : Nat, k ≤ 32 ∧ i = .int .i64 k ∧ v = .int .u32 ((f (r % 2 ^ k) : Nat) : Int)) (fun _ i => 32 - (intOf i).toNat)
  case atStart => exact ⟨0, by omega, rfl, by rw [Nat.pow_zero, Nat.mod_one, HF.out.zero]; rfl⟩
  case round =>
    obtain ⟨k, hk, rfl, rfl⟩ := hrel
    by_cases hlt : k < 32
    · have hix := HI'.out k hlt
      have hq : (r : Int) / 2 ^ k = ((r / 2 ^ k : Nat) : Int) := by simp
      have hql : r / 2 ^ k < 4294967296 := Nat.lt_of_le_of_lt (Nat.div_le_self _ _) hr
      have ha : bits .and .u32 ((r : Int) / 2 ^ k) 1 = ((r / 2 ^ k % 2 : Nat) : Int) := by rw [hq]; exact and1 _ hql
      have hx := u32_xor_nat (f (r % 2 ^ k)) (f (2 ^ k)) (HF.out.lt _ (Nat.lt_of_le_of_lt (Nat.mod_le _ _) hr)) (HF.out.lt _ (pow_lt32 k hlt))
      have HS := hid (of_step HF.out r k)
      have HQ := hid hq
      clear hq hql
      rcases Nat.mod_two_eq_zero_or_one (r / 2 ^ k) with h2 | h2
      · rw [h2] at ha
        have HE := hid (show f (r % 2 ^ (k + 1)) = f (r % 2 ^ k) by rw [HS.out, if_neg (by omega)])
        clear hx h2
        generalize f (r % 2 ^ k) = y at *
        generalize f (2 ^ k) = z at *
        go_wp2
        go_round
        case rel => exact ⟨k + 1, by omega, by go_num, by rw [HE.out]⟩
        case measure => simp [intOf]; omega
      · rw [h2] at ha
        have HE := hid (show f (r % 2 ^ (k + 1)) = f (r % 2 ^ k) ^^^ f (2 ^ k) by rw [HS.out, if_pos h2])
        clear h2
        generalize f (r % 2 ^ k) = y at *
        generalize f (2 ^ k) = z at *
        go_wp2
        go_round
        case rel => exact ⟨k + 1, by omega, by go_num, by rw [HE.out]⟩
        case measure => simp [intOf]; omega
    · obtain rfl : k = 32 := by omega
      have HE := hid (show f (r % 2 ^ 32) = f r by rw [Nat.mod_eq_of_lt hr])
      go_wp2
      go_ret
      exact ⟨by rw [HE.out]; rfl, hb⟩
end Go.Proofs.Ytmbbjhlpfgpibaa
