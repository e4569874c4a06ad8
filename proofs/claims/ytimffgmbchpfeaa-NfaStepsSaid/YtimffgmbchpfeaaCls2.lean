/- class: Has, Empty, Check. -/
import Derived.Test.YtimffgmbchpfeaaCls
import Derived.Test.YtimffgmbchpfeaaSetEq
import Derived.Laws.Shifts
namespace Go.Proofs.Ytimffgmbchpfeaa
open Go.RowKit

theorem has_bits (a : BS) (c : Nat) : (bits .and .u64 (((wd a (c / 64) : Nat) : Int) / 2 ^ (c % 64)) 1 == 1) = has a c := by
  have h1 : ((wd a (c / 64) : Nat) : Int) / 2 ^ (c % 64) = ((wd a (c / 64) / 2 ^ (c % 64) : Nat) : Int) := by simp
  have h2 := and64 (wd a (c / 64) / 2 ^ (c % 64)) 1 (Nat.lt_of_le_of_lt (Nat.div_le_self _ _) (wd_lt _ _)) (by decide)
  rw [h1]
  have h3 : bits .and .u64 ((wd a (c / 64) / 2 ^ (c % 64) : Nat) : Int) 1 = ((wd a (c / 64) / 2 ^ (c % 64) % 2 : Nat) : Int) := by
    rw [← Nat.and_one_is_mod]; exact h2
  rw [h3, has_wd, Nat.testBit_eq_decide_div_mod_eq]
  generalize wd a (c / 64) / 2 ^ (c % 64) = x
  rw [Bool.eq_iff_iff]
  simp only [beq_iff_eq, decide_eq_true_eq]
  omega
theorem ret_bool {a b : Bool} (h : a = b) : Ending.returned (.bool a) = .returned (.bool b) := by rw [h]
set_option maxRecDepth 8000 in
theorem has_any (a : BS) (c : Nat) (hc : c < 256) (w : World) :
    Calls Try.prog 27 #[setV a, .int .u8 (c : Int)] w fun e w' => e = .returned (.bool (has a c)) ∧ Below w.heap.size w w' := by
  rw [setV_eq]
  have hb := ((Below.refl w.heap.size w).alloc (Nat.le_refl _) (.cells (setL a).toArray 65))
  have hca := ((Blk.fresh w 65 (setL a)).at (c / 64)).trans (four_get (wd a) (c / 64) (by omega))
  have hfr := (Blk.fresh w 65 (setL a)).free (c / 64)
  unfold u64V at hca
  go_enter Try.func27, Try.ntmps27
  generalize (setL a).toArray = Va at *
  go_wp2
  go_ret
  exact ⟨ret_bool (has_bits a c), hb⟩
set_option maxRecDepth 8000 in
theorem empty_any (a : BS) (w : World) :
    Calls Try.prog 47 #[setV a] w fun e w' => e = .returned (.bool (decide (a = 0#256))) ∧ Below w.heap.size w w' := by
  have hq := run_eqSet a (0#256)
  rw [show setV (0#256) = .agg #[.int .u64 0, .int .u64 0, .int .u64 0, .int .u64 0] by simp [setV, wd_zero]] at hq
  rw [setV_eq] at hq ⊢
  have hb := ((Below.refl w.heap.size w).alloc (Nat.le_refl _) (.cells (setL a).toArray 65))
  have hg : (w.alloc (.cells (setL a).toArray 65)).heap[w.heap.size]? = some (.cells (setL a).toArray 65) := Blk.fresh w 65 (setL a)
  have hi := set_info (wd a)
  change _ = some (setL a).toArray.size at hi
  generalize (setL a).toArray = Va at *
  go_enter Try.func47, Try.ntmps47
  go_wp2_with (refine wpList_load_row rfl 65 _ rfl w.heap.size rfl 65 _ (0, 0) _ hg Try.underlying65 rfl hi ?_)
  go_ret
  exact ⟨ret_bool (by simp), hb⟩
set_option maxRecDepth 8000 in
theorem check_any (a : BS) (w : World) :
    Calls Try.prog 43 #[setV a] w fun e w' => e = .returned (.int .i64 (if a = 0#256 then 160 else 0)) ∧ Below w.heap.size w w' := by
  have HE := hid (fun W => empty_any a W)
  rw [setV_eq] at HE ⊢
  have hb := ((Below.refl w.heap.size w).alloc (Nat.le_refl _) (.cells (setL a).toArray 65))
  have hg : (w.alloc (.cells (setL a).toArray 65)).heap[w.heap.size]? = some (.cells (setL a).toArray 65) := Blk.fresh w 65 (setL a)
  have hi := set_info (wd a)
  change _ = some (setL a).toArray.size at hi
  generalize (setL a).toArray = Va at *
  by_cases h0 : a = 0#256
  · rw [if_pos h0]
    rw [decide_eq_true h0] at HE
    clear h0
    go_enter Try.func43, Try.ntmps43
    go_wp2_with (first
      | refine wpList_load_row rfl 65 _ rfl w.heap.size rfl 65 _ (0, 0) _ hg Try.underlying65 rfl hi ?_
      | (go_at_call 47; refine (HE.out _).mono ?_; rintro e w1 ⟨rfl, hb1⟩))
    go_ret
    exact ⟨rfl, hb.trans (hb1.mono hb.size)⟩
  · rw [if_neg h0]
    rw [decide_eq_false h0] at HE
    clear h0
    go_enter Try.func43, Try.ntmps43
    go_wp2_with (first
      | refine wpList_load_row rfl 65 _ rfl w.heap.size rfl 65 _ (0, 0) _ hg Try.underlying65 rfl hi ?_
      | (go_at_call 47; refine (HE.out _).mono ?_; rintro e w1 ⟨rfl, hb1⟩))
    go_ret
    exact ⟨rfl, hb.trans (hb1.mono hb.size)⟩
end Go.Proofs.Ytimffgmbchpfeaa
