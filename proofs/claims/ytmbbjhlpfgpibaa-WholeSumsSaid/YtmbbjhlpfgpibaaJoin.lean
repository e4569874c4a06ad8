/- crc.Join. -/
import Derived.Test.YtmbbjhlpfgpibaaMat2
namespace Go.Proofs.Ytmbbjhlpfgpibaa
open Go.RowKit

theorem zN_twice (t : Nat) : (fun r => zN (2 ^ t) (zN (2 ^ t) r)) = zN (2 ^ (t + 1)) := by
  funext r
  rw [← zN_add, Nat.pow_succ, Nat.mul_two]
theorem zN_one : zN (2 ^ 0) = behindN := by funext r; rfl
theorem zN_half (t L a : Nat) : zN (2 ^ t * L) a = zN (2 ^ (t + 1) * (L / 2)) (if L % 2 = 1 then zN (2 ^ t) a else a) := by
  have e : 2 ^ t * L = (if L % 2 = 1 then 2 ^ t else 0) + 2 ^ (t + 1) * (L / 2) := by
    have h : L = L % 2 + 2 * (L / 2) := by omega
    conv => lhs; rw [h]
    rw [Nat.mul_add, Nat.pow_succ, Nat.mul_assoc]
    rcases Nat.mod_two_eq_zero_or_one L with h2 | h2
    · rw [h2]; simp
    · rw [h2]; simp
  rw [e, zN_add]
  rcases Nat.mod_two_eq_zero_or_one L with h2 | h2
  · rw [h2]; simp [zN]
  · rw [h2]; simp
theorem and1i (a : Nat) (h : a < 9223372036854775808) : bits .and .i64 (a : Int) 1 = ((a % 2 : Nat) : Int) := by
  show IntKind.i64.wrap ((BitVec.ofInt 64 (a : Int) &&& BitVec.ofInt 64 1).toNat : Int) = _
  have e1 : BitVec.ofInt 64 1 = BitVec.ofNat 64 1 := by decide
  rw [e1, BitVec.ofInt_natCast, BitVec.toNat_and, BitVec.toNat_ofNat, BitVec.toNat_ofNat, Nat.mod_eq_of_lt (show a < 2 ^ 64 by omega), show 1 % 2 ^ 64 = 1 from rfl, Nat.and_one_is_mod, IntKind.wrap_i64]
  omega

theorem twice_zN (t : Nat) (w : World) : Calls Try.prog 55 #[.agg ((matL (zN (2 ^ t))).map u32V).toArray] w fun e w' => e = .returned (.agg ((matL (zN (2 ^ (t + 1)))).map u32V).toArray) ∧ Below w.heap.size w w' := by
  have h := twice_any (lin_zN (2 ^ t)) w
  rw [zN_twice] at h
  exact h
theorem of_zN (t y : Nat) (hy : y < 4294967296) (w : World) : Calls Try.prog 54 #[.agg ((matL (zN (2 ^ t))).map u32V).toArray, .int .u32 y] w fun e w' => e = .returned (.int .u32 ((zN (2 ^ t) y : Nat) : Int)) ∧ Below w.heap.size w w' := of_mat (lin_zN (2 ^ t)) y hy w

set_option maxRecDepth 8000 in
set_option maxHeartbeats 2000000 in
theorem join_any (a b long : Nat) (ha : a < 4294967296) (hb : b < 4294967296) (hl : 0 < long) (hl2 : long ≤ 9223372036854775807) (w : World) :
    Calls Try.prog 37 #[.int .u32 a, .int .u32 b, .int .i64 long] w fun e w' => e = .returned (.int .u32 ((zN long a ^^^ b : Nat) : Int)) ∧ Below w.heap.size w w' := by
  have d0 : decide ((long : Int) ≤ 0) = false := by simp; omega
  go_enter Try.func37, Try.ntmps37
  go_wp2_with fail
  refine (oneByte_any _).mono ?_
  rintro e w1 ⟨rfl, hb1⟩
  have hz : (w1.alloc (.cells ((List.replicate 32 0).map u32V).toArray 100)).heap[w1.heap.size]? = some (.cells ((List.replicate 32 0).map u32V).toArray 100) := heap_alloc_new w1 _
  unfold isM
  go_wp2_with (first
    | refine wpList_store_row rfl 100 _ _ rfl w1.heap.size ((matL behindN).map u32V).toArray rfl rfl 100 _ hz (mat_info _) (by simp [matL]) (one_u32 _) ?_)
  change Code.wp _ _ _ _ ((w1.alloc (.cells ((List.replicate 32 0).map u32V).toArray 100)).setRow w1.heap.size ((matL behindN).map u32V).toArray)
  have hQ := hid (blk_row (Blk.fresh w1 100 ((List.replicate 32 0).map u32V)) ((matL behindN).map u32V))
  have hB := hid (below_row (hb1.alloc hb1.size (.cells ((List.replicate 32 0).map u32V).toArray 100)) hb1.size ((matL behindN).map u32V).toArray)
  have hqw := hb1.size
  clear hz hb1
  generalize (w1.alloc (.cells ((List.replicate 32 0).map u32V).toArray 100)).setRow w1.heap.size ((matL behindN).map u32V).toArray = w2 at *
  rw [← zN_one] at hQ
  simp only [Act.put]
  go_loopw [0, 2, 7] (fun v n m wr => ∃ (t y L q : Nat), v = .int .u32 y ∧ n = .int .i64 L ∧ m = .pointer (some ⟨q, 0, none⟩) ∧ y < 4294967296 ∧ L ≤ 9223372036854775807 ∧ w.heap.size ≤ q ∧ Hid (Blk wr q 100 ((matL (zN (2 ^ t))).map u32V)) ∧ Hid (zN (2 ^ t * L) y = zN long a) ∧ Below w.heap.size w wr) (fun _ n _ _ => (intOf n).toNat)
  case atStart => exact ⟨0, a, long, _, rfl, rfl, rfl, ha, hl2, hqw, hQ, hid (by rw [Nat.pow_zero, Nat.one_mul]), hB.out⟩
  case round =>
    obtain ⟨t, y, L, q, rfl, rfl, rfl, hy, hL, hqw2, hG, HE, hbr⟩ := hrel
    by_cases hpos : 0 < L
    · have hand := and1i L (by omega)
      have hg : wr.heap[q]? = some (.cells ((matL (zN (2 ^ t))).map u32V).toArray 100) := hG.out
      have HH := hid (zN_half t L y)
      rcases Nat.mod_two_eq_zero_or_one L with h2 | h2
      · rw [h2, if_neg (by decide)] at HH
        rw [h2] at hand
        clear h2
        go_wp2_with (refine wpList_load_row rfl 100 _ rfl q rfl 100 _ (0, 0) _ hg Try.underlying100 rfl (mat_info _) ?_)
        have hGa := hG.out
        have hba := hbr
        clear hG hg
        refine (twice_zN t _).mono ?_
        rintro e w4 ⟨rfl, hb4⟩
        have hG4 := hGa.keep hb4
        have hb4' := hba.trans (hb4.mono hba.size)
        have hg4 : w4.heap[q]? = some (.cells ((matL (zN (2 ^ t))).map u32V).toArray 100) := hG4
        have hG5 := blk_row hG4 ((matL (zN (2 ^ (t + 1)))).map u32V)
        have hb5 := below_row hb4' hqw2 ((matL (zN (2 ^ (t + 1)))).map u32V).toArray
        clear hGa hba hb4 hb4' hG4
        have hg5 : (w4.setRow q ((matL (zN (2 ^ (t + 1)))).map u32V).toArray).heap[q]? = some (.cells ((matL (zN (2 ^ (t + 1)))).map u32V).toArray 100) := hG5
        have hz6 : ((w4.setRow q ((matL (zN (2 ^ (t + 1)))).map u32V).toArray).alloc (.cells ((List.replicate 32 0).map u32V).toArray 100)).heap[(w4.setRow q ((matL (zN (2 ^ (t + 1)))).map u32V).toArray).heap.size]? = some (.cells ((List.replicate 32 0).map u32V).toArray 100) := heap_alloc_new _ _
        have hG7 := hid (blk_row (Blk.fresh (w4.setRow q ((matL (zN (2 ^ (t + 1)))).map u32V).toArray) 100 ((List.replicate 32 0).map u32V)) ((matL (zN (2 ^ (t + 1)))).map u32V))
        have hb7 := hid (below_row (hb5.alloc hb5.size (.cells ((List.replicate 32 0).map u32V).toArray 100)) hb5.size ((matL (zN (2 ^ (t + 1)))).map u32V).toArray)
        have hqw7 := hb5.size
        have hsz : (w4.setRow q ((matL (zN (2 ^ (t + 1)))).map u32V).toArray).heap.size = w4.heap.size := by simp [World.setRow]
        rw [hsz] at hz6 hqw7
        rw [hsz] at hG7 hb7
        clear hG5 hb5 hsz
        go_wp2_with (first
          | refine wpList_store_row rfl 100 _ _ rfl q ((matL (zN (2 ^ (t + 1)))).map u32V).toArray rfl rfl 100 _ hg4 (mat_info _) (by simp [matL]) (one_u32 _) ?_
          | refine wpList_load_row rfl 100 _ rfl q rfl 100 _ (0, 0) _ hg5 Try.underlying100 rfl (mat_info _) ?_
          | refine wpList_store_row rfl 100 _ _ rfl w4.heap.size ((matL (zN (2 ^ (t + 1)))).map u32V).toArray rfl rfl 100 _ hz6 (mat_info _) (by simp [matL]) (one_u32 _) ?_)
        go_roundw
        case rel => exact ⟨t + 1, y, L / 2, _, rfl, by rw [show ((L : Int) / 2) = ((L / 2 : Nat) : Int) by omega], rfl, hy, by omega, hqw7, hG7, hid (by rw [← HE.out, HH.out]), hb7.out⟩
        case measure => simp [intOf]; omega
      · rw [h2, if_pos rfl] at HH
        rw [h2] at hand
        clear h2
        go_wp2_with (refine wpList_load_row rfl 100 _ rfl q rfl 100 _ (0, 0) _ hg Try.underlying100 rfl (mat_info _) ?_)
        refine (of_zN t y hy _).mono ?_
        rintro e w3 ⟨rfl, hb3⟩
        have hGa := hG.out.keep hb3
        have hba := hbr.trans (hb3.mono hbr.size)
        have hg3 : w3.heap[q]? = some (.cells ((matL (zN (2 ^ t))).map u32V).toArray 100) := hGa
        clear hb3 hbr
        go_wp2_with (refine wpList_load_row rfl 100 _ rfl q rfl 100 _ (0, 0) _ hg3 Try.underlying100 rfl (mat_info _) ?_)
        clear hg3
        clear hG hg
        refine (twice_zN t _).mono ?_
        rintro e w4 ⟨rfl, hb4⟩
        have hG4 := hGa.keep hb4
        have hb4' := hba.trans (hb4.mono hba.size)
        have hg4 : w4.heap[q]? = some (.cells ((matL (zN (2 ^ t))).map u32V).toArray 100) := hG4
        have hG5 := blk_row hG4 ((matL (zN (2 ^ (t + 1)))).map u32V)
        have hb5 := below_row hb4' hqw2 ((matL (zN (2 ^ (t + 1)))).map u32V).toArray
        clear hGa hba hb4 hb4' hG4
        have hg5 : (w4.setRow q ((matL (zN (2 ^ (t + 1)))).map u32V).toArray).heap[q]? = some (.cells ((matL (zN (2 ^ (t + 1)))).map u32V).toArray 100) := hG5
        have hz6 : ((w4.setRow q ((matL (zN (2 ^ (t + 1)))).map u32V).toArray).alloc (.cells ((List.replicate 32 0).map u32V).toArray 100)).heap[(w4.setRow q ((matL (zN (2 ^ (t + 1)))).map u32V).toArray).heap.size]? = some (.cells ((List.replicate 32 0).map u32V).toArray 100) := heap_alloc_new _ _
        have hG7 := hid (blk_row (Blk.fresh (w4.setRow q ((matL (zN (2 ^ (t + 1)))).map u32V).toArray) 100 ((List.replicate 32 0).map u32V)) ((matL (zN (2 ^ (t + 1)))).map u32V))
        have hb7 := hid (below_row (hb5.alloc hb5.size (.cells ((List.replicate 32 0).map u32V).toArray 100)) hb5.size ((matL (zN (2 ^ (t + 1)))).map u32V).toArray)
        have hqw7 := hb5.size
        have hsz : (w4.setRow q ((matL (zN (2 ^ (t + 1)))).map u32V).toArray).heap.size = w4.heap.size := by simp [World.setRow]
        rw [hsz] at hz6 hqw7
        rw [hsz] at hG7 hb7
        clear hG5 hb5 hsz
        go_wp2_with (first
          | refine wpList_store_row rfl 100 _ _ rfl q ((matL (zN (2 ^ (t + 1)))).map u32V).toArray rfl rfl 100 _ hg4 (mat_info _) (by simp [matL]) (one_u32 _) ?_
          | refine wpList_load_row rfl 100 _ rfl q rfl 100 _ (0, 0) _ hg5 Try.underlying100 rfl (mat_info _) ?_
          | refine wpList_store_row rfl 100 _ _ rfl w4.heap.size ((matL (zN (2 ^ (t + 1)))).map u32V).toArray rfl rfl 100 _ hz6 (mat_info _) (by simp [matL]) (one_u32 _) ?_)
        go_roundw
        case rel => exact ⟨t + 1, zN (2 ^ t) y, L / 2, _, rfl, by rw [show ((L : Int) / 2) = ((L / 2 : Nat) : Int) by omega], rfl, zN_lt _ hy, by omega, hqw7, hG7, hid (by rw [← HE.out, HH.out]), hb7.out⟩
        case measure => simp [intOf]; omega
    · obtain rfl : L = 0 := by omega
      have hy0 := HE.out
      rw [Nat.mul_zero] at hy0
      have HY := hid (show y = zN long a from hy0)
      have hx := u32_xor_nat y b hy hb
      go_wp2
      go_ret
      exact ⟨by rw [← HY.out]; rfl, hbr⟩
end Go.Proofs.Ytmbbjhlpfgpibaa
