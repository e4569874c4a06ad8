/- class: Len. -/
import Derived.Test.YtbpgfphilcjmdaaDoorCls2
namespace Go.Proofs.YtbpgfphilcjmdaaDoor
open Go.RowKit

theorem rep85 : rep8 85 8 = 6148914691236517205 := by decide
theorem rep51 : rep8 51 8 = 3689348814741910323 := by decide
theorem rep15 : rep8 15 8 = 1085102592571150095 := by decide
theorem wrap_u64_nat (x : Nat) (h : x < 18446744073709551616) : IntKind.u64.wrap (x : Int) = (x : Int) := by rw [IntKind.wrap_u64]; omega
theorem and_le_r (x m : Nat) : x &&& m ≤ m := Nat.and_le_right
theorem oc_A (x : Nat) (hx : x < 18446744073709551616) : IntKind.u64.wrap (bits .and .u64 ((x : Int) / 2) 6148914691236517205 + bits .and .u64 (x : Int) 6148914691236517205) = ((swA 8 x : Nat) : Int) ∧ swA 8 x < 18446744073709551616 := by
  have h1 := and64 (x / 2) (rep8 85 8) (by omega) (by rw [rep85]; omega)
  have h2 := and64 x (rep8 85 8) hx (by rw [rep85]; omega)
  have l1 := and_le_r (x / 2) (rep8 85 8)
  have l2 := and_le_r x (rep8 85 8)
  unfold swA
  rw [rep85] at h1 h2 l1 l2 ⊢
  have e : ((x : Int) / 2) = ((x / 2 : Nat) : Int) := by omega
  rw [e]
  rw [show ((6148914691236517205 : Nat) : Int) = (6148914691236517205 : Int) from rfl] at h1 h2
  rw [h1, h2]
  generalize x / 2 &&& 6148914691236517205 = u at *
  generalize x &&& 6148914691236517205 = v at *
  rw [IntKind.wrap_u64]
  omega
theorem oc_B (x : Nat) (hx : x < 18446744073709551616) : IntKind.u64.wrap (bits .and .u64 ((x : Int) / 4) 3689348814741910323 + bits .and .u64 (x : Int) 3689348814741910323) = ((swB 8 x : Nat) : Int) ∧ swB 8 x < 9223372036854775808 := by
  have h1 := and64 (x / 4) (rep8 51 8) (by omega) (by rw [rep51]; omega)
  have h2 := and64 x (rep8 51 8) hx (by rw [rep51]; omega)
  have l1 := and_le_r (x / 4) (rep8 51 8)
  have l2 := and_le_r x (rep8 51 8)
  unfold swB
  rw [rep51] at h1 h2 l1 l2 ⊢
  have e : ((x : Int) / 4) = ((x / 4 : Nat) : Int) := by omega
  rw [e]
  rw [show ((3689348814741910323 : Nat) : Int) = (3689348814741910323 : Int) from rfl] at h1 h2
  rw [h1, h2]
  generalize x / 4 &&& 3689348814741910323 = u at *
  generalize x &&& 3689348814741910323 = v at *
  rw [IntKind.wrap_u64]
  omega
theorem oc_C (x : Nat) (hx : x < 9223372036854775808) : bits .and .u64 (IntKind.u64.wrap ((x : Int) / 16 + (x : Int))) 1085102592571150095 = ((swC 8 x : Nat) : Int) := by
  have h1 := and64 (x / 16 + x) (rep8 15 8) (by omega) (by rw [rep15]; omega)
  have e : IntKind.u64.wrap ((x : Int) / 16 + (x : Int)) = ((x / 16 + x : Nat) : Int) := by rw [IntKind.wrap_u64]; omega
  unfold swC
  rw [e]
  rw [rep15] at h1 ⊢
  exact h1
theorem oc_D (s k y : Nat) (hk : 0 < k) (hy : y = s + s / k) (h : y < 18446744073709551616) : IntKind.u64.wrap ((s : Int) + (s : Int) / (k : Int)) = (y : Int) := by
  have e : (s : Int) + (s : Int) / (k : Int) = (y : Int) := by rw [hy]; simp
  rw [e]; exact wrap_u64_nat y h
theorem oc_E (v : Nat) (hv : v < 18446744073709551616) : bits .and .i64 (wrap64 (v : Int)) 127 = ((v % 128 : Nat) : Int) := by
  have h1 : (BitVec.ofInt 64 (wrap64 (v : Int))).toNat = v := by
    rw [BitVec.toNat_ofInt]
    unfold wrap64
    omega
  have h2 : (BitVec.ofInt 64 (127 : Int)).toNat = 127 := by decide
  have h3 : v &&& 127 = v % 128 := Nat.and_two_pow_sub_one_eq_mod v 7
  show IntKind.i64.wrap ((BitVec.ofInt 64 (wrap64 (v : Int)) &&& BitVec.ofInt 64 127).toNat : Int) = _
  rw [BitVec.toNat_and, h1, h2, h3]
  rw [IntKind.wrap_i64]
  omega

set_option maxRecDepth 8000 in
theorem ones_any (x : Nat) (hx : x < 18446744073709551616) (w : World) :
    Calls Tryd.prog 37 #[.int .u64 (x : Int)] w fun e w' => e = .returned (.int .i64 ((cnt 64 x : Nat) : Int)) ∧ w = w' := by
  obtain ⟨hA, hA2⟩ := oc_A x hx
  obtain ⟨hB, hB2⟩ := oc_B (swA 8 x) hA2
  have hC := oc_C (swB 8 (swA 8 x)) hB2
  obtain ⟨hv, hz, hy, hs, hcnt⟩ := sw_sum x _ _ _ rfl rfl rfl
  change _ = ((sw x : Nat) : Int) at hC
  have hD1 := oc_D (sw x) 256 _ (by decide) rfl hy
  have hD2 := oc_D _ 65536 _ (by decide) rfl hz
  have hD3 := oc_D _ 4294967296 _ (by decide) rfl hv
  have HC := hid hcnt
  generalize sw x + sw x / 256 = y at *
  generalize y + y / 65536 = z at *
  generalize z + z / 4294967296 = v at *
  generalize sw x = s at *
  generalize swB 8 (swA 8 x) = b at *
  generalize swA 8 x = a at *
  rw [show ((256 : Nat) : Int) = 256 from rfl] at hD1
  rw [show ((65536 : Nat) : Int) = 65536 from rfl] at hD2
  rw [show ((4294967296 : Nat) : Int) = 4294967296 from rfl] at hD3
  have HE := hid (oc_E v hv)
  clear hcnt hx hA2 hB2 hs hy hz hv
  go_enter Tryd.func37, Tryd.ntmps37
  go_wp2
  go_ret
  exact ⟨ret_int (by rw [HE.out, HC.out]), rfl⟩

/-- The bits of the first k words. -/
def lenN (a : BS) : Nat → Nat
  | 0 => 0
  | k + 1 => lenN a k + cnt 64 (wd a k)
theorem lenN_four (a : BS) : lenN a 4 = (bytesOf a).length := by
  rw [bytesOf_words, List.length_append, List.length_append, List.length_append, bitsOf_len, bitsOf_len, bitsOf_len, bitsOf_len]
  simp [lenN]
  omega
theorem cnt_le (n x : Nat) : cnt n x ≤ n := by
  have := List.length_filter_le x.testBit (List.range n)
  simpa [cnt] using this
theorem lenN_le (a : BS) (k : Nat) : lenN a k ≤ 64 * k := by
  induction k with
  | zero => simp [lenN]
  | succ k ih => have := cnt_le 64 (wd a k); simp only [lenN]; omega
theorem run_ix (a : BS) (k : Nat) (hk : k < 4) (w : World) : (Instr.index 40 (.agg (setL a).toArray) (.int .i64 (k : Int))).run Tryd.prog w = .ok (.int .u64 ((wd a k : Nat) : Int)) w := by
  have hs : (sizeOf 23).run Tryd.prog w = .ok 1 w := by kernel_rfl
  have : k = 0 ∨ k = 1 ∨ k = 2 ∨ k = 3 := by omega
  rcases this with rfl | rfl | rfl | rfl <;> simp [Instr.index, run_underlying Tryd.underlying40, asIntOf, hs, part, setL, four, u64V]

set_option maxRecDepth 8000 in
theorem len_any (a : BS) (w : World) :
    Calls Tryd.prog 19 #[setV a] w fun e w' => e = .returned (.int .i64 ((bytesOf a).length : Nat)) ∧ Below w.heap.size w w' := by
  have HI := hid (fun (k : Nat) (hk : k < 4) (w : World) => run_ix a k hk w)
  rw [setV_eq]
  have hb := ((Below.refl w.heap.size w).alloc (Nat.le_refl _) (.cells (setL a).toArray 40))
  have hg : (w.alloc (.cells (setL a).toArray 40)).heap[w.heap.size]? = some (.cells (setL a).toArray 40) := Blk.fresh w 40 (setL a)
  have hi := set_info (wd a)
  change _ = some (setL a).toArray.size at hi
  generalize (setL a).toArray = Va at *
  go_enter Tryd.func19, Tryd.ntmps19
  go_wp2_with (refine wpList_load_row rfl 40 _ rfl w.heap.size rfl 40 _ (0, 0) _ hg Tryd.underlying40 rfl hi ?_)
  generalize w.alloc (.cells Va 40) = w1 at *
  go_loop [3, 7] (fun v i => ∃ k : Nat, k ≤ 4 ∧ i = .int .i64 k ∧ v = .int .i64 ((lenN a k : Nat) : Int)) (fun _ i => 4 - (intOf i).toNat)
  case atStart => exact ⟨0, by omega, rfl, rfl⟩
  case round =>
    obtain ⟨k, hk, rfl, rfl⟩ := hrel
    by_cases hlt : k < 4
    · have hix := HI.out k hlt
      have hl := lenN_le a k
      have HS := hid (show lenN a (k + 1) = lenN a k + cnt 64 (wd a k) from rfl)
      have hc := cnt_le 64 (wd a k)
      have HO := hid (fun W => ones_any (wd a k) (wd_lt a k) W)
      generalize wd a k = x at *
      generalize cnt 64 x = y at *
      generalize lenN a k = z at *
      go_wp2_with (go_at_call 37; refine (HO.out _).mono ?_; rintro e w' ⟨rfl, rfl⟩)
      go_round
      case rel => exact ⟨k + 1, by omega, by go_num, by rw [HS.out]; go_num⟩
      case measure => simp [intOf]; omega
    · obtain rfl : k = 4 := by omega
      have HE := hid (lenN_four a)
      go_wp2
      go_ret
      exact ⟨by rw [HE.out]; rfl, hb⟩
end Go.Proofs.YtbpgfphilcjmdaaDoor
