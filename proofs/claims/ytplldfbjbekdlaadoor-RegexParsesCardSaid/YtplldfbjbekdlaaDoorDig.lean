/- wide.Digits. -/
import Derived.Test.YtplldfbjbekdlaaDoorWd
import Derived.Test.YtplldfbjbekdlaaDoorDMath
import Derived.Test.YtplldfbjbekdlaaDoorMem
import Derived.Deep.Cut
namespace Go.Proofs.YtplldfbjbekdlaaDoor
open Go.RowKit

/-- The digits' row behind k rounds. -/
def digRow (n k : Nat) : List UInt8 := List.replicate (20 - k) 0 ++ lastD n k
theorem digRow_len (n k : Nat) (h : k ≤ 20) : (digRow n k).length = 20 := by simp [digRow, lastD_len]; omega
theorem digRow_set (n k : Nat) (h : k < 20) : (digRow n k).set (19 - k) (UInt8.ofNat (48 + n / 10 ^ k % 10)) = digRow n (k + 1) := by
  unfold digRow
  rw [show 20 - k = (19 - k) + 1 by omega, show 20 - (k + 1) = 19 - k by omega, List.replicate_succ']
  rw [List.append_assoc, List.set_append_right _ _ (by simp)]
  simp [lastD]
theorem digRow_drop (n k : Nat) : (digRow n k).drop (20 - k) = lastD n k := by
  unfold digRow
  rw [List.drop_append_of_le_length (by simp)]
  simp

theorem isB_dig (n k : Nat) : isB (UInt8.ofNat (48 + n / 10 ^ k % 10)) = .int .u8 (48 + (n : Int) / 10 ^ k % 10) := by
  unfold isB
  rw [dig_nat _ (Nat.mod_lt _ (by decide))]
  simp

theorem run_digs (g j : Nat) (hj : j < 20) (w : World) :
    (Instr.sliceAt 98 (.pointer (some ⟨g, 0, none⟩)) (some (.int .i64 (j : Int))) none none).run Tryd.prog w = .ok (.slice (some ⟨g, j, none⟩) (20 - j) (20 - j)) w := by
  have hs : (sizeOf 5).run Tryd.prog w = .ok 1 w := by kernel_rfl
  have h1 : ¬ 20 = j := by omega
  have h2 : j ≤ 20 := by omega
  have h3 : (⟨g, 0, none⟩ : Addr).add j = ⟨g, j, none⟩ := by unfold Addr.add; split <;> simp_all
  simp [Instr.sliceAt, run_underlying Tryd.underlying98, Instr.sureAddr, Instr.sliceBounds, Instr.sliceBound, asIntOf, hs, h1, h2, h3]

theorem rdB_tail {w : World} {g : Nat} {t : TypeId} {l : List UInt8} (h : Blk w g t (l.map isB)) (m : Nat) (_hm : m ≤ l.length) : RdB w (some ⟨g, m, none⟩) (l.length - m) (l.drop m) := by
  refine ⟨by simp, fun _ => ⟨g, m, rfl, h.lt, fun j hj => ?_⟩⟩
  rw [h.at]
  have : m + j < l.length := by simp at hj; omega
  simp [this, isB]

theorem digits_any (n : Nat) (hn : n < 18446744073709551616) (w : World) :
    Calls Tryd.prog 58 #[.int .u64 n] w fun e w' => ∃ k, IsLen n k ∧ k ≤ 20 ∧ e = .returned (.string ⟨(lastD n k).toArray⟩) ∧ Below w.heap.size w w' := by
  go_enter Tryd.func58, Tryd.ntmps58
  go_wp2
  go_loopw [0, 4] (fun v i wr => ∃ k q : Nat, k < 20 ∧ i = .int .i64 ((20 - k : Nat) : Int) ∧ v = .int .u64 q ∧ q = n / 10 ^ k ∧ (k = 0 ∨ 0 < q) ∧ Blk wr w.heap.size 98 ((digRow n k).map isB) ∧ Below w.heap.size w wr) (fun _ i _ => (intOf i).toNat)
  case atStart =>
    refine ⟨0, n, by omega, rfl, rfl, by simp, .inl rfl, ?_, (Below.refl _ _).alloc (Nat.le_refl _) _⟩
    exact Blk.fresh w _ _
  case round =>
    obtain ⟨k, q, hk, rfl, rfl, hq, h0, hG, hB⟩ := hrel
    have hql : q ≤ n := by rw [hq]; exact Nat.div_le_self _ _
    obtain ⟨j, hj, hj20⟩ : ∃ j : Nat, 20 - k = j + 1 ∧ 19 - k = j := ⟨19 - k, by omega, rfl⟩
    have hG' := hG.put (19 - k) (isB (UInt8.ofNat (48 + n / 10 ^ k % 10)))
    rw [← List.map_set, digRow_set n k hk] at hG'
    rw [hj20] at hG'
    have hfr := hG.free j
    have hck : ∃ u, wr.cell? ⟨w.heap.size, j, none⟩ = some u := ⟨_, (hG.at j).trans (List.getElem?_eq_getElem (by rw [List.length_map, digRow_len _ _ (by omega)]; omega))⟩
    obtain ⟨u, hu⟩ := hck
    have HG := hid hG'
    have HQ := hid hq
    have HJ := hid hj
    have hjlt : j < 20 := by omega
    rw [hj]
    clear hq hG' hG hj hj20
    have HW := hid (show IntKind.u64.wrap ((q : Int) / 10) = ((q / 10 : Nat) : Int) by
      rw [show ((q : Int) / 10) = ((q / 10 : Nat) : Int) by omega]
      exact wrapN _ (by omega))
    have HW' := hid (show ((q : Int) / 10) = ((q / 10 : Nat) : Int) by omega)
    have HQ' := hid (show (n : Int) / 10 ^ k % 10 = (q : Int) % 10 by rw [HQ.out]; simp)
    have H0 := hid h0
    have HN := hid hn
    clear hql hn h0
    go_upto_region 6 with (fail)
    rw [HW.out]
    by_cases hz : q / 10 = 0
    · rw [hz]
      have hD : RdB (wr.setCell ⟨w.heap.size, j, none⟩ (isB (UInt8.ofNat (48 + n / 10 ^ k % 10)))) (some ⟨w.heap.size, j, none⟩) (20 - j) (lastD n (k + 1)) := by
        have h1 := rdB_tail HG.out j (by rw [digRow_len _ _ (by omega)]; omega)
        rw [digRow_len _ _ (by omega)] at h1
        have h2 := digRow_drop n (k + 1)
        rw [show 20 - (k + 1) = j by have := HJ.out; omega] at h2
        rw [h2] at h1
        exact h1
      have HS := hid (run_str hD (20 - j))
      rw [isB_dig, HQ'.out] at HS
      have hs1 := run_digs w.heap.size j hjlt
      have hs2 := HS.out
      have HL := hid (show IsLen n (k + 1) by
        have e : n / 10 ^ k / 10 = 0 := by rw [← HQ.out]; exact hz
        rw [Nat.div_div_eq_div_mul, ← Nat.pow_succ] at e
        have hp : 0 < 10 ^ (k + 1) := Nat.pow_pos (by decide)
        refine ⟨by omega, ?_, ?_⟩
        · exact Nat.lt_of_div_eq_zero hp e
        · rcases H0.out with h | h
          · left; omega
          · right
            rw [HQ.out] at h
            rw [Nat.add_sub_cancel]
            have := (Nat.le_div_iff_mul_le (Nat.pow_pos (n := k) (show 0 < 10 by decide))).1 h
            omega)
      clear HW HW' hz HS hD
      go_wp2
      go_ret
      exact ⟨k + 1, HL.out, by omega, rfl, hB.setCell (Nat.le_refl _) _⟩
    · have hzp : 0 < q / 10 := by omega
      have HK := hid (show q / 10 = n / 10 ^ (k + 1) by rw [HQ.out, Nat.div_div_eq_div_mul, ← Nat.pow_succ])
      have HK2 := hid (show k + 1 < 20 by
        have h1 := HK.out
        rcases Nat.lt_or_ge (k + 1) 20 with h | h
        · exact h
        · have h2 := Nat.pow_le_pow_right (show 10 > 0 by decide) h
          have h3 : n / 10 ^ (k + 1) = 0 := Nat.div_eq_of_lt (Nat.lt_of_lt_of_le (Nat.lt_trans HN.out (by decide)) h2)
          omega)
      clear hz HW HW'
      generalize q / 10 = z at *
      go_wp2
      go_roundw
      case rel =>
        have hJ := HJ.out
        rw [show (j : Int) = ((20 - (k + 1) : Nat) : Int) by omega] at *
        exact ⟨k + 1, z, HK2.out, rfl, rfl, HK.out, .inr hzp, by have := HG.out; rw [isB_dig, HQ'.out] at this; exact this, hB.setCell (Nat.le_refl _) _⟩
      case measure => simp [intOf]
end Go.Proofs.YtplldfbjbekdlaaDoor
