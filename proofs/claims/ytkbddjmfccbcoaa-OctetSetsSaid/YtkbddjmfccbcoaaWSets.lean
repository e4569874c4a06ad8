/- The walk of the law OctetSets. -/
import Derived.Test.YtkbddjmfccbcoaaReads
namespace Go.Proofs.Ytkbddjmfccbcoaa
open Go.RowKit

theorem octetSets_law {w : World} {A A2 : Option Addr} {n c n2 c2 : Nat} {l l2 : List UInt8} (i : Int) (hR : RdB w A n l) (hn : n ≤ c) (_hc : c ≤ 9223372036854775807) (hR2 : RdB w A2 n2 l2) (hn2 : n2 ≤ 9223372036854775807) (hi : i ≤ 9223372036854775807) :
    Calls Try.prog 7 #[.slice A n c, .int .i64 i, .slice A2 n2 c2] w fun e w' => e = .returned (.bool true) ∧ Below w.heap.size w w' := by
  by_cases h500 : 500 < n
  · have d0 : decide ((500 : Int) < n) = true := by simp; omega
    go_enter Try.func7, Try.ntmps7
    go_wp2_with (go_at_call 15; refine (reads_any _).mono ?_; rintro e w1 ⟨rfl, hb1⟩)
    go_ret
    exact ⟨rfl, hb1⟩
  have d0 : decide ((500 : Int) < n) = false := by simp; omega
  by_cases h500' : 500 < n2
  · have d1 : decide ((500 : Int) < n2) = true := by simp; omega
    go_enter Try.func7, Try.ntmps7
    go_wp2_with (go_at_call 15; refine (reads_any _).mono ?_; rintro e w1 ⟨rfl, hb1⟩)
    go_ret
    exact ⟨rfl, hb1⟩
  have d1 : decide ((500 : Int) < n2) = false := by simp; omega
  have HL := hid hR.1
  have HL2 := hid hR2.1
  go_enter Try.func7, Try.ntmps7
  go_wp2_with (go_at_call 15; refine (reads_any _).mono ?_; rintro e w1 ⟨rfl, hb1⟩)
  go_wp2_with fail
  refine (write_wt 500 w.heap.size (by omega) hb1.size).mono ?_
  rintro e w2 ⟨p, rfl, hW2, hb2, hp⟩
  have hb2' := hb1.trans (hb2.mono hb1.size)
  go_wp2_with fail
  refine (add_ok hW2 A n c l (hR.below hb2') (by simp; omega) (by simp; omega)).mono ?_
  rintro e w3 ⟨rfl, A3, c3, hW3, hC3, hO3⟩
  have hb3 := Chg.below hb2' hC3 hb2'.size hW2.ge
  rw [List.nil_append] at hW3
  clear hW2 hC3 hO3 hb2 hp
  by_cases hbad : i < 0 ∨ (n : Int) < i ∨ (n : Int) - i < n2
  · go_wp2_with fail
    refine (set_no hW3 i A2 n2 c2 (by rw [HL.out]; exact hbad) hn2 hi).mono ?_
    rintro e w4 ⟨rfl, rfl⟩
    go_wp2_with fail
    refine (bytes_at hW3 (by rw [HL.out]; omega)).mono ?_
    rintro e w4 ⟨g, rfl, hG, hb4, hg⟩
    have hb4' := hb3.trans (hb4.mono hb3.size)
    have hs1 := run_str (RdB.of_blk hG) l.length
    have hs2 := run_str (hR.below hb4') c
    clear hG hb4 hg hW3 hb3 hb2'
    by_cases h0 : i < 0
    · have e0 : decide (i < 0) = true := by simp [h0]
      go_wp2
      go_ret
      exact ⟨rfl, hb4'⟩
    · have e0 : decide (i < 0) = false := by simp [h0]
      have h0' : 0 ≤ i := by omega
      by_cases h1 : (n : Int) < i
      · have e1 : decide ((n : Int) < i) = true := by simp [h1]
        go_wp2
        go_ret
        exact ⟨rfl, hb4'⟩
      · have e1 : decide ((n : Int) < i) = false := by simp [h1]
        have e2 : decide ((n : Int) - i < n2) = true := by simp; omega
        go_wp2
        go_ret
        exact ⟨rfl, hb4'⟩
  · obtain ⟨j, rfl⟩ := Int.eq_ofNat_of_zero_le (show 0 ≤ i by omega)
    have hj : j + n2 ≤ n := by omega
    have e0 : decide ((j : Int) < 0) = false := by simp
    have e1 : decide ((n : Int) < j) = false := by simp; omega
    have e2 : decide ((n : Int) - j < n2) = false := by simp; omega
    have hll := laid_len l l2 j (by rw [HL.out, HL2.out]; exact hj)
    go_wp2_with fail
    refine (set_ok hW3 j A2 n2 c2 l2 (hR2.below hb3) (by rw [HL.out]; exact hj)).mono ?_
    rintro e w4 ⟨rfl, hW4, hC4⟩
    have hb4 := Chg.below hb3 hC4 hb3.size hW3.ge
    go_wp2_with fail
    refine (bytes_at hW4 (by rw [hll, HL.out]; omega)).mono ?_
    rintro e w5 ⟨g, rfl, hG, hb5, hg⟩
    have hb5' := hb4.trans (hb5.mono hb4.size)
    have hs1 := run_strN (RdB.of_blk hG) (laid l l2 j).length
    have hs2 := run_strN (hR2.below hb5') c2
    have hR' := hR.below hb5'
    have hs3 := run_strN (hR'.front j (by omega)) c
    have hs4 := run_strN (hR'.back (j + n2) c hj hn) (c - (j + n2))
    have hsl1 := run_sliceB_to A n c j (by omega)
    have hsl2 := run_sliceB_from A n c (j + n2) hj
    generalize (if c = j + n2 then A else A.map (·.add (j + n2))) = X at hs4 hsl2
    rw [Int.natCast_add] at hsl2
    have hleq : (((laid l l2 j).length : Int) == (n : Int)) = true := by rw [hll, HL.out]; simp
    have hF : laid l l2 j = l.take j ++ l2 ++ l.drop (j + n2) := by unfold laid; rw [HL2.out, List.append_assoc]
    have hl1 : (l.take j).length ≤ 500 := by simp; have := HL.out; omega
    have hl3 : (l.drop (j + n2)).length ≤ 500 := by simp; have := HL.out; omega
    have hl2 : l2.length ≤ 500 := by have := HL2.out; omega
    have hz1 : (⟨(l.take j).toArray⟩ : ByteArray).size ≤ 500 := hl1
    have hz2 : (⟨l2.toArray⟩ : ByteArray).size ≤ 500 := hl2
    have hz3 : (⟨(l.drop (j + n2)).toArray⟩ : ByteArray).size ≤ 500 := hl3
    have hS : (⟨(laid l l2 j).toArray⟩ : ByteArray) = ⟨(l.take j).toArray⟩ ++ ⟨l2.toArray⟩ ++ ⟨(l.drop (j + n2)).toArray⟩ := by
      rw [hF]
      apply ByteArray.ext
      simp
    rw [hll] at hleq hs1
    rw [hll]
    rw [hS] at hs1
    clear hG hb5 hg hW4 hW3 hb3 hb2' hll hC4 hb4 hF hl1 hl2 hl3 hR' hR hR2 hS
    generalize (⟨(l.take j).toArray⟩ : ByteArray) = S1 at *
    generalize (⟨l2.toArray⟩ : ByteArray) = S2 at *
    generalize (⟨(l.drop (j + n2)).toArray⟩ : ByteArray) = S3 at *
    have hz4 : S1.size + S2.size ≤ 9223372036854775807 := by omega
    have hz5 : (S1 ++ S2).size + S3.size ≤ 9223372036854775807 := by rw [ByteArray.size_append]; omega
    go_wp2
    go_quiet (fail)
    go_wp2
    go_ret
    exact ⟨rfl, below_drewN hb5' _⟩
end Go.Proofs.Ytkbddjmfccbcoaa
