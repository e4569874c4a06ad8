/- The walk of LebMeters. -/
import Derived.Test.YtkbddjmfccbcoaaFolds
import Derived.Test.YtkbddjmfccbcoaaRef
namespace Go.Proofs.Ytkbddjmfccbcoaa
open Go.RowKit

set_option maxHeartbeats 1000000 in
theorem lebMeters_law {w : World} {A : Option Addr} {n c : Nat} {l : List UInt8} (lenient : Bool) (hR : RdB w A n l) (hn : n ≤ 9223372036854775807) :
    Calls Try.prog 10 #[.slice A n c, .bool lenient] w fun e w' => e = .returned (.bool true) ∧ Below w.heap.size w w' := by
  by_cases h200 : 200 < n
  · go_enter Try.func10, Try.ntmps10
    go_wp2_with (go_at_call 34; refine (folds_any _).mono ?_; rintro e w1 ⟨rfl, hb1⟩)
    go_ret
    exact ⟨rfl, hb1⟩
  · obtain ⟨v, m, code, hS⟩ := rd_some l lenient
    have hS' := hS
    obtain ⟨k, hk9, ⟨hkl, hL⟩, hcase⟩ := hS
    have HL := hid hL
    have HC := hid hcase
    have HLen := hid hR.1
    have hkn : k ≤ n := by rw [← hR.1]; exact hkl
    clear hL hcase hkl
    go_enter Try.func10, Try.ntmps10
    go_wp2_with (go_at_call 34; refine (folds_any _).mono ?_; rintro e w1 ⟨rfl, hb1⟩)
    go_wp2_with fail
    refine (refread_ok (hR.below hb1) hn hS').mono ?_
    rintro e w2 ⟨rfl, rfl⟩
    have hM0 : Mtr (w1.alloc (.cells #[.bool lenient, .int .u64 0, .int .i64 0] 64)) w1.heap.size lenient 0 0 := Blk.fresh w1 _ [_, _, _]
    have hB0 : Below w.heap.size w (w1.alloc (.cells #[.bool lenient, .int .u64 0, .int .i64 0] 64)) := hb1.alloc hb1.size _
    have hq : w.heap.size ≤ w1.heap.size := hb1.size
    clear hS' hn
    go_wp2
    go_loopw [29] (fun i wr => ∃ j : Nat, j ≤ k ∧ i = .int .i64 j ∧ Mtr wr w1.heap.size lenient (vSum (l.take j)) j ∧ Below w.heap.size w wr) (fun i _ => 10 - (intOf i).toNat)
    case atStart => exact ⟨0, Nat.zero_le _, rfl, hM0, hB0⟩
    case round =>
      obtain ⟨j, hj, rfl, hM, hB⟩ := hrel
      have hRr := hR.below hB
      by_cases hlt : j < k
      · obtain ⟨b, o, rfl, hbb, hc⟩ := hRr.2 (by omega)
        have hjl : j < l.length := by rw [HLen.out]; omega
        have hck := hc j hjl
        clear hc
        have h128 := HL.out j hjl hlt
        have hvl := vSum_take_lt l j (by omega)
        have hvs := vSum_take l j hjl
        have HVS := hid hvs
        have HVL := hid hvl
        clear hvs hvl
        have hf : decide (((l[j]'hjl).toNat : Int) < 128) = false := by simp; omega
        have HF := hid hf
        have H9 := hid (show j = 9 → (l[j]'hjl).toNat ≤ 1 by omega)
        have HN0 := hid (show ¬ ((l[j]'hjl).toNat = 0 ∧ 0 < j ∧ lenient = false) by omega)
        clear hf h128
        have hjn : j < n := by omega
        go_wp2_with fail
        refine (step_ok hM (l[j]'hjl) (by omega) HVL.out H9.out HN0.out).mono ?_
        rintro e w3 ⟨rfl, hM3, hg3⟩
        rw [HF.out]
        rw [← HVS.out] at hM3
        have hB3 := below_grown hB hg3 hB.size hq
        clear hB hM hg3 hRr
        go_wp2
        go_roundw
        case rel => exact ⟨j + 1, by omega, by go_num, hM3, hB3⟩
        case measure => simp [intOf]; omega
      · obtain rfl : j = k := by omega
        rcases HC.out with ⟨rfl, ⟨h9, hb⟩, rfl, rfl, rfl⟩ | ⟨hk, rfl, rfl, rfl⟩ | ⟨⟨hk, hb⟩, h0, rfl, rfl, rfl, rfl⟩ | ⟨⟨hk, hb, hb9, hbc⟩, hv, rfl, rfl⟩
        · obtain ⟨b, o, rfl, hbb, hc⟩ := hRr.2 (by omega)
          have hck := hc 9 h9
          clear hc
          have h9n : 9 < n := by rw [← HLen.out]; exact h9
          have HB0 := hid hb
          clear hb
          go_wp2_with fail
          refine (step_var hM (l[9]'h9) (.inr ⟨rfl, HB0.out⟩)).mono ?_
          rintro e w3 ⟨rfl, rfl⟩
          go_wp2
          go_ret
          exact ⟨rfl, hB⟩
        · have hkn' : j = n := by rw [← HLen.out]; exact hk
          have HK := hid hkn'
          have hge : ¬ j < n := by omega
          clear hk hkn' hkn
          go_wp2_with fail
          refine (count_any hM).mono ?_
          rintro e w3 ⟨rfl, rfl⟩
          rw [HK.out]
          go_wp2
          go_ret
          exact ⟨rfl, hB⟩
        · obtain ⟨b, o, rfl, hbb, hc⟩ := hRr.2 (by rw [HLen.out] at hk; omega)
          have hck := hc j hk
          clear hc
          have hjn : j < n := by rw [← HLen.out]; exact hk
          have HB0 := hid hb
          clear hb
          go_wp2_with fail
          refine (step_canon0 hM (l[j]'hk) HB0.out h0 hk9).mono ?_
          rintro e w3 ⟨rfl, rfl⟩
          go_wp2
          go_ret
          exact ⟨rfl, hB⟩
        · obtain ⟨b, o, rfl, hbb, hc⟩ := hRr.2 (by rw [HLen.out] at hk; omega)
          have hck := hc j hk
          clear hc
          have hjn : j < n := by rw [← HLen.out]; exact hk
          have hvl := vSum_take_lt l j (by omega)
          have hvs := vSum_take l j hk
          rw [← hv] at hvs
          have HVS := hid hvs
          have HVL := hid hvl
          clear hvs hvl hv
          have hf : decide (((l[j]'hk).toNat : Int) < 128) = true := by simp; omega
          have HF := hid hf
          have H9 := hid hb9
          have HN0 := hid hbc
          clear hf hb hb9 hbc
          go_wp2_with fail
          refine (step_ok hM (l[j]'hk) hk9 HVL.out H9.out HN0.out).mono ?_
          rintro e w3 ⟨rfl, hM3, hg3⟩
          rw [HF.out]
          rw [← HVS.out] at hM3
          have hB3 := below_grown hB hg3 hB.size hq
          clear hB hM hg3 hRr
          go_wp2_with fail
          refine (value_any hM3).mono ?_
          rintro e w4 ⟨rfl, rfl⟩
          go_wp2_with fail
          refine (count_any hM3).mono ?_
          rintro e w4 ⟨rfl, rfl⟩
          go_wp2
          go_ret
          exact ⟨rfl, hB3⟩
end Go.Proofs.Ytkbddjmfccbcoaa
