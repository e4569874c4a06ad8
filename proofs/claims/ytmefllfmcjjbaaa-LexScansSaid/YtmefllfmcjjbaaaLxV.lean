/- lex: the reference's Front of numbers. -/
import Derived.Test.YtmefllfmcjjbaaaLxU
namespace Go.Proofs.Ytmefllfmcjjbaaa
open Go.RowKit
set_option linter.unusedSimpArgs false
set_option linter.unusedVariables false

set_option maxRecDepth 100000 in
set_option maxHeartbeats 4000000 in
theorem fr_num (s : ByteArray) (c : UInt8) (t : List UInt8) (hs : s.data.toList = c :: t) (hsz : s.size ≤ 65536) (hl : letN c.toNat = false) (hdd : digN c.toNat = true) (w : World) :
    Calls Try.prog 19 #[.string s] w (FrR (if 20 < span digB (c :: t) then .error 2 else if 1 < span digB (c :: t) ∧ c.toNat = 48 then .error 5 else .ok (2, (c :: t).take (span digB (c :: t)), span digB (c :: t))) w) := by
  have hlen : s.data.toList.length = s.size := rfl
  have h0 : 0 < s.size := by rw [← hlen, hs]; simp
  have hc0 : ((s[0]'h0).toNat : Int) = (c.toNat : Int) := by
    have : (s[0]'h0) = s.data.toList[0]'(by rw [hlen]; exact h0) := rfl
    rw [this]
    simp only [hs, List.getElem_cons_zero]
  have HLc := hid (fun W => Letter_any c.toNat W)
  have HDc := hid (fun W => Digit_any c.toNat W)
  have HF := hid (heap_alloc_new w (.cells zeroK 34))
  have HB := hid ((Below.refl w.heap.size w).alloc (Nat.le_refl _) (.cells zeroK 34))
  rw [hl] at HLc
  rw [hdd] at HDc
  obtain ⟨N, hN⟩ : ∃ N, N = span digB (c :: t) := ⟨_, rfl⟩
  have hNl : N ≤ s.size := by rw [hN, ← hlen, hs]; exact span_le _ _
  have HR := hid (show (⟨((c :: t).take N).toArray⟩ : ByteArray) = s.extract 0 N by
    rw [mid_str s 0 N (Nat.zero_le _) hNl, hs]; rfl)
  have HN := hid (show N = 0 + span digB (s.data.toList.drop 0) by rw [List.drop_zero, hs, hN]; omega)
  rw [← hN]
  obtain ⟨P, hP⟩ : ∃ P : Except Nat (Nat × List UInt8 × Nat), P = if 20 < N then .error 2 else if 1 < N ∧ c.toNat = 48 then .error 5 else .ok (2, (c :: t).take N, N) := ⟨_, rfl⟩
  rw [← hP]
  have HP := hid hP
  clear hN hl hdd hs hP
  go_enter Try.func19, Try.ntmps19
  go_upto_region 1 with (fail)
  change Code.wp _ _ _ _ (w.alloc (.cells zeroK 34))
  generalize w.alloc (.cells zeroK 34) = w1 at *
  go_wp2_with fail
  refine (HLc.out _).mono ?_
  rintro e w2 ⟨rfl, hw2⟩
  rw [hw2]
  clear HLc hw2 w2
  go_wp2_with fail
  refine (HDc.out _).mono ?_
  rintro e w2 ⟨rfl, hw2⟩
  rw [hw2]
  clear HDc hw2 w2
  go_wp2_with fail
  go_loopg [5] (s.size + 1) (fun m i wr => ∃ j : Nat, j ≤ s.size ∧ s.size < m + j ∧ i = .int .i64 (j : Int) ∧ Hid (N = j + span digB (s.data.toList.drop j)) ∧ wr = w1)
  case atStart => exact ⟨0, by omega, by omega, rfl, HN, rfl⟩
  case round =>
    clear HN
    obtain ⟨j, hj, hm, rfl, HN, rfl⟩ := hrel
    obtain ⟨m, rfl⟩ : ∃ m, gk = m + 1 := ⟨gk - 1, by omega⟩
    rcases Nat.lt_or_ge j s.size with hlt | hge
    · have hlt2 : j < s.data.toList.length := hlt
      have n1 : (j : Int) < (s.size : Int) := by omega
      obtain ⟨x, hx⟩ : ∃ x, x = (s.data.toList[j]'hlt2).toNat := ⟨_, rfl⟩
      have hx1 : ((s[j]'hlt).toNat : Int) = (x : Int) := by rw [hx]; rfl
      have HD := hid (fun W => Digit_any x W)
      have hw : wrap64 ((j : Int) + 1) = (j : Int) + 1 := by unfold wrap64; omega
      have hpx : digB (s.data.toList[j]'hlt2) = digN x := by unfold digB; rw [hx]
      have hsp := span_at (p := digB) hlt2
      rw [hpx] at hsp
      clear hx hpx
      cases e2 : digN x with
      | true =>
        rw [e2] at HD hsp
        have HN2 := hid (show N = (j + 1) + span digB (s.data.toList.drop (j + 1)) by rw [HN.out, hsp, if_pos (by simp)]; omega)
        clear e2 hsp HN hlt2
        go_wp2_with (go_at_call 39; refine (HD.out _).mono ?_; rintro e w3 ⟨rfl, rfl⟩)
        go_roundg m
        case measure => omega
        case rel => exact ⟨j + 1, by omega, by omega, by go_num, HN2, rfl⟩
      | false =>
        rw [e2] at HD hsp
        have HN2 := hid (show N = j by rw [HN.out, hsp, if_neg (by simp)]; omega)
        clear e2 hsp HN hlt2 hw
        obtain rfl := HN2.out
        have hwN : (N : Int) ≤ (s.size : Int) := by omega
        by_cases h20 : 20 < N
        · have HP2 := hid (show P = .error 2 by rw [HP.out, if_pos h20])
          have e20 : (20 : Int) < ((N : Nat) : Int) := by omega
          clear HP
          go_wp2_with (first
            | (go_at_call 39; refine (HD.out _).mono ?_; rintro e w3 ⟨rfl, rfl⟩)
            | (refine wpList_store_row rfl 34 _ _ rfl w.heap.size zeroK ?_ ?_ 34 zeroK HF.out (tkr_size _ rfl) ?_ (by simp [Value.oneCell', zeroK]) ?_; exact rfl; exact rfl; exact rfl))
          rw [HP2.out]
          exact bodyPost_ret (v := .tuple #[.agg zeroK, .int .i64 0, .int .i64 2]) (results_cell_tmp2 (P := Try.prog) (fn := Try.f19) rfl _ _ w.heap.size 34 _ (0, 0) _ rfl (setRow_heap _ _ _ _ _ (0, 0) HF.out) Try.underlying34 rfl (tkr_size _ rfl)) rfl ⟨below_row HB.out (Nat.le_refl _) _, rfl⟩
        · have e20 : ¬ (20 : Int) < ((N : Nat) : Int) := by omega
          by_cases h1 : 1 < N
          · have e1 : (1 : Int) < ((N : Nat) : Int) := by omega
            by_cases h48 : c.toNat = 48
            · have HP2 := hid (show P = .error 5 by rw [HP.out, if_neg h20, if_pos ⟨h1, h48⟩])
              have h48' : ((c.toNat : Nat) : Int) = 48 := by omega
              clear HP h48
              go_wp2_with (first
                | (go_at_call 39; refine (HD.out _).mono ?_; rintro e w3 ⟨rfl, rfl⟩)
                | (refine wpList_store_row rfl 34 _ _ rfl w.heap.size zeroK ?_ ?_ 34 zeroK HF.out (tkr_size _ rfl) ?_ (by simp [Value.oneCell', zeroK]) ?_; exact rfl; exact rfl; exact rfl))
              rw [HP2.out]
              exact bodyPost_ret (v := .tuple #[.agg zeroK, .int .i64 0, .int .i64 5]) (results_cell_tmp2 (P := Try.prog) (fn := Try.f19) rfl _ _ w.heap.size 34 _ (0, 0) _ rfl (setRow_heap _ _ _ _ _ (0, 0) HF.out) Try.underlying34 rfl (tkr_size _ rfl)) rfl ⟨below_row HB.out (Nat.le_refl _) _, rfl⟩
            · have HP2 := hid (show P = .ok (2, (c :: t).take N, N) by rw [HP.out, if_neg h20, if_neg (fun h => h48 h.2)])
              have h48' : ¬ ((c.toNat : Nat) : Int) = 48 := by omega
              clear HP h48
              go_wp2_with (first
                | (go_at_call 39; refine (HD.out _).mono ?_; rintro e w3 ⟨rfl, rfl⟩)
                | (refine wpList_store_row rfl 34 _ _ rfl w.heap.size #[.int .i64 2, .int .i64 0, .string (s.extract 0 N)] ?_ ?_ 34 zeroK HF.out (tkr_size _ rfl) ?_ (by simp [Value.oneCell', zeroK]) ?_; exact rfl; exact rfl; exact rfl))
              rw [HP2.out]
              exact bodyPost_ret (v := .tuple #[.agg #[.int .i64 2, .int .i64 0, .string (s.extract 0 N)], .int .i64 ((N : Nat) : Int), .int .i64 0]) (results_cell_tmp2 (P := Try.prog) (fn := Try.f19) rfl _ _ w.heap.size 34 _ (0, 0) _ rfl (setRow_heap _ _ _ _ _ (0, 0) HF.out) Try.underlying34 rfl (tkr_size _ rfl)) rfl ⟨below_row HB.out (Nat.le_refl _) _, by rw [← HR.out]; rfl⟩
          · have e1 : ¬ (1 : Int) < ((N : Nat) : Int) := by omega
            have HP2 := hid (show P = .ok (2, (c :: t).take N, N) by rw [HP.out, if_neg h20, if_neg (fun h => h1 h.1)])
            clear HP
            go_wp2_with (first
              | (go_at_call 39; refine (HD.out _).mono ?_; rintro e w3 ⟨rfl, rfl⟩)
              | (refine wpList_store_row rfl 34 _ _ rfl w.heap.size #[.int .i64 2, .int .i64 0, .string (s.extract 0 N)] ?_ ?_ 34 zeroK HF.out (tkr_size _ rfl) ?_ (by simp [Value.oneCell', zeroK]) ?_; exact rfl; exact rfl; exact rfl))
            rw [HP2.out]
            exact bodyPost_ret (v := .tuple #[.agg #[.int .i64 2, .int .i64 0, .string (s.extract 0 N)], .int .i64 ((N : Nat) : Int), .int .i64 0]) (results_cell_tmp2 (P := Try.prog) (fn := Try.f19) rfl _ _ w.heap.size 34 _ (0, 0) _ rfl (setRow_heap _ _ _ _ _ (0, 0) HF.out) Try.underlying34 rfl (tkr_size _ rfl)) rfl ⟨below_row HB.out (Nat.le_refl _) _, by rw [← HR.out]; rfl⟩
    · obtain rfl : j = s.size := by omega
      have HN2 := hid (show N = s.size by rw [HN.out, span_end (show s.data.toList.length ≤ s.size from Nat.le_refl _)]; omega)
      clear HN
      have hN := HN2.out
      subst hN
      have HRs := hid (HR.out.trans (ext_full s))
      by_cases h20 : 20 < s.size
      · have HP2 := hid (show P = .error 2 by rw [HP.out, if_pos h20])
        have e20 : (20 : Int) < ((s.size : Nat) : Int) := by omega
        clear HP
        go_wp2_with (refine wpList_store_row rfl 34 _ _ rfl w.heap.size zeroK ?_ ?_ 34 zeroK HF.out (tkr_size _ rfl) ?_ (by simp [Value.oneCell', zeroK]) ?_; exact rfl; exact rfl; exact rfl)
        rw [HP2.out]
        exact bodyPost_ret (v := .tuple #[.agg zeroK, .int .i64 0, .int .i64 2]) (results_cell_tmp2 (P := Try.prog) (fn := Try.f19) rfl _ _ w.heap.size 34 _ (0, 0) _ rfl (setRow_heap _ _ _ _ _ (0, 0) HF.out) Try.underlying34 rfl (tkr_size _ rfl)) rfl ⟨below_row HB.out (Nat.le_refl _) _, rfl⟩
      · have e20 : ¬ (20 : Int) < ((s.size : Nat) : Int) := by omega
        by_cases h1 : 1 < s.size
        · have e1 : (1 : Int) < ((s.size : Nat) : Int) := by omega
          by_cases h48 : c.toNat = 48
          · have HP2 := hid (show P = .error 5 by rw [HP.out, if_neg h20, if_pos ⟨h1, h48⟩])
            have h48' : ((c.toNat : Nat) : Int) = 48 := by omega
            clear HP h48
            go_wp2_with (refine wpList_store_row rfl 34 _ _ rfl w.heap.size zeroK ?_ ?_ 34 zeroK HF.out (tkr_size _ rfl) ?_ (by simp [Value.oneCell', zeroK]) ?_; exact rfl; exact rfl; exact rfl)
            rw [HP2.out]
            exact bodyPost_ret (v := .tuple #[.agg zeroK, .int .i64 0, .int .i64 5]) (results_cell_tmp2 (P := Try.prog) (fn := Try.f19) rfl _ _ w.heap.size 34 _ (0, 0) _ rfl (setRow_heap _ _ _ _ _ (0, 0) HF.out) Try.underlying34 rfl (tkr_size _ rfl)) rfl ⟨below_row HB.out (Nat.le_refl _) _, rfl⟩
          · have HP2 := hid (show P = .ok (2, (c :: t).take s.size, s.size) by rw [HP.out, if_neg h20, if_neg (fun h => h48 h.2)])
            have h48' : ¬ ((c.toNat : Nat) : Int) = 48 := by omega
            clear HP h48
            go_wp2_with (refine wpList_store_row rfl 34 _ _ rfl w.heap.size #[.int .i64 2, .int .i64 0, .string s] ?_ ?_ 34 zeroK HF.out (tkr_size _ rfl) ?_ (by simp [Value.oneCell', zeroK]) ?_; exact rfl; exact rfl; exact rfl)
            rw [HP2.out]
            exact bodyPost_ret (v := .tuple #[.agg #[.int .i64 2, .int .i64 0, .string s], .int .i64 ((s.size : Nat) : Int), .int .i64 0]) (results_cell_tmp2 (P := Try.prog) (fn := Try.f19) rfl _ _ w.heap.size 34 _ (0, 0) _ rfl (setRow_heap _ _ _ _ _ (0, 0) HF.out) Try.underlying34 rfl (tkr_size _ rfl)) rfl ⟨below_row HB.out (Nat.le_refl _) _, by dsimp only; rw [HRs.out]; rfl⟩
        · have e1 : ¬ (1 : Int) < ((s.size : Nat) : Int) := by omega
          have HP2 := hid (show P = .ok (2, (c :: t).take s.size, s.size) by rw [HP.out, if_neg h20, if_neg (fun h => h1 h.1)])
          clear HP
          go_wp2_with (refine wpList_store_row rfl 34 _ _ rfl w.heap.size #[.int .i64 2, .int .i64 0, .string s] ?_ ?_ 34 zeroK HF.out (tkr_size _ rfl) ?_ (by simp [Value.oneCell', zeroK]) ?_; exact rfl; exact rfl; exact rfl)
          rw [HP2.out]
          exact bodyPost_ret (v := .tuple #[.agg #[.int .i64 2, .int .i64 0, .string s], .int .i64 ((s.size : Nat) : Int), .int .i64 0]) (results_cell_tmp2 (P := Try.prog) (fn := Try.f19) rfl _ _ w.heap.size 34 _ (0, 0) _ rfl (setRow_heap _ _ _ _ _ (0, 0) HF.out) Try.underlying34 rfl (tkr_size _ rfl)) rfl ⟨below_row HB.out (Nat.le_refl _) _, by dsimp only; rw [HRs.out]; rfl⟩
end Go.Proofs.Ytmefllfmcjjbaaa
