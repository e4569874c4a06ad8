/- lex: the reference's Front of patterns. -/
import Derived.Test.YtmefllfmcjjbaaaLxU
namespace Go.Proofs.Ytmefllfmcjjbaaa
open Go.RowKit
set_option linter.unusedSimpArgs false
set_option linter.unusedVariables false

set_option maxRecDepth 100000 in
set_option maxHeartbeats 4000000 in
theorem fr_pat (s : ByteArray) (c : UInt8) (t : List UInt8) (hs : s.data.toList = c :: t) (hsz : s.size ≤ 65536) (hl : letN c.toNat = false) (hdd : digN c.toNat = false) (h47 : c.toNat = 47) (w : World) :
    Calls Try.prog 19 #[.string s] w (FrR (if (t.drop (span patB t)).head? = some 47 then .ok (3, t.take (span patB t), span patB t + 2) else .error 5) w) := by
  have hlen : s.data.toList.length = s.size := rfl
  have h0 : 0 < s.size := by rw [← hlen, hs]; simp
  have hc0 : ((s[0]'h0).toNat : Int) = (c.toNat : Int) := by
    have : (s[0]'h0) = s.data.toList[0]'(by rw [hlen]; exact h0) := rfl
    rw [this]
    simp only [hs, List.getElem_cons_zero]
  have HLc := hid (fun W => Letter_any c.toNat W)
  have HDc := hid (fun W => Digit_any c.toNat W)
  have HF := hid (heap_alloc_new w (.cells zeroK 34))
  have HB := hid ((Below.refl w.heap.size w).alloc (Nat.le_refl _) (.cells zeroK 34))
  rw [hl] at HLc
  rw [hdd] at HDc
  rw [h47] at hc0 HLc HDc
  have hdr : s.data.toList.drop 1 = t := by rw [hs]; rfl
  obtain ⟨N, hN⟩ : ∃ N, N = span patB t := ⟨_, rfl⟩
  have hts : t.length + 1 = s.size := by rw [← hlen, hs]; rfl
  have hNl : N + 1 ≤ s.size := by rw [hN]; have := span_le patB t; omega
  have HN := hid (show N + 1 = 1 + span patB (s.data.toList.drop 1) by rw [hdr, hN]; omega)
  rw [← hN]
  obtain ⟨P, hP⟩ : ∃ P : Except Nat (Nat × List UInt8 × Nat), P = if (t.drop N).head? = some 47 then .ok (3, t.take N, N + 2) else .error 5 := ⟨_, rfl⟩
  rw [← hP]
  have HP := hid hP
  have HDr := hid (show ∀ j, s.data.toList.drop (j + 1) = t.drop j from fun j => by rw [hs]; rfl)
  clear hN hl hdd hs hP hdr
  go_enter Try.func19, Try.ntmps19
  go_upto_region 1 with (fail)
  change Code.wp _ _ _ _ (w.alloc (.cells zeroK 34))
  generalize w.alloc (.cells zeroK 34) = w1 at *
  go_wp2_with fail
  refine (HLc.out _).mono ?_
  rintro e w2 ⟨rfl, hw2⟩
  rw [hw2]
  clear HLc hw2 w2
  go_wp2_with fail
  refine (HDc.out _).mono ?_
  rintro e w2 ⟨rfl, hw2⟩
  rw [hw2]
  clear HDc hw2 w2
  go_wp2_with fail
  go_loopg [5] (s.size + 1) (fun m i wr => ∃ j : Nat, 1 ≤ j ∧ j ≤ s.size ∧ s.size < m + j ∧ i = .int .i64 (j : Int) ∧ Hid (N + 1 = j + span patB (s.data.toList.drop j)) ∧ wr = w1)
  case atStart => exact ⟨1, by omega, by omega, by omega, rfl, HN, rfl⟩
  case round =>
    clear HN
    obtain ⟨j, hj1, hj, hm, rfl, HN, rfl⟩ := hrel
    obtain ⟨m, rfl⟩ : ∃ m, gk = m + 1 := ⟨gk - 1, by omega⟩
    rcases Nat.lt_or_ge j s.size with hlt | hge
    · have hlt2 : j < s.data.toList.length := hlt
      have n1 : (j : Int) < (s.size : Int) := by omega
      have n2 : ((j : Int) == (s.size : Int)) = false := by simp; omega
      obtain ⟨x, hx⟩ : ∃ x, x = (s.data.toList[j]'hlt2).toNat := ⟨_, rfl⟩
      have hx1 : ((s[j]'hlt).toNat : Int) = (x : Int) := by rw [hx]; rfl
      have HX := hid hx
      clear hx
      have hsp := span_at (p := patB) hlt2
      have hde := drop_eq hlt2
      have hw : wrap64 ((j : Int) + 1) = (j : Int) + 1 := by unfold wrap64; omega
      have HW := hid hw
      clear hw
      by_cases h47x : x = 47
      · have hpf : patB (s.data.toList[j]'hlt2) = false := by unfold patB; rw [← HX.out, h47x]; rfl
        have hNj : N + 1 = j := by rw [HN.out, hsp, if_neg (by rw [hpf]; decide)]; omega
        have hhd : (t.drop N).head? = some 47 := by
          have h := HDr.out N
          rw [hNj, hde] at h
          rw [← h, List.head?_cons]
          congr 1
          exact UInt8.toNat_inj.1 (by rw [← HX.out, h47x]; rfl)
        have HP2 := hid (show P = .ok (3, t.take N, N + 2) by rw [HP.out, if_pos hhd])
        have hjN : j - 1 = N := by clear hsp HN; omega
        have hdr1 : s.data.toList.drop 1 = t := by have h := HDr.out 0; rw [List.drop_zero, Nat.zero_add] at h; exact h
        have HS := hid (show s.extract 1 j = ⟨(t.take N).toArray⟩ from by
          have h := mid_str s 1 j hj1 hj
          rw [hdr1, hjN] at h
          exact h)
        clear hjN hdr1
        have hN2 : ((N + 2 : Nat) : Int) = (j : Int) + 1 := by omega
        have HN2 := hid hN2
        have hx47 : (x : Int) = 47 := by omega
        have b1 : (1 : Int) ≤ (j : Int) := by omega
        have hw := HW.out
        clear hpf hNj hhd hN2 HN hsp hde HX hlt2 HP h47x hts hNl n2 HDr
        go_wp2_with (refine wpList_store_row rfl 34 _ _ rfl w.heap.size #[.int .i64 3, .int .i64 0, .string (s.extract 1 j)] ?_ ?_ 34 zeroK HF.out (tkr_size _ rfl) ?_ (by simp [Value.oneCell', zeroK]) ?_; exact rfl; exact rfl; exact rfl)
        rw [HP2.out]
        exact bodyPost_ret (v := .tuple #[.agg #[.int .i64 3, .int .i64 0, .string (s.extract 1 j)], .int .i64 ((j : Int) + 1), .int .i64 0]) (results_cell_tmp2 (P := Try.prog) (fn := Try.f19) rfl _ _ w.heap.size 34 _ (0, 0) _ rfl (setRow_heap _ _ _ _ _ (0, 0) HF.out) Try.underlying34 rfl (tkr_size _ rfl)) rfl ⟨below_row HB.out (Nat.le_refl _) _, by rw [HS.out, ← HN2.out]; rfl⟩
      · have hx47 : ((x : Int) != 47) = true := by simp; omega
        by_cases hp : 32 ≤ x ∧ x ≤ 126
        · have hpf : patB (s.data.toList[j]'hlt2) = true := by
            unfold patB
            rw [← HX.out]
            simp [hp.1, hp.2, h47x]
          have HN2 := hid (show N + 1 = (j + 1) + span patB (s.data.toList.drop (j + 1)) by rw [HN.out, hsp, if_pos hpf]; omega)
          have l1 : ¬ (x : Int) < 32 := by omega
          have l2 : ¬ (126 : Int) < (x : Int) := by omega
          have hw := HW.out
          clear hpf hp HN hsp hde HX hlt2 h47x hts hNl n2 HDr HP hlen h0 hc0
          go_wp2_with fail
          go_roundg m
          case measure => omega
          case rel => exact ⟨j + 1, by omega, by omega, by omega, by go_num, HN2, rfl⟩
        · have hpf : patB (s.data.toList[j]'hlt2) = false := by
            unfold patB
            rw [← HX.out]
            rcases Nat.lt_or_ge x 32 with h | h
            · simp [show ¬ 32 ≤ x by omega]
            · simp [show ¬ x ≤ 126 by omega]
          have hNj : N + 1 = j := by rw [HN.out, hsp, if_neg (by rw [hpf]; decide)]; omega
          have hhd : ¬ (t.drop N).head? = some 47 := by
            intro he
            have h := HDr.out N
            rw [hNj, hde] at h
            rw [← h, List.head?_cons] at he
            injection he with he
            have hx := HX.out
            rw [he] at hx
            exact h47x (by rw [hx]; rfl)
          have HP2 := hid (show P = .error 5 by rw [HP.out, if_neg hhd])
          have l3 : (decide ((x : Int) < 32) || decide ((126 : Int) < (x : Int))) = true := by
            rcases Nat.lt_or_ge x 32 with h | h
            · rw [decide_eq_true (show (x : Int) < 32 by omega)]; rfl
            · rw [decide_eq_true (show (126 : Int) < (x : Int) by omega)]; simp
          by_cases hx32 : x < 32
          · have l1 : (x : Int) < 32 := by omega
            clear hpf hp HN hsp hde HX hlt2 h47x hhd hNj HP l3
            go_wp2_with (refine wpList_store_row rfl 34 _ _ rfl w.heap.size zeroK ?_ ?_ 34 zeroK HF.out (tkr_size _ rfl) ?_ (by simp [Value.oneCell', zeroK]) ?_; exact rfl; exact rfl; exact rfl)
            rw [HP2.out]
            exact bodyPost_ret (v := .tuple #[.agg zeroK, .int .i64 0, .int .i64 5]) (results_cell_tmp2 (P := Try.prog) (fn := Try.f19) rfl _ _ w.heap.size 34 _ (0, 0) _ rfl (setRow_heap _ _ _ _ _ (0, 0) HF.out) Try.underlying34 rfl (tkr_size _ rfl)) rfl ⟨below_row HB.out (Nat.le_refl _) _, rfl⟩
          · have l1 : ¬ (x : Int) < 32 := by omega
            have l2 : (126 : Int) < (x : Int) := by omega
            clear hpf hp HN hsp hde HX hlt2 h47x hhd hNj HP l3
            go_wp2_with (refine wpList_store_row rfl 34 _ _ rfl w.heap.size zeroK ?_ ?_ 34 zeroK HF.out (tkr_size _ rfl) ?_ (by simp [Value.oneCell', zeroK]) ?_; exact rfl; exact rfl; exact rfl)
            rw [HP2.out]
            exact bodyPost_ret (v := .tuple #[.agg zeroK, .int .i64 0, .int .i64 5]) (results_cell_tmp2 (P := Try.prog) (fn := Try.f19) rfl _ _ w.heap.size 34 _ (0, 0) _ rfl (setRow_heap _ _ _ _ _ (0, 0) HF.out) Try.underlying34 rfl (tkr_size _ rfl)) rfl ⟨below_row HB.out (Nat.le_refl _) _, rfl⟩
    · obtain rfl : j = s.size := by omega
      have hNj : N + 1 = s.size := by rw [HN.out, span_end (show s.data.toList.length ≤ s.size from Nat.le_refl _)]; omega
      have HP2 := hid (show P = .error 5 by rw [HP.out, List.drop_eq_nil_of_le (by omega), if_neg (by simp)])
      clear HN HP
      go_wp2_with (refine wpList_store_row rfl 34 _ _ rfl w.heap.size zeroK ?_ ?_ 34 zeroK HF.out (tkr_size _ rfl) ?_ (by simp [Value.oneCell', zeroK]) ?_; exact rfl; exact rfl; exact rfl)
      rw [HP2.out]
      exact bodyPost_ret (v := .tuple #[.agg zeroK, .int .i64 0, .int .i64 5]) (results_cell_tmp2 (P := Try.prog) (fn := Try.f19) rfl _ _ w.heap.size 34 _ (0, 0) _ rfl (setRow_heap _ _ _ _ _ (0, 0) HF.out) Try.underlying34 rfl (tkr_size _ rfl)) rfl ⟨below_row HB.out (Nat.le_refl _) _, rfl⟩
end Go.Proofs.Ytmefllfmcjjbaaa
