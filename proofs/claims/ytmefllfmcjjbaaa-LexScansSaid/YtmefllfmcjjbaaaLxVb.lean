/- lex: the reference's Front of signs. -/
import Derived.Test.YtmefllfmcjjbaaaLxU
namespace Go.Proofs.Ytmefllfmcjjbaaa
open Go.RowKit
set_option linter.unusedSimpArgs false
set_option linter.unusedVariables false

theorem sg_get : ∀ j : Fin 13, ((⟨#[61, 59, 123, 125, 91, 93, 40, 41, 58, 124, 42, 43, 37]⟩ : ByteArray)[j.1]'(by have := j.2; exact this)) = sgL[j.1]'(by have := j.2; exact this) := by decide +kernel
set_option maxRecDepth 100000 in
set_option maxHeartbeats 16000000 in
theorem fr_sign (s : ByteArray) (c : UInt8) (t : List UInt8) (hs : s.data.toList = c :: t) (hsz : s.size ≤ 65536) (hl : letN c.toNat = false) (hdd : digN c.toNat = false) (h47 : c.toNat ≠ 47) (w : World) :
    Calls Try.prog 19 #[.string s] w (FrR (if c.toNat = 46 ∧ t.head? = some 46 then .ok (4, [46, 46], 2) else if sgB c = true then .ok (4, [c], 1) else .error 100) w) := by
  have hlen : s.data.toList.length = s.size := rfl
  have h0 : 0 < s.size := by rw [← hlen, hs]; simp
  have hc0 : ((s[0]'h0).toNat : Int) = (c.toNat : Int) := by
    have : (s[0]'h0) = s.data.toList[0]'(by rw [hlen]; exact h0) := rfl
    rw [this]
    simp only [hs, List.getElem_cons_zero]
  have HLc := hid (fun W => Letter_any c.toNat W)
  have HDc := hid (fun W => Digit_any c.toNat W)
  have HF := hid (heap_alloc_new w (.cells zeroK 34))
  have HB := hid ((Below.refl w.heap.size w).alloc (Nat.le_refl _) (.cells zeroK 34))
  rw [hl] at HLc
  rw [hdd] at HDc
  obtain ⟨P, hP⟩ : ∃ P : Except Nat (Nat × List UInt8 × Nat), P = if c.toNat = 46 ∧ t.head? = some 46 then .ok (4, [46, 46], 2) else if sgB c = true then .ok (4, [c], 1) else .error 100 := ⟨_, rfl⟩
  rw [← hP]
  have HP := hid hP
  have h47' : ¬ ((c.toNat : Nat) : Int) = 47 := by omega
  have HS := hid (show s.extract 0 1 = ⟨#[c]⟩ by
    rw [mid_str s 0 1 (by omega) (by omega), hs]; rfl)
  have hone : (1 : Int) ≤ (s.size : Int) := by omega
  by_cases h46 : c.toNat = 46 ∧ t.head? = some 46
  · have h1s : 1 < s.size := by
      rw [← hlen, hs]
      cases t with
      | nil => cases h46.2
      | cons d t => simp
    have hc1 : ((s[1]'h1s).toNat : Int) = 46 := by
      have : (s[1]'h1s) = s.data.toList[1]'(by rw [hlen]; exact h1s) := rfl
      rw [this]
      cases t with
      | nil => cases h46.2
      | cons d t =>
        have h := h46.2
        rw [List.head?_cons] at h
        injection h with h
        simp only [hs, List.getElem_cons_succ, List.getElem_cons_zero, h]
        rfl
    have HP2 := hid (show P = .ok (4, [46, 46], 2) by rw [HP.out, if_pos h46])
    have e1 : (1 : Int) < (s.size : Int) := by omega
    rw [h46.1] at hc0 HLc HDc
    clear h46 hP hs hl hdd h47 h47' HP
    go_enter Try.func19, Try.ntmps19
    go_upto_region 1 with (fail)
    change Code.wp _ _ _ _ (w.alloc (.cells zeroK 34))
    generalize w.alloc (.cells zeroK 34) = w1 at *
    go_wp2_with fail
    refine (HLc.out _).mono ?_
    rintro e w2 ⟨rfl, hw2⟩
    rw [hw2]
    clear HLc hw2 w2
    go_wp2_with fail
    refine (HDc.out _).mono ?_
    rintro e w2 ⟨rfl, hw2⟩
    rw [hw2]
    clear HDc hw2 w2
    go_wp2_with (refine wpList_store_row rfl 34 _ _ rfl w.heap.size #[.int .i64 4, .int .i64 0, .string ⟨#[46, 46]⟩] ?_ ?_ 34 zeroK HF.out (tkr_size _ rfl) ?_ (by simp [Value.oneCell', zeroK]) ?_; exact rfl; exact rfl; exact rfl)
    rw [HP2.out]
    exact bodyPost_ret (v := .tuple #[.agg #[.int .i64 4, .int .i64 0, .string ⟨#[46, 46]⟩], .int .i64 2, .int .i64 0]) (results_cell_tmp2 (P := Try.prog) (fn := Try.f19) rfl _ _ w.heap.size 34 _ (0, 0) _ rfl (setRow_heap _ _ _ _ _ (0, 0) HF.out) Try.underlying34 rfl (tkr_size _ rfl)) rfl ⟨below_row HB.out (Nat.le_refl _) _, rfl⟩
  · have hP3 : P = if sgB c = true then .ok (4, [c], 1) else .error 100 := by rw [HP.out, if_neg h46]
    have HP3 := hid hP3
    have h1x : (∃ h1 : 1 < s.size, ¬ (c.toNat = 46 ∧ (s[1]'h1).toNat = 46)) ∨ ¬ 1 < s.size := by
      by_cases h1 : 1 < s.size
      · refine .inl ⟨h1, fun h => h46 ⟨h.1, ?_⟩⟩
        have h2 : (s[1]'h1) = s.data.toList[1]'(by rw [hlen]; exact h1) := rfl
        cases t with
        | nil => rw [← hlen, hs] at h1; simp at h1
        | cons d t =>
          rw [List.head?_cons]
          congr 1
          have h3 : (s[1]'h1) = d := by rw [h2]; simp only [hs, List.getElem_cons_succ, List.getElem_cons_zero]
          exact UInt8.toNat_inj.1 (by rw [← h3, h.2]; rfl)
      · exact .inr h1
    have hdots : ((∃ h1 : 1 < s.size, (c.toNat ≠ 46 ∨ (c.toNat = 46 ∧ (s[1]'h1).toNat ≠ 46))) ∨ ¬ 1 < s.size) := by
      rcases h1x with ⟨h1, h⟩ | h
      · refine .inl ⟨h1, ?_⟩
        by_cases hc : c.toNat = 46
        · exact .inr ⟨hc, fun h2 => h ⟨hc, h2⟩⟩
        · exact .inl hc
      · exact .inr h
    clear hP hP3 h46 hl hdd h1x HP h47
    rcases hdots with ⟨h1, h2⟩ | h1
    · have e1 : (1 : Int) < (s.size : Int) := by omega
      rcases h2 with h2 | h2
      · have h46' : ¬ ((c.toNat : Nat) : Int) = 46 := by omega
        clear h2
        go_enter Try.func19, Try.ntmps19
        go_upto_region 1 with (fail)
        change Code.wp _ _ _ _ (w.alloc (.cells zeroK 34))
        generalize w.alloc (.cells zeroK 34) = w1 at *
        go_wp2_with fail
        refine (HLc.out _).mono ?_
        rintro e w2 ⟨rfl, hw2⟩
        rw [hw2]
        clear HLc hw2 w2
        go_wp2_with fail
        refine (HDc.out _).mono ?_
        rintro e w2 ⟨rfl, hw2⟩
        rw [hw2]
        clear HDc hw2 w2
        go_wp2_with fail
        go_loopg [7] 14 (fun m i wr => ∃ j : Nat, j ≤ 13 ∧ 13 < m + j ∧ i = .int .i64 (j : Int) ∧ (∀ q (h : q < 13), q < j → sgL[q]'h ≠ c) ∧ wr.heap[w.heap.size]? = some (.cells zeroK 34) ∧ Below w.heap.size w wr)
        case atStart => exact ⟨0, by omega, by omega, rfl, fun q _ h => absurd h (by omega), HF.out, HB.out⟩
        case round =>
          clear HF HB
          obtain ⟨j, hj, hm, rfl, hne, hF, hB⟩ := hrel
          have HF := hid hF
          have HB := hid hB
          have HNe := hid hne
          clear hF hB hne
          obtain ⟨m, rfl⟩ : ∃ m, gk = m + 1 := ⟨gk - 1, by omega⟩
          rcases Nat.lt_or_ge j 13 with hlt | hge
          · have n1 : (j : Int) < 13 := by omega
            obtain ⟨x, hx⟩ : ∃ x, x = sgL[j]'hlt := ⟨_, rfl⟩
            have hx1 : (((⟨#[61, 59, 123, 125, 91, 93, 40, 41, 58, 124, 42, 43, 37]⟩ : ByteArray)[j]'hlt).toNat : Int) = (x.toNat : Int) := by rw [hx, ← sg_get ⟨j, hlt⟩]
            by_cases hxc : x = c
            · have hsg : sgB c = true := by
                unfold sgB
                rw [List.contains_iff_mem, ← hxc, hx]
                exact List.getElem_mem _
              have HP2 := hid (show P = .ok (4, [c], 1) by rw [HP3.out, if_pos hsg])
              rw [hxc] at hx1
              clear hsg HP3 hx hxc
              go_wp2_with fail
              go_quiet (fail)
              have HF2 := hid (show (wr.drewN nq).heap[w.heap.size]? = some (.cells zeroK 34) from HF.out)
              have HB2 := hid (below_drewN HB.out nq)
              clear HF HB
              generalize wr.drewN nq = w9 at *
              go_wp2_with (refine wpList_store_row rfl 34 _ _ rfl w.heap.size #[.int .i64 4, .int .i64 0, .string (s.extract 0 1)] ?_ ?_ 34 zeroK HF2.out (tkr_size _ rfl) ?_ (by simp [Value.oneCell', zeroK]) ?_; exact rfl; exact rfl; exact rfl)
              rw [HP2.out]
              exact bodyPost_ret (v := .tuple #[.agg #[.int .i64 4, .int .i64 0, .string (s.extract 0 1)], .int .i64 1, .int .i64 0]) (results_cell_tmp2 (P := Try.prog) (fn := Try.f19) rfl _ _ w.heap.size 34 _ (0, 0) _ rfl (setRow_heap _ _ _ _ _ (0, 0) HF2.out) Try.underlying34 rfl (tkr_size _ rfl)) rfl ⟨below_row HB2.out (Nat.le_refl _) _, by rw [HS.out]; rfl⟩
            · have hxn : ((x.toNat : Int) == (c.toNat : Int)) = false := by
                have : x.toNat ≠ c.toNat := fun h => hxc (UInt8.toNat_inj.1 h)
                simp
                omega
              have HNe2 := hid (show ∀ q (h : q < 13), q < j + 1 → sgL[q]'h ≠ c from fun q h hq => by
                rcases Nat.lt_or_ge q j with h1 | h1
                · exact HNe.out q h h1
                · obtain rfl : q = j := by omega
                  rw [← hx]; exact hxc)
              clear hx hxc HNe
              go_wp2_with fail
              go_quiet (fail)
              have HF2 := hid (show (wr.drewN nq).heap[w.heap.size]? = some (.cells zeroK 34) from HF.out)
              have HB2 := hid (below_drewN HB.out nq)
              clear HF HB
              generalize wr.drewN nq = w9 at *
              go_wp2_with fail
              go_roundg m
              case measure => omega
              case rel => exact ⟨j + 1, by omega, by omega, by go_num, HNe2.out, HF2.out, HB2.out⟩
          · obtain rfl : j = 13 := by omega
            have hsg : ¬ sgB c = true := by
              unfold sgB
              rw [List.contains_iff_mem]
              intro hm
              obtain ⟨q, hq, he⟩ := List.getElem_of_mem hm
              exact HNe.out q hq (by have : q < 13 := hq; omega) he
            have HP2 := hid (show P = .error 100 by rw [HP3.out, if_neg hsg])
            clear hsg HP3 HNe
            go_wp2_with (refine wpList_store_row rfl 34 _ _ rfl w.heap.size zeroK ?_ ?_ 34 zeroK HF.out (tkr_size _ rfl) ?_ (by simp [Value.oneCell', zeroK]) ?_; exact rfl; exact rfl; exact rfl)
            rw [HP2.out]
            exact bodyPost_ret (v := .tuple #[.agg zeroK, .int .i64 0, .int .i64 100]) (results_cell_tmp2 (P := Try.prog) (fn := Try.f19) rfl _ _ w.heap.size 34 _ (0, 0) _ rfl (setRow_heap _ _ _ _ _ (0, 0) HF.out) Try.underlying34 rfl (tkr_size _ rfl)) rfl ⟨below_row HB.out (Nat.le_refl _) _, rfl⟩
      · have h46' : ¬ (((s[1]'h1).toNat : Nat) : Int) = 46 := by omega
        have hcc : c.toNat = 46 := h2.1
        rw [hcc] at hc0 HLc HDc
        have HCC := hid hcc
        clear h2 hcc
        go_enter Try.func19, Try.ntmps19
        go_upto_region 1 with (fail)
        change Code.wp _ _ _ _ (w.alloc (.cells zeroK 34))
        generalize w.alloc (.cells zeroK 34) = w1 at *
        go_wp2_with fail
        refine (HLc.out _).mono ?_
        rintro e w2 ⟨rfl, hw2⟩
        rw [hw2]
        clear HLc hw2 w2
        go_wp2_with fail
        refine (HDc.out _).mono ?_
        rintro e w2 ⟨rfl, hw2⟩
        rw [hw2]
        clear HDc hw2 w2
        go_wp2_with fail
        go_loopg [7] 14 (fun m i wr => ∃ j : Nat, j ≤ 13 ∧ 13 < m + j ∧ i = .int .i64 (j : Int) ∧ (∀ q (h : q < 13), q < j → sgL[q]'h ≠ c) ∧ wr.heap[w.heap.size]? = some (.cells zeroK 34) ∧ Below w.heap.size w wr)
        case atStart => exact ⟨0, by omega, by omega, rfl, fun q _ h => absurd h (by omega), HF.out, HB.out⟩
        case round =>
          clear HF HB
          obtain ⟨j, hj, hm, rfl, hne, hF, hB⟩ := hrel
          have HF := hid hF
          have HB := hid hB
          have HNe := hid hne
          clear hF hB hne
          obtain ⟨m, rfl⟩ : ∃ m, gk = m + 1 := ⟨gk - 1, by omega⟩
          rcases Nat.lt_or_ge j 13 with hlt | hge
          · have n1 : (j : Int) < 13 := by omega
            obtain ⟨x, hx⟩ : ∃ x, x = sgL[j]'hlt := ⟨_, rfl⟩
            have hx1 : (((⟨#[61, 59, 123, 125, 91, 93, 40, 41, 58, 124, 42, 43, 37]⟩ : ByteArray)[j]'hlt).toNat : Int) = (x.toNat : Int) := by rw [hx, ← sg_get ⟨j, hlt⟩]
            by_cases hxc : x = c
            · have hsg : sgB c = true := by
                unfold sgB
                rw [List.contains_iff_mem, ← hxc, hx]
                exact List.getElem_mem _
              have HP2 := hid (show P = .ok (4, [c], 1) by rw [HP3.out, if_pos hsg])
              rw [hxc, HCC.out] at hx1
              clear hsg HP3 hx hxc
              go_wp2_with fail
              go_quiet (fail)
              have HF2 := hid (show (wr.drewN nq).heap[w.heap.size]? = some (.cells zeroK 34) from HF.out)
              have HB2 := hid (below_drewN HB.out nq)
              clear HF HB
              generalize wr.drewN nq = w9 at *
              go_wp2_with (refine wpList_store_row rfl 34 _ _ rfl w.heap.size #[.int .i64 4, .int .i64 0, .string (s.extract 0 1)] ?_ ?_ 34 zeroK HF2.out (tkr_size _ rfl) ?_ (by simp [Value.oneCell', zeroK]) ?_; exact rfl; exact rfl; exact rfl)
              rw [HP2.out]
              exact bodyPost_ret (v := .tuple #[.agg #[.int .i64 4, .int .i64 0, .string (s.extract 0 1)], .int .i64 1, .int .i64 0]) (results_cell_tmp2 (P := Try.prog) (fn := Try.f19) rfl _ _ w.heap.size 34 _ (0, 0) _ rfl (setRow_heap _ _ _ _ _ (0, 0) HF2.out) Try.underlying34 rfl (tkr_size _ rfl)) rfl ⟨below_row HB2.out (Nat.le_refl _) _, by rw [HS.out]; rfl⟩
            · have hxn : ((x.toNat : Int) == ((46 : Nat) : Int)) = false := by
                have : x.toNat ≠ 46 := fun h => hxc (UInt8.toNat_inj.1 (h.trans HCC.out.symm))
                simp
                omega
              have HNe2 := hid (show ∀ q (h : q < 13), q < j + 1 → sgL[q]'h ≠ c from fun q h hq => by
                rcases Nat.lt_or_ge q j with h1 | h1
                · exact HNe.out q h h1
                · obtain rfl : q = j := by omega
                  rw [← hx]; exact hxc)
              clear hx hxc HNe
              go_wp2_with fail
              go_quiet (fail)
              have HF2 := hid (show (wr.drewN nq).heap[w.heap.size]? = some (.cells zeroK 34) from HF.out)
              have HB2 := hid (below_drewN HB.out nq)
              clear HF HB
              generalize wr.drewN nq = w9 at *
              go_wp2_with fail
              go_roundg m
              case measure => omega
              case rel => exact ⟨j + 1, by omega, by omega, by go_num, HNe2.out, HF2.out, HB2.out⟩
          · obtain rfl : j = 13 := by omega
            have hsg : ¬ sgB c = true := by
              unfold sgB
              rw [List.contains_iff_mem]
              intro hm
              obtain ⟨q, hq, he⟩ := List.getElem_of_mem hm
              exact HNe.out q hq (by have : q < 13 := hq; omega) he
            have HP2 := hid (show P = .error 100 by rw [HP3.out, if_neg hsg])
            clear hsg HP3 HNe
            go_wp2_with (refine wpList_store_row rfl 34 _ _ rfl w.heap.size zeroK ?_ ?_ 34 zeroK HF.out (tkr_size _ rfl) ?_ (by simp [Value.oneCell', zeroK]) ?_; exact rfl; exact rfl; exact rfl)
            rw [HP2.out]
            exact bodyPost_ret (v := .tuple #[.agg zeroK, .int .i64 0, .int .i64 100]) (results_cell_tmp2 (P := Try.prog) (fn := Try.f19) rfl _ _ w.heap.size 34 _ (0, 0) _ rfl (setRow_heap _ _ _ _ _ (0, 0) HF.out) Try.underlying34 rfl (tkr_size _ rfl)) rfl ⟨below_row HB.out (Nat.le_refl _) _, rfl⟩
    · have e1 : ¬ (1 : Int) < (s.size : Int) := by omega
      go_enter Try.func19, Try.ntmps19
      go_upto_region 1 with (fail)
      change Code.wp _ _ _ _ (w.alloc (.cells zeroK 34))
      generalize w.alloc (.cells zeroK 34) = w1 at *
      go_wp2_with fail
      refine (HLc.out _).mono ?_
      rintro e w2 ⟨rfl, hw2⟩
      rw [hw2]
      clear HLc hw2 w2
      go_wp2_with fail
      refine (HDc.out _).mono ?_
      rintro e w2 ⟨rfl, hw2⟩
      rw [hw2]
      clear HDc hw2 w2
      go_wp2_with fail
      go_loopg [7] 14 (fun m i wr => ∃ j : Nat, j ≤ 13 ∧ 13 < m + j ∧ i = .int .i64 (j : Int) ∧ (∀ q (h : q < 13), q < j → sgL[q]'h ≠ c) ∧ wr.heap[w.heap.size]? = some (.cells zeroK 34) ∧ Below w.heap.size w wr)
      case atStart => exact ⟨0, by omega, by omega, rfl, fun q _ h => absurd h (by omega), HF.out, HB.out⟩
      case round =>
        clear HF HB
        obtain ⟨j, hj, hm, rfl, hne, hF, hB⟩ := hrel
        have HF := hid hF
        have HB := hid hB
        have HNe := hid hne
        clear hF hB hne
        obtain ⟨m, rfl⟩ : ∃ m, gk = m + 1 := ⟨gk - 1, by omega⟩
        rcases Nat.lt_or_ge j 13 with hlt | hge
        · have n1 : (j : Int) < 13 := by omega
          obtain ⟨x, hx⟩ : ∃ x, x = sgL[j]'hlt := ⟨_, rfl⟩
          have hx1 : (((⟨#[61, 59, 123, 125, 91, 93, 40, 41, 58, 124, 42, 43, 37]⟩ : ByteArray)[j]'hlt).toNat : Int) = (x.toNat : Int) := by rw [hx, ← sg_get ⟨j, hlt⟩]
          by_cases hxc : x = c
          · have hsg : sgB c = true := by
              unfold sgB
              rw [List.contains_iff_mem, ← hxc, hx]
              exact List.getElem_mem _
            have HP2 := hid (show P = .ok (4, [c], 1) by rw [HP3.out, if_pos hsg])
            rw [hxc] at hx1
            clear hsg HP3 hx hxc
            go_wp2_with fail
            go_quiet (fail)
            have HF2 := hid (show (wr.drewN nq).heap[w.heap.size]? = some (.cells zeroK 34) from HF.out)
            have HB2 := hid (below_drewN HB.out nq)
            clear HF HB
            generalize wr.drewN nq = w9 at *
            go_wp2_with (refine wpList_store_row rfl 34 _ _ rfl w.heap.size #[.int .i64 4, .int .i64 0, .string (s.extract 0 1)] ?_ ?_ 34 zeroK HF2.out (tkr_size _ rfl) ?_ (by simp [Value.oneCell', zeroK]) ?_; exact rfl; exact rfl; exact rfl)
            rw [HP2.out]
            exact bodyPost_ret (v := .tuple #[.agg #[.int .i64 4, .int .i64 0, .string (s.extract 0 1)], .int .i64 1, .int .i64 0]) (results_cell_tmp2 (P := Try.prog) (fn := Try.f19) rfl _ _ w.heap.size 34 _ (0, 0) _ rfl (setRow_heap _ _ _ _ _ (0, 0) HF2.out) Try.underlying34 rfl (tkr_size _ rfl)) rfl ⟨below_row HB2.out (Nat.le_refl _) _, by rw [HS.out]; rfl⟩
          · have hxn : ((x.toNat : Int) == (c.toNat : Int)) = false := by
              have : x.toNat ≠ c.toNat := fun h => hxc (UInt8.toNat_inj.1 h)
              simp
              omega
            have HNe2 := hid (show ∀ q (h : q < 13), q < j + 1 → sgL[q]'h ≠ c from fun q h hq => by
              rcases Nat.lt_or_ge q j with h1 | h1
              · exact HNe.out q h h1
              · obtain rfl : q = j := by omega
                rw [← hx]; exact hxc)
            clear hx hxc HNe
            go_wp2_with fail
            go_quiet (fail)
            have HF2 := hid (show (wr.drewN nq).heap[w.heap.size]? = some (.cells zeroK 34) from HF.out)
            have HB2 := hid (below_drewN HB.out nq)
            clear HF HB
            generalize wr.drewN nq = w9 at *
            go_wp2_with fail
            go_roundg m
            case measure => omega
            case rel => exact ⟨j + 1, by omega, by omega, by go_num, HNe2.out, HF2.out, HB2.out⟩
        · obtain rfl : j = 13 := by omega
          have hsg : ¬ sgB c = true := by
            unfold sgB
            rw [List.contains_iff_mem]
            intro hm
            obtain ⟨q, hq, he⟩ := List.getElem_of_mem hm
            exact HNe.out q hq (by have : q < 13 := hq; omega) he
          have HP2 := hid (show P = .error 100 by rw [HP3.out, if_neg hsg])
          clear hsg HP3 HNe
          go_wp2_with (refine wpList_store_row rfl 34 _ _ rfl w.heap.size zeroK ?_ ?_ 34 zeroK HF.out (tkr_size _ rfl) ?_ (by simp [Value.oneCell', zeroK]) ?_; exact rfl; exact rfl; exact rfl)
          rw [HP2.out]
          exact bodyPost_ret (v := .tuple #[.agg zeroK, .int .i64 0, .int .i64 100]) (results_cell_tmp2 (P := Try.prog) (fn := Try.f19) rfl _ _ w.heap.size 34 _ (0, 0) _ rfl (setRow_heap _ _ _ _ _ (0, 0) HF.out) Try.underlying34 rfl (tkr_size _ rfl)) rfl ⟨below_row HB.out (Nat.le_refl _) _, rfl⟩
end Go.Proofs.Ytmefllfmcjjbaaa
