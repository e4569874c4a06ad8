/- lex: the reference's Front. -/
import Derived.Test.YtmefllfmcjjbaaaLxW
namespace Go.Proofs.Ytmefllfmcjjbaaa
open Go.RowKit
set_option linter.unusedSimpArgs false
set_option linter.unusedVariables false

theorem Letter_any (c : Nat) (W : World) : Calls Try.prog 38 #[.int .u8 (c : Int)] W fun e w' => e = .returned (.bool (letN c)) ∧ w' = W := by
  unfold letN
  by_cases h1 : 97 ≤ c <;> by_cases h2 : c ≤ 122 <;> by_cases h3 : 65 ≤ c <;> by_cases h4 : c ≤ 90 <;> by_cases h5 : c = 95
  all_goals first | (exfalso; omega) | skip
  all_goals
    have z1 : (97 : Int) ≤ (c : Int) ↔ 97 ≤ c := by omega
    have z2 : (c : Int) ≤ 122 ↔ c ≤ 122 := by omega
    have z3 : (65 : Int) ≤ (c : Int) ↔ 65 ≤ c := by omega
    have z4 : (c : Int) ≤ 90 ↔ c ≤ 90 := by omega
    have z5 : (c : Int) = 95 ↔ c = 95 := by omega
    go_enter Try.func38, Try.ntmps38
    go_wp2
    all_goals first | (exfalso; omega) | (go_ret; exact ⟨by simp [h1, h2, h3, h4, h5, z5], rfl⟩)
theorem Digit_any (c : Nat) (W : World) : Calls Try.prog 39 #[.int .u8 (c : Int)] W fun e w' => e = .returned (.bool (digN c)) ∧ w' = W := by
  unfold digN
  by_cases h1 : 48 ≤ c <;> by_cases h2 : c ≤ 57
  all_goals first | (exfalso; omega) | skip
  all_goals
    have z1 : (48 : Int) ≤ (c : Int) ↔ 48 ≤ c := by omega
    have z2 : (c : Int) ≤ 57 ↔ c ≤ 57 := by omega
    go_enter Try.func39, Try.ntmps39
    go_wp2
    all_goals first | (exfalso; omega) | (go_ret; exact ⟨by simp [h1, h2], rfl⟩)
theorem ext_full (s : ByteArray) : s.extract 0 s.size = s := by simp
def zeroK : Array Value := #[.int .i64 0, .int .i64 0, .string ⟨#[]⟩]
theorem tkr_size (cs : Array Value) (h : cs.size = 3) : (Try.prog.info? 34).map (·.size) = some cs.size := by
  rw [h]; kernel_rfl
theorem results_cell_tmp2 {P : Program} {fn : Func} {p u v : Tmp} {ty : TypeId} (h : fn.results = #[.cell p ty, .tmp u, .tmp v]) (tmps : Array Value) (w : World) (g : Nat) (t : TypeId) (cs : Array Value) (fr : Nat × Nat) (d : TypeDesc)
    (hp : tmps.getD p undef = .pointer (some ⟨g, 0, none⟩)) (hg : w.heap[g]? = some (.cells cs t fr))
    (hu : P.underlying ty = some d) (hd : (match d with | .struct _ | .array _ _ => true | _ => false) = true) (hi : (P.info? ty).map (·.size) = some cs.size) :
    (results fn tmps).run P w = .ok (.tuple #[.agg cs, tmps.getD u undef, tmps.getD v undef]) w := by
  have hp' : tmps[p]?.getD undef = .pointer (some ⟨g, 0, none⟩) := by simpa using hp
  simp [results, h, hp', asAddr, run_loadVar_row w g t ty cs fr d hg hu hd hi]
/-- What Front answers. -/
def FrR (r : Except Nat (Nat × List UInt8 × Nat)) (w : World) (e : Ending) (w' : World) : Prop := Below w.heap.size w w' ∧ match r with
  | .error c => e = .returned (.tuple #[.agg zeroK, .int .i64 0, .int .i64 (c : Int)])
  | .ok (k, x, n) => e = .returned (.tuple #[.agg #[.int .i64 (k : Int), .int .i64 0, .string ⟨x.toArray⟩], .int .i64 (n : Int), .int .i64 0])
set_option maxRecDepth 100000 in
set_option maxHeartbeats 4000000 in
theorem fr_name (s : ByteArray) (c : UInt8) (t : List UInt8) (hs : s.data.toList = c :: t) (hsz : s.size ≤ 65536) (hl : letN c.toNat = true) (w : World) :
    Calls Try.prog 19 #[.string s] w (FrR (if 24 < span namB (c :: t) then .error 2 else .ok (1, (c :: t).take (span namB (c :: t)), span namB (c :: t))) w) := by
  have hlen : s.data.toList.length = s.size := rfl
  have h0 : 0 < s.size := by rw [← hlen, hs]; simp
  have hc0 : ((s[0]'h0).toNat : Int) = (c.toNat : Int) := by
    have : (s[0]'h0) = s.data.toList[0]'(by rw [hlen]; exact h0) := rfl
    rw [this]
    simp only [hs, List.getElem_cons_zero]
  have HLc := hid (fun W => Letter_any c.toNat W)
  have HDc := hid (fun W => Digit_any c.toNat W)
  have HF := hid (heap_alloc_new w (.cells zeroK 34))
  have HB := hid ((Below.refl w.heap.size w).alloc (Nat.le_refl _) (.cells zeroK 34))
  rw [hl] at HLc
  obtain ⟨N, hN⟩ : ∃ N, N = span namB (c :: t) := ⟨_, rfl⟩
  have hNl : N ≤ s.size := by rw [hN, ← hlen, hs]; exact span_le _ _
  have HR := hid (show (⟨((c :: t).take N).toArray⟩ : ByteArray) = s.extract 0 N by
    rw [mid_str s 0 N (Nat.zero_le _) hNl, hs]; rfl)
  have HN := hid (show N = 0 + span namB (s.data.toList.drop 0) by rw [List.drop_zero, hs, hN]; omega)
  rw [← hN]
  obtain ⟨P, hP⟩ : ∃ P : Except Nat (Nat × List UInt8 × Nat), P = if 24 < N then .error 2 else .ok (1, (c :: t).take N, N) := ⟨_, rfl⟩
  rw [← hP]
  have HP := hid hP
  clear hN hl hs hP
  go_enter Try.func19, Try.ntmps19
  go_upto_region 1 with (fail)
  change Code.wp _ _ _ _ (w.alloc (.cells zeroK 34))
  generalize w.alloc (.cells zeroK 34) = w1 at *
  go_wp2_with fail
  refine (HLc.out _).mono ?_
  rintro e w2 ⟨rfl, hw2⟩
  rw [hw2]
  clear HLc HDc hw2 w2
  go_wp2_with fail
  go_loopg [5] (s.size + 1) (fun m i wr => ∃ j : Nat, j ≤ s.size ∧ s.size < m + j ∧ i = .int .i64 (j : Int) ∧ Hid (N = j + span namB (s.data.toList.drop j)) ∧ wr = w1)
  case atStart => exact ⟨0, by omega, by omega, rfl, HN, rfl⟩
  case round =>
    clear HN
    obtain ⟨j, hj, hm, rfl, HN, rfl⟩ := hrel
    obtain ⟨m, rfl⟩ : ∃ m, gk = m + 1 := ⟨gk - 1, by omega⟩
    have hend : ∀ M : Nat, N = M → M ≤ s.size → True := fun _ _ _ => trivial
    rcases Nat.lt_or_ge j s.size with hlt | hge
    · have hlt2 : j < s.data.toList.length := hlt
      have n1 : (j : Int) < (s.size : Int) := by omega
      obtain ⟨x, hx⟩ : ∃ x, x = (s.data.toList[j]'hlt2).toNat := ⟨_, rfl⟩
      have hx1 : ((s[j]'hlt).toNat : Int) = (x : Int) := by rw [hx]; rfl
      have HL := hid (fun W => Letter_any x W)
      have HD := hid (fun W => Digit_any x W)
      have hw : wrap64 ((j : Int) + 1) = (j : Int) + 1 := by unfold wrap64; omega
      have hpx : namB (s.data.toList[j]'hlt2) = (letN x || digN x) := by unfold namB; rw [hx]
      have hsp := span_at (p := namB) hlt2
      rw [hpx] at hsp
      clear hx hpx
      cases e1 : letN x with
      | true =>
        rw [e1] at HL hsp
        have HN2 := hid (show N = (j + 1) + span namB (s.data.toList.drop (j + 1)) by rw [HN.out, hsp, if_pos (by simp)]; omega)
        clear e1 hsp HN HD hlt2
        go_wp2_with (go_at_call 38; refine (HL.out _).mono ?_; rintro e w2 ⟨rfl, rfl⟩)
        go_roundg m
        case measure => omega
        case rel => exact ⟨j + 1, by omega, by omega, by go_num, HN2, rfl⟩
      | false =>
        rw [e1] at HL hsp
        cases e2 : digN x with
        | true =>
          rw [e2] at HD hsp
          have HN2 := hid (show N = (j + 1) + span namB (s.data.toList.drop (j + 1)) by rw [HN.out, hsp, if_pos (by simp)]; omega)
          clear e1 e2 hsp HN hlt2
          go_wp2_with (first
        | (go_at_call 38; refine (HL.out _).mono ?_; rintro e w' ⟨rfl, rfl⟩)
        | (go_at_call 39; refine (HD.out _).mono ?_; rintro e w' ⟨rfl, rfl⟩))
          go_roundg m
          case measure => omega
          case rel => exact ⟨j + 1, by omega, by omega, by go_num, HN2, rfl⟩
        | false =>
          rw [e2] at HD hsp
          have HN2 := hid (show N = j by rw [HN.out, hsp, if_neg (by simp)]; omega)
          clear e1 e2 hsp HN hlt2
          obtain rfl := HN2.out
          have hwN : (N : Int) ≤ (s.size : Int) := by omega
          by_cases h24 : 24 < N
          · have HP2 := hid (show P = .error 2 by rw [HP.out, if_pos h24])
            clear HP
            have e24 : (24 : Int) < (N : Int) := by omega
            go_wp2_with (first
              | (go_at_call 38; refine (HL.out _).mono ?_; rintro e w2 ⟨rfl, rfl⟩)
              | (go_at_call 39; refine (HD.out _).mono ?_; rintro e w3 ⟨rfl, rfl⟩)
              | (refine wpList_store_row rfl 34 _ _ rfl w.heap.size zeroK ?_ ?_ 34 zeroK HF.out (tkr_size _ rfl) ?_ (by simp [Value.oneCell', zeroK]) ?_; exact rfl; exact rfl; exact rfl))
            rw [HP2.out]
            exact bodyPost_ret (v := .tuple #[.agg zeroK, .int .i64 0, .int .i64 2]) (results_cell_tmp2 (P := Try.prog) (fn := Try.f19) rfl _ _ w.heap.size 34 _ (0, 0) _ rfl (setRow_heap _ _ _ _ _ (0, 0) HF.out) Try.underlying34 rfl (tkr_size _ rfl)) rfl ⟨below_row HB.out (Nat.le_refl _) _, rfl⟩
          · have HP2 := hid (show P = .ok (1, (c :: t).take N, N) by rw [HP.out, if_neg h24])
            clear HP
            have e24 : ¬ (24 : Int) < (N : Int) := by omega
            go_wp2_with (first
              | (go_at_call 38; refine (HL.out _).mono ?_; rintro e w2 ⟨rfl, rfl⟩)
              | (go_at_call 39; refine (HD.out _).mono ?_; rintro e w3 ⟨rfl, rfl⟩)
              | (refine wpList_store_row rfl 34 _ _ rfl w.heap.size #[.int .i64 1, .int .i64 0, .string (s.extract 0 N)] ?_ ?_ 34 zeroK HF.out (tkr_size _ rfl) ?_ (by simp [Value.oneCell', zeroK]) ?_; exact rfl; exact rfl; exact rfl))
            rw [HP2.out]
            exact bodyPost_ret (v := .tuple #[.agg #[.int .i64 1, .int .i64 0, .string (s.extract 0 N)], .int .i64 (N : Int), .int .i64 0]) (results_cell_tmp2 (P := Try.prog) (fn := Try.f19) rfl _ _ w.heap.size 34 _ (0, 0) _ rfl (setRow_heap _ _ _ _ _ (0, 0) HF.out) Try.underlying34 rfl (tkr_size _ rfl)) rfl ⟨below_row HB.out (Nat.le_refl _) _, by rw [← HR.out]; rfl⟩
    · obtain rfl : j = s.size := by omega
      have HN2 := hid (show N = s.size by rw [HN.out, span_end (show s.data.toList.length ≤ s.size from Nat.le_refl _)]; omega)
      clear HN
      have hN := HN2.out
      subst hN
      have HRs := hid (HR.out.trans (ext_full s))
      by_cases h24 : 24 < s.size
      · have HP2 := hid (show P = .error 2 by rw [HP.out, if_pos h24])
        clear HP
        have e24 : (24 : Int) < (s.size : Int) := by omega
        go_wp2_with (refine wpList_store_row rfl 34 _ _ rfl w.heap.size zeroK ?_ ?_ 34 zeroK HF.out (tkr_size _ rfl) ?_ (by simp [Value.oneCell', zeroK]) ?_; exact rfl; exact rfl; exact rfl)
        rw [HP2.out]
        exact bodyPost_ret (v := .tuple #[.agg zeroK, .int .i64 0, .int .i64 2]) (results_cell_tmp2 (P := Try.prog) (fn := Try.f19) rfl _ _ w.heap.size 34 _ (0, 0) _ rfl (setRow_heap _ _ _ _ _ (0, 0) HF.out) Try.underlying34 rfl (tkr_size _ rfl)) rfl ⟨below_row HB.out (Nat.le_refl _) _, rfl⟩
      · have HP2 := hid (show P = .ok (1, (c :: t).take s.size, s.size) by rw [HP.out, if_neg h24])
        clear HP
        have e24 : ¬ (24 : Int) < (s.size : Int) := by omega
        go_wp2_with (refine wpList_store_row rfl 34 _ _ rfl w.heap.size #[.int .i64 1, .int .i64 0, .string s] ?_ ?_ 34 zeroK HF.out (tkr_size _ rfl) ?_ (by simp [Value.oneCell', zeroK]) ?_; exact rfl; exact rfl; exact rfl)
        rw [HP2.out]
        exact bodyPost_ret (v := .tuple #[.agg #[.int .i64 1, .int .i64 0, .string s], .int .i64 (s.size : Int), .int .i64 0]) (results_cell_tmp2 (P := Try.prog) (fn := Try.f19) rfl _ _ w.heap.size 34 _ (0, 0) _ rfl (setRow_heap _ _ _ _ _ (0, 0) HF.out) Try.underlying34 rfl (tkr_size _ rfl)) rfl ⟨below_row HB.out (Nat.le_refl _) _, by dsimp only; rw [HRs.out]; rfl⟩
end Go.Proofs.Ytmefllfmcjjbaaa
