/- code: the law's wrong. -/
import Derived.Test.YtpbkdokhlimpfaaDoorCdI
import Derived.Test.YtpbkdokhlimpfaaDoorCdF
namespace Go.Proofs.YtpbkdokhlimpfaaDoor
set_option linter.unusedSimpArgs false
set_option linter.unusedVariables false
open Go.RowKit

theorem nm_is (j : Int) (C : ByteArray) (hC : ∀ q : Fin 21, ((nmS (q.val : Int)).data.toList == C.data.toList) = decide ((q.val : Int) = j)) (h0 : (([] : List UInt8) == C.data.toList) = false) (hj : 0 ≤ j ∧ j < 21) (k : Int) : ((nmS k).toList == C.toList) = decide (k = j) := by
  rw [ByteArray.toList_eq, ByteArray.toList_eq]
  by_cases h : 0 ≤ k ∧ k < 21
  · obtain ⟨q, rfl⟩ : ∃ q : Nat, k = (q : Int) := ⟨k.toNat, by omega⟩
    exact hC ⟨q, by omega⟩
  · rw [nmS_other (by omega)]
    rw [decide_eq_false (by omega)]
    exact h0
set_option maxRecDepth 100000 in
set_option maxHeartbeats 8000000 in
theorem wrong_any (p : PT) (w : World) {P : Nat → Prop} (hP : PtOk w P p) (hl : p.ss.length ≤ 1000000) (hws : ∀ x ∈ p.ss, x.ws.length ≤ 1000000) :
    Calls Tryd.prog 10 #[p.val] w fun e w' => e = .returned (fltV (ckS (mayS p) p)) ∧ Below w.heap.size w w' := by
  obtain ⟨hb0, h0⟩ := box_prog w p
  have hb1 : Below (w.alloc (.cells p.cells.toArray 24)).heap.size (w.alloc (.cells p.cells.toArray 24)) ((w.alloc (.cells p.cells.toArray 24)).alloc (.cells #[.int .i64 0, .int .i64 0] 29)) := (Below.refl _ _).alloc (Nat.le_refl _) _
  have hf : Blk ((w.alloc (.cells p.cells.toArray 24)).alloc (.cells #[.int .i64 0, .int .i64 0] 29)) (w.heap.size + 1) 29 [.int .i64 0, .int .i64 0] := by
    have := heap_alloc_new (w.alloc (.cells p.cells.toArray 24)) (.cells #[.int .i64 0, .int .i64 0] 29)
    rw [World.size_alloc] at this
    exact this
  have h1 : BoxP _ w.heap.size p := Blk.keep h0 hb1
  have hb := below_then' hb0 hb1
  have hpc : p.cells.toArray = #[.slice p.S.A p.S.n p.S.c, .int .i64 p.sl, .int .i64 p.su, .int .i64 p.au] := rfl
  rw [hpc] at hb h1 hf
  have HX := hid h1
  have HB := hid hb
  have HFl := hid hf
  have HP := hid (hP.keep hb)
  have HNe := hid hP.n
  have HWs := hid hws
  have hnb : p.S.n ≤ 1000000 := by rw [hP.n]; exact hl
  obtain ⟨RR, hRR⟩ : ∃ RR : Ending → World → Prop, RR = fun e w' => e = .returned (fltV (ckS (mayS p) p)) ∧ Below w.heap.size w w' := ⟨_, rfl⟩
  rw [← hRR]
  have HRR := hid hRR
  obtain ⟨R, hR⟩ : ∃ R, R = ckS (mayS p) p := ⟨_, rfl⟩
  rw [← hR] at HRR
  have HR := hid hR
  obtain ⟨x0, x1, x2, x3⟩ := h1.four
  clear hb hb0 hb1 h0 h1 hpc hP hf hl hws hRR hR
  unfold PT.val
  obtain ⟨ss, ⟨A, n, c⟩, sl, su, au⟩ := p
  simp only at *
  have f0 := Blk.at HFl.out 0
  have f1 := Blk.at HFl.out 1
  have ff := Blk.free HFl.out
  simp only [List.getElem?_cons_zero, List.getElem?_cons_succ] at f0 f1
  go_enter Tryd.func10, Tryd.ntmps10
  go_upto_region 1 with (fail)
  generalize (w.alloc (.cells #[.slice A n c, .int .i64 sl, .int .i64 su, .int .i64 au] 24)).alloc (.cells #[.int .i64 0, .int .i64 0] 29) = w1 at *
  by_cases h1 : (n : Int) < 1
  · have HZ : sizeS ⟨ss, ⟨A, n, c⟩, sl, su, au⟩ = false := by
      have := HNe.out
      unfold sizeS fewS
      rw [← Bool.not_eq_true]
      simp only [Bool.and_eq_true, decide_eq_true_eq]
      omega
    go_wp2_with fail
    have HF2 := hid (fault_set HFl.out (.int .i64 2) (.int .i64 0))
    have hRe : R = (2, 0) := by
      rw [HR.out]
      unfold ckS
      rw [if_pos HZ]
    exact bodyPost_ret (v := .agg #[.int .i64 2, .int .i64 0]) (results_cell_row (P := Tryd.prog) (fn := Tryd.f10) rfl _ _ (w.heap.size + 1) 29 _ (0, 0) _ rfl HF2.out Tryd.underlying29 rfl (by kernel_rfl)) rfl (by rw [HRR.out, hRe]; exact ⟨rfl, fault_chg HB.out (by omega) _ _⟩)
  by_cases h2 : (65536 : Int) < (n : Int)
  · have HZ : sizeS ⟨ss, ⟨A, n, c⟩, sl, su, au⟩ = false := by
      have := HNe.out
      unfold sizeS fewS
      rw [← Bool.not_eq_true]
      simp only [Bool.and_eq_true, decide_eq_true_eq]
      omega
    go_wp2_with fail
    have HF2 := hid (fault_set HFl.out (.int .i64 2) (.int .i64 0))
    have hRe : R = (2, 0) := by
      rw [HR.out]
      unfold ckS
      rw [if_pos HZ]
    exact bodyPost_ret (v := .agg #[.int .i64 2, .int .i64 0]) (results_cell_row (P := Tryd.prog) (fn := Tryd.f10) rfl _ _ (w.heap.size + 1) 29 _ (0, 0) _ rfl HF2.out Tryd.underlying29 rfl (by kernel_rfl)) rfl (by rw [HRR.out, hRe]; exact ⟨rfl, fault_chg HB.out (by omega) _ _⟩)
  by_cases h3 : sl < 0
  · have HZ : sizeS ⟨ss, ⟨A, n, c⟩, sl, su, au⟩ = false := by
      have := HNe.out
      unfold sizeS fewS
      rw [← Bool.not_eq_true]
      simp only [Bool.and_eq_true, decide_eq_true_eq]
      omega
    go_wp2_with fail
    have HF2 := hid (fault_set HFl.out (.int .i64 2) (.int .i64 0))
    have hRe : R = (2, 0) := by
      rw [HR.out]
      unfold ckS
      rw [if_pos HZ]
    exact bodyPost_ret (v := .agg #[.int .i64 2, .int .i64 0]) (results_cell_row (P := Tryd.prog) (fn := Tryd.f10) rfl _ _ (w.heap.size + 1) 29 _ (0, 0) _ rfl HF2.out Tryd.underlying29 rfl (by kernel_rfl)) rfl (by rw [HRR.out, hRe]; exact ⟨rfl, fault_chg HB.out (by omega) _ _⟩)
  by_cases h4 : (4096 : Int) < sl
  · have HZ : sizeS ⟨ss, ⟨A, n, c⟩, sl, su, au⟩ = false := by
      have := HNe.out
      unfold sizeS fewS
      rw [← Bool.not_eq_true]
      simp only [Bool.and_eq_true, decide_eq_true_eq]
      omega
    go_wp2_with fail
    have HF2 := hid (fault_set HFl.out (.int .i64 2) (.int .i64 0))
    have hRe : R = (2, 0) := by
      rw [HR.out]
      unfold ckS
      rw [if_pos HZ]
    exact bodyPost_ret (v := .agg #[.int .i64 2, .int .i64 0]) (results_cell_row (P := Tryd.prog) (fn := Tryd.f10) rfl _ _ (w.heap.size + 1) 29 _ (0, 0) _ rfl HF2.out Tryd.underlying29 rfl (by kernel_rfl)) rfl (by rw [HRR.out, hRe]; exact ⟨rfl, fault_chg HB.out (by omega) _ _⟩)
  by_cases h5 : su < 0
  · have HZ : sizeS ⟨ss, ⟨A, n, c⟩, sl, su, au⟩ = false := by
      have := HNe.out
      unfold sizeS fewS
      rw [← Bool.not_eq_true]
      simp only [Bool.and_eq_true, decide_eq_true_eq]
      omega
    go_wp2_with fail
    have HF2 := hid (fault_set HFl.out (.int .i64 2) (.int .i64 0))
    have hRe : R = (2, 0) := by
      rw [HR.out]
      unfold ckS
      rw [if_pos HZ]
    exact bodyPost_ret (v := .agg #[.int .i64 2, .int .i64 0]) (results_cell_row (P := Tryd.prog) (fn := Tryd.f10) rfl _ _ (w.heap.size + 1) 29 _ (0, 0) _ rfl HF2.out Tryd.underlying29 rfl (by kernel_rfl)) rfl (by rw [HRR.out, hRe]; exact ⟨rfl, fault_chg HB.out (by omega) _ _⟩)
  by_cases h6 : (4096 : Int) < su
  · have HZ : sizeS ⟨ss, ⟨A, n, c⟩, sl, su, au⟩ = false := by
      have := HNe.out
      unfold sizeS fewS
      rw [← Bool.not_eq_true]
      simp only [Bool.and_eq_true, decide_eq_true_eq]
      omega
    go_wp2_with fail
    have HF2 := hid (fault_set HFl.out (.int .i64 2) (.int .i64 0))
    have hRe : R = (2, 0) := by
      rw [HR.out]
      unfold ckS
      rw [if_pos HZ]
    exact bodyPost_ret (v := .agg #[.int .i64 2, .int .i64 0]) (results_cell_row (P := Tryd.prog) (fn := Tryd.f10) rfl _ _ (w.heap.size + 1) 29 _ (0, 0) _ rfl HF2.out Tryd.underlying29 rfl (by kernel_rfl)) rfl (by rw [HRR.out, hRe]; exact ⟨rfl, fault_chg HB.out (by omega) _ _⟩)
  by_cases h7 : au < 0
  · have HZ : sizeS ⟨ss, ⟨A, n, c⟩, sl, su, au⟩ = false := by
      have := HNe.out
      unfold sizeS fewS
      rw [← Bool.not_eq_true]
      simp only [Bool.and_eq_true, decide_eq_true_eq]
      omega
    go_wp2_with fail
    have HF2 := hid (fault_set HFl.out (.int .i64 2) (.int .i64 0))
    have hRe : R = (2, 0) := by
      rw [HR.out]
      unfold ckS
      rw [if_pos HZ]
    exact bodyPost_ret (v := .agg #[.int .i64 2, .int .i64 0]) (results_cell_row (P := Tryd.prog) (fn := Tryd.f10) rfl _ _ (w.heap.size + 1) 29 _ (0, 0) _ rfl HF2.out Tryd.underlying29 rfl (by kernel_rfl)) rfl (by rw [HRR.out, hRe]; exact ⟨rfl, fault_chg HB.out (by omega) _ _⟩)
  by_cases h8 : (4096 : Int) < au
  · have HZ : sizeS ⟨ss, ⟨A, n, c⟩, sl, su, au⟩ = false := by
      have := HNe.out
      unfold sizeS fewS
      rw [← Bool.not_eq_true]
      simp only [Bool.and_eq_true, decide_eq_true_eq]
      omega
    go_wp2_with fail
    have HF2 := hid (fault_set HFl.out (.int .i64 2) (.int .i64 0))
    have hRe : R = (2, 0) := by
      rw [HR.out]
      unfold ckS
      rw [if_pos HZ]
    exact bodyPost_ret (v := .agg #[.int .i64 2, .int .i64 0]) (results_cell_row (P := Tryd.prog) (fn := Tryd.f10) rfl _ _ (w.heap.size + 1) 29 _ (0, 0) _ rfl HF2.out Tryd.underlying29 rfl (by kernel_rfl)) rfl (by rw [HRR.out, hRe]; exact ⟨rfl, fault_chg HB.out (by omega) _ _⟩)
  have HSz := hid (show sizeS ⟨ss, ⟨A, n, c⟩, sl, su, au⟩ = true by
    have := HNe.out
    unfold sizeS fewS
    simp only [Bool.and_eq_true, decide_eq_true_eq]
    omega)
  have HSl := hid (show 0 ≤ sl by omega)
  have HR2 := hid (show R = match fstBad (mayS ⟨ss, ⟨A, n, c⟩, sl, su, au⟩) ss 0 with
    | some i => (190, (i : Int))
    | none => if lastS ⟨ss, ⟨A, n, c⟩, sl, su, au⟩ = true then (0, 0) else (190, ((ss.length - 1 : Nat) : Int)) by
    rw [HR.out]
    unfold ckS
    rw [HSz.out, if_neg (by simp)]
    rfl)
  have HN0 := hid (show 0 < ss.length by have := HNe.out; omega)
  go_upto_region 5 with (fail)
  clear h1 h2 h3 h4 h5 h6 h7 h8
  go_wp2_with fail
  obtain ⟨F, hF⟩ : ∃ F, F = mayS ⟨ss, ⟨A, n, c⟩, sl, su, au⟩ := ⟨_, rfl⟩
  rw [← hF] at HR2
  have HFe := hid hF
  clear hF x0 x1 x2 x3 f0 f1 ff
  go_loopw [50] (fun i wr => ∃ q : Nat, q ≤ n ∧ i = .int .i64 q ∧ Hid ((ss.take q).all F = true) ∧ Hid (Below w1.heap.size w1 wr)) (fun i _ => n - (intOf i).toNat)
  case atStart => exact ⟨0, by omega, rfl, hid (by simp), hid (Below.refl _ _)⟩
  case round =>
    obtain ⟨q, hq, rfl, HT, HBr⟩ := hrel
    obtain ⟨x0, x1, x2, x3⟩ := BoxP.four (p := ⟨ss, ⟨A, n, c⟩, sl, su, au⟩) (Blk.keep HX.out HBr.out)
    simp only at x0 x1 x2 x3
    have HPr := hid (HP.out.keep HBr.out)
    have HFr := hid (HFl.out.keep HBr.out)
    have HBw := hid (below_then' HB.out HBr.out)
    by_cases hlt : q < n
    · have hlt' : (q : Int) < (n : Int) := by omega
      have hql : q < ss.length := by rw [← HNe.out]; exact hlt
      obtain ⟨b1, o1, hA, hbl, _, hAt⟩ := HPr.out.at hql
      have hA : A = some ⟨b1, o1, none⟩ := hA
      have HTk := hid (all_take F ss hql)
      have HAf := hid (fun h1 h2 => fstBad_at F ss 0 q hql h1 h2)
      have HWq := hid (HWs.out _ (List.getElem_mem hql))
      have HSq := hid (HPr.out.each _ (List.getElem_mem hql))
      have hM := fun W (hh : Below wr.heap.size wr W) => right_any ⟨ss, ⟨A, n, c⟩, sl, su, au⟩ ss[q] W (HSq.out.keep hh) HNe.out HWq.out HSl.out
      rw [← HFe.out] at hM
      obtain ⟨x, hx⟩ : ∃ x, x = ss[q] := ⟨_, rfl⟩
      rw [← hx] at hM HTk HAf HSq hAt
      obtain ⟨am, ham⟩ : ∃ am, am = F x := ⟨_, rfl⟩
      rw [← ham] at hM HTk HAf
      unfold PT.val ST.val at hM
      simp only [hA] at hM
      have HMq := hid hM
      have HAq := hid hAt
      have HSf := hid (st_size' HSq.out)
      have HOf := hid (st_one x)
      have HZc := hid (zero_size HSq.out)
      rw [hA] at x0 ⊢
      clear hM ham hAt HWq hbl hql hx
      go_upto_region 7 with (first
        | ((refine wpList_box rfl 37 _ _ rfl _ 37 x.cells.toArray ?_ ?_ HSf.out ?_ HOf.out ?_); exact rfl; exact rfl; exact HZc.out; intro W4 HB4 HK4)
        | (refine wpList_load_mid rfl 37 _ rfl b1 (o1 + q * 265) rfl x.cells _ HAq.out Tryd.underlying37 rfl (st_size HSq.out) ?_))
      clear x0 x1 x2 x3
      obtain ⟨x0, x1, x2, x3⟩ := BoxP.four (p := ⟨ss, ⟨A, n, c⟩, sl, su, au⟩) (Blk.keep HX.out (below_then' HBr.out HB4.out))
      simp only [hA] at x0 x1 x2 x3
      have HA4 := hid (At.ofBlk HK4.out)
      have HM4 := hid (HMq.out W4 HB4.out)
      cases am
      all_goals
        go_upto_if 58 with (first
          | (refine wpList_load_mid rfl 37 _ rfl wr.heap.size 0 rfl x.cells _ HA4.out Tryd.underlying37 rfl (st_size HSq.out) ?_)
          | (go_at_call 26; (refine HM4.out.mono ?_); rintro e w6 ⟨rfl, hb6⟩; have HB6 := hid (below_then' HB4.out hb6); clear hb6 x0 x1 x2 x3))
      · have f0 := Blk.at (HFr.out.keep HB6.out) 0
        have f1 := Blk.at (HFr.out.keep HB6.out) 1
        have ff := Blk.free (HFr.out.keep HB6.out)
        simp only [List.getElem?_cons_zero, List.getElem?_cons_succ] at f0 f1
        go_wp2_with fail
        have HF2 := hid (fault_set (HFr.out.keep HB6.out) (.int .i64 190) (.int .i64 (q : Int)))
        have hRe : R = (190, (q : Int)) := by
          rw [HR2.out, HAf.out HT.out (by first | rfl | trivial)]
          simp
        exact bodyPost_ret (v := .agg #[.int .i64 190, .int .i64 (q : Int)]) (results_cell_row (P := Tryd.prog) (fn := Tryd.f10) rfl _ _ (w.heap.size + 1) 29 _ (0, 0) _ rfl HF2.out Tryd.underlying29 rfl (by kernel_rfl)) rfl (by rw [HRR.out, hRe]; exact ⟨rfl, fault_chg (below_then' HBw.out HB6.out) (by omega) _ _⟩)
      · go_wp2_with fail
        exact ⟨⟨q + 1, by omega, by go_num, hid (by rw [HTk.out, HT.out]; rfl), hid (below_then' HBr.out HB6.out)⟩, by simp [intOf]; omega⟩
    · obtain rfl : q = n := by omega
      have e : ss.take q = ss := by rw [HNe.out, List.take_length]
      rw [e] at HT
      have HR3 := hid (show R = if lastS ⟨ss, ⟨A, q, c⟩, sl, su, au⟩ = true then (0, 0) else (190, ((ss.length - 1 : Nat) : Int)) by rw [HR2.out, fstBad_none F ss 0 HT.out])
      have hml : ss.length - 1 < ss.length := by have := HN0.out; omega
      obtain ⟨b1, o1, hA, hbl, _, hAt⟩ := HPr.out.at hml
      have hA : A = some ⟨b1, o1, none⟩ := hA
      have HLs := hid (show lastS ⟨ss, ⟨A, q, c⟩, sl, su, au⟩ = (decide ((ss[ss.length - 1]).k = 20) || (decide ((ss[ss.length - 1]).k = 16) || decide ((ss[ss.length - 1]).k = 11))) by
        unfold lastS
        simp only [List.getElem?_eq_getElem hml])
      have c0 := hAt.low.c0
      obtain ⟨lk, hlk⟩ : ∃ lk, lk = (ss[ss.length - 1]).k := ⟨_, rfl⟩
      rw [← hlk] at c0 HLs
      clear hlk hAt hbl hml e hlt
      obtain ⟨m, hm⟩ : ∃ m, q = m + 1 := ⟨q - 1, by have := HN0.out; have := HNe.out; omega⟩
      have hm1 : ss.length - 1 = m := by have := HNe.out; omega
      rw [hm1] at c0 HR3
      obtain ⟨S, hS⟩ : ∃ S, S = nmS lk := ⟨_, rfl⟩
      have HNm := hid (show Calls Tryd.prog 23 #[.int .i64 lk] wr (fun e w' => e = .returned (.string S) ∧ Below wr.heap.size wr w') from by rw [hS]; exact Name_any lk wr)
      have q1 : (S.toList == ({ data := #[101, 110, 100] } : ByteArray).toList) = decide (lk = 20) := by rw [hS]; exact nm_is 20 _ (by decide +kernel) (by decide +kernel) (by decide) lk
      have q2 : (S.toList == ({ data := #[114, 101, 116, 117, 114, 110] } : ByteArray).toList) = decide (lk = 16) := by rw [hS]; exact nm_is 16 _ (by decide +kernel) (by decide +kernel) (by decide) lk
      have q3 : (S.toList == ({ data := #[106, 117, 109, 112] } : ByteArray).toList) = decide (lk = 11) := by rw [hS]; exact nm_is 11 _ (by decide +kernel) (by decide +kernel) (by decide) lk
      clear hS
      rw [hA] at x0 ⊢
      subst hm
      go_upto_region 11 with (go_at_call 23; (with_reducible refine HNm.out.mono ?_); rintro e w2 ⟨rfl, hb2⟩; have HB2 := hid hb2; clear hb2)
      generalize (ByteArray.mk #[101, 110, 100]) = C1 at *
      generalize (ByteArray.mk #[114, 101, 116, 117, 114, 110]) = C2 at *
      generalize (ByteArray.mk #[106, 117, 109, 112]) = C3 at *
      have f0 := Blk.at (HFr.out.keep HB2.out) 0
      have f1 := Blk.at (HFr.out.keep HB2.out) 1
      have ff := Blk.free (HFr.out.keep HB2.out)
      simp only [List.getElem?_cons_zero, List.getElem?_cons_succ] at f0 f1
      clear x0 x1 x2 x3 c0
      by_cases k20 : lk = 20
      · rw [decide_eq_true k20] at q1
        have K20 := hid k20
        clear k20 q2 q3
        go_wp2_with fail
        have HF2 := hid (fault_set (HFr.out.keep HB2.out) (.int .i64 0) (.int .i64 0))
        have hRe : R = (0, 0) := by
          rw [HR3.out, HLs.out, if_pos (by rw [K20.out]; decide)]
        exact bodyPost_ret (v := .agg #[.int .i64 0, .int .i64 0]) (results_cell_row (P := Tryd.prog) (fn := Tryd.f10) rfl _ _ (w.heap.size + 1) 29 _ (0, 0) _ rfl HF2.out Tryd.underlying29 rfl (by kernel_rfl)) rfl (by rw [HRR.out, hRe]; exact ⟨rfl, fault_chg (below_then' HBw.out HB2.out) (by omega) _ _⟩)
      · by_cases k16 : lk = 16
        · rw [decide_eq_false k20] at q1
          rw [decide_eq_true k16] at q2
          have K16 := hid k16
          clear k20 k16 q3
          go_wp2_with fail
          have HF2 := hid (fault_set (HFr.out.keep HB2.out) (.int .i64 0) (.int .i64 0))
          have hRe : R = (0, 0) := by
            rw [HR3.out, HLs.out, if_pos (by rw [K16.out]; decide)]
          exact bodyPost_ret (v := .agg #[.int .i64 0, .int .i64 0]) (results_cell_row (P := Tryd.prog) (fn := Tryd.f10) rfl _ _ (w.heap.size + 1) 29 _ (0, 0) _ rfl HF2.out Tryd.underlying29 rfl (by kernel_rfl)) rfl (by rw [HRR.out, hRe]; exact ⟨rfl, fault_chg (below_then' HBw.out HB2.out) (by omega) _ _⟩)
        · by_cases k11 : lk = 11
          · rw [decide_eq_false k20] at q1
            rw [decide_eq_false k16] at q2
            rw [decide_eq_true k11] at q3
            have K11 := hid k11
            clear k20 k16 k11
            go_wp2_with fail
            have HF2 := hid (fault_set (HFr.out.keep HB2.out) (.int .i64 0) (.int .i64 0))
            have hRe : R = (0, 0) := by
              rw [HR3.out, HLs.out, if_pos (by rw [K11.out]; decide)]
            exact bodyPost_ret (v := .agg #[.int .i64 0, .int .i64 0]) (results_cell_row (P := Tryd.prog) (fn := Tryd.f10) rfl _ _ (w.heap.size + 1) 29 _ (0, 0) _ rfl HF2.out Tryd.underlying29 rfl (by kernel_rfl)) rfl (by rw [HRR.out, hRe]; exact ⟨rfl, fault_chg (below_then' HBw.out HB2.out) (by omega) _ _⟩)
          · rw [decide_eq_false k20] at q1
            rw [decide_eq_false k16] at q2
            rw [decide_eq_false k11] at q3
            have K20 := hid k20
            have K16 := hid k16
            have K11 := hid k11
            clear k20 k16 k11
            go_wp2_with fail
            have HF2 := hid (fault_set (HFr.out.keep HB2.out) (.int .i64 190) (.int .i64 (m : Int)))
            have hRe : R = (190, (m : Int)) := by
              rw [HR3.out, HLs.out, if_neg (by rw [decide_eq_false K20.out, decide_eq_false K16.out, decide_eq_false K11.out]; simp)]
            exact bodyPost_ret (v := .agg #[.int .i64 190, .int .i64 (m : Int)]) (results_cell_row (P := Tryd.prog) (fn := Tryd.f10) rfl _ _ (w.heap.size + 1) 29 _ (0, 0) _ rfl HF2.out Tryd.underlying29 rfl (by kernel_rfl)) rfl (by rw [HRR.out, hRe]; exact ⟨rfl, fault_chg (below_then' HBw.out HB2.out) (by omega) _ _⟩)
end Go.Proofs.YtpbkdokhlimpfaaDoor
