/- code: CodeReached. -/
import Derived.Test.YtfcokopnaohgeaaDoorCeH
import Derived.Deep.CutBlock
import Derived.Deep.CutRange
namespace Go.Proofs.YtfcokopnaohgeaaDoor
set_option linter.unusedSimpArgs false
set_option linter.unusedVariables false
open Go.RowKit

/-- What the law's switch marks of a step. -/
def swL (x : ST) : List Int := if x.k = 11 ∨ x.k = 10 ∨ x.k = 12 ∨ x.k = 15 then [x.a] else if x.k = 13 ∧ 0 ≤ x.b then [x.b] else []
theorem sm_ok2 {p : PT} (h : smS p = true) : p.ss.length ≤ 200 ∧ ∀ x ∈ p.ss, x.ws.length ≤ 300 := by
  unfold smS at h
  rw [Bool.and_eq_true] at h
  exact ⟨by simpa using h.2, fun x hx => by simpa using List.all_eq_true.1 h.1 x hx⟩
theorem ck_step {p : PT} (h : (ckS (mayS p) p).1 = 0) {i : Nat} {x : ST} (hx : p.ss[i]? = some x) : mayS p x = true ∧ ∀ j ∈ stepAt p i, 0 ≤ j ∧ j < (p.ss.length : Int) := ⟨(ck_ok h).2.1 x (List.mem_of_getElem? hx), stepAt_in h i⟩
theorem stepAt_eq {p : PT} {i : Nat} {x : ST} (hx : p.ss[i]? = some x) : stepAt p i = ldL (i : Int) x := by unfold stepAt; rw [hx]
theorem sw_flag {p : PT} {x : ST} (hm : mayS p x = true) (i : Int) (hf : x.k = 13 ∨ x.k = 14) : ∀ l, l ∈ swL x ++ x.ws.map WT.to ↔ l ∈ ldL i x := by
  intro l
  have h1 : ldL i x = fkL x := by unfold ldL; rcases hf with e | e <;> simp [e]
  rw [h1]
  unfold swL fkL
  rcases hf with e | e
  · unfold mayS at hm
    simp only [e] at hm
    simp at hm
    have hb := hm.1.2
    by_cases h0 : 0 ≤ x.b
    · have hb1 : x.b ≠ -1 := by omega
      simp [e, h0, hb1]
      exact or_comm
    · have hb1 : x.b = -1 := by
        rcases hb with hb | hb
        · exact hb
        · exact absurd (amg_in hb).1 h0
      simp [e, hb1]
  · simp [e]
theorem sw_else {x : ST} (i : Int) (h : ¬ (x.k = 13 ∨ x.k = 14)) (h11 : ¬ x.k = 11) (h16 : ¬ (x.k = 16 ∨ x.k = 20)) : ∀ l, l ∈ swL x ++ [i + 1] ↔ l ∈ ldL i x := by
  intro l
  unfold swL ldL
  by_cases hk : x.k = 10 ∨ x.k = 12 ∨ x.k = 15
  · rw [if_neg h16, if_neg h11, if_pos hk, if_pos (.inr hk)]
    simp
  · rw [if_neg h16, if_neg h11, if_neg hk, if_neg h, if_neg (fun e => e.elim h11 hk), if_neg (fun e => h (.inl e.1))]
    simp
theorem may_a {p : PT} {x : ST} (hm : mayS p x = true) (hk : x.k = 11 ∨ x.k = 10 ∨ x.k = 12 ∨ x.k = 15) : amg x.a p.ss.length = true := by
  unfold mayS at hm
  rcases hk with e | e | e | e <;> (simp [e] at hm; exact hm)
theorem may_b {p : PT} {x : ST} (hm : mayS p x = true) (hk : x.k = 13) : x.b = -1 ∨ amg x.b p.ss.length = true := by
  unfold mayS at hm
  simp [hk] at hm
  have := hm.1.2
  simpa using this
theorem may_w {p : PT} {x : ST} (hm : mayS p x = true) (hk : x.k = 13 ∨ x.k = 14) : ∀ y ∈ x.ws, amg y.to p.ss.length = true := by
  intro y hy
  have hf : frkS p x = true := by
    unfold mayS at hm
    rcases hk with e | e
    · simp [e] at hm; exact hm.2
    · simp [e] at hm; exact hm.1
  unfold frkS at hf
  rw [Bool.and_eq_true] at hf
  exact List.all_eq_true.1 hf.1 y hy
theorem sw_11 {x : ST} (i : Int) (h : x.k = 11) : swL x = ldL i x := by unfold swL ldL; simp [h]
theorem sw_16 {x : ST} (i : Int) (h : x.k = 16 ∨ x.k = 20) : swL x = ldL i x := by unfold swL ldL; rcases h with e | e <;> simp [e]
theorem bools_get {l : List Bool} {i : Nat} (h : i < l.length) : ∃ b, l[i]? = some b := ⟨_, List.getElem?_eq_getElem h⟩
set_option maxRecDepth 100000 in
set_option maxHeartbeats 16000000 in
theorem reached_walk (p : PT) (w : World) {P : Nat → Prop} (hP : PtOk w P p) (hn : p.S.n ≤ 9223372036854775807) (ht : Tab10 w) : Calls Tryd.prog 6 #[p.val] w fun e w' => e = .returned (.bool true) ∧ Below w.heap.size w w' := by
  obtain ⟨RR, hRR⟩ : ∃ RR : Ending → World → Prop, RR = fun e w' => e = .returned (.bool true) ∧ Below w.heap.size w w' := ⟨_, rfl⟩
  rw [← hRR]
  have HRR := hid hRR
  obtain ⟨hb, h1⟩ := box_prog w p
  obtain ⟨A, hA⟩ : ∃ A, A = p.S.A := ⟨_, rfl⟩
  have hpc : p.cells.toArray = #[.slice A p.S.n p.S.c, .int .i64 p.sl, .int .i64 p.su, .int .i64 p.au] := by rw [hA]; rfl
  have hv : p.val = .agg #[.slice A p.S.n p.S.c, .int .i64 p.sl, .int .i64 p.su, .int .i64 p.au] := by rw [hA]; rfl
  have HA := hid hA
  have HV := hid hv
  rw [hpc] at hb h1
  have HB := hid hb
  have HX := hid h1
  have HBu := hid (builds_any _ (Tab10.keep ht hb))
  have HSm := hid (fun W (hW : Below w.heap.size w W) => small_any' p W (hP.mono (fun b _ hl => hW.block b hl) hW.size (fun _ h _ => h)) hn)
  have HP := hid (fun W (hW : Below w.heap.size w W) => (hP.mono (Q := P) (fun b _ hl => hW.block b hl) hW.size (fun _ h _ => h)))
  have HNe := hid hP.n
  have Q11 := hid (fun k => nm_is 11 (ByteArray.mk #[106, 117, 109, 112]) (by decide +kernel) (by decide +kernel) (by decide) k)
  have Q10 := hid (fun k => nm_is 10 (ByteArray.mk #[110, 101, 120, 116]) (by decide +kernel) (by decide +kernel) (by decide) k)
  have Q12 := hid (fun k => nm_is 12 (ByteArray.mk #[109, 97, 110, 121]) (by decide +kernel) (by decide +kernel) (by decide) k)
  have Q15 := hid (fun k => nm_is 15 (ByteArray.mk #[99, 97, 108, 108]) (by decide +kernel) (by decide +kernel) (by decide) k)
  have Q13 := hid (fun k => nm_is 13 (ByteArray.mk #[115, 119, 105, 116, 99, 104]) (by decide +kernel) (by decide +kernel) (by decide) k)
  have Q14 := hid (fun k => nm_is 14 (ByteArray.mk #[99, 104, 111, 105, 99, 101]) (by decide +kernel) (by decide +kernel) (by decide) k)
  have Q16 := hid (fun k => nm_is 16 (ByteArray.mk #[114, 101, 116, 117, 114, 110]) (by decide +kernel) (by decide +kernel) (by decide) k)
  have Q20 := hid (fun k => nm_is 20 (ByteArray.mk #[101, 110, 100]) (by decide +kernel) (by decide +kernel) (by decide) k)
  simp only [hv] at HSm
  rw [hv]
  clear hRR hb h1 hpc hP ht hA hv
  go_enter Tryd.func6, Tryd.ntmps6
  generalize (ByteArray.mk #[106, 117, 109, 112]) = C11 at *
  generalize (ByteArray.mk #[110, 101, 120, 116]) = C10 at *
  generalize (ByteArray.mk #[109, 97, 110, 121]) = C12 at *
  generalize (ByteArray.mk #[99, 97, 108, 108]) = C15 at *
  generalize (ByteArray.mk #[115, 119, 105, 116, 99, 104]) = C13 at *
  generalize (ByteArray.mk #[99, 104, 111, 105, 99, 101]) = C14 at *
  generalize (ByteArray.mk #[114, 101, 116, 117, 114, 110]) = C16 at *
  generalize (ByteArray.mk #[101, 110, 100]) = C20 at *
  go_upto_region 1 with (fail)
  generalize w.alloc (.cells #[.slice A p.S.n p.S.c, .int .i64 p.sl, .int .i64 p.su, .int .i64 p.au] 24) = w1 at *
  go_upto_region 3 with (go_at_call 7; (with_reducible refine HBu.out.mono ?_); rintro e w2 ⟨rfl, hb2⟩; have HB2 := hid hb2; clear hb2)
  have HB3 := hid (HB.out.trans (HB2.out.mono HB.out.size))
  obtain ⟨x0, x1, x2, x3⟩ := BoxP.four (p := p) (Blk.keep HX.out HB2.out)
  rw [← HA.out] at x0
  have HSm2 := hid (HSm.out w2 HB3.out)
  obtain ⟨sm, hsm⟩ : ∃ sm, sm = smS p := ⟨_, rfl⟩
  rw [← hsm] at HSm2
  have HSe := hid hsm
  clear hsm HSm HBu
  cases sm
  · go_wp2_with (go_at_call 8; (with_reducible refine HSm2.out.mono ?_); rintro e w3 ⟨rfl, hb3⟩; have HB4 := hid hb3; clear hb3)
    show RR (.returned (.bool true)) w3
    rw [HRR.out]
    exact ⟨rfl, HB3.out.trans (HB4.out.mono HB3.out.size)⟩
  go_upto_region 5 with (go_at_call 8; (with_reducible refine HSm2.out.mono ?_); rintro e w3 ⟨rfl, hb3⟩; have HB4 := hid hb3; clear hb3)
  have hsm := sm_ok2 HSe.out.symm
  have HLl := hid hsm.1
  have HWl := hid (fun x (hx : x ∈ p.ss) => (show x.ws.length ≤ 1000000 by have := hsm.2 x hx; omega))
  have hnb : p.S.n ≤ 200 := by rw [HNe.out]; exact hsm.1
  have HB5 := hid (HB3.out.trans (HB4.out.mono HB3.out.size))
  clear x0 x1 x2 x3 hn hsm
  obtain ⟨x0, x1, x2, x3⟩ := BoxP.four (p := p) (Blk.keep (Blk.keep HX.out HB2.out) HB4.out)
  rw [← HA.out] at x0
  have HRc := hid (Reached_any p w3 (HP.out w3 HB5.out) (by have := HLl.out; omega) HWl.out)
  rw [HV.out] at HRc
  have hmk := fun W => mk_bools p.S.n (by omega) W
  go_upto_region 6 with (go_at_call 22; (with_reducible refine HRc.out.mono ?_); rintro e w4 ⟨gg, met, rfl, hgg, hm4, hb4, hr4⟩; have HG4 := hid (And.intro hgg hm4); have HB6 := hid hb4; have HR4 := hid hr4; clear hgg hm4 hb4 hr4)
  clear x0 x1 x2 x3
  obtain ⟨x0, x1, x2, x3⟩ := BoxP.four (p := p) (Blk.keep (Blk.keep (Blk.keep HX.out HB2.out) HB4.out) HB6.out)
  rw [← HA.out] at x0
  go_upto_region 7 with (fail)
  have hb7 : Below w4.heap.size w4 (w4.alloc (.cells (bools (List.replicate p.S.n false)).toArray 4)) := (Below.refl _ _).alloc (Nat.le_refl _) _
  have HW0 := hid (show RcW w p w.heap.size gg w4.heap.size met (List.replicate p.S.n false) (w4.alloc (.cells (bools (List.replicate p.S.n false)).toArray 4)) from
    ⟨(HB5.out.trans (HB6.out.mono HB5.out.size)).trans (hb7.mono (HB5.out.trans (HB6.out.mono HB5.out.size)).size), (HB5.out.trans (HB6.out.mono HB5.out.size)).size, by have := Blk.lt HG4.out.2; omega, Blk.keep (Blk.keep (Blk.keep (Blk.keep HX.out HB2.out) HB4.out) HB6.out) hb7, Blk.keep HG4.out.2 hb7, heap_alloc_new w4 _⟩)
  have HGl := hid HR4.out.1
  clear hb7 hmk x0 x1 x2 x3
  generalize w4.alloc (.cells (bools (List.replicate p.S.n false)).toArray 4) = w5 at *
  obtain ⟨gw, hgw⟩ : ∃ gw, gw = w4.heap.size := ⟨_, rfl⟩
  rw [← hgw] at HW0
  simp only [← hgw]
  obtain ⟨x0, x1, x2, x3⟩ := BoxP.four (p := p) HW0.out.box
  rw [← HA.out] at x0
  have HC1 := hid (wrong_any p w5 (HP.out w5 HW0.out.bel) (by have := HLl.out; omega) HWl.out)
  obtain ⟨R, hR⟩ : ∃ R, R = ckS (mayS p) p := ⟨_, rfl⟩
  rw [← hR] at HC1
  have HR := hid hR
  rw [HV.out] at HC1
  unfold fltV at HC1
  have hfl : ∀ W, (Instr.field 29 (.agg #[.int .i64 R.1, .int .i64 R.2]) 0).run Tryd.prog W = .ok (.int .i64 R.1) W := fun W => by kernel_rfl
  clear hR hgw HG4
  go_upto_if 25 with (go_at_call 10; (with_reducible refine HC1.out.mono ?_); rintro e w6 ⟨rfl, hb6⟩; have HW6 := hid (HW0.out.keep hb6); clear hb6)
  clear x0 x1 x2 x3 hfl HC1
  have hnn : p.ss.length = p.S.n := HNe.out.symm
  rw [hnn]
  clear hnn
  go_cut [] from 25 to 116 (fun wx => ∃ want, Hid (RcW w p w.heap.size gg gw met want wx) ∧ Hid (rchL p want))
  case first =>
    by_cases hR0 : R.1 = 0
    · have hRb : (R.1 == 0) = true := by simpa using hR0
      simp only [hRb]
      have HCz := hid (show (ckS (mayS p) p).1 = 0 from by rw [← HR.out]; exact hR0)
      have hpos : (0 : Int) < (p.S.n : Int) := by have := (size_ok (ck_ok HCz.out).1).1; have := HNe.out; omega
      clear hR0
      have m0 := HW6.out.cell (i := 0) (b := false) (by rw [List.getElem?_replicate, if_pos (by omega)])
      have mf := Blk.free HW6.out.want
      go_upto_region 9 with (fail)
      have HW7 := hid (HW6.out.mark 0)
      clear m0 mf HW6 HW0
      generalize w6.setCell ⟨gw, 0, none⟩ (.bool true) = w7 at *
      have HM7 := hid (show SwM p ((List.replicate p.S.n false).set 0 true) 0 from by
        have hz := size_ok (ck_ok HCz.out).1
        have hn := HNe.out
        have h0 : ((List.replicate p.S.n false).set 0 true)[0]? = some true := by rw [List.getElem?_set_self (by rw [List.length_replicate]; omega)]
        have hone : ∀ i : Nat, ((List.replicate p.S.n false).set 0 true)[i]? = some true → i = 0 := fun i hi => by
          rw [List.getElem?_set] at hi
          split at hi
          · omega
          · rw [List.getElem?_replicate] at hi
            split at hi <;> simp at hi
        refine ⟨by rw [List.length_set, List.length_replicate]; exact hn, h0, fun i hi => by rw [hone i hi]; exact Rch.zero, .inr ?_⟩
        obtain ⟨m, hm⟩ : ∃ m, p.S.n = m + 1 := ⟨p.S.n - 1, by omega⟩
        rw [hm, List.replicate_succ, List.set_cons_zero]
        simp [cntT])
      generalize (List.replicate p.S.n false).set 0 true = want7 at *
      obtain ⟨x0, x1, x2, x3⟩ := BoxP.four (p := p) HW7.out.box
      rw [← HA.out] at x0
      go_wp2_with fail
      clear x0 x1 x2 x3
      go_loopg [31] p.S.n (fun m t wr => ∃ (q : Nat) (want : List Bool), q ≤ p.S.n ∧ p.S.n ≤ m + q ∧ t = .int .i64 (q : Int) ∧ Hid (RcW w p w.heap.size gg gw met want wr) ∧ Hid (SwM p want q))
      case atStart => exact ⟨0, want7, by omega, by omega, rfl, HW7, HM7⟩
      case round =>
        clear HW7 HM7
        obtain ⟨q, want0, hq, hm, rfl, HW, HM⟩ := hrel
        by_cases hlt : q < p.S.n
        · have hlt' : (q : Int) < (p.S.n : Int) := by omega
          obtain ⟨x0, x1, x2, x3⟩ := BoxP.four (p := p) HW.out.box
          rw [← HA.out] at x0
          go_upto_block 2 with fail
          go_wp2_with fail
          clear x0 x1 x2 x3
          have HI0 := hid HM.out.start
          go_loopg [36] p.S.n (fun m2 t wr => ∃ (i : Nat) (want : List Bool), i ≤ p.S.n ∧ p.S.n ≤ m2 + i ∧ t = .int .i64 (i : Int) ∧ Hid (RcW w p w.heap.size gg gw met want wr) ∧ Hid (SwI p want0 want i))
          case atStart => exact ⟨0, want0, by omega, by omega, rfl, HW, HI0⟩
          case round =>
            clear HW HI0
            obtain ⟨i, want, hi, hm2, rfl, HW, HI⟩ := hrel
            by_cases hlt2 : i < p.S.n
            · have hlt2' : (i : Int) < (p.S.n : Int) := by omega
              have hil : i < p.ss.length := by have := HNe.out; omega
              obtain ⟨b1, o1, hA1, hbl, -, hAt⟩ := (HP.out wr HW.out.bel).at hil
              rw [← HA.out] at hA1
              subst hA1
              have HX1 := hid (show p.ss[i]? = some p.ss[i] from List.getElem?_eq_getElem hil)
              have HSt := hid ((HP.out wr HW.out.bel).each _ (List.getElem_mem hil))
              have HWb := hid (HWl.out _ (List.getElem_mem hil))
              obtain ⟨x, hx⟩ : ∃ x, x = p.ss[i] := ⟨_, rfl⟩
              rw [← hx] at hAt HSt HWb HX1
              have HAt := hid hAt
              have HCk := hid (ck_step HCz.out HX1.out)
              have HSe2 := hid (stepAt_eq HX1.out)
              have HSf := hid (st_size' HSt.out)
              have HOf := hid (st_one x)
              have HZc := hid (zero_size HSt.out)
              have hil2 : i < want.length := by rw [HI.out.len]; exact hil
              obtain ⟨bw, hbw⟩ := bools_get hil2
              have HBw := hid hbw
              clear hx hAt hbl hil hil2 hbw
              go_upto_region 14 with (first
                | ((refine wpList_box rfl 37 _ _ rfl _ 37 x.cells.toArray ?_ ?_ HSf.out ?_ HOf.out ?_); exact rfl; exact rfl; exact HZc.out; intro W4 HB8 HK8)
                | (refine wpList_load_mid rfl 37 _ rfl b1 (o1 + i * 265) rfl x.cells _ HAt.out Tryd.underlying37 rfl (st_size HSt.out) ?_))
              have HW8 := hid (HW.out.keep HB8.out)
              have m1 := HW8.out.cell HBw.out
              clear HW
              cases bw
              · go_wp2_with fail
                go_roundg (p.S.n - (i + 1))
                case measure => omega
                case rel => exact ⟨i + 1, want, by omega, by omega, by go_num, HW8, hid (HI.out.skip (by rw [HBw.out]; simp))⟩
              · have hSA := At.ofBlk HK8.out
                have c0 := hSA.low.c0
                have c1 := hSA.low.c1
                have c2 := hSA.low.c2
                have c8 := hSA.low.c8
                simp only [Nat.zero_add] at c0 c1 c2 c8
                clear hSA
                obtain ⟨S, hS⟩ : ∃ S, S = nmS x.k := ⟨_, rfl⟩
                have HNm := hid (show Calls Tryd.prog 23 #[.int .i64 x.k] W4 (fun e w' => e = .returned (.string S) ∧ Below W4.heap.size W4 w') from by rw [hS]; exact Name_any x.k W4)
                have HSn := hid hS
                clear hS
                go_upto_block 4 with (go_at_call 23; (with_reducible refine HNm.out.mono ?_); rintro e w9 ⟨rfl, hb9⟩; have HB9 := hid hb9; clear hb9)
                have HW9 := hid (HW8.out.keep HB9.out)
                have HK9 := hid (Blk.keep HK8.out HB9.out)
                have hSA := At.ofBlk HK9.out
                clear c0 c1 c2 c8 m1 HNm
                have c1 := hSA.low.c1
                have c2 := hSA.low.c2
                have c8 := hSA.low.c8
                simp only [Nat.zero_add] at c1 c2 c8
                clear hSA
                go_cut [] from 50 to 67 (fun wx => ∃ want2, Hid (RcW w p w.heap.size gg gw met want2 wx) ∧ Hid (MkL want want2 (swL x)) ∧ Hid (Blk wx wr.heap.size 37 x.cells.toArray.toList))
                case first =>
                  by_cases hk11 : x.k = 11
                  · have hk := hk11
                    have HKk := hid hk
                    have ham := may_a HCk.out.1 (by simp [hk])
                    have q11 : (S.toList == C11.toList) = true := by rw [HSn.out, Q11.out]; simp [hk]
                    have q10 : (S.toList == C10.toList) = false := by rw [HSn.out, Q10.out]; simp [hk]
                    have q12 : (S.toList == C12.toList) = false := by rw [HSn.out, Q12.out]; simp [hk]
                    have q15 : (S.toList == C15.toList) = false := by rw [HSn.out, Q15.out]; simp [hk]
                    have q13 : (S.toList == C13.toList) = false := by rw [HSn.out, Q13.out]; simp [hk]
                    clear hk hk11
                    obtain ⟨ja, hja⟩ : ∃ ja : Nat, x.a = (ja : Int) := ⟨(x.a).toNat, by have := amg_in ham; omega⟩
                    have hjn : (ja : Int) < (p.S.n : Int) := by have := amg_in ham; have := HNe.out; omega
                    have hj0 : (0 : Int) ≤ (ja : Int) := by omega
                    have hjl : ja < want.length := by have h1 := HI.out.len; have := HNe.out; omega
                    obtain ⟨bj, hbj⟩ := bools_get hjl
                    have mj := HW9.out.cell hbj
                    have mf := Blk.free HW9.out.want
                    have HJ := hid (And.intro hja hjl)
                    rw [hja] at c1
                    clear hja hjl hbj ham
                    go_wp2_with fail
                    go_meet
                    refine ⟨want.set ja true, hid (HW9.out.mark ja), hid ?_, hid (Blk.other HK9.out (fun e => ?_) _)⟩
                    · have h := (MkL.refl want).add ja HJ.out.2
                      rw [← HJ.out.1] at h
                      exact h.iff (fun l => by simp [swL, HKk.out])
                    · simp only at e
                      have h1 := HK9.out
                      have h2 := HW9.out.want
                      unfold Blk at h1 h2
                      rw [e, h2] at h1
                      injection h1 with h1
                      injection h1 with _ h1
                      revert h1
                      decide
                  by_cases hk10 : x.k = 10
                  · have hk := hk10
                    have HKk := hid hk
                    have ham := may_a HCk.out.1 (by simp [hk])
                    have q11 : (S.toList == C11.toList) = false := by rw [HSn.out, Q11.out]; simp [hk]
                    have q10 : (S.toList == C10.toList) = true := by rw [HSn.out, Q10.out]; simp [hk]
                    have q12 : (S.toList == C12.toList) = false := by rw [HSn.out, Q12.out]; simp [hk]
                    have q15 : (S.toList == C15.toList) = false := by rw [HSn.out, Q15.out]; simp [hk]
                    have q13 : (S.toList == C13.toList) = false := by rw [HSn.out, Q13.out]; simp [hk]
                    clear hk hk10
                    obtain ⟨ja, hja⟩ : ∃ ja : Nat, x.a = (ja : Int) := ⟨(x.a).toNat, by have := amg_in ham; omega⟩
                    have hjn : (ja : Int) < (p.S.n : Int) := by have := amg_in ham; have := HNe.out; omega
                    have hj0 : (0 : Int) ≤ (ja : Int) := by omega
                    have hjl : ja < want.length := by have h1 := HI.out.len; have := HNe.out; omega
                    obtain ⟨bj, hbj⟩ := bools_get hjl
                    have mj := HW9.out.cell hbj
                    have mf := Blk.free HW9.out.want
                    have HJ := hid (And.intro hja hjl)
                    rw [hja] at c1
                    clear hja hjl hbj ham
                    go_wp2_with fail
                    go_meet
                    refine ⟨want.set ja true, hid (HW9.out.mark ja), hid ?_, hid (Blk.other HK9.out (fun e => ?_) _)⟩
                    · have h := (MkL.refl want).add ja HJ.out.2
                      rw [← HJ.out.1] at h
                      exact h.iff (fun l => by simp [swL, HKk.out])
                    · simp only at e
                      have h1 := HK9.out
                      have h2 := HW9.out.want
                      unfold Blk at h1 h2
                      rw [e, h2] at h1
                      injection h1 with h1
                      injection h1 with _ h1
                      revert h1
                      decide
                  by_cases hk12 : x.k = 12
                  · have hk := hk12
                    have HKk := hid hk
                    have ham := may_a HCk.out.1 (by simp [hk])
                    have q11 : (S.toList == C11.toList) = false := by rw [HSn.out, Q11.out]; simp [hk]
                    have q10 : (S.toList == C10.toList) = false := by rw [HSn.out, Q10.out]; simp [hk]
                    have q12 : (S.toList == C12.toList) = true := by rw [HSn.out, Q12.out]; simp [hk]
                    have q15 : (S.toList == C15.toList) = false := by rw [HSn.out, Q15.out]; simp [hk]
                    have q13 : (S.toList == C13.toList) = false := by rw [HSn.out, Q13.out]; simp [hk]
                    clear hk hk12
                    obtain ⟨ja, hja⟩ : ∃ ja : Nat, x.a = (ja : Int) := ⟨(x.a).toNat, by have := amg_in ham; omega⟩
                    have hjn : (ja : Int) < (p.S.n : Int) := by have := amg_in ham; have := HNe.out; omega
                    have hj0 : (0 : Int) ≤ (ja : Int) := by omega
                    have hjl : ja < want.length := by have h1 := HI.out.len; have := HNe.out; omega
                    obtain ⟨bj, hbj⟩ := bools_get hjl
                    have mj := HW9.out.cell hbj
                    have mf := Blk.free HW9.out.want
                    have HJ := hid (And.intro hja hjl)
                    rw [hja] at c1
                    clear hja hjl hbj ham
                    go_wp2_with fail
                    go_meet
                    refine ⟨want.set ja true, hid (HW9.out.mark ja), hid ?_, hid (Blk.other HK9.out (fun e => ?_) _)⟩
                    · have h := (MkL.refl want).add ja HJ.out.2
                      rw [← HJ.out.1] at h
                      exact h.iff (fun l => by simp [swL, HKk.out])
                    · simp only at e
                      have h1 := HK9.out
                      have h2 := HW9.out.want
                      unfold Blk at h1 h2
                      rw [e, h2] at h1
                      injection h1 with h1
                      injection h1 with _ h1
                      revert h1
                      decide
                  by_cases hk15 : x.k = 15
                  · have hk := hk15
                    have HKk := hid hk
                    have ham := may_a HCk.out.1 (by simp [hk])
                    have q11 : (S.toList == C11.toList) = false := by rw [HSn.out, Q11.out]; simp [hk]
                    have q10 : (S.toList == C10.toList) = false := by rw [HSn.out, Q10.out]; simp [hk]
                    have q12 : (S.toList == C12.toList) = false := by rw [HSn.out, Q12.out]; simp [hk]
                    have q15 : (S.toList == C15.toList) = true := by rw [HSn.out, Q15.out]; simp [hk]
                    have q13 : (S.toList == C13.toList) = false := by rw [HSn.out, Q13.out]; simp [hk]
                    clear hk hk15
                    obtain ⟨ja, hja⟩ : ∃ ja : Nat, x.a = (ja : Int) := ⟨(x.a).toNat, by have := amg_in ham; omega⟩
                    have hjn : (ja : Int) < (p.S.n : Int) := by have := amg_in ham; have := HNe.out; omega
                    have hj0 : (0 : Int) ≤ (ja : Int) := by omega
                    have hjl : ja < want.length := by have h1 := HI.out.len; have := HNe.out; omega
                    obtain ⟨bj, hbj⟩ := bools_get hjl
                    have mj := HW9.out.cell hbj
                    have mf := Blk.free HW9.out.want
                    have HJ := hid (And.intro hja hjl)
                    rw [hja] at c1
                    clear hja hjl hbj ham
                    go_wp2_with fail
                    go_meet
                    refine ⟨want.set ja true, hid (HW9.out.mark ja), hid ?_, hid (Blk.other HK9.out (fun e => ?_) _)⟩
                    · have h := (MkL.refl want).add ja HJ.out.2
                      rw [← HJ.out.1] at h
                      exact h.iff (fun l => by simp [swL, HKk.out])
                    · simp only at e
                      have h1 := HK9.out
                      have h2 := HW9.out.want
                      unfold Blk at h1 h2
                      rw [e, h2] at h1
                      injection h1 with h1
                      injection h1 with _ h1
                      revert h1
                      decide
                  by_cases hk13 : x.k = 13
                  · have hk := hk13
                    have HKk := hid hk
                    have hbb := may_b HCk.out.1 hk
                    have q11 : (S.toList == C11.toList) = false := by rw [HSn.out, Q11.out]; simp [hk]
                    have q10 : (S.toList == C10.toList) = false := by rw [HSn.out, Q10.out]; simp [hk]
                    have q12 : (S.toList == C12.toList) = false := by rw [HSn.out, Q12.out]; simp [hk]
                    have q15 : (S.toList == C15.toList) = false := by rw [HSn.out, Q15.out]; simp [hk]
                    have q13 : (S.toList == C13.toList) = true := by rw [HSn.out, Q13.out]; simp [hk]
                    clear hk hk13
                    by_cases hb1 : x.b = -1
                    · have HB1 := hid hb1
                      rw [hb1] at c2
                      clear hb1 hbb
                      go_wp2_with fail
                      go_meet
                      exact ⟨want, HW9, hid ((MkL.refl want).iff (fun l => by simp [swL, HKk.out, HB1.out])), HK9⟩
                    have ham : amg x.b p.ss.length = true := by
                      rcases hbb with h | h
                      · exact absurd h hb1
                      · exact h
                    have HB0 := hid (amg_in ham).1
                    clear hb1 hbb
                    obtain ⟨ja, hja⟩ : ∃ ja : Nat, x.b = (ja : Int) := ⟨(x.b).toNat, by have := amg_in ham; omega⟩
                    have hjn : (ja : Int) < (p.S.n : Int) := by have := amg_in ham; have := HNe.out; omega
                    have hj0 : (0 : Int) ≤ (ja : Int) := by omega
                    have hjl : ja < want.length := by have h1 := HI.out.len; have := HNe.out; omega
                    obtain ⟨bj, hbj⟩ := bools_get hjl
                    have mj := HW9.out.cell hbj
                    have mf := Blk.free HW9.out.want
                    have HJ := hid (And.intro hja hjl)
                    rw [hja] at c2
                    clear hja hjl hbj ham
                    go_wp2_with fail
                    go_meet
                    refine ⟨want.set ja true, hid (HW9.out.mark ja), hid ?_, hid (Blk.other HK9.out (fun e => ?_) _)⟩
                    · have h := (MkL.refl want).add ja HJ.out.2
                      rw [← HJ.out.1] at h
                      exact h.iff (fun l => by simp [swL, HKk.out, HB0.out])
                    · simp only at e
                      have h1 := HK9.out
                      have h2 := HW9.out.want
                      unfold Blk at h1 h2
                      rw [e, h2] at h1
                      injection h1 with h1
                      injection h1 with _ h1
                      revert h1
                      decide
                  have hk : True := trivial
                  have HKk := hid (And.intro hk11 (And.intro hk10 (And.intro hk12 (And.intro hk15 hk13))))
                  have q11 : (S.toList == C11.toList) = false := by rw [HSn.out, Q11.out]; simp [hk11]
                  have q10 : (S.toList == C10.toList) = false := by rw [HSn.out, Q10.out]; simp [hk10]
                  have q12 : (S.toList == C12.toList) = false := by rw [HSn.out, Q12.out]; simp [hk12]
                  have q15 : (S.toList == C15.toList) = false := by rw [HSn.out, Q15.out]; simp [hk15]
                  have q13 : (S.toList == C13.toList) = false := by rw [HSn.out, Q13.out]; simp [hk13]
                  clear hk11 hk10 hk12 hk15 hk13 hk
                  go_wp2_with fail
                  go_meet
                  exact ⟨want, HW9, hid ((MkL.refl want).iff (fun l => by simp [swL, HKk.out.1, HKk.out.2.1, HKk.out.2.2.1, HKk.out.2.2.2.1, HKk.out.2.2.2.2])), HK9⟩
                case rest =>
                  obtain ⟨want2, HWc, HMc, HKc⟩ := hcut
                  clear c1 c2 c8
                  have HStA := hid (fun W (hW : Below w.heap.size w W) => (HP.out W hW).each x (List.mem_of_getElem? HX1.out))
                  obtain ⟨wW, hWW⟩ : ∃ W, W = x.W := ⟨_, rfl⟩
                  obtain ⟨wA, wN, wC⟩ := wW
                  have HWe := hid (show wA = x.W.A from by rw [← hWW])
                  have hwn : wN = x.ws.length := by have := (HStA.out wc HWc.out.bel).wn; rw [← hWW] at this; exact this
                  have HWl2 := hid hwn
                  have hwb : wN ≤ 1000000 := by have := HWb.out; omega
                  have c8 := (At.ofBlk HKc.out).low.c8
                  simp only [Nat.zero_add] at c8
                  rw [← hWW] at c8
                  simp only at c8
                  have hwr : wrap64 ((i : Int) + 1) = (i : Int) + 1 := by unfold wrap64; omega
                  clear hWW hwn HAt HW9 HK9 HB8 HK8 HW8 HB9
                  by_cases hk13 : x.k = 13
                  · have hk := hk13
                    have HFl := hid (show x.k = 13 ∨ x.k = 14 from by simp [hk])
                    have HMw := hid (may_w HCk.out.1 HFl.out)
                    have q11 : (S.toList == C11.toList) = false := by rw [HSn.out, Q11.out]; simp [hk]
                    have q16 : (S.toList == C16.toList) = false := by rw [HSn.out, Q16.out]; simp [hk]
                    have q20 : (S.toList == C20.toList) = false := by rw [HSn.out, Q20.out]; simp [hk]
                    have q13 : (S.toList == C13.toList) = true := by rw [HSn.out, Q13.out]; simp [hk]
                    have q14 : (S.toList == C14.toList) = false := by rw [HSn.out, Q14.out]; simp [hk]
                    clear hk hk13
                    go_wp2_with fail
                    go_loopg [71] wN (fun m3 t wr3 => ∃ (q3 : Nat) (want3 : List Bool), q3 ≤ wN ∧ wN ≤ m3 + q3 ∧ t = .int .i64 (q3 : Int) ∧ Hid (RcW w p w.heap.size gg gw met want3 wr3) ∧ Hid (MkL want want3 (swL x ++ (x.ws.take q3).map WT.to)) ∧ Hid (Blk wr3 wr.heap.size 37 x.cells.toArray.toList))
                    case atStart => exact ⟨0, want2, by omega, by omega, rfl, HWc, hid (by rw [List.take_zero, List.map_nil, List.append_nil]; exact HMc.out), HKc⟩
                    case round =>
                      clear HWc HMc HKc c8
                      obtain ⟨q3, want3, hq3, hm3, rfl, HW3, HM3, HK3⟩ := hrel
                      by_cases hlt3 : q3 < wN
                      · have hlt3' : (q3 : Int) < (wN : Int) := by omega
                        have hql : q3 < x.ws.length := by rw [← HWl2.out]; exact hlt3
                        obtain ⟨b3, o3, hwA, hbl, -, e0, e1⟩ := way_at (HStA.out _ HW3.out.bel) hql
                        rw [← HWe.out] at hwA
                        subst hwA
                        have HTk := hid (show (x.ws.take (q3 + 1)).map WT.to = (x.ws.take q3).map WT.to ++ [(x.ws[q3]).to] from by rw [List.take_succ_eq_append_getElem hql, List.map_append]; rfl)
                        have ham := HMw.out _ (List.getElem_mem hql)
                        obtain ⟨y, hy⟩ : ∃ y, y = x.ws[q3] := ⟨_, rfl⟩
                        rw [← hy] at e0 e1 HTk ham
                        have HSf2 := hid (way_size y)
                        have HOf2 := hid (way_one y)
                        clear hbl hy hql
                        go_upto_region 28 with (first
                          | ((refine wpList_box rfl 46 _ _ rfl _ 46 y.cells.toArray ?_ ?_ HSf2.out ?_ HOf2.out ?_); exact rfl; exact rfl; exact rfl; intro W6 HB6 HK6))
                        have z0 := Blk.at HK6.out 0
                        have z1 := Blk.at HK6.out 1
                        simp only [WT.cells, List.getElem?_cons_zero, List.getElem?_cons_succ] at z0 z1
                        have HW6 := hid (HW3.out.keep HB6.out)
                        have HK7 := hid (Blk.keep HK3.out HB6.out)
                        clear e0 e1 HW3 HK3
                        obtain ⟨ja, hja⟩ : ∃ ja : Nat, y.to = (ja : Int) := ⟨(y.to).toNat, by have := amg_in ham; omega⟩
                        have hjn : (ja : Int) < (p.S.n : Int) := by have := amg_in ham; have := HNe.out; omega
                        have hj0 : (0 : Int) ≤ (ja : Int) := by omega
                        have hjl3 : ja < want3.length := by have h1 := HM3.out.len; have h2 := HI.out.len; have := HNe.out; omega
                        have hjl : ja < want.length := by have h2 := HI.out.len; have := HNe.out; omega
                        obtain ⟨bj, hbj⟩ := bools_get hjl3
                        have mj := HW6.out.cell hbj
                        have mf := Blk.free HW6.out.want
                        have HJ := hid (And.intro hja hjl)
                        rw [hja] at z1
                        clear hja hjl hbj ham hjl3
                        go_wp2_with fail
                        go_roundg (wN - (q3 + 1))
                        case measure => omega
                        case rel =>
                          refine ⟨q3 + 1, want3.set ja true, by omega, by omega, by go_num, hid (HW6.out.mark ja), hid ?_, hid (Blk.other HK7.out (fun e => ?_) _)⟩
                          · have h := HM3.out.add ja HJ.out.2
                            rw [← HJ.out.1] at h
                            rw [HTk.out, ← List.append_assoc]
                            exact h
                          · simp only at e
                            have h1 := HK7.out
                            have h2 := HW6.out.want
                            unfold Blk at h1 h2
                            rw [e, h2] at h1
                            injection h1 with h1
                            injection h1 with _ h1
                            revert h1
                            decide
                      · obtain rfl : q3 = wN := by omega
                        have hM := HM3.out
                        rw [HWl2.out, List.take_length] at hM
                        have HM4 := hid (hM.iff (sw_flag HCk.out.1 (i : Int) HFl.out))
                        clear hM HM3
                        go_wp2_with fail
                        go_roundg (p.S.n - (i + 1))
                        case measure => omega
                        case rel => exact ⟨i + 1, want3, by omega, by omega, by go_num, HW3, hid (HI.out.step HCz.out HBw.out (by rw [HSe2.out]; exact HM4.out))⟩
                  by_cases hk14 : x.k = 14
                  · have hk := hk14
                    have HFl := hid (show x.k = 13 ∨ x.k = 14 from by simp [hk])
                    have HMw := hid (may_w HCk.out.1 HFl.out)
                    have q11 : (S.toList == C11.toList) = false := by rw [HSn.out, Q11.out]; simp [hk]
                    have q16 : (S.toList == C16.toList) = false := by rw [HSn.out, Q16.out]; simp [hk]
                    have q20 : (S.toList == C20.toList) = false := by rw [HSn.out, Q20.out]; simp [hk]
                    have q13 : (S.toList == C13.toList) = false := by rw [HSn.out, Q13.out]; simp [hk]
                    have q14 : (S.toList == C14.toList) = true := by rw [HSn.out, Q14.out]; simp [hk]
                    clear hk hk14 hk13
                    go_wp2_with fail
                    go_loopg [71] wN (fun m3 t wr3 => ∃ (q3 : Nat) (want3 : List Bool), q3 ≤ wN ∧ wN ≤ m3 + q3 ∧ t = .int .i64 (q3 : Int) ∧ Hid (RcW w p w.heap.size gg gw met want3 wr3) ∧ Hid (MkL want want3 (swL x ++ (x.ws.take q3).map WT.to)) ∧ Hid (Blk wr3 wr.heap.size 37 x.cells.toArray.toList))
                    case atStart => exact ⟨0, want2, by omega, by omega, rfl, HWc, hid (by rw [List.take_zero, List.map_nil, List.append_nil]; exact HMc.out), HKc⟩
                    case round =>
                      clear HWc HMc HKc c8
                      obtain ⟨q3, want3, hq3, hm3, rfl, HW3, HM3, HK3⟩ := hrel
                      by_cases hlt3 : q3 < wN
                      · have hlt3' : (q3 : Int) < (wN : Int) := by omega
                        have hql : q3 < x.ws.length := by rw [← HWl2.out]; exact hlt3
                        obtain ⟨b3, o3, hwA, hbl, -, e0, e1⟩ := way_at (HStA.out _ HW3.out.bel) hql
                        rw [← HWe.out] at hwA
                        subst hwA
                        have HTk := hid (show (x.ws.take (q3 + 1)).map WT.to = (x.ws.take q3).map WT.to ++ [(x.ws[q3]).to] from by rw [List.take_succ_eq_append_getElem hql, List.map_append]; rfl)
                        have ham := HMw.out _ (List.getElem_mem hql)
                        obtain ⟨y, hy⟩ : ∃ y, y = x.ws[q3] := ⟨_, rfl⟩
                        rw [← hy] at e0 e1 HTk ham
                        have HSf2 := hid (way_size y)
                        have HOf2 := hid (way_one y)
                        clear hbl hy hql
                        go_upto_region 28 with (first
                          | ((refine wpList_box rfl 46 _ _ rfl _ 46 y.cells.toArray ?_ ?_ HSf2.out ?_ HOf2.out ?_); exact rfl; exact rfl; exact rfl; intro W6 HB6 HK6))
                        have z0 := Blk.at HK6.out 0
                        have z1 := Blk.at HK6.out 1
                        simp only [WT.cells, List.getElem?_cons_zero, List.getElem?_cons_succ] at z0 z1
                        have HW6 := hid (HW3.out.keep HB6.out)
                        have HK7 := hid (Blk.keep HK3.out HB6.out)
                        clear e0 e1 HW3 HK3
                        obtain ⟨ja, hja⟩ : ∃ ja : Nat, y.to = (ja : Int) := ⟨(y.to).toNat, by have := amg_in ham; omega⟩
                        have hjn : (ja : Int) < (p.S.n : Int) := by have := amg_in ham; have := HNe.out; omega
                        have hj0 : (0 : Int) ≤ (ja : Int) := by omega
                        have hjl3 : ja < want3.length := by have h1 := HM3.out.len; have h2 := HI.out.len; have := HNe.out; omega
                        have hjl : ja < want.length := by have h2 := HI.out.len; have := HNe.out; omega
                        obtain ⟨bj, hbj⟩ := bools_get hjl3
                        have mj := HW6.out.cell hbj
                        have mf := Blk.free HW6.out.want
                        have HJ := hid (And.intro hja hjl)
                        rw [hja] at z1
                        clear hja hjl hbj ham hjl3
                        go_wp2_with fail
                        go_roundg (wN - (q3 + 1))
                        case measure => omega
                        case rel =>
                          refine ⟨q3 + 1, want3.set ja true, by omega, by omega, by go_num, hid (HW6.out.mark ja), hid ?_, hid (Blk.other HK7.out (fun e => ?_) _)⟩
                          · have h := HM3.out.add ja HJ.out.2
                            rw [← HJ.out.1] at h
                            rw [HTk.out, ← List.append_assoc]
                            exact h
                          · simp only at e
                            have h1 := HK7.out
                            have h2 := HW6.out.want
                            unfold Blk at h1 h2
                            rw [e, h2] at h1
                            injection h1 with h1
                            injection h1 with _ h1
                            revert h1
                            decide
                      · obtain rfl : q3 = wN := by omega
                        have hM := HM3.out
                        rw [HWl2.out, List.take_length] at hM
                        have HM4 := hid (hM.iff (sw_flag HCk.out.1 (i : Int) HFl.out))
                        clear hM HM3
                        go_wp2_with fail
                        go_roundg (p.S.n - (i + 1))
                        case measure => omega
                        case rel => exact ⟨i + 1, want3, by omega, by omega, by go_num, HW3, hid (HI.out.step HCz.out HBw.out (by rw [HSe2.out]; exact HM4.out))⟩
                  have HFn := hid (show ¬ (x.k = 13 ∨ x.k = 14) from by simp [hk13, hk14])
                  have q13 : (S.toList == C13.toList) = false := by rw [HSn.out, Q13.out]; simp [hk13]
                  have q14 : (S.toList == C14.toList) = false := by rw [HSn.out, Q14.out]; simp [hk14]
                  clear hk13 hk14
                  go_wp2_with fail
                  go_loopg [71] wN (fun m3 t wr3 => ∃ (q3 : Nat) (want3 : List Bool), q3 ≤ wN ∧ wN ≤ m3 + q3 ∧ t = .int .i64 (q3 : Int) ∧ Hid (RcW w p w.heap.size gg gw met want3 wr3) ∧ Hid (MkL want want3 (swL x)) ∧ Hid (Blk wr3 wr.heap.size 37 x.cells.toArray.toList))
                  case atStart => exact ⟨0, want2, by omega, by omega, rfl, HWc, hid (by exact HMc.out), HKc⟩
                  case round =>
                    clear HWc HMc HKc c8
                    obtain ⟨q3, want3, hq3, hm3, rfl, HW3, HM3, HK3⟩ := hrel
                    by_cases hlt3 : q3 < wN
                    · have hlt3' : (q3 : Int) < (wN : Int) := by omega
                      have hql : q3 < x.ws.length := by rw [← HWl2.out]; exact hlt3
                      obtain ⟨b3, o3, hwA, hbl, -, e0, e1⟩ := way_at (HStA.out _ HW3.out.bel) hql
                      rw [← HWe.out] at hwA
                      subst hwA
                      obtain ⟨y, hy⟩ : ∃ y, y = x.ws[q3] := ⟨_, rfl⟩
                      rw [← hy] at e0 e1
                      have HSf2 := hid (way_size y)
                      have HOf2 := hid (way_one y)
                      clear hbl hy hql
                      go_upto_region 28 with (first
                        | ((refine wpList_box rfl 46 _ _ rfl _ 46 y.cells.toArray ?_ ?_ HSf2.out ?_ HOf2.out ?_); exact rfl; exact rfl; exact rfl; intro W6 HB6 HK6))
                      have z0 := Blk.at HK6.out 0
                      have z1 := Blk.at HK6.out 1
                      simp only [WT.cells, List.getElem?_cons_zero, List.getElem?_cons_succ] at z0 z1
                      have HW6 := hid (HW3.out.keep HB6.out)
                      have HK7 := hid (Blk.keep HK3.out HB6.out)
                      clear e0 e1 HW3 HK3
                      go_wp2_with fail
                      go_roundg (wN - (q3 + 1))
                      case measure => omega
                      case rel => exact ⟨q3 + 1, want3, by omega, by omega, by go_num, HW6, HM3, HK7⟩
                    · obtain rfl : q3 = wN := by omega
                      by_cases hk11 : x.k = 11
                      · have hk := hk11
                        have HKk := hid hk
                        have q11 : (S.toList == C11.toList) = true := by rw [HSn.out, Q11.out]; simp [hk]
                        have q16 : (S.toList == C16.toList) = false := by rw [HSn.out, Q16.out]; simp [hk]
                        have q20 : (S.toList == C20.toList) = false := by rw [HSn.out, Q20.out]; simp [hk]
                        have HM4 := hid (show MkL want want3 (ldL (i : Int) x) from by rw [← sw_11 (i : Int) HKk.out]; exact HM3.out)
                        clear hk hk11
                        go_wp2_with fail
                        go_roundg (p.S.n - (i + 1))
                        case measure => omega
                        case rel => exact ⟨i + 1, want3, by omega, by omega, by go_num, HW3, hid (HI.out.step HCz.out HBw.out (by rw [HSe2.out]; exact HM4.out))⟩
                      by_cases hk16 : x.k = 16
                      · have hk := hk16
                        have HKk := hid hk
                        have q11 : (S.toList == C11.toList) = false := by rw [HSn.out, Q11.out]; simp [hk]
                        have q16 : (S.toList == C16.toList) = true := by rw [HSn.out, Q16.out]; simp [hk]
                        have q20 : (S.toList == C20.toList) = false := by rw [HSn.out, Q20.out]; simp [hk]
                        have HM4 := hid (show MkL want want3 (ldL (i : Int) x) from by rw [← sw_16 (i : Int) (.inl HKk.out)]; exact HM3.out)
                        clear hk hk11 hk16
                        go_wp2_with fail
                        go_roundg (p.S.n - (i + 1))
                        case measure => omega
                        case rel => exact ⟨i + 1, want3, by omega, by omega, by go_num, HW3, hid (HI.out.step HCz.out HBw.out (by rw [HSe2.out]; exact HM4.out))⟩
                      by_cases hk20 : x.k = 20
                      · have hk := hk20
                        have HKk := hid hk
                        have q11 : (S.toList == C11.toList) = false := by rw [HSn.out, Q11.out]; simp [hk]
                        have q16 : (S.toList == C16.toList) = false := by rw [HSn.out, Q16.out]; simp [hk]
                        have q20 : (S.toList == C20.toList) = true := by rw [HSn.out, Q20.out]; simp [hk]
                        have HM4 := hid (show MkL want want3 (ldL (i : Int) x) from by rw [← sw_16 (i : Int) (.inr HKk.out)]; exact HM3.out)
                        clear hk hk11 hk16 hk20
                        go_wp2_with fail
                        go_roundg (p.S.n - (i + 1))
                        case measure => omega
                        case rel => exact ⟨i + 1, want3, by omega, by omega, by go_num, HW3, hid (HI.out.step HCz.out HBw.out (by rw [HSe2.out]; exact HM4.out))⟩
                      have q11 : (S.toList == C11.toList) = false := by rw [HSn.out, Q11.out]; simp [hk11]
                      have q16 : (S.toList == C16.toList) = false := by rw [HSn.out, Q16.out]; simp [hk16]
                      have q20 : (S.toList == C20.toList) = false := by rw [HSn.out, Q20.out]; simp [hk20]
                      have HIf := hid (sw_else (i : Int) HFn.out hk11 (by simp [hk16, hk20]))
                      have hin : (i : Int) + 1 < (p.S.n : Int) := by
                        have h1 := HCk.out.2 ((i : Int) + 1) (by rw [HSe2.out]; exact (HIf.out _).1 (by simp))
                        have := HNe.out
                        omega
                      clear hk11 hk16 hk20
                      have hjl3 : i + 1 < want3.length := by have h1 := HM3.out.len; have h2 := HI.out.len; have := HNe.out; omega
                      have hjl : i + 1 < want.length := by have h2 := HI.out.len; have := HNe.out; omega
                      obtain ⟨bj, hbj⟩ := bools_get hjl3
                      have mj := HW3.out.cell hbj
                      have mf := Blk.free HW3.out.want
                      have HM4 := hid (show MkL want (want3.set (i + 1) true) (ldL (i : Int) x) from by
                        have h := HM3.out.add (i + 1) hjl
                        rw [show ((i + 1 : Nat) : Int) = (i : Int) + 1 by omega] at h
                        exact h.iff HIf.out)
                      have HW4 := hid (HW3.out.mark (i + 1))
                      have hi0 : (0 : Int) ≤ (i : Int) + 1 := by omega
                      clear hbj hjl hjl3
                      go_wp2_with fail
                      go_roundg (p.S.n - (i + 1))
                      case measure => omega
                      case rel => exact ⟨i + 1, want3.set (i + 1) true, by omega, by omega, by go_num, HW4, hid (HI.out.step HCz.out HBw.out (by rw [HSe2.out]; exact HM4.out))⟩
            · obtain rfl : i = p.S.n := by omega
              go_wp2_with fail
              go_roundg (p.S.n - (q + 1))
              case measure => omega
              case rel => exact ⟨q + 1, want, by omega, by omega, by go_num, HW, hid (by have h := HI.out; rw [HNe.out] at h; exact h.done HM.out)⟩
        · obtain rfl : q = p.S.n := by omega
          go_wp2_with fail
          go_meet
          refine ⟨want0, HW, hid ⟨HM.out.len, ?_⟩⟩
          rw [if_pos HCz.out]
          have h := HM.out
          rw [HNe.out] at h
          exact h.all
    · have hRb : (R.1 == 0) = false := by simpa using hR0
      have HCz := hid (show ¬ (ckS (mayS p) p).1 = 0 from by rw [← HR.out]; exact hR0)
      clear hR0
      go_wp2_with fail
      go_meet
      refine ⟨List.replicate p.S.n false, HW6, hid ⟨by rw [List.length_replicate]; exact HNe.out, ?_⟩⟩
      rw [if_neg HCz.out]
      exact fun i h => by rw [List.getElem?_replicate] at h; split at h <;> simp at h
  case rest =>
    obtain ⟨want, HWc, HRw⟩ := hcut
    have he : met = want := rch_one HR4.out HRw.out
    subst he
    clear HW6 HW0 HRw
    have hlm : met.length = p.S.n := by have := HR4.out.1; have := HNe.out; omega
    have HLm := hid hlm
    clear hlm
    go_wp2_with fail
    go_loopg [119] p.S.n (fun m t wr => ∃ q : Nat, q ≤ p.S.n ∧ p.S.n ≤ m + q ∧ t = .int .i64 (q : Int) ∧ Hid (RcW w p w.heap.size gg gw met met wr))
    case atStart => exact ⟨0, by omega, by omega, rfl, HWc⟩
    case round =>
      clear HWc
      obtain ⟨q, hq, hm, rfl, HW⟩ := hrel
      by_cases hlt : q < p.S.n
      · have hlt' : (q : Int) < (p.S.n : Int) := by omega
        have hq0 : (0 : Int) ≤ (q : Int) := by omega
        obtain ⟨bq, hbq⟩ := bools_get (l := met) (i := q) (by rw [HLm.out]; exact hlt)
        have m1 := HW.out.cell hbq
        have m2 := HW.out.cellg hbq
        clear hbq
        go_upto_region 38 with (fail)
        have HD := hid (fun n => HW.out.keep (below_drewN (Below.refl wr.heap.size wr) n))
        go_quiet (fail)
        go_wp2_with fail
        go_roundg (p.S.n - (q + 1))
        case measure => omega
        case rel => exact ⟨q + 1, by omega, by omega, by go_num, hid (HD.out _)⟩
      · obtain rfl : q = p.S.n := by omega
        go_wp2_with fail
        show RR (.returned (.bool true)) wr
        rw [HRR.out]
        exact ⟨rfl, HW.out.bel⟩
theorem reached_row {W : World} (p : PT) (h : PtOk W (· < W.heap.size) p ∧ p.S.n ≤ 9223372036854775807 ∧ (∀ x ∈ p.ss, StNum x) ∧ I64 p.sl ∧ I64 p.su ∧ I64 p.au) (ht : Tab10 W) : Calls Tryd.prog 6 #[p.val] W fun e w' => e = .returned (.bool true) ∧ Below W.heap.size W w' := reached_walk p W h.1 h.2.1 ht
end Go.Proofs.YtfcokopnaohgeaaDoor
