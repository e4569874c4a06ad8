/- nfa: put, of some of which one is taken. -/
import Derived.Test.YtimffgmbchpfeaaNfG
namespace Go.Proofs.Ytimffgmbchpfeaa
set_option linter.unusedSimpArgs false
set_option linter.unusedVariables false
open Go.RowKit

variable {w w' w0 : World} {O O0 : Nat → Prop} {E E' : EG} {g : Nat}
theorem putT_mem {ks : List RT} (h : ∀ t ∈ ks, wgT t = 0) : ∀ t ∈ ks, PutT t := fun t ht => put_ok t (h t ht)
theorem cnL_drop (ks : List RT) (j : Nat) (h : j < ks.length) : cnL (ks.drop j) = cnT ks[j] + cnL (ks.drop (j + 1)) := by
  rw [List.drop_eq_getElem_cons h, cnL]
theorem szK (ks : List RT) (j : Nat) (h : j < ks.length) (hs : szL ks ≤ 512) : szT ks[j] ≤ 512 := by
  have h1 := szL_take ks j h
  have h2 := szL_take_le ks (j + 1)
  omega
set_option maxRecDepth 100000 in
set_option maxHeartbeats 4000000 in
theorem putAlt_any (ks : List RT) (ih : ∀ t ∈ ks, PutAt t) (A : Option Addr) (c : Nat) (vs : Nat → RV) (f : Nat) (hL : RpL w O A ks vs) (hM : MkR w O g E) (hO : ∀ b, O b → b < w.heap.size) (hw : ∀ t ∈ ks, wgT t = 0) (hs : szL ks ≤ 512) (hf : f < E.length) (hE : E.length + (1 + ks.length + cnL ks) ≤ 4200) (hT : totE E + 2 * (1 + ks.length + cnL ks) ≤ 20000) :
    Calls Try.prog 33 #[.pointer (some ⟨g, 0, none⟩), .slice A ks.length c, .int .i64 (f : Int)] w fun e w' => e = .returned (.int .i64 (E.length : Int)) ∧ StM w O g (putA ks (newE E) f E.length) w' := by
  have HA := hid (MAt.start hM hO)
  have HL := hid hL
  have HIH := hid ih
  have HW := hid hw
  have HPt := hid (putT_mem hw)
  have hlen := szL_len ks
  have hn512 : ks.length ≤ 512 := by omega
  have HSz := hid (fun j (h : j < ks.length) => szK ks j h hs)
  have HCn := hid (cnL_drop ks)
  obtain ⟨FN, hFN⟩ : ∃ FN, FN = putA ks (newE E) f E.length := ⟨_, rfl⟩
  rw [← hFN]
  have HFN := hid hFN
  clear hL hM hO ih hw hlen hs hFN
  go_enter Try.func33, Try.ntmps33
  go_wp2_with fail
  refine (state_any HA.out.rd (by omega) HA.out.lt).mono ?_
  rintro e w1 ⟨rfl, hk⟩
  obtain ⟨Ok, ha, hc, hn⟩ := MAt.call HA.out hk
  replace HL := hid (HL.out.call hc hn)
  replace HA := hid ha
  clear hk ha hc hn
  have hnl := newE_len E
  have HT0 := hid (show totE (newE E) + 2 * (ks.length + cnL ks) ≤ 19998 by rw [tot_new]; omega)
  go_wp2_with fail
  go_loopg [15] (ks.length + 1) (fun m i wr => ∃ (j : Nat) (Ej : EG) (Oj : Nat → Prop), j + m = ks.length + 1 ∧ i = .int .i64 (j : Int) ∧ j ≤ ks.length ∧ E.length < Ej.length ∧ Ej.length + ((ks.length - j) + cnL (ks.drop j)) ≤ 4200 ∧ Hid (totE Ej + 2 * ((ks.length - j) + cnL (ks.drop j)) ≤ 19998) ∧ Hid (putA (ks.drop j) Ej f E.length = FN) ∧ Hid (MAt w O g wr Oj Ej) ∧ Hid (RpL wr Oj A ks vs))
  case atStart => exact ⟨0, newE E, Ok, by omega, rfl, by omega, by omega, by rw [List.drop_zero]; omega, by rw [List.drop_zero]; simpa using HT0, by rw [List.drop_zero]; exact hid HFN.out.symm, HA, HL⟩
  case round =>
    clear HA HL HFN HT0
    obtain ⟨j, Ej, Oj, hjm, rfl, hj, hEj, hbj, HTj, HFj, HA, HL⟩ := hrel
    obtain ⟨m, rfl⟩ : ∃ m, gk = m + 1 := ⟨gk - 1, by omega⟩
    by_cases hlt : j < ks.length
    · obtain ⟨b, o, hAe, hbl, hbO, hrow⟩ := HL.out.row (by omega)
      obtain ⟨y0, y1, y2, y3, y4, y5, y6, y7⟩ := (hrow j hlt).cells8
      have hcd := HCn.out j hlt
      have hfd : putA (ks.drop j) Ej f E.length = putA (ks.drop (j + 1)) (freeE (putT ks[j] (freeE (newE Ej) f Ej.length) Ej.length).1 (putT ks[j] (freeE (newE Ej) f Ej.length) Ej.length).2 E.length) f E.length := by rw [List.drop_eq_getElem_cons hlt, putA]
      have HF2 := hid (hfd.symm.trans HFj.out)
      have hl1 : (freeE (newE Ej) f Ej.length).length = Ej.length + 1 := by rw [freeE_len, newE_len]
      have hpo := HPt.out ks[j] (List.getElem_mem _) (freeE (newE Ej) f Ej.length) Ej.length (by omega)
      have hplt := PutOk.lt (HPt.out ks[j] (List.getElem_mem _)) (E := freeE (newE Ej) f Ej.length) (f := Ej.length) (by omega)
      have ht1 := tot_free (newE Ej) f Ej.length
      rw [tot_new] at ht1
      have htj := HTj.out
      have HPl := hid hpo.1
      have HPt4 := hid hpo.2.2.2
      have HKd := hid (HL.out.kid j hlt)
      have hbx := row_new wr 26 #[.int .i64 0, .int .u64 0, .int .u64 0, .int .u64 0, .int .u64 0, .slice none 0 0, .int .i64 0, .int .i64 0] (vs j).cells.toArray
      have HSx := hid (rx_size (vs j))
      have HOne := hid (rx_one (vs j))
      generalize hx : vs j = x at *
      have hwlt := HA.out.lt
      have HX := hid (show Bx ((wr.alloc (.cells #[.int .i64 0, .int .u64 0, .int .u64 0, .int .u64 0, .int .u64 0, .slice none 0 0, .int .i64 0, .int .i64 0] 26)).setRow wr.heap.size x.cells.toArray) Oj wr.heap.size 26 x.cells from ⟨setRow_heap _ _ _ _ _ (0, 0) (heap_alloc_new wr _), fun h => by have := hwlt _ h; omega⟩)
      replace HA := hid (HA.out.keep hbx)
      replace HL := hid (HL.out.keep hbx)
      replace HKd := hid (HKd.out.keep hbx)
      have HIHj := hid (HIH.out ks[j] (List.getElem_mem _))
      have HWj := HW.out ks[j] (List.getElem_mem _)
      have HSj := HSz.out j hlt
      generalize hT : ks[j] = t at *
      have p3 : (j : Int) < (ks.length : Int) := by omega
      have HTot := hid (show totE (freeE (newE Ej) f Ej.length) + 2 * cnT t ≤ 20000 by omega)
      have HTt2 := hid (show totE (freeE (newE Ej) f Ej.length) + 2 * cnT t + 1 + 2 * ((ks.length - (j + 1)) + cnL (ks.drop (j + 1))) ≤ 19998 by omega)
      have HLn2 := hid (show Ej.length + 1 + cnT t + ((ks.length - (j + 1)) + cnL (ks.drop (j + 1))) ≤ 4200 by omega)
      clear hfd HFj hbx hrow hbl hbO hpo ht1 hwlt HTj
      subst hAe
      go_upto_region 5 with (refine wpList_store_row rfl 26 _ _ rfl wr.heap.size x.cells.toArray ?_ ?_ 26 #[.int .i64 0, .int .u64 0, .int .u64 0, .int .u64 0, .int .u64 0, .slice none 0 0, .int .i64 0, .int .i64 0] (heap_alloc_new wr _) HSx.out ?_ HOne.out ?_; exact rfl; exact rfl; exact rfl; generalize (wr.alloc (.cells #[.int .i64 0, .int .u64 0, .int .u64 0, .int .u64 0, .int .u64 0, .slice none 0 0, .int .i64 0, .int .i64 0] 26)).setRow wr.heap.size x.cells.toArray = w5 at *)
      go_wp2_with fail
      refine (state_any HA.out.rd (by omega) HA.out.lt).mono ?_
      rintro e w6 ⟨rfl, hk⟩
      obtain ⟨Ok, ha, hc, hn⟩ := MAt.call HA.out hk
      replace HL := hid (HL.out.call hc hn)
      replace HKd := hid (HKd.out.call hc hn)
      replace HX := hid (HX.out.call hc hn)
      replace HA := hid ha
      clear hk ha hc hn
      go_wp2_with fail
      refine (free_any HA.out.rd (f := f) (t := Ej.length) (by rw [newE_len]; omega) (by rw [tot_new]; omega)).mono ?_
      rintro e w7 ⟨rfl, hk⟩
      obtain ⟨Ok, ha, hc, hn⟩ := MAt.call HA.out hk
      replace HL := hid (HL.out.call hc hn)
      replace HKd := hid (HKd.out.call hc hn)
      replace HX := hid (HX.out.call hc hn)
      replace HA := hid ha
      clear hk ha hc hn
      obtain ⟨x0, x1, x2, x3, x4, x5, x6, x7⟩ := Blk.cells8' HX.out.1
      have HPc := hid (HIHj.out x w7 _ g _ Ej.length HKd.out HA.out.rd HA.out.lt HWj HSj (by omega) (by rw [hl1]; have := HLn2.out; omega) HTot.out)
      unfold RV.val at HPc
      go_wp2_with fail
      refine HPc.out.mono ?_
      rintro e w8 ⟨rfl, hk⟩
      obtain ⟨O8, ha, hc, hn⟩ := MAt.call HA.out hk
      replace HL := hid (HL.out.call hc hn)
      replace HA := hid ha
      clear hk ha hc hn HPc HKd HX x0 x1 x2 x3 x4 x5 x6 x7
      go_wp2_with fail
      refine (free_any HA.out.rd (by have := HPl.out; omega) (by have := HPt4.out; have := HTot.out; omega)).mono ?_
      rintro e w9 ⟨rfl, hk⟩
      obtain ⟨Ok, ha, hc, hn⟩ := MAt.call HA.out hk
      replace HL := hid (HL.out.call hc hn)
      replace HA := hid ha
      clear hk ha hc hn
      go_wp2_with fail
      go_roundg m
      case measure => omega
      case rel =>
        have h1 := HPl.out
        have h2 := HPt4.out
        have h3 := HLn2.out
        have h4 := HTt2.out
        have h5 := tot_free (putT t (freeE (newE Ej) f Ej.length) Ej.length).1 (putT t (freeE (newE Ej) f Ej.length) Ej.length).2 E.length
        exact ⟨j + 1, _, _, by omega, by go_num, by omega, by rw [freeE_len]; omega, by rw [freeE_len]; omega, hid (by omega), HF2, HA, HL⟩
    · obtain rfl : j = ks.length := by omega
      have hd : ks.drop ks.length = [] := by simp
      have hfin := HFj.out
      rw [hd, putA] at hfin
      subst hfin
      clear HCn HSz HIH HW HPt HL
      go_wp2_with fail
      go_ret
      exact ⟨rfl, HA.out.stM⟩
end Go.Proofs.Ytimffgmbchpfeaa
