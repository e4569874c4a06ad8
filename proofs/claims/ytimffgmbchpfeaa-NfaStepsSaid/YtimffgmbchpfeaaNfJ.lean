/- nfa: put. -/
import Derived.Test.YtimffgmbchpfeaaNfI
namespace Go.Proofs.Ytimffgmbchpfeaa
set_option linter.unusedSimpArgs false
set_option linter.unusedVariables false
open Go.RowKit

theorem putC_drop (ks : List RT) (j : Nat) (h : j < ks.length) (E : EG) (f : Nat) : putC (ks.drop j) E f = putC (ks.drop (j + 1)) (putT ks[j] E f).1 (putT ks[j] E f).2 := by
  rw [List.drop_eq_getElem_cons h, putC]
set_option maxRecDepth 100000 in
set_option maxHeartbeats 4000000 in
theorem put_any : ∀ t, PutAt t := by
  refine RT.ind fun k s ks lo hi ih => ?_
  intro v w O g E f hR hM hO hw hs hf hE hT
  obtain ⟨hc, hk⟩ := wgT_nd hw
  obtain ⟨hvk, hvs, hvn, hvl, hvh, vs, hL⟩ := hR.parts
  have hsz : szT (.nd k s ks lo hi) = 1 + szL ks := by rw [szT]
  have hal := al_belowN w (.cells v.cells.toArray 26)
  have HA := hid ((MAt.start hM hO).keep hal)
  have HV := hid (show Bx (w.alloc (.cells v.cells.toArray 26)) O w.heap.size 26 v.cells from ⟨Blk.fresh w 26 v.cells, fun h => by have := hO _ h; omega⟩)
  have HL := hid (hL.keep hal)
  have HR := hid (Rp.keep hR hal)
  rcases ck1_kinds hc with ⟨rfl, rfl⟩ | ⟨rfl, rfl, h⟩ | ⟨rfl, h⟩ | ⟨rfl, h⟩ | ⟨rfl, x, rfl, h1, h2, h3, h4⟩
  · have e : putT (.nd 1 s [] lo hi) E f = (E, f) := by
      rw [putT, if_neg (by omega), if_neg (by omega), if_neg (by omega), if_neg (by omega)]
    rw [e]
    clear e hR hM hO hw hs hE hT hc hk hL hal HL HR ih hsz
    unfold RV.val
    rw [show (#[.int .i64 v.k, .int .u64 ((wd v.s 0 : Nat) : Int), .int .u64 ((wd v.s 1 : Nat) : Int), .int .u64 ((wd v.s 2 : Nat) : Int), .int .u64 ((wd v.s 3 : Nat) : Int), .slice v.A v.n v.c, .int .i64 v.lo, .int .i64 v.hi] : Array Value) = v.cells.toArray from rfl]
    go_enter Try.func20, Try.ntmps20
    go_upto_region 1 with (fail)
    change Code.wp _ _ _ _ (w.alloc (.cells v.cells.toArray 26))
    generalize w.alloc (.cells v.cells.toArray 26) = w1 at *
    obtain ⟨z0, z1, z2, z3, z4, z5, z6, z7⟩ := Blk.cells8' HV.out.1
    rw [hvk] at z0
    go_wp2_with fail
    go_ret
    exact ⟨rfl, HA.out.stM⟩
  · have e : putT (.nd 2 s [] lo hi) E f = (addE (newE E) f ⟨E.length, s, false⟩, E.length) := by
      rw [putT, if_pos rfl]
    have e2 : cnT (.nd 2 s [] lo hi) = 1 := by rw [cnT, if_pos rfl]
    rw [e2] at hE hT
    rw [e]
    have HVs := hid hvs
    clear e e2 hR hM hO hw hs hc hk hL hal HL HR ih hsz h hvs
    unfold RV.val
    rw [show (#[.int .i64 v.k, .int .u64 ((wd v.s 0 : Nat) : Int), .int .u64 ((wd v.s 1 : Nat) : Int), .int .u64 ((wd v.s 2 : Nat) : Int), .int .u64 ((wd v.s 3 : Nat) : Int), .slice v.A v.n v.c, .int .i64 v.lo, .int .i64 v.hi] : Array Value) = v.cells.toArray from rfl]
    go_enter Try.func20, Try.ntmps20
    go_upto_region 1 with (fail)
    change Code.wp _ _ _ _ (w.alloc (.cells v.cells.toArray 26))
    generalize w.alloc (.cells v.cells.toArray 26) = w1 at *
    obtain ⟨z0, z1, z2, z3, z4, z5, z6, z7⟩ := Blk.cells8' HV.out.1
    rw [hvk] at z0
    go_wp2_with fail
    clear z0 z1 z2 z3 z4 z5 z6 z7
    refine (state_any HA.out.rd (by omega) HA.out.lt).mono ?_
    rintro e w2 ⟨rfl, hk⟩
    obtain ⟨Ok, ha, hc, hn⟩ := MAt.call HA.out hk
    replace HV := hid (HV.out.call hc hn)
    replace HA := hid ha
    clear hk ha hc hn
    obtain ⟨z0, z1, z2, z3, z4, z5, z6, z7⟩ := Blk.cells8' HV.out.1
    rw [HVs.out] at z1 z2 z3 z4
    have hb1 : f < (newE E).length := by rw [newE_len]; omega
    have hb2 : totE (newE E) ≤ 1000000 := by rw [tot_new]; omega
    go_wp2_with fail
    refine (by_any HA.out.rd (f := f) (t := E.length) s hb1 hb2 HA.out.lt).mono ?_
    rintro e w3 ⟨rfl, hk⟩
    obtain ⟨Ok, ha, hc, hn⟩ := MAt.call HA.out hk
    replace HV := hid (HV.out.call hc hn)
    replace HA := hid ha
    clear hk ha hc hn
    go_wp2_with fail
    go_ret
    exact ⟨rfl, HA.out.stM⟩
  · have e : putT (.nd 3 s ks lo hi) E f = putC ks E f := by rw [putT, if_neg (by omega), if_pos rfl]
    have e2 : cnT (.nd 3 s ks lo hi) = cnL ks := by rw [cnT, if_neg (by omega), if_pos rfl]
    rw [e2] at hE hT
    rw [e]
    obtain ⟨FN, hFN⟩ : ∃ FN, FN = putC ks E f := ⟨_, rfl⟩
    rw [← hFN]
    have HFN := hid hFN.symm
    have HIH := hid ih
    have HW := hid hk
    have HPt := hid (putT_mem hk)
    have hlen := szL_len ks
    have hn512 : ks.length ≤ 512 := by omega
    have HSz := hid (fun j (h : j < ks.length) => szK ks j h (by omega))
    have HCn := hid (cnL_drop ks)
    have HVn := hid hvn
    have HEb := hid hE
    have HTb := hid hT
    clear e e2 hR hM hO hw hs hc hk hL hal HR ih hsz h hFN hvn hE hT hlen
    obtain ⟨A, hA0⟩ : ∃ A, A = v.A := ⟨_, rfl⟩
    have HA0 := hid hA0.symm
    rw [← hA0] at HL
    clear hA0
    unfold RV.val
    rw [show (#[.int .i64 v.k, .int .u64 ((wd v.s 0 : Nat) : Int), .int .u64 ((wd v.s 1 : Nat) : Int), .int .u64 ((wd v.s 2 : Nat) : Int), .int .u64 ((wd v.s 3 : Nat) : Int), .slice v.A v.n v.c, .int .i64 v.lo, .int .i64 v.hi] : Array Value) = v.cells.toArray from rfl]
    go_enter Try.func20, Try.ntmps20
    go_upto_region 1 with (fail)
    change Code.wp _ _ _ _ (w.alloc (.cells v.cells.toArray 26))
    generalize w.alloc (.cells v.cells.toArray 26) = w1 at *
    obtain ⟨z0, z1, z2, z3, z4, z5, z6, z7⟩ := Blk.cells8' HV.out.1
    rw [hvk] at z0
    rw [HA0.out, HVn.out] at z5
    go_wp2_with fail
    clear z0 z1 z2 z3 z4 z5 z6 z7
    go_loopg [2, 28] (ks.length + 1) (fun m s2 i wr => ∃ (j : Nat) (Ej : EG) (fj : Nat) (Oj : Nat → Prop), j + m = ks.length + 1 ∧ i = .int .i64 (j : Int) ∧ s2 = .int .i64 (fj : Int) ∧ j ≤ ks.length ∧ fj < Ej.length ∧ Hid (Ej.length + cnL (ks.drop j) ≤ 4200) ∧ Hid (totE Ej + 2 * cnL (ks.drop j) ≤ 20000) ∧ Hid (putC (ks.drop j) Ej fj = FN) ∧ Hid (MAt w O g wr Oj Ej) ∧ Hid (RpL wr Oj A ks vs))
    case atStart => exact ⟨0, E, f, O, by omega, rfl, rfl, by omega, hf, by rw [List.drop_zero]; exact HEb, by rw [List.drop_zero]; exact HTb, by rw [List.drop_zero]; exact HFN, HA, HL⟩
    case round =>
      clear HA HL HFN HEb HTb HV HVn HA0
      obtain ⟨j, Ej, fj, Oj, hjm, rfl, rfl, hj, hfj, HBj, HTj, HFj, HA, HL⟩ := hrel
      obtain ⟨m, rfl⟩ : ∃ m, gk = m + 1 := ⟨gk - 1, by omega⟩
      by_cases hlt : j < ks.length
      · obtain ⟨b, o, hAe, hbl, hbO, hrow⟩ := HL.out.row (by omega)
        obtain ⟨y0, y1, y2, y3, y4, y5, y6, y7⟩ := (hrow j hlt).cells8
        have hcd := HCn.out j hlt
        have HF2 := hid ((putC_drop ks j hlt Ej fj).symm.trans HFj.out)
        have hpo := HPt.out ks[j] (List.getElem_mem _) Ej fj hfj
        have hplt := PutOk.lt (HPt.out ks[j] (List.getElem_mem _)) (E := Ej) (f := fj) hfj
        have hbj := HBj.out
        have htj := HTj.out
        have hp1 := hpo.1
        have hp4 := hpo.2.2.2
        have HKd := hid (HL.out.kid j hlt)
        have hbx := row_new wr 26 #[.int .i64 0, .int .u64 0, .int .u64 0, .int .u64 0, .int .u64 0, .slice none 0 0, .int .i64 0, .int .i64 0] (vs j).cells.toArray
        have HSx := hid (rx_size (vs j))
        have HOne := hid (rx_one (vs j))
        generalize hx : vs j = x at *
        have hwlt := HA.out.lt
        have HX := hid (show Bx ((wr.alloc (.cells #[.int .i64 0, .int .u64 0, .int .u64 0, .int .u64 0, .int .u64 0, .slice none 0 0, .int .i64 0, .int .i64 0] 26)).setRow wr.heap.size x.cells.toArray) Oj wr.heap.size 26 x.cells from ⟨setRow_heap _ _ _ _ _ (0, 0) (heap_alloc_new wr _), fun h => by have := hwlt _ h; omega⟩)
        replace HA := hid (HA.out.keep hbx)
        replace HL := hid (HL.out.keep hbx)
        replace HKd := hid (HKd.out.keep hbx)
        have HIHj := hid (HIH.out ks[j] (List.getElem_mem _))
        have HWj := HW.out ks[j] (List.getElem_mem _)
        have HSj := HSz.out j hlt
        generalize hT : ks[j] = t at *
        have p3 : (j : Int) < (ks.length : Int) := by omega
        have c1 : Ej.length + cnT t ≤ 4200 := by omega
        have c2 : totE Ej + 2 * cnT t ≤ 20000 := by omega
        have HB9 := hid (show (putT t Ej fj).1.length + cnL (ks.drop (j + 1)) ≤ 4200 by omega)
        have HT9 := hid (show totE (putT t Ej fj).1 + 2 * cnL (ks.drop (j + 1)) ≤ 20000 by omega)
        have HQ9 := hid (show (putT t Ej fj).2 < (putT t Ej fj).1.length by omega)
        clear hcd hpo hplt hbj htj hp1 hp4 hbx hwlt hrow hbl hbO HBj HTj HFj
        subst hAe
        go_upto_region 10 with (refine wpList_store_row rfl 26 _ _ rfl wr.heap.size x.cells.toArray ?_ ?_ 26 #[.int .i64 0, .int .u64 0, .int .u64 0, .int .u64 0, .int .u64 0, .slice none 0 0, .int .i64 0, .int .i64 0] (heap_alloc_new wr _) HSx.out ?_ HOne.out ?_; exact rfl; exact rfl; exact rfl; generalize (wr.alloc (.cells #[.int .i64 0, .int .u64 0, .int .u64 0, .int .u64 0, .int .u64 0, .slice none 0 0, .int .i64 0, .int .i64 0] 26)).setRow wr.heap.size x.cells.toArray = w5 at *)
        obtain ⟨x0, x1, x2, x3, x4, x5, x6, x7⟩ := Blk.cells8' HX.out.1
        have HPc := hid (HIHj.out x _ _ g Ej fj HKd.out HA.out.rd HA.out.lt HWj HSj hfj c1 c2)
        unfold RV.val at HPc
        go_wp2_with fail
        refine HPc.out.mono ?_
        rintro e w8 ⟨rfl, hk⟩
        obtain ⟨O8, ha, hc, hn⟩ := MAt.call HA.out hk
        replace HL := hid (HL.out.call hc hn)
        replace HA := hid ha
        clear hk ha hc hn HPc HKd HX x0 x1 x2 x3 x4 x5 x6 x7
        go_wp2_with fail
        go_roundg m
        case measure => omega
        case rel => exact ⟨j + 1, _, _, _, by omega, by go_num, rfl, by omega, HQ9.out, HB9, HT9, HF2, HA, HL⟩
      · obtain rfl : j = ks.length := by omega
        have hd : ks.drop ks.length = [] := by simp
        have hfin := HFj.out
        rw [hd, putC] at hfin
        subst hfin
        clear HCn HSz HIH HW HPt HL
        go_wp2_with fail
        go_ret
        exact ⟨rfl, HA.out.stM⟩
  · have e : putT (.nd 4 s ks lo hi) E f = (putA ks (newE E) f E.length, E.length) := by rw [putT, if_neg (by omega), if_neg (by omega), if_pos rfl]
    have e2 : cnT (.nd 4 s ks lo hi) = 1 + ks.length + cnL ks := by rw [cnT, if_neg (by omega), if_neg (by omega), if_pos rfl]
    rw [e2] at hE hT
    rw [e]
    have HVn := hid hvn
    have HAlt := hid (fun (W : World) (OO : Nat → Prop) (c : Nat) (h1 : RpL W OO v.A ks vs) (h2 : MkR W OO g E) (h3 : ∀ b, OO b → b < W.heap.size) => putAlt_any ks ih v.A c vs f h1 h2 h3 hk (by omega) hf hE hT)
    clear e e2 hR hM hO hw hs hc hk hL hal HR ih hsz h hvn hE hT
    unfold RV.val
    rw [show (#[.int .i64 v.k, .int .u64 ((wd v.s 0 : Nat) : Int), .int .u64 ((wd v.s 1 : Nat) : Int), .int .u64 ((wd v.s 2 : Nat) : Int), .int .u64 ((wd v.s 3 : Nat) : Int), .slice v.A v.n v.c, .int .i64 v.lo, .int .i64 v.hi] : Array Value) = v.cells.toArray from rfl]
    go_enter Try.func20, Try.ntmps20
    go_upto_region 1 with (fail)
    change Code.wp _ _ _ _ (w.alloc (.cells v.cells.toArray 26))
    generalize w.alloc (.cells v.cells.toArray 26) = w1 at *
    obtain ⟨z0, z1, z2, z3, z4, z5, z6, z7⟩ := Blk.cells8' HV.out.1
    rw [hvk] at z0
    rw [HVn.out] at z5
    go_wp2_with fail
    refine (HAlt.out _ _ _ HL.out HA.out.rd HA.out.lt).mono ?_
    rintro e w2 ⟨rfl, hk⟩
    obtain ⟨Ok, ha, hc, hn⟩ := MAt.call HA.out hk
    have HA2 := hid ha
    clear hk ha hc hn HA HL HAlt HV z0 z1 z2 z3 z4 z5 z6 z7
    go_wp2_with fail
    go_ret
    exact ⟨rfl, HA2.out.stM⟩
  · obtain ⟨l0, rfl⟩ : ∃ l0 : Nat, lo = (l0 : Int) := ⟨lo.toNat, by omega⟩
    have hx1 : wgT x = 0 := hk x (by simp)
    have e0 : cnL [x] = cnT x := by unfold cnL; unfold cnL; omega
    have e : putT (.nd 5 s [x] (l0 : Int) hi) E f = rptT (putT x) (l0 : Int) hi E f := by
      rw [putT, if_neg (by omega), if_neg (by omega), if_neg (by omega), if_pos rfl]
      rfl
    have e2 : cnT (.nd 5 s [x] (l0 : Int) hi) = (if hi < 0 then 2 + (l0 + 1) * cnT x else 1 + (hi - l0).toNat + hi.toNat * cnT x) := by
      rw [cnT, if_neg (by omega), if_neg (by omega), if_neg (by omega), if_pos rfl, e0, Int.toNat_natCast]
    rw [e2] at hE hT
    rw [e]
    have hsx : szT x ≤ 512 := by
      have := szL_len [x]
      have : szL [x] = szT x := by unfold szL; unfold szL; omega
      omega
    have HRep := hid (fun (W : World) (OO : Nat → Prop) (h5 : Rp W OO v (.nd 5 s [x] (l0 : Int) hi)) (h6 : MkR W OO g E) (h7 : ∀ b, OO b → b < W.heap.size) => putRep_any v s x l0 hi (ih x (by simp)) f h5 h6 h7 hx1 hsx (by omega) h3 h4 hf hE hT)
    clear e e0 e2 hR hM hO hw hs hc hk hL hal ih hsz hE hT hx1 hsx h1 h2 h3 h4 HL
    unfold RV.val at HRep
    have b2 : (v.k == 2) = false := by simp [hvk]
    have b3 : (v.k == 3) = false := by simp [hvk]
    have b4 : (v.k == 4) = false := by simp [hvk]
    have b5 : (v.k == 5) = true := by simp [hvk]
    clear hvk hvs hvn hvl hvh
    unfold RV.val
    rw [show (#[.int .i64 v.k, .int .u64 ((wd v.s 0 : Nat) : Int), .int .u64 ((wd v.s 1 : Nat) : Int), .int .u64 ((wd v.s 2 : Nat) : Int), .int .u64 ((wd v.s 3 : Nat) : Int), .slice v.A v.n v.c, .int .i64 v.lo, .int .i64 v.hi] : Array Value) = v.cells.toArray from rfl]
    go_enter Try.func20, Try.ntmps20
    go_upto_region 1 with (fail)
    change Code.wp _ _ _ _ (w.alloc (.cells v.cells.toArray 26))
    generalize w.alloc (.cells v.cells.toArray 26) = w1 at *
    obtain ⟨z0, z1, z2, z3, z4, z5, z6, z7⟩ := Blk.cells8' HV.out.1
    go_wp2_with fail
    refine (HRep.out _ _ HR.out HA.out.rd HA.out.lt).mono ?_
    rintro e w2 ⟨rfl, hk⟩
    obtain ⟨Ok, ha, hc, hn⟩ := MAt.call HA.out hk
    have HA2 := hid ha
    clear hk ha hc hn HA HRep HV z0 z1 z2 z3 z4 z5 z6 z7
    go_wp2_with fail
    go_ret
    exact ⟨rfl, HA2.out.stM⟩
end Go.Proofs.Ytimffgmbchpfeaa
