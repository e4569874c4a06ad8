/- nfa: put, of one that comes several times. -/
import Derived.Test.YtimffgmbchpfeaaNfH
import Derived.Deep.LoopGhost
namespace Go.Proofs.Ytimffgmbchpfeaa
set_option linter.unusedSimpArgs false
set_option linter.unusedVariables false
open Go.RowKit

variable {w w' w0 : World} {O O0 : Nat → Prop} {E E' : EG} {g : Nat}
theorem rpt_neg {P : PF} {l0 : Nat} {hi : Int} {E Ei : EG} {f fi : Nat} (h : hi < 0) (hm : (Ei, fi) = minR P l0 E f) : rptT P (l0 : Int) hi E f = (freeE (freeE (P (freeE (newE (newE Ei)) fi (newE Ei).length) (newE Ei).length).1 (P (freeE (newE (newE Ei)) fi (newE Ei).length) (newE Ei).length).2 (newE Ei).length) (newE Ei).length Ei.length, Ei.length) := by
  unfold rptT
  rw [Int.toNat_natCast, ← hm]
  simp only [if_pos h]
theorem rpt_pos {P : PF} {l0 : Nat} {hi : Int} {E Ei : EG} {f fi : Nat} (h : ¬ hi < 0) (hm : (Ei, fi) = minR P l0 E f) : rptT P (l0 : Int) hi E f = (freeE (optR P Ei.length (hi - l0).toNat (newE Ei) fi).1 (optR P Ei.length (hi - l0).toNat (newE Ei) fi).2 Ei.length, Ei.length) := by
  unfold rptT
  rw [Int.toNat_natCast, ← hm]
  simp only [if_neg h]
set_option maxRecDepth 100000 in
set_option maxHeartbeats 4000000 in
theorem putRep_any (v : RV) (s : BS) (t : RT) (l0 : Nat) (hi : Int) (ih : PutAt t) (f : Nat) (hR : Rp w O v (.nd 5 s [t] (l0 : Int) hi)) (hM : MkR w O g E) (hO : ∀ b, O b → b < w.heap.size) (hwt : wgT t = 0) (hst : szT t ≤ 512) (hl0 : l0 ≤ 256) (hh : hi ≤ 256) (hlh : hi < 0 ∨ (l0 : Int) ≤ hi) (hf : f < E.length)
    (hE : E.length + (if hi < 0 then 2 + (l0 + 1) * cnT t else 1 + (hi - l0).toNat + hi.toNat * cnT t) ≤ 4200) (hT : totE E + 2 * (if hi < 0 then 2 + (l0 + 1) * cnT t else 1 + (hi - l0).toNat + hi.toNat * cnT t) ≤ 20000) :
    Calls Try.prog 34 #[.pointer (some ⟨g, 0, none⟩), v.val, .int .i64 (f : Int)] w fun e w' => e = .returned (.int .i64 ((rptT (putT t) (l0 : Int) hi E f).2 : Nat)) ∧ StM w O g (rptT (putT t) (l0 : Int) hi E f).1 w' := by
  obtain ⟨-, -, hvn, hvl, hvh, vs, hL⟩ := hR.parts
  obtain ⟨b, o, hAe, hbl, hbO, hrow⟩ := hL.row (by simp)
  have hkid := hL.kid 0 (by simp)
  have hrow0 := hrow 0 (by simp)
  simp only [Nat.zero_mul, Nat.add_zero, List.getElem_cons_zero] at hkid hrow0
  generalize vs 0 = x at *
  have hPo := put_ok t hwt
  have hmin : l0 * cnT t + 1 ≤ (if hi < 0 then 2 + (l0 + 1) * cnT t else 1 + (hi - l0).toNat + hi.toNat * cnT t) := by
    split
    · rw [Nat.succ_mul]; omega
    · have : hi.toNat * cnT t = l0 * cnT t + (hi - l0).toNat * cnT t := by rw [← Nat.add_mul]; congr 1; omega
      omega
  have hal := al_belowN w (.cells v.cells.toArray 26)
  have HA := hid ((MAt.start hM hO).keep hal)
  have HV := hid (show Bx (w.alloc (.cells v.cells.toArray 26)) O w.heap.size 26 v.cells from ⟨Blk.fresh w 26 v.cells, fun h => by have := hO _ h; omega⟩)
  have HKd := hid (hkid.keep hal)
  have hrw := hrow0.block (hal.block b hbl)
  have HIH := hid ih
  have HWt := hid hwt
  have HSt := hid hst
  have HPo := hid hPo
  have HMi := hid hmin
  have HEb := hid hE
  have HTb := hid hT
  have HVl := hid hvl
  have HVh := hid hvh
  have HVn := hid hvn
  have HHi := hid hlh
  obtain ⟨FN, hFN⟩ : ∃ FN, FN = rptT (putT t) (l0 : Int) hi E f := ⟨_, rfl⟩
  rw [← hFN]
  have HFN := hid hFN
  clear hR hL hM hO ih hwt hst hkid hrow hrow0 hbl hbO hPo hmin hal hE hT hvn hvl hvh hlh hFN
  unfold RV.val
  rw [show (#[.int .i64 v.k, .int .u64 ((wd v.s 0 : Nat) : Int), .int .u64 ((wd v.s 1 : Nat) : Int), .int .u64 ((wd v.s 2 : Nat) : Int), .int .u64 ((wd v.s 3 : Nat) : Int), .slice v.A v.n v.c, .int .i64 v.lo, .int .i64 v.hi] : Array Value) = v.cells.toArray from rfl]
  go_enter Try.func34, Try.ntmps34
  go_upto_region 1 with (fail)
  change Code.wp _ _ _ _ (w.alloc (.cells v.cells.toArray 26))
  generalize w.alloc (.cells v.cells.toArray 26) = w1 at *
  have hbx := row_new w1 26 #[.int .i64 0, .int .u64 0, .int .u64 0, .int .u64 0, .int .u64 0, .slice none 0 0, .int .i64 0, .int .i64 0] x.cells.toArray
  have HSx := hid (rx_size x)
  have HOne := hid (rx_one x)
  have hwlt := HA.out.lt
  have HX := hid (show Bx ((w1.alloc (.cells #[.int .i64 0, .int .u64 0, .int .u64 0, .int .u64 0, .int .u64 0, .slice none 0 0, .int .i64 0, .int .i64 0] 26)).setRow w1.heap.size x.cells.toArray) O w1.heap.size 26 x.cells from ⟨setRow_heap _ _ _ _ _ (0, 0) (heap_alloc_new w1 _), fun h => by have := hwlt _ h; omega⟩)
  obtain ⟨z0, z1, z2, z3, z4, z5, z6, z7⟩ := Blk.cells8' HV.out.1
  obtain ⟨y0, y1, y2, y3, y4, y5, y6, y7⟩ := hrw.cells8
  rw [hAe, show v.n = 1 from HVn.out] at z5
  replace HA := hid (HA.out.keep hbx)
  replace HKd := hid (HKd.out.keep hbx)
  replace HV := hid (HV.out.keep hbx)
  clear hrw hwlt hbx
  go_upto_region 2 with (refine wpList_store_row rfl 26 _ _ rfl w1.heap.size x.cells.toArray ?_ ?_ 26 #[.int .i64 0, .int .u64 0, .int .u64 0, .int .u64 0, .int .u64 0, .slice none 0 0, .int .i64 0, .int .i64 0] (heap_alloc_new w1 _) HSx.out ?_ HOne.out ?_; exact rfl; exact rfl; exact rfl; generalize (w1.alloc (.cells #[.int .i64 0, .int .u64 0, .int .u64 0, .int .u64 0, .int .u64 0, .slice none 0 0, .int .i64 0, .int .i64 0] 26)).setRow w1.heap.size x.cells.toArray = w5 at *)
  clear y0 y1 y2 y3 y4 y5 y6 y7 z0 z1 z2 z3 z4 z5 z6 z7
  generalize w1.heap.size = B at *
  clear HSx HOne
  obtain ⟨z0, z1, z2, z3, z4, z5, z6, z7⟩ := Blk.cells8' HV.out.1
  rw [HVl.out] at z6
  go_upto_block 0 with fail
  clear z0 z1 z2 z3 z4 z5 z6 z7
  go_cut [2, 8, 18] from 19 to 28 (fun s2 s8 s18 wr => ∃ (Ei : EG) (fi : Nat) (Oi : Nat → Prop), s2 = .int .i64 (fi : Int) ∧ Hid ((Ei, fi) = minR (putT t) l0 E f) ∧ Hid (MAt w O g wr Oi Ei) ∧ Hid (Bx wr Oi B 26 x.cells) ∧ Hid (Rp wr Oi x t) ∧ Hid (Bx wr Oi w.heap.size 26 v.cells))
  case first =>
    go_wp2_with fail
    go_loopg [2, 8, 18] (l0 + 1) (fun m s2 s8 s18 wr => ∃ (i : Nat) (Ei : EG) (fi : Nat) (Oi : Nat → Prop), i + m = l0 + 1 ∧ i ≤ l0 ∧ s18 = .int .i64 (i : Int) ∧ s2 = .int .i64 (fi : Int) ∧ fi < Ei.length ∧ Hid (Ei.length = E.length + i * cnT t) ∧ Hid (totE Ei ≤ totE E + 2 * (i * cnT t)) ∧ Hid (minR (putT t) (l0 - i) Ei fi = minR (putT t) l0 E f) ∧ Hid (MAt w O g wr Oi Ei) ∧ Hid (Bx wr Oi B 26 x.cells) ∧ Hid (Rp wr Oi x t) ∧ Hid (Bx wr Oi w.heap.size 26 v.cells))
    case atStart => exact ⟨0, E, f, O, by omega, by omega, rfl, rfl, hf, hid (by simp), hid (by simp), hid rfl, HA, HX, HKd, HV⟩
    case round =>
      clear HA HX HKd HV
      obtain ⟨i, Ei, fi, Oi, him, hi0, rfl, rfl, hfi, HLi, HTi, HMi2, HA, HX, HKd, HV⟩ := hrel
      obtain ⟨m, rfl⟩ : ∃ m, gk = m + 1 := ⟨gk - 1, by omega⟩
      by_cases hlt : i < l0
      · have p3 : (i : Int) < (l0 : Int) := by omega
        have hcm : (i + 1) * cnT t ≤ l0 * cnT t := Nat.mul_le_mul_right _ (by omega)
        have hsm : (i + 1) * cnT t = i * cnT t + cnT t := Nat.succ_mul _ _
        have hmi := HMi.out
        have heb := HEb.out
        have htb := HTb.out
        have hli := HLi.out
        have hti := HTi.out
        obtain ⟨q1, q2, q3, q4⟩ := HPo.out Ei fi hfi
        have q5 := PutOk.lt HPo.out (E := Ei) (f := fi) hfi
        have hstep : minR (putT t) (l0 - i) Ei fi = if (putT t Ei fi).2 = fi then ((putT t Ei fi).1, fi) else minR (putT t) (l0 - (i + 1)) (putT t Ei fi).1 (putT t Ei fi).2 := by
          rw [show l0 - i = (l0 - (i + 1)) + 1 by omega, minR]
        have HS := hid (hstep.symm.trans HMi2.out)
        have b1 : Ei.length + cnT t ≤ 4200 := by omega
        have b2 : totE Ei + 2 * cnT t ≤ 20000 := by omega
        have HL1 := hid (show (putT t Ei fi).1.length = E.length + (i + 1) * cnT t by omega)
        have HT1 := hid (show totE (putT t Ei fi).1 ≤ totE E + 2 * ((i + 1) * cnT t) by omega)
        have q6 : (putT t Ei fi).2 < (putT t Ei fi).1.length := by omega
        clear hcm hsm hmi heb htb hli hti q1 q2 q3 q4 q5 hstep
        obtain ⟨x0, x1, x2, x3, x4, x5, x6, x7⟩ := Blk.cells8' HX.out.1
        have HPc := hid (HIH.out x _ _ g (Ei) (fi) HKd.out HA.out.rd HA.out.lt HWt.out HSt.out (hfi) (b1) (b2))
        unfold RV.val at HPc
        go_wp2_with fail
        refine HPc.out.mono ?_
        rintro e w8 ⟨rfl, hk⟩
        obtain ⟨Ok, ha, hc, hn⟩ := MAt.call HA.out hk
        replace HX := hid (HX.out.call hc hn)
        replace HKd := hid (HKd.out.call hc hn)
        replace HV := hid (HV.out.call hc hn)
        replace HA := hid ha
        clear hk ha hc hn HPc x0 x1 x2 x3 x4 x5 x6 x7
        generalize hP : putT t Ei fi = pr at *
        by_cases hbr : pr.2 = fi
        · have HS2 := HS.out
          rw [if_pos hbr] at HS2
          have hb' : (pr.2 : Int) = (fi : Int) := by omega
          have HS3 := hid HS2
          clear HS2 HS hP hbr
          rw [hb']
          go_wp2_with fail
          go_meet
          case rel => exact ⟨pr.1, fi, Ok, rfl, HS3, HA, HX, HKd, HV⟩
        · have HS2 := HS.out
          rw [if_neg hbr] at HS2
          have hb' : ¬ (pr.2 : Int) = (fi : Int) := by omega
          have HS3 := hid HS2
          clear HS2 HS hP hbr
          go_wp2_with fail
          go_roundg m
          case measure => omega
          case rel => exact ⟨i + 1, pr.1, pr.2, Ok, by omega, by omega, by go_num, rfl, q6, HL1, HT1, HS3, HA, HX, HKd, HV⟩
      · obtain rfl : i = l0 := by omega
        have hfin := HMi2.out
        rw [show i - i = 0 by omega, minR] at hfin
        have HF2 := hid hfin
        clear hfin HMi2
        go_wp2_with fail
        go_meet
        case rel => exact ⟨Ei, fi, Oi, rfl, HF2, HA, HX, HKd, HV⟩
  case rest =>
    clear HA HX HKd HV
    obtain ⟨Ei, fi, Oi, rfl, HMr, HA, HX, HKd, HV⟩ := hcut
    have hm := minR_ok HPo.out l0
    obtain ⟨m1, -, -, m4⟩ := hm E f hf
    have ml := PutOk.lt hm hf
    rw [← HMr.out] at m1 m4 ml
    simp only at m1 m4 ml
    have heb := HEb.out
    have htb := HTb.out
    have hmi := HMi.out
    have hfl : fi < Ei.length := by omega
    have hEl : Ei.length ≤ 4200 := by omega
    by_cases hneg : hi < 0
    · have hfn := HFN.out
      rw [rpt_neg hneg HMr.out] at hfn
      rw [if_pos hneg] at heb htb
      have hsm : (l0 + 1) * cnT t = l0 * cnT t + cnT t := Nat.succ_mul _ _
      have hl3 : (freeE (newE (newE Ei)) fi (newE Ei).length).length = Ei.length + 2 := by rw [freeE_len, newE_len, newE_len]
      have hnl := newE_len Ei
      have hnl2 := newE_len (newE Ei)
      have t1 := tot_free (newE (newE Ei)) fi (newE Ei).length
      rw [tot_new, tot_new] at t1
      have hlpl : (newE Ei).length < (freeE (newE (newE Ei)) fi (newE Ei).length).length := by omega
      obtain ⟨q1, -, -, q4⟩ := HPo.out _ _ hlpl
      have q5 := PutOk.lt HPo.out hlpl
      have c1 : (freeE (newE (newE Ei)) fi (newE Ei).length).length + cnT t ≤ 4200 := by omega
      have c2 : totE (freeE (newE (newE Ei)) fi (newE Ei).length) + 2 * cnT t ≤ 20000 := by omega
      have c3 : totE (newE (newE Ei)) ≤ 1000000 := by rw [tot_new, tot_new]; omega
      have c4 : fi < (newE (newE Ei)).length := by omega
      have HQ1 := hid q1
      have HQ4 := hid q4
      have HQ5 := hid q5
      have HFn := hid hfn
      have HL3 := hid hl3
      have HNl := hid hnl
      clear hfn hm m1 m4 ml heb htb hmi hsm t1 q1 q4 q5 HFN HMr hnl2 hl3 hnl
      go_wp2_with fail
      refine (state_any HA.out.rd (by omega) HA.out.lt).mono ?_
      rintro e w2 ⟨rfl, hk⟩
      obtain ⟨Ok, ha, hc, hn⟩ := MAt.call HA.out hk
      replace HX := hid (HX.out.call hc hn)
      replace HKd := hid (HKd.out.call hc hn)
      replace HV := hid (HV.out.call hc hn)
      replace HA := hid ha
      clear hk ha hc hn
      obtain ⟨z0, z1, z2, z3, z4, z5, z6, z7⟩ := Blk.cells8' HV.out.1
      rw [HVh.out] at z7
      go_wp2_with fail
      clear z0 z1 z2 z3 z4 z5 z6 z7
      refine (state_any HA.out.rd (by omega) HA.out.lt).mono ?_
      rintro e w3 ⟨rfl, hk⟩
      obtain ⟨Ok, ha, hc, hn⟩ := MAt.call HA.out hk
      replace HX := hid (HX.out.call hc hn)
      replace HKd := hid (HKd.out.call hc hn)
      replace HV := hid (HV.out.call hc hn)
      replace HA := hid ha
      clear hk ha hc hn
      go_wp2_with fail
      refine (free_any HA.out.rd (f := fi) (t := (newE Ei).length) (c4) (c3)).mono ?_
      rintro e w4 ⟨rfl, hk⟩
      obtain ⟨Ok, ha, hc, hn⟩ := MAt.call HA.out hk
      replace HX := hid (HX.out.call hc hn)
      replace HKd := hid (HKd.out.call hc hn)
      replace HV := hid (HV.out.call hc hn)
      replace HA := hid ha
      clear hk ha hc hn
      obtain ⟨x0, x1, x2, x3, x4, x5, x6, x7⟩ := Blk.cells8' HX.out.1
      have HPc := hid (HIH.out x _ _ g (_) (_) HKd.out HA.out.rd HA.out.lt HWt.out HSt.out (hlpl) (c1) (c2))
      unfold RV.val at HPc
      go_wp2_with fail
      refine HPc.out.mono ?_
      rintro e w5 ⟨rfl, hk⟩
      obtain ⟨Ok, ha, hc, hn⟩ := MAt.call HA.out hk
      replace HX := hid (HX.out.call hc hn)
      replace HKd := hid (HKd.out.call hc hn)
      replace HV := hid (HV.out.call hc hn)
      replace HA := hid ha
      clear hk ha hc hn HPc x0 x1 x2 x3 x4 x5 x6 x7
      go_wp2_with fail
      refine (free_any HA.out.rd (f := _) (t := _) (by have := HQ1.out; have := HQ5.out; have := HL3.out; omega) (by have := HQ4.out; omega)).mono ?_
      rintro e w6 ⟨rfl, hk⟩
      obtain ⟨Ok, ha, hc, hn⟩ := MAt.call HA.out hk
      replace HX := hid (HX.out.call hc hn)
      replace HKd := hid (HKd.out.call hc hn)
      replace HV := hid (HV.out.call hc hn)
      replace HA := hid ha
      clear hk ha hc hn
      go_wp2_with fail
      refine (free_any HA.out.rd (f := _) (t := _) (by rw [freeE_len]; have := HQ1.out; have := HL3.out; have := HNl.out; omega) (by have h1 := HQ4.out; refine Nat.le_trans (tot_free _ _ _) ?_; omega)).mono ?_
      rintro e w7 ⟨rfl, hk⟩
      obtain ⟨Ok, ha, hc, hn⟩ := MAt.call HA.out hk
      replace HX := hid (HX.out.call hc hn)
      replace HKd := hid (HKd.out.call hc hn)
      replace HV := hid (HV.out.call hc hn)
      replace HA := hid ha
      clear hk ha hc hn
      have hfn := HFn.out
      subst hfn
      go_wp2_with fail
      go_ret
      exact ⟨rfl, HA.out.stM⟩
    · have hfn := HFN.out
      rw [rpt_pos hneg HMr.out] at hfn
      rw [if_neg hneg] at heb htb
      obtain ⟨nn, hnn⟩ : ∃ nn, nn = (hi - l0).toNat := ⟨_, rfl⟩
      have hl0 : (l0 : Int) ≤ hi := by have := HHi.out; omega
      have hnn2 : ((nn : Nat) : Int) = hi - l0 := by omega
      have hcn : hi.toNat * cnT t = l0 * cnT t + nn * cnT t := by rw [← Nat.add_mul]; congr 1; omega
      have hn1 : nn * (1 + cnT t) = nn + nn * cnT t := by rw [Nat.mul_add, Nat.mul_one]
      rw [← hnn] at hfn heb htb
      have hnl := newE_len Ei
      have hbE : Ei.length + 1 + nn * (1 + cnT t) ≤ 4200 := by omega
      have hbT : totE Ei + 2 * (nn * (1 + cnT t)) + 2 ≤ 20000 := by omega
      have hnn3 : nn ≤ 256 := by omega
      have HNn := hid hnn2
      have HBE := hid hbE
      have HBT := hid hbT
      have HFn := hid hfn
      have HNl := hid hnl
      have hw56 : IntKind.i64.wrap (hi - (l0 : Int)) = (nn : Int) := by rw [IntKind.wrap_i64]; omega
      clear hfn hm m1 m4 ml heb htb hmi HFN HMr hnl hcn hn1 hbE hbT hnn hnn2
      go_wp2_with fail
      refine (state_any HA.out.rd (by omega) HA.out.lt).mono ?_
      rintro e w2 ⟨rfl, hk⟩
      obtain ⟨Ok, ha, hc, hn⟩ := MAt.call HA.out hk
      replace HX := hid (HX.out.call hc hn)
      replace HKd := hid (HKd.out.call hc hn)
      replace HV := hid (HV.out.call hc hn)
      replace HA := hid ha
      clear hk ha hc hn
      obtain ⟨z0, z1, z2, z3, z4, z5, z6, z7⟩ := Blk.cells8' HV.out.1
      rw [HVh.out] at z7
      rw [HVl.out] at z6
      go_wp2_with fail
      clear z0 z1 z2 z3 z4 z5 z6 z7
      go_loopg [2, 11, 57] (nn + 1) (fun m s2 s11 s57 wr => ∃ (i : Nat) (Ej : EG) (fj : Nat) (Oi : Nat → Prop), i + m = nn + 1 ∧ i ≤ nn ∧ s57 = .int .i64 (i : Int) ∧ s2 = .int .i64 (fj : Int) ∧ fj < Ej.length ∧ Hid (Ej.length = Ei.length + 1 + i * (1 + cnT t)) ∧ Hid (totE Ej ≤ totE Ei + 2 * (i * (1 + cnT t))) ∧ Hid (optR (putT t) Ei.length (nn - i) Ej fj = optR (putT t) Ei.length nn (newE Ei) fi) ∧ Hid (MAt w O g wr Oi Ej) ∧ Hid (Bx wr Oi B 26 x.cells) ∧ Hid (Rp wr Oi x t) ∧ Hid (Bx wr Oi w.heap.size 26 v.cells))
      case atStart => exact ⟨0, newE Ei, fi, Ok, by omega, by omega, rfl, rfl, by rw [newE_len]; omega, hid (by rw [newE_len]; simp), hid (by rw [tot_new]; simp), hid rfl, HA, HX, HKd, HV⟩
      case round =>
        clear HA HX HKd HV
        obtain ⟨i, Ej, fj, Oi, him, hi0, rfl, rfl, hfj, HLi, HTi, HOp, HA, HX, HKd, HV⟩ := hrel
        obtain ⟨m, rfl⟩ : ∃ m, gk = m + 1 := ⟨gk - 1, by omega⟩
        have hli := HLi.out
        have hti := HTi.out
        have hbe := HBE.out
        have hbt := HBT.out
        have hcm : i * (1 + cnT t) ≤ nn * (1 + cnT t) := Nat.mul_le_mul_right _ hi0
        have d1 : totE Ej ≤ 1000000 := by omega
        have d2 : Ej.length ≤ 4200 := by omega
        by_cases hlt : i < nn
        · have p3 : (i : Int) < (nn : Int) := by omega
          have hcm2 : (i + 1) * (1 + cnT t) ≤ nn * (1 + cnT t) := Nat.mul_le_mul_right _ (by omega)
          have hsm : (i + 1) * (1 + cnT t) = i * (1 + cnT t) + (1 + cnT t) := Nat.succ_mul _ _
          have hl1 := freeE_len Ej fj Ei.length
          have hl3 : (freeE (newE (freeE Ej fj Ei.length)) fj (freeE Ej fj Ei.length).length).length = Ej.length + 1 := by rw [freeE_len, newE_len, freeE_len]
          have t0 := tot_free Ej fj Ei.length
          have t1 := tot_free (newE (freeE Ej fj Ei.length)) fj (freeE Ej fj Ei.length).length
          rw [tot_new] at t1
          have hlpl : (freeE Ej fj Ei.length).length < (freeE (newE (freeE Ej fj Ei.length)) fj (freeE Ej fj Ei.length).length).length := by omega
          obtain ⟨q1, -, -, q4⟩ := HPo.out _ _ hlpl
          have q5 := PutOk.lt HPo.out hlpl
          have c1 : (freeE (newE (freeE Ej fj Ei.length)) fj (freeE Ej fj Ei.length).length).length + cnT t ≤ 4200 := by omega
          have c2 : totE (freeE (newE (freeE Ej fj Ei.length)) fj (freeE Ej fj Ei.length).length) + 2 * cnT t ≤ 20000 := by omega
          have c3 : totE (newE (freeE Ej fj Ei.length)) ≤ 1000000 := by rw [tot_new]; omega
          have c4 : fj < (newE (freeE Ej fj Ei.length)).length := by rw [newE_len]; omega
          have c5 : (freeE Ej fj Ei.length).length ≤ 5000 := by omega
          have hst : optR (putT t) Ei.length (nn - i) Ej fj = optR (putT t) Ei.length (nn - (i + 1)) (putT t (freeE (newE (freeE Ej fj Ei.length)) fj (freeE Ej fj Ei.length).length) (freeE Ej fj Ei.length).length).1 (putT t (freeE (newE (freeE Ej fj Ei.length)) fj (freeE Ej fj Ei.length).length) (freeE Ej fj Ei.length).length).2 := by
            rw [show nn - i = (nn - (i + 1)) + 1 by omega, optR]
          have HO2 := hid (hst.symm.trans HOp.out)
          have HL9 := hid (show (putT t (freeE (newE (freeE Ej fj Ei.length)) fj (freeE Ej fj Ei.length).length) (freeE Ej fj Ei.length).length).1.length = Ei.length + 1 + (i + 1) * (1 + cnT t) by omega)
          have HT9 := hid (show totE (putT t (freeE (newE (freeE Ej fj Ei.length)) fj (freeE Ej fj Ei.length).length) (freeE Ej fj Ei.length).length).1 ≤ totE Ei + 2 * ((i + 1) * (1 + cnT t)) by omega)
          have q6 : (putT t (freeE (newE (freeE Ej fj Ei.length)) fj (freeE Ej fj Ei.length).length) (freeE Ej fj Ei.length).length).2 < (putT t (freeE (newE (freeE Ej fj Ei.length)) fj (freeE Ej fj Ei.length).length) (freeE Ej fj Ei.length).length).1.length := by omega
          have HQ6 := hid q6
          clear hli hti hbe hbt hcm hcm2 hsm hl1 hl3 t0 t1 q1 q4 q5 q6 hst HOp HLi HTi
          go_wp2_with fail
          refine (free_any HA.out.rd (f := fj) (t := Ei.length) (hfj) (d1)).mono ?_
          rintro e w3 ⟨rfl, hk⟩
          obtain ⟨Ok, ha, hc, hn⟩ := MAt.call HA.out hk
          replace HX := hid (HX.out.call hc hn)
          replace HKd := hid (HKd.out.call hc hn)
          replace HV := hid (HV.out.call hc hn)
          replace HA := hid ha
          clear hk ha hc hn
          go_wp2_with fail
          refine (state_any HA.out.rd (c5) HA.out.lt).mono ?_
          rintro e w4 ⟨rfl, hk⟩
          obtain ⟨Ok, ha, hc, hn⟩ := MAt.call HA.out hk
          replace HX := hid (HX.out.call hc hn)
          replace HKd := hid (HKd.out.call hc hn)
          replace HV := hid (HV.out.call hc hn)
          replace HA := hid ha
          clear hk ha hc hn
          go_wp2_with fail
          refine (free_any HA.out.rd (f := fj) (t := (freeE Ej fj Ei.length).length) (c4) (c3)).mono ?_
          rintro e w5 ⟨rfl, hk⟩
          obtain ⟨Ok, ha, hc, hn⟩ := MAt.call HA.out hk
          replace HX := hid (HX.out.call hc hn)
          replace HKd := hid (HKd.out.call hc hn)
          replace HV := hid (HV.out.call hc hn)
          replace HA := hid ha
          clear hk ha hc hn
          obtain ⟨x0, x1, x2, x3, x4, x5, x6, x7⟩ := Blk.cells8' HX.out.1
          have HPc := hid (HIH.out x _ _ g (_) (_) HKd.out HA.out.rd HA.out.lt HWt.out HSt.out (hlpl) (c1) (c2))
          unfold RV.val at HPc
          go_wp2_with fail
          refine HPc.out.mono ?_
          rintro e w6 ⟨rfl, hk⟩
          obtain ⟨Ok, ha, hc, hn⟩ := MAt.call HA.out hk
          replace HX := hid (HX.out.call hc hn)
          replace HKd := hid (HKd.out.call hc hn)
          replace HV := hid (HV.out.call hc hn)
          replace HA := hid ha
          clear hk ha hc hn HPc x0 x1 x2 x3 x4 x5 x6 x7
          go_wp2_with fail
          go_roundg m
          case measure => omega
          case rel => exact ⟨i + 1, _, _, _, by omega, by omega, by go_num, rfl, HQ6.out, HL9, HT9, HO2, HA, HX, HKd, HV⟩
        · obtain rfl : i = nn := by omega
          have hop := HOp.out
          rw [show i - i = 0 by omega, optR] at hop
          have hfn := HFn.out
          rw [← hop] at hfn
          have HF2 := hid hfn
          clear hop hfn HFn HOp hli hti hbe hbt hcm
          go_wp2_with fail
          refine (free_any HA.out.rd (f := fj) (t := Ei.length) (hfj) (d1)).mono ?_
          rintro e w3 ⟨rfl, hk⟩
          obtain ⟨Ok, ha, hc, hn⟩ := MAt.call HA.out hk
          replace HX := hid (HX.out.call hc hn)
          replace HKd := hid (HKd.out.call hc hn)
          replace HV := hid (HV.out.call hc hn)
          replace HA := hid ha
          clear hk ha hc hn
          have hfn := HF2.out
          subst hfn
          go_wp2_with fail
          go_ret
          exact ⟨rfl, HA.out.stM⟩
end Go.Proofs.Ytimffgmbchpfeaa
