/- regex: the laws' own 'few'. -/
import Derived.Test.YtkjdmbbdclkkgaaDoorRck
import Derived.Test.YtkjdmbbdclkkgaaDoorRsm
namespace Go.Proofs.YtkjdmbbdclkkgaaDoor
open Go.RowKit

set_option maxRecDepth 100000 in
set_option maxHeartbeats 4000000 in
theorem few_any : ∀ (t : RT) (v : RV) (w : World) (g : Nat) (cnt : Int) (P : Nat → Prop), Rep w P v t → (∀ b, P b → b ≠ g) → Blk w g 3 [.int .i64 cnt] → 0 ≤ cnt → cnt ≤ 200 →
    Calls Tryd.prog 11 #[v.val, .pointer (some ⟨g, 0, none⟩)] w fun e w' => e = .returned (.bool (fwT t cnt).1) ∧ w.grownBy w' (some g) ∧ ∃ c : Int, Blk w' g 3 [.int .i64 c] ∧ ((fwT t cnt).1 = true → c = cnt - szT t) := by
  refine RT.ind fun k s ks lo hi ih => ?_
  intro v w g cnt P hR hP hg hcnt0 hcnt
  obtain ⟨rfl, rfl, rfl, rfl, hn, vs, hA, hk⟩ := hR.inv
  obtain ⟨T, hT⟩ : ∃ T, T = fwT (RT.nd v.k v.s ks v.lo v.hi) cnt := ⟨_, rfl⟩
  rw [← hT]
  have hsz : szT (RT.nd v.k v.s ks v.lo v.hi) = 1 + szL ks := by rw [szT]
  rw [hsz]
  rw [fwT, hn] at hT
  have hgw := hg.lt
  obtain ⟨hb, hN⟩ := box_new w v
  have hg1 := hg.keep hb
  have HX := hid hN
  have hx := Blk.cells8' (v := v) hN
  have hs1 : (w.alloc (.cells v.cells.toArray 26)).heap.size = w.heap.size + 1 := by simp
  have HB := hid hb
  have HK := hid (fun j (h : j < ks.length) => (hk j h).keep hb)
  have HA0 := hid (show 0 < v.n → ∃ b o, v.A = some ⟨b, o, none⟩ ∧ b < w.heap.size ∧ P b ∧ ∀ j, j < v.n → RowAt (w.alloc (.cells v.cells.toArray 26)) b (o + j * 8) (vs j).cells from fun h => by
    obtain ⟨b, o, e, hl, hp, hc⟩ := hA h
    exact ⟨b, o, e, hl, hp, fun j hj => (hc j hj).block (hb.block b hl)⟩)
  clear hN hb hA hk hg hR
  unfold RV.val
  rw [show (#[.int .i64 v.k, .int .u64 ((wd v.s 0 : Nat) : Int), .int .u64 ((wd v.s 1 : Nat) : Int), .int .u64 ((wd v.s 2 : Nat) : Int), .int .u64 ((wd v.s 3 : Nat) : Int), .slice v.A v.n v.c, .int .i64 v.lo, .int .i64 v.hi] : Array Value) = v.cells.toArray from rfl]
  go_enter Tryd.func11, Tryd.ntmps11
  go_upto_region 1 with (fail)
  change Code.wp _ _ _ _ (w.alloc (.cells v.cells.toArray 26))
  generalize w.alloc (.cells v.cells.toArray 26) = w1 at *
  obtain ⟨x0, x1, x2, x3, x4, x5, x6, x7⟩ := hx
  have hc0 := hg1.at 0
  have hf0 := hg1.free 0
  have HG2 := hid (hg1.put 0 (.int .i64 (cnt - 1)))
  have HX2 := hid ((Below.heap_setCell w1 ⟨g, 0, none⟩ (.int .i64 (cnt - 1)) w.heap.size (by show w.heap.size ≠ g; omega)).trans HX.out)
  have HGr := hid (grown_set1 w1 g 0 (.int .i64 (cnt - 1)))
  have HG2 := hid (show Blk (w1.setCell ⟨g, 0, none⟩ (.int .i64 (cnt - 1))) g 3 [.int .i64 (cnt - 1)] from HG2.out)
  have HFin := hid (fun W (hW : w1.grownBy W (some g)) => grown_trans (grown_of_below HB.out (some g)) hW)
  by_cases c1 : cnt - 1 < 0
  · rw [if_pos (.inl c1)] at hT
    replace hT := hid hT
    go_wp2
    go_ret
    exact ⟨by rw [hT.out]; rfl, HFin.out _ HGr.out, cnt - 1, HG2.out, fun h => by rw [hT.out] at h; cases h⟩
  by_cases c2 : 100 < v.n
  · rw [if_pos (.inr c2)] at hT
    replace hT := hid hT
    have c3 : (100 : Int) < (v.n : Int) := by omega
    have c4 : 0 ≤ cnt - 1 := by omega
    go_wp2
    go_ret
    exact ⟨by rw [hT.out]; rfl, HFin.out _ HGr.out, cnt - 1, HG2.out, fun h => by rw [hT.out] at h; cases h⟩
  rw [if_neg (by omega)] at hT
  replace hT := hid hT
  have c4 : 0 ≤ cnt - 1 := by omega
  have c3 : (v.n : Int) ≤ 100 := by omega
  go_wp2_with fail
  clear x0 x1 x2 x3 x4 x5 x6 x7 hc0 hf0
  generalize w1.setCell ⟨g, 0, none⟩ (.int .i64 (cnt - 1)) = w2 at *
  go_loopw [25] (fun i wr => ∃ (j : Nat) (c : Int), j ≤ v.n ∧ i = .int .i64 j ∧ 0 ≤ c ∧ c ≤ 200 ∧ Hid (fwL ks (cnt - 1) = fwL (ks.drop j) c) ∧ Hid (c = cnt - 1 - szL (ks.take j)) ∧ Hid (Blk wr g 3 [.int .i64 c]) ∧ Hid (w1.grownBy wr (some g))) (fun i _ => v.n - (intOf i).toNat)
  case atStart => exact ⟨0, cnt - 1, by omega, rfl, by omega, by omega, hid (by rw [List.drop_zero]), hid (by rw [List.take_zero, szL]; simp), HG2, HGr⟩
  case round =>
    clear HG2 HGr HX2 HX
    obtain ⟨j, c, hj, rfl, hc0, hc200, HZ, HCs, HC, HG⟩ := hrel
    by_cases hlt : j < v.n
    · obtain ⟨b, o, hAe, hbl, hp, hrow⟩ := HA0.out (by omega)
      have hrw := (hrow j hlt).block (HG.out.block b (by omega) (by intro e; injection e with e; exact hP b hp (by omega)))
      obtain ⟨y0, y1, y2, y3, y4, y5, y6, y7⟩ := hrw.cells8
      have hjk : j < ks.length := by omega
      have HTk := hid (szL_take ks j hjk)
      have hRk := (HK.out j hjk).step HG.out hP
      have HDr : Hid (fwL (ks.drop j) c = if (fwT ks[j] c).1 = true then fwL (ks.drop (j + 1)) (fwT ks[j] c).2 else (false, (fwT ks[j] c).2)) := hid (by rw [List.drop_eq_getElem_cons hjk, fwL])
      have HFs := hid (fw_sz ks[j] c)
      generalize hx : vs j = x at *
      have hbx := row_new wr 26 #[.int .i64 0, .int .u64 0, .int .u64 0, .int .u64 0, .int .u64 0, .slice none 0 0, .int .i64 0, .int .i64 0] x.cells.toArray
      have HX5 := hid (show Blk ((wr.alloc (.cells #[.int .i64 0, .int .u64 0, .int .u64 0, .int .u64 0, .int .u64 0, .slice none 0 0, .int .i64 0, .int .i64 0] 26)).setRow wr.heap.size x.cells.toArray) wr.heap.size 26 x.cells from setRow_heap _ _ _ _ _ (0, 0) (heap_alloc_new wr _))
      have HSz := hid (rx_size x)
      have HOne := hid (rx_one x)
      have HIH := hid (ih ks[j] (List.getElem_mem _) x _ g c P (hRk.keep hbx) hP (HC.out.keep hbx) hc0 hc200)
      have HG5 := hid (grown_trans HG.out (grown_of_below hbx (some g)))
      clear hRk hbx hrow hrw ih HK HA0 HC HG
      unfold RV.val at HIH
      rw [hAe]
      go_wp2_with (refine wpList_store_row rfl 26 _ _ rfl wr.heap.size x.cells.toArray ?_ ?_ 26 #[.int .i64 0, .int .u64 0, .int .u64 0, .int .u64 0, .int .u64 0, .slice none 0 0, .int .i64 0, .int .i64 0] (heap_alloc_new wr _) HSz.out ?_ HOne.out ?_; exact rfl; exact rfl; exact rfl; generalize (wr.alloc (.cells #[.int .i64 0, .int .u64 0, .int .u64 0, .int .u64 0, .int .u64 0, .slice none 0 0, .int .i64 0, .int .i64 0] 26)).setRow wr.heap.size x.cells.toArray = w5 at *; obtain ⟨x0, x1, x2, x3, x4, x5, x6, x7⟩ := Blk.cells8' HX5.out)
      refine HIH.out.mono ?_
      rintro e w6 ⟨rfl, hg6, c6, hC6, hc6⟩
      have HC6 := hid hC6
      have HG6 := hid (grown_trans HG5.out hg6)
      have HC7 := hid hc6
      clear x0 x1 x2 x3 x4 x5 x6 x7 y0 y1 y2 y3 y4 y5 y6 y7 hC6 hg6 HIH HG5 HX5 hc6
      obtain ⟨q, hq⟩ : ∃ q, q = fwT ks[j] c := ⟨_, rfl⟩
      rw [← hq] at HDr HC7 HFs ⊢
      clear hq
      obtain ⟨q1, q2⟩ := q
      simp only at HDr HC7 HFs ⊢
      cases q1
      · have HD2 : Hid (T = (false, q2)) := hid (by rw [hT.out, HZ.out, HDr.out]; rfl)
        clear HDr HC7 HFs HZ HCs HTk
        go_wp2
        go_ret
        exact ⟨by rw [HD2.out]; rfl, HFin.out _ HG6.out, c6, HC6.out, fun h => by rw [HD2.out] at h; cases h⟩
      · have HD2 : Hid (fwL ks (cnt - 1) = fwL (ks.drop (j + 1)) q2) := hid (by rw [HZ.out, HDr.out]; rfl)
        have hc7 := HC7.out rfl
        obtain ⟨hf1, hf2⟩ := HFs.out rfl
        have e62 : c6 = q2 := by rw [hf2, hc7]
        subst e62
        have HCs2 : Hid (c6 = cnt - 1 - szL (ks.take (j + 1))) := hid (by have h1 := HCs.out; have h2 := HTk.out; omega)
        have hc60 : 0 ≤ c6 := by omega
        have hc62 : c6 ≤ 200 := by omega
        clear HDr HC7 HFs HZ HCs HTk hf1 hf2 hc7
        go_wp2
        go_roundw
        case rel => exact ⟨j + 1, c6, by omega, by go_num, hc60, hc62, HD2, HCs2, HC6, HG6⟩
        case measure => simp [intOf]; omega
    · obtain rfl : j = v.n := by omega
      have hdk : ks.drop v.n = [] := List.drop_eq_nil_of_le (by omega)
      have htk : ks.take v.n = ks := List.take_of_length_le (by omega)
      rw [hdk, fwL] at HZ
      rw [htk] at HCs
      have HD2 : Hid (T = (true, c)) := hid (by rw [hT.out, HZ.out])
      clear HZ hdk htk
      go_wp2
      go_ret
      exact ⟨by rw [HD2.out]; rfl, HFin.out _ HG.out, c, HC.out, fun _ => by have h := HCs.out; omega⟩
end Go.Proofs.YtkjdmbbdclkkgaaDoor

/- regex: the laws' own 'wrong'. -/
namespace Go.Proofs.YtkjdmbbdclkkgaaDoor
open Go.RowKit

set_option maxRecDepth 100000 in
set_option maxHeartbeats 8000000 in
theorem wrong_any : ∀ (t : RT) (v : RV) (w : World) (P : Nat → Prop), Rep w P v t → (∀ b, P b → b < w.heap.size) → szT t ≤ 512 →
    Calls Tryd.prog 13 #[v.val] w fun e w' => e = .returned (.int .i64 (wgT t : Nat)) ∧ Below w.heap.size w w' := by
  refine RT.ind fun k s ks lo hi ih => ?_
  intro v w P hR hP hsz
  have hck := ckV_rep hR
  obtain ⟨rfl, rfl, rfl, rfl, hn, vs, hA, hk⟩ := hR.inv
  have hRL := Rep.row hn hA hk
  rw [szT] at hsz
  obtain ⟨T, hT⟩ : ∃ T, T = RT.nd v.k v.s ks v.lo v.hi := ⟨_, rfl⟩
  rw [← hT] at hck hR ⊢
  have hwg : wgT T = if ck1 T ≠ 0 then ck1 T else wgL ks := by rw [hT, wgT]
  rw [← hck] at hwg
  clear hT hck hR hA hk
  have hck : ckV v = ckF v.k v.s v.n v.lo v.hi := rfl
  obtain ⟨hb, hN⟩ := box_new w v
  have HE := hid (fun W => empty_any v.s W)
  have hx := Blk.cells8' (v := v) hN
  have HX := hid hN
  have HBX := hid hb
  have HRL := hid hRL
  have hnl := szL_len ks
  clear hN hb hRL
  unfold RV.val
  unfold setV at HE
  rw [show (#[.int .i64 v.k, .int .u64 ((wd v.s 0 : Nat) : Int), .int .u64 ((wd v.s 1 : Nat) : Int), .int .u64 ((wd v.s 2 : Nat) : Int), .int .u64 ((wd v.s 3 : Nat) : Int), .slice v.A v.n v.c, .int .i64 v.lo, .int .i64 v.hi] : Array Value) = v.cells.toArray from rfl]
  go_enter Tryd.func13, Tryd.ntmps13
  go_upto_region 1 with (fail)
  change Code.wp _ _ _ _ (w.alloc (.cells v.cells.toArray 26))
  generalize w.alloc (.cells v.cells.toArray 26) = w1 at *
  generalize v.cells.toArray = cs at *
  obtain ⟨k, s, A, n, c, lo, hi⟩ := v
  simp only at *
  generalize ckV ⟨k, s, A, n, c, lo, hi⟩ = q at *
  unfold ckF fmB at hck
  obtain ⟨x0, x1, x2, x3, x4, x5, x6, x7⟩ := hx
  have hn511 : n ≤ 511 := by omega
  by_cases h1 : k = 1
  · subst h1
    by_cases hn0 : n = 0
    · subst hn0
      have HW := hid (show wgT T = wgL ks by rw [hwg, hck]; simp [])
      clear hwg hck
      go_wp2_with fail
      clear x0 x1 x2 x3 x4 x5 x6 x7
      go_loopw [62] (fun i wr => ∃ j : Nat, j ≤ 0 ∧ i = .int .i64 j ∧ Hid (∀ i (hi : i < ks.length), i < j → wgT ks[i] = 0) ∧ Hid (Below w.heap.size w wr)) (fun i _ => 0 - (intOf i).toNat)
      case atStart => exact ⟨0, by omega, rfl, hid (fun i _ h => absurd h (by omega)), HBX⟩
      case round =>
        clear HBX
        obtain ⟨j, hj, rfl, HZ, HB⟩ := hrel
        by_cases hlt : j < 0
        · exact absurd hlt (by omega)
        · obtain rfl : j = 0 := by omega
          have HZ0 := hid (wgL_take (fun i hi => HZ.out i hi (by omega)))
          clear HZ
          go_wp2
          go_ret
          exact ⟨by rw [HW.out, HZ0.out]; rfl, HB.out⟩
    · have hn' : ¬ (n : Int) = 0 := by omega
      have HW := hid (show wgT T = 5 by rw [hwg, hck]; simp [hn0])
      clear hwg hck
      go_wp2
      go_ret
      exact ⟨by rw [HW.out]; rfl, HBX.out⟩
  by_cases h2 : k = 2
  · subst h2
    by_cases hn0 : n = 0
    · subst hn0
      by_cases hs : s = 0#256
      · have HW := hid (show wgT T = 160 by rw [hwg, hck]; simp [hs])
        rw [decide_eq_true hs] at HE
        clear hwg hck hs
        go_wp2_with fail
        refine (HE.out _).mono ?_
        rintro e w3 ⟨rfl, hb3⟩
        have HB3 := hid (HBX.out.trans (hb3.mono HBX.out.size))
        clear hb3
        go_wp2
        go_ret
        exact ⟨by rw [HW.out]; rfl, HB3.out⟩
      · have HW := hid (show wgT T = wgL ks by rw [hwg, hck]; simp [hs])
        rw [decide_eq_false hs] at HE
        clear hwg hck hs
        go_wp2_with fail
        refine (HE.out _).mono ?_
        rintro e w3 ⟨rfl, hb3⟩
        have HX3 := hid (show Blk w3 w.heap.size 26 _ from (hb3.block _ HX.out.lt).trans HX.out)
        replace HBX := hid (HBX.out.trans (hb3.mono HBX.out.size))
        clear hb3 x0 x1 x2 x3 x4 x5 x6 x7
        obtain ⟨x0, x1, x2, x3, x4, x5, x6, x7⟩ := Blk.cells8' (v := ⟨2, s, A, 0, c, lo, hi⟩) HX3.out
        go_wp2_with fail
        clear x0 x1 x2 x3 x4 x5 x6 x7
        go_loopw [62] (fun i wr => ∃ j : Nat, j ≤ 0 ∧ i = .int .i64 j ∧ Hid (∀ i (hi : i < ks.length), i < j → wgT ks[i] = 0) ∧ Hid (Below w.heap.size w wr)) (fun i _ => 0 - (intOf i).toNat)
        case atStart => exact ⟨0, by omega, rfl, hid (fun i _ h => absurd h (by omega)), HBX⟩
        case round =>
          clear HBX
          obtain ⟨j, hj, rfl, HZ, HB⟩ := hrel
          by_cases hlt : j < 0
          · exact absurd hlt (by omega)
          · obtain rfl : j = 0 := by omega
            have HZ0 := hid (wgL_take (fun i hi => HZ.out i hi (by omega)))
            clear HZ
            go_wp2
            go_ret
            exact ⟨by rw [HW.out, HZ0.out]; rfl, HB.out⟩
    · have hn' : ¬ (n : Int) = 0 := by omega
      have HW := hid (show wgT T = 5 by rw [hwg, hck]; simp [hn0])
      clear hwg hck
      go_wp2
      go_ret
      exact ⟨by rw [HW.out]; rfl, HBX.out⟩
  by_cases h3 : k = 3
  · subst h3
    by_cases hn0 : n < 2
    · have hn' : (n : Int) < 2 := by omega
      have hn2 : ¬ 2 ≤ n := by omega
      have HW := hid (show wgT T = 5 by rw [hwg, hck]; simp [hn2])
      clear hwg hck
      go_wp2
      go_ret
      exact ⟨by rw [HW.out]; rfl, HBX.out⟩
    · have hn' : ¬ (n : Int) < 2 := by omega
      have hn2 : 2 ≤ n := by omega
      have HW := hid (show wgT T = wgL ks by rw [hwg, hck]; simp [hn2])
      clear hwg hck
      go_wp2_with fail
      clear x0 x1 x2 x3 x4 x5 x6 x7
      go_loopw [62] (fun i wr => ∃ j : Nat, j ≤ n ∧ i = .int .i64 j ∧ Hid (∀ i (hi : i < ks.length), i < j → wgT ks[i] = 0) ∧ Hid (Below w.heap.size w wr)) (fun i _ => n - (intOf i).toNat)
      case atStart => exact ⟨0, by omega, rfl, hid (fun i _ h => absurd h (by omega)), HBX⟩
      case round =>
        clear HBX
        obtain ⟨j, hj, rfl, HZ, HB⟩ := hrel
        by_cases hlt : j < n
        · obtain ⟨b, o, hAe, hbl, hp, hrow⟩ := HRL.out.1 (by omega)
          have hjk : j < ks.length := by omega
          have hrw := (hrow j hjk).block (HB.out.block b (hP b hp))
          obtain ⟨y0, y1, y2, y3, y4, y5, y6, y7⟩ := hrw.cells8
          have hRk := (HRL.out.2 j hjk).mono HB.out.size (fun b hb _ => HB.out.block b (hP b hb)) (fun _ h _ => h)
          generalize hx : vs j = x at *
          have hbx := row_new wr 26 #[.int .i64 0, .int .u64 0, .int .u64 0, .int .u64 0, .int .u64 0, .slice none 0 0, .int .i64 0, .int .i64 0] x.cells.toArray
          have HX5 := hid (show Blk ((wr.alloc (.cells #[.int .i64 0, .int .u64 0, .int .u64 0, .int .u64 0, .int .u64 0, .slice none 0 0, .int .i64 0, .int .i64 0] 26)).setRow wr.heap.size x.cells.toArray) wr.heap.size 26 x.cells from setRow_heap _ _ _ _ _ (0, 0) (heap_alloc_new wr _))
          have HSz := hid (rx_size x)
          have HOne := hid (rx_one x)
          have HB5 := hid (HB.out.trans (hbx.mono HB.out.size))
          have hs5 := HB5.out.size
          have HIH := hid (ih ks[j] (List.getElem_mem _) x _ P (hRk.keep hbx) (fun b hb => by have := hP b hb; omega) (by have h1 := szL_take ks j hjk; have h2 := szL_take_le ks (j + 1); omega))
          clear hRk hbx hrow hrw ih HRL HB hs5
          unfold RV.val at HIH
          rw [hAe]
          go_wp2_with (refine wpList_store_row rfl 26 _ _ rfl wr.heap.size x.cells.toArray ?_ ?_ 26 #[.int .i64 0, .int .u64 0, .int .u64 0, .int .u64 0, .int .u64 0, .slice none 0 0, .int .i64 0, .int .i64 0] (heap_alloc_new wr _) HSz.out ?_ HOne.out ?_; exact rfl; exact rfl; exact rfl; generalize (wr.alloc (.cells #[.int .i64 0, .int .u64 0, .int .u64 0, .int .u64 0, .int .u64 0, .slice none 0 0, .int .i64 0, .int .i64 0] 26)).setRow wr.heap.size x.cells.toArray = w5 at *; obtain ⟨x0, x1, x2, x3, x4, x5, x6, x7⟩ := Blk.cells8' HX5.out)
          refine HIH.out.mono ?_
          rintro e w6 ⟨rfl, hb6⟩
          have HB6 := hid (HB5.out.trans (hb6.mono HB5.out.size))
          clear x0 x1 x2 x3 x4 x5 x6 x7 y0 y1 y2 y3 y4 y5 y6 y7 hb6 HIH HB5 HX5
          have HF := hid (fun h => wgL_first hjk HZ.out h)
          have HZ2 := hid (fun (h : wgT ks[j] = 0) i (hi : i < ks.length) (hij : i < j + 1) => (by
            by_cases e : i = j
            · subst e; exact h
            · exact HZ.out i hi (by omega) : wgT ks[i] = 0))
          generalize wgT ks[j] = z at *
          by_cases hz : z = 0
          · subst hz
            go_wp2
            go_roundw
            case rel => exact ⟨j + 1, by omega, by go_num, hid (HZ2.out trivial), HB6⟩
            case measure => simp [intOf]; omega
          · have hz' : ¬ (z : Int) = 0 := by omega
            have HFz := hid (HF.out hz)
            clear HF HZ2 HZ
            go_wp2
            go_ret
            exact ⟨by rw [HW.out, HFz.out]; rfl, HB6.out⟩
        · obtain rfl : j = n := by omega
          have HZ0 := hid (wgL_take (fun i hi => HZ.out i hi (by omega)))
          clear HZ
          go_wp2
          go_ret
          exact ⟨by rw [HW.out, HZ0.out]; rfl, HB.out⟩
  by_cases h4 : k = 4
  · subst h4
    by_cases hn0 : n < 2
    · have hn' : (n : Int) < 2 := by omega
      have hn2 : ¬ 2 ≤ n := by omega
      have HW := hid (show wgT T = 5 by rw [hwg, hck]; simp [hn2])
      clear hwg hck
      go_wp2
      go_ret
      exact ⟨by rw [HW.out]; rfl, HBX.out⟩
    · have hn' : ¬ (n : Int) < 2 := by omega
      have hn2 : 2 ≤ n := by omega
      have HW := hid (show wgT T = wgL ks by rw [hwg, hck]; simp [hn2])
      clear hwg hck
      go_wp2_with fail
      clear x0 x1 x2 x3 x4 x5 x6 x7
      go_loopw [62] (fun i wr => ∃ j : Nat, j ≤ n ∧ i = .int .i64 j ∧ Hid (∀ i (hi : i < ks.length), i < j → wgT ks[i] = 0) ∧ Hid (Below w.heap.size w wr)) (fun i _ => n - (intOf i).toNat)
      case atStart => exact ⟨0, by omega, rfl, hid (fun i _ h => absurd h (by omega)), HBX⟩
      case round =>
        clear HBX
        obtain ⟨j, hj, rfl, HZ, HB⟩ := hrel
        by_cases hlt : j < n
        · obtain ⟨b, o, hAe, hbl, hp, hrow⟩ := HRL.out.1 (by omega)
          have hjk : j < ks.length := by omega
          have hrw := (hrow j hjk).block (HB.out.block b (hP b hp))
          obtain ⟨y0, y1, y2, y3, y4, y5, y6, y7⟩ := hrw.cells8
          have hRk := (HRL.out.2 j hjk).mono HB.out.size (fun b hb _ => HB.out.block b (hP b hb)) (fun _ h _ => h)
          generalize hx : vs j = x at *
          have hbx := row_new wr 26 #[.int .i64 0, .int .u64 0, .int .u64 0, .int .u64 0, .int .u64 0, .slice none 0 0, .int .i64 0, .int .i64 0] x.cells.toArray
          have HX5 := hid (show Blk ((wr.alloc (.cells #[.int .i64 0, .int .u64 0, .int .u64 0, .int .u64 0, .int .u64 0, .slice none 0 0, .int .i64 0, .int .i64 0] 26)).setRow wr.heap.size x.cells.toArray) wr.heap.size 26 x.cells from setRow_heap _ _ _ _ _ (0, 0) (heap_alloc_new wr _))
          have HSz := hid (rx_size x)
          have HOne := hid (rx_one x)
          have HB5 := hid (HB.out.trans (hbx.mono HB.out.size))
          have hs5 := HB5.out.size
          have HIH := hid (ih ks[j] (List.getElem_mem _) x _ P (hRk.keep hbx) (fun b hb => by have := hP b hb; omega) (by have h1 := szL_take ks j hjk; have h2 := szL_take_le ks (j + 1); omega))
          clear hRk hbx hrow hrw ih HRL HB hs5
          unfold RV.val at HIH
          rw [hAe]
          go_wp2_with (refine wpList_store_row rfl 26 _ _ rfl wr.heap.size x.cells.toArray ?_ ?_ 26 #[.int .i64 0, .int .u64 0, .int .u64 0, .int .u64 0, .int .u64 0, .slice none 0 0, .int .i64 0, .int .i64 0] (heap_alloc_new wr _) HSz.out ?_ HOne.out ?_; exact rfl; exact rfl; exact rfl; generalize (wr.alloc (.cells #[.int .i64 0, .int .u64 0, .int .u64 0, .int .u64 0, .int .u64 0, .slice none 0 0, .int .i64 0, .int .i64 0] 26)).setRow wr.heap.size x.cells.toArray = w5 at *; obtain ⟨x0, x1, x2, x3, x4, x5, x6, x7⟩ := Blk.cells8' HX5.out)
          refine HIH.out.mono ?_
          rintro e w6 ⟨rfl, hb6⟩
          have HB6 := hid (HB5.out.trans (hb6.mono HB5.out.size))
          clear x0 x1 x2 x3 x4 x5 x6 x7 y0 y1 y2 y3 y4 y5 y6 y7 hb6 HIH HB5 HX5
          have HF := hid (fun h => wgL_first hjk HZ.out h)
          have HZ2 := hid (fun (h : wgT ks[j] = 0) i (hi : i < ks.length) (hij : i < j + 1) => (by
            by_cases e : i = j
            · subst e; exact h
            · exact HZ.out i hi (by omega) : wgT ks[i] = 0))
          generalize wgT ks[j] = z at *
          by_cases hz : z = 0
          · subst hz
            go_wp2
            go_roundw
            case rel => exact ⟨j + 1, by omega, by go_num, hid (HZ2.out trivial), HB6⟩
            case measure => simp [intOf]; omega
          · have hz' : ¬ (z : Int) = 0 := by omega
            have HFz := hid (HF.out hz)
            clear HF HZ2 HZ
            go_wp2
            go_ret
            exact ⟨by rw [HW.out, HFz.out]; rfl, HB6.out⟩
        · obtain rfl : j = n := by omega
          have HZ0 := hid (wgL_take (fun i hi => HZ.out i hi (by omega)))
          clear HZ
          go_wp2
          go_ret
          exact ⟨by rw [HW.out, HZ0.out]; rfl, HB.out⟩
  by_cases h5 : k = 5
  · subst h5
    by_cases hn0 : n = 1
    · subst hn0
      by_cases c0 : lo < 0
      · have HW := hid (show wgT T = 1 by rw [hwg, hck]; simp [c0])
        clear hwg hck
        go_wp2
        go_ret
        exact ⟨by rw [HW.out]; rfl, HBX.out⟩
      by_cases c1 : 256 < lo
      · have HW := hid (show wgT T = 1 by rw [hwg, hck]; simp [c0, c1])
        clear hwg hck
        go_wp2
        go_ret
        exact ⟨by rw [HW.out]; rfl, HBX.out⟩
      by_cases c2 : 256 < hi
      · have HW := hid (show wgT T = 1 by rw [hwg, hck]; simp [c0, c1, c2])
        clear hwg hck
        go_wp2
        go_ret
        exact ⟨by rw [HW.out]; rfl, HBX.out⟩
      by_cases c3 : 0 ≤ hi
      · by_cases c4 : hi < lo
        · have HW := hid (show wgT T = 1 by rw [hwg, hck]; simp [c0, c1, c2, c3, c4])
          clear hwg hck
          go_wp2
          go_ret
          exact ⟨by rw [HW.out]; rfl, HBX.out⟩
        · have HW := hid (show wgT T = wgL ks by rw [hwg, hck]; simp [c0, c1, c2, c3, c4])
          clear hwg hck
          go_wp2_with fail
          clear x0 x1 x2 x3 x4 x5 x6 x7
          go_loopw [62] (fun i wr => ∃ j : Nat, j ≤ 1 ∧ i = .int .i64 j ∧ Hid (∀ i (hi : i < ks.length), i < j → wgT ks[i] = 0) ∧ Hid (Below w.heap.size w wr)) (fun i _ => 1 - (intOf i).toNat)
          case atStart => exact ⟨0, by omega, rfl, hid (fun i _ h => absurd h (by omega)), HBX⟩
          case round =>
            clear HBX
            obtain ⟨j, hj, rfl, HZ, HB⟩ := hrel
            by_cases hlt : j < 1
            · obtain ⟨b, o, hAe, hbl, hp, hrow⟩ := HRL.out.1 (by omega)
              have hjk : j < ks.length := by omega
              have hrw := (hrow j hjk).block (HB.out.block b (hP b hp))
              obtain ⟨y0, y1, y2, y3, y4, y5, y6, y7⟩ := hrw.cells8
              have hRk := (HRL.out.2 j hjk).mono HB.out.size (fun b hb _ => HB.out.block b (hP b hb)) (fun _ h _ => h)
              generalize hx : vs j = x at *
              have hbx := row_new wr 26 #[.int .i64 0, .int .u64 0, .int .u64 0, .int .u64 0, .int .u64 0, .slice none 0 0, .int .i64 0, .int .i64 0] x.cells.toArray
              have HX5 := hid (show Blk ((wr.alloc (.cells #[.int .i64 0, .int .u64 0, .int .u64 0, .int .u64 0, .int .u64 0, .slice none 0 0, .int .i64 0, .int .i64 0] 26)).setRow wr.heap.size x.cells.toArray) wr.heap.size 26 x.cells from setRow_heap _ _ _ _ _ (0, 0) (heap_alloc_new wr _))
              have HSz := hid (rx_size x)
              have HOne := hid (rx_one x)
              have HB5 := hid (HB.out.trans (hbx.mono HB.out.size))
              have hs5 := HB5.out.size
              have HIH := hid (ih ks[j] (List.getElem_mem _) x _ P (hRk.keep hbx) (fun b hb => by have := hP b hb; omega) (by have h1 := szL_take ks j hjk; have h2 := szL_take_le ks (j + 1); omega))
              clear hRk hbx hrow hrw ih HRL HB hs5
              unfold RV.val at HIH
              rw [hAe]
              go_wp2_with (refine wpList_store_row rfl 26 _ _ rfl wr.heap.size x.cells.toArray ?_ ?_ 26 #[.int .i64 0, .int .u64 0, .int .u64 0, .int .u64 0, .int .u64 0, .slice none 0 0, .int .i64 0, .int .i64 0] (heap_alloc_new wr _) HSz.out ?_ HOne.out ?_; exact rfl; exact rfl; exact rfl; generalize (wr.alloc (.cells #[.int .i64 0, .int .u64 0, .int .u64 0, .int .u64 0, .int .u64 0, .slice none 0 0, .int .i64 0, .int .i64 0] 26)).setRow wr.heap.size x.cells.toArray = w5 at *; obtain ⟨x0, x1, x2, x3, x4, x5, x6, x7⟩ := Blk.cells8' HX5.out)
              refine HIH.out.mono ?_
              rintro e w6 ⟨rfl, hb6⟩
              have HB6 := hid (HB5.out.trans (hb6.mono HB5.out.size))
              clear x0 x1 x2 x3 x4 x5 x6 x7 y0 y1 y2 y3 y4 y5 y6 y7 hb6 HIH HB5 HX5
              have HF := hid (fun h => wgL_first hjk HZ.out h)
              have HZ2 := hid (fun (h : wgT ks[j] = 0) i (hi : i < ks.length) (hij : i < j + 1) => (by
                by_cases e : i = j
                · subst e; exact h
                · exact HZ.out i hi (by omega) : wgT ks[i] = 0))
              generalize wgT ks[j] = z at *
              by_cases hz : z = 0
              · subst hz
                go_wp2
                go_roundw
                case rel => exact ⟨j + 1, by omega, by go_num, hid (HZ2.out trivial), HB6⟩
                case measure => simp [intOf]; omega
              · have hz' : ¬ (z : Int) = 0 := by omega
                have HFz := hid (HF.out hz)
                clear HF HZ2 HZ
                go_wp2
                go_ret
                exact ⟨by rw [HW.out, HFz.out]; rfl, HB6.out⟩
            · obtain rfl : j = 1 := by omega
              have HZ0 := hid (wgL_take (fun i hi => HZ.out i hi (by omega)))
              clear HZ
              go_wp2
              go_ret
              exact ⟨by rw [HW.out, HZ0.out]; rfl, HB.out⟩
      · have HW := hid (show wgT T = wgL ks by rw [hwg, hck]; simp [c0, c1, c2, c3])
        clear hwg hck
        go_wp2_with fail
        clear x0 x1 x2 x3 x4 x5 x6 x7
        go_loopw [62] (fun i wr => ∃ j : Nat, j ≤ 1 ∧ i = .int .i64 j ∧ Hid (∀ i (hi : i < ks.length), i < j → wgT ks[i] = 0) ∧ Hid (Below w.heap.size w wr)) (fun i _ => 1 - (intOf i).toNat)
        case atStart => exact ⟨0, by omega, rfl, hid (fun i _ h => absurd h (by omega)), HBX⟩
        case round =>
          clear HBX
          obtain ⟨j, hj, rfl, HZ, HB⟩ := hrel
          by_cases hlt : j < 1
          · obtain ⟨b, o, hAe, hbl, hp, hrow⟩ := HRL.out.1 (by omega)
            have hjk : j < ks.length := by omega
            have hrw := (hrow j hjk).block (HB.out.block b (hP b hp))
            obtain ⟨y0, y1, y2, y3, y4, y5, y6, y7⟩ := hrw.cells8
            have hRk := (HRL.out.2 j hjk).mono HB.out.size (fun b hb _ => HB.out.block b (hP b hb)) (fun _ h _ => h)
            generalize hx : vs j = x at *
            have hbx := row_new wr 26 #[.int .i64 0, .int .u64 0, .int .u64 0, .int .u64 0, .int .u64 0, .slice none 0 0, .int .i64 0, .int .i64 0] x.cells.toArray
            have HX5 := hid (show Blk ((wr.alloc (.cells #[.int .i64 0, .int .u64 0, .int .u64 0, .int .u64 0, .int .u64 0, .slice none 0 0, .int .i64 0, .int .i64 0] 26)).setRow wr.heap.size x.cells.toArray) wr.heap.size 26 x.cells from setRow_heap _ _ _ _ _ (0, 0) (heap_alloc_new wr _))
            have HSz := hid (rx_size x)
            have HOne := hid (rx_one x)
            have HB5 := hid (HB.out.trans (hbx.mono HB.out.size))
            have hs5 := HB5.out.size
            have HIH := hid (ih ks[j] (List.getElem_mem _) x _ P (hRk.keep hbx) (fun b hb => by have := hP b hb; omega) (by have h1 := szL_take ks j hjk; have h2 := szL_take_le ks (j + 1); omega))
            clear hRk hbx hrow hrw ih HRL HB hs5
            unfold RV.val at HIH
            rw [hAe]
            go_wp2_with (refine wpList_store_row rfl 26 _ _ rfl wr.heap.size x.cells.toArray ?_ ?_ 26 #[.int .i64 0, .int .u64 0, .int .u64 0, .int .u64 0, .int .u64 0, .slice none 0 0, .int .i64 0, .int .i64 0] (heap_alloc_new wr _) HSz.out ?_ HOne.out ?_; exact rfl; exact rfl; exact rfl; generalize (wr.alloc (.cells #[.int .i64 0, .int .u64 0, .int .u64 0, .int .u64 0, .int .u64 0, .slice none 0 0, .int .i64 0, .int .i64 0] 26)).setRow wr.heap.size x.cells.toArray = w5 at *; obtain ⟨x0, x1, x2, x3, x4, x5, x6, x7⟩ := Blk.cells8' HX5.out)
            refine HIH.out.mono ?_
            rintro e w6 ⟨rfl, hb6⟩
            have HB6 := hid (HB5.out.trans (hb6.mono HB5.out.size))
            clear x0 x1 x2 x3 x4 x5 x6 x7 y0 y1 y2 y3 y4 y5 y6 y7 hb6 HIH HB5 HX5
            have HF := hid (fun h => wgL_first hjk HZ.out h)
            have HZ2 := hid (fun (h : wgT ks[j] = 0) i (hi : i < ks.length) (hij : i < j + 1) => (by
              by_cases e : i = j
              · subst e; exact h
              · exact HZ.out i hi (by omega) : wgT ks[i] = 0))
            generalize wgT ks[j] = z at *
            by_cases hz : z = 0
            · subst hz
              go_wp2
              go_roundw
              case rel => exact ⟨j + 1, by omega, by go_num, hid (HZ2.out trivial), HB6⟩
              case measure => simp [intOf]; omega
            · have hz' : ¬ (z : Int) = 0 := by omega
              have HFz := hid (HF.out hz)
              clear HF HZ2 HZ
              go_wp2
              go_ret
              exact ⟨by rw [HW.out, HFz.out]; rfl, HB6.out⟩
          · obtain rfl : j = 1 := by omega
            have HZ0 := hid (wgL_take (fun i hi => HZ.out i hi (by omega)))
            clear HZ
            go_wp2
            go_ret
            exact ⟨by rw [HW.out, HZ0.out]; rfl, HB.out⟩
    · have hn' : ¬ (n : Int) = 1 := by omega
      have HW := hid (show wgT T = 5 by rw [hwg, hck]; simp [hn0])
      clear hwg hck
      go_wp2
      go_ret
      exact ⟨by rw [HW.out]; rfl, HBX.out⟩
  · have HW := hid (show wgT T = 5 by rw [hwg, hck]; simp [h1, h2, h3, h4, h5])
    clear hwg hck
    go_wp2
    go_ret
    exact ⟨by rw [HW.out]; rfl, HBX.out⟩
end Go.Proofs.YtkjdmbbdclkkgaaDoor
