/- tree: TreeCounts, its walk. -/
import Derived.Test.YtdhipmdapodpkaaTrN
import Derived.Test.YtdhipmdapodpkaaTrN2
import Derived.Test.YtdhipmdapodpkaaTrF
import Derived.Deep.CutRange
namespace Go.Proofs.Ytdhipmdapodpkaa
set_option linter.unusedSimpArgs false
set_option linter.unusedVariables false
open Go.RowKit

theorem below_then' {W X Y : World} (h : Below W.heap.size W X) (h2 : Below X.heap.size X Y) : Below W.heap.size W Y := h.trans (h2.mono h.size)
theorem below_d0' (W : World) : Below W.heap.size W W.drew := ⟨rfl, rfl, rfl, Nat.le_refl _, fun _ _ => rfl⟩
set_option maxRecDepth 100000 in
set_option maxHeartbeats 8000000 in
theorem counts_walk (HTx : ∀ w, Calls Try.prog 8 #[] w fun e w' => e = .returned (.bool true) ∧ Below w.heap.size w w') {v : TV} {t : TT} {st : Int} {w : World} (hR : Rep w (· < w.heap.size) v t) :
    Calls Try.prog 5 #[v.val, .int .i64 st] w fun e w' => e = .returned (.bool true) ∧ Below w.heap.size w w' := by
  obtain ⟨RR, hRR⟩ : ∃ RR : Ending → World → Prop, RR = fun e w' => e = .returned (.bool true) ∧ Below w.heap.size w w' := ⟨_, rfl⟩
  rw [← hRR]
  have HRR := hid hRR
  have HTxh := hid HTx
  obtain ⟨hb0, h0⟩ := box_new w v
  have hb1 : Below (w.alloc (.cells v.cells.toArray 26)).heap.size (w.alloc (.cells v.cells.toArray 26)) ((w.alloc (.cells v.cells.toArray 26)).alloc (.cells #[.int .i64 st] 3)) := (Below.refl _ _).alloc (Nat.le_refl _) _
  have h1 : BoxT _ w.heap.size v := Blk.keep h0 hb1
  have hs1 : Blk ((w.alloc (.cells v.cells.toArray 26)).alloc (.cells #[.int .i64 st] 3)) (w.heap.size + 1) 3 [.int .i64 st] := by
    have := heap_alloc_new (w.alloc (.cells v.cells.toArray 26)) (.cells #[.int .i64 st] 3)
    rw [World.size_alloc] at this
    exact this
  have hb := below_then' hb0 hb1
  have hvc : v.cells.toArray = #[.int .u64 (v.num : Int), .bool v.bl, .slice v.D.A v.D.n v.D.c, .slice v.K.A v.K.n v.K.c] := rfl
  rw [hvc] at hb h1 hs1
  have HX := hid h1
  have HB := hid hb
  have HR := hid hR
  have HS := hid hs1
  clear hRR HTx hb hb0 hb1 h0 h1 hs1 hvc hR
  unfold TV.val
  obtain ⟨num, bl, ⟨DA, Dn, Dc⟩, ⟨KA, n, Kc⟩⟩ := v
  simp only at *
  go_enter Try.func5, Try.ntmps5
  go_upto_region 1 with (fail)
  generalize (w.alloc (.cells #[.int .u64 (num : Int), .bool bl, .slice DA Dn Dc, .slice KA n Kc] 26)).alloc (.cells #[.int .i64 st] 3) = w1 at *
  have HT := hid (HTxh.out w1)
  go_upto_region 4 with (go_at_call 8; (with_reducible refine HT.out.mono ?_); rintro e w2 ⟨rfl, hb2⟩; have HB2 := hid hb2; clear hb2)
  have hb3 : Below w2.heap.size w2 (w2.alloc (.cells #[.int .i64 300] 3)) := (Below.refl _ _).alloc (Nat.le_refl _) _
  have hl3 : Blk (w2.alloc (.cells #[.int .i64 300] 3)) w2.heap.size 3 [.int .i64 300] := heap_alloc_new w2 _
  generalize w2.alloc (.cells #[.int .i64 300] 3) = w3 at *
  have hb13 := below_then' HB2.out hb3
  have HX3 := hid (show BoxT w3 w.heap.size ⟨num, bl, ⟨DA, Dn, Dc⟩, ⟨KA, n, Kc⟩⟩ from Blk.keep HX.out hb13)
  have HS3 := hid (show Blk w3 (w.heap.size + 1) 3 [.int .i64 st] from Blk.keep HS.out hb13)
  have HG := hid (show w.heap.size + 1 < w2.heap.size by have := HS.out.lt; have := HB2.out.size; omega)
  have hR3 : Rep w3 (· < w.heap.size) ⟨num, bl, ⟨DA, Dn, Dc⟩, ⟨KA, n, Kc⟩⟩ t := (HR.out.keep HB.out).keep hb13
  have hF := few_any t ⟨num, bl, ⟨DA, Dn, Dc⟩, ⟨KA, n, Kc⟩⟩ w3 300 0 hR3 (fun b hb => by have := HG.out; omega) hl3 (by decide) (by decide) (by decide)
  rw [show ((0 : Nat) : Int) = 0 from rfl] at hF
  unfold TV.val at hF
  simp only at hF
  have HF := hid hF
  clear hF
  have HBw := hid (below_then' HB.out hb13)
  have HFt := hid (few_text t _ HR.out 300 0)
  have HFl := hid ((few_le t 300 0).2)
  obtain ⟨fr, hfr⟩ : ∃ fr, fr = fewT 300 0 t := ⟨_, rfl⟩
  rw [← hfr] at HF HFt HFl
  obtain ⟨fb, fn⟩ := fr
  obtain ⟨x0, x1, x2, x3⟩ := BoxT.four HX3.out
  have HB3 := hid hb3
  clear hfr hR3 hl3 hb13 hb3
  simp only at x0 x1 x2 x3
  cases fb
  · go_wp2_with (go_at_call 9; (with_reducible refine HF.out.mono ?_); rintro e w4 ⟨rfl, hl4, hc4⟩; have HB4 := hid (Chg.below HBw.out hc4 (Nat.le_trans (by have := HG.out; omega) HB3.out.size) (fun j hj => by have := HG.out; omega)); have HX4 := hid (HX3.out.chg hc4 (by have := HG.out; omega)); have HS4 := hid (HS3.out.chg hc4 (by have := HG.out; omega)); clear hl4 hc4 x0 x1 x2 x3)
    show RR (.returned (.bool true)) w4
    rw [HRR.out]
    exact ⟨rfl, HB4.out⟩
  go_upto_region 7 with (go_at_call 9; (with_reducible refine HF.out.mono ?_); rintro e w4 ⟨rfl, hl4, hc4⟩; have HB4 := hid (Chg.below HBw.out hc4 (Nat.le_trans (by have := HG.out; omega) HB3.out.size) (fun j hj => by have := HG.out; omega)); have HX4 := hid (HX3.out.chg hc4 (by have := HG.out; omega)); have HS4 := hid (HS3.out.chg hc4 (by have := HG.out; omega)); clear hl4 hc4 x0 x1 x2 x3)
  have hft := HFt.out (by first | rfl | trivial)
  have hfl := HFl.out (by first | rfl | trivial)
  obtain ⟨nn, bb, d, ks⟩ := t
  obtain ⟨hnn, hbb, hq1, hq2, hq3, hkn, xs, hxl, hK, hr⟩ := (HR.out.keep HB4.out).inv
  have HWt := hid (show wT (.nd nn bb d ks) ≤ 90300 by omega)
  have hsz := szT_le (.nd nn bb d ks)
  have hb5 : Below w4.heap.size w4 (w4.alloc (.cells #[.int .i64 0] 3)) := (Below.refl _ _).alloc (Nat.le_refl _) _
  have hn5 : Blk (w4.alloc (.cells #[.int .i64 0] 3)) w4.heap.size 3 [.int .i64 ((0 : Nat) : Int)] := heap_alloc_new w4 _
  generalize w4.alloc (.cells #[.int .i64 0] 3) = w5 at *
  have HG5 := hid (show w.heap.size + 1 < w4.heap.size from HS4.out.lt)
  have hE := each_any (y15 w4.heap.size) (P := (· < w.heap.size)) (.nd nn bb d ks) ⟨num, bl, ⟨DA, Dn, Dc⟩, ⟨KA, n, Kc⟩⟩ w5 0 ((HR.out.keep HB4.out).keep hb5) (fun b hb => by have := HG5.out; omega) (by have := HWt.out; omega) (by have := HWt.out; omega) hn5
  rw [vis_all] at hE
  unfold TV.val at hE
  simp only [Nat.zero_add] at hE
  have HE := hid hE
  have HX5 := hid (show BoxT w5 w.heap.size ⟨num, bl, ⟨DA, Dn, Dc⟩, ⟨KA, n, Kc⟩⟩ from Blk.keep HX4.out hb5)
  have HS5 := hid (show Blk w5 (w.heap.size + 1) 3 [.int .i64 st] from Blk.keep HS4.out hb5)
  have HB5 := hid (below_then' HB4.out hb5)
  have H1 := hid (show RepL w4 (· < w.heap.size) ⟨KA, n, Kc⟩ ks xs from ⟨hkn, hxl, hK, hr⟩)
  have HN := hid (show n = ks.length from hkn)
  have HB45 := hid hb5
  have hwl := wL_len ks
  have hwt0 : wL ks ≤ 90300 := by have := HWt.out; rw [wT] at this; omega
  have hnb : n ≤ 90300 := by have := HN.out; omega
  have HWl := hid hwt0
  obtain ⟨x0, x1, x2, x3⟩ := BoxT.four HX5.out
  simp only at x0 x1 x2 x3
  clear hft hfl hq1 hq2 hq3 hkn hxl hK hr hsz hb5 hn5 hE HF HFt HFl hnn hbb hwl hwt0
  go_upto_region 8 with (go_at_call 14; (with_reducible refine HE.out.mono ?_); rintro e w6 ⟨rfl, hy6, hc6⟩; have HY6 := hid hy6; have HB6 := hid (Chg.below HB5.out hc6 (by have := HG5.out; have := HB45.out.size; omega) (fun j hj => by have := HG5.out; omega)); have HC6 := hid hc6; have HX6 := hid (HX5.out.chg hc6 (by have := HG5.out; omega)); have HS6 := hid (HS5.out.chg hc6 (by have := HG5.out; omega)); clear hy6 hc6 x0 x1 x2 x3)
  obtain ⟨x0, x1, x2, x3⟩ := BoxT.four HX6.out
  simp only at x0 x1 x2 x3
  have HB64 := hid (show Below w4.heap.size w4 w6 from Chg.below HB45.out HC6.out HB45.out.size (fun j hj => by omega))
  have H6 := hid (H1.out.keep HB64.out)
  clear HX HX3 HX4 HX5 HS HS3 HS4 HS5 HB2 HB3 HB HBw HB4 HB5 HC6 HE HT H1 HG
  go_wp2_with fail
  go_loopw [7, 8, 25] (fun dd cc i wr => ∃ q : Nat, q ≤ n ∧ dd = .int .i64 ((dpL (ks.take q) : Nat) : Int) ∧ cc = .int .i64 ((szL (ks.take q) : Nat) : Int) ∧ i = .int .i64 q ∧ Hid (Below w6.heap.size w6 wr)) (fun _ _ i _ => n - (intOf i).toNat)
  case atStart => exact ⟨0, by omega, by simp [dpL], by simp [szL], rfl, hid (Below.refl _ _)⟩
  case round =>
    clear x0 x1 x2 x3
    obtain ⟨q, hq, rfl, rfl, rfl, HB⟩ := hrel
    obtain ⟨x0, x1, x2, x3⟩ := BoxT.four (v := ⟨num, bl, ⟨DA, Dn, Dc⟩, ⟨KA, n, Kc⟩⟩) (Blk.keep HX6.out HB.out)
    simp only at x0 x1 x2 x3
    by_cases hlt : q < n
    · clear x0 x1 x2 x3
      have hlt' : (q : Int) < (n : Int) := by omega
      have hk1 : q < ks.length := by rw [← HN.out]; exact hlt
      have hq1 : q < xs.length := by rw [H6.out.l]; exact hk1
      obtain ⟨b1, o1, hA, hbl, _, g1⟩ := Rw.range H6.out.r hq1
      have hA' : KA = some ⟨b1, o1, none⟩ := hA
      have HR1 := hid (H6.out.each q hq1 hk1)
      obtain ⟨y, hy⟩ : ∃ y, y = xs[q] := ⟨_, rfl⟩
      obtain ⟨u, hu⟩ : ∃ u, u = ks[q] := ⟨_, rfl⟩
      rw [← hy] at g1 HR1
      rw [← hu] at HR1
      have g1' := range_keep g1 (HB.out.block b1 hbl)
      have hbx := row_new wr 26 #[.int .u64 0, .bool false, .slice none 0 0, .slice none 0 0] y.cells.toArray
      have hX4 : Blk ((wr.alloc (.cells #[.int .u64 0, .bool false, .slice none 0 0, .slice none 0 0] 26)).setRow wr.heap.size y.cells.toArray) wr.heap.size 26 y.cells := setRow_heap _ _ _ _ _ (0, 0) (heap_alloc_new wr _)
      obtain ⟨W4, hW4⟩ : ∃ W4, W4 = (wr.alloc (.cells #[.int .u64 0, .bool false, .slice none 0 0, .slice none 0 0] 26)).setRow wr.heap.size y.cells.toArray := ⟨_, rfl⟩
      rw [← hW4] at hbx hX4
      have hB4 := HB.out.trans (hbx.mono HB.out.size)
      obtain ⟨e0, e1, e2, e3⟩ := tv_range g1'
      have hx4 : BoxT W4 wr.heap.size y := hX4
      obtain ⟨z0, z1, z2, z3⟩ := hx4.four
      have HBb := hid hB4
      have HXb := hid hx4
      have HW4 := hid hW4
      have HSf := hid (tv_size y)
      have HOf := hid (tv_one y)
      have HR4 := hid (HR1.out.mono (fun b _ hl => hB4.block b hl) hB4.size (fun _ h _ => h))
      have HWu := hid (show wT u ≤ 1048576 by rw [hu]; exact Nat.le_trans (wL_get hk1) (by have := HWl.out; omega))
      have HTd := hid (show dpL (ks.take (q + 1)) = max (dpL (ks.take q)) (dpT u) by rw [hu]; exact dpL_take hk1)
      have HTs := hid (show szL (ks.take (q + 1)) = szL (ks.take q) + szT u by rw [hu]; exact szL_take hk1)
      have hsb : szL (ks.take q) + szT u ≤ 90300 := by
        have h1 := szL_take_le ks (q + 1)
        have h2 := szL_le ks
        have h3 := HWl.out
        have h4 := HTs.out
        omega
      have hCp := parts_any u y W4 _ HR4.out HWu.out
      unfold TV.val at hCp
      have HCp := hid hCp
      have HCd := hid (show ∀ W, Below W4.heap.size W4 W → Calls Try.prog 13 #[.agg #[.int .u64 (y.num : Int), .bool y.bl, .slice y.D.A y.D.n y.D.c, .slice y.K.A y.K.n y.K.c]] W (fun e w' => e = .returned (.int .i64 ((dpT u : Nat) : Int)) ∧ Below W.heap.size W w') from fun W hW => by
        have h := depth_any u y W _ (HR4.out.keep hW) HWu.out
        exact h)
      clear hbx hX4 hB4 hW4 g1 g1' hbl hA hy hu hx4 HR1 hCp
      rw [hA']
      obtain ⟨a, ha⟩ : ∃ a, a = dpL (ks.take q) := ⟨_, rfl⟩
      obtain ⟨c, hc⟩ : ∃ c, c = dpT u := ⟨_, rfl⟩
      obtain ⟨a2, ha2⟩ : ∃ a, a = szL (ks.take q) := ⟨_, rfl⟩
      obtain ⟨c2, hc2⟩ : ∃ c, c = szT u := ⟨_, rfl⟩
      rw [← hc] at HCd
      rw [← hc2] at HCp hsb
      rw [← ha, ← hc] at HTd
      rw [← ha2, ← hc2] at HTs
      rw [← ha2] at hsb
      rw [← ha, ← ha2]
      clear ha hc ha2 hc2
      go_wp2_with (first
        | ((with_reducible refine wpList_store_row rfl 26 _ _ rfl wr.heap.size y.cells.toArray ?_ ?_ 26 #[.int .u64 0, .bool false, .slice none 0 0, .slice none 0 0] (heap_alloc_new wr _) HSf.out ?_ HOf.out ?_); exact rfl; exact rfl; exact rfl; rw [← HW4.out])
        | (go_at_call 16; (with_reducible refine HCp.out.mono ?_); rintro e w8 ⟨rfl, hb8⟩; have HB8 := hid hb8; clear z0 z1 z2 z3; obtain ⟨z0, z1, z2, z3⟩ := BoxT.four (Blk.keep HXb.out hb8); clear hb8 e0 e1 e2 e3)
        | (go_at_call 13; (with_reducible refine (HCd.out _ HB8.out).mono ?_); rintro e w9 ⟨rfl, hb9⟩; have HB9 := hid (HBb.out.trans ((below_then' HB8.out hb9).mono HBb.out.size)); clear hb9 z0 z1 z2 z3))
      exact ⟨⟨q + 1, by omega, by (rw [HTd.out]; congr 1; omega), by (rw [HTs.out]; first | rfl | (congr 1; omega) | congr 1), by go_num, HB9⟩, by simp [intOf]; omega⟩
    · obtain rfl : q = n := by omega
      have e : ks.take q = ks := by rw [HN.out, List.take_length]
      rw [e]
      clear e
      have HYr := hid (HY6.out.keep HB.out)
      have HXr := hid (show BoxT wr w.heap.size ⟨num, bl, ⟨DA, Dn, Dc⟩, ⟨KA, q, Kc⟩⟩ from Blk.keep HX6.out HB.out)
      have HSr := hid (Blk.keep HS6.out HB.out)
      have HBr := hid (below_then' HB6.out HB.out)
      have hsz : szT (.nd nn bb d ks) = szL ks + 1 := by rw [szT]; omega
      have hdp : dpT (.nd nn bb d ks) = dpL ks + 1 := by rw [dpT]
      have hPa : ∀ W, Below wr.heap.size wr W → Calls Try.prog 16 #[.agg #[.int .u64 (num : Int), .bool bl, .slice DA Dn Dc, .slice KA q Kc]] W (fun e w' => e = .returned (.int .i64 ((szL ks + 1 : Nat) : Int)) ∧ Below W.heap.size W w') := fun W hW => by
        have h := parts_any (.nd nn bb d ks) ⟨num, bl, ⟨DA, Dn, Dc⟩, ⟨KA, q, Kc⟩⟩ W _ ((HR.out.keep HBr.out).keep hW) (by have := HWt.out; omega)
        rw [hsz] at h
        exact h
      have hDe : ∀ W, Below wr.heap.size wr W → Calls Try.prog 13 #[.agg #[.int .u64 (num : Int), .bool bl, .slice DA Dn Dc, .slice KA q Kc]] W (fun e w' => e = .returned (.int .i64 ((dpL ks + 1 : Nat) : Int)) ∧ Below W.heap.size W w') := fun W hW => by
        have h := depth_any (.nd nn bb d ks) ⟨num, bl, ⟨DA, Dn, Dc⟩, ⟨KA, q, Kc⟩⟩ W _ ((HR.out.keep HBr.out).keep hW) (by have := HWt.out; omega)
        rw [hdp] at h
        exact h
      rw [hsz] at HYr
      have hle1 := szL_le ks
      have hle2 := dpL_le ks
      have hle0 := HWl.out
      have HPa := hid hPa
      have HDe := hid hDe
      have HKs := hid hsz
      obtain ⟨ns, hns⟩ : ∃ ns, ns = szL ks := ⟨_, rfl⟩
      obtain ⟨dd, hdd⟩ : ∃ dd, dd = dpL ks := ⟨_, rfl⟩
      rw [← hns] at HPa HYr HKs hle1 ⊢
      rw [← hdd] at HDe hle2 ⊢
      have hb1 : ns ≤ 90300 := by omega
      have hb2 : dd ≤ 90300 := by omega
      have y0 := Blk.at HYr.out 0
      simp only [List.getElem?_cons_zero] at y0
      clear hns hdd hle1 hle2 hle0 hsz hdp hPa hDe HB6 HY6 HS6 H6
      have b0 := Below.refl wr.heap.size wr
      go_upto_region 14 with (fail)
      go_cut [58] from 38 to 58 (fun s wx => s = .bool false ∧ Hid (Below wr.heap.size wr wx))
      case first =>
        clear x0 x1 x2 x3 y0
        have HXq := hid (fun W (hW : Below wr.heap.size wr W) => BoxT.four (v := ⟨num, bl, ⟨DA, Dn, Dc⟩, ⟨KA, q, Kc⟩⟩) (Blk.keep HXr.out hW))
        have HYq := hid (fun W (hW : Below wr.heap.size wr W) => Blk.at (Blk.keep HYr.out hW) 0)
        have hd := below_d0' wr
        have hwr1 : IntKind.i64.wrap ((ns : Int) + 1) = (ns : Int) + 1 := by rw [IntKind.wrap_i64]; omega
        have hwr2 : IntKind.i64.wrap ((dd : Int) + 1) = (dd : Int) + 1 := by rw [IntKind.wrap_i64]; omega
        obtain ⟨x0, x1, x2, x3⟩ := HXq.out _ hd
        have y0 := HYq.out _ hd
        simp only [List.getElem?_cons_zero] at x0 x1 x2 x3 y0
        go_region_with (first
          | (go_at_call 16; (with_reducible refine (HPa.out _ hd).mono ?_); rintro e w8 ⟨rfl, hb8⟩; have HB8 := hid (below_then' hd hb8); clear hb8 x0 x1 x2 x3 y0; obtain ⟨x0, x1, x2, x3⟩ := HXq.out _ HB8.out; have y0 := HYq.out _ HB8.out; simp only [List.getElem?_cons_zero] at x0 x1 x2 x3 y0)
          | (go_at_call 13; (with_reducible refine (HDe.out _ HB8.out).mono ?_); rintro e w9 ⟨rfl, hb9⟩; have HB9 := hid (below_then' HB8.out hb9); clear hb9 x0 x1 x2 x3 y0))
        all_goals (go_wp2_with fail; go_meet)
        all_goals exact ⟨by first | rfl | simp, HB9⟩
      case rest =>
        obtain ⟨rfl, HBc⟩ := hcut
        clear x0 x1 x2 x3 y0 b0 HPa HDe
        have HXc := hid (show BoxT wc w.heap.size ⟨num, bl, ⟨DA, Dn, Dc⟩, ⟨KA, q, Kc⟩⟩ from Blk.keep HXr.out HBc.out)
        have HYc := hid (Blk.keep HYr.out HBc.out)
        have HSc := hid (Blk.keep HSr.out HBc.out)
        have HBd := hid (below_then' HBr.out HBc.out)
        obtain ⟨x0, x1, x2, x3⟩ := BoxT.four HXc.out
        simp only at x0 x1 x2 x3
        go_upto_region 17 with (fail)
        have hb5 : Below wc.heap.size wc (wc.alloc (.cells #[.int .i64 0] 3)) := (Below.refl _ _).alloc (Nat.le_refl _) _
        have hn5 : Blk (wc.alloc (.cells #[.int .i64 0] 3)) wc.heap.size 3 [.int .i64 ((0 : Nat) : Int)] := heap_alloc_new wc _
        generalize wc.alloc (.cells #[.int .i64 0] 3) = w11 at *
        have HGc := hid (show w.heap.size + 1 < wc.heap.size ∧ w4.heap.size < wc.heap.size from ⟨HSc.out.lt, HYc.out.lt⟩)
        have hE := each_any (y17 wc.heap.size (w.heap.size + 1) st (by have := HGc.out; omega)) (P := (· < w.heap.size)) (.nd nn bb d ks) ⟨num, bl, ⟨DA, Dn, Dc⟩, ⟨KA, q, Kc⟩⟩ w11 0 ((HR.out.keep HBd.out).keep hb5) (fun b hb => by have := HGc.out; omega) (by have := szT_le (.nd nn bb d ks); have := HWt.out; omega) (by have := HWt.out; omega) ⟨hn5, HSc.out.keep hb5⟩
        unfold TV.val at hE
        simp only [Nat.zero_add] at hE
        have hve := vis_end st (szT (.nd nn bb d ks)) (by rw [szT]; omega)
        rw [HKs.out] at hE hve
        obtain ⟨vr, hvr⟩ : ∃ vr, vr = visN (fun c => decide ((c : Int) < st)) (ns + 1) 0 := ⟨_, rfl⟩
        rw [← hvr] at hE hve
        obtain ⟨vb, vm⟩ := vr
        have HE2 := hid hE
        have HX5 := hid (show BoxT w11 w.heap.size ⟨num, bl, ⟨DA, Dn, Dc⟩, ⟨KA, q, Kc⟩⟩ from Blk.keep HXc.out hb5)
        have HY5 := hid (Blk.keep HYc.out hb5)
        have HB5 := hid (below_then' HBd.out hb5)
        have HB45 := hid hb5
        clear x0 x1 x2 x3 hvr hE hn5 hb5
        obtain ⟨x0, x1, x2, x3⟩ := BoxT.four HX5.out
        simp only at x0 x1 x2 x3
        have HVe := hid hve
        clear hve
        go_upto_region 18 with (go_at_call 14; (with_reducible refine HE2.out.mono ?_); rintro e w12 ⟨rfl, hy6, hc6⟩; have HM := hid hy6.1; have HS := hid hy6.2; have HB6 := hid (Chg.below HB5.out hc6 (by have := HGc.out; have := HB45.out.size; omega) (fun j hj => by have := HGc.out; omega)); have HY6 := hid (HY5.out.chg hc6 (by have := HGc.out; omega)); clear hy6 hc6 x0 x1 x2 x3)
        have m0 := Blk.at HM.out 0
        have s0 := Blk.at HS.out 0
        have y0 := Blk.at HY6.out 0
        simp only [List.getElem?_cons_zero] at m0 s0 y0
        clear HE2 HXr HSr HBr HYr HBc HXc HYc HSc HBd HX5 HY5 HB5 HB45 HM HS HY6
        rcases HVe.out with ⟨h1, h2⟩ | ⟨h1, h2, h3⟩ | ⟨h1, h2, h3⟩
        · injection h2 with h2 h3
          subst h2 h3
          clear HVe
          go_wp2_with fail
          rw [HRR.out]
          exact ⟨by first | rfl | (simp; done) | (simp; omega), HB6.out⟩
        · injection h3 with h3 h4
          subst h3 h4
          clear HVe
          go_wp2_with fail
          rw [HRR.out]
          exact ⟨by first | rfl | (simp; done) | (simp; omega), HB6.out⟩
        · injection h3 with h3 h4
          have h5 : (vm : Int) = st := by omega
          subst h3
          rw [h5] at m0
          clear HVe h4 h5
          go_wp2_with fail
          rw [HRR.out]
          exact ⟨by first | rfl | (simp; done) | (simp; omega), HB6.out⟩
end Go.Proofs.Ytdhipmdapodpkaa
