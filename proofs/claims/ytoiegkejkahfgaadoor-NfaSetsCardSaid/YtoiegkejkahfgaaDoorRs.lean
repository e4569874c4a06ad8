/- regex: the set that stands next. -/
import Derived.Test.YtoiegkejkahfgaaDoorRb
set_option linter.unusedVariables false
set_option linter.unusedSimpArgs false
namespace Go.Proofs.YtoiegkejkahfgaaDoor
open Go.RowKit

/-- A value that was computed is stored into the result, and handed back. -/
theorem post_store {w W : World} {g : Nat} {s : ByteArray} {R : Nat} {a : BS} (hR : Blk W R 43 (setL (0#256))) (hg : w.grownBy W (some g)) (hRw : w.heap.size ≤ R) (hgR : g < w.heap.size) {j nd : Nat} {c p : Int} (hr : Rd W g s j nd c p) :
    (W.setRow R (setL a).toArray).heap[R]? = some (.cells (setL a).toArray 43) ∧ Rd (W.setRow R (setL a).toArray) g s j nd c p ∧ w.grownBy (W.setRow R (setL a).toArray) (some g) :=
  ⟨setRow_heap _ _ _ _ _ (0, 0) hR, (setRow_other _ _ g _ (by omega)).trans hr, grown_row hg hRw _⟩

theorem one_rd (w : World) (c : Nat) (hc : c < 256) : RdB (w.alloc (.cells #[.int .u8 ((c : Nat) : Int)] 5)) (some ⟨w.heap.size, 0, none⟩) 1 [c.toUInt8] := by
  have h := Blk.fresh w 5 ([c.toUInt8].map isB)
  have e : ([c.toUInt8].map isB).toArray = #[.int .u8 ((c : Nat) : Int)] := by
    simp [isB]
    omega
  rw [e] at h
  exact RdB.of_blk (l := [c.toUInt8]) h
theorem one_of (c : Nat) (hc : c < 256) : ofL [c.toUInt8] = bit c := by
  unfold ofL
  simp [Nat.mod_eq_of_lt hc]
set_option maxRecDepth 100000 in
set_option maxHeartbeats 4000000 in
theorem set_any {w : World} {g : Nat} {s : ByteArray} {i nd : Nat} {c p : Int} (h : Rd w g s i nd c p) (hi : i ≤ s.size) (hs : s.size ≤ 512) :
    Calls Tryd.prog 78 #[.pointer (some ⟨g, 0, none⟩)] w (Post (pSet s.data.toList i) setV (fun v => ∃ x, v = setV x) w g s nd) := by
  have hgw := Blk.lt h
  have hA : Below w.heap.size w (w.alloc (.cells (setL (0#256)).toArray 43)) := (Below.refl _ _).alloc (Nat.le_refl _) _
  have HRes := hid (Blk.fresh w 43 (setL (0#256)))
  have HR := hid (h.keep hA)
  have HG := hid (grown_of_below hA (some g))
  have HT : Hid (∀ (W : World), Rd W g s i nd c p → nx s.data.toList i ≠ 46 → Calls Tryd.prog 47 #[.pointer (some ⟨g, 0, none⟩), .int .u8 46] W fun e w' => e = .returned (.bool false) ∧ Rd w' g s i nd c p ∧ W.grownBy w' (some g)) := hid (fun W h hx => took_no h hi hs 46 hx)
  have HT2 : Hid (∀ (W : World), Rd W g s i nd c p → nx s.data.toList i = 46 → Calls Tryd.prog 47 #[.pointer (some ⟨g, 0, none⟩), .int .u8 46] W fun e w' => e = .returned (.bool true) ∧ Rd w' g s (i + 1) nd c p ∧ W.grownBy w' (some g)) := hid (fun W h hx => took_yes h hi hs 46 hx)
  have HN := hid (fun (W : World) (h : Rd W g s i nd c p) => next_any h hi hs)
  have HBr := hid (fun (W : World) (h : Rd W g s i nd c p) (hx : nx s.data.toList i = 91) => br_any h hx hs)
  have HCh := hid (fun (W : World) (h : Rd W g s i nd c p) => char_any h hi hs)
  have hlt : ∀ x j, pChar s.data.toList i = .ok (x, j) → x < 256 := fun x j e => (pChar_lt e).2.2
  have HP := hid (show pSet s.data.toList i = if nx s.data.toList i = 46 then .ok (~~~(0#256), i + 1) else if nx s.data.toList i = 91 then pBr s.data.toList i else match pChar s.data.toList i with
    | .error e => .error e
    | .ok (c, j) => .ok (bit c, j) from rfl)
  generalize pSet s.data.toList i = P at *
  clear h hA
  by_cases h46 : nx s.data.toList i = 46
  · have HP2 := hid (HP.out.trans (if_pos h46))
    have HAl := hid (fun W => all_any W)
    clear HP HT HBr HCh HN
    go_enter Tryd.func78, Tryd.ntmps78
    go_upto_region 1 with (fail)
    rw [zero_set]
    have hs1 : (w.alloc (.cells (setL (0#256)).toArray 43)).heap.size = w.heap.size + 1 := by simp
    generalize w.alloc (.cells (setL (0#256)).toArray 43) = w1 at *
    go_wp2_with fail
    refine (HT2.out _ HR.out h46).mono ?_
    rintro e w2 ⟨rfl, hr2, hg2⟩
    have HK := hid ((hg2.block w.heap.size (by omega) (by intro e; injection e with e; omega)).trans HRes.out)
    have HG2 := hid (grown_trans HG.out hg2)
    have HR2 := hid hr2
    clear hr2 hg2 HRes HG HR HT2
    go_wp2_with fail
    refine (HAl.out _).mono ?_
    rintro e w3 ⟨rfl, hb3⟩
    have hz3 := hb3.size
    have HK3 := hid ((Blk.keep HK.out hb3))
    obtain ⟨A0, A1, A2⟩ := post_store (a := ~~~(0#256)) HK3.out (below_of_new HG2.out hb3) (Nat.le_refl _) hgw (HR2.out.keep hb3)
    go_wp2_with (refine wpList_store_row rfl 43 _ _ rfl w.heap.size (setL (~~~(0#256))).toArray ?_ ?_ 43 _ HK3.out (set_info _) ?_ (four_one _) ?_; exact rfl; exact rfl; exact rfl)
    rw [HP2.out]
    exact bodyPost_ret (v := .tuple #[.agg (setL (~~~(0#256))).toArray, .bool true]) (results_cell_tmp (P := Tryd.prog) (fn := Tryd.f78) rfl _ _ w.heap.size 43 _ (0, 0) _ rfl A0 Tryd.underlying43 rfl (set_info _)) rfl ⟨A2, rfl, _, _, A1⟩
  · have HP1 := hid (HP.out.trans (if_neg h46))
    clear HP HT2
    by_cases h91 : nx s.data.toList i = 91
    · have HP2 := hid (HP1.out.trans (if_pos h91))
      have HB2 := hid (fun (W : World) (h : Rd W g s i nd c p) => HBr.out W h h91)
      rw [show (nx s.data.toList i : Nat) = 91 from h91] at HN
      clear HP1 HCh HBr
      generalize pBr s.data.toList i = r at *
      go_enter Tryd.func78, Tryd.ntmps78
      go_upto_region 1 with (fail)
      rw [zero_set]
      have hs1 : (w.alloc (.cells (setL (0#256)).toArray 43)).heap.size = w.heap.size + 1 := by simp
      generalize w.alloc (.cells (setL (0#256)).toArray 43) = w1 at *
      go_wp2_with fail
      refine (HT.out _ HR.out h46).mono ?_
      rintro e w2 ⟨rfl, hr2, hg2⟩
      have HK := hid ((hg2.block w.heap.size (by omega) (by intro e; injection e with e; omega)).trans HRes.out)
      have HG2 := hid (grown_trans HG.out hg2)
      have hz2 : w.heap.size < w2.heap.size := by have := hg2.size; omega
      have HR2 := hid hr2
      clear hr2 hg2 HRes HG HR HT
      go_wp2_with fail
      refine (HN.out _ HR2.out).mono ?_
      rintro e w3 ⟨rfl, hr3, hg3⟩
      have HK3 := hid ((hg3.block w.heap.size (by omega) (by intro e; injection e with e; omega)).trans HK.out)
      have HG3 := hid (grown_trans HG2.out hg3)
      have hz3 : w.heap.size < w3.heap.size := by have := hg3.size; omega
      have HR3 := hid hr3
      clear hr3 hg3 HR2 HG2 HK HN
      go_wp2_with fail
      refine (HB2.out _ HR3.out).mono ?_
      rintro e w4 ⟨hg4, hp4⟩
      cases r with
      | error v =>
        have HP3 : Hid (P = .error v) := HP2
        obtain ⟨⟨v', ⟨x, rfl⟩, rfl⟩, j', nd', hr4⟩ := hp4
        have HK5 := hid ((hg4.block w.heap.size (by omega) (by intro e; injection e with e; omega)).trans HK3.out)
        obtain ⟨A0, A1, A2⟩ := post_store (a := x) HK5.out (grown_trans HG3.out hg4) (Nat.le_refl _) hgw hr4
        go_wp2_with (refine wpList_store_row rfl 43 _ _ rfl w.heap.size (setL (x)).toArray ?_ ?_ 43 _ HK5.out (set_info _) ?_ (four_one _) ?_; exact rfl; exact rfl; exact rfl)
        rw [HP3.out]
        exact bodyPost_ret (v := .tuple #[.agg (setL (x)).toArray, .bool false]) (results_cell_tmp (P := Tryd.prog) (fn := Tryd.f78) rfl _ _ w.heap.size 43 _ (0, 0) _ rfl A0 Tryd.underlying43 rfl (set_info _)) rfl ⟨A2, ⟨_, ⟨x, rfl⟩, rfl⟩, _, _, A1⟩
      | ok v =>
        have HP3 : Hid (P = .ok v) := HP2
        obtain ⟨a, j⟩ := v
        obtain ⟨rfl, c4, p4, hr4⟩ := hp4
        have HK5 := hid ((hg4.block w.heap.size (by omega) (by intro e; injection e with e; omega)).trans HK3.out)
        obtain ⟨A0, A1, A2⟩ := post_store (a := a) HK5.out (grown_trans HG3.out hg4) (Nat.le_refl _) hgw hr4
        go_wp2_with (refine wpList_store_row rfl 43 _ _ rfl w.heap.size (setL (a)).toArray ?_ ?_ 43 _ HK5.out (set_info _) ?_ (four_one _) ?_; exact rfl; exact rfl; exact rfl)
        rw [HP3.out]
        exact bodyPost_ret (v := .tuple #[.agg (setL (a)).toArray, .bool true]) (results_cell_tmp (P := Tryd.prog) (fn := Tryd.f78) rfl _ _ w.heap.size 43 _ (0, 0) _ rfl A0 Tryd.underlying43 rfl (set_info _)) rfl ⟨A2, rfl, _, _, A1⟩
    · have HP2 := hid (HP1.out.trans (if_neg h91))
      clear HP1 HBr
      have hne : ¬ ((nx s.data.toList i : Nat) : Int) = 91 := by omega
      generalize nx s.data.toList i = x at *
      generalize pChar s.data.toList i = r at *
      go_enter Tryd.func78, Tryd.ntmps78
      go_upto_region 1 with (fail)
      rw [zero_set]
      have hs1 : (w.alloc (.cells (setL (0#256)).toArray 43)).heap.size = w.heap.size + 1 := by simp
      generalize w.alloc (.cells (setL (0#256)).toArray 43) = w1 at *
      go_wp2_with fail
      refine (HT.out _ HR.out h46).mono ?_
      rintro e w2 ⟨rfl, hr2, hg2⟩
      have HK := hid ((hg2.block w.heap.size (by omega) (by intro e; injection e with e; omega)).trans HRes.out)
      have HG2 := hid (grown_trans HG.out hg2)
      have hz2 : w.heap.size < w2.heap.size := by have := hg2.size; omega
      have HR2 := hid hr2
      clear hr2 hg2 HRes HG HR HT
      go_wp2_with fail
      refine (HN.out _ HR2.out).mono ?_
      rintro e w3 ⟨rfl, hr3, hg3⟩
      have HK3 := hid ((hg3.block w.heap.size (by omega) (by intro e; injection e with e; omega)).trans HK.out)
      have HG3 := hid (grown_trans HG2.out hg3)
      have hz3 : w.heap.size < w3.heap.size := by have := hg3.size; omega
      have HR3 := hid hr3
      clear hr3 hg3 HR2 HG2 HK HN
      go_wp2_with fail
      refine (HCh.out _ HR3.out).mono ?_
      rintro e w4 ⟨hg4, hp4⟩
      cases r with
      | error v =>
        have HP3 : Hid (P = .error v) := HP2
        obtain ⟨⟨v', rfl, rfl⟩, j', nd', hr4⟩ := hp4
        go_wp2_with fail
        refine (of_any (cap := 1) (one_rd w4 0 (by omega)) (by decide)).mono ?_
        rintro e w5 ⟨rfl, hb5⟩
        rw [one_of 0 (by decide)]
        have hb5' := Below.trans ((Below.refl w4.heap.size w4).alloc (Nat.le_refl _) (.cells #[.int .u8 ((0 : Nat) : Int)] 5)) (hb5.mono (by simp))
        have HK5 := hid (Blk.keep ((hg4.block w.heap.size (by omega) (by intro e; injection e with e; omega)).trans HK3.out) hb5')
        obtain ⟨A0, A1, A2⟩ := post_store (a := bit 0) HK5.out (below_of_new (grown_trans HG3.out hg4) hb5') (Nat.le_refl _) hgw (Rd.keep hr4 hb5')
        go_wp2_with (refine wpList_store_row rfl 43 _ _ rfl w.heap.size (setL (bit 0)).toArray ?_ ?_ 43 _ HK5.out (set_info _) ?_ (four_one _) ?_; exact rfl; exact rfl; exact rfl)
        rw [HP3.out]
        exact bodyPost_ret (v := .tuple #[.agg (setL (bit 0)).toArray, .bool false]) (results_cell_tmp (P := Tryd.prog) (fn := Tryd.f78) rfl _ _ w.heap.size 43 _ (0, 0) _ rfl A0 Tryd.underlying43 rfl (set_info _)) rfl ⟨A2, ⟨_, ⟨bit 0, rfl⟩, rfl⟩, _, _, A1⟩
      | ok v =>
        have HP3 : Hid (P = .ok (bit v.1, v.2)) := HP2
        obtain ⟨y, j⟩ := v
        have hy := hlt y j rfl
        obtain ⟨rfl, c4, p4, hr4⟩ := hp4
        go_wp2_with fail
        refine (of_any (cap := 1) (one_rd w4 y (by omega)) (by decide)).mono ?_
        rintro e w5 ⟨rfl, hb5⟩
        rw [one_of y hy]
        have hb5' := Below.trans ((Below.refl w4.heap.size w4).alloc (Nat.le_refl _) (.cells #[.int .u8 ((y : Nat) : Int)] 5)) (hb5.mono (by simp))
        have HK5 := hid (Blk.keep ((hg4.block w.heap.size (by omega) (by intro e; injection e with e; omega)).trans HK3.out) hb5')
        obtain ⟨A0, A1, A2⟩ := post_store (a := bit y) HK5.out (below_of_new (grown_trans HG3.out hg4) hb5') (Nat.le_refl _) hgw (Rd.keep hr4 hb5')
        go_wp2_with (refine wpList_store_row rfl 43 _ _ rfl w.heap.size (setL (bit y)).toArray ?_ ?_ 43 _ HK5.out (set_info _) ?_ (four_one _) ?_; exact rfl; exact rfl; exact rfl)
        rw [HP3.out]
        exact bodyPost_ret (v := .tuple #[.agg (setL (bit y)).toArray, .bool true]) (results_cell_tmp (P := Tryd.prog) (fn := Tryd.f78) rfl _ _ w.heap.size 43 _ (0, 0) _ rfl A0 Tryd.underlying43 rfl (set_info _)) rfl ⟨A2, rfl, _, _, A1⟩
end Go.Proofs.YtoiegkejkahfgaaDoor
