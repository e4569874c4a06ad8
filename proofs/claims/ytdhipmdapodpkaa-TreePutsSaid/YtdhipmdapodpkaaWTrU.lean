/- tree: TreePuts, its walk. -/
import Derived.Test.YtdhipmdapodpkaaTrN
import Derived.Test.YtdhipmdapodpkaaTrF
import Derived.Test.YtdhipmdapodpkaaTrL
import Derived.Test.YtdhipmdapodpkaaTrUa
import Derived.Deep.CutRange
namespace Go.Proofs.Ytdhipmdapodpkaa
set_option linter.unusedSimpArgs false
set_option linter.unusedVariables false
open Go.RowKit

theorem below_then' {W X Y : World} (h : Below W.heap.size W X) (h2 : Below X.heap.size X Y) : Below W.heap.size W Y := h.trans (h2.mono h.size)
theorem below_d0' (W : World) : Below W.heap.size W W.drew := ⟨rfl, rfl, rfl, Nat.le_refl _, fun _ _ => rfl⟩
theorem Rep.lt {w : World} {P : Nat → Prop} {v : TV} {t : TT} (h : Rep w P v t) : Rep w (· < w.heap.size) v t := h.mono (fun _ _ _ => rfl) (Nat.le_refl _) (fun _ _ h => h)
theorem Rw.lt {w : World} {P : Nat → Prop} {s : SV} {xs : List Value} (h : Rw w P s xs) : Rw w (· < w.heap.size) s xs := h.mono (fun _ _ _ => rfl) (Nat.le_refl _) (fun _ _ h => h)
theorem Rep.at {w W : World} {P : Nat → Prop} {v : TV} {t : TT} (h : Rep w P v t) (hb : Below w.heap.size w W) : Rep W (· < W.heap.size) v t := (h.keep hb).lt
theorem Rw.atW {w W : World} {P : Nat → Prop} {s : SV} {xs : List Value} (h : Rw w P s xs) (hb : Below w.heap.size w W) : Rw W (· < W.heap.size) s xs := (h.keep hb).lt
theorem box_tree (w : World) (v : TV) : Below w.heap.size w (w.alloc (.cells v.cells.toArray 26)) ∧ BoxT (w.alloc (.cells v.cells.toArray 26)) w.heap.size v ∧ (w.alloc (.cells v.cells.toArray 26)).heap.size = w.heap.size + 1 :=
  ⟨(box_new w v).1, (box_new w v).2, World.size_alloc _ _⟩
theorem sub_int {a b d : Int} (h : a - b = d) (h1 : -9223372036854775808 ≤ d) (h2 : d ≤ 9223372036854775807) (W : World) : (binOp .sub 3 (.int .i64 a) (.int .i64 b)).run Try.prog W = .ok (.int .i64 d) W := by
  have e : IntKind.i64.wrap (a - b) = d := by rw [IntKind.wrap_i64]; omega
  have : (binOp .sub 3 (.int .i64 a) (.int .i64 b)).run Try.prog W = .ok (.int .i64 (IntKind.i64.wrap (a - b))) W := by kernel_rfl
  rw [this, e]
theorem eql_int (a : Int) (W : World) : (binOp .eql 3 (.int .i64 a) (.int .i64 a)).run Try.prog W = .ok (.bool true) W := by
  have : (binOp .eql 3 (.int .i64 a) (.int .i64 a)).run Try.prog W = .ok (.bool (decide (a = a))) W := by kernel_rfl
  rw [this]
  simp
set_option maxRecDepth 100000 in
set_option maxHeartbeats 8000000 in
theorem puts_walk (HTx : ∀ w, Calls Try.prog 8 #[] w fun e w' => e = .returned (.bool true) ∧ Below w.heap.size w w') {v y : TV} {t u0 : TT} {s : SV} {way : List Int} {w : World} (hR : Rep w (· < w.heap.size) v t) (hS : Rep w (· < w.heap.size) y u0) (hW : Rw w (· < w.heap.size) s (intC way)) (hs : s.n = way.length) :
    Calls Try.prog 6 #[v.val, y.val, s.val] w fun e w' => e = .returned (.bool true) ∧ Below w.heap.size w w' := by
  obtain ⟨RR, hRR⟩ : ∃ RR : Ending → World → Prop, RR = fun e w' => e = .returned (.bool true) ∧ Below w.heap.size w w' := ⟨_, rfl⟩
  rw [← hRR]
  have HRR := hid hRR
  have HTxh := hid HTx
  obtain ⟨hb0, h0, z0⟩ := box_tree w v
  obtain ⟨hb1, hs1, z1⟩ := box_tree (w.alloc (.cells v.cells.toArray 26)) y
  have h1 : BoxT _ w.heap.size v := Blk.keep h0 hb1
  rw [z0] at hs1 z1
  have hb := below_then' hb0 hb1
  have hvc : v.cells.toArray = #[.int .u64 (v.num : Int), .bool v.bl, .slice v.D.A v.D.n v.D.c, .slice v.K.A v.K.n v.K.c] := rfl
  have hyc : y.cells.toArray = #[.int .u64 (y.num : Int), .bool y.bl, .slice y.D.A y.D.n y.D.c, .slice y.K.A y.K.n y.K.c] := rfl
  rw [hvc, hyc] at hb h1 hs1 z1
  have HX := hid h1
  have HB := hid hb
  have HR := hid hR
  have HS := hid hS
  have HP := hid hs1
  have HW := hid hW
  have HWn := hid hs
  have HZ1 := hid z1
  clear hRR HTx hb hb0 hb1 h0 h1 hs1 hvc hyc hR hS hW hs z0 z1
  unfold TV.val SV.val
  obtain ⟨num, bl, ⟨DA, Dn, Dc⟩, ⟨KA, n, Kc⟩⟩ := v
  obtain ⟨nu2, bl2, ⟨DA2, Dn2, Dc2⟩, ⟨KA2, n2, Kc2⟩⟩ := y
  obtain ⟨SA, sn, sc⟩ := s
  simp only at *
  go_enter Try.func6, Try.ntmps6
  go_upto_region 1 with (fail)
  generalize (w.alloc (.cells #[.int .u64 (num : Int), .bool bl, .slice DA Dn Dc, .slice KA n Kc] 26)).alloc (.cells #[.int .u64 (nu2 : Int), .bool bl2, .slice DA2 Dn2 Dc2, .slice KA2 n2 Kc2] 26) = w1 at *
  have HT := hid (HTxh.out w1)
  go_upto_region 4 with (go_at_call 8; (with_reducible refine HT.out.mono ?_); rintro e w2 ⟨rfl, hb2⟩; have HB2 := hid hb2; clear hb2)
  have hb3 : Below w2.heap.size w2 (w2.alloc (.cells #[.int .i64 200] 3)) := (Below.refl _ _).alloc (Nat.le_refl _) _
  have hl3 : Blk (w2.alloc (.cells #[.int .i64 200] 3)) w2.heap.size 3 [.int .i64 200] := heap_alloc_new w2 _
  generalize w2.alloc (.cells #[.int .i64 200] 3) = w3 at *
  have hb13 := below_then' HB2.out hb3
  have HX3 := hid (show BoxT w3 w.heap.size ⟨num, bl, ⟨DA, Dn, Dc⟩, ⟨KA, n, Kc⟩⟩ from Blk.keep HX.out hb13)
  have HP3 := hid (show BoxT w3 (w.heap.size + 1) ⟨nu2, bl2, ⟨DA2, Dn2, Dc2⟩, ⟨KA2, n2, Kc2⟩⟩ from Blk.keep HP.out hb13)
  have HG := hid (show w.heap.size + 1 < w2.heap.size by have := HP.out.lt; have := HB2.out.size; omega)
  have HBw := hid (below_then' HB.out hb13)
  have HG3 := hid (show w2.heap.size < w3.heap.size from hl3.lt)
  have hF := few_any t ⟨num, bl, ⟨DA, Dn, Dc⟩, ⟨KA, n, Kc⟩⟩ w3 200 0 (HR.out.keep HBw.out) (fun b hb => by have := HG.out; omega) hl3 (by decide) (by decide) (by decide)
  rw [show ((0 : Nat) : Int) = 0 from rfl] at hF
  unfold TV.val at hF
  simp only at hF
  have HF := hid hF
  clear hF
  have hFp : ∀ (W : World) (l : Int), Chg w3 W (· = w2.heap.size) → Blk W w2.heap.size 3 [.int .i64 l] → 0 ≤ l → l ≤ 200 → Calls Try.prog 9 #[.agg #[.int .u64 (nu2 : Int), .bool bl2, .slice DA2 Dn2 Dc2, .slice KA2 n2 Kc2], .pointer (some ⟨w2.heap.size, 0, none⟩), .int .i64 0] W (fun e w' => e = .returned (.bool (fewT l 0 u0).1) ∧ Blk w' w2.heap.size 3 [.int .i64 (fewT l 0 u0).2] ∧ Chg W w' (· = w2.heap.size)) := fun W l hc hl h0 h1 => by
    have h := few_any u0 ⟨nu2, bl2, ⟨DA2, Dn2, Dc2⟩, ⟨KA2, n2, Kc2⟩⟩ W l 0 ((HS.out.keep HBw.out).mono (fun b hb hlt => hc.block b hlt (by have := HG.out; omega)) hc.size (fun _ h _ => h)) (fun b hb => by have := HG.out; omega) hl h0 (by omega) (by decide)
    rw [show ((0 : Nat) : Int) = 0 from rfl] at h
    exact h
  have HFp := hid hFp
  have HFt := hid (few_text t _ HR.out 200 0)
  have HFl := hid (few_le t 200 0)
  obtain ⟨fr, hfr⟩ : ∃ fr, fr = fewT 200 0 t := ⟨_, rfl⟩
  rw [← hfr] at HF HFt HFl
  obtain ⟨fb, fn⟩ := fr
  obtain ⟨x0, x1, x2, x3⟩ := BoxT.four HX3.out
  have HB3 := hid hb3
  clear hfr hl3 hb13 hb3 hFp
  simp only at x0 x1 x2 x3
  cases fb
  · go_wp2_with (go_at_call 9; (with_reducible refine HF.out.mono ?_); rintro e w4 ⟨rfl, hl4, hc4⟩; have HB4 := hid (Chg.below HBw.out hc4 (Nat.le_trans (by have := HG.out; omega) HB3.out.size) (fun j hj => by have := HG.out; omega)); have HX4 := hid (HX3.out.chg hc4 (by have := HG.out; omega)); have HP4 := hid (HP3.out.chg hc4 (by have := HG.out; omega)); have HL4 := hid hl4; have HC4 := hid hc4; clear hl4 hc4 x0 x1 x2 x3; obtain ⟨y0, y1, y2, y3⟩ := BoxT.four HP4.out; simp only at y0 y1 y2 y3)
    show RR (.returned (.bool true)) w4
    rw [HRR.out]
    exact ⟨rfl, HB4.out⟩
  have hfl := HFl.out.2 (by first | rfl | trivial)
  have hfl0 := HFl.out.1
  simp only at hfl hfl0
  have HL := hid (show 0 ≤ fn ∧ fn ≤ 200 ∧ (wT t : Int) ≤ 301 * (200 - fn) from ⟨hfl.1, by omega, hfl.2⟩)
  have HFl2 := hid (few_le u0 fn 0)
  obtain ⟨fr, hfr⟩ : ∃ fr, fr = fewT fn 0 u0 := ⟨_, rfl⟩
  have HFr := hid hfr
  rw [← hfr] at HFl2
  obtain ⟨gb, gn⟩ := fr
  clear hfl hfl0 hfr
  cases gb
  · go_wp2_with (first | (go_at_call 9; (with_reducible refine HF.out.mono ?_); rintro e w4 ⟨rfl, hl4, hc4⟩; have HB4 := hid (Chg.below HBw.out hc4 (Nat.le_trans (by have := HG.out; omega) HB3.out.size) (fun j hj => by have := HG.out; omega)); have HX4 := hid (HX3.out.chg hc4 (by have := HG.out; omega)); have HP4 := hid (HP3.out.chg hc4 (by have := HG.out; omega)); have HL4 := hid hl4; have HC4 := hid hc4; clear hl4 hc4 x0 x1 x2 x3; obtain ⟨y0, y1, y2, y3⟩ := BoxT.four HP4.out; simp only at y0 y1 y2 y3) | (go_at_call 9; (with_reducible refine (HFp.out _ fn HC4.out HL4.out HL.out.1 HL.out.2.1).mono ?_); rw [← HFr.out]; rintro e w5 ⟨rfl, hl5, hc5⟩; have HB5 := hid (Chg.below HB4.out hc5 (Nat.le_trans (by have := HG.out; have := HG3.out; omega) HC4.out.size) (fun j hj => by have := HG.out; omega)); have HX5 := hid (HX4.out.chg hc5 (by have := HG.out; omega)); have HP5 := hid (HP4.out.chg hc5 (by have := HG.out; omega)); clear hl5 hc5 y0 y1 y2 y3))
    show RR (.returned (.bool true)) w5
    rw [HRR.out]
    exact ⟨rfl, HB5.out⟩
  have hfl := HFl2.out.2 (by first | rfl | trivial)
  have hfl0 := HFl2.out.1
  simp only at hfl hfl0
  have HL2 := hid (show (wT u0 : Int) ≤ 301 * fn by omega)
  clear hfl hfl0
  by_cases hw50 : (50 : Int) < (sn : Int)
  · go_wp2_with (first | (go_at_call 9; (with_reducible refine HF.out.mono ?_); rintro e w4 ⟨rfl, hl4, hc4⟩; have HB4 := hid (Chg.below HBw.out hc4 (Nat.le_trans (by have := HG.out; omega) HB3.out.size) (fun j hj => by have := HG.out; omega)); have HX4 := hid (HX3.out.chg hc4 (by have := HG.out; omega)); have HP4 := hid (HP3.out.chg hc4 (by have := HG.out; omega)); have HL4 := hid hl4; have HC4 := hid hc4; clear hl4 hc4 x0 x1 x2 x3; obtain ⟨y0, y1, y2, y3⟩ := BoxT.four HP4.out; simp only at y0 y1 y2 y3) | (go_at_call 9; (with_reducible refine (HFp.out _ fn HC4.out HL4.out HL.out.1 HL.out.2.1).mono ?_); rw [← HFr.out]; rintro e w5 ⟨rfl, hl5, hc5⟩; have HB5 := hid (Chg.below HB4.out hc5 (Nat.le_trans (by have := HG.out; have := HG3.out; omega) HC4.out.size) (fun j hj => by have := HG.out; omega)); have HX5 := hid (HX4.out.chg hc5 (by have := HG.out; omega)); have HP5 := hid (HP4.out.chg hc5 (by have := HG.out; omega)); clear hl5 hc5 y0 y1 y2 y3))
    show RR (.returned (.bool true)) w5
    rw [HRR.out]
    exact ⟨rfl, HB5.out⟩
  go_upto_region 6 with (first | (go_at_call 9; (with_reducible refine HF.out.mono ?_); rintro e w4 ⟨rfl, hl4, hc4⟩; have HB4 := hid (Chg.below HBw.out hc4 (Nat.le_trans (by have := HG.out; omega) HB3.out.size) (fun j hj => by have := HG.out; omega)); have HX4 := hid (HX3.out.chg hc4 (by have := HG.out; omega)); have HP4 := hid (HP3.out.chg hc4 (by have := HG.out; omega)); have HL4 := hid hl4; have HC4 := hid hc4; clear hl4 hc4 x0 x1 x2 x3; obtain ⟨y0, y1, y2, y3⟩ := BoxT.four HP4.out; simp only at y0 y1 y2 y3) | (go_at_call 9; (with_reducible refine (HFp.out _ fn HC4.out HL4.out HL.out.1 HL.out.2.1).mono ?_); rw [← HFr.out]; rintro e w5 ⟨rfl, hl5, hc5⟩; have HB5 := hid (Chg.below HB4.out hc5 (Nat.le_trans (by have := HG.out; have := HG3.out; omega) HC4.out.size) (fun j hj => by have := HG.out; omega)); have HX5 := hid (HX4.out.chg hc5 (by have := HG.out; omega)); have HP5 := hid (HP4.out.chg hc5 (by have := HG.out; omega)); clear hl5 hc5 y0 y1 y2 y3))
  clear HF HFp HFt HFl HFl2 HFr HX3 HP3 HX HP HT HB2 HB3 HBw HB HZ1 HG HG3
  have HZw := hid (show sn ≤ 50 by omega)
  have hwt : wT t ≤ 60200 := by have := HL.out; omega
  have hwu : wT u0 ≤ 60200 := by have := HL.out; have := HL2.out; omega
  have HWt := hid hwt
  have HWu := hid hwu
  have HCl := hid (show Calls Try.prog 18 #[.agg #[.int .u64 (num : Int), .bool bl, .slice DA Dn Dc, .slice KA n Kc]] w5 (fun e w' => ∃ x : TV, e = .returned (.agg #[.int .u64 (x.num : Int), .bool x.bl, .slice x.D.A x.D.n x.D.c, .slice x.K.A x.K.n x.K.c]) ∧ Rep w' (fun _ => True) x t ∧ Below w5.heap.size w5 w') from by
    have h := clone_any t ⟨num, bl, ⟨DA, Dn, Dc⟩, ⟨KA, n, Kc⟩⟩ w5 _ (HR.out.keep HB5.out) (by omega)
    exact h.mono fun e w' ⟨x, he, hsg, hb⟩ => ⟨x, he, hsg.rep.mono (fun _ _ _ => rfl) (Nat.le_refl _) (fun _ _ _ => trivial), hb⟩)
  clear hwt hwu HL HL2 hw50
  obtain ⟨x0, x1, x2, x3⟩ := BoxT.four HX5.out
  simp only at x0 x1 x2 x3
  go_upto_region 7 with (go_at_call 18; (with_reducible refine HCl.out.mono ?_); rintro e w6 ⟨c, rfl, hc, hb6⟩; have HC6 := hid hc; have HB6 := hid hb6; clear hc hb6 x0 x1 x2 x3)
  obtain ⟨hb7, hc7, hz7⟩ := box_tree w6 c
  change Code.wp _ _ _ _ (w6.alloc (.cells c.cells.toArray 26))
  generalize w6.alloc (.cells c.cells.toArray 26) = w7 at *
  have HB57 := hid (below_then' HB6.out hb7)
  have HB7 := hid (below_then' HB5.out HB57.out)
  have HX7 := hid (show BoxT w7 w.heap.size ⟨num, bl, ⟨DA, Dn, Dc⟩, ⟨KA, n, Kc⟩⟩ from Blk.keep HX5.out HB57.out)
  have HP7 := hid (show BoxT w7 (w.heap.size + 1) ⟨nu2, bl2, ⟨DA2, Dn2, Dc2⟩, ⟨KA2, n2, Kc2⟩⟩ from Blk.keep HP5.out HB57.out)
  have HC7 := hid hc7
  have HCr := hid (HC6.out.at hb7)
  clear hb7 hc7 hz7 HCl HX5 HP5 HC6 HB6
  have HAa := hid (at_any (P := (· < w7.heap.size)) (Q := (· < w7.heap.size)) (v := ⟨num, bl, ⟨DA, Dn, Dc⟩, ⟨KA, n, Kc⟩⟩) (t := t) (s := ⟨SA, sn, sc⟩) (way := way) (HR.out.at HB7.out) (HW.out.atW HB7.out) HWn.out (by have := HWt.out; omega) (by have := HZw.out; have := HWn.out; omega) (fun _ h => h))
  have HPp := hid (fun (W : World) (hW : Below w7.heap.size w7 W) => put_any (P := (· < W.heap.size)) (Q := (· < W.heap.size)) (v := ⟨num, bl, ⟨DA, Dn, Dc⟩, ⟨KA, n, Kc⟩⟩) (y := ⟨nu2, bl2, ⟨DA2, Dn2, Dc2⟩, ⟨KA2, n2, Kc2⟩⟩) (t := t) (u0 := u0) (s := ⟨SA, sn, sc⟩) (way := way) (w := W) (HR.out.at (below_then' HB7.out hW)) (HS.out.at (below_then' HB7.out hW)) (HW.out.atW (below_then' HB7.out hW)) HWn.out (by have := HWt.out; omega) (by have := HWu.out; omega) (by have := HZw.out; have := HWn.out; omega) (fun _ h => h) (fun _ h => h))
  have HSm := hid (show ∀ W, Below w7.heap.size w7 W → Calls Try.prog 12 #[.agg #[.int .u64 (num : Int), .bool bl, .slice DA Dn Dc, .slice KA n Kc], .agg #[.int .u64 (c.num : Int), .bool c.bl, .slice c.D.A c.D.n c.D.c, .slice c.K.A c.K.n c.K.c]] W (fun e w' => e = .returned (.bool true) ∧ Below W.heap.size W w') from fun W hW => by
    have h := same_any t t ⟨num, bl, ⟨DA, Dn, Dc⟩, ⟨KA, n, Kc⟩⟩ c W _ _ ((HR.out.keep HB7.out).keep hW) (HCr.out.keep hW) (by have := HWt.out; omega) (by have := HWt.out; omega)
    rw [(smT_iff t t).2 rfl] at h
    exact h)
  obtain ⟨x0, x1, x2, x3⟩ := BoxT.four HX7.out
  simp only at x0 x1 x2 x3
  have b7 := Below.refl w7.heap.size w7
  cases ha : atT t way with
  | none =>
    have HA := hid (show Calls Try.prog 19 #[.agg #[.int .u64 (num : Int), .bool bl, .slice DA Dn Dc, .slice KA n Kc], .slice SA sn sc] w7 (fun e w' => e = .returned (.tuple #[.agg #[.int .u64 0, .bool false, .slice none 0 0, .slice none 0 0], .bool false]) ∧ Below w7.heap.size w7 w') from HAa.out.mono fun e w' ⟨h1, h2⟩ => by
      rcases h1 with ⟨u, x, hq, _⟩ | ⟨_, he⟩
      · rw [ha] at hq; cases hq
      · exact ⟨he, h2⟩)
    have HP := hid (show ∀ W, Below w7.heap.size w7 W → Calls Try.prog 20 #[.agg #[.int .u64 (num : Int), .bool bl, .slice DA Dn Dc, .slice KA n Kc], .agg #[.int .u64 (nu2 : Int), .bool bl2, .slice DA2 Dn2 Dc2, .slice KA2 n2 Kc2], .slice SA sn sc] W (fun e w' => e = .returned (.tuple #[.agg #[.int .u64 0, .bool false, .slice none 0 0, .slice none 0 0], .bool false]) ∧ Below W.heap.size W w') from fun W hW => (HPp.out W hW).mono fun e w' ⟨h1, h2⟩ => by
      rcases h1 with ⟨u, x, hq, _⟩ | ⟨_, he⟩
      · rw [ha] at hq; cases hq
      · exact ⟨he, h2⟩)
    have HZz := hid (show ∀ W : World, Calls Try.prog 12 #[.agg #[.int .u64 0, .bool false, .slice none 0 0, .slice none 0 0], .agg #[.int .u64 0, .bool false, .slice none 0 0, .slice none 0 0]] W (fun e w' => e = .returned (.bool true) ∧ Below W.heap.size W w') from fun W => same_any TT.zero TT.zero TV.zero TV.zero W (fun _ => True) (fun _ => True) (Rep.zero _ _) (Rep.zero _ _) (by decide) (by decide))
    clear HAa HPp ha
    go_upto_region 8 with (go_at_call 19; (with_reducible refine HA.out.mono ?_); rintro e w8 ⟨rfl, hb8⟩; have HB8 := hid hb8; clear hb8 x0 x1 x2 x3)
    obtain ⟨hb9, ho9, hz9⟩ := box_tree w8 TV.zero
    change Code.wp _ _ _ _ (w8.alloc (.cells TV.zero.cells.toArray 26))
    generalize w8.alloc (.cells TV.zero.cells.toArray 26) = w9 at *
    have HB9 := hid (below_then' HB8.out hb9)
    have HX9 := hid (Blk.keep HX7.out HB9.out)
    have HP9 := hid (Blk.keep HP7.out HB9.out)
    have HO9 := hid ho9
    clear hb9 ho9 hz9
    obtain ⟨x0, x1, x2, x3⟩ := BoxT.four HX9.out
    obtain ⟨y0, y1, y2, y3⟩ := BoxT.four HP9.out
    simp only at x0 x1 x2 x3 y0 y1 y2 y3
    go_upto_region 9 with (go_at_call 20; (with_reducible refine (HP.out _ HB9.out).mono ?_); rintro e w10 ⟨rfl, hb10⟩; have HB10 := hid hb10; clear hb10 x0 x1 x2 x3 y0 y1 y2 y3)
    obtain ⟨hb11, ho11, hz11⟩ := box_tree w10 TV.zero
    change Code.wp _ _ _ _ (w10.alloc (.cells TV.zero.cells.toArray 26))
    generalize w10.alloc (.cells TV.zero.cells.toArray 26) = w11 at *
    have HB911 := hid (below_then' HB10.out hb11)
    have HB11 := hid (below_then' HB9.out HB911.out)
    have HX11 := hid (Blk.keep HX7.out HB11.out)
    have HC11 := hid (Blk.keep HC7.out HB11.out)
    have HO11 := hid (Blk.keep HO9.out HB911.out)
    have HU11 := hid ho11
    clear hb11 ho11 hz11
    obtain ⟨x0, x1, x2, x3⟩ := BoxT.four HX11.out
    obtain ⟨y0, y1, y2, y3⟩ := BoxT.four HC11.out
    simp only at x0 x1 x2 x3
    go_upto_region 12 with (go_at_call 12; (with_reducible refine (HSm.out _ HB11.out).mono ?_); rintro e w12 ⟨rfl, hb12⟩; have HB12 := hid hb12; clear hb12 x0 x1 x2 x3 y0 y1 y2 y3)
    obtain ⟨x0, x1, x2, x3⟩ := BoxT.four (v := TV.zero) (Blk.keep HO11.out HB12.out)
    have HUz := hid (fun W (hW : Below w12.heap.size w12 W) => BoxT.four (v := TV.zero) (Blk.keep HU11.out (below_then' HB12.out hW)))
    simp only [TV.zero, SV.nil] at x0 x1 x2 x3
    go_wp2_with (go_at_call 12; (with_reducible refine (HZz.out _).mono ?_); first | (rintro e w13 ⟨rfl, hb13⟩; have HB13 := hid hb13; clear hb13 x0 x1 x2 x3; obtain ⟨x0, x1, x2, x3⟩ := HUz.out _ HB13.out; simp only [TV.zero, SV.nil] at x0 x1 x2 x3; clear HUz) | (rintro e w14 ⟨rfl, hb14⟩; have HB14 := hid hb14; clear hb14 x0 x1 x2 x3))
    show RR (.returned (.bool true)) _
    rw [HRR.out]
    exact ⟨rfl, below_then' HB7.out (below_then' HB11.out (below_then' HB12.out (below_then' HB13.out HB14.out)))⟩
  | some od =>
    have HA := hid (show Calls Try.prog 19 #[.agg #[.int .u64 (num : Int), .bool bl, .slice DA Dn Dc, .slice KA n Kc], .slice SA sn sc] w7 (fun e w' => ∃ x : TV, e = .returned (.tuple #[.agg #[.int .u64 (x.num : Int), .bool x.bl, .slice x.D.A x.D.n x.D.c, .slice x.K.A x.K.n x.K.c], .bool true]) ∧ Rep w' (fun _ => True) x od ∧ Below w7.heap.size w7 w') from HAa.out.mono fun e w' ⟨h1, h2⟩ => by
      rcases h1 with ⟨u, x, hq, he, hsg⟩ | ⟨hq, _⟩
      · rw [ha] at hq
        injection hq with hq
        subst hq
        exact ⟨x, he, hsg.rep.mono (fun _ _ _ => rfl) (Nat.le_refl _) (fun _ _ _ => trivial), h2⟩
      · rw [ha] at hq; cases hq)
    have HP := hid (show ∀ W, Below w7.heap.size w7 W → Calls Try.prog 20 #[.agg #[.int .u64 (num : Int), .bool bl, .slice DA Dn Dc, .slice KA n Kc], .agg #[.int .u64 (nu2 : Int), .bool bl2, .slice DA2 Dn2 Dc2, .slice KA2 n2 Kc2], .slice SA sn sc] W (fun e w' => ∃ x : TV, e = .returned (.tuple #[.agg #[.int .u64 (x.num : Int), .bool x.bl, .slice x.D.A x.D.n x.D.c, .slice x.K.A x.K.n x.K.c], .bool true]) ∧ Rep w' (fun _ => True) x (putT t way u0) ∧ Below W.heap.size W w') from fun W hW => (HPp.out W hW).mono fun e w' ⟨h1, h2⟩ => by
      rcases h1 with ⟨u, x, hq, he, hr⟩ | ⟨hq, _⟩
      · exact ⟨x, he, hr.mono (fun _ _ _ => rfl) (Nat.le_refl _) (fun _ _ _ => trivial), h2⟩
      · rw [ha] at hq; cases hq)
    have HU1 := hid (at_put way t u0 od ha)
    have HU2 := hid (put_put way t u0 od ha)
    have HUw := hid (show wT (putT t way u0) ≤ 130000 ∧ wT od ≤ 60200 by have h1 := wT_put way t u0 od ha; have h2 := wT_pos od; have h3 := HWt.out; have h4 := HWu.out; have h5 := wT_put way t TT.zero od ha; have h6 : wT TT.zero = 1 := rfl; have h7 := wT_pos (putT t way TT.zero); omega)
    have HUs := hid (szT_put way t u0 od ha)
    clear HAa HPp ha
    go_upto_region 8 with (go_at_call 19; (with_reducible refine HA.out.mono ?_); rintro e w8 ⟨xo, rfl, hxo, hb8⟩; have HB8 := hid hb8; have HO8 := hid hxo; clear hb8 hxo x0 x1 x2 x3)
    obtain ⟨hb9, ho9, hz9⟩ := box_tree w8 xo
    change Code.wp _ _ _ _ (w8.alloc (.cells xo.cells.toArray 26))
    generalize w8.alloc (.cells xo.cells.toArray 26) = w9 at *
    have HB9 := hid (below_then' HB8.out hb9)
    have HX9 := hid (Blk.keep HX7.out HB9.out)
    have HP9 := hid (Blk.keep HP7.out HB9.out)
    have HO9 := hid ho9
    have HO9r := hid (HO8.out.keep hb9)
    clear hb9 ho9 hz9
    obtain ⟨x0, x1, x2, x3⟩ := BoxT.four HX9.out
    obtain ⟨y0, y1, y2, y3⟩ := BoxT.four HP9.out
    simp only at x0 x1 x2 x3 y0 y1 y2 y3
    go_upto_region 9 with (go_at_call 20; (with_reducible refine (HP.out _ HB9.out).mono ?_); rintro e w10 ⟨xu, rfl, hxu, hb10⟩; have HB10 := hid hb10; have HU10 := hid hxu; clear hb10 hxu x0 x1 x2 x3 y0 y1 y2 y3)
    obtain ⟨hb11, ho11, hz11⟩ := box_tree w10 xu
    change Code.wp _ _ _ _ (w10.alloc (.cells xu.cells.toArray 26))
    generalize w10.alloc (.cells xu.cells.toArray 26) = w11 at *
    have HB911 := hid (below_then' HB10.out hb11)
    have HB11 := hid (below_then' HB9.out HB911.out)
    have HX11 := hid (Blk.keep HX7.out HB11.out)
    have HC11 := hid (Blk.keep HC7.out HB11.out)
    have HO11 := hid (Blk.keep HO9.out HB911.out)
    have HO11r := hid (HO9r.out.keep HB911.out)
    have HU11 := hid ho11
    have HU11r := hid (HU10.out.keep hb11)
    clear hb11 ho11 hz11
    obtain ⟨x0, x1, x2, x3⟩ := BoxT.four HX11.out
    obtain ⟨y0, y1, y2, y3⟩ := BoxT.four HC11.out
    simp only at x0 x1 x2 x3
    go_upto_region 13 with (go_at_call 12; (with_reducible refine (HSm.out _ HB11.out).mono ?_); rintro e w12 ⟨rfl, hb12⟩; have HB12 := hid hb12; clear hb12 x0 x1 x2 x3 y0 y1 y2 y3)
    have HB712 := hid (below_then' HB11.out HB12.out)
    have HU12 := hid (Blk.keep HU11.out HB12.out)
    have HO12 := hid (Blk.keep HO11.out HB12.out)
    have HU12r := hid (HU11r.out.keep HB12.out)
    have HO12r := hid (HO11r.out.keep HB12.out)
    have HAt := hid (show Calls Try.prog 19 #[.agg #[.int .u64 (xu.num : Int), .bool xu.bl, .slice xu.D.A xu.D.n xu.D.c, .slice xu.K.A xu.K.n xu.K.c], .slice SA sn sc] w12 (fun e w' => ∃ x : TV, e = .returned (.tuple #[.agg #[.int .u64 (x.num : Int), .bool x.bl, .slice x.D.A x.D.n x.D.c, .slice x.K.A x.K.n x.K.c], .bool true]) ∧ Rep w' (fun _ => True) x u0 ∧ Below w12.heap.size w12 w') from by
      have h := at_any (P := (· < w12.heap.size)) (Q := (· < w12.heap.size)) (v := xu) (t := putT t way u0) (s := ⟨SA, sn, sc⟩) (way := way) HU12r.out.lt (HW.out.atW (below_then' HB7.out HB712.out)) HWn.out (by have := HUw.out; omega) (by have := HZw.out; have := HWn.out; omega) (fun _ h => h)
      exact h.mono fun e w' ⟨h1, h2⟩ => by
        rcases h1 with ⟨u, x, hq, he, hsg⟩ | ⟨hq, _⟩
        · rw [HU1.out] at hq
          injection hq with hq
          subst hq
          exact ⟨x, he, hsg.rep.mono (fun _ _ _ => rfl) (Nat.le_refl _) (fun _ _ _ => trivial), h2⟩
        · rw [HU1.out] at hq; cases hq)
    have HPt := hid (show ∀ W, Below w12.heap.size w12 W → Calls Try.prog 20 #[.agg #[.int .u64 (xu.num : Int), .bool xu.bl, .slice xu.D.A xu.D.n xu.D.c, .slice xu.K.A xu.K.n xu.K.c], .agg #[.int .u64 (xo.num : Int), .bool xo.bl, .slice xo.D.A xo.D.n xo.D.c, .slice xo.K.A xo.K.n xo.K.c], .slice SA sn sc] W (fun e w' => ∃ x : TV, e = .returned (.tuple #[.agg #[.int .u64 (x.num : Int), .bool x.bl, .slice x.D.A x.D.n x.D.c, .slice x.K.A x.K.n x.K.c], .bool true]) ∧ Rep w' (fun _ => True) x t ∧ Below W.heap.size W w') from fun W hW => by
      have h := put_any (P := (· < W.heap.size)) (Q := (· < W.heap.size)) (v := xu) (y := xo) (t := putT t way u0) (u0 := od) (s := ⟨SA, sn, sc⟩) (way := way) (w := W) (HU12r.out.at hW) (HO12r.out.at hW) (HW.out.atW (below_then' (below_then' HB7.out HB712.out) hW)) HWn.out (by have := HUw.out; omega) (by have := HUw.out; omega) (by have := HZw.out; have := HWn.out; omega) (fun _ h => h) (fun _ h => h)
      rw [HU2.out] at h
      exact h.mono fun e w' ⟨h1, h2⟩ => by
        rcases h1 with ⟨u, x, hq, he, hr⟩ | ⟨hq, _⟩
        · exact ⟨x, he, hr.mono (fun _ _ _ => rfl) (Nat.le_refl _) (fun _ _ _ => trivial), h2⟩
        · rw [HU1.out] at hq; cases hq)
    clear HA HP HSm HC7 HCr HB8 HO8 HB9 HX9 HP9 HO9 HO9r HB10 HU10 HB911 HB11 HX11 HC11 HO11 HO11r HU11 HU11r HB57
    obtain ⟨x0, x1, x2, x3⟩ := BoxT.four HU12.out
    go_upto_region 14 with (go_at_call 19; (with_reducible refine HAt.out.mono ?_); rintro e w13 ⟨xz, rfl, hxz, hb13⟩; have HB13 := hid hb13; have HZ13 := hid hxz; clear hb13 hxz x0 x1 x2 x3)
    obtain ⟨hb14, ho14, hz14⟩ := box_tree w13 xz
    change Code.wp _ _ _ _ (w13.alloc (.cells xz.cells.toArray 26))
    generalize w13.alloc (.cells xz.cells.toArray 26) = w14 at *
    have HB14 := hid (below_then' HB13.out hb14)
    have HZ14 := hid ho14
    have HZ14r := hid (HZ13.out.keep hb14)
    clear hb14 ho14 hz14
    obtain ⟨x0, x1, x2, x3⟩ := BoxT.four (Blk.keep HU12.out HB14.out)
    obtain ⟨y0, y1, y2, y3⟩ := BoxT.four (Blk.keep HO12.out HB14.out)
    go_upto_region 15 with (go_at_call 20; (with_reducible refine (HPt.out _ HB14.out).mono ?_); rintro e w15 ⟨xb, rfl, hxb, hb15⟩; have HB15 := hid hb15; have HK15 := hid hxb; clear hb15 hxb x0 x1 x2 x3 y0 y1 y2 y3)
    obtain ⟨hb16, ho16, hz16⟩ := box_tree w15 xb
    change Code.wp _ _ _ _ (w15.alloc (.cells xb.cells.toArray 26))
    generalize w15.alloc (.cells xb.cells.toArray 26) = w16 at *
    have HB1416 := hid (below_then' HB15.out hb16)
    have HB1216 := hid (below_then' HB14.out HB1416.out)
    have HB716 := hid (below_then' HB712.out HB1216.out)
    have HB16 := hid (below_then' HB7.out HB716.out)
    refine tu15_reg (g3 := w.heap.size) (g4 := w.heap.size + 1) (g9 := w8.heap.size) (g11 := w10.heap.size) (g13 := w13.heap.size) (g15 := w15.heap.size) (tv := ⟨num, bl, ⟨DA, Dn, Dc⟩, ⟨KA, n, Kc⟩⟩) (y := ⟨nu2, bl2, ⟨DA2, Dn2, Dc2⟩, ⟨KA2, n2, Kc2⟩⟩) (od := xo) (x := xu) (z := xz) (b0 := xb) (pu := ((szT (putT t way u0) : Nat) : Int)) (pp := ((szT u0 : Nat) : Int)) (pt := ((szT t : Nat) : Int)) (po := ((szT od : Nat) : Int)) (dd := ((szT t : Nat) : Int) - ((szT od : Nat) : Int))
      rfl rfl rfl rfl rfl rfl rfl rfl (by simp) (Blk.keep HX7.out HB716.out) (Blk.keep HP7.out HB716.out) (Blk.keep HO12.out HB1216.out) (Blk.keep HU12.out HB1216.out) (Blk.keep HZ14.out HB1416.out) ho16 ?_ ?_ ?_ ?_ ?_ ?_ ?_ ?_ ?_ ?_
    · intro W hW
      have h := same_any u0 u0 xz ⟨nu2, bl2, ⟨DA2, Dn2, Dc2⟩, ⟨KA2, n2, Kc2⟩⟩ W _ _ ((HZ14r.out.keep HB1416.out).keep hW) ((HS.out.keep HB16.out).keep hW) (by have := HWu.out; omega) (by have := HWu.out; omega)
      rw [(smT_iff u0 u0).2 rfl] at h
      exact h.mono fun e w' hh => ⟨_, hh.1, rfl, hh.2⟩
    · intro W hW
      have h := same_any t t xb ⟨num, bl, ⟨DA, Dn, Dc⟩, ⟨KA, n, Kc⟩⟩ W _ _ ((HK15.out.keep hb16).keep hW) ((HR.out.keep HB16.out).keep hW) (by have := HWt.out; omega) (by have := HWt.out; omega)
      rw [(smT_iff t t).2 rfl] at h
      exact h.mono fun e w' hh => ⟨_, hh.1, rfl, hh.2⟩
    · intro W hW
      have h := parts_any _ xu W _ ((HU12r.out.keep HB1216.out).keep hW) (by have := HUw.out; omega)
      exact h.mono fun e w' hh => ⟨_, hh.1, rfl, hh.2⟩
    · intro W hW
      have h := parts_any _ ⟨nu2, bl2, ⟨DA2, Dn2, Dc2⟩, ⟨KA2, n2, Kc2⟩⟩ W _ ((HS.out.keep HB16.out).keep hW) (by have := HWu.out; omega)
      exact h.mono fun e w' hh => ⟨_, hh.1, rfl, hh.2⟩
    · intro W hW
      have h := parts_any _ ⟨num, bl, ⟨DA, Dn, Dc⟩, ⟨KA, n, Kc⟩⟩ W _ ((HR.out.keep HB16.out).keep hW) (by have := HWt.out; omega)
      exact h.mono fun e w' hh => ⟨_, hh.1, rfl, hh.2⟩
    · intro W hW
      have h := parts_any _ xo W _ ((HO12r.out.keep HB1216.out).keep hW) (by have := HUw.out; omega)
      exact h.mono fun e w' hh => ⟨_, hh.1, rfl, hh.2⟩
    · intro W
      have h1 := szT_le (putT t way u0)
      have h2 := HUw.out
      have h3 := HUs.out
      have h4 := szT_le u0
      have h5 := HWu.out
      exact sub_int (by omega) (by omega) (by omega) W
    · intro W
      have h1 := szT_le t
      have h2 := HUw.out
      have h3 := szT_le od
      have h5 := HWt.out
      exact sub_int rfl (by omega) (by omega) W
    · intro W
      exact eql_int _ W
    · intro f w' hf hb17
      simp only [tu15Us, List.foldl_cons, List.foldl_nil, List.setIfInBounds_toArray, List.set_cons_zero, List.set_cons_succ]
      rw [hf]
      have HE := hid (below_then' HB16.out hb17)
      clear hb17
      go_wp2_with fail
      show RR (.returned (.bool true)) w'
      rw [HRR.out]
      exact ⟨rfl, HE.out⟩
end Go.Proofs.Ytdhipmdapodpkaa
