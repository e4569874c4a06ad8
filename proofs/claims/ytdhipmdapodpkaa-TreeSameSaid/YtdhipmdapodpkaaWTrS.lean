/- tree: TreeSame, its walk. -/
import Derived.Test.YtdhipmdapodpkaaTrN
import Derived.Test.YtdhipmdapodpkaaTrE
import Derived.Test.YtdhipmdapodpkaaTrY
import Derived.Test.YtdhipmdapodpkaaTrSa
import Derived.Deep.CutRange
namespace Go.Proofs.Ytdhipmdapodpkaa
set_option linter.unusedSimpArgs false
set_option linter.unusedVariables false
open Go.RowKit

theorem below_then' {W X Y : World} (h : Below W.heap.size W X) (h2 : Below X.heap.size X Y) : Below W.heap.size W Y := h.trans (h2.mono h.size)
theorem below_d0' (W : World) : Below W.heap.size W W.drew := ⟨rfl, rfl, rfl, Nat.le_refl _, fun _ _ => rfl⟩
theorem Rep.lt {w : World} {P : Nat → Prop} {v : TV} {t : TT} (h : Rep w P v t) : Rep w (· < w.heap.size) v t := h.mono (fun _ _ _ => rfl) (Nat.le_refl _) (fun _ _ h => h)
theorem Rw.lt {w : World} {P : Nat → Prop} {s : SV} {xs : List Value} (h : Rw w P s xs) : Rw w (· < w.heap.size) s xs := h.mono (fun _ _ _ => rfl) (Nat.le_refl _) (fun _ _ h => h)
theorem Rep.at {w W : World} {P : Nat → Prop} {v : TV} {t : TT} (h : Rep w P v t) (hb : Below w.heap.size w W) : Rep W (· < W.heap.size) v t := (h.keep hb).lt
theorem Rw.atW {w W : World} {P : Nat → Prop} {s : SV} {xs : List Value} (h : Rw w P s xs) (hb : Below w.heap.size w W) : Rw W (· < W.heap.size) s xs := (h.keep hb).lt
theorem box_tree (w : World) (v : TV) : Below w.heap.size w (w.alloc (.cells v.cells.toArray 26)) ∧ BoxT (w.alloc (.cells v.cells.toArray 26)) w.heap.size v ∧ (w.alloc (.cells v.cells.toArray 26)).heap.size = w.heap.size + 1 :=
  ⟨(box_new w v).1, (box_new w v).2, World.size_alloc _ _⟩
theorem bmp_one {α : Type} {f : α → α} {l : List α} {q : Nat} {x : α} (h : l[q]? = some x) : (bmp f l q).set q (f x) = bmp f l (q + 1) := by
  obtain ⟨hq, rfl⟩ := List.getElem?_eq_some_iff.1 h
  exact bmp_set hq
theorem wT_bump (n : Nat) (b : Bool) (d : List UInt8) (ks : List TT) : wT (.nd n b (d.map (· + 1)) (ks.map bmT)) = wT (.nd n b d ks) := by
  have h : ∀ ks : List TT, wL (ks.map bmT) = wL ks := by
    intro ks
    induction ks with
    | nil => rfl
    | cons t ks ih =>
      obtain ⟨n, b, d, us⟩ := t
      rw [List.map_cons, wL, wL, ih, bmT, wT, wT]
  rw [wT, wT, h, List.length_map]
theorem flat_at {vs : List TV} {p : Nat} {x : TV} (h : vs[p]? = some x) : (flatV (bmp bmV vs p))[p * 4]? = some (.int .u64 (x.num : Int)) ∧ (flatV (bmp bmV vs p)).set (p * 4) (.int .u64 (((bmV x).num : Nat) : Int)) = flatV (bmp bmV vs (p + 1)) := by
  obtain ⟨hp, rfl⟩ := List.getElem?_eq_some_iff.1 h
  have hbl : p < (bmp bmV vs p).length := by rw [bmp_len]; exact hp
  have hbv : (bmp bmV vs p)[p]'hbl = vs[p]'hp := by
    have := bmp_get (f := bmV) hp
    rw [List.getElem?_eq_getElem hbl] at this
    exact Option.some.inj this
  constructor
  · have hg := flatV_get (bmp bmV vs p) p 0 hbl (by decide)
    rw [Nat.add_zero, hbv] at hg
    rw [hg]
    rfl
  · have hf := flatV_num hbl
    rw [hbv, bmp_set hp] at hf
    exact hf
theorem blk_typ {w : World} {g : Nat} {T U : TypeId} {cs ds : List Value} (h : Blk w g T cs) (k : Blk w g U ds) : T = U := by
  unfold Blk at h k
  rw [h] at k
  injection k with k
  injection k
theorem eql_strs (A B : ByteArray) (W : World) : (binOp .eql 9 (.string A) (.string B)).run Try.prog W = .ok (.bool (A.toList == B.toList)) W := by go_simp
theorem neq_bools (a : Bool) (W : World) : (binOp .neq 4 (.bool a) (.bool a)).run Try.prog W = .ok (.bool false) W := by
  cases a <;> kernel_rfl
set_option maxRecDepth 100000 in
set_option maxHeartbeats 8000000 in
theorem same_walk (HTx : ∀ w, Calls Try.prog 8 #[] w fun e w' => e = .returned (.bool true) ∧ Below w.heap.size w w') {v y : TV} {t u0 : TT} {w : World} (hR : Rep w (· < w.heap.size) v t) (hS : Rep w (· < w.heap.size) y u0) :
    Calls Try.prog 7 #[v.val, y.val] w fun e w' => e = .returned (.bool true) ∧ Below w.heap.size w w' := by
  obtain ⟨RR, hRR⟩ : ∃ RR : Ending → World → Prop, RR = fun e w' => e = .returned (.bool true) ∧ Below w.heap.size w w' := ⟨_, rfl⟩
  rw [← hRR]
  have HRR := hid hRR
  have HTxh := hid HTx
  obtain ⟨hb0, h0, z0⟩ := box_tree w v
  obtain ⟨hb1, hs1, z1⟩ := box_tree (w.alloc (.cells v.cells.toArray 26)) y
  have h1 : BoxT _ w.heap.size v := Blk.keep h0 hb1
  rw [z0] at hs1 z1
  have hb := below_then' hb0 hb1
  have hvc : v.cells.toArray = #[.int .u64 (v.num : Int), .bool v.bl, .slice v.D.A v.D.n v.D.c, .slice v.K.A v.K.n v.K.c] := rfl
  have hyc : y.cells.toArray = #[.int .u64 (y.num : Int), .bool y.bl, .slice y.D.A y.D.n y.D.c, .slice y.K.A y.K.n y.K.c] := rfl
  rw [hvc, hyc] at hb h1 hs1 z1
  have HX := hid h1
  have HB := hid hb
  have HR := hid hR
  have HS := hid hS
  have HP := hid hs1
  have HZ1 := hid z1
  clear hRR HTx hb hb0 hb1 h0 h1 hs1 hvc hyc hR hS z0 z1
  unfold TV.val
  obtain ⟨num, bl, ⟨DA, Dn, Dc⟩, ⟨KA, n, Kc⟩⟩ := v
  obtain ⟨nu2, bl2, ⟨DA2, Dn2, Dc2⟩, ⟨KA2, n2, Kc2⟩⟩ := y
  simp only at *
  go_enter Try.func7, Try.ntmps7
  go_upto_region 1 with (fail)
  generalize (w.alloc (.cells #[.int .u64 (num : Int), .bool bl, .slice DA Dn Dc, .slice KA n Kc] 26)).alloc (.cells #[.int .u64 (nu2 : Int), .bool bl2, .slice DA2 Dn2 Dc2, .slice KA2 n2 Kc2] 26) = w1 at *
  have HT := hid (HTxh.out w1)
  go_upto_region 4 with (go_at_call 8; (with_reducible refine HT.out.mono ?_); rintro e w2 ⟨rfl, hb2⟩; have HB2 := hid hb2; clear hb2)
  have hb3 : Below w2.heap.size w2 (w2.alloc (.cells #[.int .i64 300] 3)) := (Below.refl _ _).alloc (Nat.le_refl _) _
  have hl3 : Blk (w2.alloc (.cells #[.int .i64 300] 3)) w2.heap.size 3 [.int .i64 300] := heap_alloc_new w2 _
  generalize w2.alloc (.cells #[.int .i64 300] 3) = w3 at *
  have hb13 := below_then' HB2.out hb3
  have HX3 := hid (show BoxT w3 w.heap.size ⟨num, bl, ⟨DA, Dn, Dc⟩, ⟨KA, n, Kc⟩⟩ from Blk.keep HX.out hb13)
  have HP3 := hid (show BoxT w3 (w.heap.size + 1) ⟨nu2, bl2, ⟨DA2, Dn2, Dc2⟩, ⟨KA2, n2, Kc2⟩⟩ from Blk.keep HP.out hb13)
  have HG := hid (show w.heap.size + 1 < w2.heap.size by have := HP.out.lt; have := HB2.out.size; omega)
  have HBw := hid (below_then' HB.out hb13)
  have HG3 := hid (show w2.heap.size < w3.heap.size from hl3.lt)
  have hF := few_any t ⟨num, bl, ⟨DA, Dn, Dc⟩, ⟨KA, n, Kc⟩⟩ w3 300 0 (HR.out.keep HBw.out) (fun b hb => by have := HG.out; omega) hl3 (by decide) (by decide) (by decide)
  rw [show ((0 : Nat) : Int) = 0 from rfl] at hF
  unfold TV.val at hF
  simp only at hF
  have HF := hid hF
  clear hF
  have hFp : ∀ (W : World) (l : Int), Chg w3 W (· = w2.heap.size) → Blk W w2.heap.size 3 [.int .i64 l] → 0 ≤ l → l ≤ 300 → Calls Try.prog 9 #[.agg #[.int .u64 (nu2 : Int), .bool bl2, .slice DA2 Dn2 Dc2, .slice KA2 n2 Kc2], .pointer (some ⟨w2.heap.size, 0, none⟩), .int .i64 0] W (fun e w' => e = .returned (.bool (fewT l 0 u0).1) ∧ Blk w' w2.heap.size 3 [.int .i64 (fewT l 0 u0).2] ∧ Chg W w' (· = w2.heap.size)) := fun W l hc hl h0 h1 => by
    have h := few_any u0 ⟨nu2, bl2, ⟨DA2, Dn2, Dc2⟩, ⟨KA2, n2, Kc2⟩⟩ W l 0 ((HS.out.keep HBw.out).mono (fun b hb hlt => hc.block b hlt (by have := HG.out; omega)) hc.size (fun _ h _ => h)) (fun b hb => by have := HG.out; omega) hl h0 (by omega) (by decide)
    rw [show ((0 : Nat) : Int) = 0 from rfl] at h
    exact h
  have HFp := hid hFp
  have HFt := hid (few_text t _ HR.out 300 0)
  have HFl := hid (few_le t 300 0)
  obtain ⟨fr, hfr⟩ : ∃ fr, fr = fewT 300 0 t := ⟨_, rfl⟩
  rw [← hfr] at HF HFt HFl
  obtain ⟨fb, fn⟩ := fr
  obtain ⟨x0, x1, x2, x3⟩ := BoxT.four HX3.out
  have HB3 := hid hb3
  clear hfr hl3 hb13 hb3 hFp
  simp only at x0 x1 x2 x3
  cases fb
  · go_wp2_with (go_at_call 9; (with_reducible refine HF.out.mono ?_); rintro e w4 ⟨rfl, hl4, hc4⟩; have HB4 := hid (Chg.below HBw.out hc4 (Nat.le_trans (by have := HG.out; omega) HB3.out.size) (fun j hj => by have := HG.out; omega)); have HX4 := hid (HX3.out.chg hc4 (by have := HG.out; omega)); have HP4 := hid (HP3.out.chg hc4 (by have := HG.out; omega)); have HL4 := hid hl4; have HC4 := hid hc4; clear hl4 hc4 x0 x1 x2 x3; obtain ⟨y0, y1, y2, y3⟩ := BoxT.four HP4.out; simp only at y0 y1 y2 y3)
    show RR (.returned (.bool true)) w4
    rw [HRR.out]
    exact ⟨rfl, HB4.out⟩
  have hfl := HFl.out.2 (by first | rfl | trivial)
  have hfl0 := HFl.out.1
  simp only at hfl hfl0
  have HL := hid (show 0 ≤ fn ∧ fn ≤ 300 ∧ (wT t : Int) ≤ 301 * (300 - fn) from ⟨hfl.1, by omega, hfl.2⟩)
  have HFl2 := hid (few_le u0 fn 0)
  have HFt2 := hid (few_text u0 _ HS.out fn 0)
  obtain ⟨fr, hfr⟩ : ∃ fr, fr = fewT fn 0 u0 := ⟨_, rfl⟩
  have HFr := hid hfr
  rw [← hfr] at HFl2 HFt2
  obtain ⟨gb, gn⟩ := fr
  clear hfl hfl0 hfr
  cases gb
  · go_wp2_with (first | (go_at_call 9; (with_reducible refine HF.out.mono ?_); rintro e w4 ⟨rfl, hl4, hc4⟩; have HB4 := hid (Chg.below HBw.out hc4 (Nat.le_trans (by have := HG.out; omega) HB3.out.size) (fun j hj => by have := HG.out; omega)); have HX4 := hid (HX3.out.chg hc4 (by have := HG.out; omega)); have HP4 := hid (HP3.out.chg hc4 (by have := HG.out; omega)); have HL4 := hid hl4; have HC4 := hid hc4; clear hl4 hc4 x0 x1 x2 x3; obtain ⟨y0, y1, y2, y3⟩ := BoxT.four HP4.out; simp only at y0 y1 y2 y3) | (go_at_call 9; (with_reducible refine (HFp.out _ fn HC4.out HL4.out HL.out.1 HL.out.2.1).mono ?_); rw [← HFr.out]; rintro e w5 ⟨rfl, hl5, hc5⟩; have HB5 := hid (Chg.below HB4.out hc5 (Nat.le_trans (by have := HG.out; have := HG3.out; omega) HC4.out.size) (fun j hj => by have := HG.out; omega)); have HX5 := hid (HX4.out.chg hc5 (by have := HG.out; omega)); have HP5 := hid (HP4.out.chg hc5 (by have := HG.out; omega)); clear hl5 hc5 y0 y1 y2 y3))
    show RR (.returned (.bool true)) w5
    rw [HRR.out]
    exact ⟨rfl, HB5.out⟩
  have hfl := HFl2.out.2 (by first | rfl | trivial)
  have hfl0 := HFl2.out.1
  simp only at hfl hfl0
  have HL2 := hid (show (wT u0 : Int) ≤ 301 * fn by omega)
  clear hfl hfl0
  go_upto_region 6 with (first | (go_at_call 9; (with_reducible refine HF.out.mono ?_); rintro e w4 ⟨rfl, hl4, hc4⟩; have HB4 := hid (Chg.below HBw.out hc4 (Nat.le_trans (by have := HG.out; omega) HB3.out.size) (fun j hj => by have := HG.out; omega)); have HX4 := hid (HX3.out.chg hc4 (by have := HG.out; omega)); have HP4 := hid (HP3.out.chg hc4 (by have := HG.out; omega)); have HL4 := hid hl4; have HC4 := hid hc4; clear hl4 hc4 x0 x1 x2 x3; obtain ⟨y0, y1, y2, y3⟩ := BoxT.four HP4.out; simp only at y0 y1 y2 y3) | (go_at_call 9; (with_reducible refine (HFp.out _ fn HC4.out HL4.out HL.out.1 HL.out.2.1).mono ?_); rw [← HFr.out]; rintro e w5 ⟨rfl, hl5, hc5⟩; have HB5 := hid (Chg.below HB4.out hc5 (Nat.le_trans (by have := HG.out; have := HG3.out; omega) HC4.out.size) (fun j hj => by have := HG.out; omega)); have HX5 := hid (HX4.out.chg hc5 (by have := HG.out; omega)); have HP5 := hid (HP4.out.chg hc5 (by have := HG.out; omega)); clear hl5 hc5 y0 y1 y2 y3))
  have hft := HFt.out (by first | rfl | trivial)
  have hft2 := HFt2.out (by first | rfl | trivial)
  have hfl2 := HFl2.out.2 (by first | rfl | trivial)
  try simp only at hft hft2 hfl2
  have HTl := hid (show (textT t).length ≤ 1048576 ∧ (textT u0).length ≤ 1048576 ∧ dpT t ≤ 400 ∧ dpT u0 ≤ 400 by have := HL.out; omega)
  have HWt := hid (show wT t ≤ 90300 by have := HL.out; omega)
  have HWu := hid (show wT u0 ≤ 90300 by have := HL.out; have := HL2.out; omega)
  clear HF HFp HFt HFl HFl2 HFr HX3 HP3 HX HP HT HB2 HB3 HBw HB HZ1 HG HG3 HFt2 hft hft2 hfl2 HL HL2
  refine ts6_reg (g2 := w.heap.size) (g3 := w.heap.size + 1) (tv := ⟨num, bl, ⟨DA, Dn, Dc⟩, ⟨KA, n, Kc⟩⟩) (y := ⟨nu2, bl2, ⟨DA2, Dn2, Dc2⟩, ⟨KA2, n2, Kc2⟩⟩) (sm := smT t u0) (TA := ⟨(textT t).toArray⟩) (TB := ⟨(textT u0).toArray⟩) rfl rfl (by simp) HX5.out HP5.out ?_ ?_ ?_ ?_ ?_ ?_
  · intro W hW
    have h := same_any t u0 ⟨num, bl, ⟨DA, Dn, Dc⟩, ⟨KA, n, Kc⟩⟩ ⟨nu2, bl2, ⟨DA2, Dn2, Dc2⟩, ⟨KA2, n2, Kc2⟩⟩ W _ _ ((HR.out.keep HB5.out).keep hW) ((HS.out.keep HB5.out).keep hW) (by have := HWt.out; omega) (by have := HWu.out; omega)
    exact h.mono fun e w' hh => ⟨_, hh.1, rfl, hh.2⟩
  · intro W hW
    have h := text_any ((HR.out.keep HB5.out).keep hW) (by have := HWt.out; omega)
    exact h.mono fun e w' hh => ⟨_, hh.1, rfl, hh.2⟩
  · intro W hW
    have h := text_any ((HS.out.keep HB5.out).keep hW) (by have := HWu.out; omega)
    exact h.mono fun e w' hh => ⟨_, hh.1, rfl, hh.2⟩
  · intro W
    rw [eql_strs]
    have e : ((ByteArray.mk (textT t).toArray).toList == (ByteArray.mk (textT u0).toArray).toList) = smT t u0 := by
      rw [Bool.eq_iff_iff, smT_iff, beq_iff_eq]
      constructor
      · intro h
        rw [ByteArray.toList_eq, ByteArray.toList_eq] at h
        exact text_one HR.out HTl.out.2.2.1 HTl.out.1 HS.out HTl.out.2.2.2 h
      · intro h
        rw [h]
    rw [e]
  · intro W
    exact neq_bools _ W
  intro f w6 hf hb6
  simp only [ts6Us, List.foldl_cons, List.foldl_nil, List.setIfInBounds_toArray, List.set_cons_zero, List.set_cons_succ]
  rw [hf]
  have HB6 := hid (below_then' HB5.out hb6)
  have HX6 := hid (show BoxT w6 w.heap.size ⟨num, bl, ⟨DA, Dn, Dc⟩, ⟨KA, n, Kc⟩⟩ from Blk.keep HX5.out hb6)
  clear hb6 HX5 HTl HS HWu
  obtain ⟨nn, bb, d, ks⟩ := t
  have HCl := hid (show Calls Try.prog 18 #[.agg #[.int .u64 (num : Int), .bool bl, .slice DA Dn Dc, .slice KA n Kc]] w6 (fun e w' => ∃ x : TV, e = .returned (.agg #[.int .u64 (x.num : Int), .bool x.bl, .slice x.D.A x.D.n x.D.c, .slice x.K.A x.K.n x.K.c]) ∧ Seg w' w6.heap.size w'.heap.size x (.nd nn bb d ks) ∧ Below w6.heap.size w6 w') from by
    have h := clone_any (.nd nn bb d ks) ⟨num, bl, ⟨DA, Dn, Dc⟩, ⟨KA, n, Kc⟩⟩ w6 _ (HR.out.keep HB6.out) (by have := HWt.out; omega)
    exact h)
  obtain ⟨x0, x1, x2, x3⟩ := BoxT.four HX6.out
  simp only at x0 x1 x2 x3
  go_upto_region 9 with (go_at_call 18; (with_reducible refine HCl.out.mono ?_); rintro e w7 ⟨c, rfl, hc, hb7⟩; have HC7 := hid hc; have HB7 := hid hb7; clear hc hb7 x0 x1 x2 x3)
  obtain ⟨hb8, hc8, hz8⟩ := box_tree w7 c
  change Code.wp _ _ _ _ (w7.alloc (.cells c.cells.toArray 26))
  generalize w7.alloc (.cells c.cells.toArray 26) = w8 at *
  have HSg := hid (HC7.out.keep hb8 (Nat.le_refl _))
  have HC8 := hid hc8
  have HB68 := hid (below_then' HB7.out hb8)
  have HB8 := hid (below_then' HB6.out HB68.out)
  have HX8 := hid (show BoxT w8 w.heap.size ⟨num, bl, ⟨DA, Dn, Dc⟩, ⟨KA, n, Kc⟩⟩ from Blk.keep HX6.out HB68.out)
  have HZ8 := hid hz8
  have HG6 := hid (show w.heap.size < w6.heap.size from HX6.out.lt)
  clear hb8 hc8 hz8 HC7 HCl
  obtain ⟨hcn, hcb, hcl, mid, vs, m, hm1, hm2, hm3, hm4, hD, hvl, hK, hr⟩ := HSg.out.inv
  have hmm := mono_m hm3 0 ks.length (Nat.zero_le _) (Nat.le_refl _)
  have HDn := hid hD.1
  have HKn := hid hK.1
  have hDK : ∀ g, 0 < d.length → 0 < ks.length → Blk w8 g 5 (d.map isB) → Blk w8 g 26 (flatV vs) → False := fun g _ _ h1 h2 => absurd (blk_typ h1 h2) (by decide)
  obtain ⟨gD, gD1, gD2, gD3⟩ := mine_at hD
  obtain ⟨gK, gK1, gK2, gK3⟩ := mine_at hK
  rw [List.length_map] at gD2 gD3
  rw [flatV_len] at gK2 gK3
  have hgDc : gD ≠ w7.heap.size := by
    by_cases h : 0 < d.length
    · have := (gD2 h).1; omega
    · have := gD3 (by omega); have := HZ8.out; omega
  have hgKc : gK ≠ w7.heap.size := by
    by_cases h : 0 < ks.length
    · have := (gK2 (by omega)).1; omega
    · have := gK3 (by omega); have := HZ8.out; omega
  have hgDK : 0 < d.length ∨ 0 < ks.length → gD ≠ gK := fun hh e => by
    by_cases h : 0 < d.length
    · by_cases h' : 0 < ks.length
      · exact hDK gD h h' (gD2 h).2.2 (e ▸ (gK2 (by omega)).2.2)
      · have := (gD2 h).1; have := gK3 (by omega); omega
    · have := gD3 (by omega); have := (gK2 (by omega)).1; omega
  have HgDc := hid hgDc
  have HgKc := hid hgKc
  have HgDK := hid hgDK
  have HD2 := hid gD2
  have HK2 := hid (show 0 < ks.length → gK < mid ∧ c.K = ⟨some ⟨gK, 0, none⟩, ks.length, ks.length⟩ ∧ Blk w8 gK 26 (flatV vs) from fun h => gK2 (by omega))
  have HD3 := hid gD3
  have HK3 := hid (show ks.length = 0 → max mid w8.heap.size ≤ gK from fun h => gK3 (by omega))
  have HM := hid (show mid ≤ m 0 ∧ m ks.length ≤ w7.heap.size ∧ w6.heap.size ≤ gD ∧ w6.heap.size ≤ gK from ⟨hm2, hm4, gD1, gK1⟩)
  have HMm := hid (mono_m hm3)
  have HVl := hid hvl
  have HEach := hid hr
  have HCl := hid hcl
  subst hcn hcb
  have HW := hid (show d.length ≤ 90300 ∧ ks.length ≤ 90300 by
    have h1 := HWt.out
    have h2 := wL_len ks
    rw [wT] at h1
    omega)
  clear hcl hm1 hm2 hm3 hm4 hD hvl hK hr hmm hDK gD1 gD2 gD3 gK1 gK2 gK3 hgDc hgKc hgDK
  obtain ⟨cn, cb, ⟨CA, Cn, Cc⟩, ⟨EA, En, Ec⟩⟩ := c
  simp only at *
  obtain ⟨x0, x1, x2, x3⟩ := BoxT.four HC8.out
  simp only at x0 x1 x2 x3
  have hcb1 : Cn ≤ 90300 := by have := HDn.out; have := HW.out; omega
  have hcb2 : En ≤ 90300 := by have := HKn.out; have := HW.out; omega
  go_upto_region 10 with (fail)
  go_wp2_with fail
  go_loopw [33] (fun i wr => ∃ q : Nat, q ≤ Cn ∧ i = .int .i64 q ∧ Hid (0 < d.length → Blk wr gD 5 ((bmp (· + 1) d q).map isB)) ∧ Hid (Chg w8 wr (· = gD))) (fun i _ => Cn - (intOf i).toNat)
  case atStart => exact ⟨0, by omega, rfl, hid (fun h => by rw [bmp_zero]; exact (HD2.out h).2.2), hid (Chg.refl _ _)⟩
  case round =>
    clear x0 x1 x2 x3
    obtain ⟨q, hq, rfl, HL, HC⟩ := hrel
    obtain ⟨x0, x1, x2, x3⟩ := BoxT.four (v := ⟨cn, cb, ⟨CA, Cn, Cc⟩, ⟨EA, En, Ec⟩⟩) (HC8.out.chg HC.out (fun e => HgDc.out e.symm))
    simp only at x0 x1 x2 x3
    by_cases hlt : q < Cn
    · have hlt' : (q : Int) < (Cn : Int) := by omega
      have hql : q < d.length := by rw [← HDn.out]; exact hlt
      have hA : CA = some ⟨gD, 0, none⟩ := congrArg SV.A (HD2.out (by omega)).2.1
      have l0 := Blk.at (HL.out (by omega)) q
      have lf := Blk.free (HL.out (by omega)) q
      obtain ⟨x, hx⟩ : ∃ x, d[q]? = some x := ⟨_, List.getElem?_eq_getElem hql⟩
      rw [List.getElem?_map, bmp_get hql, ← List.getElem?_eq_getElem hql, hx, Option.map_some] at l0
      have HXq := hid hx
      have hup : ((x.toNat : Int) + 1) % 256 = (((x + 1 : UInt8).toNat : Nat) : Int) := by have := u8_up x; rwa [IntKind.wrap_u8] at this
      have HUp := hid hup
      clear hup
      simp only [isB] at l0
      clear hx hql
      rw [hA] at x2 ⊢
      have HL1 := hid (show 0 < d.length → Blk (wr.setCell ⟨gD, q, none⟩ (.int .u8 (((x + 1 : UInt8).toNat : Nat) : Int))) gD 5 ((bmp (· + 1) d (q + 1)).map isB) from fun h => by
        have h1 := (HL.out h).put q (.int .u8 (((x + 1 : UInt8).toNat : Nat) : Int))
        have h2 : ((bmp (· + 1) d q).map isB).set q (.int .u8 (((x + 1 : UInt8).toNat : Nat) : Int)) = (bmp (· + 1) d (q + 1)).map isB := by
          rw [← bmp_one HXq.out, List.map_set]
          rfl
        rw [h2] at h1
        exact h1)
      have HC1 := hid (HC.out.set gD q rfl (.int .u8 (((x + 1 : UInt8).toNat : Nat) : Int)))
      go_wp2_with fail
      rw [HUp.out]
      exact ⟨⟨q + 1, by omega, by go_num, HL1, HC1⟩, by simp [intOf]; omega⟩
    · obtain rfl : q = Cn := by omega
      have e : bmp (· + 1) d q = d.map (· + 1) := by rw [HDn.out]; exact bmp_all d
      rw [e] at HL
      clear e hlt x0 x1 x2 x3
      generalize wr = w9 at *
      have HC9 := hid (show BoxT w9 w7.heap.size ⟨cn, cb, ⟨CA, q, Cc⟩, ⟨EA, En, Ec⟩⟩ from HC8.out.chg HC.out (fun e => HgDc.out e.symm))
      have HK9 := hid (show 0 < ks.length → Blk w9 gK 26 (flatV vs) from fun h => (HK2.out h).2.2.chg HC.out (fun e => HgDK.out (.inr h) e.symm))
      obtain ⟨x0, x1, x2, x3⟩ := BoxT.four HC9.out
      simp only at x0 x1 x2 x3
      go_upto_region 15 with (fail)
      go_wp2_with fail
      go_loopw [47] (fun i wr => ∃ p : Nat, p ≤ En ∧ i = .int .i64 p ∧ Hid (0 < ks.length → Blk wr gK 26 (flatV (bmp bmV vs p))) ∧ Hid (Chg w9 wr (· = gK))) (fun i _ => En - (intOf i).toNat)
      case atStart => exact ⟨0, by omega, rfl, hid (fun h => by rw [bmp_zero]; exact HK9.out h), hid (Chg.refl _ _)⟩
      case round =>
        clear x0 x1 x2 x3
        obtain ⟨p, hp, rfl, HLk, HCk⟩ := hrel
        obtain ⟨x0, x1, x2, x3⟩ := BoxT.four (HC9.out.chg HCk.out (fun e => HgKc.out e.symm))
        simp only at x0 x1 x2 x3
        by_cases hlt : p < En
        · have hlt' : (p : Int) < (En : Int) := by omega
          have hpl : p < ks.length := by rw [← HKn.out]; exact hlt
          have hpv : p < vs.length := by rw [HVl.out]; exact hpl
          have hA : EA = some ⟨gK, 0, none⟩ := congrArg SV.A (HK2.out (by omega)).2.1
          obtain ⟨x, hx⟩ : ∃ x, vs[p]? = some x := ⟨_, List.getElem?_eq_getElem hpv⟩
          obtain ⟨hf1, hfn⟩ := flat_at hx
          have l0 := Blk.at (HLk.out (by omega)) (p * 4)
          have lf := Blk.free (HLk.out (by omega)) (p * 4)
          rw [hf1] at l0
          have HFn := hid hfn
          have HUp := hid (show IntKind.u64.wrap ((x.num : Int) + 1) = (((bmV x).num : Nat) : Int) from u64_up x.num)
          clear hx hf1 hfn hpv hpl
          rw [hA] at x3 ⊢
          have HL1 := hid (show 0 < ks.length → Blk (wr.setCell ⟨gK, p * 4, none⟩ (.int .u64 (((bmV x).num : Nat) : Int))) gK 26 (flatV (bmp bmV vs (p + 1))) from fun h => by
            have h1 := (HLk.out h).put (p * 4) (.int .u64 (((bmV x).num : Nat) : Int))
            rw [HFn.out] at h1
            exact h1)
          have HC1 := hid (HCk.out.set gK (p * 4) rfl (.int .u64 (((bmV x).num : Nat) : Int)))
          go_wp2_with fail
          rw [HUp.out]
          exact ⟨⟨p + 1, by omega, by go_num, HL1, HC1⟩, by simp [intOf]; omega⟩
        · obtain rfl : p = En := by omega
          have e : bmp bmV vs p = vs.map bmV := by rw [HKn.out, ← HVl.out]; exact bmp_all vs
          rw [e] at HLk
          clear e hlt x0 x1 x2 x3
          generalize wr = w10 at *
          have HC10 := hid (show BoxT w10 w7.heap.size ⟨cn, cb, ⟨CA, q, Cc⟩, ⟨EA, p, Ec⟩⟩ from HC9.out.chg HCk.out (fun e => HgKc.out e.symm))
          have HCC := hid (show Chg w8 w10 (fun b => b = gD ∨ b = gK) from (HC.out.more (fun _ _ h => .inl h)).trans (HCk.out.more (fun _ _ h => .inr h)))
          have HX10 := hid (show BoxT w10 w.heap.size ⟨num, bl, ⟨DA, Dn, Dc⟩, ⟨KA, n, Kc⟩⟩ from HX8.out.chg HCC.out (by have := HM.out; have := HG6.out; omega))
          have HB10 := hid (show Below w.heap.size w w10 from Chg.below HB8.out HCC.out HB8.out.size (fun j hj => by have := HM.out; have := HG6.out; omega))
          have HDf := hid (show 0 < d.length → Blk w10 gD 5 ((d.map (· + 1)).map isB) from fun h => (HL.out h).chg HCk.out (HgDK.out (.inl h)))
          have hrc : Rep w10 (fun _ => True) ⟨cn, cb, ⟨CA, q, Cc⟩, ⟨EA, p, Ec⟩⟩ (.nd cn cb (d.map (· + 1)) (ks.map bmT)) := by
            refine .mk ⟨cn, cb, ⟨CA, q, Cc⟩, ⟨EA, p, Ec⟩⟩ (d.map (· + 1)) (ks.map bmT) (vs.map bmV) HCl.out (by rw [List.length_map]; exact HDn.out) ?_ (by rw [List.length_map]; exact HKn.out) (by rw [List.length_map, List.length_map]; exact HVl.out) ?_ (fun j h1 h2 => ?_)
            · by_cases h : 0 < d.length
              · have hs : (⟨CA, q, Cc⟩ : SV) = ⟨some ⟨gD, 0, none⟩, d.length, d.length⟩ := (HD2.out h).2.1
                have hk := HDf.out h
                show Rw w10 _ ⟨CA, q, Cc⟩ _
                rw [hs]
                exact ⟨fun e => by (cases e), fun _ => ⟨gD, 0, rfl, hk.lt, trivial, fun i hi => by rw [Nat.zero_add, hk.at, List.getElem?_eq_getElem hi]⟩⟩
              · have e : d = [] := List.length_eq_zero_iff.1 (by omega)
                rw [e]
                exact Rw.nil _ _ _
            · by_cases h : 0 < ks.length
              · have hs : (⟨EA, p, Ec⟩ : SV) = ⟨some ⟨gK, 0, none⟩, ks.length, ks.length⟩ := (HK2.out h).2.1
                have hk := HLk.out h
                show Rw w10 _ ⟨EA, p, Ec⟩ _
                rw [hs]
                exact ⟨fun e => by (cases e), fun _ => ⟨gK, 0, rfl, hk.lt, trivial, fun i hi => by rw [Nat.zero_add, hk.at, List.getElem?_eq_getElem hi]⟩⟩
              · have e : vs = [] := List.length_eq_zero_iff.1 (by have := HVl.out; omega)
                rw [e]
                exact Rw.nil _ _ _
            · rw [List.length_map] at h1 h2
              rw [List.getElem_map, List.getElem_map]
              have p1 := HMm.out 0 j (Nat.zero_le _) (by omega)
              have p2 := HMm.out (j + 1) ks.length (by omega) (Nat.le_refl _)
              have hm := HM.out
              have hz := HZ8.out
              have hsg := (HEach.out j h1 h2).mono (w' := w10) fun b b1 b2 => HCC.out.block b (by omega) (fun e => by
                rcases e with e | e
                · by_cases h : 0 < d.length
                  · have := (HD2.out h).1; omega
                  · have := HD3.out (by omega); omega
                · by_cases h : 0 < ks.length
                  · have := (HK2.out h).1; omega
                  · have := HK3.out (by omega); omega)
              exact (hsg.rep.mono (fun _ _ _ => rfl) (Nat.le_refl _) (fun _ _ _ => trivial)).bump
          have HRc := hid hrc
          obtain ⟨_, _, _, hdn, _, hkn, _⟩ := HR.out.inv
          have HLn := hid (show Dn = d.length ∧ n = ks.length from ⟨hdn, hkn⟩)
          have hsb : Dn ≤ 90300 ∧ n ≤ 90300 := by have := HLn.out; have := HW.out; omega
          obtain ⟨hsb1, hsb2⟩ := hsb
          clear hrc hdn hkn
          obtain ⟨x0, x1, x2, x3⟩ := BoxT.four HX10.out
          obtain ⟨y0, y1, y2, y3⟩ := BoxT.four HC10.out
          simp only at x0 x1 x2 x3 y0 y1 y2 y3
          go_upto_region 19 with (fail)
          by_cases hz : ((Dn : Int) + (n : Int)) = 0
          · go_wp2_with fail
            rw [HRR.out]
            exact ⟨by first | rfl | simp, HB10.out⟩
          · have HSm := hid (show Calls Try.prog 12 #[.agg #[.int .u64 (num : Int), .bool bl, .slice DA Dn Dc, .slice KA n Kc], .agg #[.int .u64 (cn : Int), .bool cb, .slice CA q Cc, .slice EA p Ec]] w10 (fun e w' => e = .returned (.bool false) ∧ Below w10.heap.size w10 w') from by
              have h := same_any (.nd cn cb d ks) (.nd cn cb (d.map (· + 1)) (ks.map bmT)) ⟨num, bl, ⟨DA, Dn, Dc⟩, ⟨KA, n, Kc⟩⟩ ⟨cn, cb, ⟨CA, q, Cc⟩, ⟨EA, p, Ec⟩⟩ w10 _ _ (HR.out.keep HB10.out) HRc.out (by have := HWt.out; omega) (by rw [wT_bump]; have := HWt.out; omega)
              rw [bmT_ne (by
                have h1 := HLn.out
                by_cases h : d = []
                · right
                  intro e
                  rw [h, e] at h1
                  simp only [List.length_nil] at h1
                  omega
                · exact .inl h)] at h
              exact h)
            go_wp2_with (go_at_call 12; (with_reducible refine HSm.out.mono ?_); rintro e w11 ⟨rfl, hb11⟩; have HB11 := hid (below_then' HB10.out hb11); clear hb11)
            rw [HRR.out]
            exact ⟨by first | rfl | simp, HB11.out⟩
end Go.Proofs.Ytdhipmdapodpkaa
