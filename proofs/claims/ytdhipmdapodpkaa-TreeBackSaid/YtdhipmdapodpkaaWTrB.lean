/- tree: TreeBack, its walk. -/
import Derived.Test.YtdhipmdapodpkaaTrV
import Derived.Test.YtdhipmdapodpkaaTrY
import Derived.Test.YtdhipmdapodpkaaTrN
import Derived.Deep.CutRange
namespace Go.Proofs.Ytdhipmdapodpkaa
set_option linter.unusedSimpArgs false
set_option linter.unusedVariables false
open Go.RowKit

theorem below_then' {W X Y : World} (h : Below W.heap.size W X) (h2 : Below X.heap.size X Y) : Below W.heap.size W Y := h.trans (h2.mono h.size)
theorem below_d0' (W : World) : Below W.heap.size W W.drew := ⟨rfl, rfl, rfl, Nat.le_refl _, fun _ _ => rfl⟩
set_option maxRecDepth 100000 in
set_option maxHeartbeats 8000000 in
theorem back_walk (HTx : ∀ w, Calls Try.prog 8 #[] w fun e w' => e = .returned (.bool true) ∧ Below w.heap.size w w') {v : TV} {t : TT} {w : World} (hR : Rep w (· < w.heap.size) v t) :
    Calls Try.prog 3 #[v.val] w fun e w' => e = .returned (.bool true) ∧ Below w.heap.size w w' := by
  obtain ⟨RR, hRR⟩ : ∃ RR : Ending → World → Prop, RR = fun e w' => e = .returned (.bool true) ∧ Below w.heap.size w w' := ⟨_, rfl⟩
  rw [← hRR]
  have HRR := hid hRR
  have HTxh := hid HTx
  obtain ⟨hb, h1⟩ := box_new w v
  have hvc : v.cells.toArray = #[.int .u64 (v.num : Int), .bool v.bl, .slice v.D.A v.D.n v.D.c, .slice v.K.A v.K.n v.K.c] := rfl
  rw [hvc] at hb h1
  have HX := hid h1
  have HB := hid hb
  have HR := hid hR
  clear hRR HTx hb h1 hvc hR
  unfold TV.val
  obtain ⟨num, bl, ⟨DA, Dn, Dc⟩, ⟨KA, n, Kc⟩⟩ := v
  simp only at *
  go_enter Try.func3, Try.ntmps3
  go_upto_region 1 with (fail)
  generalize w.alloc (.cells #[.int .u64 (num : Int), .bool bl, .slice DA Dn Dc, .slice KA n Kc] 26) = w1 at *
  have HT := hid (HTxh.out w1)
  go_upto_region 4 with (go_at_call 8; (with_reducible refine HT.out.mono ?_); rintro e w2 ⟨rfl, hb2⟩; have HB2 := hid hb2; clear hb2)
  have hb3 : Below w2.heap.size w2 (w2.alloc (.cells #[.int .i64 300] 3)) := (Below.refl _ _).alloc (Nat.le_refl _) _
  have hl3 : Blk (w2.alloc (.cells #[.int .i64 300] 3)) w2.heap.size 3 [.int .i64 300] := heap_alloc_new w2 _
  generalize w2.alloc (.cells #[.int .i64 300] 3) = w3 at *
  have hb13 := below_then' HB2.out hb3
  have HX3 := hid (show BoxT w3 w.heap.size ⟨num, bl, ⟨DA, Dn, Dc⟩, ⟨KA, n, Kc⟩⟩ from Blk.keep HX.out hb13)
  have HG := hid (show w.heap.size < w2.heap.size by have := HX.out.lt; have := HB2.out.size; omega)
  have hR3 : Rep w3 (· < w.heap.size) ⟨num, bl, ⟨DA, Dn, Dc⟩, ⟨KA, n, Kc⟩⟩ t := (HR.out.keep HB.out).keep hb13
  have hF := few_any t ⟨num, bl, ⟨DA, Dn, Dc⟩, ⟨KA, n, Kc⟩⟩ w3 300 0 hR3 (fun b hb => by have := HG.out; omega) hl3 (by decide) (by decide) (by decide)
  rw [show ((0 : Nat) : Int) = 0 from rfl] at hF
  unfold TV.val at hF
  simp only at hF
  have HF := hid hF
  clear hF
  have HBw := hid (below_then' HB.out hb13)
  have HFt := hid (few_text t _ HR.out 300 0)
  have HFl := hid ((few_le t 300 0).2)
  obtain ⟨fr, hfr⟩ : ∃ fr, fr = fewT 300 0 t := ⟨_, rfl⟩
  rw [← hfr] at HF HFt HFl
  obtain ⟨fb, fn⟩ := fr
  obtain ⟨x0, x1, x2, x3⟩ := BoxT.four HX3.out
  clear hfr hR3 hl3 hb13
  simp only at x0 x1 x2 x3
  have HB3 := hid hb3
  cases fb
  · go_wp2_with (go_at_call 9; (with_reducible refine HF.out.mono ?_); rintro e w4 ⟨rfl, hl4, hc4⟩; have HB4 := hid (Chg.below HBw.out hc4 (Nat.le_trans (by have := HG.out; omega) hb3.size) (fun j hj => by have := HG.out; omega)); have HX4 := hid (HX3.out.chg hc4 (by have := HG.out; omega)); clear hl4 hc4 x0 x1 x2 x3)
    show RR (.returned (.bool true)) w4
    rw [HRR.out]
    exact ⟨rfl, HB4.out⟩
  go_upto_region 6 with (go_at_call 9; (with_reducible refine HF.out.mono ?_); rintro e w4 ⟨rfl, hl4, hc4⟩; have HB4 := hid (Chg.below HBw.out hc4 (Nat.le_trans (by have := HG.out; omega) hb3.size) (fun j hj => by have := HG.out; omega)); have HX4 := hid (HX3.out.chg hc4 (by have := HG.out; omega)); clear hl4 hc4 x0 x1 x2 x3)
  obtain ⟨x0, x1, x2, x3⟩ := BoxT.four HX4.out
  simp only at x0 x1 x2 x3
  have hft := HFt.out (by first | rfl | trivial)
  have hfl := HFl.out (by first | rfl | trivial)
  try simp only at hft hfl
  have hR4 := HR.out.keep HB4.out
  have htl : (textT t).length ≤ 1048576 := by omega
  have hwt : wT t ≤ 1048576 := by omega
  have hpb := parse_back HR.out (by omega) htl
  have HTe := hid (show Calls Try.prog 11 #[.agg #[.int .u64 (num : Int), .bool bl, .slice DA Dn Dc, .slice KA n Kc]] w4 (fun e w' => e = .returned (.string ⟨(textT t).toArray⟩) ∧ Below w4.heap.size w4 w') from by have h := text_any hR4 hwt; exact h)
  have HPa := hid (show ∀ W, Calls Try.prog 10 #[.string ⟨(textT t).toArray⟩] W (fun e w' => ∃ x : TV, e = .returned (.tuple #[.agg #[.int .u64 (x.num : Int), .bool x.bl, .slice x.D.A x.D.n x.D.c, .slice x.K.A x.K.n x.K.c], .int .i64 0]) ∧ Rep w' (fun _ => True) x t ∧ Below W.heap.size W w') from fun W => (parse_any ⟨(textT t).toArray⟩ (by show (textT t).toArray.size ≤ _; simpa using htl) W).mono fun e w' hh => by
    obtain ⟨h1, h2⟩ := hh
    have hq0 : pParse (ByteArray.mk (textT t).toArray).data.toList = .ok t := hpb
    rcases h1 with ⟨t', x, hq, he, hr⟩ | ⟨c', _, hq, he⟩
    · rw [hq0] at hq
      injection hq with hq
      subst hq
      exact ⟨x, he, hr.mono (fun _ _ _ => rfl) (Nat.le_refl _) (fun _ _ _ => trivial), h2⟩
    · rw [hq0] at hq
      cases hq)
  have HWt := hid hwt
  clear hft hfl hR4 htl hwt hpb HF HFt HFl
  obtain ⟨T, hT⟩ : ∃ T : ByteArray, T = ⟨(textT t).toArray⟩ := ⟨_, rfl⟩
  rw [← hT] at HTe HPa
  clear hT
  go_upto_region 7 with (first
    | (go_at_call 11; (with_reducible refine HTe.out.mono ?_); rintro e w5 ⟨rfl, hb5⟩; have HB5 := hid (below_then' HB4.out hb5); have HX5 := hid (Blk.keep HX4.out hb5); clear hb5 x0 x1 x2 x3)
    | (go_at_call 10; (with_reducible refine (HPa.out w5).mono ?_); rintro e w6 ⟨x, rfl, hx, hb6⟩; have HS := hid hx; have HB6 := hid (below_then' HB5.out hb6); have HX6 := hid (Blk.keep HX5.out hb6); clear hx hb6))
  have hbx := box_new w6 x
  change Code.wp _ _ _ _ (w6.alloc (.cells x.cells.toArray 26))
  generalize w6.alloc (.cells x.cells.toArray 26) = w7 at *
  have HX7 := hid (show BoxT w7 w.heap.size ⟨num, bl, ⟨DA, Dn, Dc⟩, ⟨KA, n, Kc⟩⟩ from Blk.keep HX6.out hbx.1)
  obtain ⟨x0, x1, x2, x3⟩ := BoxT.four HX7.out
  obtain ⟨y0, y1, y2, y3⟩ := BoxT.four hbx.2
  have HB7 := hid (below_then' HB6.out hbx.1)
  simp only at x0 x1 x2 x3
  have HSm := hid (show Calls Try.prog 12 #[.agg #[.int .u64 (num : Int), .bool bl, .slice DA Dn Dc, .slice KA n Kc], .agg #[.int .u64 (x.num : Int), .bool x.bl, .slice x.D.A x.D.n x.D.c, .slice x.K.A x.K.n x.K.c]] w7 (fun e w' => e = .returned (.bool true) ∧ Below w7.heap.size w7 w') from by
    have h := same_any t t ⟨num, bl, ⟨DA, Dn, Dc⟩, ⟨KA, n, Kc⟩⟩ x w7 _ _ (HR.out.keep HB7.out) (HS.out.keep hbx.1) HWt.out HWt.out
    rw [(smT_iff t t).2 rfl] at h
    exact h)
  clear hbx
  go_wp2_with (go_at_call 12; (with_reducible refine HSm.out.mono ?_); rintro e w8 ⟨rfl, hb8⟩; have HB8 := hid (below_then' HB7.out hb8); clear hb8)
  show RR (.returned (.bool true)) _
  rw [HRR.out]
  exact ⟨rfl, HB8.out⟩
end Go.Proofs.Ytdhipmdapodpkaa
