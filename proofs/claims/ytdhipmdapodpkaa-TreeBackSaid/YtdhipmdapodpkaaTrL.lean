/- tree: Put: its walk. -/
import Derived.Test.YtdhipmdapodpkaaTrK
namespace Go.Proofs.Ytdhipmdapodpkaa
set_option linter.unusedSimpArgs false
set_option linter.unusedVariables false
open Go.RowKit

theorem agg_box (w : World) (x : TV) : (w.alloc (.cells #[.int .u64 (x.num : Int), .bool x.bl, .slice x.D.A x.D.n x.D.c, .slice x.K.A x.K.n x.K.c] 26)).heap[w.heap.size]? = some (.cells x.cells.toArray 26 (0, 0)) := heap_alloc_new w _
set_option maxRecDepth 100000 in
set_option maxHeartbeats 4000000 in
theorem put_any {P Q : Nat → Prop} {v y : TV} {t u0 : TT} {s : SV} {way : List Int} {w : World} (hR : Rep w P v t) (hS : Rep w P y u0) (hW : Rw w Q s (intC way)) (hs : s.n = way.length) (hw : wT t ≤ 1048576) (hw0 : wT u0 ≤ 1048576) (hn : way.length ≤ 1048576) (hP : ∀ b, P b → b < w.heap.size) (hQ : ∀ b, Q b → b < w.heap.size) :
    Calls Try.prog 20 #[v.val, y.val, s.val] w fun e w' => ((∃ u x, atT t way = some u ∧ e = .returned (.tuple #[TV.val x, .bool true]) ∧ Rep w' (w.heap.size ≤ ·) x (putT t way u0)) ∨ (atT t way = none ∧ e = .returned (.tuple #[TV.val TV.zero, .bool false]))) ∧ Below w.heap.size w w' := by
  obtain ⟨hb1, h1⟩ := box_new w v
  obtain ⟨hb2, h2⟩ := box_new (w.alloc (.cells v.cells.toArray 26)) y
  obtain ⟨hb3, h3⟩ := box_new ((w.alloc (.cells v.cells.toArray 26)).alloc (.cells y.cells.toArray 26)) TV.zero
  have hb23 := hb2.trans (hb3.mono hb2.size)
  have hb := hb1.trans (hb23.mono hb1.size)
  have h1 : BoxT (((w.alloc (.cells v.cells.toArray 26)).alloc (.cells y.cells.toArray 26)).alloc (.cells TV.zero.cells.toArray 26)) w.heap.size v := Blk.keep h1 hb23
  have h2 : BoxT (((w.alloc (.cells v.cells.toArray 26)).alloc (.cells y.cells.toArray 26)).alloc (.cells TV.zero.cells.toArray 26)) (w.alloc (.cells v.cells.toArray 26)).heap.size y := Blk.keep h2 hb3
  rw [World.size_alloc] at h2
  rw [World.size_alloc, World.size_alloc] at h3
  obtain ⟨RR, hRR⟩ : ∃ RR : Ending → World → Prop, RR = fun e w' => ((∃ u x, atT t way = some u ∧ e = .returned (.tuple #[TV.val x, .bool true]) ∧ Rep w' (w.heap.size ≤ ·) x (putT t way u0)) ∨ (atT t way = none ∧ e = .returned (.tuple #[TV.val TV.zero, .bool false]))) ∧ Below w.heap.size w w' := ⟨_, rfl⟩
  rw [← hRR]
  have HRR := hid hRR
  have hvc : v.cells.toArray = #[.int .u64 (v.num : Int), .bool v.bl, .slice v.D.A v.D.n v.D.c, .slice v.K.A v.K.n v.K.c] := rfl
  have hyc : y.cells.toArray = #[.int .u64 (y.num : Int), .bool y.bl, .slice y.D.A y.D.n y.D.c, .slice y.K.A y.K.n y.K.c] := rfl
  have hzc : TV.zero.cells.toArray = #[.int .u64 0, .bool false, .slice none 0 0, .slice none 0 0] := rfl
  rw [hvc, hyc, hzc] at hb h1 h2 h3
  have HB := hid hb
  have H1 := hid h1
  have H2 := hid h2
  have H3 := hid h3
  have HR := hid hR
  have HSr := hid hS
  have HW := hid hW
  have HP := hid (And.intro hP hQ)
  have HWt := hid (And.intro hw hw0)
  obtain ⟨x0, x1, x2, x3⟩ := h1.four
  clear hRR hb1 hb2 hb3 hb23 hb h1 h2 h3 hR hS hW hP hQ hw hw0 hvc hyc hzc
  unfold TV.val SV.val
  obtain ⟨WA, n, Wc⟩ := s
  obtain rfl : n = way.length := hs
  have hnb : way.length ≤ 1048576 := hn
  obtain ⟨n, hwn⟩ : ∃ n, way.length = n := ⟨_, rfl⟩
  have HWn := hid hwn
  simp only at *
  rw [hwn] at HW hnb ⊢
  clear hn hwn
  go_enter Try.func20, Try.ntmps20
  go_upto_region 1 with (fail)
  generalize ((w.alloc (.cells #[.int .u64 (v.num : Int), .bool v.bl, .slice v.D.A v.D.n v.D.c, .slice v.K.A v.K.n v.K.c] 26)).alloc (.cells #[.int .u64 (y.num : Int), .bool y.bl, .slice y.D.A y.D.n y.D.c, .slice y.K.A y.K.n y.K.c] 26)).alloc (.cells #[.int .u64 0, .bool false, .slice none 0 0, .slice none 0 0] 26) = w1 at *
  have HC := hid (clone_any t v w1 P (HR.out.mono (fun b hp hl => HB.out.block b hl) HB.out.size (fun _ h _ => h)) HWt.out.1)
  unfold TV.val at HC
  go_upto_region 2 with (first
    | (go_at_call 18; (with_reducible refine HC.out.mono ?_); rintro e w2 ⟨x, rfl, hsg, hb2⟩; have HSg := hid hsg; have HB2 := hid hb2; clear hsg hb2 x0 x1 x2 x3; (try unfold TV.val); (try dsimp only)))
  have hB3 := HB.out.trans ((HB2.out.trans (((Below.refl _ _).alloc (Nat.le_refl _) (.cells #[.int .u64 (x.num : Int), .bool x.bl, .slice x.D.A x.D.n x.D.c, .slice x.K.A x.K.n x.K.c] 26)).mono HB2.out.size)).mono HB.out.size)
  have hS3 := HSg.out.keep ((Below.refl _ _).alloc (Nat.le_refl _) (.cells #[.int .u64 (x.num : Int), .bool x.bl, .slice x.D.A x.D.n x.D.c, .slice x.K.A x.K.n x.K.c] 26)) (Nat.le_refl _)
  have hX3 : BoxT (w2.alloc (.cells #[.int .u64 (x.num : Int), .bool x.bl, .slice x.D.A x.D.n x.D.c, .slice x.K.A x.K.n x.K.c] 26)) w2.heap.size x := agg_box w2 x
  have hL3 : w2.heap.size ≤ (w2.alloc (.cells #[.int .u64 (x.num : Int), .bool x.bl, .slice x.D.A x.D.n x.D.c, .slice x.K.A x.K.n x.K.c] 26)).heap.size := by rw [World.size_alloc]; omega
  have HSp := hid (Spot.start (base := w1.heap.size) ⟨HB2.out.size, Nat.le_refl _⟩ hX3 hS3 (by omega) hL3)
  have hb13 := HB2.out.trans (((Below.refl _ _).alloc (Nat.le_refl _) (.cells #[.int .u64 (x.num : Int), .bool x.bl, .slice x.D.A x.D.n x.D.c, .slice x.K.A x.K.n x.K.c] 26)).mono HB2.out.size)
  have HY3 := hid (Blk.keep H2.out hb13)
  have HZ3 := hid (Blk.keep H3.out hb13)
  have HB3 := hid hB3
  have HL1 := hid HB2.out.size
  obtain ⟨gO, hgO⟩ : ∃ g, w2.heap.size = g := ⟨_, rfl⟩
  rw [hgO] at HSp HL1 ⊢
  have HX3 := hid hX3
  clear hB3 hS3 hX3 hL3 hb13 HC H1 HB
  generalize w2.alloc (.cells #[.int .u64 (x.num : Int), .bool x.bl, .slice x.D.A x.D.n x.D.c, .slice x.K.A x.K.n x.K.c] 26) = w3 at *
  have HL := hid (show w.heap.size + 1 + 1 < w1.heap.size from Blk.lt H3.out)
  go_wp2_with fail
  go_loopw [9, 16] (fun p i wr => ∃ (q b o lo hi : Nat) (z : TV) (u : TT) (cs : List Value), q ≤ n ∧ p = .pointer (some ⟨b, o, none⟩) ∧ i = .int .i64 q ∧ wr = w3 ∧ Hid (Spot w3 w1.heap.size gO t (way.take q) b o lo hi z u cs) ∧ Hid (w1.heap.size ≤ b ∧ w1.heap.size ≤ lo)) (fun _ i _ => n - (intOf i).toNat)
  case atStart => exact ⟨0, gO, 0, _, _, _, _, _, by omega, rfl, rfl, rfl, HSp, hid ⟨HL1.out, Nat.le_refl _⟩⟩
  case round =>
    clear HSp
    obtain ⟨q, b, o, lo, hi, z, u, cs, hq, rfl, rfl, rfl, HSp, HLo⟩ := hrel
    by_cases hlt : q < n
    · have hlt' : (q : Int) < (n : Int) := by omega
      obtain ⟨i, hi⟩ : ∃ i, way[q]? = some i := ⟨_, List.getElem?_eq_getElem (by rw [HWn.out]; exact hlt)⟩
      have HTk := hid (show way.take (q + 1) = way.take q ++ [i] by rw [List.take_add_one, hi]; rfl)
      obtain ⟨bw, ow, hA, hbl, _, c0⟩ := way_cell (HW.out.mono (fun b _ hl => HB3.out.block b hl) HB3.out.size (fun _ h _ => h)) hi
      have hA' : WA = some ⟨bw, ow, none⟩ := hA
      obtain ⟨x3, hzn⟩ := HSp.out.kids
      have HKn := hid hzn
      obtain ⟨un, ub, ud, uks⟩ := u
      have hnone : (i < 0 ∨ (uks.length : Int) ≤ i) → atT t way = none := fun hc => by
        rw [← List.take_append_drop (q + 1) way]
        refine atT_none _ _ _ ?_
        rw [HTk.out, atT_snoc, HSp.out.it]
        simp only [atT]
        by_cases h0 : 0 ≤ i
        · rw [if_pos h0, List.getElem?_eq_none (by omega)]
        · rw [if_neg h0]
      have HNo := hid hnone
      have HBz := hid (show wr.heap[w.heap.size + 1 + 1]? = some (.cells #[.int .u64 0, .bool false, .slice none 0 0, .slice none 0 0] 26 (0, 0)) from HZ3.out)
      have HF := hid (setRow_heap wr (w.heap.size + 1 + 1) _ #[.int .u64 0, .bool false, .slice none 0 0, .slice none 0 0] _ _ HBz.out)
      have hend : (i < 0 ∨ (uks.length : Int) ≤ i) → RR (.returned (.tuple #[.agg #[.int .u64 0, .bool false, .slice none 0 0, .slice none 0 0], .bool false])) (wr.setRow (w.heap.size + 1 + 1) #[.int .u64 0, .bool false, .slice none 0 0, .slice none 0 0]) := fun hc => by
        rw [HRR.out]
        exact ⟨.inr ⟨HNo.out hc, rfl⟩, below_row HB3.out (by omega) _⟩
      have HEnd := hid hend
      have hzn : z.K.n = uks.length := hzn
      rw [hzn] at x3
      clear hnone hend hzn hbl hA
      rw [hA']
      by_cases c1 : i < 0
      · skip
        go_wp2_with ((with_reducible refine wpList_store_row rfl 26 _ _ rfl (w.heap.size + 1 + 1) #[.int .u64 0, .bool false, .slice none 0 0, .slice none 0 0] ?_ ?_ 26 #[.int .u64 0, .bool false, .slice none 0 0, .slice none 0 0] HBz.out (tv4_size _ _ _ _) ?_ (tv4_one rfl rfl rfl rfl) ?_); exact rfl; exact rfl; exact rfl)
        refine bodyPost_ret (v := .tuple #[.agg #[.int .u64 0, .bool false, .slice none 0 0, .slice none 0 0], .bool false]) (results_cell_tmp (P := Try.prog) (fn := Try.f20) rfl _ _ (w.heap.size + 1 + 1) 26 _ (0, 0) _ rfl HF.out Try.underlying26 rfl (by kernel_rfl)) rfl ?_
        exact HEnd.out (.inl c1)
      · by_cases c2 : (uks.length : Int) ≤ i
        · skip
          go_wp2_with ((with_reducible refine wpList_store_row rfl 26 _ _ rfl (w.heap.size + 1 + 1) #[.int .u64 0, .bool false, .slice none 0 0, .slice none 0 0] ?_ ?_ 26 #[.int .u64 0, .bool false, .slice none 0 0, .slice none 0 0] HBz.out (tv4_size _ _ _ _) ?_ (tv4_one rfl rfl rfl rfl) ?_); exact rfl; exact rfl; exact rfl)
          refine bodyPost_ret (v := .tuple #[.agg #[.int .u64 0, .bool false, .slice none 0 0, .slice none 0 0], .bool false]) (results_cell_tmp (P := Try.prog) (fn := Try.f20) rfl _ _ (w.heap.size + 1 + 1) 26 _ (0, 0) _ rfl HF.out Try.underlying26 rfl (by kernel_rfl)) rfl ?_
          exact HEnd.out (.inr c2)
        · obtain ⟨j, rfl⟩ : ∃ j : Nat, i = (j : Int) := ⟨i.toNat, by omega⟩
          have hj : j < uks.length := by omega
          obtain ⟨b', lo', hi', y2, cs', hKA, h1, h2, hsp⟩ := HSp.out.step (j := j) (k := uks[j]) (List.getElem?_eq_getElem hj)
          have HSp2 := hid (show Spot wr w1.heap.size gO t (way.take (q + 1)) b' (j * 4) lo' hi' y2 uks[j] cs' by rw [HTk.out]; exact hsp)
          have HLo2 := hid (show w1.heap.size ≤ b' ∧ w1.heap.size ≤ lo' from ⟨Nat.le_trans HLo.out.2 h1, Nat.le_trans HLo.out.2 h2⟩)
          have hj' : (j : Int) < (uks.length : Int) := by omega
          rw [hKA] at x3
          clear hsp h1 h2 hKA c2
          go_wp2_with fail
          all_goals exact ⟨⟨q + 1, b', j * 4, lo', hi', y2, _, cs', by omega, by first | rfl | trivial, by go_num, by first | rfl | trivial, HSp2, HLo2⟩, by simp [intOf]; omega⟩
    · obtain rfl : q = n := by omega
      have e : way.take q = way := by rw [← HWn.out, List.take_length]
      rw [e] at HSp
      have HC := hid (clone_any u0 y wr P (HSr.out.mono (fun b _ hl => HB3.out.block b hl) HB3.out.size (fun _ h _ => h)) HWt.out.2)
      obtain ⟨y0, y1, y2, y3⟩ := BoxT.four HY3.out
      clear e
      unfold TV.val at HC
      go_upto_region 11 with (first
        | (go_at_call 18; (with_reducible refine HC.out.mono ?_); rintro e w4 ⟨⟨n2, b2, ⟨DA, Dn, Dc⟩, ⟨KA, Kn, Kc⟩⟩, rfl, hsg, hb4⟩; have HLd := hid (HSp.out.laid hb4 hsg); have HTh := hid (show w4.there b o (#[.int .u64 (n2 : Int), .bool b2, .slice DA Dn Dc, .slice KA Kn Kc] : Array Value).size from HLd.out.1); have HB4 := hid (HB3.out.trans (hb4.mono HB3.out.size)); have HZ4 := hid (Blk.keep HZ3.out hb4); clear hsg hb4 y0 y1 y2 y3; (try unfold TV.val); (try dsimp only))
        | ((with_reducible refine wpList_store_mid rfl 26 _ _ rfl b o #[.int .u64 (n2 : Int), .bool b2, .slice DA Dn Dc, .slice KA Kn Kc] ?_ ?_ HTh.out (tv4_size _ _ _ _) (tv4_one rfl rfl rfl rfl) ?_); exact rfl; exact rfl))
      have hlo := HLo.out
      have hle := HL.out
      have hl1 := HL1.out
      have hc5 := chg_setCells (g := b) (TV.cells ⟨n2, b2, ⟨DA, Dn, Dc⟩, ⟨KA, Kn, Kc⟩⟩) o w4
      have hbw : w.heap.size ≤ b := by omega
      have hB5 : Below w.heap.size w (w4.setCells b o (TV.cells ⟨n2, b2, ⟨DA, Dn, Dc⟩, ⟨KA, Kn, Kc⟩⟩)) := Chg.below HB4.out hc5 HB4.out.size (fun k hk => by subst hk; exact hbw)
      have hZ5 : Blk (w4.setCells b o (TV.cells ⟨n2, b2, ⟨DA, Dn, Dc⟩, ⟨KA, Kn, Kc⟩⟩)) (w.heap.size + 1 + 1) 26 TV.zero.cells := HZ4.out.chg hc5 (by omega)
      obtain ⟨x5, hx5, hr5⟩ := HLd.out.2
      have HX5 := hid hx5
      have HR5 := hid hr5
      have HB5 := hid hB5
      have HZ5 := hid (show (w4.setCells b o (TV.cells ⟨n2, b2, ⟨DA, Dn, Dc⟩, ⟨KA, Kn, Kc⟩⟩)).heap[w.heap.size + 1 + 1]? = some (.cells #[.int .u64 0, .bool false, .slice none 0 0, .slice none 0 0] 26 (0, 0)) from hZ5)
      change Code.wp _ _ _ _ (w4.setCells b o (TV.cells ⟨n2, b2, ⟨DA, Dn, Dc⟩, ⟨KA, Kn, Kc⟩⟩))
      clear hx5 hr5 hB5 hZ5 hc5 hlo hle hl1 hbw HLd HTh HZ4 HB4
      generalize w4.setCells b o (TV.cells ⟨n2, b2, ⟨DA, Dn, Dc⟩, ⟨KA, Kn, Kc⟩⟩) = w5 at *
      obtain ⟨x0, x1, x2, x3⟩ := HX5.out.four
      have HF := hid (setRow_heap w5 (w.heap.size + 1 + 1) _ #[.int .u64 (x5.num : Int), .bool x5.bl, .slice x5.D.A x5.D.n x5.D.c, .slice x5.K.A x5.K.n x5.K.c] _ _ HZ5.out)
      go_wp2_with ((with_reducible refine wpList_store_row rfl 26 _ _ rfl (w.heap.size + 1 + 1) #[.int .u64 (x5.num : Int), .bool x5.bl, .slice x5.D.A x5.D.n x5.D.c, .slice x5.K.A x5.K.n x5.K.c] ?_ ?_ 26 #[.int .u64 0, .bool false, .slice none 0 0, .slice none 0 0] HZ5.out (tv4_size _ _ _ _) ?_ (tv4_one rfl rfl rfl rfl) ?_); exact rfl; exact rfl; exact rfl)
      refine bodyPost_ret (v := .tuple #[.agg #[.int .u64 (x5.num : Int), .bool x5.bl, .slice x5.D.A x5.D.n x5.D.c, .slice x5.K.A x5.K.n x5.K.c], .bool true]) (results_cell_tmp (P := Try.prog) (fn := Try.f20) rfl _ _ (w.heap.size + 1 + 1) 26 _ (0, 0) _ rfl HF.out Try.underlying26 rfl (by kernel_rfl)) rfl ?_
      rw [HRR.out]
      refine ⟨.inl ⟨u, x5, HSp.out.it, rfl, ?_⟩, below_row HB5.out (by omega) _⟩
      exact HR5.out.mono (fun c hc _ => setRow_other w5 _ c _ (by have := HL.out; omega)) (by simp [World.setRow]) (fun c hc _ => by have h1 := HL.out; have h2 : w1.heap.size ≤ c := hc; show w.heap.size ≤ c; omega)
end Go.Proofs.Ytdhipmdapodpkaa
