/- parse: the laws' head, walked. -/
import Derived.Test.YtfcccfplmdjndaaPaRd7
import Derived.Test.YtfcccfplmdjndaaPaRow
import Derived.ChangeMaps5
import Derived.Lib.SmallJoins
namespace Go.Proofs.Ytfcccfplmdjndaa
set_option linter.unusedSimpArgs false
set_option linter.unusedVariables false
open Go.RowKit

theorem fix_24 : fixV [117, 50, 52, 108, 101] = .tuple #[.int .i64 3, .bool true, .bool true] := by kernel_rfl
theorem word_many : wordP [109, 97, 110, 121] = true := by kernel_rfl
theorem word_main : wordP [109, 97, 105, 110] = false := by kernel_rfl
theorem root_15 : rootS evD = 15 := by kernel_rfl
set_option maxRecDepth 100000 in
set_option maxHeartbeats 8000000 in
theorem reads_any (w : World) : Calls Try.prog 4 #[] w fun e w' => e = .returned (.bool true) ∧ Below w.heap.size w w' := by
  have HP1 := hid (fun W => parse_x W)
  have HP2 := hid (fun W => parse_y W)
  unfold evX at HP1
  unfold evY at HP2
  go_enter Try.func4, Try.ntmps4
  go_wp2_with fail
  refine (HP1.out _).mono ?_
  rintro e w1 ⟨hb1, vs, gN, gD, gF, K, L, C, rfl, hx⟩
  obtain ⟨hbx, hv1, hf1⟩ := box_sf w1 (.slice (some ⟨gN, 0, none⟩) 16 16) (.slice (some ⟨gD, 0, none⟩) 2 2) 0 0
  have HB := hid (hb1.trans (hbx.mono hb1.size))
  have HV1 := hid hv1
  have HF1 := hid hf1
  have HX := hid (hx.keep hbx)
  clear hb1 hbx hv1 hf1 hx HP1
  go_upto_region 2 with fail
  generalize (w1.alloc (.cells #[.slice (some ⟨gN, 0, none⟩) 16 16, .slice (some ⟨gD, 0, none⟩) 2 2] 26)).alloc (.cells #[.int .i64 0, .int .i64 0] 29) = w2 at *
  have HCk := hid (fun W (h : Fx W w.heap.size vs gN gD gF K L C) => Check_any _ W h.own.ok9 h.fit)
  have HRt := hid (fun W (h : Fx W w.heap.size vs gN gD gF K L C) => Root_any _ W h.own.ok9 (by show 2 ≤ 1048576; decide))
  unfold SpV.val at HCk HRt
  dsimp only at HCk HRt
  simp only [HX.out.ck, root_15, Int.natCast_zero] at HCk HRt
  generalize w1.heap.size + 1 = b2 at *
  generalize w1.heap.size = b1 at *
  have x0 : _ = some ((.slice (some ⟨gN, 0, none⟩) 16 16 : Value)) := Blk.at HV1.out 0
  have x1 : _ = some ((.slice (some ⟨gD, 0, none⟩) 2 2 : Value)) := Blk.at HV1.out 1
  have f0 : _ = some ((.int .i64 0 : Value)) := Blk.at HF1.out 0
  go_upto_region 3 with (go_at_call 8; refine (HCk.out _ HX.out).mono ?_; rintro e w3 ⟨rfl, hb3⟩; replace HB := hid (HB.out.trans (hb3.mono HB.out.size)); replace HV1 := hid (HV1.out.keep hb3); replace HF1 := hid (HF1.out.keep hb3); replace HX := hid (HX.out.keep hb3); clear hb3 x0 x1 f0; obtain ⟨d2, _⟩ := HX.out.cells; have x0 : _ = some ((.slice (some ⟨gN, 0, none⟩) 16 16 : Value)) := Blk.at HV1.out 0; have x1 : _ = some ((.slice (some ⟨gD, 0, none⟩) 2 2 : Value)) := Blk.at HV1.out 1; have f0 : _ = some ((.int .i64 0 : Value)) := Blk.at HF1.out 0)
  go_wp2_with fail
  refine rd4_reg (b1 := b1) (gN := gN) (gD := gD) (gF := gF) (K0 := K) (L0 := L) (C0 := C) (Sa := fun v W => ∃ g old, v = .pointer (some ⟨g, 0, none⟩) ∧ w3.heap.size ≤ g ∧ Array.size old = 18 ∧ W.heap[g]? = some (.cells old 49 (0, 0)))
    rfl (by simp) ?_ HV1.out HX.out.bn.lt (fx_row HX.out.bn HX.out.n15) ?_ ?_ ?_ ?_
  · rintro v W W' ⟨g, old, rfl, h1, h2, h3⟩ hb
    exact ⟨g, old, rfl, h1, h2, (hb.block g (Array.getElem?_eq_some_iff.1 h3).1).trans h3⟩
  · exact fun W hW => (HRt.out W (HX.out.keep hW)).mono fun e w' hh => ⟨_, hh.1, rfl, hh.2⟩
  · exact fun W hW => ⟨_, _, rfl, hW, rfl, heap_alloc_new W _⟩
  · exact fun v W h => h
  intro f w4 g h3 hG hb4
  simp only [rd4Us, List.foldl_cons, List.foldl_nil, List.setIfInBounds_toArray, List.set_cons_zero, List.set_cons_succ]
  rw [h3]
  replace HB := hid (HB.out.trans (hb4.mono HB.out.size))
  replace HV1 := hid (HV1.out.keep hb4)
  replace HX := hid (HX.out.keep hb4)
  have HG := hid hG
  clear h3 hG hb4 x0 x1 f0 HF1 HCk HRt
  go_wp2_with fail
  refine (HP2.out _).mono ?_
  rintro e w5 ⟨hb5, rfl⟩
  obtain ⟨hbx, _, hf5⟩ := box_sf w5 (.slice none 0 0) (.slice none 0 0) 5 9
  have hb6 := hb5.trans (hbx.mono hb5.size)
  replace HB := hid (HB.out.trans (hb6.mono HB.out.size))
  replace HV1 := hid (HV1.out.keep hb6)
  replace HX := hid (HX.out.keep hb6)
  replace HG := hid (HG.out.keep hb6)
  have HF5 := hid hf5
  clear hb5 hbx hf5 hb6 HP2
  go_upto_region 6 with fail
  generalize (w5.alloc (.cells #[.slice none 0 0, .slice none 0 0] 26)).alloc (.cells #[.int .i64 5, .int .i64 9] 29) = w6 at *
  generalize w5.heap.size + 1 = b5 at *
  have HFx := hid (fun W => fixed_any [117, 50, 52, 108, 101] (by decide) W)
  rw [fix_24] at HFx
  go_upto_region 7 with (go_at_call 10; refine (HFx.out _).mono ?_; rintro e w7 ⟨rfl, rfl⟩)
  refine rd7_reg (b1 := b1) (b5 := b5) (g0 := g) (gN := gN) (gD := gD) (gF := gF) (K0 := K) (L0 := L) (C0 := C) rfl rfl rfl rfl rfl rfl (by simp) HG.out HX.out.bf HV1.out HF5.out HX.out.bn.lt ?_ ?_ ?_ ?_
  · obtain ⟨_, _, _, _, c0, c1, c2⟩ := HX.out.cells
    intro i u hu
    have hi : i < 3 := (List.getElem?_eq_some_iff.1 hu).1
    rcases (show i = 0 ∨ i = 1 ∨ i = 2 by omega) with rfl | rfl | rfl
    · injection hu with hu; subst hu; exact c0
    · injection hu with hu; subst hu; exact c1
    · injection hu with hu; subst hu; exact c2
  · intro W hW
    refine (word_any [109, 97, 110, 121] (by decide) W).mono ?_
    rintro e W' ⟨rfl, rfl⟩
    exact ⟨_, rfl, by rw [word_many], Below.refl _ _⟩
  · intro W hW
    refine (word_any [109, 97, 105, 110] (by decide) W).mono ?_
    rintro e W' ⟨rfl, rfl⟩
    exact ⟨_, rfl, by rw [word_main], Below.refl _ _⟩
  intro f w8 h0 hb8
  simp only [rd7Us, List.foldl_cons, List.foldl_nil, List.setIfInBounds_toArray, List.set_cons_zero, List.set_cons_succ]
  rw [h0]
  replace HB := hid (HB.out.trans (hb8.mono HB.out.size))
  clear h0 hb8
  go_wp2
  go_ret
  exact ⟨rfl, HB.out⟩
end Go.Proofs.Ytfcccfplmdjndaa

/- parse: the law ParseReads, walked. -/
namespace Go.Proofs.Ytfcccfplmdjndaa
set_option linter.unusedSimpArgs false
set_option linter.unusedVariables false
open Go.RowKit

theorem run_eqF (c p : Int) (W : World) : (binOp .eql 29 (.agg #[.int .i64 c, .int .i64 p]) (.agg #[.int .i64 c, .int .i64 p])).run Try.prog W = .ok (.bool true) W := by
  go_simp
set_option maxRecDepth 100000 in
set_option maxHeartbeats 8000000 in
theorem pr_walk (s : ByteArray) (w : World) : Calls Try.prog 3 #[.string s] w fun e w' => e = .returned (.bool true) ∧ Below w.heap.size w w' := by
  have HRd := hid (fun W => reads_any W)
  by_cases hs : 3000 < s.size
  · have hs' : (3000 : Int) < (s.size : Int) := by omega
    go_enter Try.func3, Try.ntmps3
    go_wp2_with fail
    refine (HRd.out _).mono ?_
    rintro e w0 ⟨rfl, hb0⟩
    have HB := hid hb0
    clear hb0
    go_wp2_with fail
    go_ret
    exact ⟨rfl, HB.out⟩
  have hs' : ¬ (3000 : Int) < (s.size : Int) := by omega
  have HSc := hid (fun W => scan_any s W)
  have HPa := hid (fun W => parse_ever s W)
  obtain ⟨R, hR⟩ : ∃ R, R = scanT s.data.toList := ⟨_, rfl⟩
  rw [← hR] at HSc HPa
  have HR := hid hR
  clear hR
  go_enter Try.func3, Try.ntmps3
  go_wp2_with fail
  refine (HRd.out _).mono ?_
  rintro e w0 ⟨rfl, hb0⟩
  have HB0 := hid hb0
  clear hb0 HRd
  go_wp2_with fail
  refine (HPa.out _).mono ?_
  rintro e w1 ⟨hb1, hp⟩
  rcases R with ⟨c, p⟩ | ts
  · simp only at hp
    subst hp
    have hc0 : c ≠ 0 := scanT_err HR.out.symm
    obtain ⟨hbx, hv2, hf2⟩ := box_sf w1 (.slice none 0 0) (.slice none 0 0) (c : Int) (p : Int)
    have HB := hid (HB0.out.trans ((hb1.trans (hbx.mono hb1.size)).mono HB0.out.size))
    have HV := hid hv2
    have HF := hid hf2
    clear HB0 hb1 hbx hv2 hf2 HPa
    go_upto_region 6 with fail
    generalize (w1.alloc (.cells #[.slice none 0 0, .slice none 0 0] 26)).alloc (.cells #[.int .i64 (c : Int), .int .i64 (p : Int)] 29) = w2 at *
    generalize w1.heap.size + 1 = b4 at *
    generalize w1.heap.size = b3 at *
    go_wp2_with fail
    refine (HSc.out _).mono ?_
    rintro e w3 ⟨hb3, hq⟩
    simp only at hq
    subst hq
    unfold faultC
    have hal := al_below w3 (.cells #[.int .i64 (c : Int), .int .i64 (p : Int)] 29)
    have h6 : Blk (w3.alloc (.cells #[.int .i64 (c : Int), .int .i64 (p : Int)] 29)) w3.heap.size 29 [.int .i64 (c : Int), .int .i64 (p : Int)] := heap_alloc_new w3 _
    have hb6 := hb3.trans (hal.mono hb3.size)
    replace HB := hid (HB.out.trans (hb6.mono HB.out.size))
    have x0 : _ = some ((.slice none 0 0 : Value)) := Blk.at (HV.out.keep hb6) 0
    have f0 : _ = some ((.int .i64 (c : Int) : Value)) := Blk.at (HF.out.keep hb6) 0
    have f1 : _ = some ((.int .i64 (p : Int) : Value)) := Blk.at (HF.out.keep hb6) 1
    have g0 : _ = some ((.int .i64 (c : Int) : Value)) := Blk.at h6 0
    have g1 : _ = some ((.int .i64 (p : Int) : Value)) := Blk.at h6 1
    have hcb : ((c : Int) != 0) = true := by simpa using (show ¬ (c : Int) = 0 by omega)
    clear hal h6 hb6 hb3 HV HF HSc
    go_upto_region 7 with fail
    generalize w3.alloc (.cells #[.int .i64 (c : Int), .int .i64 (p : Int)] 29) = w4 at *
    generalize w3.heap.size = b6 at *
    have HQ := hid (fun W => run_eqF (c : Int) (p : Int) W)
    go_wp2_with fail
    go_ret
    exact ⟨rfl, HB.out⟩
  · simp only at hp
    obtain ⟨hend, hl9, hx9⟩ := scanT_fits HR.out.symm
    have hpos : 0 < ts.length := by obtain ⟨k, t, e, _⟩ := hend; rw [e]; simp
    obtain ⟨r, hr⟩ : ∃ r, r = parseL (stripT ts) := ⟨_, rfl⟩
    have hpl := fault_place (ts := ts) hpos
    rw [← hr] at hp hpl
    clear hr
    by_cases hfc : r.fc = 0
    rotate_left
    · rw [if_pos hfc] at hp
      subst hp
      obtain ⟨t0, ht0, hp0⟩ := hpl hfc
      obtain ⟨P, hP⟩ : ∃ P, P = placeL ts r.fi := ⟨_, rfl⟩
      rw [← hP] at hp0
      simp only [← hP]
      obtain ⟨j0, hj0, hjt⟩ := List.getElem_of_mem ht0
      obtain ⟨c, hc⟩ : ∃ c, c = r.fc := ⟨_, rfl⟩
      simp only [← hc]
      have hc0 : c ≠ 0 := by rw [hc]; exact hfc
      have HW := hid (show ∃ i, ∃ (h : i < ts.length), 0 ≤ i ∧ ts[i].p = P from ⟨j0, hj0, Nat.zero_le _, by rw [hjt]; exact hp0⟩)
      clear hpl ht0 hp0 hP hjt hj0 hc hfc
      obtain ⟨hbx, hv2, hf2⟩ := box_sf w1 (.slice none 0 0) (.slice none 0 0) (c : Int) (P : Int)
      have HB := hid (HB0.out.trans ((hb1.trans (hbx.mono hb1.size)).mono HB0.out.size))
      have HV := hid hv2
      have HF := hid hf2
      clear HB0 hb1 hbx hv2 hf2 HPa
      go_upto_region 6 with fail
      generalize (w1.alloc (.cells #[.slice none 0 0, .slice none 0 0] 26)).alloc (.cells #[.int .i64 (c : Int), .int .i64 (P : Int)] 29) = w2 at *
      generalize w1.heap.size + 1 = b4 at *
      generalize w1.heap.size = b3 at *
      go_wp2_with fail
      refine (HSc.out _).mono ?_
      rintro e w3 ⟨hb3, hq⟩
      simp only at hq
      obtain ⟨v, rfl, hown⟩ := hq
      obtain ⟨bt, cap, ct, rfl, hbt, hBt, hcap⟩ := owns_some hown hpos
      unfold faultC
      have hal := al_below w3 (.cells #[.int .i64 0, .int .i64 0] 29)
      have h6 : Blk (w3.alloc (.cells #[.int .i64 0, .int .i64 0] 29)) w3.heap.size 29 [.int .i64 0, .int .i64 0] := heap_alloc_new w3 _
      have hb6 := hb3.trans (hal.mono hb3.size)
      replace HB := hid (HB.out.trans (hb6.mono HB.out.size))
      replace HV := hid (HV.out.keep hb6)
      replace HF := hid (HF.out.keep hb6)
      have HK := hid ((RdK.of_own hown rfl).keep hal)
      have f0 : _ = some ((.int .i64 (c : Int) : Value)) := Blk.at HF.out 0
      have g0 : _ = some ((.int .i64 0 : Value)) := Blk.at h6 0
      have hcb : ((c : Int) == 0) = false := by simpa using (show ¬ (c : Int) = 0 by omega)
      clear hal h6 hb6 hb3 HSc hown hBt hcap hbt HR hend hx9
      go_upto_region 7 with fail
      generalize w3.alloc (.cells #[.int .i64 0, .int .i64 0] 29) = w4 at *
      generalize w3.heap.size = b6 at *
      go_wp2_with fail
      go_loopg [62] (ts.length + 1) (fun m i wr => ∃ j : Nat, j ≤ ts.length ∧ ts.length < m + j ∧ i = .int .i64 (j : Int) ∧ Hid (∃ i, ∃ (h : i < ts.length), j ≤ i ∧ ts[i].p = P) ∧ Hid (Below w.heap.size w wr) ∧ Hid (Blk wr b3 26 [.slice none 0 0, .slice none 0 0]) ∧ Hid (Blk wr b4 29 [.int .i64 (c : Int), .int .i64 (P : Int)]) ∧ Hid (RdK wr (some ⟨bt, 0, none⟩) ts))
      case atStart => exact ⟨0, by omega, by omega, rfl, HW, HB, HV, HF, HK⟩
      case round =>
        clear HW HB HV HF HK f0 g0
        obtain ⟨j, hj, hm, rfl, HW, HB, HV, HF, HK⟩ := hrel
        obtain ⟨m, rfl⟩ : ∃ m, gk = m + 1 := ⟨gk - 1, by omega⟩
        obtain ⟨i0, hi0, hji, hip⟩ := HW.out
        have hlt : j < ts.length := by omega
        have n1' : (j : Int) < (ts.length : Int) := by omega
        obtain ⟨b, o, e, hbl, hcs⟩ := HK.out hpos
        injection e with e
        injection e with e1 e2
        subst e1
        subst e2
        obtain ⟨c0, c1, c2⟩ := hcs j hlt
        obtain ⟨T, hT⟩ : ∃ T, T = ts[j] := ⟨_, rfl⟩
        rw [← hT] at c0 c1 c2
        simp only [Nat.zero_add] at c0 c1 c2
        have hal := al_below wr (.cells #[.int .i64 (T.k : Int), .int .i64 (T.p : Int), .string ⟨T.x.toArray⟩] 40)
        have h10 : Blk (wr.alloc (.cells #[.int .i64 (T.k : Int), .int .i64 (T.p : Int), .string ⟨T.x.toArray⟩] 40)) wr.heap.size 40 [.int .i64 (T.k : Int), .int .i64 (T.p : Int), .string ⟨T.x.toArray⟩] := heap_alloc_new wr _
        replace HB := hid (HB.out.trans (hal.mono HB.out.size))
        replace HV := hid (HV.out.keep hal)
        replace HF := hid (HF.out.keep hal)
        replace HK := hid (HK.out.keep hal)
        have d1 : _ = some ((.int .i64 (T.p : Int) : Value)) := Blk.at h10 1
        have f1 : _ = some ((.int .i64 (P : Int) : Value)) := Blk.at HF.out 1
        have x0 : _ = some ((.slice none 0 0 : Value)) := Blk.at HV.out 0
        have x1 : _ = some ((.slice none 0 0 : Value)) := Blk.at HV.out 1
        have HTe := hid hT
        have HW2 := hid (And.intro hji hip)
        clear hT hal h10 hcs hbl HW hip hji
        go_upto_region 20 with fail
        generalize (⟨T.x.toArray⟩ : ByteArray) = X at *
        generalize wr.alloc (.cells #[.int .i64 (T.k : Int), .int .i64 (T.p : Int), .string X] 40) = w5 at *
        generalize wr.heap.size = g5 at *
        clear c0 c1 c2
        by_cases hTP : T.p = P
        · have hq : ((T.p : Int) == (P : Int)) = true := by simp [hTP]
          clear hTP
          go_wp2_with fail
          go_ret
          exact ⟨rfl, HB.out⟩
        · have hq : ((T.p : Int) == (P : Int)) = false := by simpa using (show ¬ (T.p : Int) = (P : Int) by omega)
          have HNe := hid hTP
          clear hTP
          go_wp2_with fail
          go_roundg m
          case measure => omega
          case rel =>
            refine ⟨j + 1, by omega, by omega, by go_num, hid ⟨i0, hi0, ?_, HW2.out.2⟩, HB, HV, HF, HK⟩
            rcases Nat.eq_or_lt_of_le HW2.out.1 with e | e
            · exfalso
              refine HNe.out ?_
              rw [HTe.out]
              subst e
              exact HW2.out.2
            · exact e
    · rw [if_neg (by omega)] at hp
      obtain ⟨s', rfl, -, -, hso, hft, hvl, hdl, hd0, hck, hnm⟩ := hp
      obtain ⟨vs, ds, ⟨NA, Nn, Nc⟩, ⟨DA, Dn, Dc⟩⟩ := s'
      have hdn : Dn = ds.length := hso.dn
      subst hdn
      simp only at hdl hd0 hck hnm hft
      have HNm := hid hnm
      have HFt := hid hft
      have HCz := hid hck
      clear hpl hfc hvl hnm hft hck
      unfold SpV.val
      dsimp only
      obtain ⟨hbx, hv2, hf2⟩ := box_sf w1 (.slice NA Nn Nc) (.slice DA ds.length Dc) 0 0
      have HB := hid (HB0.out.trans ((hb1.trans (hbx.mono hb1.size)).mono HB0.out.size))
      have HX := hid (((SpecOwn.ok9 hso).keep hbx).mono (Q := fun _ => True) (fun _ _ _ => rfl) (Nat.le_refl _) (fun _ _ _ => trivial))
      have HV := hid hv2
      have HF := hid hf2
      clear HB0 hb1 hbx hv2 hf2 HPa hso
      go_upto_region 6 with fail
      generalize (w1.alloc (.cells #[.slice NA Nn Nc, .slice DA ds.length Dc] 26)).alloc (.cells #[.int .i64 0, .int .i64 0] 29) = w2 at *
      generalize w1.heap.size + 1 = b4 at *
      generalize w1.heap.size = b3 at *
      go_wp2_with fail
      refine (HSc.out _).mono ?_
      rintro e w3 ⟨hb3, hq⟩
      simp only at hq
      obtain ⟨v, rfl, hown⟩ := hq
      obtain ⟨bt, cap, ct, rfl, hbt, hBt, hcap⟩ := owns_some hown hpos
      unfold faultC
      have hal := al_below w3 (.cells #[.int .i64 0, .int .i64 0] 29)
      have h6 : Blk (w3.alloc (.cells #[.int .i64 0, .int .i64 0] 29)) w3.heap.size 29 [.int .i64 0, .int .i64 0] := heap_alloc_new w3 _
      have hb6 := hb3.trans (hal.mono hb3.size)
      replace HB := hid (HB.out.trans (hb6.mono HB.out.size))
      replace HV := hid (HV.out.keep hb6)
      replace HF := hid (HF.out.keep hb6)
      replace HX := hid (HX.out.keep hb6)
      have f0 : _ = some ((.int .i64 0 : Value)) := Blk.at HF.out 0
      have g0 : _ = some ((.int .i64 0 : Value)) := Blk.at h6 0
      have x1 : _ = some ((.slice DA ds.length Dc : Value)) := Blk.at HV.out 1
      clear hal h6 hb6 hb3 HSc hown hBt hcap hbt HR hend hx9
      go_upto_region 7 with fail
      generalize w3.alloc (.cells #[.int .i64 0, .int .i64 0] 29) = w4 at *
      generalize w3.heap.size = b6 at *
      go_wp2_with fail
      go_loopg [44] (ds.length + 1) (fun m i wr => ∃ j : Nat, j ≤ ds.length ∧ ds.length < m + j ∧ i = .int .i64 (j : Int) ∧ Hid (Below w.heap.size w wr) ∧ Hid (Blk wr b3 26 [.slice NA Nn Nc, .slice DA ds.length Dc]) ∧ Hid (Blk wr b4 29 [.int .i64 0, .int .i64 0]) ∧ Hid (SpecOk wr (fun _ => True) ⟨vs, ds, ⟨NA, Nn, Nc⟩, ⟨DA, ds.length, Dc⟩⟩))
      case atStart => exact ⟨0, by omega, by omega, rfl, HB, HV, HF, HX⟩
      case round =>
        clear HB HV HF HX f0 g0 x1
        obtain ⟨j, hj, hm, rfl, HB, HV, HF, HX⟩ := hrel
        obtain ⟨m, rfl⟩ : ∃ m, gk = m + 1 := ⟨gk - 1, by omega⟩
        rcases Nat.lt_or_ge j ds.length with hlt | hge
        rotate_left
        · have n1' : ¬ (j : Int) < (ds.length : Int) := by omega
          have f1 : _ = some ((.int .i64 0 : Value)) := Blk.at HF.out 1
          have x0 : _ = some ((.slice NA Nn Nc : Value)) := Blk.at HV.out 0
          have x1 : _ = some ((.slice DA ds.length Dc : Value)) := Blk.at HV.out 1
          have HCk := hid (Check_any ⟨vs, ds, ⟨NA, Nn, Nc⟩, ⟨DA, ds.length, Dc⟩⟩ wr HX.out HFt.out)
          unfold SpV.val at HCk
          dsimp only at HCk
          simp only [HCz.out, Int.natCast_zero] at HCk
          go_upto_region 16 with fail
          go_wp2_with (go_at_call 8; refine HCk.out.mono ?_; rintro e w5 ⟨rfl, hb5⟩; replace HB := hid (HB.out.trans (hb5.mono HB.out.size)); clear hb5)
          go_ret
          exact ⟨rfl, HB.out⟩
        · have n1' : (j : Int) < (ds.length : Int) := by omega
          obtain ⟨b, o, hA, hl, -, c0, c1⟩ := def_cell HX.out.d (q := j) hlt
          have hA : DA = some ⟨b, o, none⟩ := hA
          subst hA
          obtain ⟨l, hnl, hwl, -, hll⟩ := HNm.out _ (List.getElem_mem hlt)
          simp only at c0 c1
          rw [hnl] at c0
          obtain ⟨ty, hty⟩ : ∃ ty, ty = ds[j].ty := ⟨_, rfl⟩
          rw [← hty] at c1
          have HWd := hid (fun W => word_any l (by omega) W)
          rw [hwl] at HWd
          unfold strB at c0
          have hal := al_below wr (.cells #[.string ⟨l.toArray⟩, .int .i64 ty] 36)
          have h10 : Blk (wr.alloc (.cells #[.string ⟨l.toArray⟩, .int .i64 ty] 36)) wr.heap.size 36 [.string ⟨l.toArray⟩, .int .i64 ty] := heap_alloc_new wr _
          replace HB := hid (HB.out.trans (hal.mono HB.out.size))
          replace HV := hid (HV.out.keep hal)
          replace HF := hid (HF.out.keep hal)
          replace HX := hid (HX.out.keep hal)
          have d0 : _ = some ((.string ⟨l.toArray⟩ : Value)) := Blk.at h10 0
          clear hal h10 hty hnl hwl hll hl
          go_upto_region 13 with fail
          generalize (⟨l.toArray⟩ : ByteArray) = X at *
          generalize wr.alloc (.cells #[.string X, .int .i64 ty] 36) = w5 at *
          generalize wr.heap.size = g5 at *
          clear c0 c1
          go_wp2_with fail
          refine (HWd.out _).mono ?_
          rintro e w6 ⟨rfl, rfl⟩
          go_wp2_with fail
          go_roundg m
          case measure => omega
          case rel => exact ⟨j + 1, by omega, by omega, by go_num, HB, HV, HF, HX⟩
end Go.Proofs.Ytfcccfplmdjndaa

/- For every text the law ParseReads returns true, and what came in reads as before. -/
namespace Go.Proofs.Ytfcccfplmdjndaa.parseReadsLaw
open Go.ChangeShapes Go.WideShapes Go.ChangeAt Go.RowKit
set_option linter.unusedVariables false

theorem walk (a0 : ByteArray) (w : World) (w0 : a0.size ≤ maxLen) :
    Calls Try.prog 3 #[.string a0] w fun e w' => e = .returned (.bool true) ∧ Below w.heap.size w w' := by
  exact pr_walk a0 w

set_option maxRecDepth 100000 in
theorem lifted (os : Os) (started : os.Started) (H : Type) (enc : TypeId × Value → H) :
    ReturnsInHanded {} Try.checked os 3 .any (Rows.parseReadsSpec.pre6 enc Try.prog Try.f3 Rows.parseReadsRow.domain false) (Rows.parseReadsSpec.post enc Try.prog Try.f3 false true false false) := by
  refine returnsInHanded_of_change (C := Try.checked) own started (by kernel_rfl) Try.func3
    (ChangeSpec.witness6 (enc := enc) (C := Try.checked) false ⟨#[], #[.string ⟨#[]⟩], []⟩ 8 (by kernel_rfl) (by kernel_rfl) (by kernel_rfl) (by kernel_rfl)) ?_
  intro W base args ds gs before hval0 hW hcnd _
  have hval : ∀ (j : Nat) t v, Try.f3.params[j]? = some t → args[j]? = some v → Value.okWide Try.prog W .any base t v := hval0
  have hW' := hW
  obtain ⟨p, q, hA0, hV, rfl, hfz, hnd⟩ := hW
  have hA : DataW.TrodAll enc Try.prog W 0 (fun _ => true) true Try.f3.params.toList args.toList ds p := hA0
  rw [Try.params3] at hA hval
  obtain ⟨v0, vs0, d0, ds0, p0, q0, hargs, rfl, rfl, h0, r0⟩ := trodAll_cons hA
  obtain ⟨rfl, rfl, rfl⟩ := trodAll_nil r0
  obtain rfl : args = #[v0] := by cases args; simp_all
  obtain ⟨rfl, rfl⟩ := trodVars_none hV
  obtain ⟨a0, rfl, rfl, rfl, w0⟩ := Go.ChangeMaps.open_string Try.underlying9 (hval 0 9 v0 rfl rfl) h0
  clear hA0 hval0
  refine (walk a0 W w0).mono fun e W' ⟨he, bel⟩ => ?_
  subst he
  exact ⟨_, rfl, _, _, _, [], _, [], hW', trodAll_mk1 (shut_bool Try.underlying4 _), (trodAll_cons_mk (Go.ChangeMaps.shut_string Try.underlying9 w0) trodAll_mk0), rfl, bel.frame _, fun h => by cases h⟩

theorem over : Rows.parseReadsRow.holds Try.pinned (OpenSpec.ofChange Rows.parseReadsSpec) :=
  OpenClaim.holds_of_wide 3 Try.f3 rfl rfl rfl rfl rfl rfl rfl ⟨rfl, rfl, rfl, rfl, rfl⟩ rfl rfl rfl rfl rfl (by kernel_rfl) Try.func3 (by kernel_rfl)
    (of_decide_eq_true (by kernel_rfl)) (by unfold Func.isWrapper; first | (rw [if_pos (by decide +kernel)]; kernel_rfl) | (rw [if_neg (by decide +kernel)]; exact ⟨rfl, rfl⟩))
    (fun os started H enc _ => lifted os started H enc)

/-- The given statement. -/
theorem proved : Rows.ParseReadsSaid := over
end Go.Proofs.Ytfcccfplmdjndaa.parseReadsLaw
