/- parse: the laws' head, walked. -/
import Derived.Test.YtfcccfplmdjndaaGreatPaRd7
import Derived.Test.YtfcccfplmdjndaaGreatLxCx
import Derived.Test.YtfcccfplmdjndaaGreatSpCh
import Derived.Test.YtfcccfplmdjndaaGreatPaRow
import Derived.ChangeMaps5
import Derived.Lib.SmallJoins
namespace Go.Proofs.YtfcccfplmdjndaaGreat
set_option linter.unusedSimpArgs false
set_option linter.unusedVariables false
open Go.RowKit

theorem fix_24 : fixV [117, 50, 52, 108, 101] = .tuple #[.int .i64 3, .bool true, .bool true] := by kernel_rfl
theorem word_many : wordP [109, 97, 110, 121] = true := by kernel_rfl
theorem word_main : wordP [109, 97, 105, 110] = false := by kernel_rfl
theorem root_15 : rootS evD = 15 := by kernel_rfl
set_option maxRecDepth 100000 in
set_option maxHeartbeats 8000000 in
theorem reads_any (w : World) : Calls Tryz.prog 6 #[] w fun e w' => e = .returned (.bool true) ∧ Below w.heap.size w w' := by
  have HP1 := hid (fun W => parse_x W)
  have HP2 := hid (fun W => parse_y W)
  unfold evX at HP1
  unfold evY at HP2
  go_enter Tryz.func6, Tryz.ntmps6
  go_wp2_with fail
  refine (HP1.out _).mono ?_
  rintro e w1 ⟨hb1, vs, gN, gD, gF, K, L, C, rfl, hx⟩
  obtain ⟨hbx, hv1, hf1⟩ := box_sf w1 (.slice (some ⟨gN, 0, none⟩) 16 16) (.slice (some ⟨gD, 0, none⟩) 2 2) 0 0
  have HB := hid (hb1.trans (hbx.mono hb1.size))
  have HV1 := hid hv1
  have HF1 := hid hf1
  have HX := hid (hx.keep hbx)
  clear hb1 hbx hv1 hf1 hx HP1
  go_upto_region 2 with fail
  generalize (w1.alloc (.cells #[.slice (some ⟨gN, 0, none⟩) 16 16, .slice (some ⟨gD, 0, none⟩) 2 2] 32)).alloc (.cells #[.int .i64 0, .int .i64 0] 26) = w2 at *
  have HCk := hid (fun W (h : Fx W w.heap.size vs gN gD gF K L C) => Check_any _ W h.own.ok9 h.fit)
  have HRt := hid (fun W (h : Fx W w.heap.size vs gN gD gF K L C) => Root_any _ W h.own.ok9 (by show 2 ≤ 1048576; decide))
  unfold SpV.val at HCk HRt
  dsimp only at HCk HRt
  simp only [HX.out.ck, root_15, Int.natCast_zero] at HCk HRt
  generalize w1.heap.size + 1 = b2 at *
  generalize w1.heap.size = b1 at *
  have x0 : _ = some ((.slice (some ⟨gN, 0, none⟩) 16 16 : Value)) := Blk.at HV1.out 0
  have x1 : _ = some ((.slice (some ⟨gD, 0, none⟩) 2 2 : Value)) := Blk.at HV1.out 1
  have f0 : _ = some ((.int .i64 0 : Value)) := Blk.at HF1.out 0
  go_upto_region 3 with (go_at_call 12; refine (HCk.out _ HX.out).mono ?_; rintro e w3 ⟨rfl, hb3⟩; replace HB := hid (HB.out.trans (hb3.mono HB.out.size)); replace HV1 := hid (HV1.out.keep hb3); replace HF1 := hid (HF1.out.keep hb3); replace HX := hid (HX.out.keep hb3); clear hb3 x0 x1 f0; obtain ⟨d2, _⟩ := HX.out.cells; have x0 : _ = some ((.slice (some ⟨gN, 0, none⟩) 16 16 : Value)) := Blk.at HV1.out 0; have x1 : _ = some ((.slice (some ⟨gD, 0, none⟩) 2 2 : Value)) := Blk.at HV1.out 1; have f0 : _ = some ((.int .i64 0 : Value)) := Blk.at HF1.out 0)
  go_wp2_with fail
  refine rd4_reg (b1 := b1) (gN := gN) (gD := gD) (gF := gF) (K0 := K) (L0 := L) (C0 := C) (Sa := fun v W => ∃ g old, v = .pointer (some ⟨g, 0, none⟩) ∧ w3.heap.size ≤ g ∧ Array.size old = 18 ∧ W.heap[g]? = some (.cells old 54 (0, 0)))
    rfl (by simp) ?_ HV1.out HX.out.bn.lt (fx_row HX.out.bn HX.out.n15) ?_ ?_ ?_ ?_
  · rintro v W W' ⟨g, old, rfl, h1, h2, h3⟩ hb
    exact ⟨g, old, rfl, h1, h2, (hb.block g (Array.getElem?_eq_some_iff.1 h3).1).trans h3⟩
  · exact fun W hW => (HRt.out W (HX.out.keep hW)).mono fun e w' hh => ⟨_, hh.1, rfl, hh.2⟩
  · exact fun W hW => ⟨_, _, rfl, hW, rfl, heap_alloc_new W _⟩
  · exact fun v W h => h
  intro f w4 g h3 hG hb4
  simp only [rd4Us, List.foldl_cons, List.foldl_nil, List.setIfInBounds_toArray, List.set_cons_zero, List.set_cons_succ]
  rw [h3]
  replace HB := hid (HB.out.trans (hb4.mono HB.out.size))
  replace HV1 := hid (HV1.out.keep hb4)
  replace HX := hid (HX.out.keep hb4)
  have HG := hid hG
  clear h3 hG hb4 x0 x1 f0 HF1 HCk HRt
  go_wp2_with fail
  refine (HP2.out _).mono ?_
  rintro e w5 ⟨hb5, rfl⟩
  obtain ⟨hbx, _, hf5⟩ := box_sf w5 (.slice none 0 0) (.slice none 0 0) 5 9
  have hb6 := hb5.trans (hbx.mono hb5.size)
  replace HB := hid (HB.out.trans (hb6.mono HB.out.size))
  replace HV1 := hid (HV1.out.keep hb6)
  replace HX := hid (HX.out.keep hb6)
  replace HG := hid (HG.out.keep hb6)
  have HF5 := hid hf5
  clear hb5 hbx hf5 hb6 HP2
  go_upto_region 6 with fail
  generalize (w5.alloc (.cells #[.slice none 0 0, .slice none 0 0] 32)).alloc (.cells #[.int .i64 5, .int .i64 9] 26) = w6 at *
  generalize w5.heap.size + 1 = b5 at *
  have HFx := hid (fun W => fixed_any [117, 50, 52, 108, 101] (by decide) W)
  rw [fix_24] at HFx
  go_upto_region 7 with (go_at_call 19; refine (HFx.out _).mono ?_; rintro e w7 ⟨rfl, rfl⟩)
  refine rd7_reg (b1 := b1) (b5 := b5) (g0 := g) (gN := gN) (gD := gD) (gF := gF) (K0 := K) (L0 := L) (C0 := C) rfl rfl rfl rfl rfl rfl (by simp) HG.out HX.out.bf HV1.out HF5.out HX.out.bn.lt ?_ ?_ ?_ ?_
  · obtain ⟨_, _, _, _, c0, c1, c2⟩ := HX.out.cells
    intro i u hu
    have hi : i < 3 := (List.getElem?_eq_some_iff.1 hu).1
    rcases (show i = 0 ∨ i = 1 ∨ i = 2 by omega) with rfl | rfl | rfl
    · injection hu with hu; subst hu; exact c0
    · injection hu with hu; subst hu; exact c1
    · injection hu with hu; subst hu; exact c2
  · intro W hW
    refine (word_any [109, 97, 110, 121] (by decide) W).mono ?_
    rintro e W' ⟨rfl, rfl⟩
    exact ⟨_, rfl, by rw [word_many], Below.refl _ _⟩
  · intro W hW
    refine (word_any [109, 97, 105, 110] (by decide) W).mono ?_
    rintro e W' ⟨rfl, rfl⟩
    exact ⟨_, rfl, by rw [word_main], Below.refl _ _⟩
  intro f w8 h0 hb8
  simp only [rd7Us, List.foldl_cons, List.foldl_nil, List.setIfInBounds_toArray, List.set_cons_zero, List.set_cons_succ]
  rw [h0]
  replace HB := hid (HB.out.trans (hb8.mono HB.out.size))
  clear h0 hb8
  go_wp2
  go_ret
  exact ⟨rfl, HB.out⟩
end Go.Proofs.YtfcccfplmdjndaaGreat

/- parse: the law ParseTokens, walked. -/
namespace Go.Proofs.YtfcccfplmdjndaaGreat
set_option linter.unusedSimpArgs false
set_option linter.unusedVariables false
open Go.RowKit

theorem alike_strip {a b : List Tk} (h : Alike a b) : stripT a = stripT b := h
/-- What Parse answers, by the reader's end alone. -/
def PsE (r : RS) (w : World) (e : Ending) (w' : World) : Prop := Below w.heap.size w w' ∧ ((r.fc ≠ 0 ∧ ∃ p : Int, e = .returned (.tuple #[.agg #[.slice none 0 0, .slice none 0 0], .agg #[.int .i64 (r.fc : Int), .int .i64 p]])) ∨ (r.fc = 0 ∧ ∃ s' : SpV, e = .returned (.tuple #[s'.val, .agg #[.int .i64 0, .int .i64 0]]) ∧ s'.ds = r.ds ∧ s'.ts = r.ns ∧ SpecOwn w' w.heap.size s' ∧ ckS s'.vs s'.ds = 0 ∧ (∀ v ∈ s'.vs, Fits v)))
theorem parse_end (s : ByteArray) {ts : List Tk} (hs : scanT s.data.toList = .ok ts) (w : World) : Calls Tryz.prog 8 #[.string s] w (PsE (parseL (stripT ts)) w) := by
  refine (parse_ever s w).mono ?_
  rintro e w' ⟨hb, h⟩
  rw [hs] at h
  refine ⟨hb, ?_⟩
  simp only at h
  by_cases hf : (parseL (stripT ts)).fc = 0
  · rw [if_neg (by omega)] at h
    obtain ⟨s', h1, h2, h3, h4, h5, _, _, _, h6, _⟩ := h
    exact .inr ⟨hf, s', h1, h2, h3, h4, h6, h5⟩
  · rw [if_pos hf] at h
    exact .inl ⟨hf, _, h⟩
set_option maxRecDepth 100000 in
set_option maxHeartbeats 8000000 in
theorem pt_walk (s : ByteArray) (w : World) : Calls Tryz.prog 3 #[.string s] w fun e w' => e = .returned (.bool true) ∧ Below w.heap.size w w' := by
  have HRd := hid (fun W => reads_any W)
  by_cases hs : 3000 < s.size
  · have hs' : (3000 : Int) < (s.size : Int) := by omega
    go_enter Tryz.func3, Tryz.ntmps3
    go_wp2_with fail
    refine (HRd.out _).mono ?_
    rintro e w0 ⟨rfl, hb0⟩
    have HB := hid hb0
    clear hb0
    go_wp2_with fail
    go_ret
    exact ⟨rfl, HB.out⟩
  have hs' : ¬ (3000 : Int) < (s.size : Int) := by omega
  have hlen : s.data.toList.length = s.size := rfl
  have HSc := hid (fun W => scan_any s W)
  have HPe := hid (fun (ts : List Tk) (h : scanT s.data.toList = .ok ts) W => parse_end s h W)
  have HJe := hid (fun (us : List Tk) (J : List UInt8) (h : scanT J = .ok us) W => parse_end ⟨J.toArray⟩ h W)
  obtain ⟨R, hR⟩ : ∃ R, R = scanT s.data.toList := ⟨_, rfl⟩
  rw [← hR] at HSc HPe
  have HR := hid hR
  clear hR
  go_enter Tryz.func3, Tryz.ntmps3
  go_wp2_with fail
  refine (HRd.out _).mono ?_
  rintro e w0 ⟨rfl, hb0⟩
  have HB0 := hid hb0
  clear hb0 HRd
  go_wp2_with fail
  refine (HSc.out _).mono ?_
  rintro e w1 ⟨hb1, hp⟩
  rcases R with ⟨c, p⟩ | ts
  · simp only at hp
    subst hp
    have hc0 : c ≠ 0 := scanT_err HR.out.symm
    unfold faultC
    have hal := al_below w1 (.cells #[.int .i64 (c : Int), .int .i64 (p : Int)] 26)
    have h4 : Blk (w1.alloc (.cells #[.int .i64 (c : Int), .int .i64 (p : Int)] 26)) w1.heap.size 26 [.int .i64 (c : Int), .int .i64 (p : Int)] := heap_alloc_new w1 _
    have HB := hid (HB0.out.trans ((hb1.trans (hal.mono hb1.size)).mono HB0.out.size))
    have f0 : _ = some ((.int .i64 (c : Int) : Value)) := Blk.at h4 0
    have hcb : ((c : Int) != 0) = true := by simpa using (show ¬ (c : Int) = 0 by omega)
    clear hal h4 hb1 HB0 HPe HSc HJe
    go_wp2_with fail
    go_ret
    exact ⟨rfl, HB.out⟩
  · simp only at hp
    obtain ⟨v, rfl, hown⟩ := hp
    have hok := HR.out.symm
    obtain ⟨hend, hl9, hx9⟩ := scanT_fits hok
    have hpos : 0 < ts.length := by obtain ⟨k, t, e, _⟩ := hend; rw [e]; simp
    obtain ⟨bt, cap, ct, rfl, hbt, hBt, hcap⟩ := owns_some hown hpos
    obtain ⟨hjl, us, hus, hal⟩ := back_scan hok (by omega)
    have hl := scan_ok_len hok
    have hcx := chain_x ts 0 (chain_scan hok)
    have HJ := hid (fun W (h : RdK W (some ⟨bt, 0, none⟩) ts) => join_any (cap := cap) h (by omega) (fun t ht => by have := hcx t ht; omega) (by omega))
    have HP1 := hid (fun W => HPe.out ts rfl W)
    have HP2 := hid (fun W => HJe.out us (joinT ts) hus W)
    rw [alike_strip hal] at HP2
    obtain ⟨r, hr⟩ : ∃ r, r = parseL (stripT ts) := ⟨_, rfl⟩
    rw [← hr] at HP1 HP2
    clear hr hjl hus hal hl hcx HPe HJe HSc
    unfold faultC
    have hal4 := al_below w1 (.cells #[.int .i64 0, .int .i64 0] 26)
    have h4 : Blk (w1.alloc (.cells #[.int .i64 0, .int .i64 0] 26)) w1.heap.size 26 [.int .i64 0, .int .i64 0] := heap_alloc_new w1 _
    have HB := hid (HB0.out.trans ((hb1.trans (hal4.mono hb1.size)).mono HB0.out.size))
    have HK := hid ((RdK.of_own hown rfl).keep hal4)
    have f0 : _ = some ((.int .i64 0 : Value)) := Blk.at h4 0
    clear hal4 h4 hb1 HB0 hown hBt hcap hbt
    go_upto_region 6 with fail
    generalize w1.alloc (.cells #[.int .i64 0, .int .i64 0] 26) = w2 at *
    generalize w1.heap.size = b4 at *
    go_wp2_with fail
    refine (HP1.out _).mono ?_
    rintro e w3 ⟨hb3, hp⟩
    rcases hp with ⟨hf, P, rfl⟩ | ⟨hf, s1, rfl, hd1, ht1, ho1, hc1, hf1⟩
    · obtain ⟨hbx, hv2, hf2⟩ := box_sf w3 (.slice none 0 0) (.slice none 0 0) (r.fc : Int) P
      have hb6 := hb3.trans (hbx.mono hb3.size)
      replace HB := hid (HB.out.trans (hb6.mono HB.out.size))
      replace HK := hid (HK.out.keep hb6)
      have HF := hid hf2
      clear hb3 hbx hv2 hf2 hb6 f0
      go_upto_region 9 with fail
      generalize (w3.alloc (.cells #[.slice none 0 0, .slice none 0 0] 32)).alloc (.cells #[.int .i64 (r.fc : Int), .int .i64 P] 26) = w4 at *
      generalize w3.heap.size + 1 = b6 at *
      generalize w3.heap.size = b5 at *
      go_wp2_with fail
      refine (HJ.out _ HK.out).mono ?_
      rintro e w5 ⟨rfl, hb5⟩
      replace HB := hid (HB.out.trans (hb5.mono HB.out.size))
      replace HF := hid (HF.out.keep hb5)
      clear hb5
      go_wp2_with fail
      refine (HP2.out _).mono ?_
      rintro e w6 ⟨hb6, hp⟩
      rcases hp with ⟨_, P2, rfl⟩ | ⟨h0, _⟩
      rotate_left
      · exact absurd h0 hf
      obtain ⟨hbx, hv2, hf2⟩ := box_sf w6 (.slice none 0 0) (.slice none 0 0) (r.fc : Int) P2
      have hb7 := hb6.trans (hbx.mono hb6.size)
      replace HB := hid (HB.out.trans (hb7.mono HB.out.size))
      replace HF := hid (HF.out.keep hb7)
      have x0 : _ = some ((.int .i64 (r.fc : Int) : Value)) := Blk.at HF.out 0
      have y0 : _ = some ((.int .i64 (r.fc : Int) : Value)) := Blk.at hf2 0
      have hcb : ((r.fc : Int) != 0) = true := by simpa using (show ¬ (r.fc : Int) = 0 by omega)
      clear hb6 hbx hv2 hf2 hb7
      go_upto_region 10 with fail
      generalize (w6.alloc (.cells #[.slice none 0 0, .slice none 0 0] 32)).alloc (.cells #[.int .i64 (r.fc : Int), .int .i64 P2] 26) = w7 at *
      generalize w6.heap.size + 1 = b8 at *
      generalize w6.heap.size = b7 at *
      go_wp2_with fail
      go_ret
      exact ⟨rfl, HB.out⟩
    · have HC1 := hid hc1
      obtain ⟨v1, d1, ⟨NA, Nn, Nc⟩, ⟨DA, Dn, Dc⟩⟩ := s1
      unfold SpV.val
      dsimp only
      obtain ⟨hbx, hv2, hf2⟩ := box_sf w3 (.slice NA Nn Nc) (.slice DA Dn Dc) 0 0
      have hb6 := hb3.trans (hbx.mono hb3.size)
      have HX1 := hid (((SpecOwn.ok9 ho1).keep hbx).mono (Q := fun _ => True) (fun _ _ _ => rfl) (Nat.le_refl _) (fun _ _ _ => trivial))
      replace HB := hid (HB.out.trans (hb6.mono HB.out.size))
      replace HK := hid (HK.out.keep hb6)
      have HV := hid hv2
      have HF := hid hf2
      have HE1 := hid (And.intro hd1 ht1)
      clear hb3 hbx hv2 hf2 hb6 f0 ho1 hd1 ht1 hc1 hf1
      go_upto_region 9 with fail
      generalize (w3.alloc (.cells #[.slice NA Nn Nc, .slice DA Dn Dc] 32)).alloc (.cells #[.int .i64 0, .int .i64 0] 26) = w4 at *
      generalize w3.heap.size + 1 = b6 at *
      generalize w3.heap.size = b5 at *
      go_wp2_with fail
      refine (HJ.out _ HK.out).mono ?_
      rintro e w5 ⟨rfl, hb5⟩
      replace HB := hid (HB.out.trans (hb5.mono HB.out.size))
      replace HF := hid (HF.out.keep hb5)
      replace HV := hid (HV.out.keep hb5)
      replace HX1 := hid (HX1.out.keep hb5)
      clear hb5
      go_wp2_with fail
      refine (HP2.out _).mono ?_
      rintro e w6 ⟨hb6, hp⟩
      rcases hp with ⟨h0, _⟩ | ⟨_, s2, rfl, hd2, ht2, ho2, hc2, hf2'⟩
      · exact absurd hf h0
      have HC2 := hid hc2
      obtain ⟨v2, d2, ⟨MA, Mn, Mc⟩, ⟨EA, En, Ec⟩⟩ := s2
      unfold SpV.val
      dsimp only
      obtain ⟨hbx, hv2, hf2⟩ := box_sf w6 (.slice MA Mn Mc) (.slice EA En Ec) 0 0
      have hb7 := hb6.trans (hbx.mono hb6.size)
      have HX2 := hid (((SpecOwn.ok9 ho2).keep hbx).mono (Q := fun _ => True) (fun _ _ _ => rfl) (Nat.le_refl _) (fun _ _ _ => trivial))
      replace HB := hid (HB.out.trans (hb7.mono HB.out.size))
      replace HF := hid (HF.out.keep hb7)
      replace HV := hid (HV.out.keep hb7)
      replace HX1 := hid (HX1.out.keep hb7)
      have HW := hid hv2
      have HE2 := hid (And.intro (hd2.trans HE1.out.1.symm) (ht2.trans HE1.out.2.symm))
      have x0 : _ = some ((.int .i64 0 : Value)) := Blk.at HF.out 0
      have y0 : _ = some ((.int .i64 0 : Value)) := Blk.at hf2 0
      have p0 : _ = some ((.slice NA Nn Nc : Value)) := Blk.at HV.out 0
      have p1 : _ = some ((.slice DA Dn Dc : Value)) := Blk.at HV.out 1
      have q0 : _ = some ((.slice MA Mn Mc : Value)) := Blk.at HW.out 0
      have q1 : _ = some ((.slice EA En Ec : Value)) := Blk.at HW.out 1
      clear hb6 hbx hv2 hf2 hb7 ho2 hd2 ht2 hc2 hf2'
      go_upto_region 10 with fail
      generalize (w6.alloc (.cells #[.slice MA Mn Mc, .slice EA En Ec] 32)).alloc (.cells #[.int .i64 0, .int .i64 0] 26) = w7 at *
      generalize w6.heap.size + 1 = b8 at *
      generalize w6.heap.size = b7 at *
      have HSm := hid (Same_eq ⟨v1, d1, ⟨NA, Nn, Nc⟩, ⟨DA, Dn, Dc⟩⟩ ⟨v2, d2, ⟨MA, Mn, Mc⟩, ⟨EA, En, Ec⟩⟩ HE2.out.1 HE2.out.2 HC1.out HC2.out w7 HX1.out HX2.out)
      unfold SpV.val at HSm
      dsimp only at HSm
      go_wp2_with (go_at_call 10; refine HSm.out.mono ?_; rintro e w8 ⟨rfl, hb8⟩; replace HB := hid (HB.out.trans (hb8.mono HB.out.size)); clear hb8)
      go_ret
      exact ⟨rfl, HB.out⟩
end Go.Proofs.YtfcccfplmdjndaaGreat

/- For every text the law ParseTokens returns true, and what came in reads as before. -/
namespace Go.Proofs.YtfcccfplmdjndaaGreat.parseTokensLaw
open Go.ChangeShapes Go.WideShapes Go.ChangeAt Go.RowKit
set_option linter.unusedVariables false

theorem walk (a0 : ByteArray) (w : World) (w0 : a0.size ≤ maxLen) :
    Calls Tryz.prog 3 #[.string a0] w fun e w' => e = .returned (.bool true) ∧ Below w.heap.size w w' := by
  exact pt_walk a0 w

set_option maxRecDepth 100000 in
theorem lifted (os : Os) (started : os.Started) (H : Type) (enc : TypeId × Value → H) :
    ReturnsInHanded {} Tryz.checked os 3 .any (Rows.parseTokensSpec.pre6 enc Tryz.prog Tryz.f3 Rows.parseTokensRow.domain false) (Rows.parseTokensSpec.post enc Tryz.prog Tryz.f3 false true false false) := by
  refine returnsInHanded_of_change (C := Tryz.checked) own started (by kernel_rfl) Tryz.func3
    (ChangeSpec.witness6 (enc := enc) (C := Tryz.checked) false ⟨#[], #[.string ⟨#[]⟩], []⟩ 8 (by kernel_rfl) (by kernel_rfl) (by kernel_rfl) (by kernel_rfl)) ?_
  intro W base args ds gs before hval0 hW hcnd _
  have hval : ∀ (j : Nat) t v, Tryz.f3.params[j]? = some t → args[j]? = some v → Value.okWide Tryz.prog W .any base t v := hval0
  have hW' := hW
  obtain ⟨p, q, hA0, hV, rfl, hfz, hnd⟩ := hW
  have hA : DataW.TrodAll enc Tryz.prog W 0 (fun _ => true) true Tryz.f3.params.toList args.toList ds p := hA0
  rw [Tryz.params3] at hA hval
  obtain ⟨v0, vs0, d0, ds0, p0, q0, hargs, rfl, rfl, h0, r0⟩ := trodAll_cons hA
  obtain ⟨rfl, rfl, rfl⟩ := trodAll_nil r0
  obtain rfl : args = #[v0] := by cases args; simp_all
  obtain ⟨rfl, rfl⟩ := trodVars_none hV
  obtain ⟨a0, rfl, rfl, rfl, w0⟩ := Go.ChangeMaps.open_string Tryz.underlying9 (hval 0 9 v0 rfl rfl) h0
  clear hA0 hval0
  refine (walk a0 W w0).mono fun e W' ⟨he, bel⟩ => ?_
  subst he
  exact ⟨_, rfl, _, _, _, [], _, [], hW', trodAll_mk1 (shut_bool Tryz.underlying4 _), (trodAll_cons_mk (Go.ChangeMaps.shut_string Tryz.underlying9 w0) trodAll_mk0), rfl, bel.frame _, fun h => by cases h⟩

theorem over : Rows.parseTokensRow.holds Tryz.pinned (OpenSpec.ofChange Rows.parseTokensSpec) :=
  OpenClaim.holds_of_wide 3 Tryz.f3 rfl rfl rfl rfl rfl rfl rfl ⟨rfl, rfl, rfl, rfl, rfl⟩ rfl rfl rfl rfl rfl (by kernel_rfl) Tryz.func3 (by kernel_rfl)
    (of_decide_eq_true (by kernel_rfl)) (by unfold Func.isWrapper; first | (rw [if_pos (by decide +kernel)]; kernel_rfl) | (rw [if_neg (by decide +kernel)]; exact ⟨rfl, rfl⟩))
    (fun os started H enc _ => lifted os started H enc)

/-- The given statement. -/
theorem proved : Rows.ParseTokensSaid := over
end Go.Proofs.YtfcccfplmdjndaaGreat.parseTokensLaw
