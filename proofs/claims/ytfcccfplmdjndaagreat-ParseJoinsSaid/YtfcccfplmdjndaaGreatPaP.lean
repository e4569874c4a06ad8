/- parse: a type. -/
import Derived.Test.YtfcccfplmdjndaaGreatPaO
namespace Go.Proofs.YtfcccfplmdjndaaGreat
set_option linter.unusedSimpArgs false
set_option linter.unusedVariables false
open Go.RowKit

variable {w w' w0 : World} {O O0 O' : Nat → Prop} {g : Nat} {L : List Tk} {s s' : RS}
theorem RdX.hx (h : RdX w O g L s) : (nxt s).2.length ≤ 1000000 := by
 obtain ⟨A, c, vs, nv, dv, h⟩ := h
 rw [h.nx]
 exact h.hx
set_option maxRecDepth 100000 in
set_option maxHeartbeats 8000000 in
theorem node_any {M deep : Nat} {K : RS → Int × RS} (hK : KOk M ((deep : Int) + 1) K L) (hS : ∀ s : RS, 0 < s.ts.length → Suf s (K s).2) (hd : deep ≤ 10000000) (h : RdX w O g L s) (he : EndS s) (hN : s.ts.length ≤ M + 1) : Calls Tryz.prog 87 #[.pointer (some ⟨g, 0, none⟩), .int .i64 (deep : Int)] w fun e w' => NRes w.heap.size (nodeP K s).1 e w' ∧ StG w O g L (nodeP K s).2 w' := by
 have HA := hid (At.start h)
 obtain ⟨P, hP⟩ : ∃ P, P = nodeP K s := ⟨_, rfl⟩
 have HQ := hid hP
 rw [← hP]
 have HK := hid hK
 have HS0 := hid hS
 have HS := HS0
 have HEd := hid he
 have HNl := hid hN
 have hx := h.hx
 clear hP h hK he hN HS0 hS
 obtain ⟨ha, h4⟩ := HA.out.one 54 nvZ.cells #[.int .i64 0, .int .i64 0, .bool false, .bool false, .bool false, .int .u64 0, .int .u64 0, .string ⟨#[]⟩, .string ⟨#[]⟩, .int .u64 0, .int .u64 0, .slice none 0 0, .slice none 0 0, .slice none 0 0, .string ⟨#[]⟩, .int .u64 0, .slice none 0 0, .int .i64 0] rfl
 replace HA := hid ha
 have HX4 := hid h4
 clear ha h4
 obtain ⟨p, hnx⟩ := next_g HA.out.rd
 rcases hnx0 : nxt s with ⟨k, x⟩
 rw [hnx0] at hnx hx
 simp only at hnx hx
 obtain ⟨S, hS⟩ : ∃ S, S = (⟨x.toArray⟩ : ByteArray) := ⟨_, rfl⟩
 have HBg := hid (fun w => begins_any x hx w)
 rw [← hS] at HBg hnx
 have HSx := hid hS
 clear hS
 have HC := hid hnx
 clear hnx
 go_enter Tryz.func87, Tryz.ntmps87
 go_upto_region 1 with fail
 generalize w.alloc (.cells #[.int .i64 0, .int .i64 0, .bool false, .bool false, .bool false, .int .u64 0, .int .u64 0, .string ⟨#[]⟩, .string ⟨#[]⟩, .int .u64 0, .int .u64 0, .slice none 0 0, .slice none 0 0, .slice none 0 0, .string ⟨#[]⟩, .int .u64 0, .slice none 0 0, .int .i64 0] 54) = w1 at *
 go_upto_block 0 with (go_at_call 51; (with_reducible refine HC.out.mono ?_); rintro e wk ⟨rfl, hk⟩; obtain ⟨Ok, ha, hc, hn⟩ := At.call2 HA.out hk; replace HA := hid ha; replace HX4 := hid (HX4.out.call2 hc hn); clear hk ha hc hn; clear HC)
 obtain ⟨ha, h5⟩ := HA.out.one 70 [.int .i64 (k : Int), .int .i64 (p : Int), .string S] #[.int .i64 (k : Int), .int .i64 (p : Int), .string S] rfl
 replace HX4 := hid (HX4.out.alloc (.cells #[.int .i64 (k : Int), .int .i64 (p : Int), .string S] 70))
 replace HA := hid ha
 obtain ⟨b5, hb5⟩ : ∃ b5, b5 = wk.heap.size := ⟨_, rfl⟩
 rw [← hb5] at h5
 simp only [← hb5]
 have HX5 := hid h5
 clear ha h5 hb5
 generalize wk.alloc (.cells #[.int .i64 (k : Int), .int .i64 (p : Int), .string S] 70) = w2 at *
 have z5_0 : _ = some ((.int .i64 (k : Int) : Value)) := HX5.out.at 0; have y5_0 := HX5.out.free 0
 have z5_2 : _ = some ((.string S : Value)) := HX5.out.at 2; have y5_2 := HX5.out.free 2
 have hS := HSx.out
 by_cases hA : k = 3 ∧ x ≠ []
 ·skip
  have HRE := hid (show nodeP K s = ({ ntZ with k := 3, tx := S }, passP s) from by
   unfold nodeP
   rw [hnx0]
   simp only
   rw [if_pos hA, hS]
   rfl)
  have hS0 : S.toList.isEmpty = false := by rw [hS, ByteArray.toList_eq]; simpa using hA.2
  have h3 := hA.1
  have hk3 : ((k : Int) == 3) = true := by simpa using (show (k : Int) = 3 by omega)
  clear hS hA h3 hnx0
  have HC := hid (show Calls Tryz.prog 56 #[.pointer (some ⟨g, 0, none⟩)] _ (fun e w' => e = .returned (.tuple #[]) ∧ StG _ _ g L (passP s) w') from pass_g HA.out.rd)
  obtain ⟨X, hX⟩ : ∃ X, X = (nvOf { ntZ with k := 3, tx := S }).cells.toArray := ⟨_, rfl⟩
  have HXX := hid hX
  have hszX : (Tryz.prog.info? 54).map (·.size) = some X.size := by rw [hX]; exact nv_size _
  have holX : nvZ.cells.toArray.size = X.size := by rw [hX]; rfl
  have honX : X.all (·.oneCell') = true := by rw [hX]; exact nv_one _
  clear hX
  go_wp2_with (first
   | (go_at_call 56; (with_reducible refine HC.out.mono ?_); rintro e wk ⟨rfl, hk⟩; obtain ⟨Ok, ha, hc, hn⟩ := At.call2 HA.out hk; replace HA := hid ha; replace HX4 := hid (HX4.out.call2 hc hn); replace HX5 := hid (HX5.out.call2 hc hn); clear hk ha hc hn; clear HC; have z5_2 : _ = some ((.string S : Value)) := HX5.out.at 2; have y5_2 := HX5.out.free 2)
   | (refine wpList_bld rfl 54 _ rfl X (by rw [HXX.out]; kernel_rfl) ?_)
   | (with_reducible refine wpList_store_row rfl 54 _ _ rfl w.heap.size X rfl rfl 54 _ HX4.out.bget hszX holX honX ?_))
  clear hszX holX honX
  have hX9 := HXX.out
  clear HXX
  subst hX9
  have hb2 := HX4.out.row (cs' := (nvOf { ntZ with k := 3, tx := S }).cells)
  refine bodyPost_ret (v := (nvOf { ntZ with k := 3, tx := S }).val) (results_cell_row (P := Tryz.prog) (fn := Tryz.f87) rfl _ _ w.heap.size 54 ((nvOf { ntZ with k := 3, tx := S }).cells.toArray) (0, 0) _ rfl hb2.bget Tryz.underlying54 rfl (nv_size _)) rfl ?_
  rw [HQ.out, HRE.out]
  obtain ⟨k1, k2⟩ := node_nil _ (w.heap.size ≤ ·) ({ ntZ with k := 3, tx := S }) ⟨rfl, rfl, rfl, rfl⟩
  exact ⟨⟨_, rfl, rfl, k1, k2⟩, (HA.out.brow HX4.out _).stg⟩

 ·by_cases hB : k = 1 ∧ begP x = true
  ·have h3 : ¬ k = 3 := by have := hB.1; omega
   have HRE := hid (show nodeP K s = namedP K x (passP s) from by
    unfold nodeP
    rw [hnx0]
    simp only
    rw [if_neg hA, if_pos hB])
   have h1 := hB.1
   have hbg := hB.2
   have HLs := hid (pass_less (HEd.out.two (show (nxt s).1 ≠ 5 by rw [hnx0]; simp only; omega)))
   have hk3 : ((k : Int) == 3) = false := by simpa using (show ¬ (k : Int) = 3 by omega)
   have hk1 : ((k : Int) == 1) = true := by simpa using (show (k : Int) = 1 by omega)
   rw [hbg] at HBg
   clear hA hB h1 hbg hnx0 hS h3
   have HC := hid (show Calls Tryz.prog 56 #[.pointer (some ⟨g, 0, none⟩)] _ (fun e w' => e = .returned (.tuple #[]) ∧ StG _ _ g L (passP s) w') from pass_g HA.out.rd)
   have HSp := hid (suf_pass HEd.out.pos)
   have HE1 := hid (HEd.out.suf HSp.out)
   have HN1 := hid (show (passP s).ts.length ≤ M from by have h7 := HLs.out; have h8 := HNl.out; omega)
   obtain ⟨s1, hs1⟩ : ∃ u, u = passP s := ⟨_, rfl⟩
   rw [← hs1] at HC HE1 HN1 HRE
   clear hs1 HSp
   obtain ⟨v, hv⟩ : ∃ v, v = namedP K x s1 := ⟨_, rfl⟩
   rw [← hv] at HRE
   go_upto_region 7 with (first
    | (go_at_call 103; (with_reducible refine (HBg.out _).mono ?_); rintro e w2 ⟨rfl, rfl⟩)
    | (go_at_call 56; (with_reducible refine HC.out.mono ?_); rintro e wk ⟨rfl, hk⟩; obtain ⟨Ok, ha, hc, hn⟩ := At.call2 HA.out hk; replace HA := hid ha; replace HX4 := hid (HX4.out.call2 hc hn); replace HX5 := hid (HX5.out.call2 hc hn); clear hk ha hc hn; clear HC; have z5_2 : _ = some ((.string S : Value)) := HX5.out.at 2; have y5_2 := HX5.out.free 2))
   have HC := hid (named_any HK.out HS.out hd x hx HA.out.rd HE1.out HN1.out)
   rw [← hv, ← HSx.out] at HC
   clear hv
   go_wp2_with (first
    | (go_at_call 104; (with_reducible refine HC.out.mono ?_); rintro e wk ⟨⟨x1, he1, hxt, hxn, hxf⟩, hk⟩; rw [NV.val_eq] at he1; subst he1; have Hlt := HX4.out.blk.lt; have HXn := hid (And.intro Hlt (And.intro hxt (And.intro hxn hxf))); obtain ⟨Ok, ha, hc, hn⟩ := At.call2 HA.out hk; replace HA := hid ha; replace HX4 := hid (HX4.out.call2 hc hn); clear hk ha hc hn Hlt hxt hxn hxf; clear HC)
    | (with_reducible refine wpList_store_row rfl 54 _ _ rfl w.heap.size (x1).cells.toArray rfl rfl 54 _ HX4.out.bget (nv_size _) rfl (nv_one _) ?_))
   have hb2 := HX4.out.row (cs' := (x1).cells)
   refine bodyPost_ret (v := (x1).val) (results_cell_row (P := Tryz.prog) (fn := Tryz.f87) rfl _ _ w.heap.size 54 (x1.cells.toArray) (0, 0) _ rfl hb2.bget Tryz.underlying54 rfl (nv_size _)) rfl ?_
   rw [HQ.out, HRE.out]
   refine ⟨⟨x1, rfl, HXn.out.2.1, node_past HXn.out.2.2.1 HXn.out.1 _, HXn.out.2.2.2⟩, (HA.out.brow HX4.out _).stg⟩

  ·by_cases hk : k = 3
   ·have hx0 : x = [] := by
     by_cases hh : x = []
     ·exact hh
     ·exact absurd ⟨hk, hh⟩ hA
    have h3 := hk
    have hS0 : S.toList.isEmpty = true := by rw [hS, ByteArray.toList_eq, hx0]; rfl
    have hk3 : ((k : Int) == 3) = true := by simpa using (show (k : Int) = 3 by omega)
    have hk1 : ((k : Int) == 1) = false := by simpa using (show ¬ (k : Int) = 1 by omega)
    have HC := hid (show Calls Tryz.prog 86 #[.pointer (some ⟨g, 0, none⟩), .int .i64 4, .string ⟨#[123]⟩] _ (fun e w' => e = .returned (.bool (tookP 4 [123] s).1) ∧ StG _ _ g L (tookP 4 [123] s).2 w') from took_g HA.out.rd 4 [123])
    by_cases hC : isP 4 [123] s = true
    ·have HRE := hid (show nodeP K s = recordP K (passP s) from by
      unfold nodeP
      rw [hnx0]
      simp only
      rw [if_neg hA, if_neg hB, if_pos hC])
     have HTk := hid (show tookP 4 [123] s = (true, passP s) from by unfold tookP; rw [if_pos hC])
     rw [HTk.out] at HC
     simp only at HC
     have HLs := hid (pass_less (HEd.out.two (show (nxt s).1 ≠ 5 by rw [of_decide_eq_true (show decide (nxt s = (4, [123])) = true from hC)]; decide)))
     clear hC HTk hA hB hnx0 hS hx0 h3 hk
     have HSp := hid (suf_pass HEd.out.pos)
     have HE1 := hid (HEd.out.suf HSp.out)
     have HN1 := hid (show (passP s).ts.length ≤ M from by have h7 := HLs.out; have h8 := HNl.out; omega)
     obtain ⟨s1, hs1⟩ : ∃ u, u = passP s := ⟨_, rfl⟩
     rw [← hs1] at HC HE1 HN1 HRE
     clear hs1 HSp
     obtain ⟨v, hv⟩ : ∃ v, v = recordP K s1 := ⟨_, rfl⟩
     rw [← hv] at HRE
     go_upto_region 9 with (first
      | (go_at_call 103; (with_reducible refine (HBg.out _).mono ?_); rintro e w2 ⟨rfl, rfl⟩)
      | (go_at_call 86; (with_reducible refine HC.out.mono ?_); rintro e wk ⟨rfl, hk⟩; obtain ⟨Ok, ha, hc, hn⟩ := At.call2 HA.out hk; replace HA := hid ha; replace HX4 := hid (HX4.out.call2 hc hn); replace HX5 := hid (HX5.out.call2 hc hn); clear hk ha hc hn; clear HC))
     have HC := hid (record_any HK.out HS.out hd HA.out.rd HE1.out HN1.out)
     rw [← hv] at HC
     clear hv
     go_wp2_with (first
      | (go_at_call 105; (with_reducible refine HC.out.mono ?_); rintro e wk ⟨⟨x1, he1, hxt, hxn, hxf⟩, hk⟩; rw [NV.val_eq] at he1; subst he1; have Hlt := HX4.out.blk.lt; have HXn := hid (And.intro Hlt (And.intro hxt (And.intro hxn hxf))); obtain ⟨Ok, ha, hc, hn⟩ := At.call2 HA.out hk; replace HA := hid ha; replace HX4 := hid (HX4.out.call2 hc hn); clear hk ha hc hn Hlt hxt hxn hxf; clear HC)
      | (with_reducible refine wpList_store_row rfl 54 _ _ rfl w.heap.size (x1).cells.toArray rfl rfl 54 _ HX4.out.bget (nv_size _) rfl (nv_one _) ?_))
     have hb2 := HX4.out.row (cs' := (x1).cells)
     refine bodyPost_ret (v := (x1).val) (results_cell_row (P := Tryz.prog) (fn := Tryz.f87) rfl _ _ w.heap.size 54 (x1.cells.toArray) (0, 0) _ rfl hb2.bget Tryz.underlying54 rfl (nv_size _)) rfl ?_
     rw [HQ.out, HRE.out]
     refine ⟨⟨x1, rfl, HXn.out.2.1, node_past HXn.out.2.2.1 HXn.out.1 _, HXn.out.2.2.2⟩, (HA.out.brow HX4.out _).stg⟩
    ·have HRE := hid (show nodeP K s = (ntZ, failP 5 s) from by
      unfold nodeP
      rw [hnx0]
      simp only
      rw [if_neg hA, if_neg hB, if_neg hC])
     have HTk := hid (show tookP 4 [123] s = (false, s) from by unfold tookP; rw [if_neg hC])
     rw [HTk.out] at HC
     simp only at HC
     clear hC HTk hA hB hnx0 hS hx0 h3 hk
     go_upto_region 10 with (first
      | (go_at_call 103; (with_reducible refine (HBg.out _).mono ?_); rintro e w2 ⟨rfl, rfl⟩)
      | (go_at_call 86; (with_reducible refine HC.out.mono ?_); rintro e wk ⟨rfl, hk⟩; obtain ⟨Ok, ha, hc, hn⟩ := At.call2 HA.out hk; replace HA := hid ha; replace HX4 := hid (HX4.out.call2 hc hn); replace HX5 := hid (HX5.out.call2 hc hn); clear hk ha hc hn; clear HC))
     have HC := hid (show Calls Tryz.prog 85 #[.pointer (some ⟨g, 0, none⟩), .int .i64 5] _ (fun e w' => e = .returned (.tuple #[]) ∧ StG _ _ g L (failP 5 s) w') from fail_g HA.out.rd 5)
     obtain ⟨X, hX⟩ : ∃ X, X = (nvOf ntZ).cells.toArray := ⟨_, rfl⟩
     have HXX := hid hX
     have hszX : (Tryz.prog.info? 54).map (·.size) = some X.size := by rw [hX]; exact nv_size _
     have holX : nvZ.cells.toArray.size = X.size := by rw [hX]; rfl
     have honX : X.all (·.oneCell') = true := by rw [hX]; exact nv_one _
     clear hX
     go_wp2_with (first
      | (go_at_call 85; (with_reducible refine HC.out.mono ?_); rintro e wk ⟨rfl, hk⟩; obtain ⟨Ok, ha, hc, hn⟩ := At.call2 HA.out hk; replace HA := hid ha; replace HX4 := hid (HX4.out.call2 hc hn); replace HX5 := hid (HX5.out.call2 hc hn); clear hk ha hc hn; clear HC)
      | (refine wpList_bld rfl 54 _ rfl X (by rw [HXX.out]; kernel_rfl) ?_)
      | (with_reducible refine wpList_store_row rfl 54 _ _ rfl w.heap.size X rfl rfl 54 _ HX4.out.bget hszX holX honX ?_))
     clear hszX holX honX
     have hX9 := HXX.out
     clear HXX
     subst hX9
     have hb2 := HX4.out.row (cs' := (nvOf ntZ).cells)
     refine bodyPost_ret (v := (nvOf ntZ).val) (results_cell_row (P := Tryz.prog) (fn := Tryz.f87) rfl _ _ w.heap.size 54 ((nvOf ntZ).cells.toArray) (0, 0) _ rfl hb2.bget Tryz.underlying54 rfl (nv_size _)) rfl ?_
     rw [HQ.out, HRE.out]
     obtain ⟨k1, k2⟩ := node_nil _ (w.heap.size ≤ ·) (ntZ) ⟨rfl, rfl, rfl, rfl⟩
     exact ⟨⟨_, rfl, rfl, k1, k2⟩, (HA.out.brow HX4.out _).stg⟩

   ·have h3 := hk
    clear hk
    by_cases hk : k = 1
    ·have hbg : begP x = false := by
      rcases hh : begP x with _ | _
      ·rfl
      ·exact absurd ⟨hk, hh⟩ hB
     have h1 := hk
     rw [hbg] at HBg
     have hk3 : ((k : Int) == 3) = false := by simpa using (show ¬ (k : Int) = 3 by omega)
     have hk1 : ((k : Int) == 1) = true := by simpa using (show (k : Int) = 1 by omega)
     have HC := hid (show Calls Tryz.prog 86 #[.pointer (some ⟨g, 0, none⟩), .int .i64 4, .string ⟨#[123]⟩] _ (fun e w' => e = .returned (.bool (tookP 4 [123] s).1) ∧ StG _ _ g L (tookP 4 [123] s).2 w') from took_g HA.out.rd 4 [123])
     by_cases hC : isP 4 [123] s = true
     ·have HRE := hid (show nodeP K s = recordP K (passP s) from by
       unfold nodeP
       rw [hnx0]
       simp only
       rw [if_neg hA, if_neg hB, if_pos hC])
      have HTk := hid (show tookP 4 [123] s = (true, passP s) from by unfold tookP; rw [if_pos hC])
      rw [HTk.out] at HC
      simp only at HC
      have HLs := hid (pass_less (HEd.out.two (show (nxt s).1 ≠ 5 by rw [of_decide_eq_true (show decide (nxt s = (4, [123])) = true from hC)]; decide)))
      clear hC HTk hA hB hnx0 hS h1 hk hbg h3
      have HSp := hid (suf_pass HEd.out.pos)
      have HE1 := hid (HEd.out.suf HSp.out)
      have HN1 := hid (show (passP s).ts.length ≤ M from by have h7 := HLs.out; have h8 := HNl.out; omega)
      obtain ⟨s1, hs1⟩ : ∃ u, u = passP s := ⟨_, rfl⟩
      rw [← hs1] at HC HE1 HN1 HRE
      clear hs1 HSp
      obtain ⟨v, hv⟩ : ∃ v, v = recordP K s1 := ⟨_, rfl⟩
      rw [← hv] at HRE
      go_upto_region 9 with (first
       | (go_at_call 103; (with_reducible refine (HBg.out _).mono ?_); rintro e w2 ⟨rfl, rfl⟩)
       | (go_at_call 86; (with_reducible refine HC.out.mono ?_); rintro e wk ⟨rfl, hk⟩; obtain ⟨Ok, ha, hc, hn⟩ := At.call2 HA.out hk; replace HA := hid ha; replace HX4 := hid (HX4.out.call2 hc hn); replace HX5 := hid (HX5.out.call2 hc hn); clear hk ha hc hn; clear HC))
      have HC := hid (record_any HK.out HS.out hd HA.out.rd HE1.out HN1.out)
      rw [← hv] at HC
      clear hv
      go_wp2_with (first
       | (go_at_call 105; (with_reducible refine HC.out.mono ?_); rintro e wk ⟨⟨x1, he1, hxt, hxn, hxf⟩, hk⟩; rw [NV.val_eq] at he1; subst he1; have Hlt := HX4.out.blk.lt; have HXn := hid (And.intro Hlt (And.intro hxt (And.intro hxn hxf))); obtain ⟨Ok, ha, hc, hn⟩ := At.call2 HA.out hk; replace HA := hid ha; replace HX4 := hid (HX4.out.call2 hc hn); clear hk ha hc hn Hlt hxt hxn hxf; clear HC)
       | (with_reducible refine wpList_store_row rfl 54 _ _ rfl w.heap.size (x1).cells.toArray rfl rfl 54 _ HX4.out.bget (nv_size _) rfl (nv_one _) ?_))
      have hb2 := HX4.out.row (cs' := (x1).cells)
      refine bodyPost_ret (v := (x1).val) (results_cell_row (P := Tryz.prog) (fn := Tryz.f87) rfl _ _ w.heap.size 54 (x1.cells.toArray) (0, 0) _ rfl hb2.bget Tryz.underlying54 rfl (nv_size _)) rfl ?_
      rw [HQ.out, HRE.out]
      refine ⟨⟨x1, rfl, HXn.out.2.1, node_past HXn.out.2.2.1 HXn.out.1 _, HXn.out.2.2.2⟩, (HA.out.brow HX4.out _).stg⟩
     ·have HRE := hid (show nodeP K s = (ntZ, failP 5 s) from by
       unfold nodeP
       rw [hnx0]
       simp only
       rw [if_neg hA, if_neg hB, if_neg hC])
      have HTk := hid (show tookP 4 [123] s = (false, s) from by unfold tookP; rw [if_neg hC])
      rw [HTk.out] at HC
      simp only at HC
      clear hC HTk hA hB hnx0 hS h1 hk hbg h3
      go_upto_region 10 with (first
       | (go_at_call 103; (with_reducible refine (HBg.out _).mono ?_); rintro e w2 ⟨rfl, rfl⟩)
       | (go_at_call 86; (with_reducible refine HC.out.mono ?_); rintro e wk ⟨rfl, hk⟩; obtain ⟨Ok, ha, hc, hn⟩ := At.call2 HA.out hk; replace HA := hid ha; replace HX4 := hid (HX4.out.call2 hc hn); replace HX5 := hid (HX5.out.call2 hc hn); clear hk ha hc hn; clear HC))
      have HC := hid (show Calls Tryz.prog 85 #[.pointer (some ⟨g, 0, none⟩), .int .i64 5] _ (fun e w' => e = .returned (.tuple #[]) ∧ StG _ _ g L (failP 5 s) w') from fail_g HA.out.rd 5)
      obtain ⟨X, hX⟩ : ∃ X, X = (nvOf ntZ).cells.toArray := ⟨_, rfl⟩
      have HXX := hid hX
      have hszX : (Tryz.prog.info? 54).map (·.size) = some X.size := by rw [hX]; exact nv_size _
      have holX : nvZ.cells.toArray.size = X.size := by rw [hX]; rfl
      have honX : X.all (·.oneCell') = true := by rw [hX]; exact nv_one _
      clear hX
      go_wp2_with (first
       | (go_at_call 85; (with_reducible refine HC.out.mono ?_); rintro e wk ⟨rfl, hk⟩; obtain ⟨Ok, ha, hc, hn⟩ := At.call2 HA.out hk; replace HA := hid ha; replace HX4 := hid (HX4.out.call2 hc hn); replace HX5 := hid (HX5.out.call2 hc hn); clear hk ha hc hn; clear HC)
       | (refine wpList_bld rfl 54 _ rfl X (by rw [HXX.out]; kernel_rfl) ?_)
       | (with_reducible refine wpList_store_row rfl 54 _ _ rfl w.heap.size X rfl rfl 54 _ HX4.out.bget hszX holX honX ?_))
      clear hszX holX honX
      have hX9 := HXX.out
      clear HXX
      subst hX9
      have hb2 := HX4.out.row (cs' := (nvOf ntZ).cells)
      refine bodyPost_ret (v := (nvOf ntZ).val) (results_cell_row (P := Tryz.prog) (fn := Tryz.f87) rfl _ _ w.heap.size 54 ((nvOf ntZ).cells.toArray) (0, 0) _ rfl hb2.bget Tryz.underlying54 rfl (nv_size _)) rfl ?_
      rw [HQ.out, HRE.out]
      obtain ⟨k1, k2⟩ := node_nil _ (w.heap.size ≤ ·) (ntZ) ⟨rfl, rfl, rfl, rfl⟩
      exact ⟨⟨_, rfl, rfl, k1, k2⟩, (HA.out.brow HX4.out _).stg⟩

    ·skip
     have hk3 : ((k : Int) == 3) = false := by simpa using (show ¬ (k : Int) = 3 by omega)
     have hk1 : ((k : Int) == 1) = false := by simpa using (show ¬ (k : Int) = 1 by omega)
     have HC := hid (show Calls Tryz.prog 86 #[.pointer (some ⟨g, 0, none⟩), .int .i64 4, .string ⟨#[123]⟩] _ (fun e w' => e = .returned (.bool (tookP 4 [123] s).1) ∧ StG _ _ g L (tookP 4 [123] s).2 w') from took_g HA.out.rd 4 [123])
     by_cases hC : isP 4 [123] s = true
     ·have HRE := hid (show nodeP K s = recordP K (passP s) from by
       unfold nodeP
       rw [hnx0]
       simp only
       rw [if_neg hA, if_neg hB, if_pos hC])
      have HTk := hid (show tookP 4 [123] s = (true, passP s) from by unfold tookP; rw [if_pos hC])
      rw [HTk.out] at HC
      simp only at HC
      have HLs := hid (pass_less (HEd.out.two (show (nxt s).1 ≠ 5 by rw [of_decide_eq_true (show decide (nxt s = (4, [123])) = true from hC)]; decide)))
      clear hC HTk hA hB hnx0 hS hk h3
      have HSp := hid (suf_pass HEd.out.pos)
      have HE1 := hid (HEd.out.suf HSp.out)
      have HN1 := hid (show (passP s).ts.length ≤ M from by have h7 := HLs.out; have h8 := HNl.out; omega)
      obtain ⟨s1, hs1⟩ : ∃ u, u = passP s := ⟨_, rfl⟩
      rw [← hs1] at HC HE1 HN1 HRE
      clear hs1 HSp
      obtain ⟨v, hv⟩ : ∃ v, v = recordP K s1 := ⟨_, rfl⟩
      rw [← hv] at HRE
      go_upto_region 9 with (first
       | (go_at_call 103; (with_reducible refine (HBg.out _).mono ?_); rintro e w2 ⟨rfl, rfl⟩)
       | (go_at_call 86; (with_reducible refine HC.out.mono ?_); rintro e wk ⟨rfl, hk⟩; obtain ⟨Ok, ha, hc, hn⟩ := At.call2 HA.out hk; replace HA := hid ha; replace HX4 := hid (HX4.out.call2 hc hn); replace HX5 := hid (HX5.out.call2 hc hn); clear hk ha hc hn; clear HC))
      have HC := hid (record_any HK.out HS.out hd HA.out.rd HE1.out HN1.out)
      rw [← hv] at HC
      clear hv
      go_wp2_with (first
       | (go_at_call 105; (with_reducible refine HC.out.mono ?_); rintro e wk ⟨⟨x1, he1, hxt, hxn, hxf⟩, hk⟩; rw [NV.val_eq] at he1; subst he1; have Hlt := HX4.out.blk.lt; have HXn := hid (And.intro Hlt (And.intro hxt (And.intro hxn hxf))); obtain ⟨Ok, ha, hc, hn⟩ := At.call2 HA.out hk; replace HA := hid ha; replace HX4 := hid (HX4.out.call2 hc hn); clear hk ha hc hn Hlt hxt hxn hxf; clear HC)
       | (with_reducible refine wpList_store_row rfl 54 _ _ rfl w.heap.size (x1).cells.toArray rfl rfl 54 _ HX4.out.bget (nv_size _) rfl (nv_one _) ?_))
      have hb2 := HX4.out.row (cs' := (x1).cells)
      refine bodyPost_ret (v := (x1).val) (results_cell_row (P := Tryz.prog) (fn := Tryz.f87) rfl _ _ w.heap.size 54 (x1.cells.toArray) (0, 0) _ rfl hb2.bget Tryz.underlying54 rfl (nv_size _)) rfl ?_
      rw [HQ.out, HRE.out]
      refine ⟨⟨x1, rfl, HXn.out.2.1, node_past HXn.out.2.2.1 HXn.out.1 _, HXn.out.2.2.2⟩, (HA.out.brow HX4.out _).stg⟩
     ·have HRE := hid (show nodeP K s = (ntZ, failP 5 s) from by
       unfold nodeP
       rw [hnx0]
       simp only
       rw [if_neg hA, if_neg hB, if_neg hC])
      have HTk := hid (show tookP 4 [123] s = (false, s) from by unfold tookP; rw [if_neg hC])
      rw [HTk.out] at HC
      simp only at HC
      clear hC HTk hA hB hnx0 hS hk h3
      go_upto_region 10 with (first
       | (go_at_call 103; (with_reducible refine (HBg.out _).mono ?_); rintro e w2 ⟨rfl, rfl⟩)
       | (go_at_call 86; (with_reducible refine HC.out.mono ?_); rintro e wk ⟨rfl, hk⟩; obtain ⟨Ok, ha, hc, hn⟩ := At.call2 HA.out hk; replace HA := hid ha; replace HX4 := hid (HX4.out.call2 hc hn); replace HX5 := hid (HX5.out.call2 hc hn); clear hk ha hc hn; clear HC))
      have HC := hid (show Calls Tryz.prog 85 #[.pointer (some ⟨g, 0, none⟩), .int .i64 5] _ (fun e w' => e = .returned (.tuple #[]) ∧ StG _ _ g L (failP 5 s) w') from fail_g HA.out.rd 5)
      obtain ⟨X, hX⟩ : ∃ X, X = (nvOf ntZ).cells.toArray := ⟨_, rfl⟩
      have HXX := hid hX
      have hszX : (Tryz.prog.info? 54).map (·.size) = some X.size := by rw [hX]; exact nv_size _
      have holX : nvZ.cells.toArray.size = X.size := by rw [hX]; rfl
      have honX : X.all (·.oneCell') = true := by rw [hX]; exact nv_one _
      clear hX
      go_wp2_with (first
       | (go_at_call 85; (with_reducible refine HC.out.mono ?_); rintro e wk ⟨rfl, hk⟩; obtain ⟨Ok, ha, hc, hn⟩ := At.call2 HA.out hk; replace HA := hid ha; replace HX4 := hid (HX4.out.call2 hc hn); replace HX5 := hid (HX5.out.call2 hc hn); clear hk ha hc hn; clear HC)
       | (refine wpList_bld rfl 54 _ rfl X (by rw [HXX.out]; kernel_rfl) ?_)
       | (with_reducible refine wpList_store_row rfl 54 _ _ rfl w.heap.size X rfl rfl 54 _ HX4.out.bget hszX holX honX ?_))
      clear hszX holX honX
      have hX9 := HXX.out
      clear HXX
      subst hX9
      have hb2 := HX4.out.row (cs' := (nvOf ntZ).cells)
      refine bodyPost_ret (v := (nvOf ntZ).val) (results_cell_row (P := Tryz.prog) (fn := Tryz.f87) rfl _ _ w.heap.size 54 ((nvOf ntZ).cells.toArray) (0, 0) _ rfl hb2.bget Tryz.underlying54 rfl (nv_size _)) rfl ?_
      rw [HQ.out, HRE.out]
      obtain ⟨k1, k2⟩ := node_nil _ (w.heap.size ≤ ·) (ntZ) ⟨rfl, rfl, rfl, rfl⟩
      exact ⟨⟨_, rfl, rfl, k1, k2⟩, (HA.out.brow HX4.out _).stg⟩

end Go.Proofs.YtfcccfplmdjndaaGreat
