/- parse: a type that begins with a name. -/
import Derived.Test.YtfcccfplmdjndaaGreatPaL
namespace Go.Proofs.YtfcccfplmdjndaaGreat
set_option linter.unusedSimpArgs false
set_option linter.unusedVariables false
open Go.RowKit

variable {w w' w0 : World} {O O0 O' : Nat → Prop} {g : Nat} {L : List Tk} {s s' : RS}
theorem node_past {x : NV} {b1 b0 : Nat} (h : NodeOk w (b1 ≤ ·) x) (hb : b0 < b1) (r : Array Value) : NodeOk (w.setRow b0 r) (b0 ≤ ·) x :=
 h.mono (fun b h1 _ => setRow_other w b0 b r (fun e => by omega)) (by rw [setRow_size]; exact Nat.le_refl _) (fun b h1 _ => by omega)
theorem ranged_lists (n : NT) (s : RS) (h : n.ks = [] ∧ n.ls = [] ∧ n.fs = [] ∧ n.cs = []) : (rangedP n s).1.ks = [] ∧ (rangedP n s).1.ls = [] ∧ (rangedP n s).1.fs = [] ∧ (rangedP n s).1.cs = [] := by
 unfold rangedP
 split <;> exact h
set_option maxRecDepth 100000 in
set_option maxHeartbeats 8000000 in
theorem named_any {M deep : Nat} {K : RS → Int × RS} (hK : KOk M ((deep : Int) + 1) K L) (hS : ∀ s : RS, 0 < s.ts.length → Suf s (K s).2) (hd : deep ≤ 10000000) (x : List UInt8) (hx : x.length ≤ 1000000) (h : RdX w O g L s) (he : EndS s) (hN : s.ts.length ≤ M) : Calls Tryz.prog 104 #[.pointer (some ⟨g, 0, none⟩), .string ⟨x.toArray⟩, .int .i64 (deep : Int)] w fun e w' => NRes w.heap.size (namedP K x s).1 e w' ∧ StG w O g L (namedP K x s).2 w' := by
 have HA := hid (At.start h)
 obtain ⟨P, hP⟩ : ∃ P, P = namedP K x s := ⟨_, rfl⟩
 have HQ := hid hP
 rw [← hP]
 have HK := hid hK
 have HS0 := hid hS
 have HS := HS0
 have HEd := hid he
 have HNl := hid hN
 clear hP h hK he hN HS0 hS
 obtain ⟨ha, h6⟩ := HA.out.one 54 nvZ.cells #[.int .i64 0, .int .i64 0, .bool false, .bool false, .bool false, .int .u64 0, .int .u64 0, .string ⟨#[]⟩, .string ⟨#[]⟩, .int .u64 0, .int .u64 0, .slice none 0 0, .slice none 0 0, .slice none 0 0, .string ⟨#[]⟩, .int .u64 0, .slice none 0 0, .int .i64 0] rfl
 replace HA := hid ha
 have HX6 := hid h6
 clear ha h6
 obtain ⟨S, hS⟩ : ∃ S, S = (⟨x.toArray⟩ : ByteArray) := ⟨_, rfl⟩
 have HFx := hid (fun w => fixed_any x hx w)
 rw [← hS] at HFx
 rw [← hS]
 clear hx
 rcases hfx : fixP x with _ | ⟨wd, li⟩
 rotate_left
 ·rw [show fixV x = .tuple #[.int .i64 (wd : Int), .bool li, .bool true] from by unfold fixV; rw [hfx]] at HFx
  have HC := hid (ranged_any { ntZ with k := 1, wd := (wd : Int), li := li } HA.out.rd)
  obtain ⟨v, hv⟩ : ∃ v, v = rangedP { ntZ with k := 1, wd := (wd : Int), li := li } s := ⟨_, rfl⟩
  rw [← hv] at HC
  have HRE := hid (show namedP K x s = v from by unfold namedP; rw [hfx]; exact hv.symm)
  have HV := hid hv
  obtain ⟨X, hX⟩ : ∃ X, X = (nvOf { ntZ with k := 1, wd := (wd : Int), li := li }).cells.toArray := ⟨_, rfl⟩
  have HXX := hid hX
  rw [NV.val_eq (nvOf { ntZ with k := 1, wd := (wd : Int), li := li }), ← hX, NV.val_eq (nvOf v.1)] at HC
  clear hX hv hS hfx
  go_enter Tryz.func104, Tryz.ntmps104
  go_upto_region 1 with fail
  generalize w.alloc (.cells #[.int .i64 0, .int .i64 0, .bool false, .bool false, .bool false, .int .u64 0, .int .u64 0, .string ⟨#[]⟩, .string ⟨#[]⟩, .int .u64 0, .int .u64 0, .slice none 0 0, .slice none 0 0, .slice none 0 0, .string ⟨#[]⟩, .int .u64 0, .slice none 0 0, .int .i64 0] 54) = w1 at *
  go_wp2_with (first
   | (go_at_call 19; (with_reducible refine (HFx.out _).mono ?_); rintro e w2 ⟨rfl, rfl⟩)
   | (refine wpList_bld rfl 54 _ rfl X (by rw [HXX.out]; kernel_rfl) ?_)
   | (go_at_call 111; (with_reducible refine HC.out.mono ?_); rintro e wk ⟨rfl, hk⟩; obtain ⟨Ok, ha, hc, hn⟩ := At.call2 HA.out hk; replace HA := hid ha; replace HX6 := hid (HX6.out.call2 hc hn); clear hk ha hc hn; clear HC)
   | (with_reducible refine wpList_store_row rfl 54 _ _ rfl w.heap.size (nvOf v.1).cells.toArray rfl rfl 54 _ HX6.out.bget (nv_size _) rfl (nv_one _) ?_))
  have hb2 := HX6.out.row (cs' := (nvOf v.1).cells)
  refine bodyPost_ret (v := (nvOf v.1).val) (results_cell_row (P := Tryz.prog) (fn := Tryz.f104) rfl _ _ w.heap.size 54 ((nvOf v.1).cells.toArray) (0, 0) _ rfl (by first | exact hb2.bget | (rw [HXX.out]; exact hb2.bget)) Tryz.underlying54 rfl (by first | exact nv_size _ | (rw [HXX.out]; exact nv_size _))) (by first | rfl | (rw [HXX.out]; exact NV.val_eq _)) ?_
  rw [HQ.out, HRE.out]
  obtain ⟨k1, k2⟩ := node_nil _ (w.heap.size ≤ ·) v.1 (by rw [HV.out]; exact ranged_lists ({ ntZ with k := 1, wd := (wd : Int), li := li }) s ⟨rfl, rfl, rfl, rfl⟩)
  exact ⟨⟨_, rfl, rfl, k1, k2⟩, (HA.out.brow HX6.out _).stg⟩
 ·rw [show fixV x = .tuple #[.int .i64 0, .bool false, .bool false] from by unfold fixV; rw [hfx]] at HFx
  by_cases h0 : x = s_varint
  ·skip
   have e0 : (S.toList == ({ data := #[118, 97, 114, 105, 110, 116] } : ByteArray).toList) = true := by rw [hS]; exact str_eqC h0
   have e1 : (S.toList == ({ data := #[122, 105, 103, 122, 97, 103] } : ByteArray).toList) = false := by rw [hS]; exact str_neC (by rw [h0]; decide)
   have HRE0 := hid (show namedP K x s = rangedP { ntZ with k := 2, zg := false, le := (tookP 1 s_lenient s).1 } (tookP 1 s_lenient s).2 from by
    unfold namedP
    rw [hfx]
    simp only
    rw [if_pos (Or.inl h0)]
    rw [show decide (x = s_zigzag) = false from by rw [h0]; decide])
   clear hS h0
   go_enter Tryz.func104, Tryz.ntmps104
   generalize (ByteArray.mk #[118, 97, 114, 105, 110, 116]) = K0 at *; generalize (ByteArray.mk #[122, 105, 103, 122, 97, 103]) = K1 at *; generalize (ByteArray.mk #[98, 121, 116, 101, 115]) = K2 at *; generalize (ByteArray.mk #[116, 105, 109, 101, 115]) = K3 at *; generalize (ByteArray.mk #[119, 105, 116, 104, 105, 110]) = K4 at *; generalize (ByteArray.mk #[109, 97, 110, 121]) = K5 at *; generalize (ByteArray.mk #[115, 119, 105, 116, 99, 104]) = K6 at *; generalize (ByteArray.mk #[111, 110, 101, 111, 102]) = K7 at *; generalize (ByteArray.mk #[99, 104, 97, 105, 110]) = K8 at *; generalize (ByteArray.mk #[101, 109, 112, 116, 121]) = K9 at *
   go_upto_region 1 with fail
   generalize w.alloc (.cells #[.int .i64 0, .int .i64 0, .bool false, .bool false, .bool false, .int .u64 0, .int .u64 0, .string ⟨#[]⟩, .string ⟨#[]⟩, .int .u64 0, .int .u64 0, .slice none 0 0, .slice none 0 0, .slice none 0 0, .string ⟨#[]⟩, .int .u64 0, .slice none 0 0, .int .i64 0] 54) = w1 at *
   have HC := hid (show Calls Tryz.prog 86 #[.pointer (some ⟨g, 0, none⟩), .int .i64 1, .string ⟨#[108, 101, 110, 105, 101, 110, 116]⟩] _ (fun e w' => e = .returned (.bool (tookP 1 s_lenient s).1) ∧ StG _ _ g L (tookP 1 s_lenient s).2 w') from took_g HA.out.rd 1 s_lenient)
   obtain ⟨u1, hu1⟩ : ∃ u, u = tookP 1 s_lenient s := ⟨_, rfl⟩
   rw [← hu1] at HC HRE0
   clear hu1
   obtain ⟨bl, s1⟩ := u1
   simp only at HC HRE0
   go_upto_region 8 with (first
    | (go_at_call 19; (with_reducible refine (HFx.out _).mono ?_); rintro e w2 ⟨rfl, rfl⟩)
    | (go_at_call 86; (with_reducible refine HC.out.mono ?_); rintro e wk ⟨rfl, hk⟩; obtain ⟨Ok, ha, hc, hn⟩ := At.call2 HA.out hk; replace HA := hid ha; replace HX6 := hid (HX6.out.call2 hc hn); clear hk ha hc hn; clear HC))
   obtain ⟨v, hv⟩ : ∃ v, v = rangedP { ntZ with k := 2, zg := false, le := bl } s1 := ⟨_, rfl⟩
   have HC := hid (ranged_any { ntZ with k := 2, zg := false, le := bl } HA.out.rd)
   rw [← hv] at HC HRE0
   have HV := hid hv
   have HRE := HRE0
   clear hv HRE0
   obtain ⟨X, hX⟩ : ∃ X, X = (nvOf { ntZ with k := 2, zg := false, le := bl }).cells.toArray := ⟨_, rfl⟩
   have HXX := hid hX
   rw [NV.val_eq (nvOf { ntZ with k := 2, zg := false, le := bl }), ← hX, NV.val_eq (nvOf v.1)] at HC
   clear hX
   go_wp2_with (first
    | (refine wpList_bld rfl 54 _ rfl X (by rw [HXX.out]; kernel_rfl) ?_)
    | (go_at_call 111; (with_reducible refine HC.out.mono ?_); rintro e wk ⟨rfl, hk⟩; obtain ⟨Ok, ha, hc, hn⟩ := At.call2 HA.out hk; replace HA := hid ha; replace HX6 := hid (HX6.out.call2 hc hn); clear hk ha hc hn; clear HC)
    | (with_reducible refine wpList_store_row rfl 54 _ _ rfl w.heap.size (nvOf v.1).cells.toArray rfl rfl 54 _ HX6.out.bget (nv_size _) rfl (nv_one _) ?_))
   have hb2 := HX6.out.row (cs' := (nvOf v.1).cells)
   refine bodyPost_ret (v := (nvOf v.1).val) (results_cell_row (P := Tryz.prog) (fn := Tryz.f104) rfl _ _ w.heap.size 54 ((nvOf v.1).cells.toArray) (0, 0) _ rfl (by first | exact hb2.bget | (rw [HXX.out]; exact hb2.bget)) Tryz.underlying54 rfl (by first | exact nv_size _ | (rw [HXX.out]; exact nv_size _))) (by first | rfl | (rw [HXX.out]; exact NV.val_eq _)) ?_
   rw [HQ.out, HRE.out]
   obtain ⟨k1, k2⟩ := node_nil _ (w.heap.size ≤ ·) v.1 (by rw [HV.out]; exact ranged_lists ({ ntZ with k := 2, zg := false, le := bl }) s1 ⟨rfl, rfl, rfl, rfl⟩)
   exact ⟨⟨_, rfl, rfl, k1, k2⟩, (HA.out.brow HX6.out _).stg⟩

  ·skip
   by_cases h1 : x = s_zigzag
   ·skip
    have e0 : (S.toList == ({ data := #[118, 97, 114, 105, 110, 116] } : ByteArray).toList) = false := by rw [hS]; exact str_neC h0
    have e1 : (S.toList == ({ data := #[122, 105, 103, 122, 97, 103] } : ByteArray).toList) = true := by rw [hS]; exact str_eqC h1
    have HRE0 := hid (show namedP K x s = rangedP { ntZ with k := 2, zg := true, le := (tookP 1 s_lenient s).1 } (tookP 1 s_lenient s).2 from by
     unfold namedP
     rw [hfx]
     simp only
     rw [if_pos (Or.inr h1)]
     rw [show decide (x = s_zigzag) = true from by rw [h1]; decide])
    clear hS h0 h1
    go_enter Tryz.func104, Tryz.ntmps104
    generalize (ByteArray.mk #[118, 97, 114, 105, 110, 116]) = K0 at *; generalize (ByteArray.mk #[122, 105, 103, 122, 97, 103]) = K1 at *; generalize (ByteArray.mk #[98, 121, 116, 101, 115]) = K2 at *; generalize (ByteArray.mk #[116, 105, 109, 101, 115]) = K3 at *; generalize (ByteArray.mk #[119, 105, 116, 104, 105, 110]) = K4 at *; generalize (ByteArray.mk #[109, 97, 110, 121]) = K5 at *; generalize (ByteArray.mk #[115, 119, 105, 116, 99, 104]) = K6 at *; generalize (ByteArray.mk #[111, 110, 101, 111, 102]) = K7 at *; generalize (ByteArray.mk #[99, 104, 97, 105, 110]) = K8 at *; generalize (ByteArray.mk #[101, 109, 112, 116, 121]) = K9 at *
    go_upto_region 1 with fail
    generalize w.alloc (.cells #[.int .i64 0, .int .i64 0, .bool false, .bool false, .bool false, .int .u64 0, .int .u64 0, .string ⟨#[]⟩, .string ⟨#[]⟩, .int .u64 0, .int .u64 0, .slice none 0 0, .slice none 0 0, .slice none 0 0, .string ⟨#[]⟩, .int .u64 0, .slice none 0 0, .int .i64 0] 54) = w1 at *
    have HC := hid (show Calls Tryz.prog 86 #[.pointer (some ⟨g, 0, none⟩), .int .i64 1, .string ⟨#[108, 101, 110, 105, 101, 110, 116]⟩] _ (fun e w' => e = .returned (.bool (tookP 1 s_lenient s).1) ∧ StG _ _ g L (tookP 1 s_lenient s).2 w') from took_g HA.out.rd 1 s_lenient)
    obtain ⟨u1, hu1⟩ : ∃ u, u = tookP 1 s_lenient s := ⟨_, rfl⟩
    rw [← hu1] at HC HRE0
    clear hu1
    obtain ⟨bl, s1⟩ := u1
    simp only at HC HRE0
    go_upto_region 8 with (first
     | (go_at_call 19; (with_reducible refine (HFx.out _).mono ?_); rintro e w2 ⟨rfl, rfl⟩)
     | (go_at_call 86; (with_reducible refine HC.out.mono ?_); rintro e wk ⟨rfl, hk⟩; obtain ⟨Ok, ha, hc, hn⟩ := At.call2 HA.out hk; replace HA := hid ha; replace HX6 := hid (HX6.out.call2 hc hn); clear hk ha hc hn; clear HC))
    obtain ⟨v, hv⟩ : ∃ v, v = rangedP { ntZ with k := 2, zg := true, le := bl } s1 := ⟨_, rfl⟩
    have HC := hid (ranged_any { ntZ with k := 2, zg := true, le := bl } HA.out.rd)
    rw [← hv] at HC HRE0
    have HV := hid hv
    have HRE := HRE0
    clear hv HRE0
    obtain ⟨X, hX⟩ : ∃ X, X = (nvOf { ntZ with k := 2, zg := true, le := bl }).cells.toArray := ⟨_, rfl⟩
    have HXX := hid hX
    rw [NV.val_eq (nvOf { ntZ with k := 2, zg := true, le := bl }), ← hX, NV.val_eq (nvOf v.1)] at HC
    clear hX
    go_wp2_with (first
     | (refine wpList_bld rfl 54 _ rfl X (by rw [HXX.out]; kernel_rfl) ?_)
     | (go_at_call 111; (with_reducible refine HC.out.mono ?_); rintro e wk ⟨rfl, hk⟩; obtain ⟨Ok, ha, hc, hn⟩ := At.call2 HA.out hk; replace HA := hid ha; replace HX6 := hid (HX6.out.call2 hc hn); clear hk ha hc hn; clear HC)
     | (with_reducible refine wpList_store_row rfl 54 _ _ rfl w.heap.size (nvOf v.1).cells.toArray rfl rfl 54 _ HX6.out.bget (nv_size _) rfl (nv_one _) ?_))
    have hb2 := HX6.out.row (cs' := (nvOf v.1).cells)
    refine bodyPost_ret (v := (nvOf v.1).val) (results_cell_row (P := Tryz.prog) (fn := Tryz.f104) rfl _ _ w.heap.size 54 ((nvOf v.1).cells.toArray) (0, 0) _ rfl (by first | exact hb2.bget | (rw [HXX.out]; exact hb2.bget)) Tryz.underlying54 rfl (by first | exact nv_size _ | (rw [HXX.out]; exact nv_size _))) (by first | rfl | (rw [HXX.out]; exact NV.val_eq _)) ?_
    rw [HQ.out, HRE.out]
    obtain ⟨k1, k2⟩ := node_nil _ (w.heap.size ≤ ·) v.1 (by rw [HV.out]; exact ranged_lists ({ ntZ with k := 2, zg := true, le := bl }) s1 ⟨rfl, rfl, rfl, rfl⟩)
    exact ⟨⟨_, rfl, rfl, k1, k2⟩, (HA.out.brow HX6.out _).stg⟩

   ·skip
    by_cases h2 : x = s_bytes
    ·skip
     have e0 : (S.toList == ({ data := #[118, 97, 114, 105, 110, 116] } : ByteArray).toList) = false := by rw [hS]; exact str_neC h0
     have e1 : (S.toList == ({ data := #[122, 105, 103, 122, 97, 103] } : ByteArray).toList) = false := by rw [hS]; exact str_neC h1
     have e2 : (S.toList == ({ data := #[98, 121, 116, 101, 115] } : ByteArray).toList) = true := by rw [hS]; exact str_eqC h2
     have HRE0 := hid (show namedP K x s = (withE { ntZ with k := 4 } (oftenP s).1, (oftenP s).2) from by
      unfold namedP
      rw [hfx]
      simp only
      rw [if_neg (by rintro (h | h); exact h0 h; exact h1 h), if_pos h2])
     clear hS h0 h1 h2
     go_enter Tryz.func104, Tryz.ntmps104
     generalize (ByteArray.mk #[118, 97, 114, 105, 110, 116]) = K0 at *; generalize (ByteArray.mk #[122, 105, 103, 122, 97, 103]) = K1 at *; generalize (ByteArray.mk #[98, 121, 116, 101, 115]) = K2 at *; generalize (ByteArray.mk #[116, 105, 109, 101, 115]) = K3 at *; generalize (ByteArray.mk #[119, 105, 116, 104, 105, 110]) = K4 at *; generalize (ByteArray.mk #[109, 97, 110, 121]) = K5 at *; generalize (ByteArray.mk #[115, 119, 105, 116, 99, 104]) = K6 at *; generalize (ByteArray.mk #[111, 110, 101, 111, 102]) = K7 at *; generalize (ByteArray.mk #[99, 104, 97, 105, 110]) = K8 at *; generalize (ByteArray.mk #[101, 109, 112, 116, 121]) = K9 at *
     go_upto_region 1 with fail
     generalize w.alloc (.cells #[.int .i64 0, .int .i64 0, .bool false, .bool false, .bool false, .int .u64 0, .int .u64 0, .string ⟨#[]⟩, .string ⟨#[]⟩, .int .u64 0, .int .u64 0, .slice none 0 0, .slice none 0 0, .slice none 0 0, .string ⟨#[]⟩, .int .u64 0, .slice none 0 0, .int .i64 0] 54) = w1 at *
     have HC := hid (often_any HA.out.rd)
     obtain ⟨u1, hu1⟩ : ∃ u, u = oftenP s := ⟨_, rfl⟩
     rw [← hu1] at HC HRE0
     clear hu1
     obtain ⟨ex, s1⟩ := u1
     simp only at HC HRE0
     have HRE := HRE0
     clear HRE0
     obtain ⟨X, hX⟩ : ∃ X, X = (nvOf (withE { ntZ with k := 4 } ex)).cells.toArray := ⟨_, rfl⟩
     have HXX := hid hX
     have hszX : (Tryz.prog.info? 54).map (·.size) = some X.size := by rw [hX]; exact nv_size _
     have holX : nvZ.cells.toArray.size = X.size := by rw [hX]; rfl
     have honX : X.all (·.oneCell') = true := by rw [hX]; exact nv_one _
     clear hX
     go_wp2_with (first
      | (go_at_call 19; (with_reducible refine (HFx.out _).mono ?_); rintro e w2 ⟨rfl, rfl⟩)
      | (go_at_call 112; (with_reducible refine HC.out.mono ?_); rintro e wk ⟨rfl, hk⟩; obtain ⟨Ok, ha, hc, hn⟩ := At.call2 HA.out hk; replace HA := hid ha; replace HX6 := hid (HX6.out.call2 hc hn); clear hk ha hc hn; clear HC)
      | (refine wpList_bld rfl 54 _ rfl X (by rw [HXX.out]; kernel_rfl) ?_)
      | (with_reducible refine wpList_store_row rfl 54 _ _ rfl w.heap.size X rfl rfl 54 _ HX6.out.bget hszX holX honX ?_))
     clear hszX holX honX
     have hX9 := HXX.out
     clear HXX
     subst hX9
     have hb2 := HX6.out.row (cs' := (nvOf (withE { ntZ with k := 4 } ex)).cells)
     refine bodyPost_ret (v := (nvOf (withE { ntZ with k := 4 } ex)).val) (results_cell_row (P := Tryz.prog) (fn := Tryz.f104) rfl _ _ w.heap.size 54 ((nvOf (withE { ntZ with k := 4 } ex)).cells.toArray) (0, 0) _ rfl (by first | exact hb2.bget | (rw [HXX.out]; exact hb2.bget)) Tryz.underlying54 rfl (by first | exact nv_size _ | (rw [HXX.out]; exact nv_size _))) (by first | rfl | (rw [HXX.out]; exact NV.val_eq _)) ?_
     rw [HQ.out, HRE.out]
     obtain ⟨k1, k2⟩ := node_nil _ (w.heap.size ≤ ·) ((withE { ntZ with k := 4 } ex)) ⟨rfl, rfl, rfl, rfl⟩
     exact ⟨⟨_, rfl, rfl, k1, k2⟩, (HA.out.brow HX6.out _).stg⟩

    ·skip
     by_cases h3 : x = s_times
     ·skip
      have e0 : (S.toList == ({ data := #[118, 97, 114, 105, 110, 116] } : ByteArray).toList) = false := by rw [hS]; exact str_neC h0
      have e1 : (S.toList == ({ data := #[122, 105, 103, 122, 97, 103] } : ByteArray).toList) = false := by rw [hS]; exact str_neC h1
      have e2 : (S.toList == ({ data := #[98, 121, 116, 101, 115] } : ByteArray).toList) = false := by rw [hS]; exact str_neC h2
      have e3 : (S.toList == ({ data := #[116, 105, 109, 101, 115] } : ByteArray).toList) = true := by rw [hS]; exact str_eqC h3
      have HRE0 := hid (show namedP K x s = aroundP K (withE { ntZ with k := 6 } (oftenP s).1) (oftenP s).2 from by
       unfold namedP
       rw [hfx]
       simp only
       rw [if_neg (by rintro (h | h); exact h0 h; exact h1 h), if_neg h2, if_pos h3])
      clear hS h0 h1 h2 h3
      go_enter Tryz.func104, Tryz.ntmps104
      generalize (ByteArray.mk #[118, 97, 114, 105, 110, 116]) = K0 at *; generalize (ByteArray.mk #[122, 105, 103, 122, 97, 103]) = K1 at *; generalize (ByteArray.mk #[98, 121, 116, 101, 115]) = K2 at *; generalize (ByteArray.mk #[116, 105, 109, 101, 115]) = K3 at *; generalize (ByteArray.mk #[119, 105, 116, 104, 105, 110]) = K4 at *; generalize (ByteArray.mk #[109, 97, 110, 121]) = K5 at *; generalize (ByteArray.mk #[115, 119, 105, 116, 99, 104]) = K6 at *; generalize (ByteArray.mk #[111, 110, 101, 111, 102]) = K7 at *; generalize (ByteArray.mk #[99, 104, 97, 105, 110]) = K8 at *; generalize (ByteArray.mk #[101, 109, 112, 116, 121]) = K9 at *
      go_upto_region 1 with fail
      generalize w.alloc (.cells #[.int .i64 0, .int .i64 0, .bool false, .bool false, .bool false, .int .u64 0, .int .u64 0, .string ⟨#[]⟩, .string ⟨#[]⟩, .int .u64 0, .int .u64 0, .slice none 0 0, .slice none 0 0, .slice none 0 0, .string ⟨#[]⟩, .int .u64 0, .slice none 0 0, .int .i64 0] 54) = w1 at *
      have HC := hid (often_any HA.out.rd)
      obtain ⟨u1, hu1⟩ : ∃ u, u = oftenP s := ⟨_, rfl⟩
      have hsf := suf_often HEd.out.pos
      rw [← hu1] at HC HRE0 hsf
      clear hu1
      obtain ⟨ex, s1⟩ := u1
      simp only at HC HRE0 hsf
      have HE1 := hid (HEd.out.suf hsf)
      have HN1 := hid (Nat.le_trans hsf.le HNl.out)
      clear hsf
      obtain ⟨X, hX⟩ : ∃ X, X = (nvOf (withE { ntZ with k := 6 } ex)).cells.toArray := ⟨_, rfl⟩
      have HXX := hid hX
      go_upto_region 12 with (go_at_call 19; (with_reducible refine (HFx.out _).mono ?_); rintro e w2 ⟨rfl, rfl⟩)
      have HC1 := HC
      clear HC
      obtain ⟨v, hv⟩ : ∃ v, v = aroundP K (withE { ntZ with k := 6 } ex) s1 := ⟨_, rfl⟩
      rw [← hv] at HRE0
      have HRE := HRE0
      clear HRE0
      go_wp2_with (first
       | (go_at_call 112; (with_reducible refine HC1.out.mono ?_); rintro e wk ⟨rfl, hk⟩; obtain ⟨Ok, ha, hc, hn⟩ := At.call2 HA.out hk; replace HA := hid ha; replace HX6 := hid (HX6.out.call2 hc hn); clear hk ha hc hn; clear HC1; have HC := hid (around_any HK.out hd (withE { ntZ with k := 6 } ex) ⟨rfl, rfl, rfl⟩ HA.out.rd HE1.out HN1.out); rw [← hv, NV.val_eq (nvOf (withE { ntZ with k := 6 } ex)), ← hX] at HC; clear hv hX)
       | (refine wpList_bld rfl 54 _ rfl X (by rw [HXX.out]; kernel_rfl) ?_)
       | (go_at_call 113; (with_reducible refine HC.out.mono ?_); rintro e wk ⟨⟨x1, he1, hxt, hxn, hxf⟩, hk⟩; rw [NV.val_eq] at he1; subst he1; have Hlt := HX6.out.blk.lt; have HXn := hid (And.intro Hlt (And.intro hxt (And.intro hxn hxf))); obtain ⟨Ok, ha, hc, hn⟩ := At.call2 HA.out hk; replace HA := hid ha; replace HX6 := hid (HX6.out.call2 hc hn); clear hk ha hc hn Hlt hxt hxn hxf; clear HC)
       | (with_reducible refine wpList_store_row rfl 54 _ _ rfl w.heap.size (x1).cells.toArray rfl rfl 54 _ HX6.out.bget (nv_size _) rfl (nv_one _) ?_))
      have hb2 := HX6.out.row (cs' := (x1).cells)
      refine bodyPost_ret (v := (x1).val) (results_cell_row (P := Tryz.prog) (fn := Tryz.f104) rfl _ _ w.heap.size 54 (x1.cells.toArray) (0, 0) _ rfl (by first | exact hb2.bget | (rw [HXX.out]; exact hb2.bget)) Tryz.underlying54 rfl (by first | exact nv_size _ | (rw [HXX.out]; exact nv_size _))) (by first | rfl | (rw [HXX.out]; exact NV.val_eq _)) ?_
      rw [HQ.out, HRE.out]
      refine ⟨⟨x1, rfl, HXn.out.2.1, node_past HXn.out.2.2.1 HXn.out.1 _, HXn.out.2.2.2⟩, (HA.out.brow HX6.out _).stg⟩

     ·skip
      by_cases h4 : x = s_within
      ·skip
       have e0 : (S.toList == ({ data := #[118, 97, 114, 105, 110, 116] } : ByteArray).toList) = false := by rw [hS]; exact str_neC h0
       have e1 : (S.toList == ({ data := #[122, 105, 103, 122, 97, 103] } : ByteArray).toList) = false := by rw [hS]; exact str_neC h1
       have e2 : (S.toList == ({ data := #[98, 121, 116, 101, 115] } : ByteArray).toList) = false := by rw [hS]; exact str_neC h2
       have e3 : (S.toList == ({ data := #[116, 105, 109, 101, 115] } : ByteArray).toList) = false := by rw [hS]; exact str_neC h3
       have e4 : (S.toList == ({ data := #[119, 105, 116, 104, 105, 110] } : ByteArray).toList) = true := by rw [hS]; exact str_eqC h4
       have HRE0 := hid (show namedP K x s = aroundP K (withE { ntZ with k := 8 } (oftenP s).1) (oftenP s).2 from by
        unfold namedP
        rw [hfx]
        simp only
        rw [if_neg (by rintro (h | h); exact h0 h; exact h1 h), if_neg h2, if_neg h3, if_pos h4])
       clear hS h0 h1 h2 h3 h4
       go_enter Tryz.func104, Tryz.ntmps104
       generalize (ByteArray.mk #[118, 97, 114, 105, 110, 116]) = K0 at *; generalize (ByteArray.mk #[122, 105, 103, 122, 97, 103]) = K1 at *; generalize (ByteArray.mk #[98, 121, 116, 101, 115]) = K2 at *; generalize (ByteArray.mk #[116, 105, 109, 101, 115]) = K3 at *; generalize (ByteArray.mk #[119, 105, 116, 104, 105, 110]) = K4 at *; generalize (ByteArray.mk #[109, 97, 110, 121]) = K5 at *; generalize (ByteArray.mk #[115, 119, 105, 116, 99, 104]) = K6 at *; generalize (ByteArray.mk #[111, 110, 101, 111, 102]) = K7 at *; generalize (ByteArray.mk #[99, 104, 97, 105, 110]) = K8 at *; generalize (ByteArray.mk #[101, 109, 112, 116, 121]) = K9 at *
       go_upto_region 1 with fail
       generalize w.alloc (.cells #[.int .i64 0, .int .i64 0, .bool false, .bool false, .bool false, .int .u64 0, .int .u64 0, .string ⟨#[]⟩, .string ⟨#[]⟩, .int .u64 0, .int .u64 0, .slice none 0 0, .slice none 0 0, .slice none 0 0, .string ⟨#[]⟩, .int .u64 0, .slice none 0 0, .int .i64 0] 54) = w1 at *
       have HC := hid (often_any HA.out.rd)
       obtain ⟨u1, hu1⟩ : ∃ u, u = oftenP s := ⟨_, rfl⟩
       have hsf := suf_often HEd.out.pos
       rw [← hu1] at HC HRE0 hsf
       clear hu1
       obtain ⟨ex, s1⟩ := u1
       simp only at HC HRE0 hsf
       have HE1 := hid (HEd.out.suf hsf)
       have HN1 := hid (Nat.le_trans hsf.le HNl.out)
       clear hsf
       obtain ⟨X, hX⟩ : ∃ X, X = (nvOf (withE { ntZ with k := 8 } ex)).cells.toArray := ⟨_, rfl⟩
       have HXX := hid hX
       go_upto_region 14 with (go_at_call 19; (with_reducible refine (HFx.out _).mono ?_); rintro e w2 ⟨rfl, rfl⟩)
       have HC1 := HC
       clear HC
       obtain ⟨v, hv⟩ : ∃ v, v = aroundP K (withE { ntZ with k := 8 } ex) s1 := ⟨_, rfl⟩
       rw [← hv] at HRE0
       have HRE := HRE0
       clear HRE0
       go_wp2_with (first
        | (go_at_call 112; (with_reducible refine HC1.out.mono ?_); rintro e wk ⟨rfl, hk⟩; obtain ⟨Ok, ha, hc, hn⟩ := At.call2 HA.out hk; replace HA := hid ha; replace HX6 := hid (HX6.out.call2 hc hn); clear hk ha hc hn; clear HC1; have HC := hid (around_any HK.out hd (withE { ntZ with k := 8 } ex) ⟨rfl, rfl, rfl⟩ HA.out.rd HE1.out HN1.out); rw [← hv, NV.val_eq (nvOf (withE { ntZ with k := 8 } ex)), ← hX] at HC; clear hv hX)
        | (refine wpList_bld rfl 54 _ rfl X (by rw [HXX.out]; kernel_rfl) ?_)
        | (go_at_call 113; (with_reducible refine HC.out.mono ?_); rintro e wk ⟨⟨x1, he1, hxt, hxn, hxf⟩, hk⟩; rw [NV.val_eq] at he1; subst he1; have Hlt := HX6.out.blk.lt; have HXn := hid (And.intro Hlt (And.intro hxt (And.intro hxn hxf))); obtain ⟨Ok, ha, hc, hn⟩ := At.call2 HA.out hk; replace HA := hid ha; replace HX6 := hid (HX6.out.call2 hc hn); clear hk ha hc hn Hlt hxt hxn hxf; clear HC)
        | (with_reducible refine wpList_store_row rfl 54 _ _ rfl w.heap.size (x1).cells.toArray rfl rfl 54 _ HX6.out.bget (nv_size _) rfl (nv_one _) ?_))
       have hb2 := HX6.out.row (cs' := (x1).cells)
       refine bodyPost_ret (v := (x1).val) (results_cell_row (P := Tryz.prog) (fn := Tryz.f104) rfl _ _ w.heap.size 54 (x1.cells.toArray) (0, 0) _ rfl (by first | exact hb2.bget | (rw [HXX.out]; exact hb2.bget)) Tryz.underlying54 rfl (by first | exact nv_size _ | (rw [HXX.out]; exact nv_size _))) (by first | rfl | (rw [HXX.out]; exact NV.val_eq _)) ?_
       rw [HQ.out, HRE.out]
       refine ⟨⟨x1, rfl, HXn.out.2.1, node_past HXn.out.2.2.1 HXn.out.1 _, HXn.out.2.2.2⟩, (HA.out.brow HX6.out _).stg⟩

      ·skip
       by_cases h5 : x = s_many
       ·skip
        have e0 : (S.toList == ({ data := #[118, 97, 114, 105, 110, 116] } : ByteArray).toList) = false := by rw [hS]; exact str_neC h0
        have e1 : (S.toList == ({ data := #[122, 105, 103, 122, 97, 103] } : ByteArray).toList) = false := by rw [hS]; exact str_neC h1
        have e2 : (S.toList == ({ data := #[98, 121, 116, 101, 115] } : ByteArray).toList) = false := by rw [hS]; exact str_neC h2
        have e3 : (S.toList == ({ data := #[116, 105, 109, 101, 115] } : ByteArray).toList) = false := by rw [hS]; exact str_neC h3
        have e4 : (S.toList == ({ data := #[119, 105, 116, 104, 105, 110] } : ByteArray).toList) = false := by rw [hS]; exact str_neC h4
        have e5 : (S.toList == ({ data := #[109, 97, 110, 121] } : ByteArray).toList) = true := by rw [hS]; exact str_eqC h5
        have HRE0 := hid (show namedP K x s = aroundP K { ntZ with k := 7 } s from by
         unfold namedP
         rw [hfx]
         simp only
         rw [if_neg (by rintro (h | h); exact h0 h; exact h1 h), if_neg h2, if_neg h3, if_neg h4, if_pos h5])
        clear hS h0 h1 h2 h3 h4 h5
        go_enter Tryz.func104, Tryz.ntmps104
        generalize (ByteArray.mk #[118, 97, 114, 105, 110, 116]) = K0 at *; generalize (ByteArray.mk #[122, 105, 103, 122, 97, 103]) = K1 at *; generalize (ByteArray.mk #[98, 121, 116, 101, 115]) = K2 at *; generalize (ByteArray.mk #[116, 105, 109, 101, 115]) = K3 at *; generalize (ByteArray.mk #[119, 105, 116, 104, 105, 110]) = K4 at *; generalize (ByteArray.mk #[109, 97, 110, 121]) = K5 at *; generalize (ByteArray.mk #[115, 119, 105, 116, 99, 104]) = K6 at *; generalize (ByteArray.mk #[111, 110, 101, 111, 102]) = K7 at *; generalize (ByteArray.mk #[99, 104, 97, 105, 110]) = K8 at *; generalize (ByteArray.mk #[101, 109, 112, 116, 121]) = K9 at *
        go_upto_region 1 with fail
        generalize w.alloc (.cells #[.int .i64 0, .int .i64 0, .bool false, .bool false, .bool false, .int .u64 0, .int .u64 0, .string ⟨#[]⟩, .string ⟨#[]⟩, .int .u64 0, .int .u64 0, .slice none 0 0, .slice none 0 0, .slice none 0 0, .string ⟨#[]⟩, .int .u64 0, .slice none 0 0, .int .i64 0] 54) = w1 at *
        have HC := hid (around_any HK.out hd { ntZ with k := 7 } ⟨rfl, rfl, rfl⟩ HA.out.rd HEd.out HNl.out)
        obtain ⟨v, hv⟩ : ∃ v, v = aroundP K { ntZ with k := 7 } s := ⟨_, rfl⟩
        obtain ⟨X, hX⟩ : ∃ X, X = (nvOf { ntZ with k := 7 }).cells.toArray := ⟨_, rfl⟩
        have HXX := hid hX
        rw [← hv, NV.val_eq (nvOf { ntZ with k := 7 }), ← hX] at HC
        rw [← hv] at HRE0
        have HRE := HRE0
        clear hv hX HRE0
        go_wp2_with (first
         | (go_at_call 19; (with_reducible refine (HFx.out _).mono ?_); rintro e w2 ⟨rfl, rfl⟩)
         | (refine wpList_bld rfl 54 _ rfl X (by rw [HXX.out]; kernel_rfl) ?_)
         | (go_at_call 113; (with_reducible refine HC.out.mono ?_); rintro e wk ⟨⟨x1, he1, hxt, hxn, hxf⟩, hk⟩; rw [NV.val_eq] at he1; subst he1; have Hlt := HX6.out.blk.lt; have HXn := hid (And.intro Hlt (And.intro hxt (And.intro hxn hxf))); obtain ⟨Ok, ha, hc, hn⟩ := At.call2 HA.out hk; replace HA := hid ha; replace HX6 := hid (HX6.out.call2 hc hn); clear hk ha hc hn Hlt hxt hxn hxf; clear HC)
         | (with_reducible refine wpList_store_row rfl 54 _ _ rfl w.heap.size (x1).cells.toArray rfl rfl 54 _ HX6.out.bget (nv_size _) rfl (nv_one _) ?_))
        have hb2 := HX6.out.row (cs' := (x1).cells)
        refine bodyPost_ret (v := (x1).val) (results_cell_row (P := Tryz.prog) (fn := Tryz.f104) rfl _ _ w.heap.size 54 (x1.cells.toArray) (0, 0) _ rfl (by first | exact hb2.bget | (rw [HXX.out]; exact hb2.bget)) Tryz.underlying54 rfl (by first | exact nv_size _ | (rw [HXX.out]; exact nv_size _))) (by first | rfl | (rw [HXX.out]; exact NV.val_eq _)) ?_
        rw [HQ.out, HRE.out]
        refine ⟨⟨x1, rfl, HXn.out.2.1, node_past HXn.out.2.2.1 HXn.out.1 _, HXn.out.2.2.2⟩, (HA.out.brow HX6.out _).stg⟩

       ·skip
        by_cases h6 : x = s_switch
        ·skip
         have e0 : (S.toList == ({ data := #[118, 97, 114, 105, 110, 116] } : ByteArray).toList) = false := by rw [hS]; exact str_neC h0
         have e1 : (S.toList == ({ data := #[122, 105, 103, 122, 97, 103] } : ByteArray).toList) = false := by rw [hS]; exact str_neC h1
         have e2 : (S.toList == ({ data := #[98, 121, 116, 101, 115] } : ByteArray).toList) = false := by rw [hS]; exact str_neC h2
         have e3 : (S.toList == ({ data := #[116, 105, 109, 101, 115] } : ByteArray).toList) = false := by rw [hS]; exact str_neC h3
         have e4 : (S.toList == ({ data := #[119, 105, 116, 104, 105, 110] } : ByteArray).toList) = false := by rw [hS]; exact str_neC h4
         have e5 : (S.toList == ({ data := #[109, 97, 110, 121] } : ByteArray).toList) = false := by rw [hS]; exact str_neC h5
         have e6 : (S.toList == ({ data := #[115, 119, 105, 116, 99, 104] } : ByteArray).toList) = true := by rw [hS]; exact str_eqC h6
         have HRE0 := hid (show namedP K x s = chooseP K s from by
          unfold namedP
          rw [hfx]
          simp only
          rw [if_neg (by rintro (h | h); exact h0 h; exact h1 h), if_neg h2, if_neg h3, if_neg h4, if_neg h5, if_pos h6])
         clear hS h0 h1 h2 h3 h4 h5 h6
         go_enter Tryz.func104, Tryz.ntmps104
         generalize (ByteArray.mk #[118, 97, 114, 105, 110, 116]) = K0 at *; generalize (ByteArray.mk #[122, 105, 103, 122, 97, 103]) = K1 at *; generalize (ByteArray.mk #[98, 121, 116, 101, 115]) = K2 at *; generalize (ByteArray.mk #[116, 105, 109, 101, 115]) = K3 at *; generalize (ByteArray.mk #[119, 105, 116, 104, 105, 110]) = K4 at *; generalize (ByteArray.mk #[109, 97, 110, 121]) = K5 at *; generalize (ByteArray.mk #[115, 119, 105, 116, 99, 104]) = K6 at *; generalize (ByteArray.mk #[111, 110, 101, 111, 102]) = K7 at *; generalize (ByteArray.mk #[99, 104, 97, 105, 110]) = K8 at *; generalize (ByteArray.mk #[101, 109, 112, 116, 121]) = K9 at *
         go_upto_region 1 with fail
         generalize w.alloc (.cells #[.int .i64 0, .int .i64 0, .bool false, .bool false, .bool false, .int .u64 0, .int .u64 0, .string ⟨#[]⟩, .string ⟨#[]⟩, .int .u64 0, .int .u64 0, .slice none 0 0, .slice none 0 0, .slice none 0 0, .string ⟨#[]⟩, .int .u64 0, .slice none 0 0, .int .i64 0] 54) = w1 at *
         have HC := hid (choose_any HK.out HS.out hd HA.out.rd HEd.out HNl.out)
         obtain ⟨v, hv⟩ : ∃ v, v = chooseP K s := ⟨_, rfl⟩
         rw [← hv] at HRE0 HC
         have HRE := HRE0
         clear hv HRE0
         go_wp2_with (first
          | (go_at_call 19; (with_reducible refine (HFx.out _).mono ?_); rintro e w2 ⟨rfl, rfl⟩)
          | (go_at_call 114; (with_reducible refine HC.out.mono ?_); rintro e wk ⟨⟨x1, he1, hxt, hxn, hxf⟩, hk⟩; rw [NV.val_eq] at he1; subst he1; have Hlt := HX6.out.blk.lt; have HXn := hid (And.intro Hlt (And.intro hxt (And.intro hxn hxf))); obtain ⟨Ok, ha, hc, hn⟩ := At.call2 HA.out hk; replace HA := hid ha; replace HX6 := hid (HX6.out.call2 hc hn); clear hk ha hc hn Hlt hxt hxn hxf; clear HC)
          | (with_reducible refine wpList_store_row rfl 54 _ _ rfl w.heap.size (x1).cells.toArray rfl rfl 54 _ HX6.out.bget (nv_size _) rfl (nv_one _) ?_))
         have hb2 := HX6.out.row (cs' := (x1).cells)
         refine bodyPost_ret (v := (x1).val) (results_cell_row (P := Tryz.prog) (fn := Tryz.f104) rfl _ _ w.heap.size 54 (x1.cells.toArray) (0, 0) _ rfl (by first | exact hb2.bget | (rw [HXX.out]; exact hb2.bget)) Tryz.underlying54 rfl (by first | exact nv_size _ | (rw [HXX.out]; exact nv_size _))) (by first | rfl | (rw [HXX.out]; exact NV.val_eq _)) ?_
         rw [HQ.out, HRE.out]
         refine ⟨⟨x1, rfl, HXn.out.2.1, node_past HXn.out.2.2.1 HXn.out.1 _, HXn.out.2.2.2⟩, (HA.out.brow HX6.out _).stg⟩

        ·skip
         by_cases h7 : x = s_oneof
         ·skip
          have e0 : (S.toList == ({ data := #[118, 97, 114, 105, 110, 116] } : ByteArray).toList) = false := by rw [hS]; exact str_neC h0
          have e1 : (S.toList == ({ data := #[122, 105, 103, 122, 97, 103] } : ByteArray).toList) = false := by rw [hS]; exact str_neC h1
          have e2 : (S.toList == ({ data := #[98, 121, 116, 101, 115] } : ByteArray).toList) = false := by rw [hS]; exact str_neC h2
          have e3 : (S.toList == ({ data := #[116, 105, 109, 101, 115] } : ByteArray).toList) = false := by rw [hS]; exact str_neC h3
          have e4 : (S.toList == ({ data := #[119, 105, 116, 104, 105, 110] } : ByteArray).toList) = false := by rw [hS]; exact str_neC h4
          have e5 : (S.toList == ({ data := #[109, 97, 110, 121] } : ByteArray).toList) = false := by rw [hS]; exact str_neC h5
          have e6 : (S.toList == ({ data := #[115, 119, 105, 116, 99, 104] } : ByteArray).toList) = false := by rw [hS]; exact str_neC h6
          have e7 : (S.toList == ({ data := #[111, 110, 101, 111, 102] } : ByteArray).toList) = true := by rw [hS]; exact str_eqC h7
          have HRE0 := hid (show namedP K x s = amongP K false s from by
           unfold namedP
           rw [hfx]
           simp only
           rw [if_neg (by rintro (h | h); exact h0 h; exact h1 h), if_neg h2, if_neg h3, if_neg h4, if_neg h5, if_neg h6, if_pos h7])
          clear hS h0 h1 h2 h3 h4 h5 h6 h7
          go_enter Tryz.func104, Tryz.ntmps104
          generalize (ByteArray.mk #[118, 97, 114, 105, 110, 116]) = K0 at *; generalize (ByteArray.mk #[122, 105, 103, 122, 97, 103]) = K1 at *; generalize (ByteArray.mk #[98, 121, 116, 101, 115]) = K2 at *; generalize (ByteArray.mk #[116, 105, 109, 101, 115]) = K3 at *; generalize (ByteArray.mk #[119, 105, 116, 104, 105, 110]) = K4 at *; generalize (ByteArray.mk #[109, 97, 110, 121]) = K5 at *; generalize (ByteArray.mk #[115, 119, 105, 116, 99, 104]) = K6 at *; generalize (ByteArray.mk #[111, 110, 101, 111, 102]) = K7 at *; generalize (ByteArray.mk #[99, 104, 97, 105, 110]) = K8 at *; generalize (ByteArray.mk #[101, 109, 112, 116, 121]) = K9 at *
          go_upto_region 1 with fail
          generalize w.alloc (.cells #[.int .i64 0, .int .i64 0, .bool false, .bool false, .bool false, .int .u64 0, .int .u64 0, .string ⟨#[]⟩, .string ⟨#[]⟩, .int .u64 0, .int .u64 0, .slice none 0 0, .slice none 0 0, .slice none 0 0, .string ⟨#[]⟩, .int .u64 0, .slice none 0 0, .int .i64 0] 54) = w1 at *
          have HC := hid (among_any HK.out HS.out hd false 10 rfl HA.out.rd HEd.out HNl.out)
          obtain ⟨v, hv⟩ : ∃ v, v = amongP K false s := ⟨_, rfl⟩
          rw [← hv] at HRE0 HC
          have HRE := HRE0
          clear hv HRE0
          go_wp2_with (first
           | (go_at_call 19; (with_reducible refine (HFx.out _).mono ?_); rintro e w2 ⟨rfl, rfl⟩)
           | (go_at_call 115; (with_reducible refine HC.out.mono ?_); rintro e wk ⟨⟨x1, he1, hxt, hxn, hxf⟩, hk⟩; rw [NV.val_eq] at he1; subst he1; have Hlt := HX6.out.blk.lt; have HXn := hid (And.intro Hlt (And.intro hxt (And.intro hxn hxf))); obtain ⟨Ok, ha, hc, hn⟩ := At.call2 HA.out hk; replace HA := hid ha; replace HX6 := hid (HX6.out.call2 hc hn); clear hk ha hc hn Hlt hxt hxn hxf; clear HC)
           | (with_reducible refine wpList_store_row rfl 54 _ _ rfl w.heap.size (x1).cells.toArray rfl rfl 54 _ HX6.out.bget (nv_size _) rfl (nv_one _) ?_))
          have hb2 := HX6.out.row (cs' := (x1).cells)
          refine bodyPost_ret (v := (x1).val) (results_cell_row (P := Tryz.prog) (fn := Tryz.f104) rfl _ _ w.heap.size 54 (x1.cells.toArray) (0, 0) _ rfl (by first | exact hb2.bget | (rw [HXX.out]; exact hb2.bget)) Tryz.underlying54 rfl (by first | exact nv_size _ | (rw [HXX.out]; exact nv_size _))) (by first | rfl | (rw [HXX.out]; exact NV.val_eq _)) ?_
          rw [HQ.out, HRE.out]
          refine ⟨⟨x1, rfl, HXn.out.2.1, node_past HXn.out.2.2.1 HXn.out.1 _, HXn.out.2.2.2⟩, (HA.out.brow HX6.out _).stg⟩

         ·skip
          by_cases h8 : x = s_chain
          ·skip
           have e0 : (S.toList == ({ data := #[118, 97, 114, 105, 110, 116] } : ByteArray).toList) = false := by rw [hS]; exact str_neC h0
           have e1 : (S.toList == ({ data := #[122, 105, 103, 122, 97, 103] } : ByteArray).toList) = false := by rw [hS]; exact str_neC h1
           have e2 : (S.toList == ({ data := #[98, 121, 116, 101, 115] } : ByteArray).toList) = false := by rw [hS]; exact str_neC h2
           have e3 : (S.toList == ({ data := #[116, 105, 109, 101, 115] } : ByteArray).toList) = false := by rw [hS]; exact str_neC h3
           have e4 : (S.toList == ({ data := #[119, 105, 116, 104, 105, 110] } : ByteArray).toList) = false := by rw [hS]; exact str_neC h4
           have e5 : (S.toList == ({ data := #[109, 97, 110, 121] } : ByteArray).toList) = false := by rw [hS]; exact str_neC h5
           have e6 : (S.toList == ({ data := #[115, 119, 105, 116, 99, 104] } : ByteArray).toList) = false := by rw [hS]; exact str_neC h6
           have e7 : (S.toList == ({ data := #[111, 110, 101, 111, 102] } : ByteArray).toList) = false := by rw [hS]; exact str_neC h7
           have e8 : (S.toList == ({ data := #[99, 104, 97, 105, 110] } : ByteArray).toList) = true := by rw [hS]; exact str_eqC h8
           have HRE0 := hid (show namedP K x s = amongP K true s from by
            unfold namedP
            rw [hfx]
            simp only
            rw [if_neg (by rintro (h | h); exact h0 h; exact h1 h), if_neg h2, if_neg h3, if_neg h4, if_neg h5, if_neg h6, if_neg h7, if_pos h8])
           clear hS h0 h1 h2 h3 h4 h5 h6 h7 h8
           go_enter Tryz.func104, Tryz.ntmps104
           generalize (ByteArray.mk #[118, 97, 114, 105, 110, 116]) = K0 at *; generalize (ByteArray.mk #[122, 105, 103, 122, 97, 103]) = K1 at *; generalize (ByteArray.mk #[98, 121, 116, 101, 115]) = K2 at *; generalize (ByteArray.mk #[116, 105, 109, 101, 115]) = K3 at *; generalize (ByteArray.mk #[119, 105, 116, 104, 105, 110]) = K4 at *; generalize (ByteArray.mk #[109, 97, 110, 121]) = K5 at *; generalize (ByteArray.mk #[115, 119, 105, 116, 99, 104]) = K6 at *; generalize (ByteArray.mk #[111, 110, 101, 111, 102]) = K7 at *; generalize (ByteArray.mk #[99, 104, 97, 105, 110]) = K8 at *; generalize (ByteArray.mk #[101, 109, 112, 116, 121]) = K9 at *
           go_upto_region 1 with fail
           generalize w.alloc (.cells #[.int .i64 0, .int .i64 0, .bool false, .bool false, .bool false, .int .u64 0, .int .u64 0, .string ⟨#[]⟩, .string ⟨#[]⟩, .int .u64 0, .int .u64 0, .slice none 0 0, .slice none 0 0, .slice none 0 0, .string ⟨#[]⟩, .int .u64 0, .slice none 0 0, .int .i64 0] 54) = w1 at *
           have HC := hid (among_any HK.out HS.out hd true 11 rfl HA.out.rd HEd.out HNl.out)
           obtain ⟨v, hv⟩ : ∃ v, v = amongP K true s := ⟨_, rfl⟩
           rw [← hv] at HRE0 HC
           have HRE := HRE0
           clear hv HRE0
           go_wp2_with (first
            | (go_at_call 19; (with_reducible refine (HFx.out _).mono ?_); rintro e w2 ⟨rfl, rfl⟩)
            | (go_at_call 115; (with_reducible refine HC.out.mono ?_); rintro e wk ⟨⟨x1, he1, hxt, hxn, hxf⟩, hk⟩; rw [NV.val_eq] at he1; subst he1; have Hlt := HX6.out.blk.lt; have HXn := hid (And.intro Hlt (And.intro hxt (And.intro hxn hxf))); obtain ⟨Ok, ha, hc, hn⟩ := At.call2 HA.out hk; replace HA := hid ha; replace HX6 := hid (HX6.out.call2 hc hn); clear hk ha hc hn Hlt hxt hxn hxf; clear HC)
            | (with_reducible refine wpList_store_row rfl 54 _ _ rfl w.heap.size (x1).cells.toArray rfl rfl 54 _ HX6.out.bget (nv_size _) rfl (nv_one _) ?_))
           have hb2 := HX6.out.row (cs' := (x1).cells)
           refine bodyPost_ret (v := (x1).val) (results_cell_row (P := Tryz.prog) (fn := Tryz.f104) rfl _ _ w.heap.size 54 (x1.cells.toArray) (0, 0) _ rfl (by first | exact hb2.bget | (rw [HXX.out]; exact hb2.bget)) Tryz.underlying54 rfl (by first | exact nv_size _ | (rw [HXX.out]; exact nv_size _))) (by first | rfl | (rw [HXX.out]; exact NV.val_eq _)) ?_
           rw [HQ.out, HRE.out]
           refine ⟨⟨x1, rfl, HXn.out.2.1, node_past HXn.out.2.2.1 HXn.out.1 _, HXn.out.2.2.2⟩, (HA.out.brow HX6.out _).stg⟩

          ·skip
           by_cases h9 : x = s_empty
           ·skip
            have e0 : (S.toList == ({ data := #[118, 97, 114, 105, 110, 116] } : ByteArray).toList) = false := by rw [hS]; exact str_neC h0
            have e1 : (S.toList == ({ data := #[122, 105, 103, 122, 97, 103] } : ByteArray).toList) = false := by rw [hS]; exact str_neC h1
            have e2 : (S.toList == ({ data := #[98, 121, 116, 101, 115] } : ByteArray).toList) = false := by rw [hS]; exact str_neC h2
            have e3 : (S.toList == ({ data := #[116, 105, 109, 101, 115] } : ByteArray).toList) = false := by rw [hS]; exact str_neC h3
            have e4 : (S.toList == ({ data := #[119, 105, 116, 104, 105, 110] } : ByteArray).toList) = false := by rw [hS]; exact str_neC h4
            have e5 : (S.toList == ({ data := #[109, 97, 110, 121] } : ByteArray).toList) = false := by rw [hS]; exact str_neC h5
            have e6 : (S.toList == ({ data := #[115, 119, 105, 116, 99, 104] } : ByteArray).toList) = false := by rw [hS]; exact str_neC h6
            have e7 : (S.toList == ({ data := #[111, 110, 101, 111, 102] } : ByteArray).toList) = false := by rw [hS]; exact str_neC h7
            have e8 : (S.toList == ({ data := #[99, 104, 97, 105, 110] } : ByteArray).toList) = false := by rw [hS]; exact str_neC h8
            have e9 : (S.toList == ({ data := #[101, 109, 112, 116, 121] } : ByteArray).toList) = true := by rw [hS]; exact str_eqC h9
            have HRE0 := hid (show namedP K x s = ({ ntZ with k := 12 }, s) from by
             unfold namedP
             rw [hfx]
             simp only
             rw [if_neg (by rintro (h | h); exact h0 h; exact h1 h), if_neg h2, if_neg h3, if_neg h4, if_neg h5, if_neg h6, if_neg h7, if_neg h8, if_pos h9])
            clear hS h0 h1 h2 h3 h4 h5 h6 h7 h8 h9
            go_enter Tryz.func104, Tryz.ntmps104
            generalize (ByteArray.mk #[118, 97, 114, 105, 110, 116]) = K0 at *; generalize (ByteArray.mk #[122, 105, 103, 122, 97, 103]) = K1 at *; generalize (ByteArray.mk #[98, 121, 116, 101, 115]) = K2 at *; generalize (ByteArray.mk #[116, 105, 109, 101, 115]) = K3 at *; generalize (ByteArray.mk #[119, 105, 116, 104, 105, 110]) = K4 at *; generalize (ByteArray.mk #[109, 97, 110, 121]) = K5 at *; generalize (ByteArray.mk #[115, 119, 105, 116, 99, 104]) = K6 at *; generalize (ByteArray.mk #[111, 110, 101, 111, 102]) = K7 at *; generalize (ByteArray.mk #[99, 104, 97, 105, 110]) = K8 at *; generalize (ByteArray.mk #[101, 109, 112, 116, 121]) = K9 at *
            go_upto_region 1 with fail
            generalize w.alloc (.cells #[.int .i64 0, .int .i64 0, .bool false, .bool false, .bool false, .int .u64 0, .int .u64 0, .string ⟨#[]⟩, .string ⟨#[]⟩, .int .u64 0, .int .u64 0, .slice none 0 0, .slice none 0 0, .slice none 0 0, .string ⟨#[]⟩, .int .u64 0, .slice none 0 0, .int .i64 0] 54) = w1 at *
            have HRE := HRE0
            clear HRE0
            obtain ⟨X, hX⟩ : ∃ X, X = (nvOf { ntZ with k := 12 }).cells.toArray := ⟨_, rfl⟩
            have HXX := hid hX
            have hszX : (Tryz.prog.info? 54).map (·.size) = some X.size := by rw [hX]; exact nv_size _
            have holX : nvZ.cells.toArray.size = X.size := by rw [hX]; rfl
            have honX : X.all (·.oneCell') = true := by rw [hX]; exact nv_one _
            clear hX
            go_wp2_with (first
             | (go_at_call 19; (with_reducible refine (HFx.out _).mono ?_); rintro e w2 ⟨rfl, rfl⟩)
             | (refine wpList_bld rfl 54 _ rfl X (by rw [HXX.out]; kernel_rfl) ?_)
             | (with_reducible refine wpList_store_row rfl 54 _ _ rfl w.heap.size X rfl rfl 54 _ HX6.out.bget hszX holX honX ?_))
            clear hszX holX honX
            have hX9 := HXX.out
            clear HXX
            subst hX9
            have hb2 := HX6.out.row (cs' := (nvOf { ntZ with k := 12 }).cells)
            refine bodyPost_ret (v := (nvOf { ntZ with k := 12 }).val) (results_cell_row (P := Tryz.prog) (fn := Tryz.f104) rfl _ _ w.heap.size 54 ((nvOf { ntZ with k := 12 }).cells.toArray) (0, 0) _ rfl (by first | exact hb2.bget | (rw [HXX.out]; exact hb2.bget)) Tryz.underlying54 rfl (by first | exact nv_size _ | (rw [HXX.out]; exact nv_size _))) (by first | rfl | (rw [HXX.out]; exact NV.val_eq _)) ?_
            rw [HQ.out, HRE.out]
            obtain ⟨k1, k2⟩ := node_nil _ (w.heap.size ≤ ·) ({ ntZ with k := 12 }) ⟨rfl, rfl, rfl, rfl⟩
            exact ⟨⟨_, rfl, rfl, k1, k2⟩, (HA.out.brow HX6.out _).stg⟩

           ·skip
            have e0 : (S.toList == ({ data := #[118, 97, 114, 105, 110, 116] } : ByteArray).toList) = false := by rw [hS]; exact str_neC h0
            have e1 : (S.toList == ({ data := #[122, 105, 103, 122, 97, 103] } : ByteArray).toList) = false := by rw [hS]; exact str_neC h1
            have e2 : (S.toList == ({ data := #[98, 121, 116, 101, 115] } : ByteArray).toList) = false := by rw [hS]; exact str_neC h2
            have e3 : (S.toList == ({ data := #[116, 105, 109, 101, 115] } : ByteArray).toList) = false := by rw [hS]; exact str_neC h3
            have e4 : (S.toList == ({ data := #[119, 105, 116, 104, 105, 110] } : ByteArray).toList) = false := by rw [hS]; exact str_neC h4
            have e5 : (S.toList == ({ data := #[109, 97, 110, 121] } : ByteArray).toList) = false := by rw [hS]; exact str_neC h5
            have e6 : (S.toList == ({ data := #[115, 119, 105, 116, 99, 104] } : ByteArray).toList) = false := by rw [hS]; exact str_neC h6
            have e7 : (S.toList == ({ data := #[111, 110, 101, 111, 102] } : ByteArray).toList) = false := by rw [hS]; exact str_neC h7
            have e8 : (S.toList == ({ data := #[99, 104, 97, 105, 110] } : ByteArray).toList) = false := by rw [hS]; exact str_neC h8
            have e9 : (S.toList == ({ data := #[101, 109, 112, 116, 121] } : ByteArray).toList) = false := by rw [hS]; exact str_neC h9
            have HRE0 := hid (show namedP K x s = ({ ntZ with k := 13, tx := S }, s) from by
             unfold namedP
             rw [hfx, show S = strB x from hS]
             simp only
             rw [if_neg (by rintro (h | h); exact h0 h; exact h1 h), if_neg h2, if_neg h3, if_neg h4, if_neg h5, if_neg h6, if_neg h7, if_neg h8, if_neg h9])
            clear hS h0 h1 h2 h3 h4 h5 h6 h7 h8 h9
            go_enter Tryz.func104, Tryz.ntmps104
            generalize (ByteArray.mk #[118, 97, 114, 105, 110, 116]) = K0 at *; generalize (ByteArray.mk #[122, 105, 103, 122, 97, 103]) = K1 at *; generalize (ByteArray.mk #[98, 121, 116, 101, 115]) = K2 at *; generalize (ByteArray.mk #[116, 105, 109, 101, 115]) = K3 at *; generalize (ByteArray.mk #[119, 105, 116, 104, 105, 110]) = K4 at *; generalize (ByteArray.mk #[109, 97, 110, 121]) = K5 at *; generalize (ByteArray.mk #[115, 119, 105, 116, 99, 104]) = K6 at *; generalize (ByteArray.mk #[111, 110, 101, 111, 102]) = K7 at *; generalize (ByteArray.mk #[99, 104, 97, 105, 110]) = K8 at *; generalize (ByteArray.mk #[101, 109, 112, 116, 121]) = K9 at *
            go_upto_region 1 with fail
            generalize w.alloc (.cells #[.int .i64 0, .int .i64 0, .bool false, .bool false, .bool false, .int .u64 0, .int .u64 0, .string ⟨#[]⟩, .string ⟨#[]⟩, .int .u64 0, .int .u64 0, .slice none 0 0, .slice none 0 0, .slice none 0 0, .string ⟨#[]⟩, .int .u64 0, .slice none 0 0, .int .i64 0] 54) = w1 at *
            have HRE := HRE0
            clear HRE0
            obtain ⟨X, hX⟩ : ∃ X, X = (nvOf { ntZ with k := 13, tx := S }).cells.toArray := ⟨_, rfl⟩
            have HXX := hid hX
            have hszX : (Tryz.prog.info? 54).map (·.size) = some X.size := by rw [hX]; exact nv_size _
            have holX : nvZ.cells.toArray.size = X.size := by rw [hX]; rfl
            have honX : X.all (·.oneCell') = true := by rw [hX]; exact nv_one _
            clear hX
            go_wp2_with (first
             | (go_at_call 19; (with_reducible refine (HFx.out _).mono ?_); rintro e w2 ⟨rfl, rfl⟩)
             | (refine wpList_bld rfl 54 _ rfl X (by rw [HXX.out]; kernel_rfl) ?_)
             | (with_reducible refine wpList_store_row rfl 54 _ _ rfl w.heap.size X rfl rfl 54 _ HX6.out.bget hszX holX honX ?_))
            clear hszX holX honX
            have hX9 := HXX.out
            clear HXX
            subst hX9
            have hb2 := HX6.out.row (cs' := (nvOf { ntZ with k := 13, tx := S }).cells)
            refine bodyPost_ret (v := (nvOf { ntZ with k := 13, tx := S }).val) (results_cell_row (P := Tryz.prog) (fn := Tryz.f104) rfl _ _ w.heap.size 54 ((nvOf { ntZ with k := 13, tx := S }).cells.toArray) (0, 0) _ rfl (by first | exact hb2.bget | (rw [HXX.out]; exact hb2.bget)) Tryz.underlying54 rfl (by first | exact nv_size _ | (rw [HXX.out]; exact nv_size _))) (by first | rfl | (rw [HXX.out]; exact NV.val_eq _)) ?_
            rw [HQ.out, HRE.out]
            obtain ⟨k1, k2⟩ := node_nil _ (w.heap.size ≤ ·) ({ ntZ with k := 13, tx := S }) ⟨rfl, rfl, rfl, rfl⟩
            exact ⟨⟨_, rfl, rfl, k1, k2⟩, (HA.out.brow HX6.out _).stg⟩

end Go.Proofs.YtfcccfplmdjndaaGreat
