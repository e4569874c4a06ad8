/- tree: Num, Blank, Data, Of, At. -/
import Derived.Test.YtdhipmdapodpkaaTrE
namespace Go.Proofs.Ytdhipmdapodpkaa
set_option linter.unusedSimpArgs false
set_option linter.unusedVariables false
open Go.RowKit

theorem zero_box (w : World) : Below w.heap.size w (w.alloc (.cells #[.int .u64 0, .bool false, .slice none 0 0, .slice none 0 0] 26)) ∧ (w.alloc (.cells #[.int .u64 0, .bool false, .slice none 0 0, .slice none 0 0] 26)).heap[w.heap.size]? = some (.cells #[.int .u64 0, .bool false, .slice none 0 0, .slice none 0 0] 26 (0, 0)) :=
  ⟨(Below.refl _ _).alloc (Nat.le_refl _) _, heap_alloc_new w _⟩
theorem tv4_size (a b c d : Value) : (Try.prog.info? 26).map (·.size) = some (#[a, b, c, d] : Array Value).size := by
  rw [show (#[a, b, c, d] : Array Value).size = 4 from rfl]; kernel_rfl
theorem tv4_one {a b c d : Value} (ha : a.oneCell' = true) (hb : b.oneCell' = true) (hc : c.oneCell' = true) (hd : d.oneCell' = true) : (#[a, b, c, d] : Array Value).all (·.oneCell') = true := by simp [ha, hb, hc, hd]
set_option maxRecDepth 100000 in
theorem num_any (n : Nat) (hn : n < 18446744073709551616) (w : World) : Calls Try.prog 22 #[.int .u64 (n : Int)] w fun e w' => e = .returned (TV.val ⟨n, false, SV.nil, SV.nil⟩) ∧ Below w.heap.size w w' := by
  obtain ⟨hb, hz⟩ := zero_box w
  have HB := hid hb
  have HZ := hid hz
  have HSz := hid (tv4_size (.int .u64 (n : Int)) (.bool false) (.slice none 0 0) (.slice none 0 0))
  have HOne := hid (tv4_one (a := .int .u64 (n : Int)) (b := .bool false) (c := .slice none 0 0) (d := .slice none 0 0) rfl rfl rfl rfl)
  have HF := hid (setRow_heap _ w.heap.size _ #[.int .u64 (n : Int), .bool false, .slice none 0 0, .slice none 0 0] _ _ hz)
  clear hb hz
  go_enter Try.func22, Try.ntmps22
  go_wp2_with ((with_reducible refine wpList_store_row rfl 26 _ _ rfl w.heap.size #[.int .u64 (n : Int), .bool false, .slice none 0 0, .slice none 0 0] ?_ ?_ 26 #[.int .u64 0, .bool false, .slice none 0 0, .slice none 0 0] HZ.out HSz.out ?_ HOne.out ?_); exact rfl; exact rfl; exact rfl)
  refine bodyPost_ret (v := .agg #[.int .u64 (n : Int), .bool false, .slice none 0 0, .slice none 0 0]) (results_cell_row (P := Try.prog) (fn := Try.f22) rfl _ _ w.heap.size 26 _ (0, 0) _ rfl HF.out Try.underlying26 rfl (by kernel_rfl)) rfl ?_
  exact ⟨rfl, below_row HB.out (Nat.le_refl _) _⟩
set_option maxRecDepth 100000 in
theorem blank_any (w : World) : Calls Try.prog 23 #[] w fun e w' => e = .returned (TV.val ⟨0, true, SV.nil, SV.nil⟩) ∧ Below w.heap.size w w' := by
  obtain ⟨hb, hz⟩ := zero_box w
  have HB := hid hb
  have HZ := hid hz
  have HSz := hid (tv4_size (.int .u64 0) (.bool true) (.slice none 0 0) (.slice none 0 0))
  have HOne := hid (tv4_one (a := .int .u64 0) (b := .bool true) (c := .slice none 0 0) (d := .slice none 0 0) rfl rfl rfl rfl)
  have HF := hid (setRow_heap _ w.heap.size _ #[.int .u64 0, .bool true, .slice none 0 0, .slice none 0 0] _ _ hz)
  clear hb hz
  go_enter Try.func23, Try.ntmps23
  go_wp2_with ((with_reducible refine wpList_store_row rfl 26 _ _ rfl w.heap.size #[.int .u64 0, .bool true, .slice none 0 0, .slice none 0 0] ?_ ?_ 26 #[.int .u64 0, .bool false, .slice none 0 0, .slice none 0 0] HZ.out HSz.out ?_ HOne.out ?_); exact rfl; exact rfl; exact rfl)
  refine bodyPost_ret (v := .agg #[.int .u64 0, .bool true, .slice none 0 0, .slice none 0 0]) (results_cell_row (P := Try.prog) (fn := Try.f23) rfl _ _ w.heap.size 26 _ (0, 0) _ rfl HF.out Try.underlying26 rfl (by kernel_rfl)) rfl ?_
  exact ⟨rfl, below_row HB.out (Nat.le_refl _) _⟩
set_option maxRecDepth 100000 in
theorem data_any (s : SV) (l : List UInt8) (w : World) {P : Nat → Prop} (h : Rw w P s (l.map isB)) (hn : s.n = l.length) (hl : s.n ≤ 1048576) : Calls Try.prog 24 #[s.val] w fun e w' => ∃ D : SV, e = .returned (TV.val ⟨0, false, D, SV.nil⟩) ∧ Mine w' w.heap.size w'.heap.size 5 D l.length (l.map isB) ∧ Below w.heap.size w w' := by
  obtain ⟨hb, hz⟩ := zero_box w
  have HB := hid hb
  have HZ := hid hz
  have HO := hid (own_byte P s _ _ (h.keep hb) (by rw [hn]; simp) hl (ones_B l))
  have HN := hid hn
  unfold SV.val at HO ⊢
  obtain ⟨A, n, c⟩ := s
  simp only at HO ⊢
  clear hb hz h hn hl
  go_enter Try.func24, Try.ntmps24
  go_upto_region 1 with (fail)
  generalize w.alloc (.cells #[.int .u64 0, .bool false, .slice none 0 0, .slice none 0 0] 26) = w1 at *
  go_wp2_with (first
    | (go_at_call 30; (with_reducible refine HO.out.mono ?_); rintro e w2 ⟨⟨DA, Dn, Dc⟩, rfl, hDn, hb2, hDo⟩; have HB2 := hid (HB.out.trans (hb2.mono HB.out.size)); have HZ2 := hid ((hb2.block w.heap.size (Array.getElem?_eq_some_iff.1 HZ.out).1).trans HZ.out); have HM := hid (mine_of (lo := w.heap.size) HN.out hDn hDo HB.out.size); have HF := hid (setRow_heap _ w.heap.size _ #[.int .u64 0, .bool false, .slice DA Dn Dc, .slice none 0 0] _ _ HZ2.out); clear hDn hb2 hDo; unfold SV.val; dsimp only)
    | ((with_reducible refine wpList_store_row rfl 26 _ _ rfl w.heap.size #[.int .u64 0, .bool false, .slice DA Dn Dc, .slice none 0 0] ?_ ?_ 26 #[.int .u64 0, .bool false, .slice none 0 0, .slice none 0 0] HZ2.out (tv4_size _ _ _ _) ?_ (tv4_one rfl rfl rfl rfl) ?_); exact rfl; exact rfl; exact rfl))
  refine bodyPost_ret (v := .agg #[.int .u64 0, .bool false, .slice DA Dn Dc, .slice none 0 0]) (results_cell_row (P := Try.prog) (fn := Try.f24) rfl _ _ w.heap.size 26 _ (0, 0) _ rfl HF.out Try.underlying26 rfl (by kernel_rfl)) rfl ?_
  refine ⟨⟨DA, Dn, Dc⟩, rfl, ?_, below_row HB2.out (Nat.le_refl _) _⟩
  have hsz : (w2.setRow w.heap.size #[.int .u64 0, .bool false, .slice DA Dn Dc, .slice none 0 0]).heap.size = w2.heap.size := by simp [World.setRow]
  rw [hsz]
  refine ⟨HM.out.1, ?_⟩
  rcases HM.out.2 with e | ⟨g, a, b, e, hk⟩
  · exact .inl e
  · refine .inr ⟨g, a, b, e, ?_⟩
    have hne : g ≠ w.heap.size := fun e => by
      subst e
      have h1 := HZ2.out
      unfold Blk at hk
      rw [hk] at h1
      injection h1 with h1
      injection h1 with _ ht
      exact absurd ht (by decide)
    exact (setRow_other w2 _ g _ hne).trans hk
set_option maxRecDepth 100000 in
theorem of_any (K : SV) (ks : List TT) (xs : List TV) (w : World) {P : Nat → Prop} (h : RepL w P K ks xs) (hw : wL ks ≤ 1048000) : Calls Try.prog 21 #[K.val] w fun e w' => ∃ x : TV, e = .returned x.val ∧ Seg w' (w.heap.size + 1) w'.heap.size x (.nd 0 false [] ks) ∧ Below w.heap.size w w' := by
  obtain ⟨hb, hz⟩ := zero_box w
  have HB := hid hb
  have HZ := hid hz
  have hk := h.keep hb
  have HC := hid (clone_any (.nd 0 false [] ks) ⟨0, false, SV.nil, K⟩ _ P (.mk ⟨0, false, SV.nil, K⟩ [] ks xs (by show 0 < _; decide) rfl (Rw.nil _ _ _) hk.n hk.l hk.r hk.each) (by rw [wT]; simp; omega))
  have hs : (w.alloc (.cells #[.int .u64 0, .bool false, .slice none 0 0, .slice none 0 0] 26)).heap.size = w.heap.size + 1 := by simp
  have HS := hid hs
  unfold TV.val SV.nil at HC
  unfold SV.val
  obtain ⟨A, n, c⟩ := K
  simp only at HC ⊢
  clear hb hz h hk hs hw
  go_enter Try.func21, Try.ntmps21
  go_upto_region 1 with (fail)
  generalize w.alloc (.cells #[.int .u64 0, .bool false, .slice none 0 0, .slice none 0 0] 26) = w1 at *
  have HC := hid (show Calls Try.prog 18 #[.agg #[.int .u64 0, .bool false, .slice none 0 0, .slice A n c]] w1 _ from HC.out)
  go_wp2_with (first
    | (go_at_call 18; (with_reducible refine HC.out.mono ?_); rintro e w2 ⟨⟨n2, b2, ⟨DA, Dn, Dc⟩, ⟨KA, Kn, Kc⟩⟩, rfl, hsg, hb2⟩; have HB2 := hid (HB.out.trans (hb2.mono HB.out.size)); have HZ2 := hid ((hb2.block w.heap.size (Array.getElem?_eq_some_iff.1 HZ.out).1).trans HZ.out); have HSg := hid hsg; have HF := hid (setRow_heap _ w.heap.size _ #[.int .u64 (n2 : Int), .bool b2, .slice DA Dn Dc, .slice KA Kn Kc] _ _ HZ2.out); clear hsg hb2; (try unfold TV.val); (try dsimp only))
    | ((with_reducible refine wpList_store_row rfl 26 _ _ rfl w.heap.size #[.int .u64 (n2 : Int), .bool b2, .slice DA Dn Dc, .slice KA Kn Kc] ?_ ?_ 26 #[.int .u64 0, .bool false, .slice none 0 0, .slice none 0 0] HZ2.out (tv4_size _ _ _ _) ?_ (tv4_one rfl rfl rfl rfl) ?_); exact rfl; exact rfl; exact rfl))
  refine bodyPost_ret (v := .agg #[.int .u64 (n2 : Int), .bool b2, .slice DA Dn Dc, .slice KA Kn Kc]) (results_cell_row (P := Try.prog) (fn := Try.f21) rfl _ _ w.heap.size 26 _ (0, 0) _ rfl HF.out Try.underlying26 rfl (by kernel_rfl)) rfl ?_
  refine ⟨⟨n2, b2, ⟨DA, Dn, Dc⟩, ⟨KA, Kn, Kc⟩⟩, rfl, ?_, below_row HB2.out (Nat.le_refl _) _⟩
  have hsz : (w2.setRow w.heap.size #[.int .u64 (n2 : Int), .bool b2, .slice DA Dn Dc, .slice KA Kn Kc]).heap.size = w2.heap.size := by simp [World.setRow]
  have hsg := HSg.out
  rw [HS.out] at hsg
  rw [hsz]
  exact hsg.mono (fun b hb _ => setRow_other w2 _ b _ (by omega))
end Go.Proofs.Ytdhipmdapodpkaa
