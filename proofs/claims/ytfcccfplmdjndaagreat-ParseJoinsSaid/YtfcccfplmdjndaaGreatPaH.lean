/- parse: a field. -/
import Derived.Test.YtfcccfplmdjndaaGreatPaF
import Derived.Deep.CutRange
import Derived.Deep.RegionWith
import Derived.Deep.LoopGhost
import Derived.Deep.AppendLies
namespace Go.Proofs.YtfcccfplmdjndaaGreat
set_option linter.unusedSimpArgs false
set_option linter.unusedVariables false
open Go.RowKit

variable {w w' w0 : World} {O O0 : Nat → Prop} {g : Nat} {L : List Tk} {s s' : RS}
set_option maxRecDepth 100000 in
set_option maxHeartbeats 4000000 in
theorem field_any {N deep : Nat} {K : RS → Int × RS} (hK : KOk N ((deep : Int) + 1) K L) (hS : ∀ s : RS, 0 < s.ts.length → Suf s (K s).2) (hd : deep ≤ 10000000) (h : RdX w O g L s) (he : EndS s) (hN : s.ts.length ≤ N) : Calls Tryz.prog 117 #[.pointer (some ⟨g, 0, none⟩), .int .i64 (deep : Int)] w fun e w' => e = .returned (.agg (FT.cells (fieldP K s).1).toArray) ∧ StG w O g L (fieldP K s).2 w' := by
 have HA := hid (At.start h)
 obtain ⟨P, hP⟩ : ∃ P, P = fieldP K s := ⟨_, rfl⟩
 have HQ := hid hP
 rw [← hP]
 have HK := hid hK
 have h1 := suf_name h.pos
 have h2 := h1.trans (suf_sign h1.pos [58])
 have HE2 := hid (he.suf h2)
 have HN2 := hid (Nat.le_trans h2.le hN)
 clear hP h hK he hN h1 h2 hS
 obtain ⟨ha, h4⟩ := HA.out.one 64 (FT.cells ⟨⟨#[]⟩, 0, 0, ⟨#[]⟩, ⟨#[]⟩⟩) #[.string ⟨#[]⟩, .int .i64 0, .int .i64 0, .string ⟨#[]⟩, .string ⟨#[]⟩] rfl
 replace HA := hid ha
 have HX4 := hid h4
 clear ha h4
 go_enter Tryz.func117, Tryz.ntmps117
 go_upto_region 1 with fail
 generalize w.alloc (.cells #[.string ⟨#[]⟩, .int .i64 0, .int .i64 0, .string ⟨#[]⟩, .string ⟨#[]⟩] 64) = w1 at *
 have HC := hid (name_g HA.out.rd)
 obtain ⟨u1, hu1⟩ : ∃ u, u = nameP s := ⟨_, rfl⟩
 rw [← hu1] at HC HE2 HN2
 have HU1 := hid hu1
 clear hu1
 go_upto_region 2 with (go_at_call 52; (with_reducible refine HC.out.mono ?_); rintro e wk ⟨rfl, hk⟩; obtain ⟨Ok, ha, hb⟩ := At.call HA.out hk; replace HA := hid ha; replace HX4 := hid (HX4.out.call hb); clear hk ha hb; clear HC)
 have Hl4 := hid HX4.out.blk.lt
 obtain ⟨b5, hb5⟩ : ∃ b5, b5 = wk.heap.size := ⟨_, rfl⟩
 obtain ⟨ha, h5⟩ := HA.out.one 64 (FT.cells ⟨⟨u1.1.toArray⟩, 0, 0, ⟨#[]⟩, ⟨#[]⟩⟩) #[.string ⟨u1.1.toArray⟩, .int .i64 0, .int .i64 0, .string ⟨#[]⟩, .string ⟨#[]⟩] rfl
 replace HA := hid ha
 replace HX4 := hid (HX4.out.alloc (.cells #[.string ⟨u1.1.toArray⟩, .int .i64 0, .int .i64 0, .string ⟨#[]⟩, .string ⟨#[]⟩] 64))
 rw [← hb5] at h5 Hl4
 have HX5 := hid h5
 simp only [← hb5]
 clear ha h5 hb5
 generalize wk.alloc (.cells #[.string ⟨u1.1.toArray⟩, .int .i64 0, .int .i64 0, .string ⟨#[]⟩, .string ⟨#[]⟩] 64) = w2 at *
 have HC := hid (show Calls Tryz.prog 53 #[.pointer (some ⟨g, 0, none⟩), .string ⟨#[58]⟩] _ (fun e w' => e = .returned (.tuple #[]) ∧ StG _ _ g L (signP [58] u1.2) w') from sign_g HA.out.rd [58])
 obtain ⟨u2, hu2⟩ : ∃ u, u = signP [58] u1.2 := ⟨_, rfl⟩
 rw [← hu2] at HC HE2 HN2
 have HU2 := hid hu2
 clear hu2
 go_upto_region 3 with (go_at_call 53; (with_reducible refine HC.out.mono ?_); rintro e wk ⟨rfl, hk⟩; obtain ⟨Ok, ha, hb⟩ := At.call HA.out hk; replace HA := hid ha; replace HX4 := hid (HX4.out.call hb); replace HX5 := hid (HX5.out.call hb); clear hk ha hb; clear HC)
 have HC := hid (HK.out _ _ _ _ HA.out.rd HE2.out HN2.out)
 obtain ⟨u3, hu3⟩ : ∃ u, u = K u2 := ⟨_, rfl⟩
 rw [← hu3] at HC
 have HU3 := hid hu3
 clear hu3
 obtain ⟨kd, s3⟩ := u3
 simp only at HC
 go_upto_region 4 with (go_at_call 54; (with_reducible refine HC.out.mono ?_); rintro e wk ⟨rfl, hk⟩; obtain ⟨Ok, ha, hb⟩ := At.call HA.out hk; replace HA := hid ha; replace HX4 := hid (HX4.out.call hb); replace HX5 := hid (HX5.out.call hb); clear hk ha hb; clear HC; have z5_1 : _ = some ((.int .i64 0 : Value)) := HX5.out.at 1; have y5_1 := HX5.out.free 1)
 have ha := HA.out.bset HX5.out 1 (.int .i64 kd)
 have hx := HX5.out.put 1 (.int .i64 kd)
 have hx4 := HX4.out.other (b' := b5) (fun e => by have := Hl4.out; omega) 1 (.int .i64 kd)
 replace HA := hid ha
 replace HX5 := hid (show Bx _ _ _ _ _ (FT.cells ⟨⟨u1.1.toArray⟩, kd, 0, ⟨#[]⟩, ⟨#[]⟩⟩) from hx)
 replace HX4 := hid hx4
 clear ha hx hx4 z5_1 y5_1
 generalize wk.setCell ⟨b5, 1, none⟩ (.int .i64 kd) = w4 at *
 have HC := hid (show Calls Tryz.prog 86 #[.pointer (some ⟨g, 0, none⟩), .int .i64 4, .string ⟨#[61]⟩] _ (fun e w' => e = .returned (.bool (tookP 4 [61] s3).1) ∧ StG _ _ g L (tookP 4 [61] s3).2 w') from took_g HA.out.rd 4 [61])
 obtain ⟨u4, hu4⟩ : ∃ u, u = tookP 4 [61] s3 := ⟨_, rfl⟩
 rw [← hu4] at HC
 have HU4 := hid hu4
 clear hu4
 obtain ⟨bb, s4⟩ := u4
 simp only at HC
 cases bb
 ·go_upto_region 6 with (go_at_call 86; (with_reducible refine HC.out.mono ?_); rintro e wk ⟨rfl, hk⟩; obtain ⟨Ok, ha, hb⟩ := At.call HA.out hk; replace HA := hid ha; replace HX4 := hid (HX4.out.call hb); replace HX5 := hid (HX5.out.call hb); clear hk ha hb; clear HC)
  have HC := hid (show Calls Tryz.prog 53 #[.pointer (some ⟨g, 0, none⟩), .string ⟨#[59]⟩] _ (fun e w' => e = .returned (.tuple #[]) ∧ StG _ _ g L (signP [59] s4) w') from sign_g HA.out.rd [59])
  have HRE : fieldP K s = (⟨⟨u1.1.toArray⟩, kd, 0, ⟨#[]⟩, ⟨#[]⟩⟩, signP [59] s4) := by
   unfold fieldP
   simp only [← HU1.out, ← HU2.out, ← HU3.out, ← HU4.out]
   rfl
  have HRE := hid HRE
  go_wp2_with (first
   | (go_at_call 53; (with_reducible refine HC.out.mono ?_); rintro e wk ⟨rfl, hk⟩; obtain ⟨Ok, ha, hb⟩ := At.call HA.out hk; replace HA := hid ha; replace HX4 := hid (HX4.out.call hb); replace HX5 := hid (HX5.out.call hb); clear hk ha hb; clear HC)
   | (with_reducible refine wpList_load_row rfl 64 _ rfl b5 rfl 64 (FT.cells ⟨⟨u1.1.toArray⟩, kd, 0, ⟨#[]⟩, ⟨#[]⟩⟩).toArray (0, 0) _ HX5.out.bget Tryz.underlying64 rfl (ft_size _) ?_)
   | (with_reducible refine wpList_store_row rfl 64 _ _ rfl w.heap.size (FT.cells ⟨⟨u1.1.toArray⟩, kd, 0, ⟨#[]⟩, ⟨#[]⟩⟩).toArray rfl rfl 64 _ HX4.out.bget (ft_size _) rfl (ft_one _) ?_))
  have hb2 := HX4.out.row (cs' := FT.cells ⟨⟨u1.1.toArray⟩, kd, 0, ⟨#[]⟩, ⟨#[]⟩⟩)
  refine bodyPost_ret (v := .agg (FT.cells ⟨⟨u1.1.toArray⟩, kd, 0, ⟨#[]⟩, ⟨#[]⟩⟩).toArray) (results_cell_row (P := Tryz.prog) (fn := Tryz.f117) rfl _ _ w.heap.size 64 (FT.cells ⟨⟨u1.1.toArray⟩, kd, 0, ⟨#[]⟩, ⟨#[]⟩⟩).toArray (0, 0) _ rfl hb2.bget Tryz.underlying64 rfl (ft_size _)) rfl ?_
  rw [HQ.out, HRE.out]
  exact ⟨rfl, (HA.out.brow HX4.out _).stg⟩
 ·go_upto_region 5 with (go_at_call 86; (with_reducible refine HC.out.mono ?_); rintro e wk ⟨rfl, hk⟩; obtain ⟨Ok, ha, hb⟩ := At.call HA.out hk; replace HA := hid ha; replace HX4 := hid (HX4.out.call hb); replace HX5 := hid (HX5.out.call hb); clear hk ha hb; clear HC)
  have HC := hid (derive_any HA.out HX5.out)
  obtain ⟨u5, hu5⟩ : ∃ u, u = deriveP s4 := ⟨_, rfl⟩
  rw [← hu5] at HC
  have HU5 := hid hu5
  clear hu5
  go_upto_region 6 with (go_at_call 125; (with_reducible refine HC.out.mono ?_); rintro e wd ⟨rfl, Od, ha, hx5, hx⟩; have hx4 := hx _ _ _ HX4.out.blk HX4.out.no (fun e => by have := Hl4.out; omega); replace HX4 := hid (Bx.mk hx4.1 hx4.2 HX4.out.ge); replace HA := hid ha; replace HX5 := hid hx5; clear ha hx5 hx hx4; clear HC)
  have HC := hid (show Calls Tryz.prog 53 #[.pointer (some ⟨g, 0, none⟩), .string ⟨#[59]⟩] _ (fun e w' => e = .returned (.tuple #[]) ∧ StG _ _ g L (signP [59] u5.2) w') from sign_g HA.out.rd [59])
  have HRE := hid (show fieldP K s = (ftOf ⟨u1.1.toArray⟩ kd u5.1, signP [59] u5.2) from by
   unfold fieldP
   simp only [← HU1.out, ← HU2.out, ← HU3.out, ← HU4.out, ← HU5.out]
   rfl)
  go_wp2_with (first
   | (go_at_call 53; (with_reducible refine HC.out.mono ?_); rintro e wk ⟨rfl, hk⟩; obtain ⟨Ok, ha, hb⟩ := At.call HA.out hk; replace HA := hid ha; replace HX4 := hid (HX4.out.call hb); replace HX5 := hid (HX5.out.call hb); clear hk ha hb; clear HC)
   | (with_reducible refine wpList_load_row rfl 64 _ rfl b5 rfl 64 (FT.cells (ftOf ⟨u1.1.toArray⟩ kd u5.1)).toArray (0, 0) _ HX5.out.bget Tryz.underlying64 rfl (ft_size _) ?_)
   | (with_reducible refine wpList_store_row rfl 64 _ _ rfl w.heap.size (FT.cells (ftOf ⟨u1.1.toArray⟩ kd u5.1)).toArray rfl rfl 64 _ HX4.out.bget (ft_size _) rfl (ft_one _) ?_))
  have hb2 := HX4.out.row (cs' := FT.cells (ftOf ⟨u1.1.toArray⟩ kd u5.1))
  refine bodyPost_ret (v := .agg (FT.cells (ftOf ⟨u1.1.toArray⟩ kd u5.1)).toArray) (results_cell_row (P := Tryz.prog) (fn := Tryz.f117) rfl _ _ w.heap.size 64 (FT.cells (ftOf ⟨u1.1.toArray⟩ kd u5.1)).toArray (0, 0) _ rfl hb2.bget Tryz.underlying64 rfl (ft_size _)) rfl ?_
  rw [HQ.out, HRE.out]
  exact ⟨rfl, (HA.out.brow HX4.out _).stg⟩
end Go.Proofs.YtfcccfplmdjndaaGreat

/- parse: rows of one's own that grow beside the reader; a Record. -/
namespace Go.Proofs.YtfcccfplmdjndaaGreat
set_option linter.unusedSimpArgs false
set_option linter.unusedVariables false
open Go.RowKit

section
variable {w w' w0 : World} {O O0 O' : Nat → Prop} {g : Nat} {L : List Tk} {s s' : RS}
theorem At.call2 (h : At w0 O0 g L w O s) (k : StG w O g L s' w') : ∃ O', At w0 O0 g L w' O' s' ∧ Chg w w' O ∧ ∀ b, b < w.heap.size → ¬ O b → ¬ O' b := by
 obtain ⟨O', hr, hc, hg⟩ := k
 have h2 : StG w O g L s' w' := ⟨O', hr, hc, hg⟩
 refine ⟨O', ⟨hr, ?_, fun b hb => ?_⟩, hc, fun b hb hO ho => ?_⟩
 ·have h1 : Chg w w' (fun k => O0 k ∨ w0.heap.size ≤ k) := hc.more (fun k _ hk => h.gr k hk)
  have h2 : Chg w0 w (fun k => O0 k ∨ w0.heap.size ≤ k) := h.ch.more (fun k _ hk => .inl hk)
  refine (h2.trans h1).more (fun k hk ho => ?_)
  rcases ho with ho | ho
  ·exact ho
  ·omega
 ·rcases hg b hb with ho | ho
  ·exact h.gr b ho
  ·exact .inr (Nat.le_trans h.ch.size ho)
 ·rcases hg b ho with ho | ho
  ·exact hO ho
  ·omega
theorem Bx.call2 {b : Nat} {T : TypeId} {cs : List Value} (h : Bx w0 w O b T cs) (hc : Chg w w' O) (hn : ∀ b, b < w.heap.size → ¬ O b → ¬ O' b) : Bx w0 w' O' b T cs := ⟨h.blk.chg hc h.no, hn b h.blk.lt h.no, h.ge⟩
structure Gr (w0 w : World) (O : Nat → Prop) (T : TypeId) (sz : Nat) (F : SV) (xs : List Value) : Prop where
 row : w.ownsRow w0.heap.size T sz F.val F.n xs
 no : ∀ b, F.val.ownBlock = some b → ¬ O b
theorem Gr.nil (w0 w : World) (O : Nat → Prop) (T : TypeId) (sz : Nat) : Gr w0 w O T sz SV.nil [] := ⟨World.ownsRow_nil w _ _ _, fun b h => by cases h⟩
theorem Gr.call2 {T : TypeId} {sz : Nat} {F : SV} {xs : List Value} (h : Gr w0 w O T sz F xs) (hc : Chg w w' O) (hn : ∀ b, b < w.heap.size → ¬ O b → ¬ O' b) : Gr w0 w' O' T sz F xs :=
 ⟨owns_chg h.row hc h.no, fun b hb => hn b (owns_block h.row b hb).2 (h.no b hb)⟩
theorem Gr.keep {T : TypeId} {sz : Nat} {F : SV} {xs : List Value} (h : Gr w0 w O T sz F xs) (hb : Below w.heap.size w w') : Gr w0 w' O T sz F xs :=
 ⟨owns_chg h.row (Chg.of_below hb (fun _ => False)) (fun _ _ h => h), h.no⟩
theorem Gr.bset {T U : TypeId} {sz : Nat} {F : SV} {xs cs : List Value} (h : Gr w0 w O T sz F xs) {b : Nat} (hB : Bx w0 w O b U cs) (hT : T ≠ U) (i : Nat) (u : Value) : Gr w0 (w.setCell ⟨b, i, none⟩ u) O T sz F xs :=
 ⟨owns_chg h.row ((Chg.refl w (fun k => k = b)).set b i rfl u) (fun k hk e => by rw [e] at hk; exact absurd hk (own_neN h.row hB.blk hT)), h.no⟩
theorem Gr.brow {T U : TypeId} {sz : Nat} {F : SV} {xs cs : List Value} (h : Gr w0 w O T sz F xs) {b : Nat} (hB : Bx w0 w O b U cs) (hT : T ≠ U) (r : Array Value) : Gr w0 (w.setRow b r) O T sz F xs :=
 ⟨owns_chg (S := fun k => k = b) h.row ⟨rfl, rfl, rfl, by rw [setRow_size]; exact Nat.le_refl _, fun k _ hn => setRow_other w b k r hn⟩ (fun k hk e => by rw [e] at hk; exact absurd hk (own_neN h.row hB.blk hT)), h.no⟩
theorem Gr.len {T : TypeId} {sz : Nat} {F : SV} {xs : List Value} (h : Gr w0 w O T sz F xs) : xs.length = F.n * sz := h.row.1
theorem Gr.app {T : TypeId} {sz g9 m c9 : Nat} {F : SV} {xs ys : List Value} (h : Gr w0 w O T sz F xs) (ha : At w0 O0 g L w O s) (hown : w'.ownsRow w0.heap.size T sz (.slice (some ⟨g9, 0, none⟩) (F.n + m) c9) (F.n + m) (xs ++ ys)) (hg : w.grownBy w' F.val.ownBlock) (hat : F.val.ownBlock = some g9 ∨ g9 = w.heap.size) : Gr w0 w' O T sz ⟨some ⟨g9, 0, none⟩, F.n + m, c9⟩ (xs ++ ys) := by
 refine ⟨hown, fun b hb => ?_⟩
 injection hb with hb
 subst hb
 rcases hat with e | e
 ·exact h.no _ e
 ·rw [e]
  exact ha.new
theorem Gr.at {T : TypeId} {sz : Nat} {F : SV} {xs : List Value} (h : Gr w0 w O T sz F xs) (ha : At w0 O0 g L w O s) (hg : w.grownBy w' F.val.ownBlock) : At w0 O0 g L w' O s :=
 ha.other (Chg.of_grown hg) (fun k hk => ⟨(owns_block h.row k hk).1, h.no k hk⟩)
theorem Gr.bx {T U : TypeId} {sz b : Nat} {F : SV} {xs cs : List Value} (h : Gr w0 w O T sz F xs) (hB : Bx w0 w O b U cs) (hT : T ≠ U) (hg : w.grownBy w' F.val.ownBlock) : Bx w0 w' O b U cs :=
 ⟨hB.blk.grown hg (fun e => own_neN h.row hB.blk hT e.symm), hB.no, hB.ge⟩
theorem At.drew (h : At w0 O0 g L w O s) : At w0 O0 g L w.drew O s := h.below ⟨rfl, rfl, rfl, Nat.le_refl _, fun _ _ => rfl⟩
theorem Bx.drew {b : Nat} {T : TypeId} {cs : List Value} (h : Bx w0 w O b T cs) : Bx w0 w.drew O b T cs := ⟨h.blk, h.no, h.ge⟩
theorem Gr.drew {T : TypeId} {sz : Nat} {F : SV} {xs : List Value} (h : Gr w0 w O T sz F xs) : Gr w0 w.drew O T sz F xs := h.keep ⟨rfl, rfl, rfl, Nat.le_refl _, fun _ _ => rfl⟩
end
end Go.Proofs.YtfcccfplmdjndaaGreat
