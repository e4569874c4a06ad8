/- spec: slices.Contains of bools; Kids. -/
import Derived.Test.YthjfhenldkihkaaSpJ
namespace Go.Proofs.Ythjfhenldkihkaa
set_option linter.unusedSimpArgs false
set_option linter.unusedVariables false
open Go.RowKit

set_option maxRecDepth 100000 in
set_option maxHeartbeats 1000000 in
theorem index_any (l : List Bool) (c g : Nat) (hl : l.length ≤ 1048576) (w : World) (h : Blk w g 4 (boolC l)) : Calls Try.prog 43 #[.slice (some ⟨g, 0, none⟩) l.length c, .bool false] w fun e w' => ∃ r : Int, e = .returned (.int .i64 r) ∧ w' = w ∧ decide (0 ≤ r) = l.any (fun b => !b) := by
  have HB := hid h
  obtain ⟨n, hn⟩ : ∃ n, n = l.length := ⟨_, rfl⟩
  rw [← hn]
  rw [← hn] at hl
  have HN := hid hn
  clear h hn
  go_enter Try.func43, Try.ntmps43
  go_wp2_with fail
  go_loopw [8] (fun i wr => ∃ j : Nat, j ≤ n ∧ i = .int .i64 j ∧ wr = w ∧ Hid (∀ k (hk : k < l.length), k < j → l[k] = true)) (fun i _ => n - (intOf i).toNat)
  case atStart => exact ⟨0, by omega, rfl, rfl, hid (fun k hk h => absurd h (by omega))⟩
  case round =>
    obtain ⟨j, hj, rfl, rfl, HZ⟩ := hrel
    by_cases hlt : j < n
    · have hlt' : (j : Int) < (n : Int) := by omega
      have hjl : j < l.length := by rw [← HN.out]; exact hlt
      have hc : wr.cell? ⟨g, j, none⟩ = some (.bool l[j]) := by
        rw [Blk.at HB.out, List.getElem?_eq_getElem (by rw [boolC_len]; exact hjl)]
        simp [boolC]
      have HL := hid (show l[j] = false → l.any (fun b => !b) = true from fun h => List.any_eq_true.2 ⟨l[j], List.getElem_mem _, by rw [h]; rfl⟩)
      have HZ2 := hid (show l[j] = true → ∀ k (hk : k < l.length), k < j + 1 → l[k] = true from fun h k hk hkj => by
        by_cases e : k = j
        · subst e; exact h
        · exact HZ.out k hk (by omega))
      generalize l[j] = b at *
      clear hjl
      cases b with
      | true =>
        go_wp2
        go_roundw
        case rel => exact ⟨j + 1, by omega, by go_num, by first | rfl | trivial, hid (HZ2.out (by first | rfl | trivial))⟩
        case measure => simp [intOf]; omega
      | false =>
        have h0 : (0 : Int) ≤ (j : Int) := by omega
        go_wp2
        go_ret
        exact ⟨_, rfl, rfl, by rw [HL.out (by first | rfl | trivial)]; simp⟩
    · obtain rfl : j = n := by omega
      have HA := hid (show l.any (fun b => !b) = false from by
        rw [List.any_eq_false]
        intro b hb
        obtain ⟨k, hk, rfl⟩ := List.getElem_of_mem hb
        rw [HZ.out k hk (by rw [HN.out]; exact hk)]
        simp)
      go_wp2
      go_ret
      exact ⟨_, rfl, rfl, by rw [HA.out]; rfl⟩
set_option maxRecDepth 100000 in
theorem contains_any (l : List Bool) (c g : Nat) (hl : l.length ≤ 1048576) (w : World) (h : Blk w g 4 (boolC l)) : Calls Try.prog 24 #[.slice (some ⟨g, 0, none⟩) l.length c, .bool false] w fun e w' => e = .returned (.bool (l.any (fun b => !b))) ∧ w' = w := by
  have HI := hid (index_any l c g hl w h)
  obtain ⟨R, hR⟩ : ∃ R, R = l.any (fun b => !b) := ⟨_, rfl⟩
  rw [← hR] at HI ⊢
  clear hR h
  go_enter Try.func24, Try.ntmps24
  go_wp2_with fail
  refine HI.out.mono ?_
  rintro e w2 ⟨r, rfl, rfl, hr⟩
  have HR := hid hr
  clear hr
  go_wp2
  go_ret
  exact ⟨ret_bool (by rw [← HR.out]), rfl⟩
/-- What Kids collects. -/
structure KiI (pa base : Nat) (ps : List Int) (w3 : World) (i : Nat) (W : World) (v : Value) : Prop where
  bo : Blk W pa 30 [v]
  row : W.ownsRow base 3 1 v i (intC (ps.take i))
  ch : Chg w3 W (fun k => k = pa)
  ne : v.ownBlock ≠ some base
  i : i ≤ ps.length
set_option maxRecDepth 100000 in
set_option maxHeartbeats 1000000 in
theorem k1_any (pa base : Nat) (p : Int) (n : Nat) (xs : List Value) (v : Value) (W : World) (hn : n ≤ 1048576) (hb : base ≤ W.heap.size) (ho : Blk W pa 30 [v]) (hr : W.ownsRow base 3 1 v n xs) :
    Calls Try.prog 37 #[.int .i64 p, .pointer (some ⟨pa, 0, none⟩)] W fun e w' => e = .returned (.bool true) ∧ ∃ v' : Value, Blk w' pa 30 [v'] ∧ w'.ownsRow base 3 1 v' (n + 1) (xs ++ [.int .i64 p]) ∧ Chg W w' (fun k => k = pa ∨ v.ownBlock = some k) ∧ (v'.ownBlock = v.ownBlock ∨ ∃ k, v'.ownBlock = some k ∧ W.heap.size < k) := by
  obtain ⟨A, cc, rfl⟩ := owns_shape hr
  have hb1 := (Below.refl W.heap.size W).alloc (Nat.le_refl _) (.cells #[.int .i64 p] 3)
  have a0 := Blk.at ho 0
  simp only [List.getElem?_cons_zero] at a0
  have hne := own_ne hr ho (by decide)
  have hsz : (W.alloc (.cells #[.int .i64 p] 3)).heap.size = W.heap.size + 1 := by simp
  have hblk := owns_block hr
  have hr2 := owns_chg hr (Chg.of_below hb1 (fun _ => False)) (fun _ _ h => h)
  have ho2 := ho.keep hb1
  have hcn := cell_one_new W (.int .i64 p) 3
  have hbs : base ≤ (W.alloc (.cells #[.int .i64 p] 3)).heap.size := by omega
  obtain ⟨i0, hi0, hz0, hz1, hz2⟩ := info_parts info_int
  have HX := hid (And.intro hb1 (And.intro hsz (And.intro hne hblk)))
  have HR2 := hid hr2
  have HO2 := hid ho2
  have HCn := hid hcn
  clear hb1 hr2 ho2 hcn hne hblk hsz ho hr
  go_enter Try.func37, Try.ntmps37
  go_wp2_with (refine wpList_append_own_at _ rfl _ _ 30 rfl base 3 i0 (.int .i64 0) 1 8 Try.underlying30 hi0 hz0 hz1 hz2 rfl (by decide) _ n xs rfl HR2.out ⟨W.heap.size, 0, none⟩ 1 1 [.int .i64 p] rfl rfl HCn.out (by simp [Value.oneCell']) (by unfold maxLen; omega) (by omega) hbs ?_; intro u7 w7 hown7 hgrow7 _ hat7; obtain ⟨A7, c7, rfl⟩ := owns_shape hown7; have H7 := hid (And.intro hown7 (And.intro hgrow7 hat7)); have hb7 := HO2.out.grown hgrow7 (fun e => HX.out.2.2.1 e.symm); have f7 := Blk.free hb7 0; have z7 := Blk.at hb7 0; simp only [List.getElem?_cons_zero] at z7; have HB7 := hid (hb7.put 0 (.slice A7 (n + 1) c7)); clear hown7 hgrow7 hat7 hb7)
  go_ret
  obtain ⟨hown7, hgrow8, hat8⟩ := H7.out
  have hat7 : (Value.slice A7 (n + 1) c7).ownBlock = (Value.slice A n cc).ownBlock ∨ (Value.slice A7 (n + 1) c7).ownBlock = some (W.alloc (.cells #[.int .i64 p] 3)).heap.size := hat8
  have hgrow7 : (W.alloc (.cells #[.int .i64 p] 3)).grownBy w7 (Value.slice A n cc).ownBlock := hgrow8
  obtain ⟨hb1, hsz, hne, hblk⟩ := HX.out
  have hne7 : ∀ k, (Value.slice A7 (n + 1) c7).ownBlock = some k → ¬ k = pa := fun k hk e => by
    rcases hat7 with h | h
    · rw [h] at hk; exact hne (by rw [hk, e])
    · rw [h] at hk
      injection hk with hk
      have := (Blk.lt HO2.out)
      omega
  refine ⟨rfl, .slice A7 (n + 1) c7, HB7.out, owns_chg hown7 ((Chg.refl w7 (fun k => k = pa)).set pa 0 rfl _) hne7, ?_, ?_⟩
  · have h1 : Chg W (W.alloc (.cells #[.int .i64 p] 3)) (fun k => k = pa ∨ (Value.slice A n cc).ownBlock = some k) := Chg.of_below hb1 _
    have h2 : Chg (W.alloc (.cells #[.int .i64 p] 3)) w7 (fun k => k = pa ∨ (Value.slice A n cc).ownBlock = some k) := (Chg.of_grown hgrow7).more (fun k _ hk => .inr hk)
    exact (h1.trans h2).set pa 0 (.inl rfl) _
  · rcases hat7 with h | h
    · exact .inl h
    · exact .inr ⟨_, h, by omega⟩
theorem ki_hands {pa : Nat} (ps : List Int) (hps : ps.length ≤ 1048576) (w3 : World) (hpa : pa < w3.heap.size) :
    Hands 37 #[.pointer (some ⟨pa, 0, none⟩)] ps w3.heap.size (fun i W => ∃ v, KiI pa w3.heap.size ps w3 i W v) (fun _ => False) where
  ent := enters_of Try.func37 (by kernel_rfl) rfl
  call := by
    rintro i hi W ⟨v, hI⟩ hB
    have h := k1_any pa w3.heap.size ps[i] i _ v W (by omega) hI.ch.size hI.bo hI.row
    refine h.mono ?_
    rintro e W' ⟨he, v', hb', hr', hc, hat⟩
    have htk : ps.take (i + 1) = ps.take i ++ [ps[i]] := List.take_succ_eq_append_getElem hi
    have hown := owns_block hI.row
    refine ⟨true, he, ⟨hc.block _ hB ?_, hc.size⟩, (fun _ => ⟨v', hb', ?_, ?_, ?_, by omega⟩), fun h => by cases h⟩
    · rintro (e | e)
      · omega
      · exact hI.ne e
    · rw [htk]
      have : intC (ps.take i ++ [ps[i]]) = intC (ps.take i) ++ [.int .i64 ps[i]] := by unfold intC; rw [List.map_append]; rfl
      rw [this]
      exact hr'
    · have h1 := hI.ch
      refine ⟨hc.os.trans h1.os, hc.tape.trans h1.tape, hc.output.trans h1.output, Nat.le_trans h1.size hc.size, fun k hk hn => (hc.block k (Nat.lt_of_lt_of_le hk h1.size) ?_).trans (h1.block k hk hn)⟩
      rintro (e | e)
      · exact hn e
      · have := (hown k e).1
        omega
    · rcases hat with h | ⟨k, h, hk⟩
      · rw [h]; exact hI.ne
      · rw [h]
        intro e
        injection e with e
        omega
  keep := by
    rintro i W W' ⟨v, hI⟩ hc
    exact ⟨v, hI.bo.keep hc, owns_keep hI.row (fun b _ hl => hc.block b hl), hI.ch.trans (Chg.of_below hc _), hI.ne, hI.i⟩
set_option maxRecDepth 100000 in
set_option maxHeartbeats 2000000 in
/-- Kids: a list of the parts' numbers, in a new row. -/
theorem Kids_any {P : Nat → Prop} (x : NV) (w : World) (hO : NodeOk w P x) (hf : Fits3 x) (hps : x.t.parts.length ≤ 1048576) :
    Calls Try.prog 20 #[x.val] w fun e w' => ∃ A c, e = .returned (.slice A x.t.parts.length c) ∧ Below w.heap.size w w' ∧ w'.ownsRow w.heap.size 3 1 (.slice A x.t.parts.length c) x.t.parts.length (intC x.t.parts) := by
  obtain ⟨cs, hv, hbx⟩ := nbox x
  obtain ⟨R, hR⟩ : ∃ R : Ending → World → Prop, R = fun e w' => ∃ A c, e = .returned (.slice A x.t.parts.length c) ∧ Below w.heap.size w w' ∧ w'.ownsRow w.heap.size 3 1 (.slice A x.t.parts.length c) x.t.parts.length (intC x.t.parts) := ⟨_, rfl⟩
  rw [hv, ← hR]
  have HR := hid hR
  obtain ⟨hA, hN⟩ := hbx w
  have hb2 := (Below.refl (w.alloc (.cells cs 49)).heap.size _).alloc (Nat.le_refl _) (.cells #[.slice none 0 0] 30)
  have hs1 : (w.alloc (.cells cs 49)).heap.size = w.heap.size + 1 := by simp
  have hs2 : ((w.alloc (.cells cs 49)).alloc (.cells #[.slice none 0 0] 30)).heap.size = w.heap.size + 2 := by simp
  have hbo := Blk.fresh (w.alloc (.cells cs 49)) 30 [.slice none 0 0]
  rw [hs1] at hbo
  have HQ := hid (And.intro (hA.trans (hb2.mono hA.size)) (And.intro hbo (And.intro (hN.keep hb2) hs2)))
  have HO := hid hO
  have HF := hid hf
  have HPs := hid hps
  clear hbx hR hA hN hb2 hs1 hs2 hbo hO hf hps
  go_enter Try.func20, Try.ntmps20
  go_upto_region 2 with (fail)
  change Code.wp _ _ _ _ ((w.alloc (.cells cs 49)).alloc (.cells #[.slice none 0 0] 30))
  generalize (w.alloc (.cells cs 49)).alloc (.cells #[.slice none 0 0] 30) = w3 at *
  have HPt := hid (parts_any (F := 37) (caps := #[.pointer (some ⟨w.heap.size + 1, 0, none⟩)]) (P := fun b => P b ∧ b < w.heap.size) x w3
    (ki_hands x.t.parts HPs.out w3 (by have := HQ.out.2.2.2; omega))
    (fun i W ⟨v, hI⟩ => (HO.out.mono (w' := w3) (Q := fun b => P b ∧ b < w.heap.size) (fun b _ hl => HQ.out.1.block b hl) HQ.out.1.size (fun b hp hl => ⟨hp, hl⟩)).mono (fun b hp hl => hI.ch.block b hl (by have := hp.2; omega)) hI.ch.size (fun b hp _ => hp))
    ⟨.slice none 0 0, HQ.out.2.1, ⟨rfl, .inl ⟨rfl, rfl⟩⟩, Chg.refl _ _, by simp [Value.ownBlock], Nat.zero_le _⟩ HF.out)
  rw [hv] at HPt
  go_wp2_with (first
    | ((with_reducible refine wpList_load_node _ rfl HQ.out.2.2.1 ?_ ?_ ?_); exact rfl; exact rfl)
    | (go_at_call 27; (with_reducible refine HPt.out.mono ?_); rintro e w4 ⟨b, rfl, ht, hs⟩; obtain rfl : b = true := (by cases b; exact (hs rfl).elim; rfl); obtain ⟨v, hI⟩ := ht rfl; obtain ⟨A, cc, rfl⟩ := owns_shape hI.row; have z0 := Blk.at hI.bo 0; simp only [List.getElem?_cons_zero] at z0; have HI := hid hI; clear hI ht hs HPt))
  show R (.returned (.slice A x.t.parts.length cc)) w4
  rw [HR.out]
  have hI := HI.out
  have hrow := hI.row
  rw [List.take_length] at hrow
  have hb := HQ.out.1
  exact ⟨A, cc, rfl, ⟨hI.ch.os.trans hb.os, hI.ch.tape.trans hb.tape, hI.ch.output.trans hb.output, Nat.le_trans hb.size hI.ch.size, fun k hk => (hI.ch.block k (Nat.lt_of_lt_of_le hk hb.size) (by omega)).trans (hb.block k hk)⟩, owns_base hrow hb.size⟩
end Go.Proofs.Ythjfhenldkihkaa
