/- tree: the law's few. -/
import Derived.Test.YtdhipmdapodpkaaTrC
namespace Go.Proofs.Ytdhipmdapodpkaa
set_option linter.unusedSimpArgs false
set_option linter.unusedVariables false
open Go.RowKit

mutual
/-- The law's few: whether a tree is of so few parts, and what is left of them. -/
def fewT : Int → Int → TT → Bool × Int
  | left, deep, .nd _ _ d ks => if left - 1 < 0 ∨ 100 < deep ∨ 200 < ks.length ∨ 300 < d.length then (false, left - 1) else fewL (left - 1) (deep + 1) ks
def fewL : Int → Int → List TT → Bool × Int
  | left, _, [] => (true, left)
  | left, deep, t :: ts => if (fewT left deep t).1 = true then fewL (fewT left deep t).2 deep ts else (false, (fewT left deep t).2)
end
theorem fewL_snoc (deep : Int) (t : TT) : ∀ (ks : List TT) (left : Int), fewL left deep (ks ++ [t]) = if (fewL left deep ks).1 = true then fewT (fewL left deep ks).2 deep t else fewL left deep ks
  | [], left => by
    simp only [List.nil_append, fewL]
    by_cases h : (fewT left deep t).1 = true
    · rw [if_pos h]
      simp
      rw [← h]
    · rw [if_neg h]
      have h : (fewT left deep t).1 = false := by simpa using h
      simp
      rw [← h]
  | x :: ks, left => by
    by_cases h : (fewT left deep x).1 = true
    · have e : fewL left deep (x :: ks) = fewL (fewT left deep x).2 deep ks := by rw [fewL, if_pos h]
      rw [e, List.cons_append, fewL, if_pos h]
      exact fewL_snoc deep t ks _
    · have e : fewL left deep (x :: ks) = (false, (fewT left deep x).2) := by rw [fewL, if_neg h]
      rw [e, List.cons_append, fewL, if_neg h, if_neg (by simp)]
theorem fewL_false (deep : Int) : ∀ (ks : List TT) (left : Int) (j : Nat), j ≤ ks.length → (fewL left deep (ks.take j)).1 = false → fewL left deep ks = fewL left deep (ks.take j)
  | ks, left, 0, _, h => by simp [fewL] at h
  | [], left, j + 1, hj, h => by simp at hj
  | x :: ks, left, j + 1, hj, h => by
    simp only [List.take_succ_cons, fewL] at h ⊢
    split at h
    · rename_i hx
      rw [if_pos hx, if_pos hx]
      exact fewL_false deep ks _ j (by simpa using hj) h
    · rename_i hx
      rw [if_neg hx, if_neg hx]
theorem few_le : ∀ (t : TT) (left deep : Int), (fewT left deep t).2 < left ∧ ((fewT left deep t).1 = true → 0 ≤ (fewT left deep t).2 ∧ (wT t : Int) ≤ 301 * (left - (fewT left deep t).2)) := by
  refine TT.ind fun nn bb d ks ih left deep => ?_
  have key : ∀ (ks : List TT), (∀ t ∈ ks, ∀ left deep : Int, (fewT left deep t).2 < left ∧ ((fewT left deep t).1 = true → 0 ≤ (fewT left deep t).2 ∧ (wT t : Int) ≤ 301 * (left - (fewT left deep t).2))) →
      ∀ left deep : Int, (fewL left deep ks).2 ≤ left ∧ ((fewL left deep ks).1 = true → (0 ≤ left → 0 ≤ (fewL left deep ks).2) ∧ (wL ks : Int) ≤ 301 * (left - (fewL left deep ks).2)) := by
    intro ks
    induction ks with
    | nil => intro _ left deep; simp [fewL, wL]
    | cons t ks ihk =>
      intro h left deep
      have h1 := h t List.mem_cons_self left deep
      simp only [fewL, wL]
      split
      · rename_i ht
        have h2 := ihk (fun t ht => h t (List.mem_cons_of_mem _ ht)) (fewT left deep t).2 deep
        have h3 := h1.2 ht
        refine ⟨by omega, fun hh => ?_⟩
        have h4 := h2.2 hh
        refine ⟨fun _ => h4.1 h3.1, ?_⟩
        push_cast
        omega
      · exact ⟨by simp only; omega, fun hh => by cases hh⟩
  rw [fewT]
  split
  · exact ⟨by simp only; omega, fun hh => by cases hh⟩
  · rename_i hc
    have h1 := key ks ih (left - 1) (deep + 1)
    refine ⟨by omega, fun hh => ?_⟩
    have h2 := h1.2 hh
    refine ⟨h2.1 (by omega), ?_⟩
    rw [wT]
    push_cast
    omega
/-- What few promises. -/
def FewAt (P : Nat → Prop) (gl : Nat) (t : TT) : Prop := ∀ (v : TV) (w : World) (left : Int) (deep : Nat), Rep w P v t → (∀ b, P b → b ≠ gl) → Blk w gl 3 [.int .i64 left] → 0 ≤ left → left ≤ 300 → deep ≤ 101 →
  Calls Try.prog 9 #[v.val, .pointer (some ⟨gl, 0, none⟩), .int .i64 (deep : Int)] w fun e w' => e = .returned (.bool (fewT left deep t).1) ∧ Blk w' gl 3 [.int .i64 (fewT left deep t).2] ∧ Chg w w' (· = gl)
set_option maxRecDepth 100000 in
set_option maxHeartbeats 4000000 in
theorem few_any {P : Nat → Prop} {gl : Nat} : ∀ t, FewAt P gl t := by
  refine TT.ind fun nn bb d ks ih => ?_
  intro v w left deep hR hP hL hl0 hl1 hdp
  obtain ⟨rfl, rfl, hnum, hdn, hD, hkn, xs, hxl, hK, hr⟩ := hR.inv
  obtain ⟨hb, h1⟩ := box_new w v
  have HIh := hid ih
  have HP := hid hP
  have H1 := hid (show RepL w P v.K ks xs from ⟨hkn, hxl, hK, hr⟩)
  rw [fewT]
  have hvc : v.cells.toArray = #[.int .u64 (v.num : Int), .bool v.bl, .slice v.D.A v.D.n v.D.c, .slice v.K.A v.K.n v.K.c] := rfl
  rw [hvc] at hb h1
  have HX := hid h1
  have HB := hid hb
  obtain ⟨x0, x1, x2, x3⟩ := h1.four
  have HN := hid (show v.K.n = ks.length from hkn)
  have HDn := hid (show v.D.n = d.length from hdn)
  have HLb := hid (hL.keep hb)
  have HCb := hid hL.lt
  obtain ⟨res, hres⟩ : ∃ res, res = (if left - 1 < 0 ∨ 100 < (deep : Int) ∨ 200 < ks.length ∨ 300 < d.length then (false, left - 1) else fewL (left - 1) ((deep : Int) + 1) ks) := ⟨_, rfl⟩
  rw [← hres]
  obtain ⟨RR, hRR⟩ : ∃ RR : Ending → World → Prop, RR = fun e w' => e = .returned (.bool res.1) ∧ Blk w' gl 3 [.int .i64 res.2] ∧ Chg w w' (· = gl) := ⟨_, rfl⟩
  rw [← hRR]
  have HRR := hid hRR
  have HRes := hid hres
  clear hRR hres ih hr hb h1 hD hK hR hvc hnum hdn hkn hxl hP hL
  unfold TV.val
  obtain ⟨num, bl, ⟨DA, Dn, Dc⟩, ⟨KA, n, Kc⟩⟩ := v
  simp only at *
  go_enter Try.func9, Try.ntmps9
  go_upto_region 1 with (fail)
  generalize w.alloc (.cells #[.int .u64 (num : Int), .bool bl, .slice DA Dn Dc, .slice KA n Kc] 26) = w1 at *
  have l0 := Blk.at HLb.out 0
  have lf := Blk.free HLb.out 0
  simp only [List.getElem?_cons_zero] at l0
  have HLc := hid (HLb.out.put 0 (.int .i64 (left - 1)))
  have HXc := hid (HX.out.other (p := ⟨gl, 0, none⟩) (by have := HCb.out; simp only; omega) (.int .i64 (left - 1)))
  have HBc := hid (show Chg w (w1.setCell ⟨gl, 0, none⟩ (.int .i64 (left - 1))) (· = gl) from (Chg.of_below HB.out (· = gl)).set gl 0 rfl _)
  go_upto_region 2 with (fail)
  clear HB HX HLb l0 lf x0 x1 x2 x3
  change Code.wp _ _ _ _ (w1.setCell ⟨gl, 0, none⟩ (.int .i64 (left - 1)))
  generalize w1.setCell ⟨gl, 0, none⟩ (.int .i64 (left - 1)) = w2 at *
  have l0 := Blk.at HLc.out 0
  simp only [List.set_cons_zero, List.getElem?_cons_zero] at l0
  obtain ⟨x0, x1, x2, x3⟩ := BoxT.four (v := ⟨num, bl, ⟨DA, Dn, Dc⟩, ⟨KA, n, Kc⟩⟩) HXc.out
  simp only at x0 x1 x2 x3
  have hfin : ∀ (b : Bool), left - 1 < 0 ∨ 100 < (deep : Int) ∨ 200 < ks.length ∨ 300 < d.length → RR (.returned (.bool false)) w2 := fun _ hcond => by
    rw [HRR.out, HRes.out, if_pos hcond]
    exact ⟨rfl, HLc.out, HBc.out⟩
  have HFin := hid hfin
  clear hfin
  by_cases c1 : left - 1 < 0
  · go_wp2_with fail
    show RR (.returned (.bool false)) w2
    exact HFin.out true (.inl c1)
  by_cases c2 : (100 : Int) < (deep : Int)
  · go_wp2_with fail
    show RR (.returned (.bool false)) w2
    exact HFin.out true (.inr (.inl c2))
  by_cases c3 : (200 : Int) < (n : Int)
  · go_wp2_with fail
    show RR (.returned (.bool false)) w2
    exact HFin.out true (.inr (.inr (.inl (by have := HN.out; omega))))
  by_cases c4 : (300 : Int) < (Dn : Int)
  · go_wp2_with fail
    show RR (.returned (.bool false)) w2
    exact HFin.out true (.inr (.inr (.inr (by have := HDn.out; omega))))
  have HRs2 := hid (show res = fewL (left - 1) ((deep : Int) + 1) ks by
    rw [HRes.out, if_neg]
    have := HN.out
    have := HDn.out
    omega)
  clear HFin HRes
  have hnb : n ≤ 200 := by omega
  go_wp2_with fail
  go_loopw [37] (fun i wr => ∃ q : Nat, q ≤ n ∧ i = .int .i64 q ∧ Hid ((fewL (left - 1) ((deep : Int) + 1) (ks.take q)).1 = true) ∧ Hid (Blk wr gl 3 [.int .i64 (fewL (left - 1) ((deep : Int) + 1) (ks.take q)).2]) ∧ Hid (0 ≤ (fewL (left - 1) ((deep : Int) + 1) (ks.take q)).2 ∧ (fewL (left - 1) ((deep : Int) + 1) (ks.take q)).2 ≤ 300) ∧ Hid (Chg w wr (· = gl))) (fun i _ => n - (intOf i).toNat)
  case atStart => exact ⟨0, by omega, rfl, hid (by simp [fewL]), hid (by simpa [fewL] using HLc.out), hid (by simp [fewL]; omega), HBc⟩
  case round =>
    clear HLc HXc HBc l0 x0 x1 x2 x3
    obtain ⟨q, hq, rfl, HVq, HE, HLe, HB⟩ := hrel
    by_cases hlt : q < n
    · have hlt' : (q : Int) < (n : Int) := by omega
      have hk1 : q < ks.length := by rw [← HN.out]; exact hlt
      have hq1 : q < xs.length := by rw [H1.out.l]; exact hk1
      obtain ⟨b1, o1, hA, hbl, hPb, g1⟩ := Rw.range H1.out.r hq1
      have hA' : KA = some ⟨b1, o1, none⟩ := hA
      have HR1 := hid (H1.out.each q hq1 hk1)
      obtain ⟨y, hy⟩ : ∃ y, y = xs[q] := ⟨_, rfl⟩
      obtain ⟨u, hu⟩ : ∃ u, u = ks[q] := ⟨_, rfl⟩
      rw [← hy] at g1 HR1
      rw [← hu] at HR1
      have HU := hid hu
      have g1' := range_keep g1 (HB.out.block b1 hbl (HP.out b1 hPb))
      have hbx := row_new wr 26 #[.int .u64 0, .bool false, .slice none 0 0, .slice none 0 0] y.cells.toArray
      have hX4 : Blk ((wr.alloc (.cells #[.int .u64 0, .bool false, .slice none 0 0, .slice none 0 0] 26)).setRow wr.heap.size y.cells.toArray) wr.heap.size 26 y.cells := setRow_heap _ _ _ _ _ (0, 0) (heap_alloc_new wr _)
      obtain ⟨W4, hW4⟩ : ∃ W4, W4 = (wr.alloc (.cells #[.int .u64 0, .bool false, .slice none 0 0, .slice none 0 0] 26)).setRow wr.heap.size y.cells.toArray := ⟨_, rfl⟩
      rw [← hW4] at hbx hX4
      have hB4 := HB.out.trans (Chg.of_below hbx _)
      obtain ⟨e0, e1, e2, e3⟩ := tv_range g1'
      have hx4 : BoxT W4 wr.heap.size y := hX4
      obtain ⟨z0, z1, z2, z3⟩ := hx4.four
      have HB4 := hid hB4
      have HBx := hid hbx
      have HW4 := hid hW4
      have HSf := hid (tv_size y)
      have HOf := hid (tv_one y)
      have HR4 := hid (HR1.out.mono (fun b hp hl => hB4.block b hl (HP.out b hp)) hB4.size (fun _ h _ => h))
      have HT := hid (show fewL (left - 1) ((deep : Int) + 1) (ks.take (q + 1)) = fewT (fewL (left - 1) ((deep : Int) + 1) (ks.take q)).2 ((deep : Int) + 1) u by
        rw [List.take_add_one, List.getElem?_eq_getElem hk1, ← hu, Option.toList_some, fewL_snoc, if_pos HVq.out])
      have HK := hid hk1
      have HCl := hid (HIh.out u (by rw [hu]; exact List.getElem_mem _) y W4 (fewL (left - 1) ((deep : Int) + 1) (ks.take q)).2 (deep + 1) HR4.out HP.out (HE.out.keep hbx) HLe.out.1 HLe.out.2 (by omega))
      unfold TV.val at HCl
      clear hbx hX4 hB4 hW4 g1 g1' hbl hPb hA hy hu hx4 HR1
      rw [hA']
      obtain ⟨r, hr⟩ : ∃ r, r = fewT (fewL (left - 1) ((deep : Int) + 1) (ks.take q)).2 ((deep : Int) + 1) u := ⟨_, rfl⟩
      have hle := few_le u (fewL (left - 1) ((deep : Int) + 1) (ks.take q)).2 ((deep : Int) + 1)
      rw [show ((deep + 1 : Nat) : Int) = (deep : Int) + 1 by omega, ← hr] at HCl
      rw [← hr] at hle HT
      have HLr := hid hle
      obtain ⟨rb, rn⟩ := r
      clear hr hle
      cases rb
      · go_wp2_with (first
          | ((with_reducible refine wpList_store_row rfl 26 _ _ rfl wr.heap.size y.cells.toArray ?_ ?_ 26 #[.int .u64 0, .bool false, .slice none 0 0, .slice none 0 0] (heap_alloc_new wr _) HSf.out ?_ HOf.out ?_); exact rfl; exact rfl; exact rfl; rw [← HW4.out])
          | (go_at_call 9; (with_reducible refine HCl.out.mono ?_); rintro e w6 ⟨rfl, hy6, hc6⟩; have HY6 := hid hy6; have HB6 := hid (HB4.out.trans hc6); clear hy6 hc6 z0 z1 z2 z3 e0 e1 e2 e3))
        show RR (.returned (.bool false)) w6
        rw [HRR.out, HRs2.out, fewL_false _ _ _ (q + 1) HK.out (by rw [HT.out]), HT.out]
        exact ⟨rfl, HY6.out, HB6.out⟩
      · go_wp2_with (first
          | ((with_reducible refine wpList_store_row rfl 26 _ _ rfl wr.heap.size y.cells.toArray ?_ ?_ 26 #[.int .u64 0, .bool false, .slice none 0 0, .slice none 0 0] (heap_alloc_new wr _) HSf.out ?_ HOf.out ?_); exact rfl; exact rfl; exact rfl; rw [← HW4.out])
          | (go_at_call 9; (with_reducible refine HCl.out.mono ?_); rintro e w6 ⟨rfl, hy6, hc6⟩; have HY6 := hid hy6; have HB6 := hid (HB4.out.trans hc6); clear hy6 hc6 z0 z1 z2 z3 e0 e1 e2 e3))
        exact ⟨⟨q + 1, by omega, by go_num, hid (by rw [HT.out]), hid (by rw [HT.out]; exact HY6.out), hid (by rw [HT.out]; have h1 := HLr.out.1; have h2 := (HLr.out.2 (by first | rfl | trivial)).1; have h3 := HLe.out.2; simp only at h1 h2 ⊢; omega), HB6⟩, by simp [intOf]; omega⟩
    · obtain rfl : q = n := by omega
      have e : ks.take q = ks := by rw [HN.out, List.take_length]
      rw [e] at HVq HE
      clear e
      go_wp2_with fail
      show RR (.returned (.bool true)) _
      rw [HRR.out, HRs2.out, HVq.out]
      exact ⟨rfl, HE.out, HB.out⟩
end Go.Proofs.Ytdhipmdapodpkaa
