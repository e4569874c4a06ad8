/- spec: alikeField. -/
import Derived.Test.YtfcccfplmdjndaaGreatSpX
import Derived.Deep.RegionHeld3
namespace Go.Proofs.YtfcccfplmdjndaaGreat
set_option linter.unusedSimpArgs false
set_option linter.unusedVariables false
open Go.RowKit

def alF (x y : FT) : Bool := x.nm.toList == y.nm.toList && (x.dv == y.dv && (x.o.toList == y.o.toList && x.to.toList == y.to.toList))
theorem fbox_new (w : World) (x : FT) : Below w.heap.size w (w.alloc (.cells x.cells.toArray 64)) ∧ Blk (w.alloc (.cells x.cells.toArray 64)) w.heap.size 64 x.cells :=
 ⟨(Below.refl _ _).alloc (Nat.le_refl _) _, heap_alloc_new w _⟩
set_option maxRecDepth 100000 in
set_option maxHeartbeats 1000000 in
theorem alikeField_any (x y : FT) (w : World) : Calls Tryz.prog 92 #[.agg x.cells.toArray, .agg y.cells.toArray] w fun e w' => e = .returned (.bool (alF x y)) ∧ Below w.heap.size w w' := by
 obtain ⟨hA, hX⟩ := fbox_new w x
 obtain ⟨hA2, hY⟩ := fbox_new (w.alloc (.cells x.cells.toArray 64)) y
 rw [World.size_alloc] at hY
 have hX2 := hX.keep hA2
 have HB := hid (hA.trans (hA2.mono hA.size))
 have HX := hid hX2
 have HY := hid hY
 obtain ⟨R, hR⟩ : ∃ R : Ending → World → Prop, R = fun e w' => e = .returned (.bool (alF x y)) ∧ Below w.heap.size w w' := ⟨_, rfl⟩
 rw [← hR]
 have HR := hid hR
 clear hR hA hX hA2 hY hX2
 obtain ⟨nm, ty, dv, o, to⟩ := x
 obtain ⟨nm2, ty2, dv2, o2, to2⟩ := y
 simp only [FT.cells] at HB HX HY ⊢
 go_enter Tryz.func92, Tryz.ntmps92
 go_wp2
 all_goals
  rw [HR.out]
  refine ⟨?_, ((Below.refl _ _).alloc (Nat.le_refl _) _).alloc (by simp) _⟩
  clear HB HX HY HR
  simp_all [alF]
end Go.Proofs.YtfcccfplmdjndaaGreat

/- spec: alike. -/
namespace Go.Proofs.YtfcccfplmdjndaaGreat
set_option linter.unusedSimpArgs false
set_option linter.unusedVariables false
open Go.RowKit

set_option maxRecDepth 100000 in
set_option maxHeartbeats 1000000 in
theorem al1_any (x y : CT) (w : World) : Calls Tryz.prog 94 #[.agg x.cells.toArray, .agg y.cells.toArray] w fun e w' => e = .returned (.bool (x.v == y.v)) ∧ Below w.heap.size w w' := by
 obtain ⟨R, hR⟩ : ∃ R : Ending → World → Prop, R = fun e w' => e = .returned (.bool (x.v == y.v)) ∧ Below w.heap.size w w' := ⟨_, rfl⟩
 rw [← hR]
 have HR := hid hR
 clear hR
 obtain ⟨v, ty⟩ := x
 obtain ⟨v2, ty2⟩ := y
 simp only [CT.cells]
 go_enter Tryz.func94, Tryz.ntmps94
 go_wp2
 all_goals
  rw [HR.out]
  refine ⟨?_, ((Below.refl _ _).alloc (Nat.le_refl _) _).alloc (by simp) _⟩
  clear HR
  simp_all
  all_goals (rw [Bool.eq_iff_iff]; simp; omega)
def eqL {α : Type} (e : α → α → Bool) : List α → List α → Bool
 | [], [] => true
 | x :: xs, y :: ys => e x y && eqL e xs ys
 | _, _ => false
theorem eqL_ne {α : Type} {e : α → α → Bool} : ∀ {xs ys : List α}, xs.length ≠ ys.length → eqL e xs ys = false
 | [], [], h => absurd rfl h
 | [], _ :: _, _ => rfl
 | _ :: _, [], _ => rfl
 | x :: xs, y :: ys, h => by
  unfold eqL
  rw [eqL_ne (by simpa using h), Bool.and_false]
theorem case_cell {w : World} {P : Nat → Prop} {S : SV} {cs : List CT} (h : Rw w P S (flatC cs)) {q : Nat} (hq : q < cs.length) : ∃ b o, S.A = some ⟨b, o, none⟩ ∧ b < w.heap.size ∧ P b ∧ w.cell? ⟨b, o + q * 2, none⟩ = some (.int .u64 (cs[q].v : Int)) ∧ w.cell? ⟨b, o + q * 2 + 1, none⟩ = some (.int .i64 cs[q].ty) := by
 obtain ⟨b, o, hA, hl, hP, hc⟩ := h.at (by rw [flatC_len]; omega)
 have hcell : ∀ i, i < 2 → w.cell? ⟨b, o + q * 2 + i, none⟩ = cs[q].cells[i]? := fun i hi => by
  rw [Nat.add_assoc, hc (q * 2 + i) (by rw [flatC_len]; omega)]
  exact flat_get (f := CT.cells) (m := 2) (fun _ => rfl) cs q i hq hi
 exact ⟨b, o, hA, hl, hP, hcell 0 (by decide), hcell 1 (by decide)⟩
set_option maxRecDepth 100000 in
set_option maxHeartbeats 2000000 in
theorem eqC_any {P : Nat → Prop} (s1 s2 : SV) (xs ys : List CT) (w : World) (h1 : Rw w P s1 (flatC xs)) (h2 : Rw w P s2 (flatC ys)) (n1 : s1.n = xs.length) (n2 : s2.n = ys.length) (hl1 : s1.n ≤ 1048576) (hl2 : s2.n ≤ 1048576) :
  Calls Tryz.prog 93 #[s1.val, s2.val, .func (.func 94) #[] #[]] w fun e w' => e = .returned (.bool (eqL (fun x y : CT => x.v == y.v) xs ys)) ∧ Below w.heap.size w w' := by
 obtain ⟨A, n, c⟩ := s1
 obtain ⟨A2, m, c2⟩ := s2
 unfold SV.val
 simp only at n1 n2 hl1 hl2 ⊢
 obtain ⟨b, hb⟩ : ∃ b, b = eqL (fun x y : CT => x.v == y.v) xs ys := ⟨_, rfl⟩
 rw [← hb]
 have hent : ∀ args w, (callFunc 94 args).run Tryz.prog w = .ok (.enter 94 args) w := enters_of Tryz.func94 (by kernel_rfl) rfl
 by_cases hnm : n = m
 ·subst hnm
  have HZ := hid (show b = eqL (fun x y : CT => x.v == y.v) (xs.drop 0) (ys.drop 0) from hb)
  have H1 := hid h1
  have H2 := hid h2
  have HN := hid (And.intro n1 n2)
  clear hb h1 h2 n1 n2
  go_enter Tryz.func93, Tryz.ntmps93
  go_wp2_with fail
  go_loopw [17] (fun i wr => ∃ q : Nat, q ≤ n ∧ i = .int .i64 q ∧ Hid (b = eqL (fun x y : CT => x.v == y.v) (xs.drop q) (ys.drop q)) ∧ Hid (Below w.heap.size w wr)) (fun i _ => n - (intOf i).toNat)
  case atStart => exact ⟨0, by omega, rfl, HZ, hid (Below.refl _ _)⟩
  case round =>
   clear HZ
   obtain ⟨q, hq, rfl, HZ, HB⟩ := hrel
   by_cases hlt : q < n
   ·have hlt' : (q : Int) < (n : Int) := by omega
    have hq1 : q < xs.length := by rw [← HN.out.1]; exact hlt
    have hq2 : q < ys.length := by rw [← HN.out.2]; exact hlt
    obtain ⟨b1, o1, hA, hbl, _, c0, c1⟩ := case_cell H1.out hq1
    obtain ⟨b2, o2, hA2, hbl2, _, d0, d1⟩ := case_cell H2.out hq2
    have hA' : A = some ⟨b1, o1, none⟩ := hA
    have hA2' : A2 = some ⟨b2, o2, none⟩ := hA2
    obtain ⟨f, hf⟩ : ∃ f, f = xs[q] := ⟨_, rfl⟩
    obtain ⟨g, hg⟩ : ∃ g, g = ys[q] := ⟨_, rfl⟩
    rw [← hf] at c0 c1
    rw [← hg] at d0 d1
    have HZ4 := hid (show b = ((f.v == g.v) && eqL (fun x y : CT => x.v == y.v) (xs.drop (q + 1)) (ys.drop (q + 1))) by rw [HZ.out, List.drop_eq_getElem_cons hq1, List.drop_eq_getElem_cons hq2, hf, hg]; rfl)
    have e0 := (World.cell?_of_block (w := w) (a := ⟨b1, o1 + q * 2, none⟩) (HB.out.block b1 hbl)).trans c0
    have e1 := (World.cell?_of_block (w := w) (a := ⟨b1, o1 + q * 2 + 1, none⟩) (HB.out.block b1 hbl)).trans c1
    have hbx := row_new wr 121 #[.int .u64 0, .int .i64 0] f.cells.toArray
    have hX4 : Blk ((wr.alloc (.cells #[.int .u64 0, .int .i64 0] 121)).setRow wr.heap.size f.cells.toArray) wr.heap.size 121 f.cells := setRow_heap _ _ _ _ _ (0, 0) (heap_alloc_new wr _)
    obtain ⟨W4, hW4⟩ : ∃ W4, W4 = (wr.alloc (.cells #[.int .u64 0, .int .i64 0] 121)).setRow wr.heap.size f.cells.toArray := ⟨_, rfl⟩
    rw [← hW4] at hbx hX4
    have hB4 := HB.out.trans (hbx.mono HB.out.size)
    have k0 := (World.cell?_of_block (w := w) (a := ⟨b2, o2 + q * 2, none⟩) (hB4.block b2 hbl2)).trans d0
    have k1 := (World.cell?_of_block (w := w) (a := ⟨b2, o2 + q * 2 + 1, none⟩) (hB4.block b2 hbl2)).trans d1
    have hbx5 := row_new W4 121 #[.int .u64 0, .int .i64 0] g.cells.toArray
    have hX5 : Blk ((W4.alloc (.cells #[.int .u64 0, .int .i64 0] 121)).setRow W4.heap.size g.cells.toArray) W4.heap.size 121 g.cells := setRow_heap _ _ _ _ _ (0, 0) (heap_alloc_new W4 _)
    obtain ⟨W5, hW5⟩ : ∃ W5, W5 = (W4.alloc (.cells #[.int .u64 0, .int .i64 0] 121)).setRow W4.heap.size g.cells.toArray := ⟨_, rfl⟩
    rw [← hW5] at hbx5 hX5
    have hB5 := hB4.trans (hbx5.mono hB4.size)
    have hX45 := hX4.keep hbx5
    have z0 := Blk.at hX45 0
    have z1 := Blk.at hX45 1
    have z2 := Blk.at hX5 0
    have z3 := Blk.at hX5 1
    simp only [CT.cells, List.getElem?_cons_zero, List.getElem?_cons_succ] at z0 z1 z2 z3
    have HAl := hid (show Calls Tryz.prog 94 #[.agg #[.int .u64 (f.v : Int), .int .i64 f.ty], .agg #[.int .u64 (g.v : Int), .int .i64 g.ty]] W5 _ from al1_any f g W5)
    have HB5 := hid hB5
    have HW4 := hid hW4
    have HW5 := hid hW5
    have hszf : (Tryz.prog.info? 121).map (·.size) = some f.cells.toArray.size := by rw [show f.cells.toArray.size = 2 from rfl]; kernel_rfl
    have hszg : (Tryz.prog.info? 121).map (·.size) = some g.cells.toArray.size := by rw [show g.cells.toArray.size = 2 from rfl]; kernel_rfl
    have HSf := hid hszf
    have HSg := hid hszg
    have HOf := hid (show f.cells.toArray.all (·.oneCell') = true by simp [CT.cells, Value.oneCell'])
    have HOg := hid (show g.cells.toArray.all (·.oneCell') = true by simp [CT.cells, Value.oneCell'])
    clear hbx hX4 hB4 hbx5 hX5 hB5 hX45 hW4 hW5 c0 c1 d0 d1 hbl hbl2 hA hA2 hf hg HZ hszf hszg
    rw [hA', hA2']
    go_wp2_with (first
     | ((with_reducible refine wpList_store_row rfl 121 _ _ rfl wr.heap.size f.cells.toArray ?_ ?_ 121 #[.int .u64 0, .int .i64 0] (heap_alloc_new wr _) HSf.out ?_ HOf.out ?_); exact rfl; exact rfl; exact rfl; rw [← HW4.out])
     | ((with_reducible refine wpList_store_row rfl 121 _ _ rfl W4.heap.size g.cells.toArray ?_ ?_ 121 #[.int .u64 0, .int .i64 0] (heap_alloc_new W4 _) HSg.out ?_ HOg.out ?_); exact rfl; exact rfl; exact rfl; rw [← HW5.out])
     | (go_at_call 94; (with_reducible refine HAl.out.mono ?_); rintro e w6 ⟨rfl, hb6⟩; have HB6 := hid (HB5.out.trans (hb6.mono HB5.out.size)); clear hb6))
    all_goals
     rename_i hne
     first
      | (have hfg : (f.v == g.v) = false := by simpa using hne
         go_ret
         exact ⟨by rw [HZ4.out, hfg]; rfl, HB6.out⟩)
      | (have hfg : (f.v == g.v) = true := by simpa using hne
         exact ⟨⟨q + 1, by omega, by go_num, hid (by rw [HZ4.out, hfg, Bool.true_and]), HB6⟩, by simp [intOf]; omega⟩)
   ·obtain rfl : q = n := by omega
    have HZ5 := hid (show b = true by rw [HZ.out, HN.out.1, List.drop_length, ← HN.out.1, HN.out.2, List.drop_length]; rfl)
    go_wp2
    go_ret
    exact ⟨by rw [HZ5.out]; rfl, HB.out⟩
 ·have HZ := hid (show b = false by rw [hb]; exact eqL_ne (by omega))
  have hnm' : ¬ (n : Int) = (m : Int) := by omega
  clear hb h1 h2 n1 n2
  go_enter Tryz.func93, Tryz.ntmps93
  go_wp2
  exact bodyPost_ret (results_tmp rfl _ _ _) rfl ⟨by rw [HZ.out]; rfl, Below.refl _ _⟩
end Go.Proofs.YtfcccfplmdjndaaGreat

/- spec: slices.EqualFunc over fields. -/
namespace Go.Proofs.YtfcccfplmdjndaaGreat
set_option linter.unusedSimpArgs false
set_option linter.unusedVariables false
open Go.RowKit

theorem field_cell {w : World} {P : Nat → Prop} {S : SV} {cs : List FT} (h : Rw w P S (flatF cs)) {q : Nat} (hq : q < cs.length) : ∃ b o, S.A = some ⟨b, o, none⟩ ∧ b < w.heap.size ∧ P b ∧ w.cell? ⟨b, o + q * 5, none⟩ = some (.string cs[q].nm) ∧ w.cell? ⟨b, o + q * 5 + 1, none⟩ = some (.int .i64 cs[q].ty) ∧ w.cell? ⟨b, o + q * 5 + 2, none⟩ = some (.int .i64 cs[q].dv) ∧ w.cell? ⟨b, o + q * 5 + 3, none⟩ = some (.string cs[q].o) ∧ w.cell? ⟨b, o + q * 5 + 4, none⟩ = some (.string cs[q].to) := by
 obtain ⟨b, o, hA, hl, hP, hc⟩ := h.at (by rw [flatF_len]; omega)
 have hcell : ∀ i, i < 5 → w.cell? ⟨b, o + q * 5 + i, none⟩ = cs[q].cells[i]? := fun i hi => by
  rw [Nat.add_assoc, hc (q * 5 + i) (by rw [flatF_len]; omega)]
  exact flat_get (f := FT.cells) (m := 5) (fun _ => rfl) cs q i hq hi
 exact ⟨b, o, hA, hl, hP, hcell 0 (by decide), hcell 1 (by decide), hcell 2 (by decide), hcell 3 (by decide), hcell 4 (by decide)⟩
set_option maxRecDepth 100000 in
set_option maxHeartbeats 2000000 in
theorem eqF_any {P : Nat → Prop} (s1 s2 : SV) (xs ys : List FT) (w : World) (h1 : Rw w P s1 (flatF xs)) (h2 : Rw w P s2 (flatF ys)) (n1 : s1.n = xs.length) (n2 : s2.n = ys.length) (hl1 : s1.n ≤ 1048576) (hl2 : s2.n ≤ 1048576) :
  Calls Tryz.prog 91 #[s1.val, s2.val, .func (.func 92) #[] #[]] w fun e w' => e = .returned (.bool (eqL alF xs ys)) ∧ Below w.heap.size w w' := by
 obtain ⟨A, n, c⟩ := s1
 obtain ⟨A2, m, cap2⟩ := s2
 unfold SV.val
 simp only at n1 n2 hl1 hl2 ⊢
 obtain ⟨b, hb⟩ : ∃ b, b = eqL alF xs ys := ⟨_, rfl⟩
 rw [← hb]
 have hent : ∀ args w, (callFunc 92 args).run Tryz.prog w = .ok (.enter 92 args) w := enters_of Tryz.func92 (by kernel_rfl) rfl
 by_cases hnm : n = m
 ·subst hnm
  have HZ := hid (show b = eqL alF (xs.drop 0) (ys.drop 0) from hb)
  have H1 := hid h1
  have H2 := hid h2
  have HN := hid (And.intro n1 n2)
  clear hb h1 h2 n1 n2
  go_enter Tryz.func91, Tryz.ntmps91
  go_wp2_with fail
  go_loopw [17] (fun i wr => ∃ q : Nat, q ≤ n ∧ i = .int .i64 q ∧ Hid (b = eqL alF (xs.drop q) (ys.drop q)) ∧ Hid (Below w.heap.size w wr)) (fun i _ => n - (intOf i).toNat)
  case atStart => exact ⟨0, by omega, rfl, HZ, hid (Below.refl _ _)⟩
  case round =>
   clear HZ
   obtain ⟨q, hq, rfl, HZ, HB⟩ := hrel
   by_cases hlt : q < n
   ·have hlt' : (q : Int) < (n : Int) := by omega
    have hq1 : q < xs.length := by rw [← HN.out.1]; exact hlt
    have hq2 : q < ys.length := by rw [← HN.out.2]; exact hlt
    obtain ⟨b1, o1, hA, hbl, _, c0, c1, c2, c3, c4⟩ := field_cell H1.out hq1
    obtain ⟨b2, o2, hA2, hbl2, _, d0, d1, d2, d3, d4⟩ := field_cell H2.out hq2
    have hA' : A = some ⟨b1, o1, none⟩ := hA
    have hA2' : A2 = some ⟨b2, o2, none⟩ := hA2
    obtain ⟨f, hf⟩ : ∃ f, f = xs[q] := ⟨_, rfl⟩
    obtain ⟨g, hg⟩ : ∃ g, g = ys[q] := ⟨_, rfl⟩
    rw [← hf] at c0 c1 c2 c3 c4
    rw [← hg] at d0 d1 d2 d3 d4
    have HZ4 := hid (show b = ((alF f g) && eqL alF (xs.drop (q + 1)) (ys.drop (q + 1))) by rw [HZ.out, List.drop_eq_getElem_cons hq1, List.drop_eq_getElem_cons hq2, hf, hg]; rfl)
    have e0 := (World.cell?_of_block (w := w) (a := ⟨b1, o1 + q * 5, none⟩) (HB.out.block b1 hbl)).trans c0
    have e1 := (World.cell?_of_block (w := w) (a := ⟨b1, o1 + q * 5 + 1, none⟩) (HB.out.block b1 hbl)).trans c1
    have e2 := (World.cell?_of_block (w := w) (a := ⟨b1, o1 + q * 5 + 2, none⟩) (HB.out.block b1 hbl)).trans c2
    have e3 := (World.cell?_of_block (w := w) (a := ⟨b1, o1 + q * 5 + 3, none⟩) (HB.out.block b1 hbl)).trans c3
    have e4 := (World.cell?_of_block (w := w) (a := ⟨b1, o1 + q * 5 + 4, none⟩) (HB.out.block b1 hbl)).trans c4
    have hbx := row_new wr 64 #[.string ⟨#[]⟩, .int .i64 0, .int .i64 0, .string ⟨#[]⟩, .string ⟨#[]⟩] f.cells.toArray
    have hX4 : Blk ((wr.alloc (.cells #[.string ⟨#[]⟩, .int .i64 0, .int .i64 0, .string ⟨#[]⟩, .string ⟨#[]⟩] 64)).setRow wr.heap.size f.cells.toArray) wr.heap.size 64 f.cells := setRow_heap _ _ _ _ _ (0, 0) (heap_alloc_new wr _)
    obtain ⟨W4, hW4⟩ : ∃ W4, W4 = (wr.alloc (.cells #[.string ⟨#[]⟩, .int .i64 0, .int .i64 0, .string ⟨#[]⟩, .string ⟨#[]⟩] 64)).setRow wr.heap.size f.cells.toArray := ⟨_, rfl⟩
    rw [← hW4] at hbx hX4
    have hB4 := HB.out.trans (hbx.mono HB.out.size)
    have k0 := (World.cell?_of_block (w := w) (a := ⟨b2, o2 + q * 5, none⟩) (hB4.block b2 hbl2)).trans d0
    have k1 := (World.cell?_of_block (w := w) (a := ⟨b2, o2 + q * 5 + 1, none⟩) (hB4.block b2 hbl2)).trans d1
    have k2 := (World.cell?_of_block (w := w) (a := ⟨b2, o2 + q * 5 + 2, none⟩) (hB4.block b2 hbl2)).trans d2
    have k3 := (World.cell?_of_block (w := w) (a := ⟨b2, o2 + q * 5 + 3, none⟩) (hB4.block b2 hbl2)).trans d3
    have k4 := (World.cell?_of_block (w := w) (a := ⟨b2, o2 + q * 5 + 4, none⟩) (hB4.block b2 hbl2)).trans d4
    have hbx5 := row_new W4 64 #[.string ⟨#[]⟩, .int .i64 0, .int .i64 0, .string ⟨#[]⟩, .string ⟨#[]⟩] g.cells.toArray
    have hX5 : Blk ((W4.alloc (.cells #[.string ⟨#[]⟩, .int .i64 0, .int .i64 0, .string ⟨#[]⟩, .string ⟨#[]⟩] 64)).setRow W4.heap.size g.cells.toArray) W4.heap.size 64 g.cells := setRow_heap _ _ _ _ _ (0, 0) (heap_alloc_new W4 _)
    obtain ⟨W5, hW5⟩ : ∃ W5, W5 = (W4.alloc (.cells #[.string ⟨#[]⟩, .int .i64 0, .int .i64 0, .string ⟨#[]⟩, .string ⟨#[]⟩] 64)).setRow W4.heap.size g.cells.toArray := ⟨_, rfl⟩
    rw [← hW5] at hbx5 hX5
    have hB5 := hB4.trans (hbx5.mono hB4.size)
    have hX45 := hX4.keep hbx5
    have z0 := Blk.at hX45 0
    have z1 := Blk.at hX45 1
    have z2 := Blk.at hX45 2
    have z3 := Blk.at hX45 3
    have z4 := Blk.at hX45 4
    have y0 := Blk.at hX5 0
    have y1 := Blk.at hX5 1
    have y2 := Blk.at hX5 2
    have y3 := Blk.at hX5 3
    have y4 := Blk.at hX5 4
    simp only [FT.cells, List.getElem?_cons_zero, List.getElem?_cons_succ] at z0 z1 z2 z3 z4 y0 y1 y2 y3 y4
    have HAl := hid (show Calls Tryz.prog 92 #[.agg #[.string f.nm, .int .i64 f.ty, .int .i64 f.dv, .string f.o, .string f.to], .agg #[.string g.nm, .int .i64 g.ty, .int .i64 g.dv, .string g.o, .string g.to]] W5 _ from alikeField_any f g W5)
    have HB5 := hid hB5
    have HW4 := hid hW4
    have HW5 := hid hW5
    have hszf : (Tryz.prog.info? 64).map (·.size) = some f.cells.toArray.size := by rw [show f.cells.toArray.size = 5 from rfl]; kernel_rfl
    have hszg : (Tryz.prog.info? 64).map (·.size) = some g.cells.toArray.size := by rw [show g.cells.toArray.size = 5 from rfl]; kernel_rfl
    have HSf := hid hszf
    have HSg := hid hszg
    have HOf := hid (show f.cells.toArray.all (·.oneCell') = true by simp [FT.cells, Value.oneCell'])
    have HOg := hid (show g.cells.toArray.all (·.oneCell') = true by simp [FT.cells, Value.oneCell'])
    clear hbx hX4 hB4 hbx5 hX5 hB5 hX45 hW4 hW5 c0 c1 c2 c3 c4 d0 d1 d2 d3 d4 hbl hbl2 hA hA2 hf hg HZ hszf hszg
    rw [hA', hA2']
    go_wp2_with (first
     | ((with_reducible refine wpList_store_row rfl 64 _ _ rfl wr.heap.size f.cells.toArray ?_ ?_ 64 #[.string ⟨#[]⟩, .int .i64 0, .int .i64 0, .string ⟨#[]⟩, .string ⟨#[]⟩] (heap_alloc_new wr _) HSf.out ?_ HOf.out ?_); exact rfl; exact rfl; exact rfl; rw [← HW4.out])
     | ((with_reducible refine wpList_store_row rfl 64 _ _ rfl W4.heap.size g.cells.toArray ?_ ?_ 64 #[.string ⟨#[]⟩, .int .i64 0, .int .i64 0, .string ⟨#[]⟩, .string ⟨#[]⟩] (heap_alloc_new W4 _) HSg.out ?_ HOg.out ?_); exact rfl; exact rfl; exact rfl; rw [← HW5.out])
     | (go_at_call 92; (with_reducible refine HAl.out.mono ?_); rintro e w6 ⟨rfl, hb6⟩; have HB6 := hid (HB5.out.trans (hb6.mono HB5.out.size)); clear hb6))
    all_goals
     rename_i hne
     first
      | (have hfg : (alF f g) = false := by simpa using hne
         go_ret
         exact ⟨by rw [HZ4.out, hfg]; rfl, HB6.out⟩)
      | (have hfg : (alF f g) = true := by simpa using hne
         exact ⟨⟨q + 1, by omega, by go_num, hid (by rw [HZ4.out, hfg, Bool.true_and]), HB6⟩, by simp [intOf]; omega⟩)
   ·obtain rfl : q = n := by omega
    have HZ5 := hid (show b = true by rw [HZ.out, HN.out.1, List.drop_length, ← HN.out.1, HN.out.2, List.drop_length]; rfl)
    go_wp2
    go_ret
    exact ⟨by rw [HZ5.out]; rfl, HB.out⟩
 ·have HZ := hid (show b = false by rw [hb]; exact eqL_ne (by omega))
  have hnm' : ¬ (n : Int) = (m : Int) := by omega
  clear hb h1 h2 n1 n2
  go_enter Tryz.func91, Tryz.ntmps91
  go_wp2
  exact bodyPost_ret (results_tmp rfl _ _ _) rfl ⟨by rw [HZ.out]; rfl, Below.refl _ _⟩
end Go.Proofs.YtfcccfplmdjndaaGreat

/- spec: slices.Equal over bools. -/
namespace Go.Proofs.YtfcccfplmdjndaaGreat
set_option linter.unusedSimpArgs false
set_option linter.unusedVariables false
open Go.RowKit

theorem bool_cell {w : World} {P : Nat → Prop} {S : SV} {cs : List Bool} (h : Rw w P S (boolC cs)) {q : Nat} (hq : q < cs.length) : ∃ b o, S.A = some ⟨b, o, none⟩ ∧ w.cell? ⟨b, o + q, none⟩ = some (.bool cs[q]) := by
 obtain ⟨b, o, hA, hl, hP, hc⟩ := h.at (by rw [boolC_len]; omega)
 refine ⟨b, o, hA, ?_⟩
 rw [hc q (by rw [boolC_len]; omega)]
 simp [boolC, List.getElem?_eq_getElem hq]
set_option maxRecDepth 100000 in
set_option maxHeartbeats 2000000 in
theorem eqB_any {P : Nat → Prop} (s1 s2 : SV) (xs ys : List Bool) (w : World) (h1 : Rw w P s1 (boolC xs)) (h2 : Rw w P s2 (boolC ys)) (n1 : s1.n = xs.length) (n2 : s2.n = ys.length) (hl1 : s1.n ≤ 1048576) (hl2 : s2.n ≤ 1048576) :
  Calls Tryz.prog 90 #[s1.val, s2.val] w fun e w' => e = .returned (.bool (eqL (fun x y : Bool => x == y) xs ys)) ∧ Below w.heap.size w w' := by
 obtain ⟨A, n, c⟩ := s1
 obtain ⟨A2, m, c2⟩ := s2
 unfold SV.val
 simp only at n1 n2 hl1 hl2 ⊢
 obtain ⟨b, hb⟩ : ∃ b, b = eqL (fun x y : Bool => x == y) xs ys := ⟨_, rfl⟩
 rw [← hb]
 by_cases hnm : n = m
 ·subst hnm
  have HZ := hid (show b = eqL (fun x y : Bool => x == y) (xs.drop 0) (ys.drop 0) from hb)
  have H1 := hid h1
  have H2 := hid h2
  have HN := hid (And.intro n1 n2)
  clear hb h1 h2 n1 n2
  go_enter Tryz.func90, Tryz.ntmps90
  go_wp2_with fail
  go_loopw [13] (fun i wr => ∃ q : Nat, q ≤ n ∧ i = .int .i64 q ∧ Hid (b = eqL (fun x y : Bool => x == y) (xs.drop q) (ys.drop q)) ∧ Hid (wr.heap = w.heap ∧ Below w.heap.size w wr)) (fun i _ => n - (intOf i).toNat)
  case atStart => exact ⟨0, by omega, rfl, HZ, hid ⟨rfl, Below.refl _ _⟩⟩
  case round =>
   clear HZ
   obtain ⟨q, hq, rfl, HZ, HB⟩ := hrel
   by_cases hlt : q < n
   ·have hlt' : (q : Int) < (n : Int) := by omega
    have hq1 : q < xs.length := by rw [← HN.out.1]; exact hlt
    have hq2 : q < ys.length := by rw [← HN.out.2]; exact hlt
    obtain ⟨b1, o1, hA, c0⟩ := bool_cell H1.out hq1
    obtain ⟨b2, o2, hA2, d0⟩ := bool_cell H2.out hq2
    have hA' : A = some ⟨b1, o1, none⟩ := hA
    have hA2' : A2 = some ⟨b2, o2, none⟩ := hA2
    have HZ4 := hid (show b = ((xs[q] == ys[q]) && eqL (fun x y : Bool => x == y) (xs.drop (q + 1)) (ys.drop (q + 1))) by rw [HZ.out, List.drop_eq_getElem_cons hq1, List.drop_eq_getElem_cons hq2]; rfl)
    generalize xs[q] = f at *
    generalize ys[q] = g at *
    have e0 : wr.cell? ⟨b1, o1 + q, none⟩ = some (.bool f) := by rw [← c0]; simp only [World.cell?, HB.out.1]
    have e1 : wr.cell? ⟨b2, o2 + q, none⟩ = some (.bool g) := by rw [← d0]; simp only [World.cell?, HB.out.1]
    clear c0 d0 hA hA2 HZ
    rw [hA', hA2']
    have hk : wr.heap = w.heap ∧ wr.cell? ⟨b1, o1 + q, none⟩ = some (.bool f) ∧ wr.cell? ⟨b2, o2 + q, none⟩ = some (.bool g) := ⟨HB.out.1, e0, e1⟩
    go_upto_region 6 with (fail)
    go_region_held3 (fun w' => w'.heap = w.heap ∧ w'.cell? ⟨b1, o1 + q, none⟩ = some (.bool f) ∧ w'.cell? ⟨b2, o2 + q, none⟩ = some (.bool g)) (first | exact hk | assumption) (first | fail)
    cases hfg : (f == g) with
    | false =>
     have hfg2 : (!(f == g)) = true := by rw [hfg]; rfl
     have HZ5 := hid (show b = false by rw [HZ4.out, hfg]; rfl)
     go_wp2_with fail
     all_goals first
      | (exact ⟨by rw [HZ5.out]; rfl, HB.out.2.drew⟩)
      | (go_ret; exact ⟨by rw [HZ5.out]; rfl, HB.out.2.drew⟩)
    | true =>
     have hfg2 : (!(f == g)) = false := by rw [hfg]; rfl
     have HZ5 := hid (show b = eqL (fun x y : Bool => x == y) (xs.drop (q + 1)) (ys.drop (q + 1)) by rw [HZ4.out, hfg, Bool.true_and])
     have HB9 := hid (show wr.drew.heap = w.heap ∧ Below w.heap.size w wr.drew from ⟨HB.out.1, HB.out.2.drew⟩)
     go_wp2_with fail
     all_goals exact ⟨⟨q + 1, by omega, by go_num, HZ5, HB9⟩, by simp [intOf]; omega⟩
   ·obtain rfl : q = n := by omega
    have HZ5 := hid (show b = true by rw [HZ.out, HN.out.1, List.drop_length, ← HN.out.1, HN.out.2, List.drop_length]; rfl)
    go_wp2
    go_ret
    exact ⟨by rw [HZ5.out]; rfl, HB.out.2⟩
 ·have HZ := hid (show b = false by rw [hb]; exact eqL_ne (by omega))
  have hnm' : ¬ (n : Int) = (m : Int) := by omega
  clear hb h1 h2 n1 n2
  go_enter Tryz.func90, Tryz.ntmps90
  go_wp2
  exact bodyPost_ret (results_tmp rfl _ _ _) rfl ⟨by rw [HZ.out]; rfl, Below.refl _ _⟩
end Go.Proofs.YtfcccfplmdjndaaGreat

/- spec: slices.Equal over integers. -/
namespace Go.Proofs.YtfcccfplmdjndaaGreat
set_option linter.unusedSimpArgs false
set_option linter.unusedVariables false
open Go.RowKit

end Go.Proofs.YtfcccfplmdjndaaGreat

/- spec: alike of two types that say the same. -/
namespace Go.Proofs.YtfcccfplmdjndaaGreat
set_option linter.unusedSimpArgs false
set_option linter.unusedVariables false
open Go.RowKit

theorem eqL_refl {α : Type} {e : α → α → Bool} (h : ∀ x, e x x = true) : ∀ l, eqL e l l = true
 | [] => rfl
 | x :: l => by unfold eqL; rw [h, eqL_refl h l]; rfl
theorem alF_refl (x : FT) : alF x x = true := by simp [alF]
set_option maxRecDepth 100000 in
set_option maxHeartbeats 4000000 in
theorem alike_eq {P : Nat → Prop} (x y : NV) (ht : y.t = x.t) (w : World) (hx : NodeOk w P x) (hy : NodeOk w P y) (fx : Fits x) (fy : Fits y) : Calls Tryz.prog 60 #[x.val, y.val] w fun e w' => e = .returned (.bool true) ∧ Below w.heap.size w w' := by
 obtain ⟨cs, hv, hbx⟩ := nbox x
 obtain ⟨ds, hu, hby⟩ := nbox y
 obtain ⟨hA, hN⟩ := hbx w
 obtain ⟨hA2, hN2⟩ := hby (w.alloc (.cells cs 54))
 rw [World.size_alloc] at hN2
 have hN1 := hN.keep hA2
 have HB := hid (hA.trans (hA2.mono hA.size))
 obtain ⟨x0, x1, x2, x3, x4, x5, x6, x7, x8, x9, x10, x11, x12, x13, x14, x15, x16, x17⟩ := hN1.cells
 obtain ⟨y0, y1, y2, y3, y4, y5, y6, y7, y8, y9, y10, y11, y12, y13, y14, y15, y16, y17⟩ := hN2.cells
 have HN1 := hid hN1
 have HN2 := hid hN2
 have HE1 := hid (fun W (hb : Below w.heap.size w W) => eqB_any x.L y.L x.t.ls y.t.ls W (hx.l.keep hb) (hy.l.keep hb) hx.ln hy.ln fx.l fy.l)
 have HE2 := hid (fun W (hb : Below w.heap.size w W) => eqF_any x.F y.F x.t.fs y.t.fs W (hx.f.keep hb) (hy.f.keep hb) hx.fn hy.fn fx.f fy.f)
 have HE3 := hid (fun W (hb : Below w.heap.size w W) => eqC_any x.C y.C x.t.cs y.t.cs W (hx.c.keep hb) (hy.c.keep hb) hx.cn hy.cn fx.c fy.c)
 rw [ht, eqL_refl (fun b => by simp)] at HE1
 rw [ht, eqL_refl alF_refl] at HE2
 rw [ht, eqL_refl (fun b => by simp)] at HE3
 have hkn : y.K.n = x.K.n := by rw [hx.kn, hy.kn, ht]
 rw [hkn] at y11
 rw [ht] at y0 y1 y2 y3 y4 y5 y6 y7 y8 y9 y10 y14 y15
 rw [hv, hu]
 clear hx hy fx fy hbx hby hA hN hA2 hN2 hN1 hkn hv hu x17 y17
 unfold SV.val at HE1 HE2 HE3
 generalize x.t.k = k at *
 generalize x.t.wd = wd at *
 generalize x.t.li = li at *
 generalize x.t.zg = zg at *
 generalize x.t.le = le at *
 generalize x.t.mn = mn at *
 generalize x.t.mx = mx at *
 generalize x.t.tx = tx at *
 generalize x.t.er = er at *
 generalize x.t.mu = mu at *
 generalize x.t.ad = ad at *
 generalize x.t.rg = rg at *
 generalize x.t.md = md at *
 obtain ⟨R, hR⟩ : ∃ R : Ending → World → Prop, R = fun e w' => e = .returned (.bool true) ∧ Below w.heap.size w w' := ⟨_, rfl⟩
 rw [← hR]
 have HR := hid hR
 clear hR
 go_enter Tryz.func60, Tryz.ntmps60
 go_upto_region 1 with (fail)
 change Code.wp _ _ _ _ ((w.alloc (.cells cs 54)).alloc (.cells ds 54))
 generalize (w.alloc (.cells cs 54)).alloc (.cells ds 54) = w2 at *
 go_wp2_with (first
  | (go_at_call 90; (with_reducible refine (HE1.out _ HB.out).mono ?_); rintro e w3 ⟨rfl, hb3⟩; have HB3 := hid (HB.out.trans (hb3.mono HB.out.size)); have HN13 := hid (HN1.out.keep hb3); have HN23 := hid (HN2.out.keep hb3); clear hb3 HB HN1 HN2 x0 x1 x2 x3 x4 x5 x6 x7 x8 x9 x10 x11 x12 x13 x14 x15 x16 y0 y1 y2 y3 y4 y5 y6 y7 y8 y9 y10 y11 y12 y13 y14 y15 y16; have x13 := HN13.out.cells.2.2.2.2.2.2.2.2.2.2.2.2.2.1; have y13 := HN23.out.cells.2.2.2.2.2.2.2.2.2.2.2.2.2.1)
  | (go_at_call 91; (with_reducible refine (HE2.out _ HB3.out).mono ?_); rintro e w4 ⟨rfl, hb4⟩; have HB4 := hid (HB3.out.trans (hb4.mono HB3.out.size)); have HN14 := hid (HN13.out.keep hb4); have HN24 := hid (HN23.out.keep hb4); clear hb4 HB3 HN13 HN23 x13 y13; have x16 := HN14.out.cells.2.2.2.2.2.2.2.2.2.2.2.2.2.2.2.2.1; have y16 := HN24.out.cells.2.2.2.2.2.2.2.2.2.2.2.2.2.2.2.2.1)
  | (go_at_call 93; (with_reducible refine (HE3.out _ HB4.out).mono ?_); rintro e w5 ⟨rfl, hb5⟩; have HB5 := hid (HB4.out.trans (hb5.mono HB4.out.size)); clear hb5 HB4 HN14 HN24 x16 y16))
 show R (.returned (.bool true)) w5
 rw [HR.out]
 exact ⟨rfl, HB5.out⟩
end Go.Proofs.YtfcccfplmdjndaaGreat
