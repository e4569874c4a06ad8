/- spec: may a type be by itself: the parts of the question. -/
import Derived.Test.YtfcccfplmdjndaaGreatSpO
namespace Go.Proofs.YtfcccfplmdjndaaGreat
set_option linter.unusedSimpArgs false
set_option linter.unusedVariables false
open Go.RowKit

def kidB (k : Int) (a b : Nat) : Bool :=
 if k = 6 ∨ k = 7 ∨ k = 8 then decide (a = 1) && decide (b = 0)
 else if k = 10 then decide (0 < a) && decide (b = 0)
 else if k = 11 then decide (0 < a) && decide (b = a)
 else decide (a = 0) && decide (b = 0)
def swB (k : Int) (c : Nat) (rg : ByteArray) (md : Nat) (el : Int) : Bool :=
 if k = 9 then decide (0 < c) && !rg.toList.isEmpty && decide (-1 ≤ el)
 else decide (c = 0) && rg.toList.isEmpty && decide (md = 0) && decide (el = 0)
theorem ret_bool {a b : Bool} (h : a = b) : Ending.returned (.bool a) = .returned (.bool b) := by rw [h]
def NBox (w : World) (g : Nat) (cs : Array Value) (x : NV) : Prop := w.heap[g]? = some (.cells cs 54 (0, 0)) ∧ cs = x.cells.toArray
theorem NBox.keep {w w' : World} {g : Nat} {cs : Array Value} {x : NV} (h : NBox w g cs x) (hb : Below w.heap.size w w') : NBox w' g cs x :=
 ⟨(hb.block g (Array.getElem?_eq_some_iff.1 h.1).1).trans h.1, h.2⟩
theorem NBox.drew {w : World} {g : Nat} {cs : Array Value} {x : NV} (h : NBox w g cs x) : NBox w.drew g cs x := h
theorem NBox.size {w : World} {g : Nat} {cs : Array Value} {x : NV} (h : NBox w g cs x) : (Tryz.prog.info? 54).map (·.size) = some cs.size := by rw [h.2]; exact nv_size x
theorem NBox.cells {w : World} {g : Nat} {cs : Array Value} {x : NV} (h : NBox w g cs x) : w.cell? ⟨g, 0, none⟩ = some (.int .i64 x.t.k) ∧ w.cell? ⟨g, 1, none⟩ = some (.int .i64 x.t.wd) ∧ w.cell? ⟨g, 2, none⟩ = some (.bool x.t.li) ∧ w.cell? ⟨g, 3, none⟩ = some (.bool x.t.zg) ∧ w.cell? ⟨g, 4, none⟩ = some (.bool x.t.le) ∧ w.cell? ⟨g, 5, none⟩ = some (.int .u64 (x.t.mn : Int)) ∧ w.cell? ⟨g, 6, none⟩ = some (.int .u64 (x.t.mx : Int)) ∧ w.cell? ⟨g, 7, none⟩ = some (.string x.t.tx) ∧ w.cell? ⟨g, 8, none⟩ = some (.string x.t.er) ∧ w.cell? ⟨g, 9, none⟩ = some (.int .u64 (x.t.mu : Int)) ∧ w.cell? ⟨g, 10, none⟩ = some (.int .u64 (x.t.ad : Int)) ∧ w.cell? ⟨g, 11, none⟩ = some (.slice x.K.A x.K.n x.K.c) ∧ w.cell? ⟨g, 12, none⟩ = some (.slice x.L.A x.L.n x.L.c) ∧ w.cell? ⟨g, 13, none⟩ = some (.slice x.F.A x.F.n x.F.c) ∧ w.cell? ⟨g, 14, none⟩ = some (.string x.t.rg) ∧ w.cell? ⟨g, 15, none⟩ = some (.int .u64 (x.t.md : Int)) ∧ w.cell? ⟨g, 16, none⟩ = some (.slice x.C.A x.C.n x.C.c) ∧ w.cell? ⟨g, 17, none⟩ = some (.int .i64 x.t.el) := nv_cells (w := w) (g := g) (x := x) (show Blk w g _ _ by rw [← show cs.toList = x.cells by rw [h.2]]; exact h.1)
theorem nbox (x : NV) : ∃ cs : Array Value, x.val = .agg cs ∧ ∀ w : World, Below w.heap.size w (w.alloc (.cells cs 54)) ∧ NBox (w.alloc (.cells cs 54)) w.heap.size cs x :=
 ⟨x.cells.toArray, x.val_eq, fun w => ⟨(nbox_new w x).1, (nbox_new w x).2, rfl⟩⟩
theorem wpList_wanted {P : Program} {ops : Array Oper} {Q : Exit → Act → World → Prop} {a : Act} {w : World} {rest : List Oper} {o : Oper} (hw : Region.wanted o (yielded ops a.tmps) = true)
  (h : ∀ K : Act → World → Prop, (∀ a w, wpList P ops Q rest a w → K a w) → o.wp P a w K Q) : wpList P ops Q (o :: rest) a w :=
 wpList_step fun K hK => by simp only [hw, if_true]; exact h K hK
theorem wpList_load_node {ops : Array Oper} {Q : Exit → Act → World → Prop} {a : Act} {w : World} {rest : List Oper} {o : Oper} {g : Nat} {cs : Array Value} {x : NV} (p : Operand) (ho : o.op = .load 54 p) (hN : NBox w g cs x)
  (hw : Region.wanted o (yielded ops a.tmps) = true) (hx : a.eval p = .pointer (some ⟨g, 0, none⟩)) (h : wpList Tryz.prog ops Q rest (a.put o.dst (.agg cs)) w) : wpList Tryz.prog ops Q (o :: rest) a w :=
 wpList_wanted hw fun _ hK => wp_load_row 54 p ho g hx 54 cs (0, 0) _ hN.1 Tryz.underlying54 rfl hN.size (hK _ _ h)
set_option maxRecDepth 100000 in
set_option maxHeartbeats 2000000 in
theorem kidded_any (x : NV) (w : World) : Calls Tryz.prog 96 #[x.val] w fun e w' => e = .returned (.bool (kidB x.t.k x.K.n x.L.n)) ∧ Below w.heap.size w w' := by
 obtain ⟨hA, hN⟩ := nbox_new w x
 have HA := hid hA
 obtain ⟨x0, _, _, _, _, _, _, _, _, _, _, x11, x12, _⟩ := nv_cells hN
 clear hA hN
 rw [NV.val_eq]
 generalize x.cells.toArray = cs at *
 obtain ⟨t, K, L, F, C⟩ := x
 obtain ⟨KA, Kn, Kc⟩ := K
 obtain ⟨LA, Ln, Lc⟩ := L
 simp only at *
 generalize t.k = k at *
 have hq : ∀ m : Nat, ((m : Int) = 0) = (m = 0) := fun m => by rw [eq_iff_iff]; omega
 by_cases h6 : k = 6
 ·subst h6
  go_enter Tryz.func96, Tryz.ntmps96
  go_wp2
  all_goals go_ret
  all_goals exact ⟨ret_bool (by rw [Bool.eq_iff_iff]; simp [kidB] <;> omega), HA.out⟩
 by_cases h7 : k = 7
 ·subst h7
  go_enter Tryz.func96, Tryz.ntmps96
  go_wp2
  all_goals go_ret
  all_goals exact ⟨ret_bool (by rw [Bool.eq_iff_iff]; simp [kidB] <;> omega), HA.out⟩
 by_cases h8 : k = 8
 ·subst h8
  go_enter Tryz.func96, Tryz.ntmps96
  go_wp2
  all_goals go_ret
  all_goals exact ⟨ret_bool (by rw [Bool.eq_iff_iff]; simp [kidB] <;> omega), HA.out⟩
 by_cases h10 : k = 10
 ·subst h10
  go_enter Tryz.func96, Tryz.ntmps96
  go_wp2
  all_goals go_ret
  all_goals exact ⟨ret_bool (by rw [Bool.eq_iff_iff]; simp [kidB] <;> omega), HA.out⟩
 by_cases h11 : k = 11
 ·subst h11
  go_enter Tryz.func96, Tryz.ntmps96
  go_wp2
  all_goals go_ret
  all_goals exact ⟨ret_bool (by rw [Bool.eq_iff_iff]; simp [kidB] <;> omega), HA.out⟩
 ·go_enter Tryz.func96, Tryz.ntmps96
  go_wp2
  all_goals go_ret
  all_goals exact ⟨ret_bool (by rw [Bool.eq_iff_iff]; simp [kidB, h6, h7, h8, h10, h11] <;> omega), HA.out⟩
set_option maxRecDepth 100000 in
set_option maxHeartbeats 2000000 in
theorem switched_any (x : NV) (w : World) : Calls Tryz.prog 97 #[x.val] w fun e w' => e = .returned (.bool (swB x.t.k x.C.n x.t.rg x.t.md x.t.el)) ∧ Below w.heap.size w w' := by
 obtain ⟨hA, hN⟩ := nbox_new w x
 have HA := hid hA
 obtain ⟨x0, _, _, _, _, _, _, _, _, _, _, _, _, _, x14, x15, x16, x17⟩ := nv_cells hN
 clear hA hN
 rw [NV.val_eq]
 generalize x.cells.toArray = cs at *
 obtain ⟨t, K, L, F, C⟩ := x
 obtain ⟨CA, Cn, Cc⟩ := C
 simp only at *
 generalize t.k = k at *
 generalize t.rg = rg at *
 generalize t.md = md at *
 generalize t.el = el at *
 by_cases h9 : k = 9
 ·subst h9
  go_enter Tryz.func97, Tryz.ntmps97
  go_wp2
  all_goals go_ret
  all_goals exact ⟨ret_bool (by rw [Bool.eq_iff_iff]; simp_all [swB] <;> omega), HA.out⟩
 ·go_enter Tryz.func97, Tryz.ntmps97
  go_wp2
  all_goals go_ret
  all_goals exact ⟨ret_bool (by rw [Bool.eq_iff_iff]; simp_all [swB] <;> omega), HA.out⟩
end Go.Proofs.YtfcccfplmdjndaaGreat

/- spec: may a type be by itself. -/
namespace Go.Proofs.YtfcccfplmdjndaaGreat
set_option linter.unusedSimpArgs false
set_option linter.unusedVariables false
open Go.RowKit

def wrB (k wd : Int) (li zg le : Bool) : Bool :=
 !((decide (k ≠ 1) && (decide (wd ≠ 0) || li)) || (decide (wd = 1) && li)) && (decide (k = 2) || (!zg && !le))
def wdB (k : Int) (tx er : ByteArray) (mu ad : Nat) : Bool :=
 ((decide (k = 3) || decide (k = 13)) == !tx.toList.isEmpty) && ((decide (k = 4) || decide (k = 6) || decide (k = 8)) || (er.toList.isEmpty && decide (mu = 0) && decide (ad = 0))) && ((!er.toList.isEmpty) == decide (mu ≠ 0))
set_option maxRecDepth 100000 in
set_option maxHeartbeats 2000000 in
theorem written_any (x : NV) (w : World) : Calls Tryz.prog 65 #[x.val] w fun e w' => e = .returned (.bool (wrB x.t.k x.t.wd x.t.li x.t.zg x.t.le)) ∧ Below w.heap.size w w' := by
 obtain ⟨hA, hN⟩ := nbox_new w x
 have HA := hid hA
 obtain ⟨x0, x1, x2, x3, x4, _⟩ := nv_cells hN
 clear hA hN
 rw [NV.val_eq]
 generalize x.cells.toArray = cs at *
 generalize x.t.k = k at *
 generalize x.t.wd = wd at *
 generalize x.t.li = li at *
 generalize x.t.zg = zg at *
 generalize x.t.le = le at *
 by_cases h1 : k = 1
 ·subst h1
  cases li
  ·go_enter Tryz.func65, Tryz.ntmps65
   go_wp2
   all_goals go_ret
   all_goals exact ⟨ret_bool (by rw [Bool.eq_iff_iff]; simp_all [wrB] <;> omega), HA.out⟩
  ·by_cases hw : wd = 1
   ·go_enter Tryz.func65, Tryz.ntmps65
    go_wp2
    all_goals go_ret
    all_goals exact ⟨ret_bool (by rw [Bool.eq_iff_iff]; simp_all [wrB] <;> omega), HA.out⟩
   ·go_enter Tryz.func65, Tryz.ntmps65
    go_wp2
    all_goals go_ret
    all_goals exact ⟨ret_bool (by rw [Bool.eq_iff_iff]; simp_all [wrB] <;> omega), HA.out⟩
 by_cases h0 : wd = 0
 ·subst h0
  cases li
  ·by_cases h2 : k = 2
   ·subst h2
    go_enter Tryz.func65, Tryz.ntmps65
    go_wp2
    all_goals go_ret
    all_goals exact ⟨ret_bool (by rw [Bool.eq_iff_iff]; simp_all [wrB] <;> omega), HA.out⟩
   ·go_enter Tryz.func65, Tryz.ntmps65
    go_wp2
    all_goals go_ret
    all_goals exact ⟨ret_bool (by rw [Bool.eq_iff_iff]; simp_all [wrB] <;> omega), HA.out⟩
  ·go_enter Tryz.func65, Tryz.ntmps65
   go_wp2
   all_goals go_ret
   all_goals exact ⟨ret_bool (by rw [Bool.eq_iff_iff]; simp_all [wrB] <;> omega), HA.out⟩
 ·go_enter Tryz.func65, Tryz.ntmps65
  go_wp2
  all_goals go_ret
  all_goals exact ⟨ret_bool (by rw [Bool.eq_iff_iff]; simp_all [wrB] <;> omega), HA.out⟩
set_option maxRecDepth 100000 in
set_option maxHeartbeats 2000000 in
theorem numberN_any (x : NV) (w : World) : Calls Tryz.prog 66 #[x.val] w fun e w' => e = .returned (.bool (decide (x.t.k = 1) || decide (x.t.k = 2))) ∧ Below w.heap.size w w' := by
 obtain ⟨hA, hN⟩ := nbox_new w x
 have HA := hid hA
 obtain ⟨x0, _⟩ := nv_cells hN
 clear hA hN
 rw [NV.val_eq]
 generalize x.cells.toArray = cs at *
 generalize x.t.k = k at *
 by_cases h1 : k = 1
 ·subst h1
  go_enter Tryz.func66, Tryz.ntmps66
  go_wp2
  go_ret
  exact ⟨rfl, HA.out⟩
 ·go_enter Tryz.func66, Tryz.ntmps66
  go_wp2
  go_ret
  exact ⟨ret_bool (by rw [Bool.eq_iff_iff]; simp_all), HA.out⟩
set_option maxRecDepth 100000 in
set_option maxHeartbeats 2000000 in
theorem worded_any (x : NV) (w : World) : Calls Tryz.prog 68 #[x.val] w fun e w' => e = .returned (.bool (wdB x.t.k x.t.tx x.t.er x.t.mu x.t.ad)) ∧ Below w.heap.size w w' := by
 obtain ⟨hA, hN⟩ := nbox_new w x
 have HA := hid hA
 obtain ⟨x0, _, _, _, _, _, _, x7, x8, x9, x10, _⟩ := nv_cells hN
 clear hA hN
 rw [NV.val_eq]
 generalize x.cells.toArray = cs at *
 generalize x.t.k = k at *
 generalize x.t.tx = tx at *
 generalize x.t.er = er at *
 generalize x.t.mu = mu at *
 generalize x.t.ad = ad at *
 go_enter Tryz.func68, Tryz.ntmps68
 go_wp2
 all_goals go_ret
 all_goals clear x0 x7 x8 x9 x10
 all_goals have hz : ((mu : Int) != 0) = decide (mu ≠ 0) := by rw [Bool.eq_iff_iff]; simp
 all_goals have hk : (k == 13) = decide (k = 13) := by rw [Bool.eq_iff_iff]; simp
 all_goals refine ⟨ret_bool ?_, HA.out⟩
 all_goals rw [Bool.eq_iff_iff]
 all_goals first
  | (simp_all [wdB]; done)
  | (by_cases hm : mu = 0 <;> simp_all [wdB] <;> done)
  | (cases htx : tx.toList.isEmpty <;> cases her : er.toList.isEmpty <;> by_cases h13 : k = 13 <;> by_cases hm : mu = 0 <;> by_cases ha : ad = 0 <;> simp_all [wdB] <;> done)
def mostF (wd : Int) : Nat := if 1 ≤ wd ∧ wd ≤ 8 then 2 ^ (8 * wd.toNat) - 1 else 0
end Go.Proofs.YtfcccfplmdjndaaGreat

/- spec: is a type formed. -/
namespace Go.Proofs.YtfcccfplmdjndaaGreat
set_option linter.unusedSimpArgs false
set_option linter.unusedVariables false
open Go.RowKit

def foB (x : NV) : Bool := decide (1 ≤ x.t.k) && decide (x.t.k ≤ 13) && kidB x.t.k x.K.n x.L.n && swB x.t.k x.C.n x.t.rg x.t.md x.t.el && (decide (x.t.k = 5) == decide (0 < x.F.n))
set_option maxRecDepth 100000 in
set_option maxHeartbeats 2000000 in
theorem formed_any (x : NV) (w : World) : Calls Tryz.prog 63 #[x.val] w fun e w' => e = .returned (.bool (foB x)) ∧ Below w.heap.size w w' := by
 obtain ⟨cs, hv, hbx⟩ := nbox x
 obtain ⟨hA, hN⟩ := hbx w
 clear hbx
 have HA := hid hA
 have HK := hid (fun W => kidded_any x W)
 have HSw := hid (fun W => switched_any x W)
 have HR := hid (show foB x = (decide (1 ≤ x.t.k) && decide (x.t.k ≤ 13) && kidB x.t.k x.K.n x.L.n && swB x.t.k x.C.n x.t.rg x.t.md x.t.el && (decide (x.t.k = 5) == decide (0 < x.F.n))) from rfl)
 have HN := hid hN
 have x0 := hN.cells.1
 have HX : Hid (∀ W, NBox W w.heap.size cs x → W.cell? ⟨w.heap.size, 0, none⟩ = some (.int .i64 x.t.k) ∧ W.cell? ⟨w.heap.size, 13, none⟩ = some (.slice x.F.A x.F.n x.F.c)) := hid (fun W h => ⟨h.cells.1, h.cells.2.2.2.2.2.2.2.2.2.2.2.2.2.1⟩)
 clear hA hN
 rw [hv] at HK HSw ⊢
 clear hv
 generalize foB x = R at *
 generalize kidB x.t.k x.K.n x.L.n = kb at *
 generalize swB x.t.k x.C.n x.t.rg x.t.md x.t.el = sb at *
 generalize x.t.k = k at *
 generalize x.F = F at *
 by_cases h1 : 1 ≤ k
 ·by_cases h2 : k ≤ 13
  ·cases kb
   ·have HR2 : Hid (R = false) := hid (by rw [HR.out]; simp)
    rw [HR2.out]
    go_enter Tryz.func63, Tryz.ntmps63
    go_upto_region 1 with (fail)
    generalize w.alloc (.cells cs 54) = w1 at *
    go_wp2_with (first
     | ((with_reducible refine wpList_load_node _ rfl HN.out ?_ ?_ ?_); exact rfl; exact rfl)
     | (go_at_call 96; refine (HK.out _).mono ?_; rintro e w2 ⟨rfl, hb2⟩; have HB2 := hid (HA.out.trans (hb2.mono HA.out.size)); clear hb2 x0))
    go_ret
    exact ⟨rfl, HB2.out⟩
   ·cases sb
    ·have HR2 : Hid (R = false) := hid (by rw [HR.out]; simp)
     rw [HR2.out]
     go_enter Tryz.func63, Tryz.ntmps63
     go_upto_region 1 with (fail)
     generalize w.alloc (.cells cs 54) = w1 at *
     go_wp2_with (first
      | ((with_reducible refine wpList_load_node _ rfl HN.out ?_ ?_ ?_); exact rfl; exact rfl)
      | (go_at_call 96; refine (HK.out _).mono ?_; rintro e w2 ⟨rfl, hb2⟩; have HB2 := hid (HA.out.trans (hb2.mono HA.out.size)); have HN2 := hid (HN.out.keep hb2); clear hb2 x0; have x0 := (HX.out _ HN2.out).1)
      | ((with_reducible refine wpList_load_node _ rfl HN2.out ?_ ?_ ?_); exact rfl; exact rfl)
      | (go_at_call 97; refine (HSw.out _).mono ?_; rintro e w3 ⟨rfl, hb3⟩; have HB3 := hid (HB2.out.trans (hb3.mono HB2.out.size)); clear hb3 x0))
     go_ret
     exact ⟨rfl, HB3.out⟩
    ·have HR2 : Hid (R = (decide (k = 5) == decide (0 < F.n))) := hid (by rw [HR.out]; simp [h1, h2])
     go_enter Tryz.func63, Tryz.ntmps63
     go_upto_region 1 with (fail)
     generalize w.alloc (.cells cs 54) = w1 at *
     go_wp2_with (first
      | ((with_reducible refine wpList_load_node _ rfl HN.out ?_ ?_ ?_); exact rfl; exact rfl)
      | (go_at_call 96; refine (HK.out _).mono ?_; rintro e w2 ⟨rfl, hb2⟩; have HB2 := hid (HA.out.trans (hb2.mono HA.out.size)); have HN2 := hid (HN.out.keep hb2); clear hb2 x0; have x0 := (HX.out _ HN2.out).1)
      | ((with_reducible refine wpList_load_node _ rfl HN2.out ?_ ?_ ?_); exact rfl; exact rfl)
      | (go_at_call 97; refine (HSw.out _).mono ?_; rintro e w3 ⟨rfl, hb3⟩; have HB3 := hid (HB2.out.trans (hb3.mono HB2.out.size)); have HN3 := hid (HN2.out.keep hb3); clear hb3 x0; obtain ⟨x0, x13⟩ := HX.out _ HN3.out))
     all_goals go_ret
     all_goals exact ⟨ret_bool (by rw [HR2.out, show (k == 5) = decide (k = 5) from by rw [Bool.eq_iff_iff]; simp]), HB3.out⟩
  ·have HR2 : Hid (R = false) := hid (by rw [HR.out]; simp [h2])
   rw [HR2.out]
   go_enter Tryz.func63, Tryz.ntmps63
   go_wp2
   go_ret
   exact ⟨rfl, HA.out⟩
 ·have HR2 : Hid (R = false) := hid (by rw [HR.out]; simp [h1])
  rw [HR2.out]
  go_enter Tryz.func63, Tryz.ntmps63
  go_wp2
  go_ret
  exact ⟨rfl, HA.out⟩
end Go.Proofs.YtfcccfplmdjndaaGreat

/- spec: Width, Most. -/
namespace Go.Proofs.YtfcccfplmdjndaaGreat
set_option linter.unusedSimpArgs false
set_option linter.unusedVariables false
open Go.RowKit

theorem width_any (n : Int) (w : World) : Calls Tryz.prog 64 #[.int .i64 n] w fun e w' => e = .returned (.bool (decide (1 ≤ n) && decide (n ≤ 8))) ∧ w = w' := by
 by_cases h1 : 1 ≤ n
 ·by_cases h8 : n ≤ 8
  ·go_enter Tryz.func64, Tryz.ntmps64
   go_wp2
   go_ret
   exact ⟨ret_bool (by simp [h1, h8]), rfl⟩
  ·have hd : decide (n ≤ 8) = false := by simp; omega
   go_enter Tryz.func64, Tryz.ntmps64
   go_wp2
   go_ret
   exact ⟨ret_bool (by simp [h8]), rfl⟩
 ·have hd : decide (1 ≤ n) = false := by simp; omega
  go_enter Tryz.func64, Tryz.ntmps64
  go_wp2
  go_ret
  exact ⟨ret_bool (by simp [h1]), rfl⟩
theorem most8 {w : World} (width : Nat) (h1 : 1 ≤ width) (h8 : width ≤ 8) :
  Calls Tryz.prog 98 #[.int .i64 width] w fun e w' => e = .returned (.int .u64 (mostF width : Nat)) ∧ w = w' := by
 obtain rfl | rfl | rfl | rfl | rfl | rfl | rfl | rfl : width = 1 ∨ width = 2 ∨ width = 3 ∨ width = 4 ∨ width = 5 ∨ width = 6 ∨ width = 7 ∨ width = 8 := by omega
 all_goals
  go_enter Tryz.func98, Tryz.ntmps98
  go_wp2_with (go_at_call 64; refine (width_any _ _).mono ?_; rintro e w' ⟨rfl, rfl⟩)
  go_ret
  exact ⟨rfl, rfl⟩
theorem omost_any (n : Int) (w : World) : Calls Tryz.prog 98 #[.int .i64 n] w fun e w' => e = .returned (.int .u64 (mostF n : Nat)) ∧ w = w' := by
 by_cases h : 1 ≤ n ∧ n ≤ 8
 ·obtain ⟨m, rfl⟩ : ∃ m : Nat, n = m := ⟨n.toNat, by omega⟩
  exact most8 m (by omega) (by omega)
 ·have HM := hid (show mostF n = 0 by unfold mostF; rw [if_neg h])
  rw [HM.out]
  have hw : (decide (1 ≤ n) && decide (n ≤ 8)) = false := by rw [← Bool.not_eq_true]; simpa using fun h1 => by omega
  have HW := hid (fun W => width_any n W)
  rw [hw] at HW
  clear hw h HM
  go_enter Tryz.func98, Tryz.ntmps98
  go_wp2_with (go_at_call 64; refine (HW.out _).mono ?_; rintro e w' ⟨rfl, rfl⟩)
  go_ret
  exact ⟨rfl, rfl⟩
def mostV (k wd : Int) : Nat := if k = 1 then mostF wd else 18446744073709551615
set_option maxRecDepth 100000 in
set_option maxHeartbeats 2000000 in
theorem most_any (x : NV) (w : World) : Calls Tryz.prog 67 #[x.val] w fun e w' => e = .returned (.int .u64 (mostV x.t.k x.t.wd : Nat)) ∧ Below w.heap.size w w' := by
 obtain ⟨cs, hv, hbx⟩ := nbox x
 obtain ⟨hA, hN⟩ := hbx w
 clear hbx
 have HA := hid hA
 have x0 := hN.cells.1
 have x1 := hN.cells.2.1
 have HM := hid (fun W => omost_any x.t.wd W)
 have HV : Hid (mostV x.t.k x.t.wd = if x.t.k = 1 then mostF x.t.wd else 18446744073709551615) := hid rfl
 clear hA hN
 rw [hv]
 clear hv
 generalize mostV x.t.k x.t.wd = R at *
 generalize mostF x.t.wd = M at *
 generalize x.t.k = k at *
 generalize x.t.wd = wd at *
 by_cases h1 : k = 1
 ·subst h1
  have HV2 : Hid (R = M) := hid (by rw [HV.out, if_pos rfl])
  rw [HV2.out]
  go_enter Tryz.func67, Tryz.ntmps67
  go_wp2_with (go_at_call 98; refine (HM.out _).mono ?_; rintro e w2 ⟨rfl, rfl⟩)
  go_ret
  exact ⟨rfl, HA.out⟩
 ·have HV2 : Hid (R = 18446744073709551615) := hid (by rw [HV.out, if_neg h1])
  rw [HV2.out]
  go_enter Tryz.func67, Tryz.ntmps67
  go_wp2
  go_ret
  exact ⟨rfl, HA.out⟩
end Go.Proofs.YtfcccfplmdjndaaGreat
