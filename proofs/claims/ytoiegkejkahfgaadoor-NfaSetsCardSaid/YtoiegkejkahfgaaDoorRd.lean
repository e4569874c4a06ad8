/- regex: the reader's small steps. -/
import Derived.Test.YtoiegkejkahfgaaDoorRx
import Derived.Test.YtoiegkejkahfgaaDoorOfR
import Derived.Deep.Cut
namespace Go.Proofs.YtoiegkejkahfgaaDoor
set_option linter.unusedVariables false
set_option linter.unusedSimpArgs false
open Go.RowKit

theorem Rd.drew {w : World} {g : Nat} {s : ByteArray} {i nd : Nat} {c p : Int} (h : Rd w g s i nd c p) : Rd w.drew g s i nd c p := h
theorem grown_drew (w : World) (g : Nat) : w.grownBy w.drew (some g) := ⟨rfl, rfl, rfl, Nat.le_refl _, fun _ _ _ => rfl⟩
theorem grown_refl (w : World) (g : Option Nat) : w.grownBy w g := ⟨rfl, rfl, rfl, Nat.le_refl _, fun _ _ _ => rfl⟩
theorem grown_set1 (w : World) (g o : Nat) (u : Value) : w.grownBy (w.setCell ⟨g, o, none⟩ u) (some g) :=
  ⟨rfl, rfl, rfl, by simp [World.setCell], fun j _ hne => Below.heap_setCell w ⟨g, o, none⟩ u j (fun e => hne (by rw [e]))⟩

theorem next_any {w : World} {g : Nat} {s : ByteArray} {i nd : Nat} {c p : Int} (h : Rd w g s i nd c p) (hi : i ≤ s.size) (hs : s.size ≤ 512) :
    Calls Tryd.prog 62 #[.pointer (some ⟨g, 0, none⟩)] w fun e w' => e = .returned (.int .u8 ((nx s.data.toList i : Nat) : Int)) ∧ Rd w' g s i nd c p ∧ w.grownBy w' (some g) := by
  obtain ⟨h0, h1, _⟩ := h.cells
  have HD := hid h.drew
  have hsz : s.size ≤ 9223372036854775807 := by omega
  by_cases he : i = s.size
  · have hn : nx s.data.toList i = 0 := by
      unfold nx
      rw [List.getD_eq_getElem?_getD, List.getElem?_eq_none (by rw [he]; exact Nat.le_refl _)]
      rfl
    have HN := hid hn
    clear hn
    subst he
    go_enter Tryd.func62, Tryd.ntmps62
    go_wp2
    go_region
    all_goals
      go_wp2
      go_ret
      exact ⟨by rw [HN.out]; rfl, HD.out, grown_drew _ _⟩
  · have hlt : i < s.size := by omega
    have HN := hid (nx_at (l := s.data.toList) (i := i) hlt)
    have hne : ¬ (i : Int) = (s.size : Int) := by omega
    go_enter Tryd.func62, Tryd.ntmps62
    go_wp2
    go_region
    all_goals
      go_wp2
      go_region
      all_goals
        go_wp2
        go_ret
        exact ⟨by rw [HN.out]; rfl, HD.out, ⟨rfl, rfl, rfl, Nat.le_refl _, fun _ _ _ => rfl⟩⟩

theorem took_yes {w : World} {g : Nat} {s : ByteArray} {i nd : Nat} {c p : Int} (h : Rd w g s i nd c p) (hi : i ≤ s.size) (hs : s.size ≤ 512) (x : Nat) (hx : nx s.data.toList i = x) :
    Calls Tryd.prog 47 #[.pointer (some ⟨g, 0, none⟩), .int .u8 (x : Int)] w fun e w' => e = .returned (.bool true) ∧ Rd w' g s (i + 1) nd c p ∧ w.grownBy w' (some g) := by
  have HN := hid (fun (W : World) (h : Rd W g s i nd c p) => next_any h hi hs)
  rw [hx] at HN
  have HR := hid h
  have hil : i ≤ 512 := by omega
  clear h hx
  go_enter Tryd.func47, Tryd.ntmps47
  go_wp2_with fail
  refine (HN.out _ HR.out).mono ?_
  rintro e w1 ⟨rfl, hr, hg⟩
  obtain ⟨h0, h1, h2, h3, h4, f1, f2, f3, f4⟩ := hr.cells
  have hS := Blk.put hr 1 (.int .i64 ((i : Int) + 1))
  have HS := hid hS
  have HG := hid (grown_trans hg (grown_set1 w1 g 1 (.int .i64 ((i : Int) + 1))))
  clear hr hg hS
  go_wp2
  go_ret
  exact ⟨rfl, by simpa [Rd] using HS.out, HG.out⟩
theorem took_no {w : World} {g : Nat} {s : ByteArray} {i nd : Nat} {c p : Int} (h : Rd w g s i nd c p) (hi : i ≤ s.size) (hs : s.size ≤ 512) (x : Nat) (hx : nx s.data.toList i ≠ x) :
    Calls Tryd.prog 47 #[.pointer (some ⟨g, 0, none⟩), .int .u8 (x : Int)] w fun e w' => e = .returned (.bool false) ∧ Rd w' g s i nd c p ∧ w.grownBy w' (some g) := by
  have HN := hid (fun (W : World) (h : Rd W g s i nd c p) => next_any h hi hs)
  have hne : ¬ ((nx s.data.toList i : Nat) : Int) = (x : Int) := by omega
  generalize nx s.data.toList i = y at *
  have HR := hid h
  clear h hx
  go_enter Tryd.func47, Tryd.ntmps47
  go_wp2_with fail
  refine (HN.out _ HR.out).mono ?_
  rintro e w1 ⟨rfl, hr, hg⟩
  have HS := hid hr
  have HG := hid hg
  clear hr hg
  go_wp2
  go_ret
  exact ⟨rfl, HS.out, HG.out⟩
theorem fail_any {w : World} {g : Nat} {s : ByteArray} {i nd : Nat} {c p : Int} (h : Rd w g s i nd c p) (x y : Int) :
    Calls Tryd.prog 32 #[.pointer (some ⟨g, 0, none⟩), .int .i64 x, .int .i64 y] w fun e w' => e = .returned (.bool false) ∧ Rd w' g s i nd x y ∧ w.grownBy w' (some g) := by
  obtain ⟨h0, h1, h2, h3, h4, f1, f2, f3, f4⟩ := h.cells
  have hS := hid (Blk.put (Blk.put h 3 (.int .i64 x)) 4 (.int .i64 y))
  have HG := hid (grown_trans (grown_set1 w g 3 (.int .i64 x)) (grown_set1 (w.setCell ⟨g, 3, none⟩ (.int .i64 x)) g 4 (.int .i64 y)))
  clear h
  go_enter Tryd.func32, Tryd.ntmps32
  go_wp2
  go_ret
  exact ⟨rfl, by simpa [Rd] using hS.out, HG.out⟩
theorem must_yes {w : World} {g : Nat} {s : ByteArray} {i nd : Nat} {c p : Int} (h : Rd w g s i nd c p) (hi : i ≤ s.size) (hs : s.size ≤ 512) (x : Nat) (hx : nx s.data.toList i = x) :
    Calls Tryd.prog 77 #[.pointer (some ⟨g, 0, none⟩), .int .u8 (x : Int)] w fun e w' => e = .returned (.bool true) ∧ Rd w' g s (i + 1) nd c p ∧ w.grownBy w' (some g) := by
  have HN := hid (took_yes h hi hs x hx)
  clear h hx
  go_enter Tryd.func77, Tryd.ntmps77
  go_wp2_with fail
  refine HN.out.mono ?_
  rintro e w1 ⟨rfl, hr, hg⟩
  have HS := hid hr
  have HG := hid hg
  clear hr hg HN
  go_wp2
  go_ret
  exact ⟨rfl, HS.out, HG.out⟩
theorem must_no {w : World} {g : Nat} {s : ByteArray} {i nd : Nat} {c p : Int} (h : Rd w g s i nd c p) (hi : i ≤ s.size) (hs : s.size ≤ 512) (x : Nat) (hx : nx s.data.toList i ≠ x) :
    Calls Tryd.prog 77 #[.pointer (some ⟨g, 0, none⟩), .int .u8 (x : Int)] w fun e w' => e = .returned (.bool false) ∧ Rd w' g s i nd 5 (i : Int) ∧ w.grownBy w' (some g) := by
  have HN := hid (took_no h hi hs x hx)
  have HF := hid (fun (W : World) (h : Rd W g s i nd c p) => fail_any h 5 (i : Int))
  clear h hx
  go_enter Tryd.func77, Tryd.ntmps77
  go_wp2_with fail
  refine HN.out.mono ?_
  rintro e w1 ⟨rfl, hr, hg⟩
  obtain ⟨h0, h1, h2, h3, h4, f1, f2, f3, f4⟩ := hr.cells
  have HS := hid hr
  have HG := hid hg
  clear hr hg HN
  go_wp2_with fail
  refine (HF.out _ HS.out).mono ?_
  rintro e w2 ⟨rfl, hr2, hg2⟩
  have HS2 := hid hr2
  have HG2 := hid (grown_trans HG.out hg2)
  clear hr2 hg2 HS HG HF
  go_wp2
  go_ret
  exact ⟨rfl, HS2.out, HG2.out⟩
end Go.Proofs.YtoiegkejkahfgaaDoor

/- regex: an expression more. -/
namespace Go.Proofs.YtoiegkejkahfgaaDoor
open Go.RowKit

def zeroR : Array Value := #[.int .i64 0, .int .u64 0, .int .u64 0, .int .u64 0, .int .u64 0, .slice none 0 0, .int .i64 0, .int .i64 0]
theorem zeroR_eq : RV.zero.cells.toArray = zeroR := by rw [rx_zero_cells]; rfl
theorem below_of_new {w w1 w2 : World} {g : Nat} (h : w.grownBy w1 (some g)) (hb : Below w1.heap.size w1 w2) : w.grownBy w2 (some g) := grown_trans h (grown_of_below hb _)
theorem row_new (w : World) (t : TypeId) (cs cs' : Array Value) : Below w.heap.size w ((w.alloc (.cells cs t)).setRow w.heap.size cs') := below_row ((Below.refl _ _).alloc (Nat.le_refl _) _) (Nat.le_refl _) _
theorem grown_row {w w1 : World} {g b : Nat} (h : w.grownBy w1 (some g)) (hb : w.heap.size ≤ b) (cs : Array Value) : w.grownBy (w1.setRow b cs) (some g) :=
  ⟨h.os, h.tape, h.output, by have := h.size; simpa [World.setRow] using this, fun k hk hn => (setRow_other w1 b k cs (by omega)).trans (h.block k hk hn)⟩
theorem Rd.keep {w w' : World} {g : Nat} {s : ByteArray} {i nd : Nat} {c p : Int} (h : Rd w g s i nd c p) (hb : Below w.heap.size w w') : Rd w' g s i nd c p := Blk.keep h hb

set_option maxRecDepth 100000 in
theorem made_yes {w : World} {g : Nat} {s : ByteArray} {i nd : Nat} {c p : Int} (h : Rd w g s i nd c p) (hnd : nd + 1 ≤ 512) (v : RV) :
    Calls Tryd.prog 64 #[.pointer (some ⟨g, 0, none⟩), v.val] w fun e w' => e = .returned (.tuple #[v.val, .bool true]) ∧ Rd w' g s i (nd + 1) c p ∧ w.grownBy w' (some g) := by
  have hg := Blk.lt h
  have hA : Below w.heap.size w ((w.alloc (.cells v.cells.toArray 26)).alloc (.cells zeroR 26)) := below_alloc2 _ _
  have HA := hid hA
  have hr := h.keep hA
  have HN : Hid (((w.alloc (.cells v.cells.toArray 26)).alloc (.cells zeroR 26)).heap[w.heap.size]? = some (.cells v.cells.toArray 26)) := hid ((Below.heap_alloc _ _ _ (by simp)).trans (heap_alloc_new w _))
  have HZ : Hid (((w.alloc (.cells v.cells.toArray 26)).alloc (.cells zeroR 26)).heap[w.heap.size + 1]? = some (.cells zeroR 26)) := hid (by
    have := heap_alloc_new (w.alloc (.cells v.cells.toArray 26)) (.cells zeroR 26)
    rwa [World.size_alloc] at this)
  have HV := hid v.val_eq
  have HOne := hid (rx_one v)
  have HSz := hid (rx_size v)
  have HC : Hid (v.cells = v.cells) := hid rfl
  unfold RV.val
  go_enter Tryd.func64, Tryd.ntmps64
  go_upto_region 1 with (fail)
  change Code.wp _ _ _ _ ((w.alloc (.cells v.cells.toArray 26)).alloc (.cells zeroR 26))
  generalize (w.alloc (.cells v.cells.toArray 26)).alloc (.cells zeroR 26) = w2 at *
  obtain ⟨h0, h1, h2, h3, h4, f1, f2, f3, f4⟩ := hr.cells
  have HB := hid (Blk.put hr 2 (.int .i64 ((nd : Int) + 1)))
  have HG := hid (grown_trans (grown_of_below HA.out (some g)) (grown_set1 w2 g 2 (.int .i64 ((nd : Int) + 1))))
  have HN2 := hid ((Below.heap_setCell w2 ⟨g, 2, none⟩ (.int .i64 ((nd : Int) + 1)) w.heap.size (by show w.heap.size ≠ g; omega)).trans HN.out)
  have HZ2 := hid ((Below.heap_setCell w2 ⟨g, 2, none⟩ (.int .i64 ((nd : Int) + 1)) (w.heap.size + 1) (by show w.heap.size + 1 ≠ g; omega)).trans HZ.out)
  clear hr hA h
  go_wp2_with (first
    | (refine wpList_load_row rfl 26 _ rfl w.heap.size rfl 26 _ (0, 0) _ HN2.out Tryd.underlying26 rfl HSz.out ?_)
    | (refine wpList_store_row rfl 26 _ _ rfl (w.heap.size + 1) v.cells.toArray rfl rfl 26 _ HZ2.out HSz.out rfl HOne.out ?_))
  have H5 : ((w2.setCell ⟨g, 2, none⟩ (.int .i64 ((nd : Int) + 1))).setRow (w.heap.size + 1) v.cells.toArray).heap[w.heap.size + 1]? = some (.cells v.cells.toArray 26) := setRow_heap _ _ _ _ _ (0, 0) HZ2.out
  have A1 : Rd ((w2.setCell ⟨g, 2, none⟩ (.int .i64 ((nd : Int) + 1))).setRow (w.heap.size + 1) v.cells.toArray) g s i (nd + 1) c p := (setRow_other _ _ g _ (by omega)).trans (by simpa [Rd, Blk] using HB.out)
  have A2 := grown_row HG.out (show w.heap.size ≤ w.heap.size + 1 by omega) v.cells.toArray
  exact bodyPost_ret (v := .tuple #[.agg v.cells.toArray, .bool true]) (results_cell_tmp (P := Tryd.prog) (fn := Tryd.f64) rfl _ _ (w.heap.size + 1) 26 _ (0, 0) _ rfl H5 Tryd.underlying26 rfl HSz.out) rfl ⟨rfl, A1, A2⟩

set_option maxRecDepth 100000 in
theorem made_no {w : World} {g : Nat} {s : ByteArray} {i nd : Nat} {c p : Int} (h : Rd w g s i nd c p) (hnd : 512 < nd + 1) (hn2 : nd ≤ 9223372036854775806) (v : RV) :
    Calls Tryd.prog 64 #[.pointer (some ⟨g, 0, none⟩), v.val] w fun e w' => e = .returned (.tuple #[.agg zeroR, .bool false]) ∧ Rd w' g s i (nd + 1) 2 (i : Int) ∧ w.grownBy w' (some g) := by
  have hg := Blk.lt h
  have hA : Below w.heap.size w ((w.alloc (.cells v.cells.toArray 26)).alloc (.cells zeroR 26)) := below_alloc2 _ _
  have HA := hid hA
  have hr := h.keep hA
  have HN : Hid (((w.alloc (.cells v.cells.toArray 26)).alloc (.cells zeroR 26)).heap[w.heap.size]? = some (.cells v.cells.toArray 26)) := hid ((Below.heap_alloc _ _ _ (by simp)).trans (heap_alloc_new w _))
  have HZ : Hid (((w.alloc (.cells v.cells.toArray 26)).alloc (.cells zeroR 26)).heap[w.heap.size + 1]? = some (.cells zeroR 26)) := hid (by
    have := heap_alloc_new (w.alloc (.cells v.cells.toArray 26)) (.cells zeroR 26)
    rwa [World.size_alloc] at this)
  have HV := hid v.val_eq
  have HOne := hid (rx_one v)
  have HSz := hid (rx_size v)
  have HC : Hid (v.cells = v.cells) := hid rfl
  unfold RV.val
  go_enter Tryd.func64, Tryd.ntmps64
  go_upto_region 1 with (fail)
  change Code.wp _ _ _ _ ((w.alloc (.cells v.cells.toArray 26)).alloc (.cells zeroR 26))
  generalize (w.alloc (.cells v.cells.toArray 26)).alloc (.cells zeroR 26) = w2 at *
  obtain ⟨h0, h1, h2, h3, h4, f1, f2, f3, f4⟩ := hr.cells
  have HB := hid (Blk.put hr 2 (.int .i64 ((nd : Int) + 1)))
  have HG := hid (grown_trans (grown_of_below HA.out (some g)) (grown_set1 w2 g 2 (.int .i64 ((nd : Int) + 1))))
  have HN2 := hid ((Below.heap_setCell w2 ⟨g, 2, none⟩ (.int .i64 ((nd : Int) + 1)) w.heap.size (by show w.heap.size ≠ g; omega)).trans HN.out)
  have HZ2 := hid ((Below.heap_setCell w2 ⟨g, 2, none⟩ (.int .i64 ((nd : Int) + 1)) (w.heap.size + 1) (by show w.heap.size + 1 ≠ g; omega)).trans HZ.out)
  clear hr hA h
  have HF := hid (fun (W : World) (h : Rd W g s i (nd + 1) c p) => fail_any h 2 (i : Int))
  have HRd : Hid (Rd (w2.setCell ⟨g, 2, none⟩ (.int .i64 ((nd : Int) + 1))) g s i (nd + 1) c p) := hid (by simpa [Rd] using HB.out)
  go_wp2_with (first
    | (go_at_call 32; refine (HF.out _ HRd.out).mono ?_; rintro e w4 ⟨rfl, hr4, hg4⟩; have HZ4 := hid ((hg4.block (w.heap.size + 1) (by have := HZ2.out; exact (Array.getElem?_eq_some_iff.1 this).1) (by simp; omega)).trans HZ2.out); have HR4 := hid hr4; have HG4 := hid (grown_trans HG.out hg4); clear hr4 hg4)
    | (refine wpList_store_row rfl 26 _ _ rfl (w.heap.size + 1) zeroR ?_ rfl 26 _ HZ4.out (by rw [← zeroR_eq]; exact rx_size _) rfl (by rw [← zeroR_eq]; exact rx_one _) ?_; exact rfl))
  have H5 : (w4.setRow (w.heap.size + 1) zeroR).heap[w.heap.size + 1]? = some (.cells zeroR 26) := setRow_heap _ _ _ _ _ (0, 0) HZ4.out
  have A1 : Rd (w4.setRow (w.heap.size + 1) zeroR) g s i (nd + 1) 2 (i : Int) := (setRow_other _ _ g _ (by omega)).trans HR4.out
  have A2 := grown_row HG4.out (show w.heap.size ≤ w.heap.size + 1 by omega) zeroR
  exact bodyPost_ret (v := .tuple #[.agg zeroR, .bool false]) (results_cell_tmp (P := Tryd.prog) (fn := Tryd.f64) rfl _ _ (w.heap.size + 1) 26 _ (0, 0) _ rfl H5 Tryd.underlying26 rfl (by rw [← zeroR_eq]; exact rx_size _)) rfl ⟨rfl, A1, A2⟩
end Go.Proofs.YtoiegkejkahfgaaDoor

/- regex: some expressions as one. -/
namespace Go.Proofs.YtoiegkejkahfgaaDoor
open Go.RowKit

def RV.many (k : Int) (A : Option Addr) (n c : Nat) : RV := ⟨k, 0#256, A, n, c, 0, 0⟩
theorem many_val (k : Int) (A : Option Addr) (n c : Nat) : (RV.many k A n c).val = .agg #[.int .i64 k, .int .u64 0, .int .u64 0, .int .u64 0, .int .u64 0, .slice A n c, .int .i64 0, .int .i64 0] := by simp [RV.many, RV.val, wd_zero]

set_option maxRecDepth 100000 in
theorem joined_one {w : World} {g : Nat} {s : ByteArray} {i nd : Nat} {c p : Int} (h : Rd w g s i nd c p) (k : Int) (g0 cap : Nat) (x : RV) (hx : RowAt w g0 0 x.cells) (hg0 : g0 < w.heap.size) :
    Calls Tryd.prog 48 #[.pointer (some ⟨g, 0, none⟩), .int .i64 k, .slice (some ⟨g0, 0, none⟩) 1 cap] w fun e w' => e = .returned (.tuple #[x.val, .bool true]) ∧ Rd w' g s i nd c p ∧ w.grownBy w' (some g) := by
  have hg := Blk.lt h
  have hA : Below w.heap.size w (w.alloc (.cells zeroR 26)) := (Below.refl _ _).alloc (Nat.le_refl _) _
  have HZ := hid (heap_alloc_new w (.cells zeroR 26))
  have HR := hid (h.keep hA)
  have HG := hid (grown_of_below hA (some g))
  obtain ⟨k0, k1, k2, k3, k4, k5, k6, k7⟩ := (hx.block (hA.block g0 hg0)).cells8
  have HOne := hid (rx_one x)
  have HSz := hid (rx_size x)
  have HV := hid x.val_eq
  clear hA h hx
  unfold RV.val
  go_enter Tryd.func48, Tryd.ntmps48
  go_upto_region 1 with (fail)
  change Code.wp _ _ _ _ (w.alloc (.cells zeroR 26))
  generalize hw1 : w.alloc (.cells zeroR 26) = w1 at *
  have hs1 : w1.heap.size = w.heap.size + 1 := by rw [← hw1]; simp
  clear hw1
  go_wp2_with (refine wpList_store_row rfl 26 _ _ rfl w.heap.size x.cells.toArray ?_ rfl 26 zeroR HZ.out HSz.out rfl HOne.out ?_; exact rfl)
  have H5 : (w1.setRow w.heap.size x.cells.toArray).heap[w.heap.size]? = some (.cells x.cells.toArray 26) := setRow_heap _ _ _ _ _ (0, 0) HZ.out
  have A1 : Rd (w1.setRow w.heap.size x.cells.toArray) g s i nd c p := (setRow_other _ _ g _ (by omega)).trans HR.out
  have A2 := grown_row HG.out (show w.heap.size ≤ w.heap.size by omega) x.cells.toArray
  exact bodyPost_ret (v := .tuple #[.agg x.cells.toArray, .bool true]) (results_cell_tmp (P := Tryd.prog) (fn := Tryd.f48) rfl _ _ w.heap.size 26 _ (0, 0) _ rfl H5 Tryd.underlying26 rfl HSz.out) rfl ⟨rfl, A1, A2⟩

/-- What a call answers of an expression. -/
theorem rx_store_any {x : RV} : x.cells.toArray.all (·.oneCell') = true := rx_one x

set_option maxRecDepth 100000 in
theorem joined_many {w : World} {g : Nat} {s : ByteArray} {i nd : Nat} {c p : Int} (h : Rd w g s i nd c p) (hnd : nd + 1 ≤ 512) (k : Int) (A : Option Addr) (n cap : Nat) (hn : n ≠ 1) (_hn2 : n ≤ 9223372036854775807) :
    Calls Tryd.prog 48 #[.pointer (some ⟨g, 0, none⟩), .int .i64 k, .slice A n cap] w fun e w' => e = .returned (.tuple #[(RV.many k A n cap).val, .bool true]) ∧ Rd w' g s i (nd + 1) c p ∧ w.grownBy w' (some g) := by
  have hg := Blk.lt h
  have hA : Below w.heap.size w (w.alloc (.cells zeroR 26)) := (Below.refl _ _).alloc (Nat.le_refl _) _
  have HZ := hid (heap_alloc_new w (.cells zeroR 26))
  have HR := hid (h.keep hA)
  have HG := hid (grown_of_below hA (some g))
  have HM := hid (fun (W : World) (h : Rd W g s i nd c p) => made_yes h hnd (RV.many k A n cap))
  have HOne := hid (rx_one (RV.many k A n cap))
  have HSz := hid (rx_size (RV.many k A n cap))
  have hne : ¬ (n : Int) = 1 := by omega
  have HV := hid (many_val k A n cap)
  have HV2 := hid (RV.val_eq (RV.many k A n cap))
  rw [HV.out] at HM HV2 ⊢
  clear hA h hn
  go_enter Tryd.func48, Tryd.ntmps48
  go_upto_region 1 with (fail)
  change Code.wp _ _ _ _ (w.alloc (.cells zeroR 26))
  generalize hw1 : w.alloc (.cells zeroR 26) = w1 at *
  have hs1 : w1.heap.size = w.heap.size + 1 := by rw [← hw1]; simp
  clear hw1
  go_wp2_with (first
    | (go_at_call 64; refine (HM.out _ HR.out).mono ?_; rintro e w2 ⟨rfl, hr2, hg2⟩; have HZ2 := hid ((hg2.block w.heap.size (by omega) (by simp; omega)).trans HZ.out); have HR2 := hid hr2; have HG2 := hid (grown_trans HG.out hg2); clear hr2 hg2)
    | (refine wpList_store_row rfl 26 _ _ rfl w.heap.size (RV.many k A n cap).cells.toArray rfl ?_ 26 zeroR HZ2.out HSz.out rfl HOne.out ?_; exact HV2.out))
  have H5 : (w2.setRow w.heap.size (RV.many k A n cap).cells.toArray).heap[w.heap.size]? = some (.cells (RV.many k A n cap).cells.toArray 26) := setRow_heap _ _ _ _ _ (0, 0) HZ2.out
  have A1 : Rd (w2.setRow w.heap.size (RV.many k A n cap).cells.toArray) g s i (nd + 1) c p := (setRow_other _ _ g _ (by omega)).trans HR2.out
  have A2 := grown_row HG2.out (show w.heap.size ≤ w.heap.size by omega) (RV.many k A n cap).cells.toArray
  exact bodyPost_ret (v := .tuple #[.agg (RV.many k A n cap).cells.toArray, .bool true]) (results_cell_tmp (P := Tryd.prog) (fn := Tryd.f48) rfl _ _ w.heap.size 26 _ (0, 0) _ rfl H5 Tryd.underlying26 rfl HSz.out) rfl ⟨by rw [← HV2.out], A1, A2⟩

set_option maxRecDepth 100000 in
theorem joined_over {w : World} {g : Nat} {s : ByteArray} {i nd : Nat} {c p : Int} (h : Rd w g s i nd c p) (hnd : 512 < nd + 1) (hnd2 : nd ≤ 9223372036854775806) (k : Int) (A : Option Addr) (n cap : Nat) (hn : n ≠ 1) (_hn2 : n ≤ 9223372036854775807) :
    Calls Tryd.prog 48 #[.pointer (some ⟨g, 0, none⟩), .int .i64 k, .slice A n cap] w fun e w' => e = .returned (.tuple #[.agg zeroR, .bool false]) ∧ Rd w' g s i (nd + 1) 2 (i : Int) ∧ w.grownBy w' (some g) := by
  have hg := Blk.lt h
  have hA : Below w.heap.size w (w.alloc (.cells zeroR 26)) := (Below.refl _ _).alloc (Nat.le_refl _) _
  have HZ := hid (heap_alloc_new w (.cells zeroR 26))
  have HR := hid (h.keep hA)
  have HG := hid (grown_of_below hA (some g))
  have HM := hid (fun (W : World) (h : Rd W g s i nd c p) => made_no h hnd hnd2 (RV.many k A n cap))
  have hne : ¬ (n : Int) = 1 := by omega
  rw [many_val k A n cap] at HM
  clear hA h hn hnd
  go_enter Tryd.func48, Tryd.ntmps48
  go_upto_region 1 with (fail)
  change Code.wp _ _ _ _ (w.alloc (.cells zeroR 26))
  generalize hw1 : w.alloc (.cells zeroR 26) = w1 at *
  have hs1 : w1.heap.size = w.heap.size + 1 := by rw [← hw1]; simp
  clear hw1
  go_wp2_with (first
    | (go_at_call 64; refine (HM.out _ HR.out).mono ?_; rintro e w2 ⟨rfl, hr2, hg2⟩; have HZ2 := hid ((hg2.block w.heap.size (by omega) (by simp; omega)).trans HZ.out); have HR2 := hid hr2; have HG2 := hid (grown_trans HG.out hg2); clear hr2 hg2)
    | (refine wpList_store_row rfl 26 _ _ rfl w.heap.size zeroR rfl rfl 26 zeroR HZ2.out (by rw [← zeroR_eq]; exact rx_size _) rfl (by rw [← zeroR_eq]; exact rx_one _) ?_))
  have H5 : (w2.setRow w.heap.size zeroR).heap[w.heap.size]? = some (.cells zeroR 26) := setRow_heap _ _ _ _ _ (0, 0) HZ2.out
  have A1 : Rd (w2.setRow w.heap.size zeroR) g s i (nd + 1) 2 (i : Int) := (setRow_other _ _ g _ (by omega)).trans HR2.out
  have A2 := grown_row HG2.out (show w.heap.size ≤ w.heap.size by omega) zeroR
  exact bodyPost_ret (v := .tuple #[.agg zeroR, .bool false]) (results_cell_tmp (P := Tryd.prog) (fn := Tryd.f48) rfl _ _ w.heap.size 26 _ (0, 0) _ rfl H5 Tryd.underlying26 rfl (by rw [← zeroR_eq]; exact rx_size _)) rfl ⟨rfl, A1, A2⟩
end Go.Proofs.YtoiegkejkahfgaaDoor
