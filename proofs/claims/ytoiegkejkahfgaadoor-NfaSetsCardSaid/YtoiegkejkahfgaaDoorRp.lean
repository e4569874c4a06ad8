/- regex: one expression. -/
import Derived.Test.YtoiegkejkahfgaaDoorRt
import Derived.Test.YtoiegkejkahfgaaDoorRs
import Derived.Test.YtoiegkejkahfgaaDoorRd
set_option linter.unusedVariables false
set_option linter.unusedSimpArgs false
namespace Go.Proofs.YtoiegkejkahfgaaDoor
open Go.RowKit

/-- What the reader leaves of an expression. -/
def PostN (r : NR RT) (w : World) (g : Nat) (s : ByteArray) (e : Ending) (w' : World) : Prop :=
  w.grownBy w' (some g) ∧ match r with
  | .ok (t, j, nd') => ∃ v : RV, e = .returned (.tuple #[v.val, .bool true]) ∧ (∃ c p, Rd w' g s j nd' c p) ∧ Rep w' (w.heap.size ≤ ·) v t
  | .error (c, p) => (∃ v : RV, e = .returned (.tuple #[v.val, .bool false])) ∧ ∃ j nd', Rd w' g s j nd' (c : Int) (p : Int)
/-- What either is to do, one deeper. -/
def EitherAt (g : Nat) (s : ByteArray) (dp : Nat) (E : Nat → Nat → NR RT) : Prop :=
  (∀ (W : World) (j nd : Nat) (c p : Int), Rd W g s j nd c p → j ≤ s.size → nd ≤ 512 → Calls Tryd.prog 31 #[.pointer (some ⟨g, 0, none⟩), .int .i64 (dp : Int)] W (PostN (E j nd) W g s)) ∧
  ∀ j nd t j' nd', j ≤ s.size → nd ≤ 512 → E j nd = .ok (t, j', nd') → j ≤ j' ∧ j' ≤ s.size ∧ nd' ≤ 512
theorem put8 {w : World} {R : Nat} {t : TypeId} {cs : List Value} (v : RV) (h : Blk w R t cs) (hl : cs.length = 8) :
    Blk ((((((((w.setCell ⟨R, 0, none⟩ (.int .i64 v.k)).setCell ⟨R, 1, none⟩ (.int .u64 ((wd v.s 0 : Nat) : Int))).setCell ⟨R, 2, none⟩ (.int .u64 ((wd v.s 1 : Nat) : Int))).setCell ⟨R, 3, none⟩ (.int .u64 ((wd v.s 2 : Nat) : Int))).setCell ⟨R, 4, none⟩ (.int .u64 ((wd v.s 3 : Nat) : Int))).setCell ⟨R, 5, none⟩ (.slice v.A v.n v.c)).setCell ⟨R, 6, none⟩ (.int .i64 v.lo)).setCell ⟨R, 7, none⟩ (.int .i64 v.hi)) R t v.cells := by
  have h2 := (((((((h.put 0 (.int .i64 v.k)).put 1 (.int .u64 ((wd v.s 0 : Nat) : Int))).put 2 (.int .u64 ((wd v.s 1 : Nat) : Int))).put 3 (.int .u64 ((wd v.s 2 : Nat) : Int))).put 4 (.int .u64 ((wd v.s 3 : Nat) : Int))).put 5 (.slice v.A v.n v.c)).put 6 (.int .i64 v.lo)).put 7 (.int .i64 v.hi)
  match cs, hl with
  | [a, b, c, d, e, f, g, i], _ => exact h2

theorem post_storeR {w W : World} {g : Nat} {s : ByteArray} {R : Nat} {cs0 cs : Array Value} (hR : W.heap[R]? = some (.cells cs0 26)) (hg : w.grownBy W (some g)) (hRw : w.heap.size ≤ R) (hgR : g < w.heap.size) {j nd : Nat} {c p : Int} (hr : Rd W g s j nd c p) :
    (W.setRow R cs).heap[R]? = some (.cells cs 26) ∧ Rd (W.setRow R cs) g s j nd c p ∧ w.grownBy (W.setRow R cs) (some g) :=
  ⟨setRow_heap _ _ _ _ _ (0, 0) hR, (setRow_other _ _ g _ (by omega)).trans hr, grown_row hg hRw _⟩

set_option maxRecDepth 100000 in
set_option maxHeartbeats 4000000 in
theorem one_set {w : World} {g : Nat} {s : ByteArray} {i nd : Nat} {c p : Int} (h : Rd w g s i nd c p) (hi : i ≤ s.size) (hnd : nd ≤ 512) (hs : s.size ≤ 512) (dp : Nat) (E : Nat → Nat → NR RT) (h40 : nx s.data.toList i ≠ 40) :
    Calls Tryd.prog 73 #[.pointer (some ⟨g, 0, none⟩), .int .i64 (dp : Int)] w (PostN (pOne s.data.toList E i nd) w g s) := by
  have hgw := Blk.lt h
  have hA : Below w.heap.size w (w.alloc (.cells zeroR 26)) := (Below.refl _ _).alloc (Nat.le_refl _) _
  have HZ := hid (heap_alloc_new w (.cells zeroR 26))
  have HR := hid (h.keep hA)
  have HG := hid (grown_of_below hA (some g))
  have HT := hid (fun (W : World) (h : Rd W g s i nd c p) => took_no h hi hs 40 h40)
  have HSet := hid (fun (W : World) (h : Rd W g s i nd c p) => set_any h hi hs)
  have HP := hid (show pOne s.data.toList E i nd = match pSet s.data.toList i with
    | .error e => .error e
    | .ok (a, j) => mkN (.nd 2 a [] 0 0) j nd by unfold pOne; rw [if_neg h40]; rfl)
  generalize pOne s.data.toList E i nd = P at *
  generalize pSet s.data.toList i = r at *
  clear hA h h40
  go_enter Tryd.func73, Tryd.ntmps73
  go_upto_region 1 with (fail)
  change Code.wp _ _ _ _ (w.alloc (.cells zeroR 26))
  have hs1 : (w.alloc (.cells zeroR 26)).heap.size = w.heap.size + 1 := by simp
  generalize w.alloc (.cells zeroR 26) = w1 at *
  go_wp2_with fail
  refine (HT.out _ HR.out).mono ?_
  rintro e w2 ⟨rfl, hr2, hg2⟩
  have HZ2 := hid ((hg2.block w.heap.size (by omega) (by intro e; injection e with e; omega)).trans HZ.out)
  have HG2 := hid (grown_trans HG.out hg2)
  have hz2 : w.heap.size < w2.heap.size := by have := hg2.size; omega
  have HR2 := hid hr2
  clear hr2 hg2 HZ HG HR HT
  go_wp2_with fail
  refine (HSet.out _ HR2.out).mono ?_
  rintro e w3 ⟨hg3, hp3⟩
  have HZ3 := hid ((hg3.block w.heap.size (by omega) (by intro e; injection e with e; omega)).trans HZ2.out)
  have HG3 := hid (grown_trans HG2.out hg3)
  have hz3 : w.heap.size < w3.heap.size := by have := hg3.size; omega
  clear hg3 HG2 HZ2 HR2 HSet
  cases r with
  | error v =>
    obtain ⟨⟨v', ⟨x, rfl⟩, rfl⟩, j', nd', hr3⟩ := hp3
    have HP2 : Hid (P = .error v) := HP
    have hbx : Below w3.heap.size w3 ((w3.alloc (.cells #[.int .u64 0, .int .u64 0, .int .u64 0, .int .u64 0] 43)).setRow w3.heap.size (setL x).toArray) := below_row ((Below.refl _ _).alloc (Nat.le_refl _) _) (Nat.le_refl _) _
    have HZ4 := hid (Blk.keep HZ3.out hbx)
    have HG4 := hid (below_of_new HG3.out hbx)
    have HR4 := hid (Rd.keep hr3 hbx)
    clear hbx hr3
    go_wp2_with (first
      | (refine wpList_store_row rfl 43 _ _ rfl w3.heap.size (setL x).toArray ?_ ?_ 43 #[.int .u64 0, .int .u64 0, .int .u64 0, .int .u64 0] (heap_alloc_new w3 _) (set_info _) ?_ (four_one _) ?_; exact rfl; exact rfl; exact rfl; generalize (w3.alloc (.cells #[.int .u64 0, .int .u64 0, .int .u64 0, .int .u64 0] 43)).setRow w3.heap.size (setL x).toArray = w4 at *)
      | (refine wpList_store_row rfl 26 _ _ rfl w.heap.size zeroR ?_ ?_ 26 _ HZ4.out (by rw [← zeroR_eq]; exact rx_size _) ?_ (by rw [← zeroR_eq]; exact rx_one _) ?_; exact rfl; exact rfl; exact rfl))
    obtain ⟨A0, A1, A2⟩ := post_storeR (cs := zeroR) HZ4.out HG4.out (Nat.le_refl _) hgw HR4.out
    rw [HP2.out]
    exact bodyPost_ret (v := .tuple #[.agg zeroR, .bool false]) (results_cell_tmp (P := Tryd.prog) (fn := Tryd.f73) rfl _ _ w.heap.size 26 _ (0, 0) _ rfl A0 Tryd.underlying26 rfl (by rw [← zeroR_eq]; exact rx_size _)) rfl ⟨A2, ⟨RV.zero, by rw [rx_zero]; rfl⟩, _, _, A1⟩
  | ok v =>
    obtain ⟨a, j⟩ := v
    obtain ⟨rfl, c3, p3, hr3⟩ := hp3
    have HP1 : Hid (P = mkN (.nd 2 a [] 0 0) j nd) := HP
    clear HP
    have hbx : Below w3.heap.size w3 ((w3.alloc (.cells #[.int .u64 0, .int .u64 0, .int .u64 0, .int .u64 0] 43)).setRow w3.heap.size (setL a).toArray) := below_row ((Below.refl _ _).alloc (Nat.le_refl _) _) (Nat.le_refl _) _
    have HX4 := hid (show Blk ((w3.alloc (.cells #[.int .u64 0, .int .u64 0, .int .u64 0, .int .u64 0] 43)).setRow w3.heap.size (setL a).toArray) w3.heap.size 43 (setL a) from setRow_heap _ _ _ _ _ (0, 0) (heap_alloc_new w3 _))
    have HZ4 := hid (Blk.keep HZ3.out hbx)
    have HG4 := hid (below_of_new HG3.out hbx)
    have HR4 := hid (Rd.keep hr3 hbx)
    have hz4 := hbx.size
    clear hbx hr3
    go_wp2_with (refine wpList_store_row rfl 43 _ _ rfl w3.heap.size (setL a).toArray ?_ ?_ 43 #[.int .u64 0, .int .u64 0, .int .u64 0, .int .u64 0] (heap_alloc_new w3 _) (set_info _) ?_ (four_one _) ?_; exact rfl; exact rfl; exact rfl; generalize (w3.alloc (.cells #[.int .u64 0, .int .u64 0, .int .u64 0, .int .u64 0] 43)).setRow w3.heap.size (setL a).toArray = w4 at *; clear HZ3 HG3; obtain ⟨c0, c1, c2, c3⟩ := HX4.out.cells4)
    by_cases hn : nd + 1 ≤ 512
    · have HP2 : Hid (P = .ok (.nd 2 a [] 0 0, j, nd + 1)) := hid (by rw [HP1.out]; unfold mkN; rw [if_pos hn])
      have HM := hid (made_yes HR4.out hn ⟨2, a, none, 0, 0, 0, 0⟩)
      have HSz := hid (rx_size (⟨2, a, none, 0, 0, 0, 0⟩ : RV))
      have HOne := hid (rx_one (⟨2, a, none, 0, 0, 0, 0⟩ : RV))
      unfold RV.val at HM
      simp only at HM
      go_wp2_with fail
      refine HM.out.mono ?_
      rintro e w5 ⟨rfl, hr5, hg5⟩
      have HZ5 := hid ((hg5.block w.heap.size (by omega) (by intro e; injection e with e; omega)).trans HZ4.out)
      have HG5 := hid (grown_trans HG4.out hg5)
      obtain ⟨A0, A1, A2⟩ := post_storeR (cs := (RV.mk 2 a none 0 0 0 0).cells.toArray) HZ5.out HG5.out (Nat.le_refl _) hgw hr5
      go_wp2_with (refine wpList_store_row rfl 26 _ _ rfl w.heap.size (RV.mk 2 a none 0 0 0 0).cells.toArray ?_ ?_ 26 _ HZ5.out HSz.out ?_ HOne.out ?_; exact rfl; exact rfl; exact rfl)
      rw [HP2.out]
      exact bodyPost_ret (v := .tuple #[.agg (RV.mk 2 a none 0 0 0 0).cells.toArray, .bool true]) (results_cell_tmp (P := Tryd.prog) (fn := Tryd.f73) rfl _ _ w.heap.size 26 _ (0, 0) _ rfl A0 Tryd.underlying26 rfl (HSz.out)) rfl ⟨A2, ⟨RV.mk 2 a none 0 0 0 0, rfl, ⟨_, _, A1⟩, Rep.leaf _ _ 2 a 0 0 0 none⟩⟩
    · have HP2 : Hid (P = .error (2, j)) := hid (by rw [HP1.out]; unfold mkN; rw [if_neg hn])
      have HM := hid (made_no HR4.out (by omega) (by omega) ⟨2, a, none, 0, 0, 0, 0⟩)
      unfold RV.val at HM
      simp only at HM
      go_wp2_with fail
      refine HM.out.mono ?_
      rintro e w5 ⟨rfl, hr5, hg5⟩
      have HZ5 := hid ((hg5.block w.heap.size (by omega) (by intro e; injection e with e; omega)).trans HZ4.out)
      have HG5 := hid (grown_trans HG4.out hg5)
      go_wp2_with (refine wpList_store_row rfl 26 _ _ rfl w.heap.size zeroR ?_ ?_ 26 _ HZ5.out (by rw [← zeroR_eq]; exact rx_size _) ?_ (by rw [← zeroR_eq]; exact rx_one _) ?_; exact rfl; exact rfl; exact rfl)
      obtain ⟨A0, A1, A2⟩ := post_storeR (cs := zeroR) HZ5.out HG5.out (Nat.le_refl _) hgw hr5
      rw [HP2.out]
      exact bodyPost_ret (v := .tuple #[.agg zeroR, .bool false]) (results_cell_tmp (P := Tryd.prog) (fn := Tryd.f73) rfl _ _ w.heap.size 26 _ (0, 0) _ rfl A0 Tryd.underlying26 rfl (by rw [← zeroR_eq]; exact rx_size _)) rfl ⟨A2, ⟨RV.zero, by rw [rx_zero]; rfl⟩, _, _, A1⟩
end Go.Proofs.YtoiegkejkahfgaaDoor

/- regex: one expression, in parentheses. -/
namespace Go.Proofs.YtoiegkejkahfgaaDoor
open Go.RowKit

theorem Blk.row {w : World} {b : Nat} {t : TypeId} {cs : List Value} (h : Blk w b t cs) : RowAt w b 0 cs := fun i hi => by
  rw [Nat.zero_add, h.at i, List.getElem?_eq_getElem hi]
theorem Blk.cells8' {w : World} {b : Nat} {t : TypeId} {v : RV} (h : Blk w b t v.cells) : w.cell? ⟨b, 0, none⟩ = some (.int .i64 v.k) ∧ w.cell? ⟨b, 1, none⟩ = some (.int .u64 ((wd v.s 0 : Nat) : Int)) ∧ w.cell? ⟨b, 2, none⟩ = some (.int .u64 ((wd v.s 1 : Nat) : Int)) ∧ w.cell? ⟨b, 3, none⟩ = some (.int .u64 ((wd v.s 2 : Nat) : Int)) ∧ w.cell? ⟨b, 4, none⟩ = some (.int .u64 ((wd v.s 3 : Nat) : Int)) ∧ w.cell? ⟨b, 5, none⟩ = some (.slice v.A v.n v.c) ∧ w.cell? ⟨b, 6, none⟩ = some (.int .i64 v.lo) ∧ w.cell? ⟨b, 7, none⟩ = some (.int .i64 v.hi) :=
  ⟨h.at 0, h.at 1, h.at 2, h.at 3, h.at 4, h.at 5, h.at 6, h.at 7⟩
theorem Blk.grownD {w4 w5 : World} {g b : Nat} {t : TypeId} {cs : List Value} (h5 : w4.drew.grownBy w5 (some g)) (h : Blk w4 b t cs) (hne : b ≠ g) : Blk w5 b t cs := (h5.block b h.lt (by intro e; injection e with e; exact hne e)).trans h
theorem Rep.grownD {w4 w5 : World} {base g : Nat} {v : RV} {t : RT} (h : Rep w4 (base ≤ ·) v t) (h5 : w4.drew.grownBy w5 (some g)) (hb : g < base) : Rep w5 (base ≤ ·) v t := h.mono h5.size (fun b hp hl => h5.block b hl (by intro e; injection e with e; omega)) (fun _ h _ => h)
theorem repSt8 {W : World} {R B base : Nat} {x v : RV} {t : RT} (h : Rep W (B ≤ ·) x t) (hR : R < B) (hb : base ≤ B) : Rep ((((((((W.setCell ⟨R, 0, none⟩ (.int .i64 v.k)).setCell ⟨R, 1, none⟩ (.int .u64 ((wd v.s 0 : Nat) : Int))).setCell ⟨R, 2, none⟩ (.int .u64 ((wd v.s 1 : Nat) : Int))).setCell ⟨R, 3, none⟩ (.int .u64 ((wd v.s 2 : Nat) : Int))).setCell ⟨R, 4, none⟩ (.int .u64 ((wd v.s 3 : Nat) : Int))).setCell ⟨R, 5, none⟩ (.slice v.A v.n v.c)).setCell ⟨R, 6, none⟩ (.int .i64 v.lo)).setCell ⟨R, 7, none⟩ (.int .i64 v.hi)) (base ≤ ·) x t := by
  have o : ∀ (X : World) (i : Nat) (u : Value) (k : Nat), k ≠ R → (X.setCell ⟨R, i, none⟩ u).heap[k]? = X.heap[k]? := fun X i u k hk => Below.heap_setCell X ⟨R, i, none⟩ u k hk
  refine h.mono (by simp [World.setCell]) (fun k hp _ => ?_) (fun _ h _ => Nat.le_trans hb h)
  have hk : k ≠ R := by have : B ≤ k := hp; omega
  rw [o _ _ _ _ hk, o _ _ _ _ hk, o _ _ _ _ hk, o _ _ _ _ hk, o _ _ _ _ hk, o _ _ _ _ hk, o _ _ _ _ hk, o _ _ _ _ hk]
theorem grown_drew_trans {w w4 w5 : World} {g : Nat} (h : w.grownBy w4 (some g)) (h5 : w4.drew.grownBy w5 (some g)) : w.grownBy w5 (some g) := grown_trans h ⟨h5.os, h5.tape, h5.output, h5.size, h5.block⟩
theorem repk {W w4 w5 : World} {base g : Nat} {v : RV} {t : RT} (h : Rep W (base ≤ ·) v t) (h4 : W.grownBy w4 (some g)) (h5 : w4.grownBy w5 (some g)) (hb : g < base) : Rep w5 (base ≤ ·) v t := (h.grown h4 hb).grown h5 hb
theorem Blk.freez {w : World} {b : Nat} {t : TypeId} {cs : List Value} (h : Blk w b t cs) : w.frozen? ⟨b, 0, none⟩ = false ∧ w.frozen? ⟨b, 1, none⟩ = false ∧ w.frozen? ⟨b, 2, none⟩ = false ∧ w.frozen? ⟨b, 3, none⟩ = false ∧ w.frozen? ⟨b, 4, none⟩ = false ∧ w.frozen? ⟨b, 5, none⟩ = false ∧ w.frozen? ⟨b, 6, none⟩ = false ∧ w.frozen? ⟨b, 7, none⟩ = false :=
  ⟨h.free 0, h.free 1, h.free 2, h.free 3, h.free 4, h.free 5, h.free 6, h.free 7⟩
theorem zero_row {w : World} {b : Nat} {t : TypeId} (h : Blk w b t zeroR.toList) : w.cell? ⟨b, 0, none⟩ = some (.int .i64 0) ∧ w.cell? ⟨b, 1, none⟩ = some (.int .u64 0) ∧ w.cell? ⟨b, 2, none⟩ = some (.int .u64 0) ∧ w.cell? ⟨b, 3, none⟩ = some (.int .u64 0) ∧ w.cell? ⟨b, 4, none⟩ = some (.int .u64 0) ∧ w.cell? ⟨b, 5, none⟩ = some (.slice none 0 0) ∧ w.cell? ⟨b, 6, none⟩ = some (.int .i64 0) ∧ w.cell? ⟨b, 7, none⟩ = some (.int .i64 0) :=
  ⟨h.at 0, h.at 1, h.at 2, h.at 3, h.at 4, h.at 5, h.at 6, h.at 7⟩
theorem grown_set8 {w W : World} {g R : Nat} (h : w.grownBy W (some g)) (hR : w.heap.size ≤ R) (v : RV) : w.grownBy ((((((((W.setCell ⟨R, 0, none⟩ (.int .i64 v.k)).setCell ⟨R, 1, none⟩ (.int .u64 ((wd v.s 0 : Nat) : Int))).setCell ⟨R, 2, none⟩ (.int .u64 ((wd v.s 1 : Nat) : Int))).setCell ⟨R, 3, none⟩ (.int .u64 ((wd v.s 2 : Nat) : Int))).setCell ⟨R, 4, none⟩ (.int .u64 ((wd v.s 3 : Nat) : Int))).setCell ⟨R, 5, none⟩ (.slice v.A v.n v.c)).setCell ⟨R, 6, none⟩ (.int .i64 v.lo)).setCell ⟨R, 7, none⟩ (.int .i64 v.hi)) (some g) := by
  have gset : ∀ (X : World) (o : Nat) (u : Value), w.grownBy X (some g) → w.grownBy (X.setCell ⟨R, o, none⟩ u) (some g) := fun X o u hx =>
    ⟨hx.os, hx.tape, hx.output, by have := hx.size; simpa [World.setCell] using this, fun k hk hn => (Below.heap_setCell X ⟨R, o, none⟩ u k (by show k ≠ R; omega)).trans (hx.block k hk hn)⟩
  exact gset _ _ _ (gset _ _ _ (gset _ _ _ (gset _ _ _ (gset _ _ _ (gset _ _ _ (gset _ _ _ (gset _ _ _ h)))))))
theorem other8 {W : World} {R b : Nat} {t : TypeId} {cs : List Value} (h : Blk W b t cs) (hb : b ≠ R) (v : RV) : Blk ((((((((W.setCell ⟨R, 0, none⟩ (.int .i64 v.k)).setCell ⟨R, 1, none⟩ (.int .u64 ((wd v.s 0 : Nat) : Int))).setCell ⟨R, 2, none⟩ (.int .u64 ((wd v.s 1 : Nat) : Int))).setCell ⟨R, 3, none⟩ (.int .u64 ((wd v.s 2 : Nat) : Int))).setCell ⟨R, 4, none⟩ (.int .u64 ((wd v.s 3 : Nat) : Int))).setCell ⟨R, 5, none⟩ (.slice v.A v.n v.c)).setCell ⟨R, 6, none⟩ (.int .i64 v.lo)).setCell ⟨R, 7, none⟩ (.int .i64 v.hi)) b t cs := by
  have o : ∀ (X : World) (i : Nat) (u : Value), Blk X b t cs → Blk (X.setCell ⟨R, i, none⟩ u) b t cs := fun X i u h => Blk.other h (p := ⟨R, i, none⟩) hb u
  exact o _ _ _ (o _ _ _ (o _ _ _ (o _ _ _ (o _ _ _ (o _ _ _ (o _ _ _ (o _ _ _ h)))))))

set_option maxRecDepth 100000 in
set_option maxHeartbeats 8000000 in
theorem one_par {w : World} {g : Nat} {s : ByteArray} {i nd : Nat} {c p : Int} (h : Rd w g s i nd c p) (hi : i ≤ s.size) (hnd : nd ≤ 512) (hs : s.size ≤ 512) (dp : Nat) (hdp : dp ≤ 32) (E : Nat → Nat → NR RT) (HE : EitherAt g s (dp + 1) E) (h40 : nx s.data.toList i = 40) :
    Calls Tryd.prog 73 #[.pointer (some ⟨g, 0, none⟩), .int .i64 (dp : Int)] w (PostN (pOne s.data.toList E i nd) w g s) := by
  have hgw := Blk.lt h
  have hA : Below w.heap.size w (w.alloc (.cells zeroR 26)) := (Below.refl _ _).alloc (Nat.le_refl _) _
  have HZ := hid (heap_alloc_new w (.cells zeroR 26))
  have HR := hid (h.keep hA)
  have HG := hid (grown_of_below hA (some g))
  have HT := hid (fun (W : World) (h : Rd W g s i nd c p) => took_yes h hi hs 40 h40)
  have hi1 : i + 1 ≤ s.size := nx_lt (l := s.data.toList) (by omega)
  have HEc := hid (fun (W : World) (h : Rd W g s (i + 1) nd c p) => HE.1 W (i + 1) nd c p h hi1 hnd)
  rw [show ((dp + 1 : Nat) : Int) = (dp : Int) + 1 by omega] at HEc
  have HEl := hid (fun t j' nd' (e : E (i + 1) nd = .ok (t, j', nd')) => HE.2 (i + 1) nd t j' nd' hi1 hnd e)
  have HP := hid (show pOne s.data.toList E i nd = match E (i + 1) nd with
    | .error e => .error e
    | .ok (t, j, nd') => if nx s.data.toList j = 41 then .ok (t, j + 1, nd') else .error (5, j) by unfold pOne; rw [if_pos h40]; rfl)
  generalize pOne s.data.toList E i nd = P at *
  generalize E (i + 1) nd = r at *
  clear hA h h40 HE
  go_enter Tryd.func73, Tryd.ntmps73
  go_upto_region 1 with (fail)
  change Code.wp _ _ _ _ (w.alloc (.cells zeroR 26))
  have hs1 : (w.alloc (.cells zeroR 26)).heap.size = w.heap.size + 1 := by simp
  generalize w.alloc (.cells zeroR 26) = w1 at *
  go_wp2_with fail
  refine (HT.out _ HR.out).mono ?_
  rintro e w2 ⟨rfl, hr2, hg2⟩
  have HZ2 := hid ((hg2.block w.heap.size (by omega) (by intro e; injection e with e; omega)).trans HZ.out)
  have HG2 := hid (grown_trans HG.out hg2)
  have hz2 : w.heap.size < w2.heap.size := by have := hg2.size; omega
  have HR2 := hid hr2
  clear hr2 hg2 HZ HG HR HT
  go_wp2_with fail
  refine (HEc.out _ HR2.out).mono ?_
  rintro e w3 ⟨hg3, hp3⟩
  have HZ3 := hid ((hg3.block w.heap.size (by omega) (by intro e; injection e with e; omega)).trans HZ2.out)
  have HG3 := hid (grown_trans HG2.out hg3)
  have hz3 : w.heap.size < w3.heap.size := by have := hg3.size; omega
  clear hg3 HG2 HZ2 HR2 HEc
  cases r with
  | error v =>
    obtain ⟨⟨v', rfl⟩, j', nd', hr3⟩ := hp3
    have HP2 : Hid (P = .error v) := HP
    have hbx : Below w3.heap.size w3 ((w3.alloc (.cells #[.int .i64 0, .int .u64 0, .int .u64 0, .int .u64 0, .int .u64 0, .slice none 0 0, .int .i64 0, .int .i64 0] 26)).setRow w3.heap.size v'.cells.toArray) := below_row ((Below.refl _ _).alloc (Nat.le_refl _) _) (Nat.le_refl _) _
    have HX4 := hid (show Blk ((w3.alloc (.cells #[.int .i64 0, .int .u64 0, .int .u64 0, .int .u64 0, .int .u64 0, .slice none 0 0, .int .i64 0, .int .i64 0] 26)).setRow w3.heap.size v'.cells.toArray) w3.heap.size 26 v'.cells from setRow_heap _ _ _ _ _ (0, 0) (heap_alloc_new w3 _))
    have HZ4 := hid (Blk.keep (cs := zeroR.toList) HZ3.out hbx)
    have HG4 := hid (below_of_new HG3.out hbx)
    have HR4 := hid (Rd.keep hr3 hbx)
    have HSz := hid (rx_size v')
    have HOne := hid (rx_one v')
    unfold RV.val
    clear hbx hr3
    go_wp2_with (refine wpList_store_row rfl 26 _ _ rfl w3.heap.size v'.cells.toArray ?_ ?_ 26 #[.int .i64 0, .int .u64 0, .int .u64 0, .int .u64 0, .int .u64 0, .slice none 0 0, .int .i64 0, .int .i64 0] (heap_alloc_new w3 _) HSz.out ?_ HOne.out ?_; exact rfl; exact rfl; exact rfl; generalize (w3.alloc (.cells #[.int .i64 0, .int .u64 0, .int .u64 0, .int .u64 0, .int .u64 0, .slice none 0 0, .int .i64 0, .int .i64 0] 26)).setRow w3.heap.size v'.cells.toArray = w4 at *; obtain ⟨x0, x1, x2, x3, x4, x5, x6, x7⟩ := HX4.out.cells8'; obtain ⟨y0, y1, y2, y3, y4, y5, y6, y7⟩ := zero_row HZ4.out; obtain ⟨z0, z1, z2, z3, z4, z5, z6, z7⟩ := HZ4.out.freez; clear HZ3 HG3)
    go_region
    have H8 := put8 v' HZ4.out rfl
    have HR8 := other8 HR4.out (show g ≠ w.heap.size by omega) v'
    have HG8 := grown_set8 HG4.out (Nat.le_refl _) v'
    clear x0 x1 x2 x3 x4 x5 x6 x7 y0 y1 y2 y3 y4 y5 y6 y7 z0 z1 z2 z3 z4 z5 z6 z7
    generalize ((((((((w4.setCell ⟨w.heap.size, 0, none⟩ (.int .i64 v'.k)).setCell ⟨w.heap.size, 1, none⟩ (.int .u64 ((wd v'.s 0 : Nat) : Int))).setCell ⟨w.heap.size, 2, none⟩ (.int .u64 ((wd v'.s 1 : Nat) : Int))).setCell ⟨w.heap.size, 3, none⟩ (.int .u64 ((wd v'.s 2 : Nat) : Int))).setCell ⟨w.heap.size, 4, none⟩ (.int .u64 ((wd v'.s 3 : Nat) : Int))).setCell ⟨w.heap.size, 5, none⟩ (.slice v'.A v'.n v'.c)).setCell ⟨w.heap.size, 6, none⟩ (.int .i64 v'.lo)).setCell ⟨w.heap.size, 7, none⟩ (.int .i64 v'.hi)) = w8 at *
    have H9 : w8.drew.heap[w.heap.size]? = some (.cells v'.cells.toArray 26) := H8
    have A1 : Rd w8.drew g s j' nd' (v.1 : Int) (v.2 : Int) := HR8
    have A2 : w.grownBy w8.drew (some g) := ⟨HG8.os, HG8.tape, HG8.output, HG8.size, HG8.block⟩
    clear H8 HR8 HG8 HZ4 HX4 HG4 HR4
    go_wp2_with fail
    rw [HP2.out]
    exact bodyPost_ret (v := .tuple #[.agg v'.cells.toArray, .bool false]) (results_cell_tmp (P := Tryd.prog) (fn := Tryd.f73) rfl _ _ w.heap.size 26 _ (0, 0) _ rfl H9 Tryd.underlying26 rfl HSz.out) rfl ⟨A2, ⟨v', rfl⟩, _, _, A1⟩
  | ok v =>
    obtain ⟨t, j, nd'⟩ := v
    obtain ⟨v', rfl, ⟨c3, p3, hr3⟩, hrep⟩ := hp3
    have hlt := HEl.out t j nd' rfl
    have hj2 : j ≤ s.size := hlt.2.1
    have HP1 : Hid (P = if nx s.data.toList j = 41 then .ok (t, j + 1, nd') else .error (5, j)) := HP
    clear HP HEl
    by_cases h41 : nx s.data.toList j = 41
    · have HP2 := hid (HP1.out.trans (if_pos h41))
      clear HP1
      have hbx : Below w3.heap.size w3 ((w3.alloc (.cells #[.int .i64 0, .int .u64 0, .int .u64 0, .int .u64 0, .int .u64 0, .slice none 0 0, .int .i64 0, .int .i64 0] 26)).setRow w3.heap.size v'.cells.toArray) := below_row ((Below.refl _ _).alloc (Nat.le_refl _) _) (Nat.le_refl _) _
      have HX4 := hid (show Blk ((w3.alloc (.cells #[.int .i64 0, .int .u64 0, .int .u64 0, .int .u64 0, .int .u64 0, .slice none 0 0, .int .i64 0, .int .i64 0] 26)).setRow w3.heap.size v'.cells.toArray) w3.heap.size 26 v'.cells from setRow_heap _ _ _ _ _ (0, 0) (heap_alloc_new w3 _))
      have HZ4 := hid (Blk.keep (cs := zeroR.toList) HZ3.out hbx)
      have HG4 := hid (below_of_new HG3.out hbx)
      have HR4 := hid (Rd.keep hr3 hbx)
      have HSz := hid (rx_size v')
      have HOne := hid (rx_one v')
      have HREP := hid (hrep.mono hbx.size (fun b _ hl => hbx.block b hl) (fun _ h _ => h))
      clear hrep
      unfold RV.val
      clear hbx hr3
      go_wp2_with (refine wpList_store_row rfl 26 _ _ rfl w3.heap.size v'.cells.toArray ?_ ?_ 26 #[.int .i64 0, .int .u64 0, .int .u64 0, .int .u64 0, .int .u64 0, .slice none 0 0, .int .i64 0, .int .i64 0] (heap_alloc_new w3 _) HSz.out ?_ HOne.out ?_; exact rfl; exact rfl; exact rfl; generalize (w3.alloc (.cells #[.int .i64 0, .int .u64 0, .int .u64 0, .int .u64 0, .int .u64 0, .slice none 0 0, .int .i64 0, .int .i64 0] 26)).setRow w3.heap.size v'.cells.toArray = w4 at *; obtain ⟨x0, x1, x2, x3, x4, x5, x6, x7⟩ := HX4.out.cells8'; obtain ⟨y0, y1, y2, y3, y4, y5, y6, y7⟩ := zero_row HZ4.out; obtain ⟨z0, z1, z2, z3, z4, z5, z6, z7⟩ := HZ4.out.freez; clear HZ3 HG3)
      have HMu : Hid (∀ (W : World), Rd W g s j nd' c3 p3 → Calls Tryd.prog 77 #[.pointer (some ⟨g, 0, none⟩), .int .u8 41] W fun e w' => e = .returned (.bool true) ∧ Rd w' g s (j + 1) nd' c3 p3 ∧ W.grownBy w' (some g)) := hid (fun W h => must_yes h hj2 hs 41 h41)
      clear h41
      have hk8 := HX4.out.cells8'
      have hk8d := Blk.cells8' (w := w4.drew) (v := v') HX4.out
      have hne2 : w3.heap.size ≠ w.heap.size := by omega
      have hng1 : w3.heap.size ≠ g := by omega
      have hng2 : w.heap.size ≠ g := by omega
      have hng3 : g < w2.heap.size := by omega
      clear x0 x1 x2 x3 x4 x5 x6 x7
      go_region_held3 (fun w' => w'.cell? ⟨w3.heap.size, 0, none⟩ = some (.int .i64 v'.k) ∧ w'.cell? ⟨w3.heap.size, 1, none⟩ = some (.int .u64 ((wd v'.s 0 : Nat) : Int)) ∧ w'.cell? ⟨w3.heap.size, 2, none⟩ = some (.int .u64 ((wd v'.s 1 : Nat) : Int)) ∧ w'.cell? ⟨w3.heap.size, 3, none⟩ = some (.int .u64 ((wd v'.s 2 : Nat) : Int)) ∧ w'.cell? ⟨w3.heap.size, 4, none⟩ = some (.int .u64 ((wd v'.s 3 : Nat) : Int)) ∧ w'.cell? ⟨w3.heap.size, 5, none⟩ = some (.slice v'.A v'.n v'.c) ∧ w'.cell? ⟨w3.heap.size, 6, none⟩ = some (.int .i64 v'.lo) ∧ w'.cell? ⟨w3.heap.size, 7, none⟩ = some (.int .i64 v'.hi))
        (first | with_reducible exact hk8 | with_reducible exact hk8d | with_reducible exact Blk.cells8' (v := v') (other8 HX5.out hne2 v'))
        (first | (go_at_call 77; with_reducible refine (HMu.out _ (by first | exact HR4.out | exact HR4.out.drew)).mono ?_; rintro e w5 ⟨rfl, hr5, hg5⟩; have HX5 := hid (Blk.grownD hg5 HX4.out hng1); have HZ5 := hid (Blk.grownD hg5 HZ4.out hng2); have HREP5 := hid (HREP.out.grownD hg5 hng3); have HG5 := hid (grown_drew_trans HG4.out hg5); have HR5 := hid hr5; clear hr5 hg5 y0 y1 y2 y3 y4 y5 y6 y7 z0 z1 z2 z3 z4 z5 z6 z7; have hk8 := Blk.cells8' (v := v') HX5.out; obtain ⟨y0, y1, y2, y3, y4, y5, y6, y7⟩ := zero_row HZ5.out; obtain ⟨z0, z1, z2, z3, z4, z5, z6, z7⟩ := Blk.freez HZ5.out))
      have H8 := put8 v' HZ5.out rfl
      have HR8 := other8 HR5.out (show g ≠ w.heap.size by omega) v'
      have HG8 := grown_set8 HG5.out (Nat.le_refl _) v'
      clear hk8 y0 y1 y2 y3 y4 y5 y6 y7 z0 z1 z2 z3 z4 z5 z6 z7
      have HREP8 := repSt8 (v := v') HREP5.out (show w.heap.size < w2.heap.size by omega) (show w.heap.size ≤ w2.heap.size by omega)
      generalize ((((((((w5.setCell ⟨w.heap.size, 0, none⟩ (.int .i64 v'.k)).setCell ⟨w.heap.size, 1, none⟩ (.int .u64 ((wd v'.s 0 : Nat) : Int))).setCell ⟨w.heap.size, 2, none⟩ (.int .u64 ((wd v'.s 1 : Nat) : Int))).setCell ⟨w.heap.size, 3, none⟩ (.int .u64 ((wd v'.s 2 : Nat) : Int))).setCell ⟨w.heap.size, 4, none⟩ (.int .u64 ((wd v'.s 3 : Nat) : Int))).setCell ⟨w.heap.size, 5, none⟩ (.slice v'.A v'.n v'.c)).setCell ⟨w.heap.size, 6, none⟩ (.int .i64 v'.lo)).setCell ⟨w.heap.size, 7, none⟩ (.int .i64 v'.hi)) = w8 at *
      have H9 : w8.heap[w.heap.size]? = some (.cells v'.cells.toArray 26) := H8
      have A1 : Rd w8 g s (j + 1) nd' c3 p3 := HR8
      have A2 : w.grownBy w8 (some g) := ⟨HG8.os, HG8.tape, HG8.output, HG8.size, HG8.block⟩
      clear H8 HR8 HG8 HZ4 HX4 HG4 HR4
      go_wp2_with fail
      rw [HP2.out]
      exact bodyPost_ret (v := .tuple #[.agg v'.cells.toArray, .bool true]) (results_cell_tmp (P := Tryd.prog) (fn := Tryd.f73) rfl _ _ w.heap.size 26 _ (0, 0) _ rfl H9 Tryd.underlying26 rfl HSz.out) rfl ⟨A2, ⟨v', rfl, ⟨_, _, A1⟩, HREP8⟩⟩
    · have HP2 := hid (HP1.out.trans (if_neg h41))
      clear HP1
      have hbx : Below w3.heap.size w3 ((w3.alloc (.cells #[.int .i64 0, .int .u64 0, .int .u64 0, .int .u64 0, .int .u64 0, .slice none 0 0, .int .i64 0, .int .i64 0] 26)).setRow w3.heap.size v'.cells.toArray) := below_row ((Below.refl _ _).alloc (Nat.le_refl _) _) (Nat.le_refl _) _
      have HX4 := hid (show Blk ((w3.alloc (.cells #[.int .i64 0, .int .u64 0, .int .u64 0, .int .u64 0, .int .u64 0, .slice none 0 0, .int .i64 0, .int .i64 0] 26)).setRow w3.heap.size v'.cells.toArray) w3.heap.size 26 v'.cells from setRow_heap _ _ _ _ _ (0, 0) (heap_alloc_new w3 _))
      have HZ4 := hid (Blk.keep (cs := zeroR.toList) HZ3.out hbx)
      have HG4 := hid (below_of_new HG3.out hbx)
      have HR4 := hid (Rd.keep hr3 hbx)
      have HSz := hid (rx_size v')
      have HOne := hid (rx_one v')
      have HREP := hid (hrep.mono hbx.size (fun b _ hl => hbx.block b hl) (fun _ h _ => h))
      clear hrep
      unfold RV.val
      clear hbx hr3
      go_wp2_with (refine wpList_store_row rfl 26 _ _ rfl w3.heap.size v'.cells.toArray ?_ ?_ 26 #[.int .i64 0, .int .u64 0, .int .u64 0, .int .u64 0, .int .u64 0, .slice none 0 0, .int .i64 0, .int .i64 0] (heap_alloc_new w3 _) HSz.out ?_ HOne.out ?_; exact rfl; exact rfl; exact rfl; generalize (w3.alloc (.cells #[.int .i64 0, .int .u64 0, .int .u64 0, .int .u64 0, .int .u64 0, .slice none 0 0, .int .i64 0, .int .i64 0] 26)).setRow w3.heap.size v'.cells.toArray = w4 at *; obtain ⟨x0, x1, x2, x3, x4, x5, x6, x7⟩ := HX4.out.cells8'; obtain ⟨y0, y1, y2, y3, y4, y5, y6, y7⟩ := zero_row HZ4.out; obtain ⟨z0, z1, z2, z3, z4, z5, z6, z7⟩ := HZ4.out.freez; clear HZ3 HG3)
      have HMu : Hid (∀ (W : World), Rd W g s j nd' c3 p3 → Calls Tryd.prog 77 #[.pointer (some ⟨g, 0, none⟩), .int .u8 41] W fun e w' => e = .returned (.bool false) ∧ Rd w' g s j nd' 5 (j : Int) ∧ W.grownBy w' (some g)) := hid (fun W h => must_no h hj2 hs 41 h41)
      clear h41
      have hk8 := HX4.out.cells8'
      have hk8d := Blk.cells8' (w := w4.drew) (v := v') HX4.out
      have hne2 : w3.heap.size ≠ w.heap.size := by omega
      have hng1 : w3.heap.size ≠ g := by omega
      have hng2 : w.heap.size ≠ g := by omega
      have hng3 : g < w2.heap.size := by omega
      clear x0 x1 x2 x3 x4 x5 x6 x7
      go_region_held3 (fun w' => w'.cell? ⟨w3.heap.size, 0, none⟩ = some (.int .i64 v'.k) ∧ w'.cell? ⟨w3.heap.size, 1, none⟩ = some (.int .u64 ((wd v'.s 0 : Nat) : Int)) ∧ w'.cell? ⟨w3.heap.size, 2, none⟩ = some (.int .u64 ((wd v'.s 1 : Nat) : Int)) ∧ w'.cell? ⟨w3.heap.size, 3, none⟩ = some (.int .u64 ((wd v'.s 2 : Nat) : Int)) ∧ w'.cell? ⟨w3.heap.size, 4, none⟩ = some (.int .u64 ((wd v'.s 3 : Nat) : Int)) ∧ w'.cell? ⟨w3.heap.size, 5, none⟩ = some (.slice v'.A v'.n v'.c) ∧ w'.cell? ⟨w3.heap.size, 6, none⟩ = some (.int .i64 v'.lo) ∧ w'.cell? ⟨w3.heap.size, 7, none⟩ = some (.int .i64 v'.hi))
        (first | with_reducible exact hk8 | with_reducible exact hk8d | with_reducible exact Blk.cells8' (v := v') (other8 HX5.out hne2 v'))
        (first | (go_at_call 77; with_reducible refine (HMu.out _ (by first | exact HR4.out | exact HR4.out.drew)).mono ?_; rintro e w5 ⟨rfl, hr5, hg5⟩; have HX5 := hid (Blk.grownD hg5 HX4.out hng1); have HZ5 := hid (Blk.grownD hg5 HZ4.out hng2); have HREP5 := hid (HREP.out.grownD hg5 hng3); have HG5 := hid (grown_drew_trans HG4.out hg5); have HR5 := hid hr5; clear hr5 hg5 y0 y1 y2 y3 y4 y5 y6 y7 z0 z1 z2 z3 z4 z5 z6 z7; have hk8 := Blk.cells8' (v := v') HX5.out; obtain ⟨y0, y1, y2, y3, y4, y5, y6, y7⟩ := zero_row HZ5.out; obtain ⟨z0, z1, z2, z3, z4, z5, z6, z7⟩ := Blk.freez HZ5.out))
      have H8 := put8 v' HZ5.out rfl
      have HR8 := other8 HR5.out (show g ≠ w.heap.size by omega) v'
      have HG8 := grown_set8 HG5.out (Nat.le_refl _) v'
      clear hk8 y0 y1 y2 y3 y4 y5 y6 y7 z0 z1 z2 z3 z4 z5 z6 z7
      have HREP8 := repSt8 (v := v') HREP5.out (show w.heap.size < w2.heap.size by omega) (show w.heap.size ≤ w2.heap.size by omega)
      generalize ((((((((w5.setCell ⟨w.heap.size, 0, none⟩ (.int .i64 v'.k)).setCell ⟨w.heap.size, 1, none⟩ (.int .u64 ((wd v'.s 0 : Nat) : Int))).setCell ⟨w.heap.size, 2, none⟩ (.int .u64 ((wd v'.s 1 : Nat) : Int))).setCell ⟨w.heap.size, 3, none⟩ (.int .u64 ((wd v'.s 2 : Nat) : Int))).setCell ⟨w.heap.size, 4, none⟩ (.int .u64 ((wd v'.s 3 : Nat) : Int))).setCell ⟨w.heap.size, 5, none⟩ (.slice v'.A v'.n v'.c)).setCell ⟨w.heap.size, 6, none⟩ (.int .i64 v'.lo)).setCell ⟨w.heap.size, 7, none⟩ (.int .i64 v'.hi)) = w8 at *
      have H9 : w8.heap[w.heap.size]? = some (.cells v'.cells.toArray 26) := H8
      have A1 : Rd w8 g s j nd' 5 (j : Int) := HR8
      have A2 : w.grownBy w8 (some g) := ⟨HG8.os, HG8.tape, HG8.output, HG8.size, HG8.block⟩
      clear H8 HR8 HG8 HZ4 HX4 HG4 HR4
      go_wp2_with fail
      rw [HP2.out]
      exact bodyPost_ret (v := .tuple #[.agg v'.cells.toArray, .bool false]) (results_cell_tmp (P := Tryd.prog) (fn := Tryd.f73) rfl _ _ w.heap.size 26 _ (0, 0) _ rfl H9 Tryd.underlying26 rfl HSz.out) rfl ⟨A2, ⟨v', rfl⟩, _, _, A1⟩
end Go.Proofs.YtoiegkejkahfgaaDoor

/- regex: one expression, and how often it may come. -/
set_option linter.unusedVariables false
set_option linter.unusedSimpArgs false
namespace Go.Proofs.YtoiegkejkahfgaaDoor
open Go.RowKit

theorem pOne_le {s : ByteArray} {g dp : Nat} {E : Nat → Nat → NR RT} (HE : EitherAt g s dp E) {i nd : Nat} (hi : i ≤ s.size) (hnd : nd ≤ 512) {t : RT} {j nd' : Nat} (e : pOne s.data.toList E i nd = .ok (t, j, nd')) : i < j ∧ j ≤ s.size ∧ nd' ≤ 512 := by
  unfold pOne at e
  split at e
  · rename_i h40
    have hi1 : i + 1 ≤ s.size := nx_lt (l := s.data.toList) (by omega)
    split at e
    · cases e
    · rename_i t' j' n' h1
      have h2 := HE.2 (i + 1) nd t' j' n' hi1 hnd h1
      split at e
      · rename_i h41
        have h3 : j' < s.size := nx_lt (l := s.data.toList) (by omega)
        simp only [Except.ok.injEq, Prod.mk.injEq] at e
        omega
      · cases e
  · split at e
    · cases e
    · rename_i a k h1
      have h2 := pSet_lt h1
      have h3 := mkN_ok e
      have h4 : s.data.toList.length = s.size := rfl
      omega
theorem one_any {w : World} {g : Nat} {s : ByteArray} {i nd : Nat} {c p : Int} (h : Rd w g s i nd c p) (hi : i ≤ s.size) (hnd : nd ≤ 512) (hs : s.size ≤ 512) (dp : Nat) (hdp : dp ≤ 32) (E : Nat → Nat → NR RT) (HE : EitherAt g s (dp + 1) E) :
    Calls Tryd.prog 73 #[.pointer (some ⟨g, 0, none⟩), .int .i64 (dp : Int)] w (PostN (pOne s.data.toList E i nd) w g s) := by
  by_cases h40 : nx s.data.toList i = 40
  · exact one_par h hi hnd hs dp hdp E HE h40
  · exact one_set h hi hnd hs dp E h40
theorem PostN.un {r : NR RT} {w w' : World} {g : Nat} {s : ByteArray} {e : Ending} (h : PostN r w g s e w') : ∃ (v : RV) (ok : Bool), e = .returned (.tuple #[v.val, .bool ok]) ∧ w.grownBy w' (some g) ∧
    ((ok = true ∧ ∃ t j nd', r = .ok (t, j, nd') ∧ (∃ c p, Rd w' g s j nd' c p) ∧ Rep w' (w.heap.size ≤ ·) v t) ∨ (ok = false ∧ ∃ c p : Nat, r = .error (c, p) ∧ ∃ j nd', Rd w' g s j nd' (c : Int) (p : Int))) := by
  obtain ⟨hg, hp⟩ := h
  cases r with
  | error v =>
    obtain ⟨⟨v', rfl⟩, j, nd', hr⟩ := hp
    exact ⟨v', false, rfl, hg, .inr ⟨rfl, v.1, v.2, rfl, j, nd', hr⟩⟩
  | ok v =>
    obtain ⟨t, j, nd'⟩ := v
    obtain ⟨v', rfl, hr, hrep⟩ := hp
    exact ⟨v', true, rfl, hg, .inl ⟨rfl, t, j, nd', rfl, hr, hrep⟩⟩
/-- What stands while it is read how often something may come. -/
structure RepB (w : World) (g : Nat) (B : Nat) (v : RV) (W : World) : Prop where
  gr : w.grownBy W (some g)
  res : Blk W w.heap.size 26 zeroR.toList
  box : Blk W B 26 v.cells
/-- Blocks that are neither the call's result nor its box. -/
def Own (w : World) (B : Nat) : Nat → Prop := fun b => w.heap.size < b ∧ b ≠ B
def RepSt (w : World) (g : Nat) (s : ByteArray) (B : Nat) (P : NR RT) (m : Nat) (ok : Bool) (v : RV) (W : World) : Prop :=
  RepB w g B v W ∧ ((ok = true ∧ ∃ t j nd', pRepL s.data.toList m t j nd' = P ∧ j ≤ s.size ∧ nd' ≤ 512 ∧ s.size < m + j ∧ (∃ c p, Rd W g s j nd' c p) ∧ Rep W (Own w B) v t) ∨ (ok = false ∧ ∃ c p : Nat, P = .error (c, p) ∧ ∃ j nd', Rd W g s j nd' (c : Int) (p : Int)))
section
variable {w W W' : World} {g B : Nat} {v : RV} {t : RT}
theorem RepB.step (h : RepB w g B v W) (hg : W.grownBy W' (some g)) (h1 : g ≠ B) (h2 : g < w.heap.size) : RepB w g B v W' :=
  ⟨grown_trans h.gr hg, (hg.block _ h.res.lt (by intro e; injection e with e; omega)).trans h.res, (hg.block _ h.box.lt (by intro e; injection e with e; omega)).trans h.box⟩
theorem RepB.below (h : RepB w g B v W) (hb : Below W.heap.size W W') : RepB w g B v W' := ⟨below_of_new h.gr hb, h.res.keep hb, h.box.keep hb⟩
theorem RepB.put (h : RepB w g B v W) (hB : w.heap.size < B) (x : RV) : RepB w g B x (W.setRow B x.cells.toArray) :=
  ⟨grown_row h.gr (by omega) _, (setRow_other _ _ _ _ (by omega)).trans h.res, setRow_heap _ _ _ _ _ (0, 0) h.box⟩
theorem own_step (h : Rep W (Own w B) v t) (hg : W.grownBy W' (some g)) (h2 : g < w.heap.size) : Rep W' (Own w B) v t :=
  h.mono hg.size (fun b hp hl => hg.block b hl (by intro e; injection e with e; have := hp.1; omega)) (fun _ h _ => h)
theorem own_below (h : Rep W (Own w B) v t) (hb : Below W.heap.size W W') : Rep W' (Own w B) v t := h.mono hb.size (fun b _ hl => hb.block b hl) (fun _ h _ => h)
theorem own_put (h : Rep W (Own w B) v t) (cs : Array Value) : Rep (W.setRow B cs) (Own w B) v t :=
  h.mono (by simp [World.setRow]) (fun b hp _ => setRow_other _ _ _ _ hp.2) (fun _ h _ => h)
theorem own_res (h : Rep W (Own w B) v t) (cs : Array Value) : Rep (W.setRow w.heap.size cs) (w.heap.size ≤ ·) v t :=
  h.mono (by simp [World.setRow]) (fun b hp _ => setRow_other _ _ _ _ (by have := hp.1; omega)) (fun _ h _ => by have := h.1; omega)
/-- One in a row of its own. -/
theorem own_kid (h : Rep W (Own w B) v t) (hB : w.heap.size < W.heap.size) (hBW : B < W.heap.size) (k : Int) (a : BS) (lo hi : Int) (cap : Nat) :
    Rep (W.alloc (.cells v.cells.toArray 26)) (Own w B) ⟨k, a, some ⟨W.heap.size, 0, none⟩, 1, cap, lo, hi⟩ (.nd k a [t] lo hi) := by
  have hb : Below W.heap.size W (W.alloc (.cells v.cells.toArray 26)) := (Below.refl _ _).alloc (Nat.le_refl _) _
  refine .mk ⟨k, a, some ⟨W.heap.size, 0, none⟩, 1, cap, lo, hi⟩ [t] (fun _ => v) rfl (fun _ => ⟨W.heap.size, 0, rfl, by simp, ⟨hB, by omega⟩, fun j hj => ?_⟩) (fun j hj => ?_)
  · obtain rfl : j = 0 := by simp at hj; omega
    exact Blk.row (Blk.fresh W 26 v.cells)
  · obtain rfl : j = 0 := by simp at hj; omega
    exact own_below h hb
end
theorem pRepL_stop {l : List UInt8} {m j nd : Nat} {t : RT} (h : isRep (nx l j) = false) : pRepL l (m + 1) t j nd = .ok (t, j, nd) := by
  rw [pRepL, if_neg (by rw [h]; decide)]
theorem pRepL_go {l : List UInt8} {m j nd : Nat} {t : RT} (h : isRep (nx l j) = true) : pRepL l (m + 1) t j nd = (match pTimes l j with
    | .error e => .error e
    | .ok ((lo, hi), k) => match mkN (.nd 5 (0#256) [t] lo hi) k nd with
      | .error e => .error e
      | .ok (t', _, nd') => pRepL l m t' k nd') := by
  rw [pRepL, if_pos h]
  rfl

set_option maxRecDepth 100000 in
set_option maxHeartbeats 8000000 in
theorem rep_any {w : World} {g : Nat} {s : ByteArray} {i nd : Nat} {c p : Int} (h : Rd w g s i nd c p) (hi : i ≤ s.size) (hnd : nd ≤ 512) (hs : s.size ≤ 512) (dp : Nat) (hdp : dp ≤ 32) (E : Nat → Nat → NR RT) (HE : EitherAt g s (dp + 1) E) :
    Calls Tryd.prog 63 #[.pointer (some ⟨g, 0, none⟩), .int .i64 (dp : Int)] w (PostN (pRep s.data.toList E i nd) w g s) := by
  have hgw := Blk.lt h
  have hA : Below w.heap.size w (w.alloc (.cells zeroR 26)) := (Below.refl _ _).alloc (Nat.le_refl _) _
  have HZ := hid (heap_alloc_new w (.cells zeroR 26))
  have HR := hid (h.keep hA)
  have HG := hid (grown_of_below hA (some g))
  have HO := hid (fun (W : World) (h : Rd W g s i nd c p) => one_any h hi hnd hs dp hdp E HE)
  have HOl := hid (fun t j nd' (e : pOne s.data.toList E i nd = .ok (t, j, nd')) => pOne_le HE hi hnd e)
  have HP := hid (show pRep s.data.toList E i nd = match pOne s.data.toList E i nd with
    | .error e => .error e
    | .ok (t, j, nd') => pRepL s.data.toList (s.data.toList.length + 1) t j nd' from rfl)
  generalize pRep s.data.toList E i nd = P at *
  generalize pOne s.data.toList E i nd = r at *
  clear hA h HE
  go_enter Tryd.func63, Tryd.ntmps63
  go_upto_region 1 with (fail)
  change Code.wp _ _ _ _ (w.alloc (.cells zeroR 26))
  have hs1 : (w.alloc (.cells zeroR 26)).heap.size = w.heap.size + 1 := by simp
  generalize w.alloc (.cells zeroR 26) = w1 at *
  go_wp2_with fail
  refine (HO.out _ HR.out).mono ?_
  rintro e w2 hpost
  obtain ⟨v, ok, rfl, hg2, hst⟩ := hpost.un
  have hz2 : w.heap.size < w2.heap.size := by have := hg2.size; omega
  have hbx : Below w2.heap.size w2 ((w2.alloc (.cells #[.int .i64 0, .int .u64 0, .int .u64 0, .int .u64 0, .int .u64 0, .slice none 0 0, .int .i64 0, .int .i64 0] 26)).setRow w2.heap.size v.cells.toArray) := below_row ((Below.refl _ _).alloc (Nat.le_refl _) _) (Nat.le_refl _) _
  have hB1 : w.heap.size < w2.heap.size := hz2
  have HSt : Hid (RepSt w g s w2.heap.size P (s.size + 1) ok v ((w2.alloc (.cells #[.int .i64 0, .int .u64 0, .int .u64 0, .int .u64 0, .int .u64 0, .slice none 0 0, .int .i64 0, .int .i64 0] 26)).setRow w2.heap.size v.cells.toArray)) := hid ⟨{
    gr := below_of_new (grown_trans HG.out hg2) hbx
    res := Blk.keep (cs := zeroR.toList) ((hg2.block w.heap.size (by omega) (by intro e; injection e with e; omega)).trans HZ.out) hbx
    box := setRow_heap _ _ _ _ _ (0, 0) (heap_alloc_new w2 _) }, by
      rcases hst with ⟨rfl, t, j, nd', rfl, ⟨c', p', hr⟩, hrep⟩ | ⟨rfl, c', p', rfl, j, nd', hr⟩
      · obtain ⟨h1, h2, h3⟩ := HOl.out t j nd' rfl
        exact .inl ⟨rfl, t, j, nd', HP.out.symm, h2, h3, by omega, ⟨c', p', hr.keep hbx⟩, hrep.mono hbx.size (fun b _ hl => hbx.block b hl) (fun b hb hl => ⟨by have : w1.heap.size ≤ b := hb; omega, by omega⟩)⟩
      · exact .inr ⟨rfl, c', p', HP.out, j, nd', hr.keep hbx⟩⟩
  have HSz := hid (rx_size v)
  have HOne := hid (rx_one v)
  clear hbx hst hpost hg2 HO HOl HP HR HG HZ
  unfold RV.val
  go_wp2_with (refine wpList_store_row rfl 26 _ _ rfl w2.heap.size v.cells.toArray ?_ ?_ 26 #[.int .i64 0, .int .u64 0, .int .u64 0, .int .u64 0, .int .u64 0, .slice none 0 0, .int .i64 0, .int .i64 0] (heap_alloc_new w2 _) HSz.out ?_ HOne.out ?_; exact rfl; exact rfl; exact rfl; generalize (w2.alloc (.cells #[.int .i64 0, .int .u64 0, .int .u64 0, .int .u64 0, .int .u64 0, .slice none 0 0, .int .i64 0, .int .i64 0] 26)).setRow w2.heap.size v.cells.toArray = w3 at *)
  have hgB : g ≠ w2.heap.size := by omega
  generalize w2.heap.size = B at *
  go_loopg [7] (s.size + 1) (fun m u wr => ∃ (ok : Bool) (v : RV), u = .bool ok ∧ Hid (RepSt w g s B P m ok v wr))
  case atStart => exact ⟨ok, v, rfl, HSt⟩
  case round =>
    clear HSt HSz HOne
    obtain ⟨ok, v, rfl, HS⟩ := hrel
    obtain ⟨hb0, hst0⟩ := HS.out
    have HB0 := hid hb0
    clear HS hb0
    rcases hst0 with ⟨rfl, t, j, nd', hpl, hj, hnd', hm, ⟨c1, p1, hr⟩, hrep⟩ | ⟨rfl, c1, p1, hP, j, nd', hr⟩
    · obtain ⟨m, rfl⟩ : ∃ m, gk = m + 1 := ⟨gk - 1, by omega⟩
      have HPL := hid hpl
      have HREP := hid hrep
      have HN := hid (next_any hr hj hs)
      have HI := hid (fun W => index_same rxReps (nx s.data.toList j) W)
      have HIR := hid (show isRep (nx s.data.toList j) = decide (0 ≤ firstIdx rxReps (nx s.data.toList j).toUInt8) from rfl)
      have hx256 := nx_byte s.data.toList j
      clear hpl hrep hr
      cases hir : isRep (nx s.data.toList j) with
      | false =>
        have HP2 : Hid (P = .ok (t, j, nd')) := hid (HPL.out.symm.trans (pRepL_stop hir))
        rw [hir] at HIR
        have hf : firstIdx rxReps (nx s.data.toList j).toUInt8 < 0 := by have := of_decide_eq_false HIR.out.symm; omega
        clear HIR hir HPL
        generalize firstIdx rxReps (nx s.data.toList j).toUInt8 = f at *
        generalize nx s.data.toList j = x at *
        unfold rxReps at HI
        go_wp2_with fail
        refine HN.out.mono ?_
        rintro e w4 ⟨rfl, hr4, hg4⟩
        have HB4 := hid (HB0.out.step hg4 hgB hgw)
        have HREP4 := hid (own_step HREP.out hg4 hgw)
        have HR4 := hid hr4
        clear hr4 hg4 HN HREP HB0
        obtain ⟨x0, x1, x2, x3, x4, x5, x6, x7⟩ := Blk.cells8' HB4.out.box
        have HSz := hid (rx_size v)
        have HOne := hid (rx_one v)
        have HRs := hid HB4.out.res
        go_wp2_with (first
          | (go_at_call 74; refine (HI.out _).mono ?_; rintro e w9 ⟨rfl, rfl⟩)
          | (refine wpList_store_row rfl 26 _ _ rfl w.heap.size v.cells.toArray ?_ ?_ 26 zeroR HRs.out HSz.out ?_ HOne.out ?_; exact rfl; exact rfl; exact rfl))
        obtain ⟨A0, A1, A2⟩ := post_storeR (cs := v.cells.toArray) (show w9.heap[w.heap.size]? = some (.cells zeroR 26) from HRs.out) HB4.out.gr (Nat.le_refl _) hgw HR4.out
        rw [HP2.out]
        exact bodyPost_ret (v := .tuple #[.agg v.cells.toArray, .bool true]) (results_cell_tmp (P := Tryd.prog) (fn := Tryd.f63) rfl _ _ w.heap.size 26 _ (0, 0) _ rfl A0 Tryd.underlying26 rfl HSz.out) rfl ⟨A2, ⟨v, rfl, ⟨_, _, A1⟩, own_res HREP4.out _⟩⟩
      | true =>
        have hj1 : j < s.size := isRep_lt (l := s.data.toList) hir
        have HP1 := hid ((pRepL_go (m := m) (t := t) (nd := nd') hir).symm.trans HPL.out)
        rw [hir] at HIR
        have hf : 0 ≤ firstIdx rxReps (nx s.data.toList j).toUInt8 := of_decide_eq_true HIR.out.symm
        have hf4 := firstIdx_lt rxReps (nx s.data.toList j).toUInt8
        have HTm := hid (fun (W : World) (h : Rd W g s j nd' c1 p1) => times_any h hj1 hs)
        have HTl := hid (fun lo hi k (e : pTimes s.data.toList j = .ok ((lo, hi), k)) => pTimes_lt e)
        clear HIR hir HPL hf4
        generalize pTimes s.data.toList j = r at *
        generalize firstIdx rxReps (nx s.data.toList j).toUInt8 = f at *
        generalize nx s.data.toList j = x at *
        unfold rxReps at HI
        go_wp2_with fail
        refine HN.out.mono ?_
        rintro e w4 ⟨rfl, hr4, hg4⟩
        have HB4 := hid (HB0.out.step hg4 hgB hgw)
        have HREP4 := hid (own_step HREP.out hg4 hgw)
        have HR4 := hid hr4
        clear hr4 hg4 HN HREP HB0
        go_wp2_with (go_at_call 74; refine (HI.out _).mono ?_; rintro e w9 ⟨rfl, rfl⟩)
        refine (HTm.out _ HR4.out).mono ?_
        rintro e w5 ⟨hg5, hp5⟩
        have HB5 := hid (HB4.out.step hg5 hgB hgw)
        have HREP5 := hid (own_step HREP4.out hg5 hgw)
        clear hg5 HB4 HREP4 HR4 HTm HI
        cases r with
        | error e2 =>
          obtain ⟨⟨u1, u2, rfl⟩, j', n', hr5⟩ := hp5
          have HPe : Hid (P = .error e2) := hid HP1.out.symm
          clear HP1
          go_wp2_with fail
          go_roundg m
          case measure => omega
          case rel => exact ⟨false, v, rfl, hid ⟨HB5.out, .inr ⟨rfl, e2.1, e2.2, HPe.out, _, _, hr5⟩⟩⟩
        | ok y =>
          obtain ⟨⟨lo, hi'⟩, k⟩ := y
          obtain ⟨rfl, c5, p5, hr5⟩ := hp5
          obtain ⟨hjk, hkl, hlo, hh1, hh2, hh3⟩ := HTl.out lo hi' k rfl
          have hks : k ≤ s.size := hkl hj1
          clear HTl hkl
          have hBw : B < w5.heap.size := HB5.out.box.lt
          have hBr : w.heap.size < B := hB1
          obtain ⟨x0, x1, x2, x3, x4, x5, x6, x7⟩ := Blk.cells8' HB5.out.box
          have hbK : Below w5.heap.size w5 (w5.alloc (.cells v.cells.toArray 26)) := (Below.refl _ _).alloc (Nat.le_refl _) _
          have HB6 := hid (HB5.out.below hbK)
          have HR6 := hid (Rd.keep hr5 hbK)
          have HREP6 := hid (own_kid HREP5.out (by omega) hBw 5 (0#256) (lo : Int) hi' 1)
          clear hbK hr5 HB5 HREP5
          by_cases hn : nd' + 1 ≤ 512
          · have HP3 : Hid (pRepL s.data.toList m (.nd 5 (0#256) [t] (lo : Int) hi') k (nd' + 1) = P) := hid (by
              have h := HP1.out
              simp only [mkN, if_pos hn] at h
              exact h)
            have HV2 : Hid (Value.agg #[.int .i64 5, .int .u64 0, .int .u64 0, .int .u64 0, .int .u64 0, .slice (some ⟨w5.heap.size, 0, none⟩) 1 1, .int .i64 (lo : Int), .int .i64 hi'] = .agg (RV.mk 5 (0#256) (some ⟨w5.heap.size, 0, none⟩) 1 1 (lo : Int) hi').cells.toArray) := hid (by simp [RV.cells, wd_zero])
            have HM := hid (made_yes HR6.out hn (RV.mk 5 (0#256) (some ⟨w5.heap.size, 0, none⟩) 1 1 (lo : Int) hi'))
            rw [RV.val_eq, ← HV2.out] at HM
            have HSz := hid (rx_size (RV.mk 5 (0#256) (some ⟨w5.heap.size, 0, none⟩) 1 1 (lo : Int) hi'))
            have HOne := hid (rx_one (RV.mk 5 (0#256) (some ⟨w5.heap.size, 0, none⟩) 1 1 (lo : Int) hi'))
            clear HP1
            go_wp2_with fail
            refine HM.out.mono ?_
            rintro e w6 ⟨rfl, hr6, hg6⟩
            have HB7 := hid (HB6.out.step hg6 hgB hgw)
            have HREP7 := hid (own_step HREP6.out hg6 hgw)
            have HR7 := hid hr6
            have HBx := hid HB7.out.box
            generalize RV.mk 5 (0#256) (some ⟨w5.heap.size, 0, none⟩) 1 1 (lo : Int) hi' = v2 at *
            clear hr6 hg6 HM HB6 HREP6 HR6 x0 x1 x2 x3 x4 x5 x6 x7
            go_wp2_with (refine wpList_store_row rfl 26 _ _ rfl B v2.cells.toArray ?_ ?_ 26 v.cells.toArray HBx.out HSz.out ?_ HOne.out ?_; exact rfl; exact HV2.out; exact rfl)
            go_roundg m
            case measure => omega
            case rel => exact ⟨true, v2, rfl, hid ⟨HB7.out.put hBr v2, .inl ⟨rfl, _, k, nd' + 1, HP3.out, hks, hn, by omega, ⟨_, _, (setRow_other _ _ _ _ hgB).trans HR7.out⟩, own_put HREP7.out _⟩⟩⟩
          · have HPe : Hid (P = .error (2, k)) := hid (by
              have h := HP1.out
              simp only [mkN, if_neg hn] at h
              exact h.symm)
            have HV2 : Hid (Value.agg #[.int .i64 5, .int .u64 0, .int .u64 0, .int .u64 0, .int .u64 0, .slice (some ⟨w5.heap.size, 0, none⟩) 1 1, .int .i64 (lo : Int), .int .i64 hi'] = .agg (RV.mk 5 (0#256) (some ⟨w5.heap.size, 0, none⟩) 1 1 (lo : Int) hi').cells.toArray) := hid (by simp [RV.cells, wd_zero])
            have HM := hid (made_no HR6.out (by omega) (by omega) (RV.mk 5 (0#256) (some ⟨w5.heap.size, 0, none⟩) 1 1 (lo : Int) hi'))
            rw [RV.val_eq, ← HV2.out] at HM
            clear HP1 HREP6
            go_wp2_with fail
            refine HM.out.mono ?_
            rintro e w6 ⟨rfl, hr6, hg6⟩
            have HB7 := hid (HB6.out.step hg6 hgB hgw)
            have HR7 := hid hr6
            have HBx := hid HB7.out.box
            have HZe := hid (congrArg Value.agg zeroR_eq.symm)
            clear hr6 hg6 HM HB6 HR6 HV2 x0 x1 x2 x3 x4 x5 x6 x7
            go_wp2_with (refine wpList_store_row rfl 26 _ _ rfl B RV.zero.cells.toArray ?_ ?_ 26 v.cells.toArray HBx.out (rx_size _) ?_ (rx_one _) ?_; exact rfl; exact HZe.out; exact rfl)
            go_roundg m
            case measure => omega
            case rel => exact ⟨false, RV.zero, rfl, hid ⟨HB7.out.put hBr RV.zero, .inr ⟨rfl, 2, k, HPe.out, _, _, (setRow_other _ _ _ _ hgB).trans HR7.out⟩⟩⟩
    · have HP2 : Hid (P = .error (c1, p1)) := hid hP
      have HRr := hid hr
      clear hP hr
      obtain ⟨x0, x1, x2, x3, x4, x5, x6, x7⟩ := Blk.cells8' HB0.out.box
      have HSz := hid (rx_size v)
      have HOne := hid (rx_one v)
      have HRs := hid HB0.out.res
      go_wp2_with (first
        | (refine wpList_store_row rfl 26 _ _ rfl w.heap.size v.cells.toArray ?_ ?_ 26 zeroR HRs.out HSz.out ?_ HOne.out ?_; exact rfl; exact rfl; exact rfl))
      obtain ⟨A0, A1, A2⟩ := post_storeR (cs := v.cells.toArray) (show wr.heap[w.heap.size]? = some (.cells zeroR 26) from HRs.out) HB0.out.gr (Nat.le_refl _) hgw HRr.out
      rw [HP2.out]
      exact bodyPost_ret (v := .tuple #[.agg v.cells.toArray, .bool false]) (results_cell_tmp (P := Tryd.prog) (fn := Tryd.f63) rfl _ _ w.heap.size 26 _ (0, 0) _ rfl A0 Tryd.underlying26 rfl HSz.out) rfl ⟨A2, ⟨v, rfl⟩, _, _, A1⟩
end Go.Proofs.YtoiegkejkahfgaaDoor
