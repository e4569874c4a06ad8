/- regex: the laws' head. -/
import Derived.Test.YtplldfbjbekdlaaDoorRpa
import Derived.Test.YtplldfbjbekdlaaDoorRw
set_option linter.unusedVariables false
set_option linter.unusedSimpArgs false
namespace Go.Proofs.YtplldfbjbekdlaaDoor
open Go.RowKit

theorem pf_mid (W : World) (cs : Array Value) : (((W.alloc (.cells #[.int .i64 0, .int .u64 0, .int .u64 0, .int .u64 0, .int .u64 0, .slice none 0 0, .int .i64 0, .int .i64 0] 27)).alloc (.cells #[.int .i64 0, .int .i64 0] 30)).setRow W.heap.size cs).heap[W.heap.size + 1]? = some (.cells #[.int .i64 0, .int .i64 0] 30) := by
  have h := heap_alloc_new (W.alloc (.cells #[.int .i64 0, .int .u64 0, .int .u64 0, .int .u64 0, .int .u64 0, .slice none 0 0, .int .i64 0, .int .i64 0] 27)) (.cells #[.int .i64 0, .int .i64 0] 30)
  rw [World.size_alloc] at h
  exact (setRow_other _ _ _ _ (by omega)).trans h
/-- 'x, f := Parse(..)': the two new variables. -/
theorem box_pf (W : World) (v : RV) (c p : Int) : Below W.heap.size W ((((W.alloc (.cells #[.int .i64 0, .int .u64 0, .int .u64 0, .int .u64 0, .int .u64 0, .slice none 0 0, .int .i64 0, .int .i64 0] 27)).alloc (.cells #[.int .i64 0, .int .i64 0] 30)).setRow W.heap.size v.cells.toArray).setRow (W.heap.size + 1) (faultC c p)) ∧ Blk ((((W.alloc (.cells #[.int .i64 0, .int .u64 0, .int .u64 0, .int .u64 0, .int .u64 0, .slice none 0 0, .int .i64 0, .int .i64 0] 27)).alloc (.cells #[.int .i64 0, .int .i64 0] 30)).setRow W.heap.size v.cells.toArray).setRow (W.heap.size + 1) (faultC c p)) W.heap.size 27 v.cells ∧ Blk ((((W.alloc (.cells #[.int .i64 0, .int .u64 0, .int .u64 0, .int .u64 0, .int .u64 0, .slice none 0 0, .int .i64 0, .int .i64 0] 27)).alloc (.cells #[.int .i64 0, .int .i64 0] 30)).setRow W.heap.size v.cells.toArray).setRow (W.heap.size + 1) (faultC c p)) (W.heap.size + 1) 30 (faultC c p).toList := by
  refine ⟨below_row (below_row (below_alloc2 _ _) (Nat.le_refl _) _) (Nat.le_succ _) _, ?_, setRow_heap _ _ _ _ _ (0, 0) (pf_mid W _)⟩
  exact (setRow_other _ _ _ _ (by omega)).trans (setRow_heap _ _ _ _ _ (0, 0) ((Below.heap_alloc _ _ _ (by simp)).trans (heap_alloc_new W _)))
theorem faultB {W : World} {b : Nat} {c p : Int} (h : Blk W b 30 (faultC c p).toList) : W.cell? ⟨b, 0, none⟩ = some (.int .i64 c) ∧ W.cell? ⟨b, 1, none⟩ = some (.int .i64 p) := ⟨h.at 0, h.at 1⟩
def rdL : List UInt8 := [97, 40, 98, 124, 91, 48, 45, 57, 93, 123, 50, 44, 125, 41, 42]
def rdT : RT := .nd 3 (0#256) [.nd 2 (bit 97) [] 0 0, .nd 5 (0#256) [.nd 4 (0#256) [.nd 2 (bit 98) [] 0 0, .nd 5 (0#256) [.nd 2 (rng 48 57) [] 0 0] 2 (-1)] 0 0] 0 (-1)] 0 0
theorem rd_parse : pParse rdL = .ok rdT := by kernel_rfl
theorem rd_wr : wrT rdT = rdL := by kernel_rfl
theorem rd_wg : wgT rdT = 0 := by kernel_rfl
theorem rd_sz : szT rdT = 7 := by kernel_rfl
theorem rd_no : pParse [97, 41] = .error (5, 1) := by kernel_rfl
theorem rd_ne : smT rdT (.nd 2 (bit 97) [] 0 0) = false := by kernel_rfl
end Go.Proofs.YtplldfbjbekdlaaDoor

/- regex: the laws' head, walked. -/
namespace Go.Proofs.YtplldfbjbekdlaaDoor
open Go.RowKit

theorem Rep.here {w : World} {P : Nat → Prop} {v : RV} {t : RT} (h : Rep w P v t) : Rep w (· < w.heap.size) v t := h.mono (Nat.le_refl _) (fun _ _ _ => rfl) (fun _ _ h => h)
/-- What the head holds. -/
structure Hd1 (w : World) (b1 b2 b3 b o : Nat) (s : BS) (c : Nat) (lo hi : Int) (y z : RV) (W : World) : Prop where
  bel : Below w.heap.size w W
  tab : TabAt W
  fv : Blk W b1 27 (RV.mk 3 s (some ⟨b, o, none⟩) 2 c lo hi).cells
  ff : Blk W b2 30 (faultC 0 0).toList
  fg : Blk W b3 30 (faultC 5 1).toList
  lt : b < W.heap.size
  fy : RowAt W b o y.cells
  fz : RowAt W b (o + 8) z.cells
  r : Rep W (w.heap.size ≤ ·) ⟨3, s, some ⟨b, o, none⟩, 2, c, lo, hi⟩ rdT
  ry : Rep W (w.heap.size ≤ ·) y (.nd 2 (bit 97) [] 0 0)
theorem Hd1.step {w W W' : World} {b1 b2 b3 b o : Nat} {s : BS} {c : Nat} {lo hi : Int} {y z : RV} (h : Hd1 w b1 b2 b3 b o s c lo hi y z W) (hb : Below W.heap.size W W') : Hd1 w b1 b2 b3 b o s c lo hi y z W' :=
  ⟨h.bel.trans (hb.mono h.bel.size), h.tab.keep hb, h.fv.keep hb, h.ff.keep hb, h.fg.keep hb, Nat.lt_of_lt_of_le h.lt hb.size, h.fy.block (hb.block b h.lt), h.fz.block (hb.block b h.lt), h.r.keep hb, h.ry.keep hb⟩
theorem Hd1.drew {w W : World} {b1 b2 b3 b o : Nat} {s : BS} {c : Nat} {lo hi : Int} {y z : RV} (h : Hd1 w b1 b2 b3 b o s c lo hi y z W) : Hd1 w b1 b2 b3 b o s c lo hi y z W.drew := h.step ⟨rfl, rfl, rfl, Nat.le_refl _, fun _ _ => rfl⟩
theorem Hd1.cells {w W : World} {b1 b2 b3 b o : Nat} {s : BS} {c : Nat} {lo hi : Int} {y z : RV} (h : Hd1 w b1 b2 b3 b o s c lo hi y z W) (h5 : z.k = 5) (h1 : z.hi = -1) : W.cell? ⟨b1, 0, none⟩ = some (.int .i64 3) ∧ W.cell? ⟨b1, 1, none⟩ = some (.int .u64 ((wd s 0 : Nat) : Int)) ∧ W.cell? ⟨b1, 2, none⟩ = some (.int .u64 ((wd s 1 : Nat) : Int)) ∧ W.cell? ⟨b1, 3, none⟩ = some (.int .u64 ((wd s 2 : Nat) : Int)) ∧ W.cell? ⟨b1, 4, none⟩ = some (.int .u64 ((wd s 3 : Nat) : Int)) ∧ W.cell? ⟨b1, 5, none⟩ = some (.slice (some ⟨b, o, none⟩) 2 c) ∧ W.cell? ⟨b1, 6, none⟩ = some (.int .i64 lo) ∧ W.cell? ⟨b1, 7, none⟩ = some (.int .i64 hi) ∧ W.cell? ⟨b2, 0, none⟩ = some (.int .i64 0) ∧ W.cell? ⟨b3, 0, none⟩ = some (.int .i64 5) ∧ W.cell? ⟨b3, 1, none⟩ = some (.int .i64 1) ∧ W.cell? ⟨b, o + 8, none⟩ = some (.int .i64 5) ∧ W.cell? ⟨b, o + 8 + 7, none⟩ = some (.int .i64 (-1)) ∧ W.cell? ⟨b, o, none⟩ = some (.int .i64 y.k) ∧ W.cell? ⟨b, o + 1, none⟩ = some (.int .u64 ((wd y.s 0 : Nat) : Int)) ∧ W.cell? ⟨b, o + 2, none⟩ = some (.int .u64 ((wd y.s 1 : Nat) : Int)) ∧ W.cell? ⟨b, o + 3, none⟩ = some (.int .u64 ((wd y.s 2 : Nat) : Int)) ∧ W.cell? ⟨b, o + 4, none⟩ = some (.int .u64 ((wd y.s 3 : Nat) : Int)) ∧ W.cell? ⟨b, o + 5, none⟩ = some (.slice y.A y.n y.c) ∧ W.cell? ⟨b, o + 6, none⟩ = some (.int .i64 y.lo) ∧ W.cell? ⟨b, o + 7, none⟩ = some (.int .i64 y.hi) := by
  obtain ⟨x0, x1, x2, x3, x4, x5, x6, x7⟩ := Blk.cells8' (v := ⟨3, s, some ⟨b, o, none⟩, 2, c, lo, hi⟩) h.fv
  obtain ⟨f0, f1⟩ := faultB h.ff
  obtain ⟨g0, g1⟩ := faultB h.fg
  obtain ⟨y0, y1, y2, y3, y4, y5, y6, y7⟩ := h.fy.cells8
  obtain ⟨z0, z1, z2, z3, z4, z5, z6, z7⟩ := h.fz.cells8
  rw [h5] at z0
  rw [h1] at z7
  exact ⟨x0, x1, x2, x3, x4, x5, x6, x7, f0, g0, g1, z0, z7, y0, y1, y2, y3, y4, y5, y6, y7⟩
theorem run_eq51 (W : World) : (binOp .eql 30 (.agg #[.int .i64 5, .int .i64 1]) (.agg #[.int .i64 5, .int .i64 1])).run Tryd.prog W = .ok (.bool true) W := by kernel_rfl
set_option maxRecDepth 100000 in
set_option maxHeartbeats 8000000 in
theorem reads_any {w : World} (hT : TabAt w) : Calls Tryd.prog 4 #[] w fun e w' => e = .returned (.bool true) ∧ Below w.heap.size w w' := by
  have HP1 := hid (fun W => parse_any ⟨rdL.toArray⟩ W)
  have HP2 := hid (fun W => parse_any ⟨#[97, 41]⟩ W)
  have HT := hid hT
  clear hT
  unfold rdL at HP1
  go_enter Tryd.func4, Tryd.ntmps4
  go_wp2_with fail
  refine (HP1.out _).mono ?_
  rintro e w1 ⟨hb1, hp1⟩
  rw [show pParse ([97, 40, 98, 124, 91, 48, 45, 57, 93, 123, 50, 44, 125, 41, 42] : List UInt8) = .ok rdT from rd_parse] at hp1
  obtain ⟨v1, rfl, hrep1⟩ := hp1
  have HB1 := hid hb1
  have HSz := hid (rx_size v1)
  have HOne := hid (rx_one v1)
  obtain ⟨hbx, hv1, hf1⟩ := box_pf w1 v1 0 0
  have HB2 := hid (hb1.trans (hbx.mono hb1.size))
  have HV1 := hid hv1
  have HF1 := hid hf1
  have HR1 := hid (hrep1.keep hbx)
  clear hb1 hbx hv1 hf1 hrep1 HP1
  unfold RV.val
  go_upto_region 2 with (first
    | (refine wpList_store_row rfl 27 _ _ rfl w1.heap.size (v1.cells.toArray) ?_ ?_ 27 #[.int .i64 0, .int .u64 0, .int .u64 0, .int .u64 0, .int .u64 0, .slice none 0 0, .int .i64 0, .int .i64 0] ((Below.heap_alloc _ _ _ (by simp)).trans (heap_alloc_new w1 _)) HSz.out ?_ HOne.out ?_; exact rfl; exact rfl; exact rfl)
    | (refine wpList_store_row rfl 30 _ _ rfl (w1.heap.size + 1) (faultC 0 0) ?_ ?_ 30 #[.int .i64 0, .int .i64 0] (pf_mid w1 _) (fault_size 0 0) ?_ (fault_one 0 0) ?_; exact rfl; exact rfl; exact rfl; generalize (((w1.alloc (.cells #[.int .i64 0, .int .u64 0, .int .u64 0, .int .u64 0, .int .u64 0, .slice none 0 0, .int .i64 0, .int .i64 0] 27)).alloc (.cells #[.int .i64 0, .int .i64 0] 30)).setRow w1.heap.size v1.cells.toArray).setRow (w1.heap.size + 1) (faultC 0 0) = w2 at *))
  go_wp2_with fail
  refine (HP2.out _).mono ?_
  rintro e w3 ⟨hb3, hp3⟩
  rw [show pParse ([97, 41] : List UInt8) = .error (5, 1) from rd_no] at hp3
  obtain rfl := hp3
  obtain ⟨hbx, _, hf3⟩ := box_pf w3 RV.zero 5 1
  rw [zeroR_eq] at hbx hf3
  have HB4 := hid (HB2.out.trans ((hb3.trans (hbx.mono hb3.size)).mono HB2.out.size))
  have HV4 := hid (show Blk _ w1.heap.size 27 v1.cells from (hbx.block _ (HV1.out.keep hb3).lt).trans (HV1.out.keep hb3))
  have HF4 := hid (show Blk _ (w1.heap.size + 1) 30 (faultC 0 0).toList from (hbx.block _ (HF1.out.keep hb3).lt).trans (HF1.out.keep hb3))
  have HG4 := hid hf3
  have HR4 := hid ((HR1.out.keep hb3).keep hbx)
  have HT4 := hid (HT.out.keep HB4.out)
  clear HV1 HF1 HR1 hb3 hbx hf3 HT HP2 HB2 HSz HOne
  go_upto_region 3 with (first
    | (refine wpList_store_row rfl 27 _ _ rfl w3.heap.size (zeroR) ?_ ?_ 27 #[.int .i64 0, .int .u64 0, .int .u64 0, .int .u64 0, .int .u64 0, .slice none 0 0, .int .i64 0, .int .i64 0] ((Below.heap_alloc _ _ _ (by simp)).trans (heap_alloc_new w3 _)) (by rw [← zeroR_eq]; exact rx_size _) ?_ (by rw [← zeroR_eq]; exact rx_one _) ?_; exact rfl; exact rfl; exact rfl)
    | (refine wpList_store_row rfl 30 _ _ rfl (w3.heap.size + 1) (faultC 5 1) ?_ ?_ 30 #[.int .i64 0, .int .i64 0] (pf_mid w3 _) (fault_size 5 1) ?_ (fault_one 5 1) ?_; exact rfl; exact rfl; exact rfl; generalize (((w3.alloc (.cells #[.int .i64 0, .int .u64 0, .int .u64 0, .int .u64 0, .int .u64 0, .slice none 0 0, .int .i64 0, .int .i64 0] 27)).alloc (.cells #[.int .i64 0, .int .i64 0] 30)).setRow w3.heap.size zeroR).setRow (w3.heap.size + 1) (faultC 5 1) = w4 at *))
  obtain ⟨h1, h2, h3, h4, hn, vs, hA, hkk⟩ := (show Rep w4 _ v1 (.nd 3 (0#256) [.nd 2 (bit 97) [] 0 0, .nd 5 (0#256) [.nd 4 (0#256) [.nd 2 (bit 98) [] 0 0, .nd 5 (0#256) [.nd 2 (rng 48 57) [] 0 0] 2 (-1)] 0 0] 0 (-1)] 0 0) from HR4.out).inv
  obtain ⟨k, s, A, n, c, lo, hi⟩ := v1
  simp only at h1 h2 h3 h4 hn hA
  obtain rfl : n = 2 := hn.symm
  obtain ⟨b, o, rfl, hbl4, _, hrow⟩ := hA (by decide)
  obtain rfl := h1
  obtain ⟨e1, _, _, e4, _⟩ := (show Rep w4 _ (vs 1) (.nd 5 (0#256) [.nd 4 (0#256) [.nd 2 (bit 98) [] 0 0, .nd 5 (0#256) [.nd 2 (rng 48 57) [] 0 0] 2 (-1)] 0 0] 0 (-1)) from hkk 1 (by decide)).inv
  have HB := hid (show Hd1 w w1.heap.size (w1.heap.size + 1) (w3.heap.size + 1) b o s c lo hi (vs 0) (vs 1) w4 from ⟨HB4.out, HT4.out, HV4.out, HF4.out, HG4.out, hbl4, by have := hrow 0 (by decide); simpa using this, by have := hrow 1 (by decide); simpa using this, HR4.out, hkk 0 (by decide)⟩)
  have HC := hid (fun W (h : Hd1 w w1.heap.size (w1.heap.size + 1) (w3.heap.size + 1) b o s c lo hi (vs 0) (vs 1) W) => h.cells e1 e4)
  generalize vs 0 = y at *
  generalize vs 1 = z at *
  clear hrow hA hkk HB4 HT4 HV4 HF4 HG4 HR4 hbl4 h2 h3 h4 hn e1 e4 HB1
  have HTx := hid (fun W (hR : Hd1 w w1.heap.size (w1.heap.size + 1) (w3.heap.size + 1) b o s c lo hi y z W) => Text_any hR.r.here (fun b hb => hb) hR.tab rd_wg (by rw [rd_sz]; decide))
  have HCk := hid (fun W (hR : Hd1 w w1.heap.size (w1.heap.size + 1) (w3.heap.size + 1) b o s c lo hi y z W) => Check_any hR.r.here (fun b hb => hb) (by rw [rd_sz]; decide))
  have HS1 := hid (fun W (hR : Hd1 w w1.heap.size (w1.heap.size + 1) (w3.heap.size + 1) b o s c lo hi y z W) => same_any rdT rdT _ _ W _ _ hR.r hR.r (by rw [rd_sz]; decide) (by rw [rd_sz]; decide))
  have HS2 := hid (fun W (hR : Hd1 w w1.heap.size (w1.heap.size + 1) (w3.heap.size + 1) b o s c lo hi y z W) => same_any rdT (.nd 2 (bit 97) [] 0 0) _ _ W _ _ hR.r hR.ry (by rw [rd_sz]; decide) (by decide))
  rw [rd_wr] at HTx
  rw [rd_wg] at HCk
  rw [sm_refl] at HS1
  rw [rd_ne] at HS2
  unfold RV.val at HTx HCk HS1 HS2
  unfold rdL at HTx
  have HQ := hid (fun W => run_eq51 W)
  generalize w1.heap.size + 1 = b2 at *
  generalize w3.heap.size + 1 = b3 at *
  generalize w1.heap.size = b1 at *
  simp only [List.append]
  have hq := HQ.out
  have hd := HC.out _ HB.out.drew
  go_region_held3 (fun w' => w'.cell? ⟨b1, 0, none⟩ = some (.int .i64 3) ∧ w'.cell? ⟨b1, 1, none⟩ = some (.int .u64 ((wd s 0 : Nat) : Int)) ∧ w'.cell? ⟨b1, 2, none⟩ = some (.int .u64 ((wd s 1 : Nat) : Int)) ∧ w'.cell? ⟨b1, 3, none⟩ = some (.int .u64 ((wd s 2 : Nat) : Int)) ∧ w'.cell? ⟨b1, 4, none⟩ = some (.int .u64 ((wd s 3 : Nat) : Int)) ∧ w'.cell? ⟨b1, 5, none⟩ = some (.slice (some ⟨b, o, none⟩) 2 c) ∧ w'.cell? ⟨b1, 6, none⟩ = some (.int .i64 lo) ∧ w'.cell? ⟨b1, 7, none⟩ = some (.int .i64 hi) ∧ w'.cell? ⟨b2, 0, none⟩ = some (.int .i64 0) ∧ w'.cell? ⟨b3, 0, none⟩ = some (.int .i64 5) ∧ w'.cell? ⟨b3, 1, none⟩ = some (.int .i64 1) ∧ w'.cell? ⟨b, o + 8, none⟩ = some (.int .i64 5) ∧ w'.cell? ⟨b, o + 8 + 7, none⟩ = some (.int .i64 (-1)) ∧ w'.cell? ⟨b, o, none⟩ = some (.int .i64 y.k) ∧ w'.cell? ⟨b, o + 1, none⟩ = some (.int .u64 ((wd y.s 0 : Nat) : Int)) ∧ w'.cell? ⟨b, o + 2, none⟩ = some (.int .u64 ((wd y.s 1 : Nat) : Int)) ∧ w'.cell? ⟨b, o + 3, none⟩ = some (.int .u64 ((wd y.s 2 : Nat) : Int)) ∧ w'.cell? ⟨b, o + 4, none⟩ = some (.int .u64 ((wd y.s 3 : Nat) : Int)) ∧ w'.cell? ⟨b, o + 5, none⟩ = some (.slice y.A y.n y.c) ∧ w'.cell? ⟨b, o + 6, none⟩ = some (.int .i64 y.lo) ∧ w'.cell? ⟨b, o + 7, none⟩ = some (.int .i64 y.hi))
    (first | with_reducible exact hd | assumption)
    (first
    | (go_at_call 9; with_reducible refine (HTx.out _ (by first | exact HB.out | exact HB.out.drew)).mono ?_; rintro e w5 ⟨rfl, hb5⟩; have HB' := hid ((show Hd1 w b1 b2 b3 b o s c lo hi y z _ from (by first | exact HB.out | exact HB.out.drew)).step hb5); clear hb5 HB hd; have HB := HB'; clear HB'; have hd := HC.out _ HB.out)
    | (go_at_call 6; with_reducible refine (HCk.out _ (by first | exact HB.out | exact HB.out.drew)).mono ?_; rintro e w5 ⟨rfl, hb5⟩; have HB' := hid ((show Hd1 w b1 b2 b3 b o s c lo hi y z _ from (by first | exact HB.out | exact HB.out.drew)).step hb5); clear hb5 HB hd; have HB := HB'; clear HB'; have hd := HC.out _ HB.out)
    | (go_at_call 7; with_reducible refine (HS1.out _ (by first | exact HB.out | exact HB.out.drew)).mono ?_; rintro e w5 ⟨rfl, hb5⟩; have HB' := hid ((show Hd1 w b1 b2 b3 b o s c lo hi y z _ from (by first | exact HB.out | exact HB.out.drew)).step hb5); clear hb5 HB hd; have HB := HB'; clear HB'; have hd := HC.out _ HB.out)
    | (go_at_call 7; with_reducible refine (HS2.out _ (by first | exact HB.out | exact HB.out.drew)).mono ?_; rintro e w5 ⟨rfl, hb5⟩; have HB' := hid ((show Hd1 w b1 b2 b3 b o s c lo hi y z _ from (by first | exact HB.out | exact HB.out.drew)).step hb5); clear hb5 HB hd; have HB := HB'; clear HB'; have hd := HC.out _ HB.out))
  go_wp2
  go_ret
  exact ⟨rfl, HB.out.bel⟩
end Go.Proofs.YtplldfbjbekdlaaDoor
