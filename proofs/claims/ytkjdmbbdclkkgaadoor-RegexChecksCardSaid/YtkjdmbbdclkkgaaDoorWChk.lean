/- The law RegexChecks, walked. -/
import Derived.Test.YtkjdmbbdclkkgaaDoorRlw
import Derived.Test.YtkjdmbbdclkkgaaDoorRl
namespace Go.Proofs.YtkjdmbbdclkkgaaDoor
open Go.RowKit

/-- A variable of the law's own, kept. -/
structure Hv (w : World) (g : Nat) (v : RV) (t : RT) (W : World) : Prop where
  bel : Below w.heap.size w W
  tab : TabAt W
  fv : Blk W g 26 v.cells
  ge : w.heap.size ≤ g
  r : Rep W (· < w.heap.size) v t
theorem Hv.step {w W W' : World} {g : Nat} {v : RV} {t : RT} (h : Hv w g v t W) (hb : Below W.heap.size W W') : Hv w g v t W' :=
  ⟨h.bel.trans (hb.mono h.bel.size), h.tab.keep hb, h.fv.keep hb, h.ge, h.r.keep hb⟩
theorem Hv.drew {w W : World} {g : Nat} {v : RV} {t : RT} (h : Hv w g v t W) : Hv w g v t W.drew := h.step ⟨rfl, rfl, rfl, Nat.le_refl _, fun _ _ => rfl⟩
set_option maxRecDepth 100000 in
set_option maxHeartbeats 4000000 in
theorem checks_walk (v : RV) (t : RT) {w : World} (h : Rep w (· < w.heap.size) v t) (hT : TabAt w) :
    Calls Tryd.prog 3 #[v.val] w fun e w' => e = .returned (.bool true) ∧ Below w.heap.size w w' := by
  obtain ⟨hb, hN⟩ := box_new w v
  have hs1 : (w.alloc (.cells v.cells.toArray 26)).heap.size = w.heap.size + 1 := by simp
  have HB := hid (show Hv w w.heap.size v t (w.alloc (.cells v.cells.toArray 26)) from ⟨hb, hT.keep hb, hN, Nat.le_refl _, h.keep hb⟩)
  have HRd := hid (fun W (h : TabAt W) => reads_any h)
  have HF := hid (fun W g (hR : Hv w w.heap.size v t W) (hg : w.heap.size ≤ g) (hb : Blk W g 3 [.int .i64 200]) => few_any t v W g 200 _ hR.r (fun b hb => by have h : b < w.heap.size := hb; omega) hb (by decide) (by decide))
  have HFs := hid (fw_sz t 200)
  have HC := hid (fun W (hR : Hv w w.heap.size v t W) (hs : szT t ≤ 512) => Check_any hR.r (fun b hb => by have h : b < w.heap.size := hb; have := hR.bel.size; omega) hs)
  have HWr := hid (fun W (hR : Hv w w.heap.size v t W) (hs : szT t ≤ 512) => wrong_any t v W _ hR.r (fun b hb => by have h : b < w.heap.size := hb; have := hR.bel.size; omega) hs)
  have HT0 := hid hT
  have hx := Blk.cells8' (v := v) hN
  clear hb hN hT h
  unfold RV.val at HF HC HWr ⊢
  rw [show (#[.int .i64 v.k, .int .u64 ((wd v.s 0 : Nat) : Int), .int .u64 ((wd v.s 1 : Nat) : Int), .int .u64 ((wd v.s 2 : Nat) : Int), .int .u64 ((wd v.s 3 : Nat) : Int), .slice v.A v.n v.c, .int .i64 v.lo, .int .i64 v.hi] : Array Value) = v.cells.toArray from rfl]
  go_enter Tryd.func3, Tryd.ntmps3
  go_upto_region 1 with (fail)
  change Code.wp _ _ _ _ (w.alloc (.cells v.cells.toArray 26))
  generalize w.alloc (.cells v.cells.toArray 26) = w1 at *
  clear hx
  go_wp2_with fail
  refine (HRd.out _ HB.out.tab).mono ?_
  rintro e w2 ⟨rfl, hb2⟩
  have hs2 := hb2.size
  have HB2 := hid (HB.out.step hb2)
  have hal : Below w2.heap.size w2 (w2.alloc (.cells #[.int .i64 200] 3)) := (Below.refl _ _).alloc (Nat.le_refl _) _
  have HB3 := hid (HB2.out.step hal)
  have hbk : Blk (w2.alloc (.cells #[.int .i64 200] 3)) w2.heap.size 3 [.int .i64 200] := heap_alloc_new w2 _
  have HF3 := hid (HF.out _ _ HB3.out (by omega) hbk)
  have hs3 : (w2.alloc (.cells #[.int .i64 200] 3)).heap.size = w2.heap.size + 1 := by simp
  clear hb2 hal hbk HB HF HRd HB2
  obtain ⟨x0, x1, x2, x3, x4, x5, x6, x7⟩ := Blk.cells8' HB3.out.fv
  go_wp2_with fail
  refine HF3.out.mono ?_
  rintro e w4 ⟨rfl, hg4, _⟩
  have hs4 := hg4.size
  have hbel4 := below_grown HB3.out.bel hg4 (by omega) (by omega)
  have HB4 := hid (show Hv w w.heap.size v t w4 from ⟨hbel4, HT0.out.keep hbel4, (hg4.block _ HB3.out.fv.lt (by intro e; injection e with e; omega)).trans HB3.out.fv, Nat.le_refl _, HB3.out.r.mono hg4.size (fun b hb hl => hg4.block b hl (by intro e; injection e with e; have h : b < w.heap.size := hb; omega)) (fun _ h _ => h)⟩)
  clear x0 x1 x2 x3 x4 x5 x6 x7 hg4 HF3 HB3 hbel4 HT0
  obtain ⟨q, hq⟩ : ∃ q, q = (fwT t 200).1 := ⟨_, rfl⟩
  rw [← hq] at HFs ⊢
  clear hq
  cases q
  · go_wp2
    go_ret
    exact ⟨rfl, HB4.out.bel⟩
  · have hz : szT t ≤ 512 := by have := (HFs.out rfl).1; omega
    have HC2 := hid (fun W hR => HC.out W hR hz)
    have HW2 := hid (fun W hR => HWr.out W hR hz)
    clear HC HWr HFs
    generalize wgT t = q at *
    have hd := Blk.cells8' HB4.out.drew.fv
    go_wp2_with fail
    go_region_held3 (fun w' => w'.cell? ⟨w.heap.size, 0, none⟩ = some (.int .i64 v.k) ∧ w'.cell? ⟨w.heap.size, 1, none⟩ = some (.int .u64 ((wd v.s 0 : Nat) : Int)) ∧ w'.cell? ⟨w.heap.size, 2, none⟩ = some (.int .u64 ((wd v.s 1 : Nat) : Int)) ∧ w'.cell? ⟨w.heap.size, 3, none⟩ = some (.int .u64 ((wd v.s 2 : Nat) : Int)) ∧ w'.cell? ⟨w.heap.size, 4, none⟩ = some (.int .u64 ((wd v.s 3 : Nat) : Int)) ∧ w'.cell? ⟨w.heap.size, 5, none⟩ = some (.slice v.A v.n v.c) ∧ w'.cell? ⟨w.heap.size, 6, none⟩ = some (.int .i64 v.lo) ∧ w'.cell? ⟨w.heap.size, 7, none⟩ = some (.int .i64 v.hi))
      (first | with_reducible exact hd | assumption)
      (first
      | (go_at_call 12; with_reducible refine (HC2.out _ (by first | exact HB4.out | exact HB4.out.drew)).mono ?_; rintro e w5 ⟨rfl, hb5⟩; have HB' := hid ((show Hv w w.heap.size v t _ from (by first | exact HB4.out | exact HB4.out.drew)).step hb5); clear hb5 HB4 hd; have HB4 := HB'; clear HB'; have hd := Blk.cells8' HB4.out.fv)
      | (go_at_call 13; with_reducible refine (HW2.out _ (by first | exact HB4.out | exact HB4.out.drew)).mono ?_; rintro e w5 ⟨rfl, hb5⟩; have HB' := hid ((show Hv w w.heap.size v t _ from (by first | exact HB4.out | exact HB4.out.drew)).step hb5); clear hb5 HB4 hd; have HB4 := HB'; clear HB'; have hd := Blk.cells8' HB4.out.fv))
    all_goals
      go_wp2
      go_ret
      exact ⟨by simp, HB4.out.bel⟩
end Go.Proofs.YtkjdmbbdclkkgaaDoor
