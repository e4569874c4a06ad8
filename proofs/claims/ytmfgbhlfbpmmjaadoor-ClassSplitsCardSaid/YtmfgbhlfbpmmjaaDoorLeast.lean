/- class: byLeast. -/
import Derived.Test.YtmfgbhlfbpmmjaaDoorFirst
namespace Go.Proofs.YtmfgbhlfbpmmjaaDoor
open Go.RowKit

/-- How two sets stand by their least bytes. -/
def lea (a b : BS) : Int := (firstN a : Int) - (firstN b : Int)
theorem first_lt (a : BS) : firstN a < 256 := by
  unfold firstN
  cases h : bytesOf a with
  | nil => decide
  | cons c l => exact bytesOf_lt a c (by rw [h]; simp)
set_option maxRecDepth 8000 in
theorem least_any (a b : BS) {w : World} (hT : TabAt w) :
    Calls Tryd.prog 47 #[setV a, setV b] w fun e w' => e = .returned (.int .i64 (lea a b)) ∧ Below w.heap.size w w' ∧ w.drawn ≤ w'.drawn := by
  have HF := hid (fun (W : World) (h : TabAt W) => first_dr a h)
  have HG := hid (fun (W : World) (h : TabAt W) => first_dr b h)
  have hb := @below_alloc2 w (.cells (setL a).toArray 26) (.cells (setL b).toArray 26)
  have hA := (Blk.fresh w 26 (setL a)).alloc (.cells (setL b).toArray 26)
  have hB := Blk.fresh (w.alloc (.cells (setL a).toArray 26)) 26 (setL b)
  rw [show (w.alloc (.cells (setL a).toArray 26)).heap.size = w.heap.size + 1 by simp] at hB
  have ha := first_lt a
  have hbl := first_lt b
  have HL := hid (show lea a b = (firstN a : Int) - (firstN b : Int) from rfl)
  have HT := hid (hT.keep hb)
  have HA := hid hA
  have HB := hid hB
  clear hA hB hT
  rw [setV_eq, setV_eq]
  unfold setV at HF HG
  go_enter Tryd.func47, Tryd.ntmps47
  obtain ⟨hc0, hc1, hc2, hc3⟩ := HA.out.cells4
  generalize (setL a).toArray = Va at *
  generalize (setL b).toArray = Vb at *
  go_wp2_with fail
  refine (HF.out _ HT.out).mono ?_
  rintro e w1 ⟨rfl, hb1, hdr1⟩
  have hd1' : w.drawn ≤ w1.drawn := hdr1
  obtain ⟨hd0, hd1, hd2, hd3⟩ := (HB.out.keep hb1).cells4
  have HT1 := hid (HT.out.keep hb1)
  have hbw := hb.trans (hb1.mono hb.size)
  clear hc0 hc1 hc2 hc3
  generalize firstN a = x at *
  generalize firstN b = y at *
  go_wp2_with fail
  refine (HG.out _ HT1.out).mono ?_
  rintro e w2 ⟨rfl, hb2, hdr2⟩
  go_wp2
  go_ret
  exact ⟨by rw [HL.out]; rfl, hbw.trans (hb2.mono hbw.size), Nat.le_trans hd1' hdr2⟩
end Go.Proofs.YtmfgbhlfbpmmjaaDoor
