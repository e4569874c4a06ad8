/- tree: Text. -/
import Derived.Test.YtdhipmdapodpkaaTrX
namespace Go.Proofs.Ytdhipmdapodpkaa
set_option linter.unusedSimpArgs false
set_option linter.unusedVariables false
open Go.RowKit

set_option maxRecDepth 100000 in
set_option maxHeartbeats 4000000 in
/-- A tree's text. -/
theorem text_any {w : World} {P : Nat → Prop} {v : TV} {t : TT} (h : Rep w P v t) (hw : wT t ≤ 1048576) :
    Calls Try.prog 11 #[v.val] w fun e w' => e = .returned (.string ⟨(textT t).toArray⟩) ∧ Below w.heap.size w w' := by
  obtain ⟨hb, hN⟩ := box_new w v
  have hlen := text_len t v h
  have HB := hid hb
  have HX := hid hN
  have HR := hid ((h.keep hb).mono (Q := (· < w.heap.size + 1)) (fun _ _ _ => rfl) (Nat.le_refl _) (fun b hb hl => by simpa using hl))
  have hl2 : (textT t).length ≤ 1000000000 := by omega
  clear hN hb h hlen
  unfold TV.val at HR ⊢
  go_enter Try.func11, Try.ntmps11
  go_upto_region 1 with (fail)
  change Code.wp _ _ _ _ (w.alloc (.cells v.cells.toArray 26))
  have hs1 : (w.alloc (.cells v.cells.toArray 26)).heap.size = w.heap.size + 1 := by simp
  rw [← hs1] at HR
  generalize w.alloc (.cells v.cells.toArray 26) = w1 at *
  have hal : Below w1.heap.size w1 (w1.alloc (.cells #[.pointer none, .slice none 0 0] bldT)) := (Below.refl _ _).alloc (Nat.le_refl _) _
  have HX3 := hid (show BoxT (w1.alloc (.cells #[.pointer none, .slice none 0 0] bldT)) w.heap.size v from (hal.block _ (by omega)).trans HX.out)
  have HB3 := hid (HB.out.trans (hal.mono HB.out.size))
  have HW := hid (write_any t v (w1.alloc (.cells #[.pointer none, .slice none 0 0] bldT)) w1.heap.size w1.heap.size [] (.inl ⟨Nat.le_refl _, rfl, heap_alloc_new w1 _⟩) (HR.out.keep hal) hal.size hw (by rw [List.length_nil]; omega))
  have hle := hal.size
  have HS1 := hid hs1
  clear hal HX HB HR hs1
  obtain ⟨x0, x1, x2, x3⟩ := HX3.out.four
  unfold bldT at HW x0 x1 x2 x3 HB3 hle
  unfold TV.val at HW
  go_wp2_with ((with_reducible refine HW.out.mono ?_); rintro e w4 ⟨rfl, hw4⟩; have HB4 := hid (HB3.out.trans (hw4.bel.mono (by have := HS1.out; omega))); have HS := hid (bstr_any hw4.bld (Nat.le_trans hle hw4.bel.size)); clear hw4 HW HB3 x0 x1 x2 x3)
  go_wp2_with ((with_reducible refine HS.out.mono ?_); rintro e w5 ⟨rfl, hb5, _⟩; have HB5 := hid (HB4.out.trans (hb5.mono (by have := HS1.out; omega))); clear hb5 HS HB4)
  go_ret
  exact ⟨by simp, HB5.out⟩
end Go.Proofs.Ytdhipmdapodpkaa
