/- spec: alike of two types that say the same. -/
import Derived.Test.YthjfhenldkihkaaSpCa
namespace Go.Proofs.Ythjfhenldkihkaa
set_option linter.unusedSimpArgs false
set_option linter.unusedVariables false
open Go.RowKit

theorem eqL_refl {α : Type} {e : α → α → Bool} (h : ∀ x, e x x = true) : ∀ l, eqL e l l = true
  | [] => rfl
  | x :: l => by unfold eqL; rw [h, eqL_refl h l]; rfl
theorem alF_refl (x : FT) : alF x x = true := by simp [alF]
theorem below_heap {w w' : World} (h : w'.heap = w.heap) (h2 : w'.os = w.os ∧ w'.tape = w.tape ∧ w'.output = w.output) : Below w.heap.size w w' :=
  ⟨h2.1, h2.2.1, h2.2.2, by rw [h]; exact Nat.le_refl _, fun k _ => by rw [h]⟩
set_option maxRecDepth 100000 in
set_option maxHeartbeats 4000000 in
theorem alike_eq {P : Nat → Prop} (x y : NV) (ht : y.t = x.t) (w : World) (hx : NodeOk w P x) (hy : NodeOk w P y) (fx : Fits x) (fy : Fits y) : Calls Try.prog 59 #[x.val, y.val] w fun e w' => e = .returned (.bool true) ∧ Below w.heap.size w w' := by
  obtain ⟨cs, hv, hbx⟩ := nbox x
  obtain ⟨ds, hu, hby⟩ := nbox y
  obtain ⟨hA, hN⟩ := hbx w
  obtain ⟨hA2, hN2⟩ := hby (w.alloc (.cells cs 49))
  rw [World.size_alloc] at hN2
  have hN1 := hN.keep hA2
  have HB := hid (hA.trans (hA2.mono hA.size))
  obtain ⟨x0, x1, x2, x3, x4, x5, x6, x7, x8, x9, x10, x11, x12, x13, x14, x15, x16, x17⟩ := hN1.cells
  obtain ⟨y0, y1, y2, y3, y4, y5, y6, y7, y8, y9, y10, y11, y12, y13, y14, y15, y16, y17⟩ := hN2.cells
  have HN1 := hid hN1
  have HN2 := hid hN2
  have HE1 := hid (fun W (hb : Below w.heap.size w W) => eqB_any x.L y.L x.t.ls y.t.ls W (hx.l.keep hb) (hy.l.keep hb) hx.ln hy.ln fx.l fy.l)
  have HE2 := hid (fun W (hb : Below w.heap.size w W) => eqF_any x.F y.F x.t.fs y.t.fs W (hx.f.keep hb) (hy.f.keep hb) hx.fn hy.fn fx.f fy.f)
  have HE3 := hid (fun W (hb : Below w.heap.size w W) => eqC_any x.C y.C x.t.cs y.t.cs W (hx.c.keep hb) (hy.c.keep hb) hx.cn hy.cn fx.c fy.c)
  rw [ht, eqL_refl (fun b => by simp)] at HE1
  rw [ht, eqL_refl alF_refl] at HE2
  rw [ht, eqL_refl (fun b => by simp)] at HE3
  have hkn : y.K.n = x.K.n := by rw [hx.kn, hy.kn, ht]
  rw [hkn] at y11
  rw [ht] at y0 y1 y2 y3 y4 y5 y6 y7 y8 y9 y10 y14 y15
  rw [hv, hu]
  clear hx hy fx fy hbx hby hA hN hA2 hN2 hN1 hkn hv hu x17 y17
  unfold SV.val at HE1 HE2 HE3
  generalize x.t.k = k at *
  generalize x.t.wd = wd at *
  generalize x.t.li = li at *
  generalize x.t.zg = zg at *
  generalize x.t.le = le at *
  generalize x.t.mn = mn at *
  generalize x.t.mx = mx at *
  generalize x.t.tx = tx at *
  generalize x.t.er = er at *
  generalize x.t.mu = mu at *
  generalize x.t.ad = ad at *
  generalize x.t.rg = rg at *
  generalize x.t.md = md at *
  obtain ⟨R, hR⟩ : ∃ R : Ending → World → Prop, R = fun e w' => e = .returned (.bool true) ∧ Below w.heap.size w w' := ⟨_, rfl⟩
  rw [← hR]
  have HR := hid hR
  clear hR
  go_enter Try.func59, Try.ntmps59
  go_upto_region 1 with (fail)
  change Code.wp _ _ _ _ ((w.alloc (.cells cs 49)).alloc (.cells ds 49))
  generalize (w.alloc (.cells cs 49)).alloc (.cells ds 49) = w2 at *
  go_wp2_with (first
    | (go_at_call 69; (with_reducible refine (HE1.out _ HB.out).mono ?_); rintro e w3 ⟨rfl, hb3⟩; have HB3 := hid (HB.out.trans (hb3.mono HB.out.size)); have HN13 := hid (HN1.out.keep hb3); have HN23 := hid (HN2.out.keep hb3); clear hb3 HB HN1 HN2 x0 x1 x2 x3 x4 x5 x6 x7 x8 x9 x10 x11 x12 x13 x14 x15 x16 y0 y1 y2 y3 y4 y5 y6 y7 y8 y9 y10 y11 y12 y13 y14 y15 y16; have x13 := HN13.out.cells.2.2.2.2.2.2.2.2.2.2.2.2.2.1; have y13 := HN23.out.cells.2.2.2.2.2.2.2.2.2.2.2.2.2.1)
    | (go_at_call 70; (with_reducible refine (HE2.out _ HB3.out).mono ?_); rintro e w4 ⟨rfl, hb4⟩; have HB4 := hid (HB3.out.trans (hb4.mono HB3.out.size)); have HN14 := hid (HN13.out.keep hb4); have HN24 := hid (HN23.out.keep hb4); clear hb4 HB3 HN13 HN23 x13 y13; have x16 := HN14.out.cells.2.2.2.2.2.2.2.2.2.2.2.2.2.2.2.2.1; have y16 := HN24.out.cells.2.2.2.2.2.2.2.2.2.2.2.2.2.2.2.2.1)
    | (go_at_call 72; (with_reducible refine (HE3.out _ HB4.out).mono ?_); rintro e w5 ⟨rfl, hb5⟩; have HB5 := hid (HB4.out.trans (hb5.mono HB4.out.size)); clear hb5 HB4 HN14 HN24 x16 y16))
  show R (.returned (.bool true)) w5
  rw [HR.out]
  exact ⟨rfl, HB5.out⟩
end Go.Proofs.Ythjfhenldkihkaa
