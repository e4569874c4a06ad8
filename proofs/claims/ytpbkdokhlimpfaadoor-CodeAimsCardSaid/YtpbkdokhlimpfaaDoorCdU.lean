/- code: the Maker's Program. -/
import Derived.Test.YtpbkdokhlimpfaaDoorCdT
namespace Go.Proofs.YtpbkdokhlimpfaaDoor
set_option linter.unusedSimpArgs false
set_option linter.unusedVariables false
open Go.RowKit

theorem results_cell_cell {P : Program} {fn : Func} {p q : Tmp} {ty ty2 : TypeId} (h : fn.results = #[.cell p ty, .cell q ty2]) (tmps : Array Value) (w : World) (g g2 : Nat) (t t2 : TypeId) (cs cs2 : Array Value) (fr fr2 : Nat × Nat) (d d2 : TypeDesc)
    (hp : tmps.getD p undef = .pointer (some ⟨g, 0, none⟩)) (hg : w.heap[g]? = some (.cells cs t fr))
    (hu : P.underlying ty = some d) (hd : (match d with | .struct _ | .array _ _ => true | _ => false) = true) (hi : (P.info? ty).map (·.size) = some cs.size)
    (hp2 : tmps.getD q undef = .pointer (some ⟨g2, 0, none⟩)) (hg2 : w.heap[g2]? = some (.cells cs2 t2 fr2))
    (hu2 : P.underlying ty2 = some d2) (hd2 : (match d2 with | .struct _ | .array _ _ => true | _ => false) = true) (hi2 : (P.info? ty2).map (·.size) = some cs2.size) :
    (results fn tmps).run P w = .ok (.tuple #[.agg cs, .agg cs2]) w := by
  have hp' : tmps[p]?.getD undef = .pointer (some ⟨g, 0, none⟩) := by simpa using hp
  have hp2' : tmps[q]?.getD undef = .pointer (some ⟨g2, 0, none⟩) := by simpa using hp2
  simp [results, h, hp', hp2', asAddr, run_loadVar_row w g t ty cs fr d hg hu hd hi, run_loadVar_row w g2 t2 ty2 cs2 fr2 d2 hg2 hu2 hd2 hi2]
theorem prog_size (cs : List Value) (h : cs.length = 4) : (Tryd.prog.info? 24).map (·.size) = some cs.toArray.size := by
  rw [List.size_toArray, h]; kernel_rfl
def twoW (w : World) (g : Nat) (a b c d e f : Value) : World := (((((w.setCell ⟨g, 0, none⟩ a).setCell ⟨g, 1, none⟩ b).setCell ⟨g, 2, none⟩ c).setCell ⟨g, 3, none⟩ d).setCell ⟨g + 1, 0, none⟩ e).setCell ⟨g + 1, 1, none⟩ f
theorem two_put {w : World} {g : Nat} {t u : TypeId} {z0 z1 z2 z3 y0 y1 : Value} (hx : Blk w g t [z0, z1, z2, z3]) (hy : Blk w (g + 1) u [y0, y1]) (a b c d e f : Value) : Blk (twoW w g a b c d e f) g t [a, b, c, d] ∧ Blk (twoW w g a b c d e f) (g + 1) u [e, f] ∧ Chg w (twoW w g a b c d e f) (fun k => k = g ∨ k = g + 1) := by
  have h1 := (((hx.put 0 a).put 1 b).put 2 c).put 3 d
  have h2 := Blk.other (Blk.other h1 (p := ⟨g + 1, 0, none⟩) (by simp) e) (p := ⟨g + 1, 1, none⟩) (by simp) f
  have k1 := Blk.other (Blk.other (Blk.other (Blk.other hy (p := ⟨g, 0, none⟩) (by simp) a) (p := ⟨g, 1, none⟩) (by simp) b) (p := ⟨g, 2, none⟩) (by simp) c) (p := ⟨g, 3, none⟩) (by simp) d
  have k2 := (k1.put 0 e).put 1 f
  refine ⟨by simpa [twoW] using h2, by simpa [twoW] using k2, ?_⟩
  exact ((((((Chg.refl w (fun k => k = g ∨ k = g + 1)).set g 0 (.inl rfl) a).set g 1 (.inl rfl) b).set g 2 (.inl rfl) c).set g 3 (.inl rfl) d).set (g + 1) 0 (.inr rfl) e).set (g + 1) 1 (.inr rfl) f
/-- What Program answers. -/
def ProgR (w : World) (p : PT) (e : Ending) (w' : World) : Prop :=
  Below w.heap.size w w' ∧ ((ckS (mayS p) p).1 ≠ 0 → e = .returned (.tuple #[PT.zero.val, fltV (ckS (mayS p) p)])) ∧ ((ckS (mayS p) p).1 = 0 → ∃ q : PT, e = .returned (.tuple #[q.val, fltV (0, 0)]) ∧ q.bare = p.bare ∧ POwn w' w.heap.size q)
set_option maxRecDepth 100000 in
set_option maxHeartbeats 4000000 in
theorem Program_any (O : Nat → Prop) (g : Nat) (p : PT) (w : World) (hM : MkOk w O g p false) (hl : p.ss.length ≤ 1000000) (hws : ∀ x ∈ p.ss, x.ws.length ≤ 1000000) : Calls Tryd.prog 16 #[.pointer (some ⟨g, 0, none⟩)] w (ProgR w p) := by
  obtain ⟨RR, hRR⟩ : ∃ RR, RR = ProgR w p := ⟨_, rfl⟩
  rw [← hRR]
  have HRR := hid hRR
  clear hRR
  have hb1 : Below w.heap.size w (w.alloc (.cells PT.zero.cells.toArray 24)) := (Below.refl _ _).alloc (Nat.le_refl _) _
  have hb2 : Below w.heap.size w ((w.alloc (.cells PT.zero.cells.toArray 24)).alloc (.cells #[.int .i64 0, .int .i64 0] 29)) := hb1.alloc (by simp) _
  have hX : Blk ((w.alloc (.cells PT.zero.cells.toArray 24)).alloc (.cells #[.int .i64 0, .int .i64 0] 29)) w.heap.size 24 PT.zero.cells := Blk.alloc (heap_alloc_new w _) _
  have hY : Blk ((w.alloc (.cells PT.zero.cells.toArray 24)).alloc (.cells #[.int .i64 0, .int .i64 0] 29)) (w.heap.size + 1) 29 [.int .i64 0, .int .i64 0] := by
    have := heap_alloc_new (w.alloc (.cells PT.zero.cells.toArray 24)) (.cells #[.int .i64 0, .int .i64 0] 29)
    rw [World.size_alloc] at this
    exact this
  have hS : ((w.alloc (.cells PT.zero.cells.toArray 24)).alloc (.cells #[.int .i64 0, .int .i64 0] 29)).heap.size = w.heap.size + 2 := by simp
  have hzc : PT.zero.cells.toArray = #[.slice none 0 0, .int .i64 0, .int .i64 0, .int .i64 0] := rfl
  rw [hzc] at hb2 hX hY hS
  have HB := hid hb2
  have HX := hid hX
  have HY := hid hY
  have HS := hid hS
  have HM := hid (hM.below hb2)
  obtain ⟨x0, x1, x2, x3, x4⟩ := HM.out.box.five
  have HCk := hid (Check_any may_any p _ HM.out.own.ok hl hws)
  have HCl := hid (fun W (hW : PtOk W (fun b => 0 ≤ b) p) => Clone_any p W hW hl hws)
  have HOk := hid HM.out.own.ok
  obtain ⟨R, hR⟩ : ∃ R, R = ckS (mayS p) p := ⟨_, rfl⟩
  unfold ProgR at HRR
  rw [← hR] at HCk HRR
  have HRf := hid (show R.1 = 0 → R.2 = 0 from by
    rw [hR]
    unfold ckS
    split
    · intro h; simp at h
    · split
      · intro h; simp at h
      · split
        · intro _; rfl
        · intro h; simp at h)
  unfold PT.val at HCk HCl
  unfold fltV at HCk
  clear hb1 hb2 hX hY hS hzc hM hR hl hws
  go_enter Tryd.func16, Tryd.ntmps16
  go_upto_region 1 with (fail)
  generalize (w.alloc (.cells #[.slice none 0 0, .int .i64 0, .int .i64 0, .int .i64 0] 24)).alloc (.cells #[.int .i64 0, .int .i64 0] 29) = w1 at *
  go_upto_region 4 with (go_at_call 9; (with_reducible refine HCk.out.mono ?_); rintro e w2 ⟨rfl, hb2⟩; have HB2 := hid hb2; clear hb2)
  have hs2 := HB2.out.size
  have hs1 := HS.out
  have hb3 : Below w2.heap.size w2 (w2.alloc (.cells #[.int .i64 R.1, .int .i64 R.2] 29)) := (Below.refl _ _).alloc (Nat.le_refl _) _
  have HK := hid (show Blk (w2.alloc (.cells #[.int .i64 R.1, .int .i64 R.2] 29)) w2.heap.size 29 [.int .i64 R.1, .int .i64 R.2] from heap_alloc_new w2 _)
  have HB3 := hid (show Below w1.heap.size w1 (w2.alloc (.cells #[.int .i64 R.1, .int .i64 R.2] 29)) from HB2.out.trans (hb3.mono hs2))
  have HX3 := hid (Blk.keep HX.out HB3.out)
  have HY3 := hid (Blk.keep HY.out HB3.out)
  have HM3 := hid (HM.out.below HB3.out)
  have k0 := Blk.at HK.out 0
  have k1 := Blk.at HK.out 1
  simp only [List.getElem?_cons_zero, List.getElem?_cons_succ] at k0 k1
  generalize w2.alloc (.cells #[.int .i64 R.1, .int .i64 R.2] 29) = w3 at *
  clear x0 x1 x2 x3 x4 hb3
  by_cases hR0 : R.1 = 0
  · have hRb : (R.1 != 0) = false := by simpa using hR0
    obtain ⟨x0, x1, x2, x3, x4⟩ := HM3.out.box.five
    have HC3 := hid (HCl.out w3 (HOk.out.keep HB3.out))
    go_upto_region 6 with (fail)
    go_wp2_with (go_at_call 21; (with_reducible refine HC3.out.mono ?_); rintro e w4 ⟨q, rfl, hq, ho4, hb4⟩; have HB4 := hid hb4; have HO4 := hid ho4; have HQ := hid hq; clear hq ho4 hb4; have HX4 := hid (Blk.keep HX3.out HB4.out); have HY4 := hid (Blk.keep HY3.out HB4.out); have a0 := Blk.at HX4.out 0; have a1 := Blk.at HX4.out 1; have a2 := Blk.at HX4.out 2; have a3 := Blk.at HX4.out 3; have b0 := Blk.at HY4.out 0; have b1 := Blk.at HY4.out 1; have fa := Blk.free HX4.out; have fb := Blk.free HY4.out; simp only [PT.zero, PT.cells, SV.nil, List.getElem?_cons_zero, List.getElem?_cons_succ] at a0 a1 a2 a3 b0 b1)
    obtain ⟨t1, t2, t3⟩ := two_put HX4.out HY4.out (.slice q.S.A q.S.n q.S.c) (.int .i64 q.sl) (.int .i64 q.su) (.int .i64 q.au) (.int .i64 0) (.int .i64 0)
    have T1 := hid t1
    have T2 := hid t2
    have T3 := hid t3
    unfold twoW at T1 T2 T3
    clear t1 t2 t3 a0 a1 a2 a3 b0 b1 fa fb
    refine bodyPost_ret (v := .tuple #[.agg #[.slice q.S.A q.S.n q.S.c, .int .i64 q.sl, .int .i64 q.su, .int .i64 q.au], .agg #[.int .i64 0, .int .i64 0]]) (results_cell_cell (P := Tryd.prog) (fn := Tryd.f16) rfl _ _ w.heap.size (w.heap.size + 1) 24 29 #[.slice q.S.A q.S.n q.S.c, .int .i64 q.sl, .int .i64 q.su, .int .i64 q.au] #[.int .i64 0, .int .i64 0] (0, 0) (0, 0) _ _ rfl T1.out Tryd.underlying24 rfl (by kernel_rfl) rfl T2.out Tryd.underlying29 rfl (by kernel_rfl)) rfl ?_
    rw [HRR.out]
    have hB5 : Below w.heap.size w w4 := (HB.out.trans (HB3.out.mono HB.out.size)).trans (HB4.out.mono (HB.out.trans (HB3.out.mono HB.out.size)).size)
    have hs3 : w.heap.size + 2 ≤ w3.heap.size := by have := HB3.out.size; omega
    refine ⟨Chg.below (S := fun k => k = w.heap.size ∨ k = w.heap.size + 1) hB5 T3.out hB5.size (fun j hj => by rcases hj with h | h <;> omega), fun h => absurd hR0 h, fun _ => ⟨q, rfl, HQ.out, ?_⟩⟩
    exact (HO4.out.other (fun b hb hbl => T3.out.block b hbl (fun h => by rcases h with h | h <;> omega))).wide (by omega)
  · have hRb : (R.1 != 0) = true := by simpa using hR0
    have a0 := Blk.at HX3.out 0
    have a1 := Blk.at HX3.out 1
    have a2 := Blk.at HX3.out 2
    have a3 := Blk.at HX3.out 3
    have b0 := Blk.at HY3.out 0
    have b1 := Blk.at HY3.out 1
    have fa := Blk.free HX3.out
    have fb := Blk.free HY3.out
    simp only [PT.zero, PT.cells, SV.nil, List.getElem?_cons_zero, List.getElem?_cons_succ] at a0 a1 a2 a3 b0 b1
    go_upto_region 5 with (fail)
    go_region
    obtain ⟨t1, t2, t3⟩ := two_put HX3.out HY3.out (.slice none 0 0) (.int .i64 0) (.int .i64 0) (.int .i64 0) (.int .i64 R.1) (.int .i64 R.2)
    have T1 := hid t1
    have T2 := hid t2
    have T3 := hid t3
    unfold twoW at T1 T2 T3
    generalize (((((w3.setCell ⟨w.heap.size, 0, none⟩ (.slice none 0 0)).setCell ⟨w.heap.size, 1, none⟩ (.int .i64 0)).setCell ⟨w.heap.size, 2, none⟩ (.int .i64 0)).setCell ⟨w.heap.size, 3, none⟩ (.int .i64 0)).setCell ⟨w.heap.size + 1, 0, none⟩ (.int .i64 R.1)).setCell ⟨w.heap.size + 1, 1, none⟩ (.int .i64 R.2) = w5 at *
    clear t1 t2 t3 a0 a1 a2 a3 b0 b1 fa fb
    go_wp2_with fail
    refine bodyPost_ret (v := .tuple #[.agg #[.slice none 0 0, .int .i64 0, .int .i64 0, .int .i64 0], .agg #[.int .i64 R.1, .int .i64 R.2]]) (results_cell_cell (P := Tryd.prog) (fn := Tryd.f16) rfl _ _ w.heap.size (w.heap.size + 1) 24 29 #[.slice none 0 0, .int .i64 0, .int .i64 0, .int .i64 0] #[.int .i64 R.1, .int .i64 R.2] (0, 0) (0, 0) _ _ rfl T1.out Tryd.underlying24 rfl (by kernel_rfl) rfl T2.out Tryd.underlying29 rfl (by kernel_rfl)) rfl ?_
    rw [HRR.out]
    refine ⟨Chg.below (S := fun k => k = w.heap.size ∨ k = w.heap.size + 1) (HB.out.trans (HB3.out.mono HB.out.size)) (T3.out.drewN 1) (HB.out.trans (HB3.out.mono HB.out.size)).size (fun j hj => by rcases hj with h | h <;> omega), fun _ => rfl, fun h => absurd h hR0⟩
end Go.Proofs.YtpbkdokhlimpfaaDoor
