/- The law WholeClasses, walked. -/
import Derived.Test.YtbpgfphilcjmdaaDoorWc
namespace Go.Proofs.YtbpgfphilcjmdaaDoor
open Go.RowKit

theorem run_neArr (a b : BS) (w : World) : (binOp .neq 24 (.agg #[.int .u64 ((wd a 0 : Nat) : Int), .int .u64 ((wd a 1 : Nat) : Int), .int .u64 ((wd a 2 : Nat) : Int), .int .u64 ((wd a 3 : Nat) : Int)]) (.agg #[.int .u64 ((wd b 0 : Nat) : Int), .int .u64 ((wd b 1 : Nat) : Int), .int .u64 ((wd b 2 : Nat) : Int), .int .u64 ((wd b 3 : Nat) : Int)])).run Tryd.prog w = .ok (.bool (!decide (a = b))) w := by
  rw [run_neq_struct, run_eq4 24 Tryd.underlying24 9998, Result.andThen_ok, bs_eq_words]
theorem rdB_one {W : World} {g : Nat} {c : Nat} (hc : c < 256) (h : Blk W g 5 [.int .u8 (c : Int)]) : RdB W (some ⟨g, 0, none⟩) 1 [c.toUInt8] := by
  refine ⟨rfl, fun _ => ⟨g, 0, rfl, h.lt, fun j hj => ?_⟩⟩
  obtain rfl : j = 0 := by simpa using hj
  have e : c.toUInt8.toNat = c := by simp; omega
  simp only [List.getElem_cons_zero, e]
  exact h.at 0
/-- What stands while the law runs: what came in, below; the table; the box of the set. -/
structure Ho (w : World) (a : BS) (W : World) : Prop where
  bel : Below w.heap.size w W
  tab : TabAt W
  fs : Blk W w.heap.size 40 (setL a)
theorem Ho.step {w W W' : World} {a : BS} (h : Ho w a W) (hb : Below W.heap.size W W') : Ho w a W' := ⟨h.bel.trans (hb.mono h.bel.size), h.tab.keep hb, h.fs.keep hb⟩
theorem Ho.drew {w W : World} {a : BS} (h : Ho w a W) : Ho w a W.drew := h.step ⟨rfl, rfl, rfl, Nat.le_refl _, fun _ _ => rfl⟩
/-- And what was read of the first text. -/
structure H2 (w : World) (a : BS) (A B b o cp : Nat) (y0 y1 : RV) (W : World) : Prop where
  ho : Ho w a W
  fx : Blk W A 27 (RV.cells ⟨4, 0#256, some ⟨b, o, none⟩, 2, cp, 0, 0⟩)
  ff : Blk W B 30 (faultC 0 0).toList
  hb : b < W.heap.size
  r0 : RowAt W b o y0.cells
  r1 : RowAt W b (o + 8) y1.cells
theorem H2.step {w W W' : World} {a : BS} {A B b o cp : Nat} {y0 y1 : RV} (h : H2 w a A B b o cp y0 y1 W) (hb : Below W.heap.size W W') : H2 w a A B b o cp y0 y1 W' :=
  ⟨h.ho.step hb, h.fx.keep hb, h.ff.keep hb, Nat.lt_of_lt_of_le h.hb hb.size, h.r0.block (hb.block b h.hb), h.r1.block (hb.block b h.hb)⟩
theorem H2.drew {w W : World} {a : BS} {A B b o cp : Nat} {y0 y1 : RV} (h : H2 w a A B b o cp y0 y1 W) : H2 w a A B b o cp y0 y1 W.drew := h.step ⟨rfl, rfl, rfl, Nat.le_refl _, fun _ _ => rfl⟩
theorem H2.cells {w W : World} {a : BS} {A B b o cp : Nat} {y0 y1 : RV} (h : H2 w a A B b o cp y0 y1 W) (h0 : y0.s = a) (h1 : y1.s = ~~~a) : W.cell? ⟨B, 0, none⟩ = some (.int .i64 0) ∧ W.cell? ⟨A, 0, none⟩ = some (.int .i64 4) ∧ W.cell? ⟨A, 5, none⟩ = some (.slice (some ⟨b, o, none⟩) 2 cp) ∧ W.cell? ⟨b, o + 1, none⟩ = some (.int .u64 ((wd a 0 : Nat) : Int)) ∧ W.cell? ⟨b, o + 2, none⟩ = some (.int .u64 ((wd a 1 : Nat) : Int)) ∧ W.cell? ⟨b, o + 3, none⟩ = some (.int .u64 ((wd a 2 : Nat) : Int)) ∧ W.cell? ⟨b, o + 4, none⟩ = some (.int .u64 ((wd a 3 : Nat) : Int)) ∧ W.cell? ⟨b, o + 9, none⟩ = some (.int .u64 ((wd (~~~a) 0 : Nat) : Int)) ∧ W.cell? ⟨b, o + 10, none⟩ = some (.int .u64 ((wd (~~~a) 1 : Nat) : Int)) ∧ W.cell? ⟨b, o + 11, none⟩ = some (.int .u64 ((wd (~~~a) 2 : Nat) : Int)) ∧ W.cell? ⟨b, o + 12, none⟩ = some (.int .u64 ((wd (~~~a) 3 : Nat) : Int)) ∧ W.cell? ⟨w.heap.size, 0, none⟩ = some (.int .u64 ((wd a 0 : Nat) : Int)) ∧ W.cell? ⟨w.heap.size, 1, none⟩ = some (.int .u64 ((wd a 1 : Nat) : Int)) ∧ W.cell? ⟨w.heap.size, 2, none⟩ = some (.int .u64 ((wd a 2 : Nat) : Int)) ∧ W.cell? ⟨w.heap.size, 3, none⟩ = some (.int .u64 ((wd a 3 : Nat) : Int)) := by
  obtain ⟨x0, x1, x2, x3, x4, x5, _⟩ := Blk.cells8' h.fx
  obtain ⟨_, p1, p2, p3, p4, _⟩ := h.r0.cells8
  obtain ⟨_, q1, q2, q3, q4, _⟩ := h.r1.cells8
  obtain ⟨s0, s1, s2, s3⟩ := Blk.cells4 h.ho.fs
  rw [h0] at p1 p2 p3 p4
  rw [h1] at q1 q2 q3 q4
  exact ⟨h.ff.at 0, x0, x5, p1, p2, p3, p4, q1, q2, q3, q4, s0, s1, s2, s3⟩
def tM (a : BS) (c : Nat) : RT := .nd 3 (0#256) [.nd 5 (0#256) [.nd 2 a [] 0 0] 3 3, .nd 2 (bit c) [] 0 0] 0 0
/-- And of the second one. -/
structure H5 (w : World) (a : BS) (c A B b o cp : Nat) (y0 y1 z0 z1 : RV) (D b2 o2 c2 : Nat) (W : World) : Prop where
  h : H2 w a A B b o cp y0 y1 W
  fm : Blk W D 27 (RV.cells ⟨3, 0#256, some ⟨b2, o2, none⟩, 2, c2, 0, 0⟩)
  fg : Blk W (D + 1) 30 (faultC 0 0).toList
  hb : b2 < W.heap.size
  r0 : RowAt W b2 o2 z0.cells
  r1 : RowAt W b2 (o2 + 8) z1.cells
  rep : Rep W (fun _ => True) ⟨3, 0#256, some ⟨b2, o2, none⟩, 2, c2, 0, 0⟩ (tM a c)
theorem H5.step {w W W' : World} {a : BS} {c A B b o cp : Nat} {y0 y1 z0 z1 : RV} {D b2 o2 c2 : Nat} (h : H5 w a c A B b o cp y0 y1 z0 z1 D b2 o2 c2 W) (hb : Below W.heap.size W W') : H5 w a c A B b o cp y0 y1 z0 z1 D b2 o2 c2 W' :=
  ⟨h.h.step hb, h.fm.keep hb, h.fg.keep hb, Nat.lt_of_lt_of_le h.hb hb.size, h.r0.block (hb.block b2 h.hb), h.r1.block (hb.block b2 h.hb), h.rep.keep hb⟩
theorem H5.drew {w W : World} {a : BS} {c A B b o cp : Nat} {y0 y1 z0 z1 : RV} {D b2 o2 c2 : Nat} (h : H5 w a c A B b o cp y0 y1 z0 z1 D b2 o2 c2 W) : H5 w a c A B b o cp y0 y1 z0 z1 D b2 o2 c2 W.drew := h.step ⟨rfl, rfl, rfl, Nat.le_refl _, fun _ _ => rfl⟩
theorem H5.cells9 {w W : World} {a : BS} {c A B b o cp : Nat} {y0 y1 z0 z1 : RV} {D b2 o2 c2 : Nat} (h : H5 w a c A B b o cp y0 y1 z0 z1 D b2 o2 c2 W) (h0 : z0.lo = 3) (h1 : z1.s = bit c) : W.cell? ⟨D + 1, 0, none⟩ = some (.int .i64 0) ∧ W.cell? ⟨D, 0, none⟩ = some (.int .i64 3) ∧ W.cell? ⟨D, 5, none⟩ = some (.slice (some ⟨b2, o2, none⟩) 2 c2) ∧ W.cell? ⟨b2, o2 + 6, none⟩ = some (.int .i64 3) ∧ W.cell? ⟨b2, o2 + 9, none⟩ = some (.int .u64 ((wd (bit c) 0 : Nat) : Int)) ∧ W.cell? ⟨b2, o2 + 10, none⟩ = some (.int .u64 ((wd (bit c) 1 : Nat) : Int)) ∧ W.cell? ⟨b2, o2 + 11, none⟩ = some (.int .u64 ((wd (bit c) 2 : Nat) : Int)) ∧ W.cell? ⟨b2, o2 + 12, none⟩ = some (.int .u64 ((wd (bit c) 3 : Nat) : Int)) := by
  obtain ⟨x0, x1, x2, x3, x4, x5, _⟩ := Blk.cells8' h.fm
  obtain ⟨_, _, _, _, _, _, p6, _⟩ := h.r0.cells8
  obtain ⟨_, q1, q2, q3, q4, _⟩ := h.r1.cells8
  rw [h0] at p6
  rw [h1] at q1 q2 q3 q4
  exact ⟨h.fg.at 0, x0, x5, p6, q1, q2, q3, q4⟩
theorem H5.cells11 {w W : World} {a : BS} {c A B b o cp : Nat} {y0 y1 z0 z1 : RV} {D b2 o2 c2 : Nat} (h : H5 w a c A B b o cp y0 y1 z0 z1 D b2 o2 c2 W) (h0 : y0.s = a) (h1 : y1.s = ~~~a) : W.cell? ⟨A, 5, none⟩ = some (.slice (some ⟨b, o, none⟩) 2 cp) ∧ W.cell? ⟨b, o + 1, none⟩ = some (.int .u64 ((wd a 0 : Nat) : Int)) ∧ W.cell? ⟨b, o + 2, none⟩ = some (.int .u64 ((wd a 1 : Nat) : Int)) ∧ W.cell? ⟨b, o + 3, none⟩ = some (.int .u64 ((wd a 2 : Nat) : Int)) ∧ W.cell? ⟨b, o + 4, none⟩ = some (.int .u64 ((wd a 3 : Nat) : Int)) ∧ W.cell? ⟨b, o + 9, none⟩ = some (.int .u64 ((wd (~~~a) 0 : Nat) : Int)) ∧ W.cell? ⟨b, o + 10, none⟩ = some (.int .u64 ((wd (~~~a) 1 : Nat) : Int)) ∧ W.cell? ⟨b, o + 11, none⟩ = some (.int .u64 ((wd (~~~a) 2 : Nat) : Int)) ∧ W.cell? ⟨b, o + 12, none⟩ = some (.int .u64 ((wd (~~~a) 3 : Nat) : Int)) ∧ W.cell? ⟨D, 0, none⟩ = some (.int .i64 3) ∧ W.cell? ⟨D, 1, none⟩ = some (.int .u64 ((wd (0#256) 0 : Nat) : Int)) ∧ W.cell? ⟨D, 2, none⟩ = some (.int .u64 ((wd (0#256) 1 : Nat) : Int)) ∧ W.cell? ⟨D, 3, none⟩ = some (.int .u64 ((wd (0#256) 2 : Nat) : Int)) ∧ W.cell? ⟨D, 4, none⟩ = some (.int .u64 ((wd (0#256) 3 : Nat) : Int)) ∧ W.cell? ⟨D, 5, none⟩ = some (.slice (some ⟨b2, o2, none⟩) 2 c2) ∧ W.cell? ⟨D, 6, none⟩ = some (.int .i64 0) ∧ W.cell? ⟨D, 7, none⟩ = some (.int .i64 0) := by
  obtain ⟨_, x0, x5, p1, p2, p3, p4, q1, q2, q3, q4, _⟩ := h.h.cells h0 h1
  obtain ⟨z0, z1, z2, z3, z4, z5, z6, z7⟩ := Blk.cells8' h.fm
  exact ⟨x5, p1, p2, p3, p4, q1, q2, q3, q4, z0, z1, z2, z3, z4, z5, z6, z7⟩
def rvA : RV := ⟨2, bit 97, none, 0, 0, 0, 0⟩
theorem rep_A (W : World) : Rep W (fun _ => False) rvA (.nd 2 (bit 97) [] 0 0) := Rep.leaf W _ 2 (bit 97) 0 0 0 none
theorem text_A {W : World} (hT : TabAt W) : Calls Tryd.prog 12 #[rvA.val] W fun e w' => e = .returned (.string ⟨#[97]⟩) ∧ Below W.heap.size W w' := by
  have h := Text_any (rep_A W) (fun _ h => h.elim) hT (wg_one (bit_ne 97 (by decide))) (by decide)
  have hw : wrT (.nd 2 (bit 97) [] 0 0) = [97] := by
    show textL (bit 97) = [97]
    rw [textL_bit 97 (by decide)]
    rfl
  rw [hw] at h
  exact h
theorem len_abc (w : World) : Calls Tryd.prog 19 #[setV (rng 97 99)] w fun e w' => e = .returned (.int .i64 3) ∧ Below w.heap.size w w' := by
  have h := len_any (rng 97 99) w
  rw [show (bytesOf (rng 97 99)).length = 3 from by decide +kernel] at h
  exact h
theorem of_a {w : World} {g cap : Nat} (h : Blk w g 5 [.int .u8 97]) : Calls Tryd.prog 14 #[.slice (some ⟨g, 0, none⟩) 1 cap] w fun e w' => e = .returned (setV (bit 97)) ∧ Below w.heap.size w w' := by
  have h1 := of_any (cap := cap) (rdB_one (c := 97) (by decide) h) (by decide)
  rw [ofL_one 97 (by decide)] at h1
  exact h1
set_option maxRecDepth 100000 in
set_option maxHeartbeats 8000000 in
theorem who_walk (a : BS) (c : Nat) (hc : c < 256) {w : World} (hT : TabAt w) :
    Calls Tryd.prog 6 #[setV a, .int .u8 (c : Int)] w fun e w' => e = .returned (.bool true) ∧ Below w.heap.size w w' := by
  have hb : Below w.heap.size w (w.alloc (.cells (setL a).toArray 40)) := (Below.refl _ _).alloc (Nat.le_refl _) _
  have HO := hid (show Ho w a (w.alloc (.cells (setL a).toArray 40)) from ⟨hb, hT.keep hb, Blk.fresh w 40 (setL a)⟩)
  have HR := hid (fun W => range_any 97 99 (by decide) (by decide) W)
  have HLn := hid (fun W => len_abc W)
  have HOf := hid (fun W g cap (h : Blk W g 5 [.int .u8 97]) => of_a (cap := cap) h)
  have HTA := hid (fun W (h : TabAt W) => text_A h)
  have HTL := hid (textL_len a)
  have HTN := hid (textL_len (~~~a))
  unfold setV at HLn HR HOf
  unfold RV.val rvA at HTA
  clear hb hT
  rw [show setV a = .agg (setL a).toArray from rfl]
  go_enter Tryd.func6, Tryd.ntmps6
  go_upto_region 1 with (fail)
  change Code.wp _ _ _ _ (w.alloc (.cells (setL a).toArray 40))
  generalize w.alloc (.cells (setL a).toArray 40) = w1 at *
  go_wp2_with fail
  refine (HR.out _).mono ?_
  rintro e w2 ⟨rfl, hb2⟩
  have HO2 := hid (HO.out.step hb2)
  clear hb2 HO HR
  go_wp2_with fail
  refine (HLn.out _).mono ?_
  rintro e w3 ⟨rfl, hb3⟩
  have HO3 := hid (HO2.out.step hb3)
  clear hb3 HO2 HLn
  have HO4 := hid (HO3.out.step ((Below.refl _ _).alloc (Nat.le_refl _) (.cells #[.int .u8 97] 5)))
  have HB4 := hid (show Blk (w3.alloc (.cells #[.int .u8 97] 5)) w3.heap.size 5 [.int .u8 97] from heap_alloc_new w3 _)
  go_wp2_with fail
  refine (HOf.out _ _ _ HB4.out).mono ?_
  rintro e w5 ⟨rfl, hb5⟩
  have HO5 := hid (HO4.out.step hb5)
  clear hb5 HO4 HB4 HOf HO3
  go_wp2_with fail
  refine (HTA.out _ HO5.out.tab).mono ?_
  rintro e w6 ⟨rfl, hb6⟩
  have HO6 := hid (HO5.out.step hb6)
  clear hb6 HO5 HTA
  go_upto_region 3 with (fail)
  refine reg3 (bx := w.heap.size) (a := a) rfl (by simp) HO6.out.tab HO6.out.fs rfl rfl rfl rfl (by have := HTL.out; have := HTN.out; omega) ?_
  intro F w7 hF hb7
  have HO7 := hid (HO6.out.step hb7)
  clear hb7 HO6
  simp only [wc3Us, List.foldl_cons, List.foldl_nil, List.setIfInBounds_toArray, List.set_cons_zero, List.set_cons_succ]
  rw [hF]
  clear hF
  generalize F 19 = f19, F 20 = f20, F 21 = f21, F 22 = f22, F 23 = f23, F 24 = f24, F 25 = f25, F 26 = f26, F 27 = f27, F 28 = f28, F 29 = f29, F 30 = f30, F 31 = f31, F 32 = f32, F 33 = f33, F 34 = f34, F 35 = f35, F 36 = f36, F 37 = f37
  by_cases h0 : a = 0#256
  · rw [decide_eq_true h0]
    clear h0
    simp only [Bool.true_or]
    go_wp2
    go_ret
    exact ⟨rfl, HO7.out.bel⟩
  by_cases h1 : a = ~~~(0#256)
  · rw [decide_eq_true h1]
    clear h1 h0
    simp only [Bool.or_true, Bool.true_or]
    go_wp2
    go_ret
    exact ⟨rfl, HO7.out.bel⟩
  by_cases h2 : 200 < (textL a).length
  · rw [decide_eq_true h2]
    clear h1 h0 h2
    simp only [Bool.or_true, Bool.true_or]
    go_wp2
    go_ret
    exact ⟨rfl, HO7.out.bel⟩
  by_cases h3 : 200 < (textL (~~~a)).length
  · rw [decide_eq_true h3]
    clear h1 h0 h2 h3
    simp only [Bool.or_true]
    go_wp2
    go_ret
    exact ⟨rfl, HO7.out.bel⟩
  rw [decide_eq_false h0, decide_eq_false h1, decide_eq_false h2, decide_eq_false h3]
  have hn : ~~~a ≠ 0#256 := by
    intro e
    apply h1
    rw [← BitVec.not_not (b := a), e]
  have HP1 := hid (parse_alt2 h0 hn (by omega))
  have HP2 := hid (parse_rep3 h0 c hc (by omega))
  clear h0 h1 h2 h3 hn
  simp only [Bool.or_self]
  go_upto_region 5 with (fail)
  refine reg5 (bx := w.heap.size) (a := a) rfl (by simp) HO7.out.tab HO7.out.fs HP1.out (by have := HTL.out; have := HTN.out; omega) ?_
  intro x A B w8 hb8 hA8 hB8 hx8 hf8 hr8
  have HO8 := hid (HO7.out.step hb8)
  obtain ⟨hk, hs, hlo, hhi, hn, vs, hrow, hkid⟩ := hr8.inv
  have hn2 : x.n = 2 := hn.symm
  obtain ⟨b, o, hxA, hbl, hPb, hra⟩ := hrow (by omega)
  have hr0 := hra 0 (by omega)
  have hr1 := hra 1 (by omega)
  have hk0 : Rep w8 _ (vs 0) (.nd 2 a [] 0 0) := hkid 0 (by simp)
  have hk1 : Rep w8 _ (vs 1) (.nd 2 (~~~a) [] 0 0) := hkid 1 (by simp)
  have hs0 := hk0.inv.2.1
  have hs1 := hk1.inv.2.1
  obtain ⟨xk, xs, xA, xn, xc, xlo, xhi⟩ := x
  simp only at hk hs hlo hhi hn2 hxA
  subst hk hs hlo hhi hn2 hxA
  have H2 := hid (show H2 w a A B b o xc (vs 0) (vs 1) w8 from ⟨HO8.out, hx8, hf8, hbl, by simpa using hr0, by simpa using hr1⟩)
  have HS01 := hid (show (vs 0).s = a ∧ (vs 1).s = ~~~a from ⟨hs0, hs1⟩)
  generalize vs 0 = y0 at *
  generalize vs 1 = y1 at *
  clear hb8 hx8 hf8 hr8 hn hrow hkid hbl hPb hra hr0 hr1 hk0 hk1 hs0 hs1 HO7 HO8 HP1 hA8 hB8
  simp only [wcUs, List.foldl_cons, List.foldl_nil, List.setIfInBounds_toArray, List.set_cons_zero, List.set_cons_succ]
  have HNo := hid (fun W => not_any a W)
  have hq0 := fun W => run_neArr a a W
  have hq1 := fun W => run_neArr (~~~a) (~~~a) W
  rw [decide_eq_true rfl] at hq0 hq1
  unfold setV at HNo
  generalize (⟨(textL a ++ 124 :: textL (~~~a)).toArray⟩ : ByteArray) = S6
  generalize (⟨(textL (~~~a)).toArray⟩ : ByteArray) = S5
  generalize (⟨(textL a ++ [124]).toArray⟩ : ByteArray) = S2
  generalize (⟨(textL a).toArray⟩ : ByteArray) = S1
  have hd := H2.out.drew.cells HS01.out.1 HS01.out.2
  go_upto_region 6 with (fail)
  go_region_held3 (fun w' => w'.cell? ⟨B, 0, none⟩ = some (.int .i64 0) ∧ w'.cell? ⟨A, 0, none⟩ = some (.int .i64 4) ∧ w'.cell? ⟨A, 5, none⟩ = some (.slice (some ⟨b, o, none⟩) 2 xc) ∧ w'.cell? ⟨b, o + 1, none⟩ = some (.int .u64 ((wd a 0 : Nat) : Int)) ∧ w'.cell? ⟨b, o + 2, none⟩ = some (.int .u64 ((wd a 1 : Nat) : Int)) ∧ w'.cell? ⟨b, o + 3, none⟩ = some (.int .u64 ((wd a 2 : Nat) : Int)) ∧ w'.cell? ⟨b, o + 4, none⟩ = some (.int .u64 ((wd a 3 : Nat) : Int)) ∧ w'.cell? ⟨b, o + 9, none⟩ = some (.int .u64 ((wd (~~~a) 0 : Nat) : Int)) ∧ w'.cell? ⟨b, o + 10, none⟩ = some (.int .u64 ((wd (~~~a) 1 : Nat) : Int)) ∧ w'.cell? ⟨b, o + 11, none⟩ = some (.int .u64 ((wd (~~~a) 2 : Nat) : Int)) ∧ w'.cell? ⟨b, o + 12, none⟩ = some (.int .u64 ((wd (~~~a) 3 : Nat) : Int)) ∧ w'.cell? ⟨w.heap.size, 0, none⟩ = some (.int .u64 ((wd a 0 : Nat) : Int)) ∧ w'.cell? ⟨w.heap.size, 1, none⟩ = some (.int .u64 ((wd a 1 : Nat) : Int)) ∧ w'.cell? ⟨w.heap.size, 2, none⟩ = some (.int .u64 ((wd a 2 : Nat) : Int)) ∧ w'.cell? ⟨w.heap.size, 3, none⟩ = some (.int .u64 ((wd a 3 : Nat) : Int)))
    (first | with_reducible exact hd | exact (H2.out.drew.step (by assumption)).cells HS01.out.1 HS01.out.2 | assumption)
    (first
      | (go_at_call 17; with_reducible refine (HNo.out _).mono ?_; rintro e w9 ⟨rfl, hb9⟩; have H2' := hid (H2.out.drew.step hb9); clear hb9 H2 hd; have H2 := H2'; clear H2'; have hd := H2.out.cells HS01.out.1 HS01.out.2))
  clear hd hq0 hq1 HNo
  have HTx := hid (fun W (h : TabAt W) => text_any a h)
  have HNm := hid (fun W => name_any c hc W)
  have hnl := nameL_le c
  have ht1 := HTL.out
  have ha1 : ¬ 9223372036854775807 < (textL a).length + 3 := by omega
  have ha2 : ¬ 9223372036854775807 < (textL a).length + 3 + (nameL c).length := by omega
  clear hnl ht1
  unfold setV at HTx
  obtain ⟨q0, q1, q2, q3⟩ := Blk.cells4 H2.out.ho.fs
  go_wp2_with fail
  refine (HTx.out _ H2.out.ho.tab).mono ?_
  rintro e w10 ⟨rfl, hb10⟩
  have H3 := hid (H2.out.step hb10)
  clear hb10 H2 q0 q1 q2 q3 HTx
  go_wp2_with fail
  refine (HNm.out _).mono ?_
  rintro e w11 ⟨rfl, hb11⟩
  have H4 := hid (H3.out.step hb11)
  clear hb11 H3 HNm
  go_wp2_with fail
  refine (parse_any _ _).mono ?_
  rintro e w12 ⟨hb12, hp12⟩
  rw [show ((ByteArray.mk (textL a).toArray) ++ (ByteArray.mk #[123, 51, 125]) ++ (ByteArray.mk (nameL c).toArray)).data.toList = textL a ++ 123 :: 51 :: 125 :: nameL c by simp, HP2.out] at hp12
  obtain ⟨m, rfl, hm⟩ := hp12
  obtain ⟨hk, hs, hlo, hhi, hn, us, hrow, hkid⟩ := hm.inv
  have hn2 : m.n = 2 := hn.symm
  obtain ⟨b2, o2, hxA, hbl, hPb, hra⟩ := hrow (by omega)
  have hr0 := hra 0 (by omega)
  have hr1 := hra 1 (by omega)
  have hk0 : Rep w12 _ (us 0) (.nd 5 (0#256) [.nd 2 a [] 0 0] 3 3) := hkid 0 (by simp)
  have hk1 : Rep w12 _ (us 1) (.nd 2 (bit c) [] 0 0) := hkid 1 (by simp)
  have HS23 := hid (show (us 0).lo = 3 ∧ (us 1).s = bit c from ⟨hk0.inv.2.2.1, hk1.inv.2.1⟩)
  obtain ⟨hbx, hx13, hf13⟩ := box_pf w12 m 0 0
  have HSx := hid (rx_size m)
  have HOx := hid (rx_one m)
  obtain ⟨mk, ms, mA, mn, c2, mlo, mhi⟩ := m
  simp only at hk hs hlo hhi hn2 hxA
  subst hk hs hlo hhi hn2 hxA
  have H5' := hid (show H5 w a c A B b o xc y0 y1 (us 0) (us 1) w12.heap.size b2 o2 c2 _ from ⟨(H4.out.step hb12).step hbx, hx13, hf13, Nat.lt_of_lt_of_le hbl hbx.size, (show RowAt w12 b2 o2 (us 0).cells by simpa using hr0).block (hbx.block b2 hbl), (show RowAt w12 b2 (o2 + 8) (us 1).cells by simpa using hr1).block (hbx.block b2 hbl), (hm.keep hbx).mono (Nat.le_refl _) (fun _ _ _ => rfl) (fun _ _ _ => trivial)⟩)
  generalize us 0 = z0 at *
  generalize us 1 = z1 at *
  clear hb12 hm hn hrow hkid hbl hPb hra hr0 hr1 hk0 hk1 H4 hbx hx13 hf13 ha1 ha2
  unfold RV.val
  go_upto_region 9 with (first
    | (refine wpList_store_row rfl 27 _ _ rfl w12.heap.size (RV.cells ⟨3, 0#256, some ⟨b2, o2, none⟩, 2, c2, 0, 0⟩).toArray ?_ ?_ 27 #[.int .i64 0, .int .u64 0, .int .u64 0, .int .u64 0, .int .u64 0, .slice none 0 0, .int .i64 0, .int .i64 0] ((Below.heap_alloc _ _ _ (by simp)).trans (heap_alloc_new w12 _)) HSx.out ?_ HOx.out ?_; exact rfl; exact rfl; exact rfl)
    | (refine wpList_store_row rfl 30 _ _ rfl (w12.heap.size + 1) (faultC 0 0) ?_ ?_ 30 #[.int .i64 0, .int .i64 0] (pf_mid w12 _) (fault_size 0 0) ?_ (fault_one 0 0) ?_; exact rfl; exact rfl; exact rfl; generalize (((w12.alloc (.cells #[.int .i64 0, .int .u64 0, .int .u64 0, .int .u64 0, .int .u64 0, .slice none 0 0, .int .i64 0, .int .i64 0] 27)).alloc (.cells #[.int .i64 0, .int .i64 0] 30)).setRow w12.heap.size (RV.cells ⟨3, 0#256, some ⟨b2, o2, none⟩, 2, c2, 0, 0⟩).toArray).setRow (w12.heap.size + 1) (faultC 0 0) = w13 at *))
  generalize w12.heap.size = D at *
  clear HSx HOx
  have HOf := hid (fun W g cap (h : Blk W g 5 [.int .u8 (c : Int)]) => of_any (cap := cap) (rdB_one hc h) (by decide))
  rw [ofL_one c hc] at HOf
  unfold setV at HOf
  have hd := H5'.out.drew.cells9 HS23.out.1 HS23.out.2
  have hba : ∀ Y : World, ∀ o : Obj, Below Y.heap.size Y (Y.alloc o) := fun Y o => (Below.refl _ _).alloc (Nat.le_refl _) o
  have hbf : ∀ Y : World, Blk (Y.alloc (.cells #[.int .u8 (c : Int)] 5)) Y.heap.size 5 [.int .u8 (c : Int)] := fun Y => heap_alloc_new Y _
  have hbad : ∀ Y : World, ∀ o : Obj, Below Y.heap.size Y (Y.alloc o).drew := fun Y o => ⟨rfl, rfl, rfl, (hba Y o).size, fun k hk => (hba Y o).block k hk⟩
  have hbfd : ∀ Y : World, Blk (Y.alloc (.cells #[.int .u8 (c : Int)] 5)).drew Y.heap.size 5 [.int .u8 (c : Int)] := fun Y => heap_alloc_new Y _
  have hq := fun W => run_neArr (bit c) (bit c) W
  rw [decide_eq_true rfl] at hq
  go_region_held3 (fun w' => w'.cell? ⟨D + 1, 0, none⟩ = some (.int .i64 0) ∧ w'.cell? ⟨D, 0, none⟩ = some (.int .i64 3) ∧ w'.cell? ⟨D, 5, none⟩ = some (.slice (some ⟨b2, o2, none⟩) 2 c2) ∧ w'.cell? ⟨b2, o2 + 6, none⟩ = some (.int .i64 3) ∧ w'.cell? ⟨b2, o2 + 9, none⟩ = some (.int .u64 ((wd (bit c) 0 : Nat) : Int)) ∧ w'.cell? ⟨b2, o2 + 10, none⟩ = some (.int .u64 ((wd (bit c) 1 : Nat) : Int)) ∧ w'.cell? ⟨b2, o2 + 11, none⟩ = some (.int .u64 ((wd (bit c) 2 : Nat) : Int)) ∧ w'.cell? ⟨b2, o2 + 12, none⟩ = some (.int .u64 ((wd (bit c) 3 : Nat) : Int)))
    (first | with_reducible exact hd | exact (H5'.out.step (hba _ _)).cells9 HS23.out.1 HS23.out.2 | exact (H5'.out.drew.step (hba _ _)).cells9 HS23.out.1 HS23.out.2 | assumption)
    (first
      | (go_at_call 14; with_reducible refine (HOf.out _ _ _ (by first | exact hbfd _ | exact hbf _)).mono ?_; rintro e w14 ⟨rfl, hb14⟩; have H6' := hid (show H5 w a c A B b o xc y0 y1 z0 z1 D b2 o2 c2 w14 from (by first | exact H5'.out.step ((hbad _ _).trans (hb14.mono (hba _ _).size)) | exact H5'.out.step ((hba _ _).trans (hb14.mono (hba _ _).size)) | exact H5'.out.drew.step ((hba _ _).trans (hb14.mono (hba _ _).size)))); clear hb14 H5' hd; have H5' := H6'; clear H6'; have hd := H5'.out.cells9 HS23.out.1 HS23.out.2))
  clear hd hq hba hbf hbad hbfd HOf
  have hor : a ||| ~~~a = ~~~(0#256) := by
    ext i hi
    simp
  have HOr := hid (fun W => or_any a (~~~a) W)
  rw [hor] at HOr
  have HAl := hid (fun W => all_any W)
  have hq := fun W => run_eqSet (~~~(0#256)) (~~~(0#256)) W
  rw [decide_eq_true rfl] at hq
  have hwg : wgT (tM a c) = 0 ∧ szT (tM a c) ≤ 512 := ⟨(pParse_fine HP2.out).1.wg, (pParse_fine HP2.out).2.1⟩
  have HCk := hid (fun W (h : H5 w a c A B b o xc y0 y1 z0 z1 D b2 o2 c2 W) => Check_any h.rep.here (fun b hb => hb) hwg.2)
  rw [hwg.1] at HCk
  clear hwg hor
  generalize ~~~(0#256) = al at HOr HAl hq
  unfold setV at HOr HAl hq
  unfold RV.val at HCk
  have hd := H5'.out.drew.cells11 HS01.out.1 HS01.out.2
  go_upto_region 11 with (fail)
  go_region_held3 (fun w' => w'.cell? ⟨A, 5, none⟩ = some (.slice (some ⟨b, o, none⟩) 2 xc) ∧ w'.cell? ⟨b, o + 1, none⟩ = some (.int .u64 ((wd a 0 : Nat) : Int)) ∧ w'.cell? ⟨b, o + 2, none⟩ = some (.int .u64 ((wd a 1 : Nat) : Int)) ∧ w'.cell? ⟨b, o + 3, none⟩ = some (.int .u64 ((wd a 2 : Nat) : Int)) ∧ w'.cell? ⟨b, o + 4, none⟩ = some (.int .u64 ((wd a 3 : Nat) : Int)) ∧ w'.cell? ⟨b, o + 9, none⟩ = some (.int .u64 ((wd (~~~a) 0 : Nat) : Int)) ∧ w'.cell? ⟨b, o + 10, none⟩ = some (.int .u64 ((wd (~~~a) 1 : Nat) : Int)) ∧ w'.cell? ⟨b, o + 11, none⟩ = some (.int .u64 ((wd (~~~a) 2 : Nat) : Int)) ∧ w'.cell? ⟨b, o + 12, none⟩ = some (.int .u64 ((wd (~~~a) 3 : Nat) : Int)) ∧ w'.cell? ⟨D, 0, none⟩ = some (.int .i64 3) ∧ w'.cell? ⟨D, 1, none⟩ = some (.int .u64 ((wd (0#256) 0 : Nat) : Int)) ∧ w'.cell? ⟨D, 2, none⟩ = some (.int .u64 ((wd (0#256) 1 : Nat) : Int)) ∧ w'.cell? ⟨D, 3, none⟩ = some (.int .u64 ((wd (0#256) 2 : Nat) : Int)) ∧ w'.cell? ⟨D, 4, none⟩ = some (.int .u64 ((wd (0#256) 3 : Nat) : Int)) ∧ w'.cell? ⟨D, 5, none⟩ = some (.slice (some ⟨b2, o2, none⟩) 2 c2) ∧ w'.cell? ⟨D, 6, none⟩ = some (.int .i64 0) ∧ w'.cell? ⟨D, 7, none⟩ = some (.int .i64 0))
    (first | with_reducible exact hd | assumption)
    (first
      | (go_at_call 21; with_reducible refine (HOr.out _).mono ?_; rintro e w15 ⟨rfl, hb15⟩; have H6' := hid (show H5 w a c A B b o xc y0 y1 z0 z1 D b2 o2 c2 w15 from (by first | exact H5'.out.step hb15 | exact H5'.out.drew.step hb15)); clear hb15 H5' hd; have H5' := H6'; clear H6'; have hd := H5'.out.cells11 HS01.out.1 HS01.out.2)
      | (go_at_call 20; with_reducible refine (HAl.out _).mono ?_; rintro e w16 ⟨rfl, hb16⟩; have H6' := hid (show H5 w a c A B b o xc y0 y1 z0 z1 D b2 o2 c2 w16 from (by first | exact H5'.out.step hb16 | exact H5'.out.drew.step hb16)); clear hb16 H5' hd; have H5' := H6'; clear H6'; have hd := H5'.out.cells11 HS01.out.1 HS01.out.2)
      | (go_at_call 9; with_reducible refine (HCk.out _ (by first | exact H5'.out | exact H5'.out.drew)).mono ?_; rintro e w17 ⟨rfl, hb17⟩; have H6' := hid (show H5 w a c A B b o xc y0 y1 z0 z1 D b2 o2 c2 w17 from (by first | exact H5'.out.step hb17 | exact H5'.out.drew.step hb17)); clear hb17 H5' hd; have H5' := H6'; clear H6'; have hd := H5'.out.cells11 HS01.out.1 HS01.out.2))
  go_wp2
  go_ret
  exact ⟨rfl, H5'.out.h.ho.bel⟩
end Go.Proofs.YtbpgfphilcjmdaaDoor
