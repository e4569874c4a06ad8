/- tree: the laws' texts. -/
import Derived.Test.YtdhipmdapodpkaaTrC
import Derived.Test.YtdhipmdapodpkaaTrE
import Derived.Test.YtdhipmdapodpkaaTrF
import Derived.Test.YtdhipmdapodpkaaTrI
import Derived.Test.YtdhipmdapodpkaaTrL
import Derived.Test.YtdhipmdapodpkaaTrV
import Derived.Test.YtdhipmdapodpkaaTrY
import Derived.Test.YtdhipmdapodpkaaTrZa
import Derived.Deep.CutRange
namespace Go.Proofs.Ytdhipmdapodpkaa
set_option linter.unusedSimpArgs false
set_option linter.unusedVariables false
open Go.RowKit

theorem rw_new {w : World} (T : TypeId) (xs : List Value) (n : Nat) : Rw (w.alloc (.cells xs.toArray T)) (fun _ => True) ⟨some ⟨w.heap.size, 0, none⟩, n, n⟩ xs := by
  have h := heap_alloc_new w (.cells xs.toArray T)
  have hk : Blk (w.alloc (.cells xs.toArray T)) w.heap.size T xs := h
  exact ⟨fun e => by (cases e), fun hx => ⟨w.heap.size, 0, rfl, hk.lt, trivial, fun j hj => by rw [Nat.zero_add, hk.at, List.getElem?_eq_getElem hj]⟩⟩
theorem Rep.any {w : World} {P : Nat → Prop} {v : TV} {t : TT} (h : Rep w P v t) : Rep w (fun _ => True) v t := h.mono (fun _ _ _ => rfl) (Nat.le_refl _) (fun _ _ _ => trivial)
theorem rep_leaf (w : World) (n : Nat) (b : Bool) (hn : n < 18446744073709551616) : Rep w (fun _ => True) ⟨n, b, SV.nil, SV.nil⟩ (.nd n b [] []) := .mk ⟨n, b, SV.nil, SV.nil⟩ [] [] [] hn rfl (Rw.nil _ _ _) rfl rfl (Rw.nil _ _ _) (fun j h1 _ => absurd h1 (by simp))
theorem rep_data {w : World} {lo hi : Nat} {D : SV} {l : List UInt8} (h : Mine w lo hi 5 D l.length (l.map isB)) : Rep w (fun _ => True) ⟨0, false, D, SV.nil⟩ (.nd 0 false l []) :=
  .mk ⟨0, false, D, SV.nil⟩ l [] [] (by show (0 : Nat) < _; decide) h.1 (h.rw_.mono (fun _ _ _ => rfl) (Nat.le_refl _) (fun _ _ _ => trivial)) rfl rfl (Rw.nil _ _ _) (fun j h1 _ => absurd h1 (by simp))
theorem repl_new {w : World} (ks : List TT) (vs : List TV) (hl : vs.length = ks.length) (hr : ∀ j (h1 : j < vs.length) (h2 : j < ks.length), Rep w (fun _ => True) vs[j] ks[j]) :
    RepL (w.alloc (.cells (flatV vs).toArray 26)) (fun _ => True) ⟨some ⟨w.heap.size, 0, none⟩, ks.length, ks.length⟩ ks vs :=
  ⟨rfl, hl, rw_new _ _ _, fun j h1 h2 => (hr j h1 h2).keep ((Below.refl _ _).alloc (Nat.le_refl _) _)⟩
/-- The law's tree. -/
def T0 : TT := .nd 0 false [] [.nd 5 false [] [], .nd 0 true [] [], .nd 0 false [] [.nd 0 false [97, 98] []]]
def T7 : TT := .nd 0 false [] [.nd 7 false [] [], .nd 0 true [] [], .nd 0 false [] [.nd 0 false [97, 98] []]]
theorem parse_T0 : pParse (⟨#[48, 40, 53, 44, 95, 48, 44, 48, 40, 48, 58, 54, 49, 54, 50, 41, 41]⟩ : ByteArray).data.toList = .ok T0 := by kernel_rfl
theorem below_then {W X Y : World} (h : Below W.heap.size W X) (h2 : Below X.heap.size X Y) : Below W.heap.size W Y := h.trans (h2.mono h.size)
theorem below_al {B : Nat} {W X : World} (h : Below B W X) (hB : B ≤ W.heap.size) (o : Obj) : Below B W (X.alloc o) := h.alloc (Nat.le_trans hB h.size) o
theorem below_d0 (W : World) : Below W.heap.size W W.drew := ⟨rfl, rfl, rfl, Nat.le_refl _, fun _ _ => rfl⟩
theorem cell_lt {W : World} {a : Addr} {v : Value} (h : W.cell? a = some v) : a.block < W.heap.size := by
  rcases Nat.lt_or_ge a.block W.heap.size with h1 | h1
  · exact h1
  · have : W.heap[a.block]? = none := Array.getElem?_eq_none h1
    simp [World.cell?, this] at h
theorem cell_bel {W X : World} {a : Addr} {v : Value} (hb : Below W.heap.size W X) (h : W.cell? a = some v) : X.cell? a = some v := by
  rw [World.cell?_of_block (w := W) (w' := X) (a := a) (hb.block _ (cell_lt h))]; exact h
theorem cell_al {W : World} {a : Addr} {v : Value} {o : Obj} (h : W.cell? a = some v) : (W.alloc o).cell? a = some v := cell_bel ((Below.refl _ _).alloc (Nat.le_refl _) o) h
theorem put_cell {W : World} {g : Nat} (h : g = W.heap.size) : (W.alloc (.cells #[.int .i64 0] 3)).cell? ⟨g, 0, none⟩ = some (.int .i64 0) := by
  rw [h]; exact Blk.at (show Blk (W.alloc (.cells #[.int .i64 0] 3)) W.heap.size 3 [.int .i64 0] from heap_alloc_new W _) 0
abbrev zcs : List Value := [.int .u64 0, .bool false, .slice none 0 0, .slice none 0 0]
theorem zb_new {W : World} {g : Nat} (h : g = W.heap.size) : Blk (W.alloc (.cells #[.int .u64 0, .bool false, .slice none 0 0, .slice none 0 0] 26)) g 26 zcs := by
  rw [h]; exact heap_alloc_new W _
theorem zb_al {W : World} {g : Nat} {o : Obj} (h : Blk W g 26 zcs) : Blk (W.alloc o) g 26 zcs := Blk.keep h ((Below.refl _ _).alloc (Nat.le_refl _) o)
theorem zb_bel {W X : World} {g : Nat} (hb : Below W.heap.size W X) (h : Blk W g 26 zcs) : Blk X g 26 zcs := Blk.keep h hb
theorem fwd {p q : Prop} (hp : p) (k : p → q) : q := k hp
theorem y_al {g : Nat} {v : TV} (W : World) (h : BoxT W g v) : (∀ o : Obj, (W.alloc o).cell? ⟨g, 0, none⟩ = some (.int .u64 (v.num : Int))) ∧ (∀ o : Obj, (W.alloc o).cell? ⟨g, 1, none⟩ = some (.bool v.bl)) ∧ (∀ o : Obj, (W.alloc o).cell? ⟨g, 2, none⟩ = some (.slice v.D.A v.D.n v.D.c)) ∧ (∀ o : Obj, (W.alloc o).cell? ⟨g, 3, none⟩ = some (.slice v.K.A v.K.n v.K.c)) :=
  ⟨fun o => cell_al h.four.1, fun o => cell_al h.four.2.1, fun o => cell_al h.four.2.2.1, fun o => cell_al h.four.2.2.2⟩
theorem y_al2 {g : Nat} {v : TV} (W : World) (h : BoxT W g v) : (∀ o o2 : Obj, ((W.alloc o).alloc o2).cell? ⟨g, 0, none⟩ = some (.int .u64 (v.num : Int))) ∧ (∀ o o2 : Obj, ((W.alloc o).alloc o2).cell? ⟨g, 1, none⟩ = some (.bool v.bl)) ∧ (∀ o o2 : Obj, ((W.alloc o).alloc o2).cell? ⟨g, 2, none⟩ = some (.slice v.D.A v.D.n v.D.c)) ∧ (∀ o o2 : Obj, ((W.alloc o).alloc o2).cell? ⟨g, 3, none⟩ = some (.slice v.K.A v.K.n v.K.c)) :=
  ⟨fun o _ => cell_al (cell_al h.four.1), fun o _ => cell_al (cell_al h.four.2.1), fun o _ => cell_al (cell_al h.four.2.2.1), fun o _ => cell_al (cell_al h.four.2.2.2)⟩
abbrev set4 (W : World) (g : Nat) (v : TV) : World := (((W.setCell ⟨g, 0, none⟩ (.int .u64 (v.num : Int))).setCell ⟨g, 1, none⟩ (.bool v.bl)).setCell ⟨g, 2, none⟩ (.slice v.D.A v.D.n v.D.c)).setCell ⟨g, 3, none⟩ (.slice v.K.A v.K.n v.K.c)
theorem set4_heap (W : World) (g : Nat) (v : TV) (k : Nat) (h : k ≠ g) : (set4 W g v).heap[k]? = W.heap[k]? := by
  have e : ∀ (X : World) (i : Nat) (u : Value), (X.setCell ⟨g, i, none⟩ u).heap[k]? = X.heap[k]? := fun X i u => Below.heap_setCell X ⟨g, i, none⟩ u k h
  rw [e, e, e, e]
theorem set4_size (W : World) (g : Nat) (v : TV) : (set4 W g v).heap.size = W.heap.size := by simp [set4, World.setCell]
structure Fin4 (W : World) (g : Nat) (v : TV) (t : TT) : Prop where
  zer : Blk W g 26 zcs
  box : BoxT (set4 W g v) g v
  rep : Rep (set4 W g v) (fun _ => True) v t
  bel : ∀ B X, Below B X W → B ≤ g → Below B X (set4 W g v)
theorem fin4 {Z W : World} {g : Nat} {v : TV} {t : TT} (hb : Below Z.heap.size Z W) (hr : Rep W (Z.heap.size ≤ ·) v t) (hk : Blk Z g 26 zcs) : Fin4 W g v t :=
  ⟨hk.keep hb, ((((hk.keep hb).put 0 _).put 1 _).put 2 _).put 3 _, hr.mono (fun c hc _ => set4_heap W g v c (fun e => by have h1 := hk.lt; have h2 : Z.heap.size ≤ c := hc; omega)) (by rw [set4_size]; exact Nat.le_refl _) (fun _ _ _ => trivial), fun B X h hB => (((h.setCell (p := ⟨g, 0, none⟩) hB _).setCell (p := ⟨g, 1, none⟩) hB _).setCell (p := ⟨g, 2, none⟩) hB _).setCell (p := ⟨g, 3, none⟩) hB _⟩
abbrev Cells4 (W : World) (g : Nat) (v : TV) : Prop := W.cell? ⟨g, 0, none⟩ = some (.int .u64 (v.num : Int)) ∧ W.cell? ⟨g, 1, none⟩ = some (.bool v.bl) ∧ W.cell? ⟨g, 2, none⟩ = some (.slice v.D.A v.D.n v.D.c) ∧ W.cell? ⟨g, 3, none⟩ = some (.slice v.K.A v.K.n v.K.c)
structure FactsW (W : World) (g1 g2 g4 g6 : Nat) (y z x u : TV) : Prop where
  c1 : Cells4 W g1 y
  c2 : Cells4 W g2 z
  c4 : Cells4 W g4 x
  c6 : Cells4 W g6 u
theorem len_small (n : Nat) (h : n < 10) : lenN n = 1 := by unfold lenN; rw [dif_pos h]
theorem text_T0 : textT T0 = [48, 40, 53, 44, 95, 48, 44, 48, 40, 48, 58, 54, 49, 54, 50, 41, 41] := by
  simp only [T0, textT, textS, decL, len_small 0 (by decide), len_small 5 (by decide)]
  decide
theorem text_T7 : textT T7 = [48, 40, 55, 44, 95, 48, 44, 48, 40, 48, 58, 54, 49, 54, 50, 41, 41] := by
  simp only [T7, textT, textS, decL, len_small 0 (by decide), len_small 7 (by decide)]
  decide
theorem at_T0 : atT T0 [2, 0] = some (.nd 0 false [97, 98] []) := by rfl
set_option maxRecDepth 100000 in
set_option maxHeartbeats 8000000 in
theorem texts_any (w : World) : Calls Try.prog 8 #[] w fun e w' => e = .returned (.bool true) ∧ Below w.heap.size w w' := by
  obtain ⟨RR, hRR⟩ : ∃ RR : Ending → World → Prop, RR = fun e w' => e = .returned (.bool true) ∧ Below w.heap.size w w' := ⟨_, rfl⟩
  rw [← hRR]
  have HRR := hid hRR
  clear hRR
  have HN5 := hid (show ∀ W, Calls Try.prog 22 #[.int .u64 5] W (fun e w' => e = .returned (.agg #[.int .u64 5, .bool false, .slice none 0 0, .slice none 0 0]) ∧ Below W.heap.size W w') from fun W => num_any 5 (by decide) W)
  have HN7 := hid (show ∀ W, Calls Try.prog 22 #[.int .u64 7] W (fun e w' => e = .returned (.agg #[.int .u64 7, .bool false, .slice none 0 0, .slice none 0 0]) ∧ Below W.heap.size W w') from fun W => num_any 7 (by decide) W)
  have HBk := hid (show ∀ W, Calls Try.prog 23 #[] W (fun e w' => e = .returned (.agg #[.int .u64 0, .bool true, .slice none 0 0, .slice none 0 0]) ∧ Below W.heap.size W w') from fun W => blank_any W)
  have HDa := hid (show ∀ W : World, Calls Try.prog 24 #[.slice (some ⟨W.heap.size, 0, none⟩) 2 2] (W.alloc (.cells #[.int .u8 97, .int .u8 98] 5)) (fun e w' => ∃ D : SV, e = .returned (.agg #[.int .u64 0, .bool false, .slice D.A D.n D.c, .slice none 0 0]) ∧ Rep w' (fun _ => True) ⟨0, false, D, SV.nil⟩ (.nd 0 false [97, 98] []) ∧ Below W.heap.size W w') from fun W => (data_any ⟨some ⟨W.heap.size, 0, none⟩, 2, 2⟩ [97, 98] _ (rw_new 5 ([97, 98].map isB) 2) rfl (show 2 ≤ 1048576 by decide)).mono fun e w' hh => by
    obtain ⟨D, h1, h2, h3⟩ := hh
    exact ⟨D, h1, rep_data h2, ((Below.refl _ _).alloc (Nat.le_refl _) _).trans (h3.mono (by simp))⟩)
  have HO1 := hid (show ∀ (W : World) (D : SV), Rep W (fun _ => True) ⟨0, false, D, SV.nil⟩ (.nd 0 false [97, 98] []) → Calls Try.prog 21 #[.slice (some ⟨W.heap.size, 0, none⟩) 1 1] (W.alloc (.cells #[.int .u64 0, .bool false, .slice D.A D.n D.c, .slice none 0 0] 26)) (fun e w' => ∃ x : TV, e = .returned (.agg #[.int .u64 (x.num : Int), .bool x.bl, .slice x.D.A x.D.n x.D.c, .slice x.K.A x.K.n x.K.c]) ∧ Rep w' (fun _ => True) x (.nd 0 false [] [.nd 0 false [97, 98] []]) ∧ Below W.heap.size W w') from fun W D hD => (of_any ⟨some ⟨W.heap.size, 0, none⟩, 1, 1⟩ [.nd 0 false [97, 98] []] [⟨0, false, D, SV.nil⟩] _ (repl_new [.nd 0 false [97, 98] []] [⟨0, false, D, SV.nil⟩] rfl (fun j h1 h2 => by
      obtain rfl : j = 0 := by simp at h1; omega
      exact hD)) (by decide)).mono fun e w' hh => by
    obtain ⟨x, h1, h2, h3⟩ := hh
    exact ⟨x, h1, h2.rep.any, ((Below.refl _ _).alloc (Nat.le_refl _) _).trans (h3.mono (by simp))⟩)
  have HO3 := hid (show ∀ (W : World) (x : TV), Rep W (fun _ => True) x (.nd 0 false [] [.nd 0 false [97, 98] []]) → Calls Try.prog 21 #[.slice (some ⟨W.heap.size, 0, none⟩) 3 3] (W.alloc (.cells #[.int .u64 5, .bool false, .slice none 0 0, .slice none 0 0, .int .u64 0, .bool true, .slice none 0 0, .slice none 0 0, .int .u64 (x.num : Int), .bool x.bl, .slice x.D.A x.D.n x.D.c, .slice x.K.A x.K.n x.K.c] 26)) (fun e w' => ∃ y : TV, e = .returned (.agg #[.int .u64 (y.num : Int), .bool y.bl, .slice y.D.A y.D.n y.D.c, .slice y.K.A y.K.n y.K.c]) ∧ Rep w' (fun _ => True) y T0 ∧ Below W.heap.size W w') from fun W x hx => (of_any ⟨some ⟨W.heap.size, 0, none⟩, 3, 3⟩ [.nd 5 false [] [], .nd 0 true [] [], .nd 0 false [] [.nd 0 false [97, 98] []]] [⟨5, false, SV.nil, SV.nil⟩, ⟨0, true, SV.nil, SV.nil⟩, x] _ (repl_new [.nd 5 false [] [], .nd 0 true [] [], .nd 0 false [] [.nd 0 false [97, 98] []]] [⟨5, false, SV.nil, SV.nil⟩, ⟨0, true, SV.nil, SV.nil⟩, x] rfl (fun j h1 h2 => by
      have : j = 0 ∨ j = 1 ∨ j = 2 := by simp at h1; omega
      rcases this with rfl | rfl | rfl
      · exact rep_leaf W 5 false (by decide)
      · exact rep_leaf W 0 true (by decide)
      · exact hx)) (by decide)).mono fun e w' hh => by
    obtain ⟨y, h1, h2, h3⟩ := hh
    exact ⟨y, h1, h2.rep.any, ((Below.refl _ _).alloc (Nat.le_refl _) _).trans (h3.mono (by simp))⟩)
  have HPa := hid (show ∀ W : World, Calls Try.prog 10 #[.string ⟨#[48, 40, 53, 44, 95, 48, 44, 48, 40, 48, 58, 54, 49, 54, 50, 41, 41]⟩] W (fun e w' => ∃ z : TV, e = .returned (.tuple #[.agg #[.int .u64 (z.num : Int), .bool z.bl, .slice z.D.A z.D.n z.D.c, .slice z.K.A z.K.n z.K.c], .int .i64 0]) ∧ Rep w' (fun _ => True) z T0 ∧ Below W.heap.size W w') from fun W => (parse_any ⟨#[48, 40, 53, 44, 95, 48, 44, 48, 40, 48, 58, 54, 49, 54, 50, 41, 41]⟩ (by decide) W).mono fun e w' hh => by
    obtain ⟨h1, h2⟩ := hh
    rcases h1 with ⟨t, x, hp, he, hr⟩ | ⟨c, _, hp, _⟩
    · rw [parse_T0] at hp
      simp only [Except.ok.injEq] at hp
      subst hp
      exact ⟨x, he, hr.any, h2⟩
    · rw [parse_T0] at hp
      cases hp)
  have HAt := hid (show ∀ (W : World) (v : TV), Rep W (fun _ => True) v T0 → Calls Try.prog 19 #[.agg #[.int .u64 (v.num : Int), .bool v.bl, .slice v.D.A v.D.n v.D.c, .slice v.K.A v.K.n v.K.c], .slice (some ⟨W.heap.size, 0, none⟩) 2 2] (W.alloc (.cells #[.int .i64 2, .int .i64 0] 3)) (fun e w' => ∃ x : TV, e = .returned (.tuple #[.agg #[.int .u64 (x.num : Int), .bool x.bl, .slice x.D.A x.D.n x.D.c, .slice x.K.A x.K.n x.K.c], .bool true]) ∧ Rep w' (fun _ => True) x (.nd 0 false [97, 98] []) ∧ Below W.heap.size W w') from fun W v hv => (at_any (P := (· < (W.alloc (.cells #[.int .i64 2, .int .i64 0] 3)).heap.size)) (Q := fun _ => True) (t := T0) (way := [2, 0]) (s := ⟨some ⟨W.heap.size, 0, none⟩, 2, 2⟩) ((hv.keep ((Below.refl _ _).alloc (Nat.le_refl _) _)).mono (fun _ _ _ => rfl) (Nat.le_refl _) (fun _ _ h => h)) (rw_new 3 (intC [2, 0]) 2) rfl (by decide) (by decide) (fun _ h => h)).mono fun e w' hh => by
    obtain ⟨h1, h2⟩ := hh
    rcases h1 with ⟨u, x, hp, he, hr⟩ | ⟨hp, _⟩
    · rw [at_T0] at hp
      simp only [Option.some.injEq] at hp
      subst hp
      exact ⟨x, he, hr.rep.any, ((Below.refl _ _).alloc (Nat.le_refl _) _).trans (h2.mono (by simp))⟩
    · rw [at_T0] at hp
      cases hp)
  go_enter Try.func8, Try.ntmps8
  go_upto_region 2 with (first
    | (go_at_call 22; (with_reducible refine (HN5.out _).mono ?_); rintro e w1 ⟨rfl, hb1⟩; have HB1 := hid hb1; clear hb1)
    | (go_at_call 23; (with_reducible refine (HBk.out _).mono ?_); rintro e w2 ⟨rfl, hb2⟩; have HB2 := hid (HB1.out.trans (hb2.mono HB1.out.size)); clear hb2)
    | (go_at_call 24; (with_reducible refine (HDa.out w2).mono ?_); rintro e w3 ⟨D, rfl, hD, hb3⟩; have HD := hid hD; have HB3 := hid (HB2.out.trans (hb3.mono HB2.out.size)); clear hb3 hD)
    | (go_at_call 21; (with_reducible refine (HO1.out w3 D HD.out).mono ?_); rintro e w4 ⟨x, rfl, hx, hb4⟩; have HX := hid hx; have HB4 := hid (HB3.out.trans (hb4.mono HB3.out.size)); clear hb4 hx)
    | (go_at_call 21; (with_reducible refine (HO3.out w4 x HX.out).mono ?_); rintro e w5 ⟨y, rfl, hy, hb5⟩; have HY := hid hy; have HB5 := hid (HB4.out.trans (hb5.mono HB4.out.size)); clear hb5 hy))
  have hbx := box_new w5 y
  change Code.wp _ _ _ _ (w5.alloc (.cells y.cells.toArray 26))
  generalize w5.alloc (.cells y.cells.toArray 26) = W6 at *
  obtain ⟨g1, hg1⟩ : ∃ g, g = w5.heap.size := ⟨_, rfl⟩
  rw [← hg1] at hbx ⊢
  have HK1 := hid (show BoxT W6 g1 y from hbx.2)
  have hbb := hbx.1
  rw [hg1] at hbb
  have HYa := hid (HY.out.keep hbb)
  have HBa := hid (HB5.out.trans (hbb.mono HB5.out.size))
  clear hbx hbb hg1 HB1 HB2 HB3 HB4 HB5 HD HX HY HN5 HBk HDa HO1 HO3
  go_upto_region 3 with (go_at_call 10; (with_reducible refine (HPa.out W6).mono ?_); rintro e w7 ⟨z, rfl, hz, hb7⟩; have HZ := hid hz; have HB7 := hid hb7; clear hz hb7)
  have hbx := box_new w7 z
  change Code.wp _ _ _ _ (w7.alloc (.cells z.cells.toArray 26))
  generalize w7.alloc (.cells z.cells.toArray 26) = W8 at *
  obtain ⟨g2, hg2⟩ : ∃ g, g = w7.heap.size := ⟨_, rfl⟩
  rw [← hg2] at hbx ⊢
  have HK2 := hid (show BoxT W8 g2 z from hbx.2)
  have hbb := hbx.1
  rw [hg2] at hbb
  have HK1b := hid (show BoxT W8 g1 y from (HK1.out.keep HB7.out).keep hbb)
  have HYb := hid ((HYa.out.keep HB7.out).keep hbb)
  have HZb := hid (HZ.out.keep hbb)
  have HBb := hid ((HBa.out.trans (HB7.out.mono HBa.out.size)).trans (hbb.mono (HBa.out.trans (HB7.out.mono HBa.out.size)).size))
  clear hbx hbb hg2 HK1 HYa HZ HBa HB7 HPa
  obtain ⟨y0, y1, y2, y3⟩ := HK1b.out.four
  go_upto_region 4 with (go_at_call 19; (with_reducible refine (HAt.out W8 y HYb.out).mono ?_); rintro e w9 ⟨x, rfl, hx, hb9⟩; have HX := hid hx; have HB9 := hid hb9; clear hx hb9 y0 y1 y2 y3)
  have hbx := box_new w9 x
  change Code.wp _ _ _ _ (w9.alloc (.cells x.cells.toArray 26))
  generalize w9.alloc (.cells x.cells.toArray 26) = W10 at *
  obtain ⟨g4, hg4⟩ : ∃ g, g = w9.heap.size := ⟨_, rfl⟩
  rw [← hg4] at hbx ⊢
  have HK4 := hid (show BoxT W10 g4 x from hbx.2)
  have hbb := hbx.1
  rw [hg4] at hbb
  have HK1c := hid (show BoxT W10 g1 y from (HK1b.out.keep HB9.out).keep hbb)
  have HK2c := hid (show BoxT W10 g2 z from (HK2.out.keep HB9.out).keep hbb)
  have HYc := hid ((HYb.out.keep HB9.out).keep hbb)
  have HZc := hid ((HZb.out.keep HB9.out).keep hbb)
  have HXc := hid (HX.out.keep hbb)
  have HBc := hid ((HBb.out.trans (HB9.out.mono HBb.out.size)).trans (hbb.mono (HBb.out.trans (HB9.out.mono HBb.out.size)).size))
  clear hbx hbb hg4 HK1b HK2 HYb HZb HX HBb HB9 HAt
  have HPt := hid (show ∀ (W : World) (gs : Nat), Rep W (fun _ => True) y T0 → W.cell? ⟨gs, 0, none⟩ = some (.int .i64 0) → Calls Try.prog 20 #[.agg #[.int .u64 (y.num : Int), .bool y.bl, .slice y.D.A y.D.n y.D.c, .slice y.K.A y.K.n y.K.c], .agg #[.int .u64 7, .bool false, .slice none 0 0, .slice none 0 0], .slice (some ⟨gs, 0, none⟩) 1 1] W (fun e w' => ∃ u : TV, e = .returned (.tuple #[.agg #[.int .u64 (u.num : Int), .bool u.bl, .slice u.D.A u.D.n u.D.c, .slice u.K.A u.K.n u.K.c], .bool true]) ∧ Rep w' (W.heap.size ≤ ·) u T7 ∧ Below W.heap.size W w') from fun W gs hy hc => (put_any (P := (· < W.heap.size)) (Q := (· < W.heap.size)) (v := y) (y := ⟨7, false, SV.nil, SV.nil⟩) (t := T0) (u0 := .nd 7 false [] []) (way := [0]) (s := ⟨some ⟨gs, 0, none⟩, 1, 1⟩) (hy.mono (fun _ _ _ => rfl) (Nat.le_refl _) (fun _ _ h => h)) ((rep_leaf W 7 false (by decide)).mono (fun _ _ _ => rfl) (Nat.le_refl _) (fun _ _ h => h)) ⟨fun e => by (cases e), fun _ => ⟨gs, 0, rfl, cell_lt hc, cell_lt hc, fun j hj => by
      obtain rfl : j = 0 := by simp [intC] at hj; omega
      rw [Nat.zero_add, hc]; rfl⟩⟩ rfl (by decide) (by decide) (by decide) (fun _ h => h) (fun _ h => h)).mono fun e w' hh => by
    obtain ⟨h1, h2⟩ := hh
    rcases h1 with ⟨k, x, hp, he, hr⟩ | ⟨hp, _⟩
    · exact ⟨x, he, hr, h2⟩
    · rw [show atT T0 [0] = some (.nd 5 false [] []) from rfl] at hp
      cases hp)
  obtain ⟨y0, y1, y2, y3⟩ := HK1c.out.four
  go_cut [6, 7] from 26 to 32 (fun s6 s7 wx => ∃ (g6 : Nat) (u : TV), s6 = .pointer (some ⟨g6, 0, none⟩) ∧ s7 = .bool true ∧ Hid (BoxT wx g6 u) ∧ Hid (Rep wx (fun _ => True) u T7) ∧ Hid (Below W10.heap.size W10 wx))
  case first =>
    have b0 := below_d0 W10
    have bz : W10.heap.size ≤ W10.heap.size := Nat.le_refl _
    have hg1 : g1 < W10.heap.size := HK1c.out.lt
    have yaa := y_al W10.drew (HK1c.out.keep b0)
    have ybb := y_al2 W10.drew (HK1c.out.keep b0)
    obtain ⟨p0, p1, p2, p3⟩ := yaa
    obtain ⟨q0, q1, q2, q3⟩ := ybb
    go_region_with (first
      | (go_at_call 22; (with_reducible refine (HN7.out _).mono ?_); rintro e w11 ⟨rfl, hb11⟩; have HBx := hid hb11; have HB11 := hid (show Below W10.heap.size W10 w11 from below_then (by first | exact b0 | exact below_al b0 bz _ | exact below_al (below_al b0 bz _) bz _) hb11); have HK11 := hid (show BoxT w11 g1 y from HK1c.out.keep HB11.out); clear hb11 y0 y1 y2 y3 p0 p1 p2 p3 q0 q1 q2 q3; obtain ⟨y0, y1, y2, y3⟩ := HK11.out.four; obtain ⟨p0, p1, p2, p3⟩ := y_al w11 HK11.out; obtain ⟨q0, q1, q2, q3⟩ := y_al2 w11 HK11.out)
      | (go_at_call 20; (with_reducible refine (HPt.out _ _ ?_ ?_).mono ?_); exact HYc.out.keep (by first | exact HB11.out | exact below_al HB11.out bz _ | exact below_al (below_al HB11.out bz _) bz _); (repeat first | (refine put_cell ?_; solve | simp | rfl) | refine cell_al ?_ | refine cell_bel HBx.out ?_); rintro e w12 ⟨u, rfl, hu, hb12⟩; have HU := hid hu; have HBz := hid hb12; have HBq := hid (show Below W10.heap.size W10 w12 from below_then (by first | exact HB11.out | exact below_al HB11.out bz _ | exact below_al (below_al HB11.out bz _) bz _) hb12); clear hu hb12; (try (refine fwd (p := Fin4 w12 (w11.heap.size) u T7) ?_ ?_; refine fin4 HBz.out HU.out ?_; (repeat first | (refine zb_new ?_; solve | simp | rfl) | refine zb_al ?_ | refine zb_bel HBx.out ?_); intro hfn; have HFn := hid hfn; have hkb := hfn.zer; clear hfn; have k0 := Blk.at hkb 0; have k1 := Blk.at hkb 1; have k2 := Blk.at hkb 2; have k3 := Blk.at hkb 3; have f0 := Blk.free hkb 0; have f1 := Blk.free hkb 1; have f2 := Blk.free hkb 2; have f3 := Blk.free hkb 3; simp only [List.getElem?_cons_zero, List.getElem?_cons_succ] at k0 k1 k2 k3; clear hkb)); (try (refine fwd (p := Fin4 w12 (w11.heap.size + 1) u T7) ?_ ?_; refine fin4 HBz.out HU.out ?_; (repeat first | (refine zb_new ?_; solve | simp | rfl) | refine zb_al ?_ | refine zb_bel HBx.out ?_); intro hfn; have HFn := hid hfn; have hkb := hfn.zer; clear hfn; have k0 := Blk.at hkb 0; have k1 := Blk.at hkb 1; have k2 := Blk.at hkb 2; have k3 := Blk.at hkb 3; have f0 := Blk.free hkb 0; have f1 := Blk.free hkb 1; have f2 := Blk.free hkb 2; have f3 := Blk.free hkb 3; simp only [List.getElem?_cons_zero, List.getElem?_cons_succ] at k0 k1 k2 k3; clear hkb)); (try (refine fwd (p := Fin4 w12 (W10.heap.size) u T7) ?_ ?_; refine fin4 HBz.out HU.out ?_; (repeat first | (refine zb_new ?_; solve | simp | rfl) | refine zb_al ?_ | refine zb_bel HBx.out ?_); intro hfn; have HFn := hid hfn; have hkb := hfn.zer; clear hfn; have k0 := Blk.at hkb 0; have k1 := Blk.at hkb 1; have k2 := Blk.at hkb 2; have k3 := Blk.at hkb 3; have f0 := Blk.free hkb 0; have f1 := Blk.free hkb 1; have f2 := Blk.free hkb 2; have f3 := Blk.free hkb 3; simp only [List.getElem?_cons_zero, List.getElem?_cons_succ] at k0 k1 k2 k3; clear hkb)); (try (refine fwd (p := Fin4 w12 (W10.heap.size + 1) u T7) ?_ ?_; refine fin4 HBz.out HU.out ?_; (repeat first | (refine zb_new ?_; solve | simp | rfl) | refine zb_al ?_ | refine zb_bel HBx.out ?_); intro hfn; have HFn := hid hfn; have hkb := hfn.zer; clear hfn; have k0 := Blk.at hkb 0; have k1 := Blk.at hkb 1; have k2 := Blk.at hkb 2; have k3 := Blk.at hkb 3; have f0 := Blk.free hkb 0; have f1 := Blk.free hkb 1; have f2 := Blk.free hkb 2; have f3 := Blk.free hkb 3; simp only [List.getElem?_cons_zero, List.getElem?_cons_succ] at k0 k1 k2 k3; clear hkb))))
    all_goals
      go_wp2_with fail
      go_meet
      first
        | exact ⟨_, u, rfl, rfl, hid HFn.out.box, hid HFn.out.rep, hid (HFn.out.bel _ _ HBq.out (by have := HB11.out.size; omega))⟩
        | exact ⟨w12.heap.size, u, rfl, rfl, hid (heap_alloc_new w12 _), hid (HU.out.any.keep ((Below.refl _ _).alloc (Nat.le_refl _) _)), hid (below_al HBq.out bz _)⟩
  case rest =>
    obtain ⟨g6, u, rfl, rfl, HK6, HUc, HB6⟩ := hcut
    have HK1 := hid (show BoxT wc g1 y from HK1c.out.keep HB6.out)
    have HK2 := hid (show BoxT wc g2 z from HK2c.out.keep HB6.out)
    have HK4' := hid (show BoxT wc g4 x from HK4.out.keep HB6.out)
    have HYd := hid (HYc.out.keep HB6.out)
    have HZd := hid (HZc.out.keep HB6.out)
    have HXd := hid (HXc.out.keep HB6.out)
    have HBd := hid (below_then HBc.out HB6.out)
    have HT1 := hid (show ∀ W : World, Below wc.heap.size wc W → Calls Try.prog 11 #[.agg #[.int .u64 (y.num : Int), .bool y.bl, .slice y.D.A y.D.n y.D.c, .slice y.K.A y.K.n y.K.c]] W (fun e w' => e = .returned (.string ⟨#[48, 40, 53, 44, 95, 48, 44, 48, 40, 48, 58, 54, 49, 54, 50, 41, 41]⟩) ∧ Below W.heap.size W w') from fun W hW => by have h := text_any (HYd.out.keep hW) (show wT T0 ≤ 1048576 by decide); rw [text_T0] at h; exact h)
    have HT6 := hid (show ∀ W : World, Below wc.heap.size wc W → Calls Try.prog 11 #[.agg #[.int .u64 (u.num : Int), .bool u.bl, .slice u.D.A u.D.n u.D.c, .slice u.K.A u.K.n u.K.c]] W (fun e w' => e = .returned (.string ⟨#[48, 40, 55, 44, 95, 48, 44, 48, 40, 48, 58, 54, 49, 54, 50, 41, 41]⟩) ∧ Below W.heap.size W w') from fun W hW => by have h := text_any (HUc.out.keep hW) (show wT T7 ≤ 1048576 by decide); rw [text_T7] at h; exact h)
    have HSz := hid (show ∀ W : World, Below wc.heap.size wc W → Calls Try.prog 12 #[.agg #[.int .u64 (z.num : Int), .bool z.bl, .slice z.D.A z.D.n z.D.c, .slice z.K.A z.K.n z.K.c], .agg #[.int .u64 (y.num : Int), .bool y.bl, .slice y.D.A y.D.n y.D.c, .slice y.K.A y.K.n y.K.c]] W (fun e w' => e = .returned (.bool true) ∧ Below W.heap.size W w') from fun W hW => same_any T0 T0 z y W _ _ (HZd.out.keep hW) (HYd.out.keep hW) (by decide) (by decide))
    have HSu := hid (show ∀ W : World, Below wc.heap.size wc W → Calls Try.prog 12 #[.agg #[.int .u64 (y.num : Int), .bool y.bl, .slice y.D.A y.D.n y.D.c, .slice y.K.A y.K.n y.K.c], .agg #[.int .u64 (u.num : Int), .bool u.bl, .slice u.D.A u.D.n u.D.c, .slice u.K.A u.K.n u.K.c]] W (fun e w' => e = .returned (.bool false) ∧ Below W.heap.size W w') from fun W hW => same_any T0 T7 y u W _ _ (HYd.out.keep hW) (HUc.out.keep hW) (by decide) (by decide))
    have HPt := hid (show ∀ W : World, Below wc.heap.size wc W → Calls Try.prog 16 #[.agg #[.int .u64 (y.num : Int), .bool y.bl, .slice y.D.A y.D.n y.D.c, .slice y.K.A y.K.n y.K.c]] W (fun e w' => e = .returned (.int .i64 5) ∧ Below W.heap.size W w') from fun W hW => parts_any T0 y W _ (HYd.out.keep hW) (by decide))
    have HDp := hid (show ∀ W : World, Below wc.heap.size wc W → Calls Try.prog 13 #[.agg #[.int .u64 (y.num : Int), .bool y.bl, .slice y.D.A y.D.n y.D.c, .slice y.K.A y.K.n y.K.c]] W (fun e w' => e = .returned (.int .i64 3) ∧ Below W.heap.size W w') from fun W hW => depth_any T0 y W _ (HYd.out.keep hW) (by decide))
    have HCl := hid (show ∀ W : World, Below wc.heap.size wc W → Calls Try.prog 18 #[.agg #[.int .u64 (y.num : Int), .bool y.bl, .slice y.D.A y.D.n y.D.c, .slice y.K.A y.K.n y.K.c]] W (fun e w' => ∃ c : TV, e = .returned (.agg #[.int .u64 (c.num : Int), .bool c.bl, .slice c.D.A c.D.n c.D.c, .slice c.K.A c.K.n c.K.c]) ∧ Rep w' (fun _ => True) c T0 ∧ Below W.heap.size W w') from fun W hW => (clone_any T0 y W _ (HYd.out.keep hW) (by decide)).mono fun e w' hh => by
      obtain ⟨c, h1, h2, h3⟩ := hh
      exact ⟨c, h1, h2.rep.any, h3⟩)
    have HSc := hid (show ∀ (W : World) (c : TV), Below wc.heap.size wc W → Rep W (fun _ => True) c T0 → Calls Try.prog 12 #[.agg #[.int .u64 (y.num : Int), .bool y.bl, .slice y.D.A y.D.n y.D.c, .slice y.K.A y.K.n y.K.c], .agg #[.int .u64 (c.num : Int), .bool c.bl, .slice c.D.A c.D.n c.D.c, .slice c.K.A c.K.n c.K.c]] W (fun e w' => e = .returned (.bool true) ∧ Below W.heap.size W w') from fun W c hW hc => same_any T0 T0 y c W _ _ (HYd.out.keep hW) hc (by decide) (by decide))
    have HF := hid (show ∀ W : World, Below wc.heap.size wc W → FactsW W g1 g2 g4 g6 y z x u from fun W hW => ⟨BoxT.four (Blk.keep HK1.out hW), BoxT.four (Blk.keep HK2.out hW), BoxT.four (Blk.keep HK4'.out hW), BoxT.four (Blk.keep HK6.out hW)⟩)
    have HR := hid (show ∀ W : World, Below wc.heap.size wc W → RdB W x.D.A x.D.n [97, 98] from fun W hW => by
      obtain ⟨_, _, _, hn, hD, _⟩ := (HXd.out.keep hW).inv
      exact hD.rdb hn)
    have b0 := below_d0 wc
    go_upto_region 5 with (fail)
    refine tz5_reg (g1 := g1) (g2 := g2) (g4 := g4) (g6 := g6) (y := y) (z := z) (x := x) (u := u) (Sc := fun v W => ∃ c : TV, v = .agg c.cells.toArray ∧ Rep W (fun _ => True) c T0)
      rfl rfl rfl rfl rfl rfl rfl (by simp) ?_ HK1.out HK2.out HK4'.out HK6.out HR.out ?_ ?_ ?_ ?_ ?_ ?_ ?_ ?_ ?_
    · rintro v W W' ⟨c, h1, h2⟩ hb
      exact ⟨c, h1, h2.keep hb⟩
    · exact fun W hW => (HT1.out W hW).mono fun e w' hh => ⟨_, hh.1, rfl, hh.2⟩
    · exact fun W hW => (HT6.out W hW).mono fun e w' hh => ⟨_, hh.1, rfl, hh.2⟩
    · exact fun W hW => (HSz.out W hW).mono fun e w' hh => ⟨_, hh.1, rfl, hh.2⟩
    · exact fun W hW => (HSu.out W hW).mono fun e w' hh => ⟨_, hh.1, rfl, hh.2⟩
    · exact fun W hW => (HPt.out W hW).mono fun e w' hh => ⟨_, hh.1, rfl, hh.2⟩
    · exact fun W hW => (HDp.out W hW).mono fun e w' hh => ⟨_, hh.1, rfl, hh.2⟩
    · exact fun W hW => (HCl.out W hW).mono fun e w' hh => by
        obtain ⟨c, h1, h2, h3⟩ := hh
        exact ⟨_, h1, ⟨c, rfl, h2⟩, h3⟩
    · rintro v W ⟨c, rfl, hc⟩ hW
      exact (HSc.out W c hW hc).mono fun e w' hh => ⟨_, hh.1, rfl, hh.2⟩
    · intro f w' h0 hb
      simp only [tz5Us, List.foldl_cons, List.foldl_nil, List.setIfInBounds_toArray, List.set_cons_zero, List.set_cons_succ]
      rw [h0]
      have HE := hid (below_then HBd.out hb)
      clear hb
      go_wp2_with fail
      show RR (.returned (.bool true)) w'
      rw [HRR.out]
      exact ⟨rfl, HE.out⟩
end Go.Proofs.Ytdhipmdapodpkaa
