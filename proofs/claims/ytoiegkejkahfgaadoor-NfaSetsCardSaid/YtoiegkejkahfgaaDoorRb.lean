/- regex: what stands in brackets. -/
import Derived.Test.YtoiegkejkahfgaaDoorRc
import Derived.Test.YtoiegkejkahfgaaDoorCls2
import Derived.Deep.RegionWith
import Derived.Deep.LoopGhost
import Derived.Outline
set_option linter.unusedVariables false
set_option linter.unusedSimpArgs false
namespace Go.Proofs.YtoiegkejkahfgaaDoor
open Go.RowKit

theorem zero_set : (#[.int .u64 0, .int .u64 0, .int .u64 0, .int .u64 0] : Array Value) = (setL (0#256)).toArray := by simp [setL, four, u64V, wd_zero]
/-- What stands while a set is read. -/
structure BrSt (w W : World) (g : Nat) (s : ByteArray) (j nd R B : Nat) (a : BS) : Prop where
  gr : w.grownBy W (some g)
  rd : ∃ c p, Rd W g s j nd c p
  set : Blk W B 43 (setL a)
  res : Blk W R 43 (setL (0#256))
theorem BrSt.step {w W W' : World} {g : Nat} {s : ByteArray} {j j' nd R B : Nat} {a : BS} (h : BrSt w W g s j nd R B a) (hg : W.grownBy W' (some g)) (hr : ∃ c p, Rd W' g s j' nd c p) (h1 : g ≠ R) (h2 : g ≠ B) : BrSt w W' g s j' nd R B a :=
  ⟨grown_trans h.gr hg, hr, (hg.block B h.set.lt (by intro e; injection e with e; omega)).trans h.set, (hg.block R h.res.lt (by intro e; injection e with e; omega)).trans h.res⟩
theorem BrSt.step' {w W W' : World} {g : Nat} {s : ByteArray} {j j' nd nd' R B : Nat} {a : BS} (h : BrSt w W g s j nd R B a) (hg : W.grownBy W' (some g)) (hr : ∃ c p, Rd W' g s j' nd' c p) (h1 : g ≠ R) (h2 : g ≠ B) : BrSt w W' g s j' nd' R B a :=
  ⟨grown_trans h.gr hg, hr, (hg.block B h.set.lt (by intro e; injection e with e; omega)).trans h.set, (hg.block R h.res.lt (by intro e; injection e with e; omega)).trans h.res⟩
theorem pBrL_succ {l : List UInt8} {b m j : Nat} {a : BS} (h : nx l j ≠ 93) : pBrL l b (m + 1) a j = (match pRun l j with
    | .error e => .error e
    | .ok ((f, t), k) => if t < f then .error (1, b) else pBrL l b m (a ||| rng f t) k) := by
  rw [pBrL, if_neg h]
  rfl
theorem BrSt.put {w W : World} {g : Nat} {s : ByteArray} {j nd R B : Nat} {a : BS} (h : BrSt w W g s j nd R B a) (h1 : g ≠ B) (h2 : R ≠ B) (hB : w.heap.size ≤ B) (b : BS) : BrSt w (W.setRow B (setL b).toArray) g s j nd R B b := by
  obtain ⟨c, p, hr⟩ := h.rd
  exact ⟨grown_row h.gr hB _, ⟨c, p, (setRow_other W B g _ (by omega)).trans hr⟩, blk_row h.set _, (setRow_other W B R _ (by omega)).trans h.res⟩
theorem BrSt.below {w W W' : World} {g : Nat} {s : ByteArray} {j nd R B : Nat} {a : BS} (h : BrSt w W g s j nd R B a) (hb : Below W.heap.size W W') : BrSt w W' g s j nd R B a := by
  obtain ⟨c, p, hr⟩ := h.rd
  exact ⟨below_of_new h.gr hb, ⟨c, p, hr.keep hb⟩, h.set.keep hb, h.res.keep hb⟩
theorem BrSt.belowD {w W W' : World} {g : Nat} {s : ByteArray} {j nd R B : Nat} {a : BS} (h : BrSt w W g s j nd R B a) (hb : Below W.drew.heap.size W.drew W') : BrSt w W' g s j nd R B a := h.below ⟨hb.os, hb.tape, hb.output, hb.size, hb.block⟩
theorem BrSt.put4 {w W : World} {g : Nat} {s : ByteArray} {j nd R B : Nat} {a : BS} (h : BrSt w W g s j nd R B a) (h1 : g ≠ B) (h2 : R ≠ B) (hB : w.heap.size ≤ B) (b : BS) :
    BrSt w ((((W.setCell ⟨B, 0, none⟩ (.int .u64 ((wd b 0 : Nat) : Int))).setCell ⟨B, 1, none⟩ (.int .u64 ((wd b 1 : Nat) : Int))).setCell ⟨B, 2, none⟩ (.int .u64 ((wd b 2 : Nat) : Int))).setCell ⟨B, 3, none⟩ (.int .u64 ((wd b 3 : Nat) : Int))) g s j nd R B b := by
  obtain ⟨c, p, hr⟩ := h.rd
  have gset : ∀ (X : World) (o : Nat) (u : Value), w.grownBy X (some g) → w.grownBy (X.setCell ⟨B, o, none⟩ u) (some g) := fun X o u hx =>
    ⟨hx.os, hx.tape, hx.output, by have := hx.size; simpa [World.setCell] using this, fun k hk hn => (Below.heap_setCell X ⟨B, o, none⟩ u k (by show k ≠ B; omega)).trans (hx.block k hk hn)⟩
  refine ⟨gset _ _ _ (gset _ _ _ (gset _ _ _ (gset _ _ _ h.gr))), ⟨c, p, ?_⟩, ?_, ?_⟩
  · exact Blk.other (Blk.other (Blk.other (Blk.other hr (p := ⟨B, 0, none⟩) h1 _) (p := ⟨B, 1, none⟩) h1 _) (p := ⟨B, 2, none⟩) h1 _) (p := ⟨B, 3, none⟩) h1 _
  · exact (((h.set.put 0 _).put 1 _).put 2 _).put 3 _
  · exact Blk.other (Blk.other (Blk.other (Blk.other h.res (p := ⟨B, 0, none⟩) h2 _) (p := ⟨B, 1, none⟩) h2 _) (p := ⟨B, 2, none⟩) h2 _) (p := ⟨B, 3, none⟩) h2 _

set_option maxRecDepth 100000 in
set_option maxHeartbeats 4000000 in
theorem br_any {w : World} {g : Nat} {s : ByteArray} {i nd : Nat} {c p : Int} (h : Rd w g s i nd c p) (hi : nx s.data.toList i = 91) (hs : s.size ≤ 512) :
    Calls Tryd.prog 81 #[.pointer (some ⟨g, 0, none⟩)] w (Post (pBr s.data.toList i) setV (fun v => ∃ x, v = setV x) w g s nd) := by
  have hil : i < s.size := nx_lt (l := s.data.toList) (by omega)
  have hgw := Blk.lt h
  have hA : Below w.heap.size w (w.alloc (.cells (setL (0#256)).toArray 43)) := (Below.refl _ _).alloc (Nat.le_refl _) _
  have HRes := hid (Blk.fresh w 43 (setL (0#256)))
  have hr1 := h.keep hA
  have HG1 := hid (grown_of_below hA (some g))
  clear hA h
  obtain ⟨o, st, HTu, HO, hst⟩ : ∃ (o : Bool) (st : Nat), Hid (∀ (W : World) (c p : Int), Rd W g s (i + 1) nd c p → Calls Tryd.prog 47 #[.pointer (some ⟨g, 0, none⟩), .int .u8 94] W fun e w' => e = .returned (.bool o) ∧ Rd w' g s st nd c p ∧ W.grownBy w' (some g)) ∧
      Hid (pBr s.data.toList i = match pBrL s.data.toList i (s.data.toList.length + 1) (0#256) st with
        | .error e => .error e
        | .ok (a, j) => if (if o = true then ~~~a else a) = 0#256 then .error (160, i) else .ok (if o = true then ~~~a else a, j)) ∧ st ≤ s.size := by
    have HPB : pBr s.data.toList i = match pBrL s.data.toList i (s.data.toList.length + 1) (0#256) (if nx s.data.toList (i + 1) = 94 then i + 2 else i + 1) with
      | .error e => .error e
      | .ok (a, j) => if (if nx s.data.toList (i + 1) = 94 then ~~~a else a) = 0#256 then .error (160, i) else .ok (if nx s.data.toList (i + 1) = 94 then ~~~a else a, j) := rfl
    by_cases h94 : nx s.data.toList (i + 1) = 94
    · have h2 := nx_lt (l := s.data.toList) (i := i + 1) (by omega)
      refine ⟨true, i + 1 + 1, hid fun W c p h => took_yes h (by omega) hs 94 h94, hid ?_, h2⟩
      rw [HPB]
      simp only [if_pos h94, if_true]
    · refine ⟨false, i + 1, hid fun W c p h => took_no h (by omega) hs 94 h94, hid ?_, by omega⟩
      rw [HPB]
      simp only [if_neg h94]
      rfl
  obtain ⟨res, hres⟩ : ∃ res, res = pBrL s.data.toList i (s.data.toList.length + 1) (0#256) st := ⟨_, rfl⟩
  rw [← hres] at HO
  have HRS := hid hres.symm
  clear hres
  generalize pBr s.data.toList i = R at *
  go_enter Tryd.func81, Tryd.ntmps81
  go_upto_region 1 with (fail)
  rw [zero_set]
  have hs1 : (w.alloc (.cells (setL (0#256)).toArray 43)).heap.size = w.heap.size + 1 := by simp
  generalize w.alloc (.cells (setL (0#256)).toArray 43) = w1 at *
  obtain ⟨k0, k1, k2, k3, k4, f1, f2, f3, f4⟩ := hr1.cells
  have HS := hid (show Rd (w1.setCell ⟨g, 1, none⟩ (.int .i64 ((i : Int) + 1))) g s (i + 1) nd c p by simpa [Rd] using Blk.put hr1 1 (.int .i64 ((i : Int) + 1)))
  have HGs := hid (grown_set1 w1 g 1 (.int .i64 ((i : Int) + 1)))
  have hi2 : i ≤ 512 := by omega
  clear hr1
  go_wp2_with fail
  refine (HTu.out _ c p HS.out).mono ?_
  rintro e w2 ⟨rfl, hr2, hg2⟩
  have hrk : w2.heap[w.heap.size]? = some (.cells (setL (0#256)).toArray 43) := (hg2.block w.heap.size (by simp; omega) (by intro e; injection e with e; omega)).trans ((HGs.out.block w.heap.size (by omega) (by intro e; injection e with e; omega)).trans HRes.out)
  have hg12 := grown_trans HG1.out (grown_trans HGs.out hg2)
  have hb3 : Below w2.heap.size w2 (w2.alloc (.cells (setL (0#256)).toArray 43)) := (Below.refl _ _).alloc (Nat.le_refl _) _
  have hsz2 : w1.heap.size ≤ w2.heap.size := by have := hg2.size; simpa using this
  have HB : Hid (BrSt w (w2.alloc (.cells (setL (0#256)).toArray 43)) g s st nd w.heap.size w2.heap.size (0#256)) := hid ⟨below_of_new hg12 hb3, ⟨c, p, hr2.keep hb3⟩, Blk.fresh _ _ _, (hb3.block _ (by omega)).trans hrk⟩
  have HB1 := hid (show w.heap.size + 1 ≤ w2.heap.size by omega)
  clear hr2 hg2 hrk hg12 hb3 hsz2 HS HGs HG1 HRes HTu
  go_upto_region 5 with (fail)
  rw [zero_set]
  generalize w2.alloc (.cells (setL (0#256)).toArray 43) = w3 at *
  generalize w2.heap.size = B at *
  have hgR : g ≠ w.heap.size := by omega
  have hgB : g ≠ B := by have := HB1.out; omega
  have hBle : w.heap.size ≤ B := by have := HB1.out; omega
  have hRB : w.heap.size ≠ B := by have := HB1.out; omega
  have HRUN := hid (fun (W : World) (j : Nat) (c p : Int) (h : Rd W g s j nd c p) (hj : j ≤ s.size) => run_any h hj hs)
  have HT : Hid (∀ (W : World) (j : Nat) (c p : Int), Rd W g s j nd c p → j ≤ s.size → nx s.data.toList j ≠ 93 → Calls Tryd.prog 47 #[.pointer (some ⟨g, 0, none⟩), .int .u8 93] W fun e w' => e = .returned (.bool false) ∧ Rd w' g s j nd c p ∧ W.grownBy w' (some g)) := hid (fun W j c p h hj hx => took_no h hj hs 93 hx)
  have HT2 : Hid (∀ (W : World) (j : Nat) (c p : Int), Rd W g s j nd c p → j ≤ s.size → nx s.data.toList j = 93 → Calls Tryd.prog 47 #[.pointer (some ⟨g, 0, none⟩), .int .u8 93] W fun e w' => e = .returned (.bool true) ∧ Rd w' g s (j + 1) nd c p ∧ W.grownBy w' (some g)) := hid (fun W j c p h hj hx => took_yes h hj hs 93 hx)
  go_loopg [] (s.size + 1) (fun m wr => ∃ (j : Nat) (a : BS), j ≤ s.size ∧ s.size < m + j ∧ Hid (pBrL s.data.toList i m a j = res) ∧ Hid (BrSt w wr g s j nd w.heap.size B a))
  case atStart => exact ⟨st, 0#256, hst, by omega, HRS, HB⟩
  case round =>
    obtain ⟨j, a, hj, hm, HE, HS⟩ := hrel
    clear HB HRS
    obtain ⟨m, rfl⟩ : ∃ m, gk = m + 1 := ⟨gk - 1, by omega⟩
    obtain ⟨c1, p1, hr⟩ := HS.out.rd
    by_cases h93 : nx s.data.toList j = 93
    · have HE2 : Hid (res = .ok (a, j + 1)) := hid (by rw [← HE.out]; unfold pBrL; rw [if_pos h93])
      have hj1 : j + 1 ≤ s.size := nx_lt (l := s.data.toList) (by omega)
      go_wp2_with fail
      refine (HT2.out _ j c1 p1 hr hj h93).mono ?_
      rintro e w4 ⟨rfl, hr4, hg4⟩
      have HS4 := hid (HS.out.step hg4 ⟨_, _, hr4⟩ hgR hgB)
      clear hr4 hg4 hr HS HE HT HT2 HRUN h93
      have HR2 : Hid (R = if (if o = true then ~~~a else a) = 0#256 then .error (160, i) else .ok (if o = true then ~~~a else a, j + 1)) := hid (by rw [HO.out, HE2.out])
      clear HO HE2
      obtain ⟨x0, x1, x2, x3⟩ := HS4.out.set.cells4
      cases o with
      | false =>
        simp only [Bool.false_eq_true, if_false] at HR2
        have HCk := hid (fun W => check_any a W)
        have HF : Hid (∀ (W : World) (c p : Int), Rd W g s (j + 1) nd c p → Calls Tryd.prog 32 #[.pointer (some ⟨g, 0, none⟩), .int .i64 160, .int .i64 (i : Int)] W fun e w' => e = .returned (.bool false) ∧ Rd w' g s (j + 1) nd 160 (i : Int) ∧ W.grownBy w' (some g)) := hid (fun W c p h => fail_any h 160 (i : Int))
        unfold setV at HCk
        by_cases h0 : a = 0#256
        · rw [if_pos h0] at HR2 HCk
          clear h0
          go_wp2_with (first
            | (go_at_call 67; with_reducible refine (HCk.out _).mono ?_; rintro e w5 ⟨rfl, hb5⟩; have HS5 := hid (HS4.out.below hb5); clear hb5 x0 x1 x2 x3; obtain ⟨c5, p5, hr5⟩ := HS5.out.rd)
            | (go_at_call 32; with_reducible refine (HF.out _ c5 p5 hr5).mono ?_; rintro e w6 ⟨rfl, hr6, hg6⟩; have HS6 := hid (HS5.out.step hg6 ⟨_, _, hr6⟩ hgR hgB); have HR6 := hid hr6; clear hr6 hg6 hr5)
            | (refine wpList_store_row rfl 43 _ _ rfl w.heap.size (setL (0#256)).toArray ?_ ?_ 43 _ HS6.out.res (set_info _) ?_ (four_one _) ?_; exact rfl; exact congrArg Value.agg zero_set; exact rfl))
          have H7 : (w6.setRow w.heap.size (setL (0#256)).toArray).heap[w.heap.size]? = some (.cells (setL (0#256)).toArray 43) := setRow_heap _ _ _ _ _ (0, 0) HS6.out.res
          have A1 : Rd (w6.setRow w.heap.size (setL (0#256)).toArray) g s (j + 1) nd 160 (i : Int) := (setRow_other _ _ g _ (by omega)).trans HR6.out
          have A2 := grown_row HS6.out.gr (Nat.le_refl w.heap.size) (setL (0#256)).toArray
          rw [HR2.out]
          exact bodyPost_ret (v := .tuple #[.agg (setL (0#256)).toArray, .bool false]) (results_cell_tmp (P := Tryd.prog) (fn := Tryd.f81) rfl _ _ w.heap.size 43 _ (0, 0) _ rfl H7 Tryd.underlying43 rfl (set_info _)) rfl ⟨A2, ⟨_, ⟨0#256, rfl⟩, rfl⟩, _, _, A1⟩
        · rw [if_neg h0] at HR2 HCk
          clear h0
          go_wp2_with (first
            | (go_at_call 67; with_reducible refine (HCk.out _).mono ?_; rintro e w5 ⟨rfl, hb5⟩; have HS5 := hid (HS4.out.below hb5); clear hb5 x0 x1 x2 x3; obtain ⟨x0, x1, x2, x3⟩ := HS5.out.set.cells4)
            | (refine wpList_store_row rfl 43 _ _ rfl w.heap.size (setL (a)).toArray ?_ ?_ 43 _ HS5.out.res (set_info _) ?_ (four_one _) ?_; exact rfl; exact rfl; exact rfl))
          obtain ⟨c5, p5, hr5⟩ := HS5.out.rd
          have H7 : (w5.setRow w.heap.size (setL (a)).toArray).heap[w.heap.size]? = some (.cells (setL (a)).toArray 43) := setRow_heap _ _ _ _ _ (0, 0) HS5.out.res
          have A1 : Rd (w5.setRow w.heap.size (setL (a)).toArray) g s (j + 1) nd c5 p5 := (setRow_other _ _ g _ (by omega)).trans hr5
          have A2 := grown_row HS5.out.gr (Nat.le_refl w.heap.size) (setL (a)).toArray
          rw [HR2.out]
          exact bodyPost_ret (v := .tuple #[.agg (setL (a)).toArray, .bool true]) (results_cell_tmp (P := Tryd.prog) (fn := Tryd.f81) rfl _ _ w.heap.size 43 _ (0, 0) _ rfl H7 Tryd.underlying43 rfl (set_info _)) rfl ⟨A2, rfl, _, _, A1⟩
      | true =>
        simp only [if_true] at HR2
        have HNt := hid (fun W => not_any a W)
        unfold setV at HNt
        go_wp2_with (first
          | (go_at_call 25; with_reducible refine (HNt.out _).mono ?_; rintro e w7 ⟨rfl, hb7⟩; have HS7 := hid (HS4.out.below hb7); clear hb7 x0 x1 x2 x3)
          | (refine wpList_store_row rfl 43 _ _ rfl B (setL (~~~a)).toArray ?_ ?_ 43 _ HS7.out.set (set_info _) ?_ (four_one _) ?_; exact rfl; exact rfl; exact rfl; have HS8 := hid (HS7.out.put hgB hRB hBle (~~~a)); clear HS7; generalize w7.setRow B (setL (~~~a)).toArray = w8 at *; obtain ⟨x0, x1, x2, x3⟩ := HS8.out.set.cells4; generalize ~~~a = na at *))
        have HCk := hid (fun W => check_any na W)
        have HF : Hid (∀ (W : World) (c p : Int), Rd W g s (j + 1) nd c p → Calls Tryd.prog 32 #[.pointer (some ⟨g, 0, none⟩), .int .i64 160, .int .i64 (i : Int)] W fun e w' => e = .returned (.bool false) ∧ Rd w' g s (j + 1) nd 160 (i : Int) ∧ W.grownBy w' (some g)) := hid (fun W c p h => fail_any h 160 (i : Int))
        unfold setV at HCk
        by_cases h0 : na = 0#256
        · rw [if_pos h0] at HR2 HCk
          clear h0
          go_wp2_with (first
            | (go_at_call 67; with_reducible refine (HCk.out _).mono ?_; rintro e w5 ⟨rfl, hb5⟩; have HS5 := hid (HS8.out.below hb5); clear hb5 x0 x1 x2 x3; obtain ⟨c5, p5, hr5⟩ := HS5.out.rd)
            | (go_at_call 32; with_reducible refine (HF.out _ c5 p5 hr5).mono ?_; rintro e w6 ⟨rfl, hr6, hg6⟩; have HS6 := hid (HS5.out.step hg6 ⟨_, _, hr6⟩ hgR hgB); have HR6 := hid hr6; clear hr6 hg6 hr5)
            | (refine wpList_store_row rfl 43 _ _ rfl w.heap.size (setL (0#256)).toArray ?_ ?_ 43 _ HS6.out.res (set_info _) ?_ (four_one _) ?_; exact rfl; exact congrArg Value.agg zero_set; exact rfl))
          have H7 : (w6.setRow w.heap.size (setL (0#256)).toArray).heap[w.heap.size]? = some (.cells (setL (0#256)).toArray 43) := setRow_heap _ _ _ _ _ (0, 0) HS6.out.res
          have A1 : Rd (w6.setRow w.heap.size (setL (0#256)).toArray) g s (j + 1) nd 160 (i : Int) := (setRow_other _ _ g _ (by omega)).trans HR6.out
          have A2 := grown_row HS6.out.gr (Nat.le_refl w.heap.size) (setL (0#256)).toArray
          rw [HR2.out]
          exact bodyPost_ret (v := .tuple #[.agg (setL (0#256)).toArray, .bool false]) (results_cell_tmp (P := Tryd.prog) (fn := Tryd.f81) rfl _ _ w.heap.size 43 _ (0, 0) _ rfl H7 Tryd.underlying43 rfl (set_info _)) rfl ⟨A2, ⟨_, ⟨0#256, rfl⟩, rfl⟩, _, _, A1⟩
        · rw [if_neg h0] at HR2 HCk
          clear h0
          go_wp2_with (first
            | (go_at_call 67; with_reducible refine (HCk.out _).mono ?_; rintro e w5 ⟨rfl, hb5⟩; have HS5 := hid (HS8.out.below hb5); clear hb5 x0 x1 x2 x3; obtain ⟨x0, x1, x2, x3⟩ := HS5.out.set.cells4)
            | (refine wpList_store_row rfl 43 _ _ rfl w.heap.size (setL (na)).toArray ?_ ?_ 43 _ HS5.out.res (set_info _) ?_ (four_one _) ?_; exact rfl; exact rfl; exact rfl))
          obtain ⟨c5, p5, hr5⟩ := HS5.out.rd
          have H7 : (w5.setRow w.heap.size (setL (na)).toArray).heap[w.heap.size]? = some (.cells (setL (na)).toArray 43) := setRow_heap _ _ _ _ _ (0, 0) HS5.out.res
          have A1 : Rd (w5.setRow w.heap.size (setL (na)).toArray) g s (j + 1) nd c5 p5 := (setRow_other _ _ g _ (by omega)).trans hr5
          have A2 := grown_row HS5.out.gr (Nat.le_refl w.heap.size) (setL (na)).toArray
          rw [HR2.out]
          exact bodyPost_ret (v := .tuple #[.agg (setL (na)).toArray, .bool true]) (results_cell_tmp (P := Tryd.prog) (fn := Tryd.f81) rfl _ _ w.heap.size 43 _ (0, 0) _ rfl H7 Tryd.underlying43 rfl (set_info _)) rfl ⟨A2, rfl, _, _, A1⟩
    · have HE2 : Hid ((match pRun s.data.toList j with
        | .error e => .error e
        | .ok ((f, t), k) => if t < f then .error (1, i) else pBrL s.data.toList i m (a ||| rng f t) k) = res) := hid ((pBrL_succ h93).symm.trans HE.out)
      have hrl : ∀ f t k, pRun s.data.toList j = .ok ((f, t), k) → j < k ∧ k ≤ s.size ∧ f < 256 ∧ t < 256 := fun f t k e => pRun_lt e
      go_wp2_with fail
      refine (HT.out _ j c1 p1 hr hj h93).mono ?_
      rintro e w4 ⟨rfl, hr4, hg4⟩
      have HS4 := hid (HS.out.step hg4 ⟨_, _, hr4⟩ hgR hgB)
      have HR5 := hid (HRUN.out w4 j c1 p1 hr4 hj)
      clear hr4 hg4 hr HS HE HT HT2 h93
      generalize pRun s.data.toList j = r at *
      go_wp2_with fail
      refine HR5.out.mono ?_
      rintro e w5 ⟨hg5, hp5⟩
      clear HR5
      cases r with
      | error v =>
        obtain ⟨⟨u', v', rfl⟩, j', nd', hr5⟩ := hp5
        have HRe : Hid (R = .error v) := hid (by rw [HO.out, ← HE2.out])
        obtain ⟨c4, p4, hr4⟩ := HS4.out.rd
        have HS5 : Hid (BrSt w w5 g s j' nd' w.heap.size B a) := hid (HS4.out.step' hg5 ⟨_, _, hr5⟩ hgR hgB)
        clear HRUN HO HE2
        go_wp2_with (refine wpList_store_row rfl 43 _ _ rfl w.heap.size (setL (0#256)).toArray ?_ ?_ 43 _ HS5.out.res (set_info _) ?_ (four_one _) ?_; exact rfl; exact congrArg Value.agg zero_set; exact rfl)
        have H7 : (w5.setRow w.heap.size (setL (0#256)).toArray).heap[w.heap.size]? = some (.cells (setL (0#256)).toArray 43) := setRow_heap _ _ _ _ _ (0, 0) HS5.out.res
        have A1 : Rd (w5.setRow w.heap.size (setL (0#256)).toArray) g s j' nd' (v.1 : Int) (v.2 : Int) := (setRow_other _ _ g _ (by omega)).trans hr5
        have A2 := grown_row HS5.out.gr (Nat.le_refl w.heap.size) (setL (0#256)).toArray
        rw [HRe.out]
        exact bodyPost_ret (v := .tuple #[.agg (setL (0#256)).toArray, .bool false]) (results_cell_tmp (P := Tryd.prog) (fn := Tryd.f81) rfl _ _ w.heap.size 43 _ (0, 0) _ rfl H7 Tryd.underlying43 rfl (set_info _)) rfl ⟨A2, ⟨_, ⟨0#256, rfl⟩, rfl⟩, _, _, A1⟩
      | ok v =>
        obtain ⟨⟨f, t⟩, k⟩ := v
        obtain ⟨rfl, c5, p5, hr5⟩ := hp5
        obtain ⟨hjk, hks, hf, ht⟩ := hrl f t k rfl
        have HS5 := hid (HS4.out.step hg5 ⟨_, _, hr5⟩ hgR hgB)
        clear HS4 hg5 hrl
        simp only at HE2
        by_cases htf : t < f
        · have HRe : Hid (R = .error (1, i)) := hid (by rw [HO.out, ← HE2.out, if_pos htf])
          have HF := hid (fail_any hr5 1 (i : Int))
          clear HRUN HO HE2 hr5
          go_wp2_with fail
          refine HF.out.mono ?_
          rintro e w6 ⟨rfl, hr6, hg6⟩
          have HS6 := hid (HS5.out.step hg6 ⟨_, _, hr6⟩ hgR hgB)
          go_wp2_with (refine wpList_store_row rfl 43 _ _ rfl w.heap.size (setL (0#256)).toArray ?_ ?_ 43 _ HS6.out.res (set_info _) ?_ (four_one _) ?_; exact rfl; exact congrArg Value.agg zero_set; exact rfl)
          have H7 : (w6.setRow w.heap.size (setL (0#256)).toArray).heap[w.heap.size]? = some (.cells (setL (0#256)).toArray 43) := setRow_heap _ _ _ _ _ (0, 0) HS6.out.res
          have A1 : Rd (w6.setRow w.heap.size (setL (0#256)).toArray) g s k nd 1 (i : Int) := (setRow_other _ _ g _ (by omega)).trans hr6
          have A2 := grown_row HS6.out.gr (Nat.le_refl w.heap.size) (setL (0#256)).toArray
          rw [HRe.out]
          exact bodyPost_ret (v := .tuple #[.agg (setL (0#256)).toArray, .bool false]) (results_cell_tmp (P := Tryd.prog) (fn := Tryd.f81) rfl _ _ w.heap.size 43 _ (0, 0) _ rfl H7 Tryd.underlying43 rfl (set_info _)) rfl ⟨A2, ⟨_, ⟨0#256, rfl⟩, rfl⟩, _, _, A1⟩
        · have HE3 := hid (HE2.out.symm.trans (if_neg htf))
          have HRg := hid (fun W => range_any f t hf ht W)
          have HOr := hid (fun W => or_any a (rng f t) W)
          generalize hrg : rng f t = rg at *
          clear hrg HE2
          unfold setV at HOr HRg
          clear hr5
          obtain ⟨x0, x1, x2, x3⟩ := HS5.out.set.cells4
          have y0 := HS5.out.set.free 0
          have y1 := HS5.out.set.free 1
          have y2 := HS5.out.set.free 2
          have y3 := HS5.out.set.free 3
          go_wp2_with fail
          go_region_with (first
            | (go_at_call 88; with_reducible refine (HRg.out _).mono ?_; rintro e w6 ⟨rfl, hb6⟩; have HS6 := hid (HS5.out.belowD hb6); clear hb6 x0 x1 x2 x3 y0 y1 y2 y3; obtain ⟨x0, x1, x2, x3⟩ := HS6.out.set.cells4; have y0 := HS6.out.set.free 0; have y1 := HS6.out.set.free 1; have y2 := HS6.out.set.free 2; have y3 := HS6.out.set.free 3)
            | (go_at_call 87; with_reducible refine (HOr.out _).mono ?_; rintro e w7 ⟨rfl, hb7⟩; have HS7 := hid (HS6.out.below hb7); clear hb7 x0 x1 x2 x3 y0 y1 y2 y3; obtain ⟨x0, x1, x2, x3⟩ := HS7.out.set.cells4; have y0 := HS7.out.set.free 0; have y1 := HS7.out.set.free 1; have y2 := HS7.out.set.free 2; have y3 := HS7.out.set.free 3))
          all_goals
            have HS8 := hid (HS7.out.put4 hgB hRB hBle (a ||| rg))
            clear HS7 x0 x1 x2 x3 y0 y1 y2 y3
            go_wp2_with fail
            go_roundg m
            case measure => omega
            case rel => exact ⟨k, a ||| rg, hks, by omega, hid HE3.out.symm, HS8⟩
end Go.Proofs.YtoiegkejkahfgaaDoor
