/- regex: Same. -/
import Derived.Test.YtplldfbjbekdlaaDoorRck
import Derived.Test.YtplldfbjbekdlaaDoorSetEq
import Derived.StillTailTactics
set_option linter.unusedVariables false
set_option linter.unusedSimpArgs false
namespace Go.Proofs.YtplldfbjbekdlaaDoor
open Go.RowKit

/-- What Same promises of two, whatever they stand for. -/
def SameAt (t u : RT) : Prop := ∀ (v x : RV) (w : World) (P Q : Nat → Prop), Rep w P v t → Rep w Q x u → szT t ≤ 512 → szT u ≤ 512 →
  Calls Tryd.prog 7 #[v.val, x.val] w fun e w' => e = .returned (.bool (smT t u)) ∧ Below w.heap.size w w'
/-- Lists of expressions in memory. -/
def RepL (w : World) (P : Nat → Prop) (A : Option Addr) (ks : List RT) (vs : Nat → RV) : Prop :=
  (0 < ks.length → ∃ b o, A = some ⟨b, o, none⟩ ∧ b < w.heap.size ∧ P b ∧ ∀ j, j < ks.length → RowAt w b (o + j * 8) (vs j).cells) ∧ ∀ j (h : j < ks.length), Rep w P (vs j) ks[j]
theorem RepL.keep {w w' : World} {P : Nat → Prop} {A : Option Addr} {ks : List RT} {vs : Nat → RV} (h : RepL w P A ks vs) (hb : Below w.heap.size w w') : RepL w' P A ks vs := by
  refine ⟨fun h0 => ?_, fun j hj => (h.2 j hj).keep hb⟩
  obtain ⟨b, o, e, hl, hp, hc⟩ := h.1 h0
  exact ⟨b, o, e, Nat.lt_of_lt_of_le hl hb.size, hp, fun j hj => (hc j hj).block (hb.block b hl)⟩
theorem smL_len {ks us : List RT} (h : ks.length ≠ us.length) : smL ks us = false := by
  induction ks generalizing us with
  | nil =>
    cases us with
    | nil => exact absurd rfl h
    | cons _ _ => rw [smL]
  | cons a ks ih =>
    cases us with
    | nil => rw [smL]
    | cons b us => rw [smL, ih (by simpa using h), Bool.and_false]
theorem smL_false {ks us : List RT} {j : Nat} (h1 : j < ks.length) (h2 : j < us.length) (h : smT ks[j] us[j] = false) : smL ks us = false := by
  induction ks generalizing us j with
  | nil => simp at h1
  | cons a ks ih =>
    cases us with
    | nil => simp at h2
    | cons b us =>
      cases j with
      | zero =>
        have h : smT a b = false := h
        rw [smL, h, Bool.false_and]
      | succ j =>
        rw [smL, ih (us := us) (j := j) (by simpa using h1) (by simpa using h2) h, Bool.and_false]
theorem smL_true {ks us : List RT} (hl : ks.length = us.length) (h : ∀ j (h1 : j < ks.length) (h2 : j < us.length), smT ks[j] us[j] = true) : smL ks us = true := by
  induction ks generalizing us with
  | nil =>
    cases us with
    | nil => rw [smL]
    | cons _ _ => simp at hl
  | cons a ks ih =>
    cases us with
    | nil => simp at hl
    | cons b us =>
      have h0 : smT a b = true := h 0 (by simp) (by simp)
      rw [smL, h0, ih (by simpa using hl) (fun j h1 h2 => h (j + 1) (by simpa using h1) (by simpa using h2))]
      rfl
set_option maxRecDepth 100000 in
set_option maxHeartbeats 4000000 in
theorem kids_any {ks us : List RT} (ih : ∀ t ∈ ks, ∀ u, SameAt t u) {w : World} {P Q : Nat → Prop} {A B : Option Addr} {c d : Nat} {vs xs : Nat → RV} (hA : RepL w P A ks vs) (hB : RepL w Q B us xs) (hs : szL ks ≤ 512) (hs2 : szL us ≤ 512) :
    Calls Tryd.prog 13 #[.slice A ks.length c, .slice B us.length d] w fun e w' => e = .returned (.bool (smL ks us)) ∧ Below w.heap.size w w' := by
  have hl1 := szL_len ks
  have hl2 := szL_len us
  have HA := hid hA
  have HB := hid hB
  clear hA hB
  by_cases hne : ks.length = us.length
  · obtain ⟨n, hn1, hn2⟩ : ∃ n, ks.length = n ∧ us.length = n := ⟨_, rfl, hne.symm⟩
    rw [hn1, hn2]
    clear hne
    go_enter Tryd.func13, Tryd.ntmps13
    go_wp2_with fail
    go_loopw [13] (fun i wr => ∃ j : Nat, j ≤ n ∧ i = .int .i64 j ∧ Hid (∀ i (h1 : i < ks.length) (h2 : i < us.length), i < j → smT ks[i] us[i] = true) ∧ Below w.heap.size w wr) (fun i _ => n - (intOf i).toNat)
    case atStart => exact ⟨0, by omega, rfl, hid (fun i _ _ h => absurd h (by omega)), Below.refl _ _⟩
    case round =>
      obtain ⟨j, hj, rfl, HZ, hb⟩ := hrel
      by_cases hltn : j < n
      · have hlt : j < ks.length := by omega
        have hlt2 : j < us.length := by omega
        obtain ⟨b, o, rfl, hbl, hp, hrow⟩ := HA.out.1 (by omega)
        obtain ⟨b2, o2, rfl, hbl2, hp2, hrow2⟩ := HB.out.1 (by omega)
        have HIH := hid (fun W (hW : Below wr.heap.size wr W) => ih ks[j] (List.getElem_mem _) us[j] (vs j) (xs j) W P Q (((HA.out.2 j hlt).keep hb).keep hW) (((HB.out.2 j hlt2).keep hb).keep hW) (by have h1 := szL_take ks j hlt; have h2 := szL_take_le ks (j + 1); omega) (by have h1 := szL_take us j hlt2; have h2 := szL_take_le us (j + 1); omega))
        obtain ⟨y0, y1, y2, y3, y4, y5, y6, y7⟩ := ((hrow j hlt).block (hb.block b hbl)).cells8
        obtain ⟨z0, z1, z2, z3, z4, z5, z6, z7⟩ := ((hrow2 j hlt2).block (hb.block b2 hbl2)).cells8
        have HF := hid (fun h => smL_false hlt hlt2 h)
        have HZ2 := hid (fun (h : smT ks[j] us[j] = true) i (h1 : i < ks.length) (h2 : i < us.length) (hij : i < j + 1) => (by
          by_cases e : i = j
          · subst e; exact h
          · exact HZ.out i h1 h2 (by omega) : smT ks[i] us[i] = true))
        generalize vs j = x at *
        generalize xs j = y at *
        generalize smT ks[j] us[j] = r at *
        clear ih hrow hrow2 HZ
        unfold RV.val at HIH
        have HBl := hid hb
        clear hb
        go_wp2_with fail
        refine wp_region_still_tail 8 (by kernel_rfl) (by kernel_rfl) ?_
        simp only [List.take_succ_cons, List.take_zero, List.drop_succ_cons, List.drop_zero]
        repeat still_step
        refine wpStill_nil ?_
        change wpList _ _ _ _ _ wr.drew
        go_wp2_with fail
        refine (HIH.out wr.drew ⟨rfl, rfl, rfl, Nat.le_refl _, fun _ _ => rfl⟩).mono ?_
        rintro e w6 ⟨rfl, hb6⟩
        have HB6 := hid (show Below w.heap.size w w6 from HBl.out.trans ((show Below wr.heap.size wr w6 from ⟨hb6.os, hb6.tape, hb6.output, hb6.size, hb6.block⟩).mono HBl.out.size))
        clear hb6 HIH y0 y1 y2 y3 y4 y5 y6 y7 z0 z1 z2 z3 z4 z5 z6 z7
        cases r
        · have HFz := hid (HF.out rfl)
          clear HF HZ2
          go_wp2
          go_ret
          exact ⟨by rw [HFz.out]; rfl, HB6.out⟩
        · have HZ3 := hid (HZ2.out rfl)
          clear HF HZ2
          go_wp2
          go_roundw
          case rel => exact ⟨j + 1, by omega, by go_num, HZ3, HB6.out⟩
          case measure => simp [intOf]; omega
      · obtain rfl : j = n := by omega
        have HS := hid (smL_true (hn1.trans hn2.symm) (fun i h1 h2 => HZ.out i h1 h2 (by omega)))
        clear HZ
        have HBl := hid hb
        clear hb
        go_wp2
        go_ret
        exact ⟨by rw [HS.out]; rfl, HBl.out⟩
  · have HS := hid (smL_len hne)
    have hne' : ¬ (ks.length : Int) = (us.length : Int) := by omega
    go_enter Tryd.func13, Tryd.ntmps13
    go_wp2
    go_ret
    exact ⟨by rw [HS.out]; rfl, Below.refl _ _⟩

end Go.Proofs.YtplldfbjbekdlaaDoor

/- regex: Same, whole. -/
namespace Go.Proofs.YtplldfbjbekdlaaDoor
open Go.RowKit

theorem run_eqArr (a b : BS) (w : World) : (binOp .eql 24 (.agg #[.int .u64 ((wd a 0 : Nat) : Int), .int .u64 ((wd a 1 : Nat) : Int), .int .u64 ((wd a 2 : Nat) : Int), .int .u64 ((wd a 3 : Nat) : Int)]) (.agg #[.int .u64 ((wd b 0 : Nat) : Int), .int .u64 ((wd b 1 : Nat) : Int), .int .u64 ((wd b 2 : Nat) : Int), .int .u64 ((wd b 3 : Nat) : Int)])).run Tryd.prog w = .ok (.bool (decide (a = b))) w := by
  rw [run_eql_struct, run_eq4 24 Tryd.underlying24 9998, Result.andThen_ok, bs_eq_words]
theorem Rep.row {w : World} {P : Nat → Prop} {v : RV} {ks : List RT} {vs : Nat → RV} (hn : ks.length = v.n) (hA : 0 < v.n → ∃ b o, v.A = some ⟨b, o, none⟩ ∧ b < w.heap.size ∧ P b ∧ ∀ j, j < v.n → RowAt w b (o + j * 8) (vs j).cells) (hk : ∀ j (h : j < ks.length), Rep w P (vs j) ks[j]) : RepL w P v.A ks vs := ⟨by rw [hn]; exact hA, hk⟩
theorem box_two (w : World) (v x : RV) : Below w.heap.size w ((w.alloc (.cells v.cells.toArray 27)).alloc (.cells x.cells.toArray 27)) ∧ Blk ((w.alloc (.cells v.cells.toArray 27)).alloc (.cells x.cells.toArray 27)) w.heap.size 27 v.cells ∧ Blk ((w.alloc (.cells v.cells.toArray 27)).alloc (.cells x.cells.toArray 27)) (w.heap.size + 1) 27 x.cells := by
  refine ⟨below_alloc2 _ _, (Below.heap_alloc _ _ _ (by simp)).trans (heap_alloc_new w _), ?_⟩
  have := heap_alloc_new (w.alloc (.cells v.cells.toArray 27)) (.cells x.cells.toArray 27)
  rwa [World.size_alloc] at this
set_option maxRecDepth 100000 in
set_option maxHeartbeats 4000000 in
theorem same_any : ∀ t u, SameAt t u := by
  refine RT.ind fun k s ks lo hi ih => ?_
  intro u v x w P Q hR hS hs hs2
  obtain ⟨k', s', us, lo', hi'⟩ := u
  obtain ⟨rfl, rfl, rfl, rfl, hn, vs, hA, hk⟩ := hR.inv
  obtain ⟨rfl, rfl, rfl, rfl, hn', xs, hA', hk'⟩ := hS.inv
  have hA := Rep.row hn hA hk
  have hA' := Rep.row hn' hA' hk'
  obtain ⟨r, hr⟩ : ∃ r, r = smT (.nd v.k v.s ks v.lo v.hi) (.nd x.k x.s us x.lo x.hi) := ⟨_, rfl⟩
  rw [szT] at hs hs2
  rw [← hr]
  rw [smT] at hr
  obtain ⟨hb, h1, h2⟩ := box_two w v x
  have HC := hid (fun W (hW : Below w.heap.size w W) => kids_any (w := W) (c := v.c) (d := x.c) (fun t ht u => ih t ht u) (hA.keep hW) (hA'.keep hW) (by omega) (by omega))
  rw [hn, hn'] at HC
  generalize smL ks us = q at *
  have hq := fun W => run_eqArr v.s x.s W
  have hx := Blk.cells8' (v := v) h1
  have hy := Blk.cells8' (v := x) h2
  have HB := hid hb
  clear ih hA hA' hk hk' hR hS h1 h2 hb
  rw [RV.val_eq, RV.val_eq]
  go_enter Tryd.func7, Tryd.ntmps7
  go_upto_region 1 with (fail)
  change Code.wp _ _ _ _ ((w.alloc (.cells v.cells.toArray 27)).alloc (.cells x.cells.toArray 27))
  generalize (w.alloc (.cells v.cells.toArray 27)).alloc (.cells x.cells.toArray 27) = w1 at *
  have HC1 := hid (HC.out w1 HB.out)
  clear HC
  generalize v.cells.toArray = c1 at *
  generalize x.cells.toArray = c2 at *
  obtain ⟨k, s, A, n, c, lo, hi⟩ := v
  obtain ⟨k', s', A', n', c', lo', hi'⟩ := x
  simp only at *
  obtain ⟨x0, x1, x2, x3, x4, x5, x6, x7⟩ := hx
  obtain ⟨y0, y1, y2, y3, y4, y5, y6, y7⟩ := hy
  have HW : Hid (∀ z : Nat, z = z) := hid (fun _ => rfl)
  by_cases hk : k = k'
  · subst hk
    rw [if_neg (by simp)] at hr
    by_cases h2 : k = 2
    · subst h2
      rw [if_pos rfl] at hr
      generalize decide (s = s') = d at *
      go_wp2
      go_ret
      exact ⟨by first | rfl | (rw [hr]; rfl), HB.out⟩
    · rw [if_neg h2] at hr
      by_cases h3 : k = 3
      · subst h3
        rw [if_pos (.inl rfl)] at hr
        go_wp2_with fail
        refine HC1.out.mono ?_
        rintro e w3 ⟨rfl, hb3⟩
        have HB3 := hid (HB.out.trans (hb3.mono HB.out.size))
        clear hb3
        go_wp2
        go_ret
        exact ⟨by first | rfl | (rw [hr]; rfl), HB3.out⟩
      by_cases h4 : k = 4
      · subst h4
        rw [if_pos (.inr rfl)] at hr
        go_wp2_with fail
        refine HC1.out.mono ?_
        rintro e w3 ⟨rfl, hb3⟩
        have HB3 := hid (HB.out.trans (hb3.mono HB.out.size))
        clear hb3
        go_wp2
        go_ret
        exact ⟨by first | rfl | (rw [hr]; rfl), HB3.out⟩
      rw [if_neg (by omega)] at hr
      by_cases h5 : k = 5
      · subst h5
        rw [if_pos rfl] at hr
        by_cases hlo : lo = lo'
        · subst hlo
          rw [decide_eq_true rfl, Bool.true_and] at hr
          have e1 : ∀ z : Int, (if z < -1 then -1 else z) = max z (-1) := by intro z; omega
          rw [e1, e1] at hr
          clear e1
          by_cases c : max hi (-1) = max hi' (-1)
          · rw [decide_eq_true c, Bool.true_and] at hr
            go_wp2_with fail
            refine HC1.out.mono ?_
            rintro e w3 ⟨rfl, hb3⟩
            have HB3 := hid (HB.out.trans (hb3.mono HB.out.size))
            clear hb3
            go_wp2
            go_ret
            exact ⟨by first | rfl | (rw [hr]; rfl), HB3.out⟩
          · rw [decide_eq_false c, Bool.false_and] at hr
            go_wp2
            go_ret
            exact ⟨by first | rfl | (rw [hr]; rfl), HB.out⟩
        · rw [decide_eq_false hlo, Bool.false_and] at hr
          go_wp2
          go_ret
          exact ⟨by first | rfl | (rw [hr]; rfl), HB.out⟩
      · rw [if_neg h5] at hr
        go_wp2
        go_ret
        exact ⟨by first | rfl | (rw [hr]; rfl), HB.out⟩
  · rw [if_pos hk] at hr
    go_wp2
    go_ret
    exact ⟨by first | rfl | (rw [hr]; rfl), HB.out⟩
end Go.Proofs.YtplldfbjbekdlaaDoor
