/- regex: one expression, and how often it may come. -/
import Derived.Test.YtimffgmbchpfeaaRo
set_option linter.unusedVariables false
set_option linter.unusedSimpArgs false
namespace Go.Proofs.Ytimffgmbchpfeaa
open Go.RowKit

theorem pOne_le {s : ByteArray} {g dp : Nat} {E : Nat → Nat → NR RT} (HE : EitherAt g s dp E) {i nd : Nat} (hi : i ≤ s.size) (hnd : nd ≤ 512) {t : RT} {j nd' : Nat} (e : pOne s.data.toList E i nd = .ok (t, j, nd')) : i < j ∧ j ≤ s.size ∧ nd' ≤ 512 := by
  unfold pOne at e
  split at e
  · rename_i h40
    have hi1 : i + 1 ≤ s.size := nx_lt (l := s.data.toList) (by omega)
    split at e
    · cases e
    · rename_i t' j' n' h1
      have h2 := HE.2 (i + 1) nd t' j' n' hi1 hnd h1
      split at e
      · rename_i h41
        have h3 : j' < s.size := nx_lt (l := s.data.toList) (by omega)
        simp only [Except.ok.injEq, Prod.mk.injEq] at e
        omega
      · cases e
  · split at e
    · cases e
    · rename_i a k h1
      have h2 := pSet_lt h1
      have h3 := mkN_ok e
      have h4 : s.data.toList.length = s.size := rfl
      omega
theorem one_any {w : World} {g : Nat} {s : ByteArray} {i nd : Nat} {c p : Int} (h : Rd w g s i nd c p) (hi : i ≤ s.size) (hnd : nd ≤ 512) (hs : s.size ≤ 512) (dp : Nat) (hdp : dp ≤ 32) (E : Nat → Nat → NR RT) (HE : EitherAt g s (dp + 1) E) :
    Calls Try.prog 48 #[.pointer (some ⟨g, 0, none⟩), .int .i64 (dp : Int)] w (PostN (pOne s.data.toList E i nd) w g s) := by
  by_cases h40 : nx s.data.toList i = 40
  · exact one_par h hi hnd hs dp hdp E HE h40
  · exact one_set h hi hnd hs dp E h40
theorem PostN.un {r : NR RT} {w w' : World} {g : Nat} {s : ByteArray} {e : Ending} (h : PostN r w g s e w') : ∃ (v : RV) (ok : Bool), e = .returned (.tuple #[v.val, .bool ok]) ∧ w.grownBy w' (some g) ∧
    ((ok = true ∧ ∃ t j nd', r = .ok (t, j, nd') ∧ (∃ c p, Rd w' g s j nd' c p) ∧ Rep w' (w.heap.size ≤ ·) v t) ∨ (ok = false ∧ ∃ c p : Nat, r = .error (c, p) ∧ ∃ j nd', Rd w' g s j nd' (c : Int) (p : Int))) := by
  obtain ⟨hg, hp⟩ := h
  cases r with
  | error v =>
    obtain ⟨⟨v', rfl⟩, j, nd', hr⟩ := hp
    exact ⟨v', false, rfl, hg, .inr ⟨rfl, v.1, v.2, rfl, j, nd', hr⟩⟩
  | ok v =>
    obtain ⟨t, j, nd'⟩ := v
    obtain ⟨v', rfl, hr, hrep⟩ := hp
    exact ⟨v', true, rfl, hg, .inl ⟨rfl, t, j, nd', rfl, hr, hrep⟩⟩
/-- What stands while it is read how often something may come. -/
structure RepB (w : World) (g : Nat) (B : Nat) (v : RV) (W : World) : Prop where
  gr : w.grownBy W (some g)
  res : Blk W w.heap.size 26 zeroR.toList
  box : Blk W B 26 v.cells
/-- Blocks that are neither the call's result nor its box. -/
def Own (w : World) (B : Nat) : Nat → Prop := fun b => w.heap.size < b ∧ b ≠ B
def RepSt (w : World) (g : Nat) (s : ByteArray) (B : Nat) (P : NR RT) (m : Nat) (ok : Bool) (v : RV) (W : World) : Prop :=
  RepB w g B v W ∧ ((ok = true ∧ ∃ t j nd', pRepL s.data.toList m t j nd' = P ∧ j ≤ s.size ∧ nd' ≤ 512 ∧ s.size < m + j ∧ (∃ c p, Rd W g s j nd' c p) ∧ Rep W (Own w B) v t) ∨ (ok = false ∧ ∃ c p : Nat, P = .error (c, p) ∧ ∃ j nd', Rd W g s j nd' (c : Int) (p : Int)))
section
variable {w W W' : World} {g B : Nat} {v : RV} {t : RT}
theorem RepB.step (h : RepB w g B v W) (hg : W.grownBy W' (some g)) (h1 : g ≠ B) (h2 : g < w.heap.size) : RepB w g B v W' :=
  ⟨grown_trans h.gr hg, (hg.block _ h.res.lt (by intro e; injection e with e; omega)).trans h.res, (hg.block _ h.box.lt (by intro e; injection e with e; omega)).trans h.box⟩
theorem RepB.below (h : RepB w g B v W) (hb : Below W.heap.size W W') : RepB w g B v W' := ⟨below_of_new h.gr hb, h.res.keep hb, h.box.keep hb⟩
theorem RepB.put (h : RepB w g B v W) (hB : w.heap.size < B) (x : RV) : RepB w g B x (W.setRow B x.cells.toArray) :=
  ⟨grown_row h.gr (by omega) _, (setRow_other _ _ _ _ (by omega)).trans h.res, setRow_heap _ _ _ _ _ (0, 0) h.box⟩
theorem own_step (h : Rep W (Own w B) v t) (hg : W.grownBy W' (some g)) (h2 : g < w.heap.size) : Rep W' (Own w B) v t :=
  h.mono hg.size (fun b hp hl => hg.block b hl (by intro e; injection e with e; have := hp.1; omega)) (fun _ h _ => h)
theorem own_below (h : Rep W (Own w B) v t) (hb : Below W.heap.size W W') : Rep W' (Own w B) v t := h.mono hb.size (fun b _ hl => hb.block b hl) (fun _ h _ => h)
theorem own_put (h : Rep W (Own w B) v t) (cs : Array Value) : Rep (W.setRow B cs) (Own w B) v t :=
  h.mono (by simp [World.setRow]) (fun b hp _ => setRow_other _ _ _ _ hp.2) (fun _ h _ => h)
theorem own_res (h : Rep W (Own w B) v t) (cs : Array Value) : Rep (W.setRow w.heap.size cs) (w.heap.size ≤ ·) v t :=
  h.mono (by simp [World.setRow]) (fun b hp _ => setRow_other _ _ _ _ (by have := hp.1; omega)) (fun _ h _ => by have := h.1; omega)
/-- One in a row of its own. -/
theorem own_kid (h : Rep W (Own w B) v t) (hB : w.heap.size < W.heap.size) (hBW : B < W.heap.size) (k : Int) (a : BS) (lo hi : Int) (cap : Nat) :
    Rep (W.alloc (.cells v.cells.toArray 26)) (Own w B) ⟨k, a, some ⟨W.heap.size, 0, none⟩, 1, cap, lo, hi⟩ (.nd k a [t] lo hi) := by
  have hb : Below W.heap.size W (W.alloc (.cells v.cells.toArray 26)) := (Below.refl _ _).alloc (Nat.le_refl _) _
  refine .mk ⟨k, a, some ⟨W.heap.size, 0, none⟩, 1, cap, lo, hi⟩ [t] (fun _ => v) rfl (fun _ => ⟨W.heap.size, 0, rfl, by simp, ⟨hB, by omega⟩, fun j hj => ?_⟩) (fun j hj => ?_)
  · obtain rfl : j = 0 := by simp at hj; omega
    exact Blk.row (Blk.fresh W 26 v.cells)
  · obtain rfl : j = 0 := by simp at hj; omega
    exact own_below h hb
end
theorem pRepL_stop {l : List UInt8} {m j nd : Nat} {t : RT} (h : isRep (nx l j) = false) : pRepL l (m + 1) t j nd = .ok (t, j, nd) := by
  rw [pRepL, if_neg (by rw [h]; decide)]
theorem pRepL_go {l : List UInt8} {m j nd : Nat} {t : RT} (h : isRep (nx l j) = true) : pRepL l (m + 1) t j nd = (match pTimes l j with
    | .error e => .error e
    | .ok ((lo, hi), k) => match mkN (.nd 5 (0#256) [t] lo hi) k nd with
      | .error e => .error e
      | .ok (t', _, nd') => pRepL l m t' k nd') := by
  rw [pRepL, if_pos h]
  rfl

set_option maxRecDepth 100000 in
set_option maxHeartbeats 8000000 in
theorem rep_any {w : World} {g : Nat} {s : ByteArray} {i nd : Nat} {c p : Int} (h : Rd w g s i nd c p) (hi : i ≤ s.size) (hnd : nd ≤ 512) (hs : s.size ≤ 512) (dp : Nat) (hdp : dp ≤ 32) (E : Nat → Nat → NR RT) (HE : EitherAt g s (dp + 1) E) :
    Calls Try.prog 45 #[.pointer (some ⟨g, 0, none⟩), .int .i64 (dp : Int)] w (PostN (pRep s.data.toList E i nd) w g s) := by
  have hgw := Blk.lt h
  have hA : Below w.heap.size w (w.alloc (.cells zeroR 26)) := (Below.refl _ _).alloc (Nat.le_refl _) _
  have HZ := hid (heap_alloc_new w (.cells zeroR 26))
  have HR := hid (h.keep hA)
  have HG := hid (grown_of_below hA (some g))
  have HO := hid (fun (W : World) (h : Rd W g s i nd c p) => one_any h hi hnd hs dp hdp E HE)
  have HOl := hid (fun t j nd' (e : pOne s.data.toList E i nd = .ok (t, j, nd')) => pOne_le HE hi hnd e)
  have HP := hid (show pRep s.data.toList E i nd = match pOne s.data.toList E i nd with
    | .error e => .error e
    | .ok (t, j, nd') => pRepL s.data.toList (s.data.toList.length + 1) t j nd' from rfl)
  generalize pRep s.data.toList E i nd = P at *
  generalize pOne s.data.toList E i nd = r at *
  clear hA h HE
  go_enter Try.func45, Try.ntmps45
  go_upto_region 1 with (fail)
  change Code.wp _ _ _ _ (w.alloc (.cells zeroR 26))
  have hs1 : (w.alloc (.cells zeroR 26)).heap.size = w.heap.size + 1 := by simp
  generalize w.alloc (.cells zeroR 26) = w1 at *
  go_wp2_with fail
  refine (HO.out _ HR.out).mono ?_
  rintro e w2 hpost
  obtain ⟨v, ok, rfl, hg2, hst⟩ := hpost.un
  have hz2 : w.heap.size < w2.heap.size := by have := hg2.size; omega
  have hbx : Below w2.heap.size w2 ((w2.alloc (.cells #[.int .i64 0, .int .u64 0, .int .u64 0, .int .u64 0, .int .u64 0, .slice none 0 0, .int .i64 0, .int .i64 0] 26)).setRow w2.heap.size v.cells.toArray) := below_row ((Below.refl _ _).alloc (Nat.le_refl _) _) (Nat.le_refl _) _
  have hB1 : w.heap.size < w2.heap.size := hz2
  have HSt : Hid (RepSt w g s w2.heap.size P (s.size + 1) ok v ((w2.alloc (.cells #[.int .i64 0, .int .u64 0, .int .u64 0, .int .u64 0, .int .u64 0, .slice none 0 0, .int .i64 0, .int .i64 0] 26)).setRow w2.heap.size v.cells.toArray)) := hid ⟨{
    gr := below_of_new (grown_trans HG.out hg2) hbx
    res := Blk.keep (cs := zeroR.toList) ((hg2.block w.heap.size (by omega) (by intro e; injection e with e; omega)).trans HZ.out) hbx
    box := setRow_heap _ _ _ _ _ (0, 0) (heap_alloc_new w2 _) }, by
      rcases hst with ⟨rfl, t, j, nd', rfl, ⟨c', p', hr⟩, hrep⟩ | ⟨rfl, c', p', rfl, j, nd', hr⟩
      · obtain ⟨h1, h2, h3⟩ := HOl.out t j nd' rfl
        exact .inl ⟨rfl, t, j, nd', HP.out.symm, h2, h3, by omega, ⟨c', p', hr.keep hbx⟩, hrep.mono hbx.size (fun b _ hl => hbx.block b hl) (fun b hb hl => ⟨by have : w1.heap.size ≤ b := hb; omega, by omega⟩)⟩
      · exact .inr ⟨rfl, c', p', HP.out, j, nd', hr.keep hbx⟩⟩
  have HSz := hid (rx_size v)
  have HOne := hid (rx_one v)
  clear hbx hst hpost hg2 HO HOl HP HR HG HZ
  unfold RV.val
  go_wp2_with (refine wpList_store_row rfl 26 _ _ rfl w2.heap.size v.cells.toArray ?_ ?_ 26 #[.int .i64 0, .int .u64 0, .int .u64 0, .int .u64 0, .int .u64 0, .slice none 0 0, .int .i64 0, .int .i64 0] (heap_alloc_new w2 _) HSz.out ?_ HOne.out ?_; exact rfl; exact rfl; exact rfl; generalize (w2.alloc (.cells #[.int .i64 0, .int .u64 0, .int .u64 0, .int .u64 0, .int .u64 0, .slice none 0 0, .int .i64 0, .int .i64 0] 26)).setRow w2.heap.size v.cells.toArray = w3 at *)
  have hgB : g ≠ w2.heap.size := by omega
  generalize w2.heap.size = B at *
  go_loopg [7] (s.size + 1) (fun m u wr => ∃ (ok : Bool) (v : RV), u = .bool ok ∧ Hid (RepSt w g s B P m ok v wr))
  case atStart => exact ⟨ok, v, rfl, HSt⟩
  case round =>
    clear HSt HSz HOne
    obtain ⟨ok, v, rfl, HS⟩ := hrel
    obtain ⟨hb0, hst0⟩ := HS.out
    have HB0 := hid hb0
    clear HS hb0
    rcases hst0 with ⟨rfl, t, j, nd', hpl, hj, hnd', hm, ⟨c1, p1, hr⟩, hrep⟩ | ⟨rfl, c1, p1, hP, j, nd', hr⟩
    · obtain ⟨m, rfl⟩ : ∃ m, gk = m + 1 := ⟨gk - 1, by omega⟩
      have HPL := hid hpl
      have HREP := hid hrep
      have HN := hid (next_any hr hj hs)
      have HI := hid (fun W => index_same rxReps (nx s.data.toList j) W)
      have HIR := hid (show isRep (nx s.data.toList j) = decide (0 ≤ firstIdx rxReps (nx s.data.toList j).toUInt8) from rfl)
      have hx256 := nx_byte s.data.toList j
      clear hpl hrep hr
      cases hir : isRep (nx s.data.toList j) with
      | false =>
        have HP2 : Hid (P = .ok (t, j, nd')) := hid (HPL.out.symm.trans (pRepL_stop hir))
        rw [hir] at HIR
        have hf : firstIdx rxReps (nx s.data.toList j).toUInt8 < 0 := by have := of_decide_eq_false HIR.out.symm; omega
        clear HIR hir HPL
        generalize firstIdx rxReps (nx s.data.toList j).toUInt8 = f at *
        generalize nx s.data.toList j = x at *
        unfold rxReps at HI
        go_wp2_with fail
        refine HN.out.mono ?_
        rintro e w4 ⟨rfl, hr4, hg4⟩
        have HB4 := hid (HB0.out.step hg4 hgB hgw)
        have HREP4 := hid (own_step HREP.out hg4 hgw)
        have HR4 := hid hr4
        clear hr4 hg4 HN HREP HB0
        obtain ⟨x0, x1, x2, x3, x4, x5, x6, x7⟩ := Blk.cells8' HB4.out.box
        have HSz := hid (rx_size v)
        have HOne := hid (rx_one v)
        have HRs := hid HB4.out.res
        go_wp2_with (first
          | (go_at_call 49; refine (HI.out _).mono ?_; rintro e w9 ⟨rfl, rfl⟩)
          | (refine wpList_store_row rfl 26 _ _ rfl w.heap.size v.cells.toArray ?_ ?_ 26 zeroR HRs.out HSz.out ?_ HOne.out ?_; exact rfl; exact rfl; exact rfl))
        obtain ⟨A0, A1, A2⟩ := post_storeR (cs := v.cells.toArray) (show w9.heap[w.heap.size]? = some (.cells zeroR 26) from HRs.out) HB4.out.gr (Nat.le_refl _) hgw HR4.out
        rw [HP2.out]
        exact bodyPost_ret (v := .tuple #[.agg v.cells.toArray, .bool true]) (results_cell_tmp (P := Try.prog) (fn := Try.f45) rfl _ _ w.heap.size 26 _ (0, 0) _ rfl A0 Try.underlying26 rfl HSz.out) rfl ⟨A2, ⟨v, rfl, ⟨_, _, A1⟩, own_res HREP4.out _⟩⟩
      | true =>
        have hj1 : j < s.size := isRep_lt (l := s.data.toList) hir
        have HP1 := hid ((pRepL_go (m := m) (t := t) (nd := nd') hir).symm.trans HPL.out)
        rw [hir] at HIR
        have hf : 0 ≤ firstIdx rxReps (nx s.data.toList j).toUInt8 := of_decide_eq_true HIR.out.symm
        have hf4 := firstIdx_lt rxReps (nx s.data.toList j).toUInt8
        have HTm := hid (fun (W : World) (h : Rd W g s j nd' c1 p1) => times_any h hj1 hs)
        have HTl := hid (fun lo hi k (e : pTimes s.data.toList j = .ok ((lo, hi), k)) => pTimes_lt e)
        clear HIR hir HPL hf4
        generalize pTimes s.data.toList j = r at *
        generalize firstIdx rxReps (nx s.data.toList j).toUInt8 = f at *
        generalize nx s.data.toList j = x at *
        unfold rxReps at HI
        go_wp2_with fail
        refine HN.out.mono ?_
        rintro e w4 ⟨rfl, hr4, hg4⟩
        have HB4 := hid (HB0.out.step hg4 hgB hgw)
        have HREP4 := hid (own_step HREP.out hg4 hgw)
        have HR4 := hid hr4
        clear hr4 hg4 HN HREP HB0
        go_wp2_with (go_at_call 49; refine (HI.out _).mono ?_; rintro e w9 ⟨rfl, rfl⟩)
        refine (HTm.out _ HR4.out).mono ?_
        rintro e w5 ⟨hg5, hp5⟩
        have HB5 := hid (HB4.out.step hg5 hgB hgw)
        have HREP5 := hid (own_step HREP4.out hg5 hgw)
        clear hg5 HB4 HREP4 HR4 HTm HI
        cases r with
        | error e2 =>
          obtain ⟨⟨u1, u2, rfl⟩, j', n', hr5⟩ := hp5
          have HPe : Hid (P = .error e2) := hid HP1.out.symm
          clear HP1
          go_wp2_with fail
          go_roundg m
          case measure => omega
          case rel => exact ⟨false, v, rfl, hid ⟨HB5.out, .inr ⟨rfl, e2.1, e2.2, HPe.out, _, _, hr5⟩⟩⟩
        | ok y =>
          obtain ⟨⟨lo, hi'⟩, k⟩ := y
          obtain ⟨rfl, c5, p5, hr5⟩ := hp5
          obtain ⟨hjk, hkl, hlo, hh1, hh2, hh3⟩ := HTl.out lo hi' k rfl
          have hks : k ≤ s.size := hkl hj1
          clear HTl hkl
          have hBw : B < w5.heap.size := HB5.out.box.lt
          have hBr : w.heap.size < B := hB1
          obtain ⟨x0, x1, x2, x3, x4, x5, x6, x7⟩ := Blk.cells8' HB5.out.box
          have hbK : Below w5.heap.size w5 (w5.alloc (.cells v.cells.toArray 26)) := (Below.refl _ _).alloc (Nat.le_refl _) _
          have HB6 := hid (HB5.out.below hbK)
          have HR6 := hid (Rd.keep hr5 hbK)
          have HREP6 := hid (own_kid HREP5.out (by omega) hBw 5 (0#256) (lo : Int) hi' 1)
          clear hbK hr5 HB5 HREP5
          by_cases hn : nd' + 1 ≤ 512
          · have HP3 : Hid (pRepL s.data.toList m (.nd 5 (0#256) [t] (lo : Int) hi') k (nd' + 1) = P) := hid (by
              have h := HP1.out
              simp only [mkN, if_pos hn] at h
              exact h)
            have HV2 : Hid (Value.agg #[.int .i64 5, .int .u64 0, .int .u64 0, .int .u64 0, .int .u64 0, .slice (some ⟨w5.heap.size, 0, none⟩) 1 1, .int .i64 (lo : Int), .int .i64 hi'] = .agg (RV.mk 5 (0#256) (some ⟨w5.heap.size, 0, none⟩) 1 1 (lo : Int) hi').cells.toArray) := hid (by simp [RV.cells, wd_zero])
            have HM := hid (made_yes HR6.out hn (RV.mk 5 (0#256) (some ⟨w5.heap.size, 0, none⟩) 1 1 (lo : Int) hi'))
            rw [RV.val_eq, ← HV2.out] at HM
            have HSz := hid (rx_size (RV.mk 5 (0#256) (some ⟨w5.heap.size, 0, none⟩) 1 1 (lo : Int) hi'))
            have HOne := hid (rx_one (RV.mk 5 (0#256) (some ⟨w5.heap.size, 0, none⟩) 1 1 (lo : Int) hi'))
            clear HP1
            go_wp2_with fail
            refine HM.out.mono ?_
            rintro e w6 ⟨rfl, hr6, hg6⟩
            have HB7 := hid (HB6.out.step hg6 hgB hgw)
            have HREP7 := hid (own_step HREP6.out hg6 hgw)
            have HR7 := hid hr6
            have HBx := hid HB7.out.box
            generalize RV.mk 5 (0#256) (some ⟨w5.heap.size, 0, none⟩) 1 1 (lo : Int) hi' = v2 at *
            clear hr6 hg6 HM HB6 HREP6 HR6 x0 x1 x2 x3 x4 x5 x6 x7
            go_wp2_with (refine wpList_store_row rfl 26 _ _ rfl B v2.cells.toArray ?_ ?_ 26 v.cells.toArray HBx.out HSz.out ?_ HOne.out ?_; exact rfl; exact HV2.out; exact rfl)
            go_roundg m
            case measure => omega
            case rel => exact ⟨true, v2, rfl, hid ⟨HB7.out.put hBr v2, .inl ⟨rfl, _, k, nd' + 1, HP3.out, hks, hn, by omega, ⟨_, _, (setRow_other _ _ _ _ hgB).trans HR7.out⟩, own_put HREP7.out _⟩⟩⟩
          · have HPe : Hid (P = .error (2, k)) := hid (by
              have h := HP1.out
              simp only [mkN, if_neg hn] at h
              exact h.symm)
            have HV2 : Hid (Value.agg #[.int .i64 5, .int .u64 0, .int .u64 0, .int .u64 0, .int .u64 0, .slice (some ⟨w5.heap.size, 0, none⟩) 1 1, .int .i64 (lo : Int), .int .i64 hi'] = .agg (RV.mk 5 (0#256) (some ⟨w5.heap.size, 0, none⟩) 1 1 (lo : Int) hi').cells.toArray) := hid (by simp [RV.cells, wd_zero])
            have HM := hid (made_no HR6.out (by omega) (by omega) (RV.mk 5 (0#256) (some ⟨w5.heap.size, 0, none⟩) 1 1 (lo : Int) hi'))
            rw [RV.val_eq, ← HV2.out] at HM
            clear HP1 HREP6
            go_wp2_with fail
            refine HM.out.mono ?_
            rintro e w6 ⟨rfl, hr6, hg6⟩
            have HB7 := hid (HB6.out.step hg6 hgB hgw)
            have HR7 := hid hr6
            have HBx := hid HB7.out.box
            have HZe := hid (congrArg Value.agg zeroR_eq.symm)
            clear hr6 hg6 HM HB6 HR6 HV2 x0 x1 x2 x3 x4 x5 x6 x7
            go_wp2_with (refine wpList_store_row rfl 26 _ _ rfl B RV.zero.cells.toArray ?_ ?_ 26 v.cells.toArray HBx.out (rx_size _) ?_ (rx_one _) ?_; exact rfl; exact HZe.out; exact rfl)
            go_roundg m
            case measure => omega
            case rel => exact ⟨false, RV.zero, rfl, hid ⟨HB7.out.put hBr RV.zero, .inr ⟨rfl, 2, k, HPe.out, _, _, (setRow_other _ _ _ _ hgB).trans HR7.out⟩⟩⟩
    · have HP2 : Hid (P = .error (c1, p1)) := hid hP
      have HRr := hid hr
      clear hP hr
      obtain ⟨x0, x1, x2, x3, x4, x5, x6, x7⟩ := Blk.cells8' HB0.out.box
      have HSz := hid (rx_size v)
      have HOne := hid (rx_one v)
      have HRs := hid HB0.out.res
      go_wp2_with (first
        | (refine wpList_store_row rfl 26 _ _ rfl w.heap.size v.cells.toArray ?_ ?_ 26 zeroR HRs.out HSz.out ?_ HOne.out ?_; exact rfl; exact rfl; exact rfl))
      obtain ⟨A0, A1, A2⟩ := post_storeR (cs := v.cells.toArray) (show wr.heap[w.heap.size]? = some (.cells zeroR 26) from HRs.out) HB0.out.gr (Nat.le_refl _) hgw HRr.out
      rw [HP2.out]
      exact bodyPost_ret (v := .tuple #[.agg v.cells.toArray, .bool false]) (results_cell_tmp (P := Try.prog) (fn := Try.f45) rfl _ _ w.heap.size 26 _ (0, 0) _ rfl A0 Try.underlying26 rfl HSz.out) rfl ⟨A2, ⟨v, rfl⟩, _, _, A1⟩
end Go.Proofs.Ytimffgmbchpfeaa
