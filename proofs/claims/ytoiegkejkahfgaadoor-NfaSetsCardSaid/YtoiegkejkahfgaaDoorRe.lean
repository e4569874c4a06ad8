/- regex: what stands between two bars. -/
import Derived.Test.YtoiegkejkahfgaaDoorRp
import Derived.Maps.AppendAt
set_option linter.unusedVariables false
set_option linter.unusedSimpArgs false
namespace Go.Proofs.YtoiegkejkahfgaaDoor
open Go.RowKit

set_option maxRecDepth 100000 in
theorem next_q {w : World} {g : Nat} {s : ByteArray} {i nd : Nat} {c p : Int} (h : Rd w g s i nd c p) (hi : i ≤ s.size) (hs : s.size ≤ 512) (n : Nat) :
    Calls Tryd.prog 62 #[.pointer (some ⟨g, 0, none⟩)] (w.drewN n) fun e w' => e = .returned (.int .u8 ((nx s.data.toList i : Nat) : Int)) ∧ ∃ m, w' = w.drewN m := by
  obtain ⟨h0, h1, _⟩ := h.cells
  have hsz : s.size ≤ 9223372036854775807 := by omega
  by_cases he : i = s.size
  · have hn : nx s.data.toList i = 0 := by
      unfold nx
      rw [List.getD_eq_getElem?_getD, List.getElem?_eq_none (by rw [he]; exact Nat.le_refl _)]
      rfl
    have HN := hid hn
    clear hn
    subst he
    go_enter Tryd.func62, Tryd.ntmps62
    go_wp2
    go_region
    all_goals
      go_wp2
      go_ret
      exact ⟨by rw [HN.out]; rfl, n + 1, rfl⟩
  · have hlt : i < s.size := by omega
    have HN := hid (nx_at (l := s.data.toList) (i := i) hlt)
    have hne : ¬ (i : Int) = (s.size : Int) := by omega
    go_enter Tryd.func62, Tryd.ntmps62
    go_wp2
    go_region
    all_goals
      go_wp2
      go_region
      all_goals
        go_wp2
        go_ret
        exact ⟨by rw [HN.out]; rfl, n + 1 + 1, rfl⟩
theorem pRepL_le {s : ByteArray} : ∀ {m : Nat} {t t' : RT} {j nd j' nd' : Nat}, j ≤ s.size → nd ≤ 512 → pRepL s.data.toList m t j nd = .ok (t', j', nd') → j ≤ j' ∧ j' ≤ s.size ∧ nd' ≤ 512 := by
  intro m
  induction m with
  | zero => intro t t' j nd j' nd' _ _ e; cases e
  | succ m ih =>
    intro t t' j nd j' nd' hj hnd e
    cases hr : isRep (nx s.data.toList j) with
    | false =>
      rw [pRepL_stop hr] at e
      simp only [Except.ok.injEq, Prod.mk.injEq] at e
      omega
    | true =>
      rw [pRepL_go hr] at e
      have hj1 : j < s.size := isRep_lt (l := s.data.toList) hr
      split at e
      · cases e
      · rename_i lo hi k h1
        have h2 := pTimes_lt h1
        have h3 : k ≤ s.size := h2.2.1 hj1
        split at e
        · cases e
        · rename_i t2 k2 n2 h4
          have h5 := mkN_ok h4
          have h6 := ih h3 (by omega) e
          omega
theorem pRep_le {s : ByteArray} {g dp : Nat} {E : Nat → Nat → NR RT} (HE : EitherAt g s dp E) {i nd : Nat} (hi : i ≤ s.size) (hnd : nd ≤ 512) {t : RT} {j nd' : Nat} (e : pRep s.data.toList E i nd = .ok (t, j, nd')) : i < j ∧ j ≤ s.size ∧ nd' ≤ 512 := by
  unfold pRep at e
  split at e
  · cases e
  · rename_i t1 k n1 h1
    have h2 := pOne_le HE hi hnd h1
    have h3 := pRepL_le h2.2.1 h2.2.2 e
    omega
theorem Kids.same {w w' : World} {base : Nat} {v : Value} {ts : List RT} (h : Kids w base v ts) (hs : w.heap.size ≤ w'.heap.size) (hb : ∀ b, base ≤ b → b < w.heap.size → w'.heap[b]? = w.heap[b]?) : Kids w' base v ts := by
  obtain ⟨vs, h1, h2, h3⟩ := h.out
  refine ⟨vs, h1, ⟨h2.1, ?_⟩, fun j a b => (h3 j a b).mono hs (fun c hp hl => hb c hp.1 hl) (fun _ h _ => h)⟩
  rcases h2.2 with hn | ⟨g', cap, cur, rfl, hb', hg', r⟩
  · exact .inl hn
  · exact .inr ⟨g', cap, cur, rfl, hb', (hb g' hb' (Array.getElem?_eq_some_iff.1 hg').1).trans hg', r⟩
theorem Kids.below {w w' : World} {base : Nat} {v : Value} {ts : List RT} (h : Kids w base v ts) (hb : Below w.heap.size w w') : Kids w' base v ts := h.same hb.size (fun b _ hl => hb.block b hl)
theorem info_rx : (Tryd.prog.info? 26).map (fun i => (i.zero, i.size, i.bytes)) = some (some (.agg zeroR), 8, 80) := by kernel_rfl
theorem pCatL_end {l : List UInt8} {E : Nat → Nat → NR RT} {m j nd : Nat} {ks : List RT} (h : ¬ (j < l.length ∧ nx l j ≠ 124 ∧ nx l j ≠ 41)) : pCatL l E (m + 1) ks j nd = if ks.isEmpty = true then mkN (.nd 1 (0#256) [] 0 0) j nd else joinN 3 ks j nd := by
  rw [pCatL, if_neg h]
theorem pCatL_go {l : List UInt8} {E : Nat → Nat → NR RT} {m j nd : Nat} {ks : List RT} (h : j < l.length ∧ nx l j ≠ 124 ∧ nx l j ≠ 41) : pCatL l E (m + 1) ks j nd = (match pRep l E j nd with
      | .error e => .error e
      | .ok (t, k, nd') => pCatL l E m (ks ++ [t]) k nd') := by
  rw [pCatL, if_pos h]
  rfl
/-- What stands while expressions are collected. -/
structure CatSt (w : World) (g : Nat) (s : ByteArray) (j nd : Nat) (u : Value) (ks : List RT) (W : World) : Prop where
  gr : w.grownBy W (some g)
  res : Blk W w.heap.size 26 zeroR.toList
  rd : ∃ c p, Rd W g s j nd c p
  kids : Kids W (w.heap.size + 1) u ks

theorem Kids.own_lt {w : World} {base : Nat} {v : Value} {ts : List RT} (h : Kids w base v ts) : ∀ b, v.ownBlock = some b → base ≤ b ∧ b < w.heap.size := by
  intro b hb
  obtain ⟨vs, _, h2, _⟩ := h.out
  rcases h2.2 with ⟨rfl, _⟩ | ⟨g', cap, cur, rfl, hb', hg', _⟩
  · cases hb
  · injection hb with hb
    subst hb
    exact ⟨hb', (Array.getElem?_eq_some_iff.1 hg').1⟩
theorem new_cells (w : World) (v : RV) : ∀ j u, v.cells[j]? = some u → (w.alloc (.cells v.cells.toArray 26)).cell? ((⟨w.heap.size, 0, none⟩ : Addr).add j) = some u := by
  intro j u hj
  rw [addr_add, Nat.zero_add]
  exact (Blk.at (Blk.fresh w 26 v.cells) j).trans hj
theorem rx_ones (v : RV) : ∀ u ∈ v.cells, u.oneCell' = true := by
  intro u hu
  simp only [RV.cells, List.mem_cons, List.not_mem_nil, or_false] at hu
  rcases hu with rfl | rfl | rfl | rfl | rfl | rfl | rfl | rfl <;> rfl
theorem CatSt.drewN {w W : World} {g : Nat} {s : ByteArray} {j nd : Nat} {u : Value} {ks : List RT} (h : CatSt w g s j nd u ks W) (n : Nat) : CatSt w g s j nd u ks (W.drewN n) :=
  ⟨⟨h.gr.os, h.gr.tape, h.gr.output, h.gr.size, h.gr.block⟩, h.res, h.rd, h.kids.same (Nat.le_refl _) (fun _ _ _ => rfl)⟩
theorem CatSt.step {w W W' : World} {g : Nat} {s : ByteArray} {j nd j' nd' : Nat} {u : Value} {ks : List RT} (h : CatSt w g s j nd u ks W) (hg : W.grownBy W' (some g)) (hr : ∃ c p, Rd W' g s j' nd' c p) (h1 : g < w.heap.size) : CatSt w g s j' nd' u ks W' :=
  ⟨grown_trans h.gr hg, (hg.block _ h.res.lt (by intro e; injection e with e; omega)).trans h.res, hr, h.kids.grown hg (by omega)⟩
theorem CatSt.below {w W W' : World} {g : Nat} {s : ByteArray} {j nd : Nat} {u : Value} {ks : List RT} (h : CatSt w g s j nd u ks W) (hb : Below W.heap.size W W') : CatSt w g s j nd u ks W' := by
  obtain ⟨c, p, hr⟩ := h.rd
  exact ⟨below_of_new h.gr hb, h.res.keep hb, ⟨c, p, hr.keep hb⟩, h.kids.below hb⟩
/-- One more is collected. -/
theorem CatSt.snoc {w w5 w6 w7 : World} {g : Nat} {s : ByteArray} {j nd : Nat} {u u' : Value} {ks : List RT} {x : RV} {t : RT} (h : CatSt w g s j nd u ks w5) (h6 : Below w5.heap.size w5 w6) (hgw : g < w.heap.size) (vs : List RV) (h1 : vs.length = ks.length)
    (h3 : ∀ j (h1 : j < vs.length) (h2 : j < ks.length), Rep w5 (fun b => w.heap.size + 1 ≤ b ∧ u.ownBlock ≠ some b) vs[j] ks[j]) (hx : Rep w5 (fun b => w.heap.size + 1 ≤ b ∧ u.ownBlock ≠ some b) x t)
    (hown : w7.ownsRow (w.heap.size + 1) 26 8 u' (ks.length + 1) (flatR vs ++ x.cells)) (hg : w6.grownBy w7 u.ownBlock) (hv : u'.ownBlock = u.ownBlock ∨ u'.ownBlock = some w6.heap.size) : CatSt w g s j nd u' (ks ++ [t]) w7 := by
  have h56 := h.below h6
  obtain ⟨c, p, hr⟩ := h56.rd
  have hge := h.kids.own_lt
  refine ⟨⟨hg.os.trans h56.gr.os, hg.tape.trans h56.gr.tape, hg.output.trans h56.gr.output, Nat.le_trans h56.gr.size hg.size, fun k hk hn => ?_⟩, ?_, ⟨c, p, ?_⟩, ?_⟩
  · have hk6 : k < w6.heap.size := Nat.lt_of_lt_of_le hk h56.gr.size
    exact (hg.block k hk6 (fun e => by have := hge k e.symm; omega)).trans (h56.gr.block k hk hn)
  · exact (hg.block _ h56.res.lt (fun e => by have := hge _ e.symm; omega)).trans h56.res
  · exact (hg.block _ (Blk.lt hr) (fun e => by have := hge _ e.symm; omega)).trans hr
  · exact Kids.snoc vs h1 h3 hx (fun b hb => h6.block b hb) h6.size hown hg hv

set_option maxRecDepth 100000 in
set_option maxHeartbeats 8000000 in
theorem behind_any {w : World} {g : Nat} {s : ByteArray} {i nd : Nat} {c p : Int} (h : Rd w g s i nd c p) (hi : i ≤ s.size) (hnd : nd ≤ 512) (hs : s.size ≤ 512) (dp : Nat) (hdp : dp ≤ 32) (E : Nat → Nat → NR RT) (HE : EitherAt g s (dp + 1) E) :
    Calls Tryd.prog 46 #[.pointer (some ⟨g, 0, none⟩), .int .i64 (dp : Int)] w (PostN (pCatL s.data.toList E (s.data.toList.length + 1) [] i nd) w g s) := by
  have hgw := Blk.lt h
  have hA : Below w.heap.size w (w.alloc (.cells zeroR 26)) := (Below.refl _ _).alloc (Nat.le_refl _) _
  have HSt : Hid (CatSt w g s i nd (.slice none 0 0) [] (w.alloc (.cells zeroR 26))) := hid ⟨grown_of_below hA (some g), heap_alloc_new w (.cells zeroR 26), ⟨c, p, h.keep hA⟩, Kids.nil _ _⟩
  have HRep := hid (fun (W : World) (j nd : Nat) (c p : Int) (h : Rd W g s j nd c p) (hj : j ≤ s.size) (hnd : nd ≤ 512) => rep_any h hj hnd hs dp hdp E HE)
  have HRl := hid (fun j nd t k nd' (hj : j ≤ s.size) (hnd : nd ≤ 512) (e : pRep s.data.toList E j nd = .ok (t, k, nd')) => pRep_le HE hj hnd e)
  obtain ⟨P, hP⟩ : ∃ P, P = pCatL s.data.toList E (s.data.toList.length + 1) [] i nd := ⟨_, rfl⟩
  rw [← hP]
  have HP := hid hP.symm
  clear hA h HE hP
  go_enter Tryd.func46, Tryd.ntmps46
  go_upto_region 1 with (fail)
  change Code.wp _ _ _ _ (w.alloc (.cells zeroR 26))
  generalize w.alloc (.cells zeroR 26) = w1 at *
  go_wp2_with fail
  go_loopg [6] (s.size + 1) (fun m u wr => ∃ (j nd' : Nat) (ks : List RT), j ≤ s.size ∧ nd' ≤ 512 ∧ s.size < m + j ∧ ks.length ≤ j ∧ Hid (pCatL s.data.toList E m ks j nd' = P) ∧ Hid (CatSt w g s j nd' u ks wr))
  case atStart => exact ⟨i, nd, [], hi, hnd, by omega, by simp, HP, HSt⟩
  case round =>
    clear HSt HP
    obtain ⟨j, nd', ks, hj, hnd', hm, hkj, HE, HS⟩ := hrel
    obtain ⟨m, rfl⟩ : ∃ m, gk = m + 1 := ⟨gk - 1, by omega⟩
    obtain ⟨c1, p1, hr⟩ := HS.out.rd
    obtain ⟨A, cp, rfl⟩ := HS.out.kids.shape
    have HNq := hid (fun n => next_q hr hj hs n)
    obtain ⟨k0, k1, k2, k3, k4, f1, f2, f3, f4⟩ := hr.cells
    have hszl : s.data.toList.length = s.size := rfl
    have hx256 := nx_byte s.data.toList j
    by_cases hgo : j < s.data.toList.length ∧ nx s.data.toList j ≠ 124 ∧ nx s.data.toList j ≠ 41
    · have HP1 := hid ((pCatL_go (E := E) (m := m) (ks := ks) (nd := nd') hgo).symm.trans HE.out)
      obtain ⟨g1, g2, g3⟩ := hgo
      have n1 : (j : Int) < (s.size : Int) := by omega
      have n2 : ¬ ((nx s.data.toList j : Nat) : Int) = 124 := by omega
      have n3 : ¬ ((nx s.data.toList j : Nat) : Int) = 41 := by omega
      clear HE g1 g2 g3
      generalize nx s.data.toList j = x at *
      go_wp2_with fail
      go_quiet (first | (go_at_call 62; exact HNq.out _))
      have HS1 := hid (HS.out.drewN nq)
      have hr1 : Rd (wr.drewN nq) g s j nd' c1 p1 := hr
      have n4 : ((x : Int) != 124) = true := by simpa using n2
      have n5 : ((x : Int) != 41) = true := by simpa using n3
      rw [n4, n5]
      clear k0 k1 k2 k3 k4 f1 f2 f3 f4 HNq n1 n2 n3 hr HS
      generalize wr.drewN nq = wd at *
      have HRl2 := hid (fun t k n2 (e : pRep s.data.toList E j nd' = .ok (t, k, n2)) => HRl.out j nd' t k n2 hj hnd' e)
      have HRp := hid (HRep.out wd j nd' c1 p1 hr1 hj hnd')
      clear HRl HRep hr1
      generalize pRep s.data.toList E j nd' = r at *
      go_wp2_with fail
      refine HRp.out.mono ?_
      rintro e w4 hpost
      obtain ⟨v, ok, rfl, hg4, hst⟩ := hpost.un
      clear hpost HRp n4 n5
      have hbx : Below w4.heap.size w4 ((w4.alloc (.cells #[.int .i64 0, .int .u64 0, .int .u64 0, .int .u64 0, .int .u64 0, .slice none 0 0, .int .i64 0, .int .i64 0] 26)).setRow w4.heap.size v.cells.toArray) := below_row ((Below.refl _ _).alloc (Nat.le_refl _) _) (Nat.le_refl _) _
      have HX5 := hid (show Blk ((w4.alloc (.cells #[.int .i64 0, .int .u64 0, .int .u64 0, .int .u64 0, .int .u64 0, .slice none 0 0, .int .i64 0, .int .i64 0] 26)).setRow w4.heap.size v.cells.toArray) w4.heap.size 26 v.cells from setRow_heap _ _ _ _ _ (0, 0) (heap_alloc_new w4 _))
      have HSz := hid (rx_size v)
      have HOne := hid (rx_one v)
      unfold RV.val
      rcases hst with ⟨rfl, t, k, n2, rfl, hr4, hrep⟩ | ⟨rfl, c4, p4, rfl, k, n2, hr4⟩
      · obtain ⟨hjk, hks, hn2⟩ := HRl2.out t k n2 rfl
        have HP2 : Hid (pCatL s.data.toList E m (ks ++ [t]) k n2 = P) := hid HP1.out
        have HS5 := hid ((HS1.out.step hg4 hr4 hgw).below hbx)
        have HREP5 := hid (show Rep ((w4.alloc (.cells #[.int .i64 0, .int .u64 0, .int .u64 0, .int .u64 0, .int .u64 0, .slice none 0 0, .int .i64 0, .int .i64 0] 26)).setRow w4.heap.size v.cells.toArray) (fun b => w.heap.size + 1 ≤ b ∧ (Value.slice A ks.length cp).ownBlock ≠ some b) v t from hrep.mono hbx.size (fun b _ hl => hbx.block b hl) (fun b hb hl => ⟨by have h1 := HS1.out.gr.size; have h2 := HS1.out.res.lt; have h3 : wd.heap.size ≤ b := hb; omega, fun e => by have h1 := HS1.out.kids.own_lt b e; have h3 : wd.heap.size ≤ b := hb; omega⟩))
        clear hbx hg4 hr4 hrep HS1 HP1 HRl2
        obtain ⟨i0, hi0, hz0, hz1, hz2⟩ := info_parts info_rx
        have hk512 : ks.length + 1 ≤ 1024 := by omega
        go_wp2_with (first
          | (refine wpList_store_row rfl 26 _ _ rfl w4.heap.size v.cells.toArray ?_ ?_ 26 #[.int .i64 0, .int .u64 0, .int .u64 0, .int .u64 0, .int .u64 0, .slice none 0 0, .int .i64 0, .int .i64 0] (heap_alloc_new w4 _) HSz.out ?_ HOne.out ?_; exact rfl; exact rfl; exact rfl; generalize (w4.alloc (.cells #[.int .i64 0, .int .u64 0, .int .u64 0, .int .u64 0, .int .u64 0, .slice none 0 0, .int .i64 0, .int .i64 0] 26)).setRow w4.heap.size v.cells.toArray = w5 at *; obtain ⟨x0, x1, x2, x3, x4, x5, x6, x7⟩ := Blk.cells8' HX5.out; obtain ⟨vs, hv1, hv2, hv3⟩ := HS5.out.kids.out; have H6 := hid (show Below w5.heap.size w5 (w5.alloc (.cells v.cells.toArray 26)) from (Below.refl _ _).alloc (Nat.le_refl _) _); have HOwn := hid (hv2.alloc (.cells v.cells.toArray 26)); have HV3 := hid hv3; have HV1 := hid hv1; have HC := hid (new_cells w5 v); clear hv1 hv2 hv3)
          | (refine wpList_append_own_at _ rfl _ _ 24 rfl (w.heap.size + 1) 26 i0 (.agg zeroR) 8 80 Tryd.underlying24 hi0 hz0 hz1 hz2 rfl (by decide) _ _ _ rfl HOwn.out ⟨w5.heap.size, 0, none⟩ 1 1 v.cells rfl rfl HC.out (rx_ones v) (by unfold maxLen; omega) (by omega) (by have := HS5.out.gr.size; have := HS5.out.res.lt; simp; omega) ?_; intro u7 w7 hown7 hgrow7 _ hblk7; have HS7 := hid (HS5.out.snoc H6.out hgw vs HV1.out HV3.out HREP5.out hown7 hgrow7 hblk7); clear hown7 hgrow7 hblk7 x0 x1 x2 x3 x4 x5 x6 x7))
        go_roundg m
        case measure => omega
        case rel => exact ⟨k, n2, ks ++ [t], hks, hn2, by omega, by simp; omega, HP2, HS7⟩
      · have HPe : Hid (P = .error (c4, p4)) := hid HP1.out.symm
        have HZ5 := hid (Blk.keep (cs := zeroR.toList) ((hg4.block w.heap.size HS1.out.res.lt (by intro e; injection e with e; omega)).trans HS1.out.res) hbx)
        have HG5 := hid (below_of_new (grown_trans HS1.out.gr hg4) hbx)
        have HR5 := hid (Rd.keep hr4 hbx)
        clear hbx hg4 hr4 HS1 HP1 HRl2
        go_wp2_with (first
          | (refine wpList_store_row rfl 26 _ _ rfl w4.heap.size v.cells.toArray ?_ ?_ 26 #[.int .i64 0, .int .u64 0, .int .u64 0, .int .u64 0, .int .u64 0, .slice none 0 0, .int .i64 0, .int .i64 0] (heap_alloc_new w4 _) HSz.out ?_ HOne.out ?_; exact rfl; exact rfl; exact rfl; generalize (w4.alloc (.cells #[.int .i64 0, .int .u64 0, .int .u64 0, .int .u64 0, .int .u64 0, .slice none 0 0, .int .i64 0, .int .i64 0] 26)).setRow w4.heap.size v.cells.toArray = w5 at *)
          | (refine wpList_store_row rfl 26 _ _ rfl w.heap.size zeroR ?_ ?_ 26 zeroR HZ5.out (by rw [← zeroR_eq]; exact rx_size _) ?_ (by rw [← zeroR_eq]; exact rx_one _) ?_; exact rfl; exact rfl; exact rfl))
        obtain ⟨A0, A1, A2⟩ := post_storeR (cs := zeroR) (show w5.heap[w.heap.size]? = some (.cells zeroR 26) from HZ5.out) HG5.out (Nat.le_refl _) hgw HR5.out
        rw [HPe.out]
        exact bodyPost_ret (v := .tuple #[.agg zeroR, .bool false]) (results_cell_tmp (P := Tryd.prog) (fn := Tryd.f46) rfl _ _ w.heap.size 26 _ (0, 0) _ rfl A0 Tryd.underlying26 rfl (by rw [← zeroR_eq]; exact rx_size _)) rfl ⟨A2, ⟨RV.zero, by rw [rx_zero]; rfl⟩, _, _, A1⟩
    · have HPE := hid (((pCatL_end (E := E) (m := m) (ks := ks) (nd := nd') hgo).symm.trans HE.out).symm)
      clear HE
      have h3 : s.size ≤ j ∨ (j < s.size ∧ nx s.data.toList j = 124) ∨ (j < s.size ∧ nx s.data.toList j ≠ 124 ∧ nx s.data.toList j = 41) := by
        by_cases h1 : j < s.size
        · by_cases h2 : nx s.data.toList j = 124
          · exact .inr (.inl ⟨h1, h2⟩)
          · exact .inr (.inr ⟨h1, h2, by
              by_cases h4 : nx s.data.toList j = 41
              · exact h4
              · exact absurd ⟨h1, h2, h4⟩ hgo⟩)
        · exact .inl (by omega)
      clear hgo
      rcases h3 with h3 | ⟨h3, h4⟩ | ⟨h3, h4, h5⟩
      · have hjs : j = s.size := by omega
        subst hjs
        generalize nx s.data.toList s.size = x at *
        go_wp2_with fail
        go_quiet (first | (go_at_call 62; exact HNq.out _))
        have HS1 := hid (HS.out.drewN nq)
        have hr1 : Rd (wr.drewN nq) g s s.size nd' c1 p1 := hr
        clear k0 k1 k2 k3 k4 f1 f2 f3 f4 HNq hr HS HRl HRep
        generalize wr.drewN nq = wd at *
        rcases ks with _ | ⟨t, _ | ⟨t2, ks⟩⟩
        · have HP2 : Hid (P = mkN (.nd 1 (0#256) [] 0 0) s.size nd') := hid HPE.out
          clear HPE
          by_cases hn : nd' + 1 ≤ 512
          · have HP3 : Hid (P = .ok (.nd 1 (0#256) [] 0 0, s.size, nd' + 1)) := hid (by rw [HP2.out]; unfold mkN; rw [if_pos hn])
            have HM := made_yes hr1 hn (RV.mk 1 (0#256) none 0 0 0 0)
            rw [RV.val_eq] at HM
            have HV2 : Hid (Value.agg #[.int .i64 1, .int .u64 0, .int .u64 0, .int .u64 0, .int .u64 0, .slice none 0 0, .int .i64 0, .int .i64 0] = .agg (RV.mk 1 (0#256) none 0 0 0 0).cells.toArray) := hid (by simp [RV.cells, wd_zero])
            rw [← HV2.out] at HM
            have HMh := hid HM
            clear HM HP2
            go_wp2_with fail
            refine (HMh.out).mono ?_
            rintro e w9 ⟨rfl, hr9, hg9⟩
            have HZ9 := hid (show w9.heap[w.heap.size]? = some (.cells zeroR 26) from (hg9.block w.heap.size HS1.out.res.lt (by intro e; injection e with e; omega)).trans HS1.out.res)
            have HG9 := hid (grown_trans HS1.out.gr hg9)
            go_wp2_with (refine wpList_store_row rfl 26 _ _ rfl w.heap.size (RV.mk 1 (0#256) none 0 0 0 0).cells.toArray ?_ ?_ 26 zeroR HZ9.out (rx_size _) ?_ (rx_one _) ?_; exact rfl; exact HV2.out; exact rfl)
            obtain ⟨A0, A1, A2⟩ := post_storeR (cs := (RV.mk 1 (0#256) none 0 0 0 0).cells.toArray) HZ9.out HG9.out (Nat.le_refl _) hgw hr9
            rw [HP3.out]
            exact bodyPost_ret (v := .tuple #[.agg (RV.mk 1 (0#256) none 0 0 0 0).cells.toArray, .bool true]) (results_cell_tmp (P := Tryd.prog) (fn := Tryd.f46) rfl _ _ w.heap.size 26 _ (0, 0) _ rfl A0 Tryd.underlying26 rfl (rx_size _)) rfl ⟨A2, ⟨(RV.mk 1 (0#256) none 0 0 0 0), by rw [← HV2.out]; simp [RV.val, wd_zero], ⟨_, _, A1⟩, Rep.leaf _ _ 1 (0#256) 0 0 0 none⟩⟩
          · have HP3 : Hid (P = .error (2, s.size)) := hid (by rw [HP2.out]; unfold mkN; rw [if_neg hn])
            have HM := made_no hr1 (by omega) (by omega) (RV.mk 1 (0#256) none 0 0 0 0)
            rw [RV.val_eq] at HM
            have HV2 : Hid (Value.agg #[.int .i64 1, .int .u64 0, .int .u64 0, .int .u64 0, .int .u64 0, .slice none 0 0, .int .i64 0, .int .i64 0] = .agg (RV.mk 1 (0#256) none 0 0 0 0).cells.toArray) := hid (by simp [RV.cells, wd_zero])
            rw [← HV2.out] at HM
            have HMh := hid HM
            clear HM HP2 HV2
            go_wp2_with fail
            refine (HMh.out).mono ?_
            rintro e w9 ⟨rfl, hr9, hg9⟩
            have HZ9 := hid (show w9.heap[w.heap.size]? = some (.cells zeroR 26) from (hg9.block w.heap.size HS1.out.res.lt (by intro e; injection e with e; omega)).trans HS1.out.res)
            have HG9 := hid (grown_trans HS1.out.gr hg9)
            go_wp2_with (refine wpList_store_row rfl 26 _ _ rfl w.heap.size zeroR ?_ ?_ 26 zeroR HZ9.out (by rw [← zeroR_eq]; exact rx_size _) ?_ (by rw [← zeroR_eq]; exact rx_one _) ?_; exact rfl; exact rfl; exact rfl)
            obtain ⟨A0, A1, A2⟩ := post_storeR (cs := zeroR) HZ9.out HG9.out (Nat.le_refl _) hgw hr9
            rw [HP3.out]
            exact bodyPost_ret (v := .tuple #[.agg zeroR, .bool false]) (results_cell_tmp (P := Tryd.prog) (fn := Tryd.f46) rfl _ _ w.heap.size 26 _ (0, 0) _ rfl A0 Tryd.underlying26 rfl (by rw [← zeroR_eq]; exact rx_size _)) rfl ⟨A2, ⟨RV.zero, by rw [rx_zero]; rfl⟩, _, _, A1⟩
        · have HP3 : Hid (P = .ok (t, s.size, nd')) := hid HPE.out
          obtain ⟨g0, x0, hA1, rfl, hrow, hrep⟩ := HS1.out.kids.one
          have hg0 : g0 < wd.heap.size := (HS1.out.kids.own_lt g0 rfl).2
          have HM := hid (joined_one hr1 3 g0 cp x0 hrow hg0)
          have HREP := hid hrep
          unfold RV.val at HM
          clear HPE hrow hrep
          go_wp2_with fail
          refine (HM.out).mono ?_
          rintro e w9 ⟨rfl, hr9, hg9⟩
          have HZ9 := hid (show w9.heap[w.heap.size]? = some (.cells zeroR 26) from (hg9.block w.heap.size HS1.out.res.lt (by intro e; injection e with e; omega)).trans HS1.out.res)
          have HG9 := hid (grown_trans HS1.out.gr hg9)
          go_wp2_with (refine wpList_store_row rfl 26 _ _ rfl w.heap.size x0.cells.toArray ?_ ?_ 26 zeroR HZ9.out (rx_size _) ?_ (rx_one _) ?_; exact rfl; exact rfl; exact rfl)
          obtain ⟨A0, A1, A2⟩ := post_storeR (cs := x0.cells.toArray) HZ9.out HG9.out (Nat.le_refl _) hgw hr9
          have REPEND := (HREP.out.mono hg9.size (fun b hp hl => hg9.block b hl (by intro e; injection e with e; have : w.heap.size + 1 ≤ b := hp; omega)) (fun _ h _ => h)).mono (w' := w9.setRow w.heap.size x0.cells.toArray) (Q := (w.heap.size ≤ ·)) (by simp [World.setRow]) (fun b hp _ => setRow_other _ _ _ _ (by have : w.heap.size + 1 ≤ b := hp; omega)) (fun b h _ => by have : w.heap.size + 1 ≤ b := h; omega)
          rw [HP3.out]
          exact bodyPost_ret (v := .tuple #[.agg x0.cells.toArray, .bool true]) (results_cell_tmp (P := Tryd.prog) (fn := Tryd.f46) rfl _ _ w.heap.size 26 _ (0, 0) _ rfl A0 Tryd.underlying26 rfl (rx_size _)) rfl ⟨A2, ⟨x0, rfl, ⟨_, _, A1⟩, REPEND⟩⟩
        · have HP2 : Hid (P = mkN (.nd 3 (0#256) (t :: t2 :: ks) 0 0) s.size nd') := hid HPE.out
          have hlen : (t :: t2 :: ks).length = ks.length + 1 + 1 := rfl
          rw [hlen]
          have hkl : ks.length ≤ 512 := by have : ks.length + 1 + 1 ≤ s.size := hkj; omega
          clear HPE
          by_cases hn : nd' + 1 ≤ 512
          · have HP3 : Hid (P = .ok (.nd 3 (0#256) (t :: t2 :: ks) 0 0, s.size, nd' + 1)) := hid (by rw [HP2.out]; unfold mkN; rw [if_pos hn])
            have HM := hid (joined_many hr1 hn 3 A (ks.length + 1 + 1) cp (by omega) (by omega))
            have HV2 := hid (many_val 3 A (ks.length + 1 + 1) cp)
            have HV3 := hid (RV.val_eq (RV.many 3 A (ks.length + 1 + 1) cp))
            have HREP := hid (HS1.out.kids.rep 3 (0#256) 0 0)
            rw [HV2.out] at HM HV3
            clear HP2
            go_wp2_with fail
            refine (HM.out).mono ?_
            rintro e w9 ⟨rfl, hr9, hg9⟩
            have HZ9 := hid (show w9.heap[w.heap.size]? = some (.cells zeroR 26) from (hg9.block w.heap.size HS1.out.res.lt (by intro e; injection e with e; omega)).trans HS1.out.res)
            have HG9 := hid (grown_trans HS1.out.gr hg9)
            go_wp2_with (refine wpList_store_row rfl 26 _ _ rfl w.heap.size (RV.many 3 A (ks.length + 1 + 1) cp).cells.toArray ?_ ?_ 26 zeroR HZ9.out (rx_size _) ?_ (rx_one _) ?_; exact rfl; exact HV3.out; exact rfl)
            obtain ⟨A0, A1, A2⟩ := post_storeR (cs := (RV.many 3 A (ks.length + 1 + 1) cp).cells.toArray) HZ9.out HG9.out (Nat.le_refl _) hgw hr9
            have REPEND := (HREP.out.mono hg9.size (fun b hp hl => hg9.block b hl (by intro e; injection e with e; have : w.heap.size + 1 ≤ b := hp; omega)) (fun _ h _ => h)).mono (w' := w9.setRow w.heap.size (RV.many 3 A (ks.length + 1 + 1) cp).cells.toArray) (Q := (w.heap.size ≤ ·)) (by simp [World.setRow]) (fun b hp _ => setRow_other _ _ _ _ (by have : w.heap.size + 1 ≤ b := hp; omega)) (fun b h _ => by have : w.heap.size + 1 ≤ b := h; omega)
            rw [HP3.out]
            exact bodyPost_ret (v := .tuple #[.agg (RV.many 3 A (ks.length + 1 + 1) cp).cells.toArray, .bool true]) (results_cell_tmp (P := Tryd.prog) (fn := Tryd.f46) rfl _ _ w.heap.size 26 _ (0, 0) _ rfl A0 Tryd.underlying26 rfl (rx_size _)) rfl ⟨A2, ⟨(RV.many 3 A (ks.length + 1 + 1) cp), by rw [RV.val_eq], ⟨_, _, A1⟩, REPEND⟩⟩
          · have HP3 : Hid (P = .error (2, s.size)) := hid (by rw [HP2.out]; unfold mkN; rw [if_neg hn])
            have HM := hid (joined_over hr1 (by omega) (by omega) 3 A (ks.length + 1 + 1) cp (by omega) (by omega))
            clear HP2
            go_wp2_with fail
            refine (HM.out).mono ?_
            rintro e w9 ⟨rfl, hr9, hg9⟩
            have HZ9 := hid (show w9.heap[w.heap.size]? = some (.cells zeroR 26) from (hg9.block w.heap.size HS1.out.res.lt (by intro e; injection e with e; omega)).trans HS1.out.res)
            have HG9 := hid (grown_trans HS1.out.gr hg9)
            go_wp2_with (refine wpList_store_row rfl 26 _ _ rfl w.heap.size zeroR ?_ ?_ 26 zeroR HZ9.out (by rw [← zeroR_eq]; exact rx_size _) ?_ (by rw [← zeroR_eq]; exact rx_one _) ?_; exact rfl; exact rfl; exact rfl)
            obtain ⟨A0, A1, A2⟩ := post_storeR (cs := zeroR) HZ9.out HG9.out (Nat.le_refl _) hgw hr9
            rw [HP3.out]
            exact bodyPost_ret (v := .tuple #[.agg zeroR, .bool false]) (results_cell_tmp (P := Tryd.prog) (fn := Tryd.f46) rfl _ _ w.heap.size 26 _ (0, 0) _ rfl A0 Tryd.underlying26 rfl (by rw [← zeroR_eq]; exact rx_size _)) rfl ⟨A2, ⟨RV.zero, by rw [rx_zero]; rfl⟩, _, _, A1⟩
      · have n1 : (j : Int) < (s.size : Int) := by omega
        have n2 : ((nx s.data.toList j : Nat) : Int) = 124 := by omega
        have n4 : (((nx s.data.toList j : Nat) : Int) != 124) = false := by simp [n2]
        rw [h4] at HNq n4
        clear n2
        go_wp2_with fail
        go_quiet (first | (go_at_call 62; exact HNq.out _))
        have HS1 := hid (HS.out.drewN nq)
        have hr1 : Rd (wr.drewN nq) g s j nd' c1 p1 := hr
        clear k0 k1 k2 k3 k4 f1 f2 f3 f4 HNq hr HS HRl HRep
        generalize wr.drewN nq = wd at *
        rcases ks with _ | ⟨t, _ | ⟨t2, ks⟩⟩
        · have HP2 : Hid (P = mkN (.nd 1 (0#256) [] 0 0) j nd') := hid HPE.out
          clear HPE
          by_cases hn : nd' + 1 ≤ 512
          · have HP3 : Hid (P = .ok (.nd 1 (0#256) [] 0 0, j, nd' + 1)) := hid (by rw [HP2.out]; unfold mkN; rw [if_pos hn])
            have HM := made_yes hr1 hn (RV.mk 1 (0#256) none 0 0 0 0)
            rw [RV.val_eq] at HM
            have HV2 : Hid (Value.agg #[.int .i64 1, .int .u64 0, .int .u64 0, .int .u64 0, .int .u64 0, .slice none 0 0, .int .i64 0, .int .i64 0] = .agg (RV.mk 1 (0#256) none 0 0 0 0).cells.toArray) := hid (by simp [RV.cells, wd_zero])
            rw [← HV2.out] at HM
            have HMh := hid HM
            clear HM HP2
            go_wp2_with fail
            refine (HMh.out).mono ?_
            rintro e w9 ⟨rfl, hr9, hg9⟩
            have HZ9 := hid (show w9.heap[w.heap.size]? = some (.cells zeroR 26) from (hg9.block w.heap.size HS1.out.res.lt (by intro e; injection e with e; omega)).trans HS1.out.res)
            have HG9 := hid (grown_trans HS1.out.gr hg9)
            go_wp2_with (refine wpList_store_row rfl 26 _ _ rfl w.heap.size (RV.mk 1 (0#256) none 0 0 0 0).cells.toArray ?_ ?_ 26 zeroR HZ9.out (rx_size _) ?_ (rx_one _) ?_; exact rfl; exact HV2.out; exact rfl)
            obtain ⟨A0, A1, A2⟩ := post_storeR (cs := (RV.mk 1 (0#256) none 0 0 0 0).cells.toArray) HZ9.out HG9.out (Nat.le_refl _) hgw hr9
            rw [HP3.out]
            exact bodyPost_ret (v := .tuple #[.agg (RV.mk 1 (0#256) none 0 0 0 0).cells.toArray, .bool true]) (results_cell_tmp (P := Tryd.prog) (fn := Tryd.f46) rfl _ _ w.heap.size 26 _ (0, 0) _ rfl A0 Tryd.underlying26 rfl (rx_size _)) rfl ⟨A2, ⟨(RV.mk 1 (0#256) none 0 0 0 0), by rw [← HV2.out]; simp [RV.val, wd_zero], ⟨_, _, A1⟩, Rep.leaf _ _ 1 (0#256) 0 0 0 none⟩⟩
          · have HP3 : Hid (P = .error (2, j)) := hid (by rw [HP2.out]; unfold mkN; rw [if_neg hn])
            have HM := made_no hr1 (by omega) (by omega) (RV.mk 1 (0#256) none 0 0 0 0)
            rw [RV.val_eq] at HM
            have HV2 : Hid (Value.agg #[.int .i64 1, .int .u64 0, .int .u64 0, .int .u64 0, .int .u64 0, .slice none 0 0, .int .i64 0, .int .i64 0] = .agg (RV.mk 1 (0#256) none 0 0 0 0).cells.toArray) := hid (by simp [RV.cells, wd_zero])
            rw [← HV2.out] at HM
            have HMh := hid HM
            clear HM HP2 HV2
            go_wp2_with fail
            refine (HMh.out).mono ?_
            rintro e w9 ⟨rfl, hr9, hg9⟩
            have HZ9 := hid (show w9.heap[w.heap.size]? = some (.cells zeroR 26) from (hg9.block w.heap.size HS1.out.res.lt (by intro e; injection e with e; omega)).trans HS1.out.res)
            have HG9 := hid (grown_trans HS1.out.gr hg9)
            go_wp2_with (refine wpList_store_row rfl 26 _ _ rfl w.heap.size zeroR ?_ ?_ 26 zeroR HZ9.out (by rw [← zeroR_eq]; exact rx_size _) ?_ (by rw [← zeroR_eq]; exact rx_one _) ?_; exact rfl; exact rfl; exact rfl)
            obtain ⟨A0, A1, A2⟩ := post_storeR (cs := zeroR) HZ9.out HG9.out (Nat.le_refl _) hgw hr9
            rw [HP3.out]
            exact bodyPost_ret (v := .tuple #[.agg zeroR, .bool false]) (results_cell_tmp (P := Tryd.prog) (fn := Tryd.f46) rfl _ _ w.heap.size 26 _ (0, 0) _ rfl A0 Tryd.underlying26 rfl (by rw [← zeroR_eq]; exact rx_size _)) rfl ⟨A2, ⟨RV.zero, by rw [rx_zero]; rfl⟩, _, _, A1⟩
        · have HP3 : Hid (P = .ok (t, j, nd')) := hid HPE.out
          obtain ⟨g0, x0, hA1, rfl, hrow, hrep⟩ := HS1.out.kids.one
          have hg0 : g0 < wd.heap.size := (HS1.out.kids.own_lt g0 rfl).2
          have HM := hid (joined_one hr1 3 g0 cp x0 hrow hg0)
          have HREP := hid hrep
          unfold RV.val at HM
          clear HPE hrow hrep
          go_wp2_with fail
          refine (HM.out).mono ?_
          rintro e w9 ⟨rfl, hr9, hg9⟩
          have HZ9 := hid (show w9.heap[w.heap.size]? = some (.cells zeroR 26) from (hg9.block w.heap.size HS1.out.res.lt (by intro e; injection e with e; omega)).trans HS1.out.res)
          have HG9 := hid (grown_trans HS1.out.gr hg9)
          go_wp2_with (refine wpList_store_row rfl 26 _ _ rfl w.heap.size x0.cells.toArray ?_ ?_ 26 zeroR HZ9.out (rx_size _) ?_ (rx_one _) ?_; exact rfl; exact rfl; exact rfl)
          obtain ⟨A0, A1, A2⟩ := post_storeR (cs := x0.cells.toArray) HZ9.out HG9.out (Nat.le_refl _) hgw hr9
          have REPEND := (HREP.out.mono hg9.size (fun b hp hl => hg9.block b hl (by intro e; injection e with e; have : w.heap.size + 1 ≤ b := hp; omega)) (fun _ h _ => h)).mono (w' := w9.setRow w.heap.size x0.cells.toArray) (Q := (w.heap.size ≤ ·)) (by simp [World.setRow]) (fun b hp _ => setRow_other _ _ _ _ (by have : w.heap.size + 1 ≤ b := hp; omega)) (fun b h _ => by have : w.heap.size + 1 ≤ b := h; omega)
          rw [HP3.out]
          exact bodyPost_ret (v := .tuple #[.agg x0.cells.toArray, .bool true]) (results_cell_tmp (P := Tryd.prog) (fn := Tryd.f46) rfl _ _ w.heap.size 26 _ (0, 0) _ rfl A0 Tryd.underlying26 rfl (rx_size _)) rfl ⟨A2, ⟨x0, rfl, ⟨_, _, A1⟩, REPEND⟩⟩
        · have HP2 : Hid (P = mkN (.nd 3 (0#256) (t :: t2 :: ks) 0 0) j nd') := hid HPE.out
          have hlen : (t :: t2 :: ks).length = ks.length + 1 + 1 := rfl
          rw [hlen]
          have hkl : ks.length ≤ 512 := by have : ks.length + 1 + 1 ≤ j := hkj; omega
          clear HPE
          by_cases hn : nd' + 1 ≤ 512
          · have HP3 : Hid (P = .ok (.nd 3 (0#256) (t :: t2 :: ks) 0 0, j, nd' + 1)) := hid (by rw [HP2.out]; unfold mkN; rw [if_pos hn])
            have HM := hid (joined_many hr1 hn 3 A (ks.length + 1 + 1) cp (by omega) (by omega))
            have HV2 := hid (many_val 3 A (ks.length + 1 + 1) cp)
            have HV3 := hid (RV.val_eq (RV.many 3 A (ks.length + 1 + 1) cp))
            have HREP := hid (HS1.out.kids.rep 3 (0#256) 0 0)
            rw [HV2.out] at HM HV3
            clear HP2
            go_wp2_with fail
            refine (HM.out).mono ?_
            rintro e w9 ⟨rfl, hr9, hg9⟩
            have HZ9 := hid (show w9.heap[w.heap.size]? = some (.cells zeroR 26) from (hg9.block w.heap.size HS1.out.res.lt (by intro e; injection e with e; omega)).trans HS1.out.res)
            have HG9 := hid (grown_trans HS1.out.gr hg9)
            go_wp2_with (refine wpList_store_row rfl 26 _ _ rfl w.heap.size (RV.many 3 A (ks.length + 1 + 1) cp).cells.toArray ?_ ?_ 26 zeroR HZ9.out (rx_size _) ?_ (rx_one _) ?_; exact rfl; exact HV3.out; exact rfl)
            obtain ⟨A0, A1, A2⟩ := post_storeR (cs := (RV.many 3 A (ks.length + 1 + 1) cp).cells.toArray) HZ9.out HG9.out (Nat.le_refl _) hgw hr9
            have REPEND := (HREP.out.mono hg9.size (fun b hp hl => hg9.block b hl (by intro e; injection e with e; have : w.heap.size + 1 ≤ b := hp; omega)) (fun _ h _ => h)).mono (w' := w9.setRow w.heap.size (RV.many 3 A (ks.length + 1 + 1) cp).cells.toArray) (Q := (w.heap.size ≤ ·)) (by simp [World.setRow]) (fun b hp _ => setRow_other _ _ _ _ (by have : w.heap.size + 1 ≤ b := hp; omega)) (fun b h _ => by have : w.heap.size + 1 ≤ b := h; omega)
            rw [HP3.out]
            exact bodyPost_ret (v := .tuple #[.agg (RV.many 3 A (ks.length + 1 + 1) cp).cells.toArray, .bool true]) (results_cell_tmp (P := Tryd.prog) (fn := Tryd.f46) rfl _ _ w.heap.size 26 _ (0, 0) _ rfl A0 Tryd.underlying26 rfl (rx_size _)) rfl ⟨A2, ⟨(RV.many 3 A (ks.length + 1 + 1) cp), by rw [RV.val_eq], ⟨_, _, A1⟩, REPEND⟩⟩
          · have HP3 : Hid (P = .error (2, j)) := hid (by rw [HP2.out]; unfold mkN; rw [if_neg hn])
            have HM := hid (joined_over hr1 (by omega) (by omega) 3 A (ks.length + 1 + 1) cp (by omega) (by omega))
            clear HP2
            go_wp2_with fail
            refine (HM.out).mono ?_
            rintro e w9 ⟨rfl, hr9, hg9⟩
            have HZ9 := hid (show w9.heap[w.heap.size]? = some (.cells zeroR 26) from (hg9.block w.heap.size HS1.out.res.lt (by intro e; injection e with e; omega)).trans HS1.out.res)
            have HG9 := hid (grown_trans HS1.out.gr hg9)
            go_wp2_with (refine wpList_store_row rfl 26 _ _ rfl w.heap.size zeroR ?_ ?_ 26 zeroR HZ9.out (by rw [← zeroR_eq]; exact rx_size _) ?_ (by rw [← zeroR_eq]; exact rx_one _) ?_; exact rfl; exact rfl; exact rfl)
            obtain ⟨A0, A1, A2⟩ := post_storeR (cs := zeroR) HZ9.out HG9.out (Nat.le_refl _) hgw hr9
            rw [HP3.out]
            exact bodyPost_ret (v := .tuple #[.agg zeroR, .bool false]) (results_cell_tmp (P := Tryd.prog) (fn := Tryd.f46) rfl _ _ w.heap.size 26 _ (0, 0) _ rfl A0 Tryd.underlying26 rfl (by rw [← zeroR_eq]; exact rx_size _)) rfl ⟨A2, ⟨RV.zero, by rw [rx_zero]; rfl⟩, _, _, A1⟩
      · have n1 : (j : Int) < (s.size : Int) := by omega
        rw [h5] at HNq
        go_wp2_with fail
        go_quiet (first | (go_at_call 62; exact HNq.out _))
        have HS1 := hid (HS.out.drewN nq)
        have hr1 : Rd (wr.drewN nq) g s j nd' c1 p1 := hr
        clear k0 k1 k2 k3 k4 f1 f2 f3 f4 HNq hr HS HRl HRep
        generalize wr.drewN nq = wd at *
        rcases ks with _ | ⟨t, _ | ⟨t2, ks⟩⟩
        · have HP2 : Hid (P = mkN (.nd 1 (0#256) [] 0 0) j nd') := hid HPE.out
          clear HPE
          by_cases hn : nd' + 1 ≤ 512
          · have HP3 : Hid (P = .ok (.nd 1 (0#256) [] 0 0, j, nd' + 1)) := hid (by rw [HP2.out]; unfold mkN; rw [if_pos hn])
            have HM := made_yes hr1 hn (RV.mk 1 (0#256) none 0 0 0 0)
            rw [RV.val_eq] at HM
            have HV2 : Hid (Value.agg #[.int .i64 1, .int .u64 0, .int .u64 0, .int .u64 0, .int .u64 0, .slice none 0 0, .int .i64 0, .int .i64 0] = .agg (RV.mk 1 (0#256) none 0 0 0 0).cells.toArray) := hid (by simp [RV.cells, wd_zero])
            rw [← HV2.out] at HM
            have HMh := hid HM
            clear HM HP2
            go_wp2_with fail
            refine (HMh.out).mono ?_
            rintro e w9 ⟨rfl, hr9, hg9⟩
            have HZ9 := hid (show w9.heap[w.heap.size]? = some (.cells zeroR 26) from (hg9.block w.heap.size HS1.out.res.lt (by intro e; injection e with e; omega)).trans HS1.out.res)
            have HG9 := hid (grown_trans HS1.out.gr hg9)
            go_wp2_with (refine wpList_store_row rfl 26 _ _ rfl w.heap.size (RV.mk 1 (0#256) none 0 0 0 0).cells.toArray ?_ ?_ 26 zeroR HZ9.out (rx_size _) ?_ (rx_one _) ?_; exact rfl; exact HV2.out; exact rfl)
            obtain ⟨A0, A1, A2⟩ := post_storeR (cs := (RV.mk 1 (0#256) none 0 0 0 0).cells.toArray) HZ9.out HG9.out (Nat.le_refl _) hgw hr9
            rw [HP3.out]
            exact bodyPost_ret (v := .tuple #[.agg (RV.mk 1 (0#256) none 0 0 0 0).cells.toArray, .bool true]) (results_cell_tmp (P := Tryd.prog) (fn := Tryd.f46) rfl _ _ w.heap.size 26 _ (0, 0) _ rfl A0 Tryd.underlying26 rfl (rx_size _)) rfl ⟨A2, ⟨(RV.mk 1 (0#256) none 0 0 0 0), by rw [← HV2.out]; simp [RV.val, wd_zero], ⟨_, _, A1⟩, Rep.leaf _ _ 1 (0#256) 0 0 0 none⟩⟩
          · have HP3 : Hid (P = .error (2, j)) := hid (by rw [HP2.out]; unfold mkN; rw [if_neg hn])
            have HM := made_no hr1 (by omega) (by omega) (RV.mk 1 (0#256) none 0 0 0 0)
            rw [RV.val_eq] at HM
            have HV2 : Hid (Value.agg #[.int .i64 1, .int .u64 0, .int .u64 0, .int .u64 0, .int .u64 0, .slice none 0 0, .int .i64 0, .int .i64 0] = .agg (RV.mk 1 (0#256) none 0 0 0 0).cells.toArray) := hid (by simp [RV.cells, wd_zero])
            rw [← HV2.out] at HM
            have HMh := hid HM
            clear HM HP2 HV2
            go_wp2_with fail
            refine (HMh.out).mono ?_
            rintro e w9 ⟨rfl, hr9, hg9⟩
            have HZ9 := hid (show w9.heap[w.heap.size]? = some (.cells zeroR 26) from (hg9.block w.heap.size HS1.out.res.lt (by intro e; injection e with e; omega)).trans HS1.out.res)
            have HG9 := hid (grown_trans HS1.out.gr hg9)
            go_wp2_with (refine wpList_store_row rfl 26 _ _ rfl w.heap.size zeroR ?_ ?_ 26 zeroR HZ9.out (by rw [← zeroR_eq]; exact rx_size _) ?_ (by rw [← zeroR_eq]; exact rx_one _) ?_; exact rfl; exact rfl; exact rfl)
            obtain ⟨A0, A1, A2⟩ := post_storeR (cs := zeroR) HZ9.out HG9.out (Nat.le_refl _) hgw hr9
            rw [HP3.out]
            exact bodyPost_ret (v := .tuple #[.agg zeroR, .bool false]) (results_cell_tmp (P := Tryd.prog) (fn := Tryd.f46) rfl _ _ w.heap.size 26 _ (0, 0) _ rfl A0 Tryd.underlying26 rfl (by rw [← zeroR_eq]; exact rx_size _)) rfl ⟨A2, ⟨RV.zero, by rw [rx_zero]; rfl⟩, _, _, A1⟩
        · have HP3 : Hid (P = .ok (t, j, nd')) := hid HPE.out
          obtain ⟨g0, x0, hA1, rfl, hrow, hrep⟩ := HS1.out.kids.one
          have hg0 : g0 < wd.heap.size := (HS1.out.kids.own_lt g0 rfl).2
          have HM := hid (joined_one hr1 3 g0 cp x0 hrow hg0)
          have HREP := hid hrep
          unfold RV.val at HM
          clear HPE hrow hrep
          go_wp2_with fail
          refine (HM.out).mono ?_
          rintro e w9 ⟨rfl, hr9, hg9⟩
          have HZ9 := hid (show w9.heap[w.heap.size]? = some (.cells zeroR 26) from (hg9.block w.heap.size HS1.out.res.lt (by intro e; injection e with e; omega)).trans HS1.out.res)
          have HG9 := hid (grown_trans HS1.out.gr hg9)
          go_wp2_with (refine wpList_store_row rfl 26 _ _ rfl w.heap.size x0.cells.toArray ?_ ?_ 26 zeroR HZ9.out (rx_size _) ?_ (rx_one _) ?_; exact rfl; exact rfl; exact rfl)
          obtain ⟨A0, A1, A2⟩ := post_storeR (cs := x0.cells.toArray) HZ9.out HG9.out (Nat.le_refl _) hgw hr9
          have REPEND := (HREP.out.mono hg9.size (fun b hp hl => hg9.block b hl (by intro e; injection e with e; have : w.heap.size + 1 ≤ b := hp; omega)) (fun _ h _ => h)).mono (w' := w9.setRow w.heap.size x0.cells.toArray) (Q := (w.heap.size ≤ ·)) (by simp [World.setRow]) (fun b hp _ => setRow_other _ _ _ _ (by have : w.heap.size + 1 ≤ b := hp; omega)) (fun b h _ => by have : w.heap.size + 1 ≤ b := h; omega)
          rw [HP3.out]
          exact bodyPost_ret (v := .tuple #[.agg x0.cells.toArray, .bool true]) (results_cell_tmp (P := Tryd.prog) (fn := Tryd.f46) rfl _ _ w.heap.size 26 _ (0, 0) _ rfl A0 Tryd.underlying26 rfl (rx_size _)) rfl ⟨A2, ⟨x0, rfl, ⟨_, _, A1⟩, REPEND⟩⟩
        · have HP2 : Hid (P = mkN (.nd 3 (0#256) (t :: t2 :: ks) 0 0) j nd') := hid HPE.out
          have hlen : (t :: t2 :: ks).length = ks.length + 1 + 1 := rfl
          rw [hlen]
          have hkl : ks.length ≤ 512 := by have : ks.length + 1 + 1 ≤ j := hkj; omega
          clear HPE
          by_cases hn : nd' + 1 ≤ 512
          · have HP3 : Hid (P = .ok (.nd 3 (0#256) (t :: t2 :: ks) 0 0, j, nd' + 1)) := hid (by rw [HP2.out]; unfold mkN; rw [if_pos hn])
            have HM := hid (joined_many hr1 hn 3 A (ks.length + 1 + 1) cp (by omega) (by omega))
            have HV2 := hid (many_val 3 A (ks.length + 1 + 1) cp)
            have HV3 := hid (RV.val_eq (RV.many 3 A (ks.length + 1 + 1) cp))
            have HREP := hid (HS1.out.kids.rep 3 (0#256) 0 0)
            rw [HV2.out] at HM HV3
            clear HP2
            go_wp2_with fail
            refine (HM.out).mono ?_
            rintro e w9 ⟨rfl, hr9, hg9⟩
            have HZ9 := hid (show w9.heap[w.heap.size]? = some (.cells zeroR 26) from (hg9.block w.heap.size HS1.out.res.lt (by intro e; injection e with e; omega)).trans HS1.out.res)
            have HG9 := hid (grown_trans HS1.out.gr hg9)
            go_wp2_with (refine wpList_store_row rfl 26 _ _ rfl w.heap.size (RV.many 3 A (ks.length + 1 + 1) cp).cells.toArray ?_ ?_ 26 zeroR HZ9.out (rx_size _) ?_ (rx_one _) ?_; exact rfl; exact HV3.out; exact rfl)
            obtain ⟨A0, A1, A2⟩ := post_storeR (cs := (RV.many 3 A (ks.length + 1 + 1) cp).cells.toArray) HZ9.out HG9.out (Nat.le_refl _) hgw hr9
            have REPEND := (HREP.out.mono hg9.size (fun b hp hl => hg9.block b hl (by intro e; injection e with e; have : w.heap.size + 1 ≤ b := hp; omega)) (fun _ h _ => h)).mono (w' := w9.setRow w.heap.size (RV.many 3 A (ks.length + 1 + 1) cp).cells.toArray) (Q := (w.heap.size ≤ ·)) (by simp [World.setRow]) (fun b hp _ => setRow_other _ _ _ _ (by have : w.heap.size + 1 ≤ b := hp; omega)) (fun b h _ => by have : w.heap.size + 1 ≤ b := h; omega)
            rw [HP3.out]
            exact bodyPost_ret (v := .tuple #[.agg (RV.many 3 A (ks.length + 1 + 1) cp).cells.toArray, .bool true]) (results_cell_tmp (P := Tryd.prog) (fn := Tryd.f46) rfl _ _ w.heap.size 26 _ (0, 0) _ rfl A0 Tryd.underlying26 rfl (rx_size _)) rfl ⟨A2, ⟨(RV.many 3 A (ks.length + 1 + 1) cp), by rw [RV.val_eq], ⟨_, _, A1⟩, REPEND⟩⟩
          · have HP3 : Hid (P = .error (2, j)) := hid (by rw [HP2.out]; unfold mkN; rw [if_neg hn])
            have HM := hid (joined_over hr1 (by omega) (by omega) 3 A (ks.length + 1 + 1) cp (by omega) (by omega))
            clear HP2
            go_wp2_with fail
            refine (HM.out).mono ?_
            rintro e w9 ⟨rfl, hr9, hg9⟩
            have HZ9 := hid (show w9.heap[w.heap.size]? = some (.cells zeroR 26) from (hg9.block w.heap.size HS1.out.res.lt (by intro e; injection e with e; omega)).trans HS1.out.res)
            have HG9 := hid (grown_trans HS1.out.gr hg9)
            go_wp2_with (refine wpList_store_row rfl 26 _ _ rfl w.heap.size zeroR ?_ ?_ 26 zeroR HZ9.out (by rw [← zeroR_eq]; exact rx_size _) ?_ (by rw [← zeroR_eq]; exact rx_one _) ?_; exact rfl; exact rfl; exact rfl)
            obtain ⟨A0, A1, A2⟩ := post_storeR (cs := zeroR) HZ9.out HG9.out (Nat.le_refl _) hgw hr9
            rw [HP3.out]
            exact bodyPost_ret (v := .tuple #[.agg zeroR, .bool false]) (results_cell_tmp (P := Tryd.prog) (fn := Tryd.f46) rfl _ _ w.heap.size 26 _ (0, 0) _ rfl A0 Tryd.underlying26 rfl (by rw [← zeroR_eq]; exact rx_size _)) rfl ⟨A2, ⟨RV.zero, by rw [rx_zero]; rfl⟩, _, _, A1⟩
end Go.Proofs.YtoiegkejkahfgaaDoor

/- regex: a text that stands so deep within parentheses; Parse. -/
set_option linter.unusedVariables false
set_option linter.unusedSimpArgs false
namespace Go.Proofs.YtoiegkejkahfgaaDoor
open Go.RowKit

theorem joinN_le {k : Int} {ks : List RT} {i nd : Nat} {t : RT} {j n : Nat} (e : joinN k ks i nd = .ok (t, j, n)) (hnd : nd ≤ 512) : j = i ∧ n ≤ 512 := by
  unfold joinN at e
  split at e
  · simp only [Except.ok.injEq, Prod.mk.injEq] at e
    omega
  · have := mkN_ok e
    omega
theorem pCatL_le {s : ByteArray} {g dp : Nat} {E : Nat → Nat → NR RT} (HE : EitherAt g s dp E) : ∀ {m : Nat} {ks : List RT} {j nd : Nat} {t : RT} {k n : Nat}, j ≤ s.size → nd ≤ 512 → pCatL s.data.toList E m ks j nd = .ok (t, k, n) → j ≤ k ∧ k ≤ s.size ∧ n ≤ 512 := by
  intro m
  induction m with
  | zero => intro ks j nd t k n _ _ e; cases e
  | succ m ih =>
    intro ks j nd t k n hj hnd e
    by_cases hgo : j < s.data.toList.length ∧ nx s.data.toList j ≠ 124 ∧ nx s.data.toList j ≠ 41
    · rw [pCatL_go hgo] at e
      split at e
      · cases e
      · rename_i t1 k1 n1 h1
        have h2 := pRep_le HE hj hnd h1
        have h3 := ih h2.2.1 h2.2.2 e
        omega
    · rw [pCatL_end hgo] at e
      split at e
      · have := mkN_ok e
        omega
      · have := joinN_le e hnd
        omega
theorem pEithL_succ {l : List UInt8} {E : Nat → Nat → NR RT} {m j nd : Nat} {ks : List RT} : pEithL l E (m + 1) ks j nd = (match pCatL l E (l.length + 1) [] j nd with
    | .error e => .error e
    | .ok (t, k, nd') => if nx l k = 124 then pEithL l E m (ks ++ [t]) (k + 1) nd' else joinN 4 (ks ++ [t]) k nd') := by
  rw [pEithL]
  rfl
theorem pEithL_le {s : ByteArray} {g dp : Nat} {E : Nat → Nat → NR RT} (HE : EitherAt g s dp E) : ∀ {m : Nat} {ks : List RT} {j nd : Nat} {t : RT} {k n : Nat}, j ≤ s.size → nd ≤ 512 → pEithL s.data.toList E m ks j nd = .ok (t, k, n) → j ≤ k ∧ k ≤ s.size ∧ n ≤ 512 := by
  intro m
  induction m with
  | zero => intro ks j nd t k n _ _ e; cases e
  | succ m ih =>
    intro ks j nd t k n hj hnd e
    rw [pEithL_succ] at e
    split at e
    · cases e
    · rename_i t1 k1 n1 h1
      have h2 := pCatL_le HE hj hnd h1
      split at e
      · rename_i h3
        have h4 : k1 < s.size := nx_lt (l := s.data.toList) (by omega)
        have h5 := ih h4 h2.2.2 e
        omega
      · have := joinN_le e h2.2.2
        omega

set_option maxRecDepth 100000 in
set_option maxHeartbeats 8000000 in
theorem either_in {w : World} {g : Nat} {s : ByteArray} {i nd : Nat} {c p : Int} (h : Rd w g s i nd c p) (hi : i ≤ s.size) (hnd : nd ≤ 512) (hs : s.size ≤ 512) (dp : Nat) (hdp : dp ≤ 32) (E : Nat → Nat → NR RT) (HE : EitherAt g s (dp + 1) E) :
    Calls Tryd.prog 31 #[.pointer (some ⟨g, 0, none⟩), .int .i64 (dp : Int)] w (PostN (pEithL s.data.toList E (s.data.toList.length + 1) [] i nd) w g s) := by
  have hgw := Blk.lt h
  have hA : Below w.heap.size w (w.alloc (.cells zeroR 26)) := (Below.refl _ _).alloc (Nat.le_refl _) _
  have HSt : Hid (CatSt w g s i nd (.slice none 0 0) [] (w.alloc (.cells zeroR 26))) := hid ⟨grown_of_below hA (some g), heap_alloc_new w (.cells zeroR 26), ⟨c, p, h.keep hA⟩, Kids.nil _ _⟩
  have HRep := hid (fun (W : World) (j nd : Nat) (c p : Int) (h : Rd W g s j nd c p) (hj : j ≤ s.size) (hnd : nd ≤ 512) => behind_any h hj hnd hs dp hdp E HE)
  have HRl := hid (fun j nd t k nd' (hj : j ≤ s.size) (hnd : nd ≤ 512) (e : pCatL s.data.toList E (s.data.toList.length + 1) [] j nd = .ok (t, k, nd')) => pCatL_le HE hj hnd e)
  obtain ⟨P, hP⟩ : ∃ P, P = pEithL s.data.toList E (s.data.toList.length + 1) [] i nd := ⟨_, rfl⟩
  rw [← hP]
  have HP := hid hP.symm
  clear hA h HE hP
  go_enter Tryd.func31, Tryd.ntmps31
  go_upto_region 1 with (fail)
  change Code.wp _ _ _ _ (w.alloc (.cells zeroR 26))
  generalize w.alloc (.cells zeroR 26) = w1 at *
  go_wp2_with fail
  go_loopg [6] (s.size + 1) (fun m u wr => ∃ (j nd' : Nat) (ks : List RT), j ≤ s.size ∧ nd' ≤ 512 ∧ s.size < m + j ∧ ks.length ≤ j ∧ Hid (pEithL s.data.toList E m ks j nd' = P) ∧ Hid (CatSt w g s j nd' u ks wr))
  case atStart => exact ⟨i, nd, [], hi, hnd, by omega, by simp, HP, HSt⟩
  case round =>
    clear HSt HP
    obtain ⟨j, nd', ks, hj, hnd', hm, hkj, HE, HS⟩ := hrel
    obtain ⟨m, rfl⟩ : ∃ m, gk = m + 1 := ⟨gk - 1, by omega⟩
    obtain ⟨c1, p1, hr⟩ := HS.out.rd
    obtain ⟨A, cp, rfl⟩ := HS.out.kids.shape
    have HP1 := hid ((pEithL_succ (l := s.data.toList) (E := E) (m := m) (ks := ks) (j := j) (nd := nd')).symm.trans HE.out)
    clear HE
    have HS1 := HS
    have hr1 := hr
    clear HS hr
    obtain ⟨wd, rfl⟩ : ∃ wd : World, wd = wr := ⟨_, rfl⟩
    have HRl2 := hid (fun t k n2 (e : pCatL s.data.toList E (s.data.toList.length + 1) [] j nd' = .ok (t, k, n2)) => HRl.out j nd' t k n2 hj hnd' e)
    have HRp := hid (HRep.out wd j nd' c1 p1 hr1 hj hnd')
    clear HRl HRep hr1
    generalize pCatL s.data.toList E (s.data.toList.length + 1) [] j nd' = r at *
    go_wp2_with fail
    refine HRp.out.mono ?_
    rintro e w4 hpost
    obtain ⟨v, ok, rfl, hg4, hst⟩ := hpost.un
    clear hpost HRp
    have hbx : Below w4.heap.size w4 ((w4.alloc (.cells #[.int .i64 0, .int .u64 0, .int .u64 0, .int .u64 0, .int .u64 0, .slice none 0 0, .int .i64 0, .int .i64 0] 26)).setRow w4.heap.size v.cells.toArray) := below_row ((Below.refl _ _).alloc (Nat.le_refl _) _) (Nat.le_refl _) _
    have HX5 := hid (show Blk ((w4.alloc (.cells #[.int .i64 0, .int .u64 0, .int .u64 0, .int .u64 0, .int .u64 0, .slice none 0 0, .int .i64 0, .int .i64 0] 26)).setRow w4.heap.size v.cells.toArray) w4.heap.size 26 v.cells from setRow_heap _ _ _ _ _ (0, 0) (heap_alloc_new w4 _))
    have HSz := hid (rx_size v)
    have HOne := hid (rx_one v)
    unfold RV.val
    rcases hst with ⟨rfl, t, k, n2, rfl, hr4, hrep⟩ | ⟨rfl, c4, p4, rfl, k, n2, hr4⟩
    · obtain ⟨hjk, hks, hn2⟩ := HRl2.out t k n2 rfl
      have HP2 : Hid ((if nx s.data.toList k = 124 then pEithL s.data.toList E m (ks ++ [t]) (k + 1) n2 else joinN 4 (ks ++ [t]) k n2) = P) := hid HP1.out
      have HS5 := hid ((HS1.out.step hg4 hr4 hgw).below hbx)
      have HREP5 := hid (show Rep ((w4.alloc (.cells #[.int .i64 0, .int .u64 0, .int .u64 0, .int .u64 0, .int .u64 0, .slice none 0 0, .int .i64 0, .int .i64 0] 26)).setRow w4.heap.size v.cells.toArray) (fun b => w.heap.size + 1 ≤ b ∧ (Value.slice A ks.length cp).ownBlock ≠ some b) v t from hrep.mono hbx.size (fun b _ hl => hbx.block b hl) (fun b hb hl => ⟨by have h1 := HS1.out.gr.size; have h2 := HS1.out.res.lt; have h3 : wd.heap.size ≤ b := hb; omega, fun e => by have h1 := HS1.out.kids.own_lt b e; have h3 : wd.heap.size ≤ b := hb; omega⟩))
      clear hbx hg4 hr4 hrep HS1 HP1 HRl2
      obtain ⟨i0, hi0, hz0, hz1, hz2⟩ := info_parts info_rx
      have hk512 : ks.length + 1 ≤ 1024 := by omega
      go_wp2_with (first
        | (refine wpList_store_row rfl 26 _ _ rfl w4.heap.size v.cells.toArray ?_ ?_ 26 #[.int .i64 0, .int .u64 0, .int .u64 0, .int .u64 0, .int .u64 0, .slice none 0 0, .int .i64 0, .int .i64 0] (heap_alloc_new w4 _) HSz.out ?_ HOne.out ?_; exact rfl; exact rfl; exact rfl; generalize (w4.alloc (.cells #[.int .i64 0, .int .u64 0, .int .u64 0, .int .u64 0, .int .u64 0, .slice none 0 0, .int .i64 0, .int .i64 0] 26)).setRow w4.heap.size v.cells.toArray = w5 at *; obtain ⟨x0, x1, x2, x3, x4, x5, x6, x7⟩ := Blk.cells8' HX5.out; obtain ⟨vs, hv1, hv2, hv3⟩ := HS5.out.kids.out; have H6 := hid (show Below w5.heap.size w5 (w5.alloc (.cells v.cells.toArray 26)) from (Below.refl _ _).alloc (Nat.le_refl _) _); have HOwn := hid (hv2.alloc (.cells v.cells.toArray 26)); have HV3 := hid hv3; have HV1 := hid hv1; have HC := hid (new_cells w5 v); clear hv1 hv2 hv3)
        | (refine wpList_append_own_at _ rfl _ _ 24 rfl (w.heap.size + 1) 26 i0 (.agg zeroR) 8 80 Tryd.underlying24 hi0 hz0 hz1 hz2 rfl (by decide) _ _ _ rfl HOwn.out ⟨w5.heap.size, 0, none⟩ 1 1 v.cells rfl rfl HC.out (rx_ones v) (by unfold maxLen; omega) (by omega) (by have := HS5.out.gr.size; have := HS5.out.res.lt; simp; omega) ?_; intro u7 w7 hown7 hgrow7 _ hblk7; have HS7 := hid (HS5.out.snoc H6.out hgw vs HV1.out HV3.out HREP5.out hown7 hgrow7 hblk7); clear hown7 hgrow7 hblk7 x0 x1 x2 x3 x4 x5 x6 x7))
      obtain ⟨c7, p7, hr7⟩ := HS7.out.rd
      obtain ⟨L, hL⟩ : ∃ L, L = ks ++ [t] := ⟨_, rfl⟩
      rw [← hL] at HS7 HP2
      have hLl : Hid (L.length = ks.length + 1) := hid (by simp [hL])
      clear hL
      obtain ⟨A7, cp7, rfl⟩ := HS7.out.kids.shape
      by_cases h124 : nx s.data.toList k = 124
      · have HP3 := hid ((if_pos h124).symm.trans HP2.out)
        have hk1 : k < s.size := nx_lt (l := s.data.toList) (by omega)
        go_wp2_with fail
        refine (took_yes hr7 hks hs 124 h124).mono ?_
        rintro e w8 ⟨rfl, hr8, hg8⟩
        have HS8 := hid (HS7.out.step hg8 ⟨_, _, hr8⟩ hgw)
        clear hr7 hr8 hg8 HS7
        go_wp2_with fail
        go_roundg m
        case measure => omega
        case rel => exact ⟨k + 1, n2, L, hk1, hn2, by omega, by have := hLl.out; omega, HP3, HS8⟩
      · have HPE := hid (HP2.out.symm.trans (if_neg h124))
        have hkj2 : L.length ≤ k + 1 := by have := hLl.out; omega
        go_wp2_with fail
        refine (took_no hr7 hks hs 124 h124).mono ?_
        rintro e w8 ⟨rfl, hr8, hg8⟩
        have HS8 := hid (HS7.out.step hg8 ⟨_, _, hr8⟩ hgw)
        clear hr7 hg8 HS7 HP2 HOwn HV1 HV3 HC H6 HS5 HX5 HREP5 h124
        rcases L with _ | ⟨t, _ | ⟨t2, ks⟩⟩
        · exact absurd hLl.out (by simp)
        · have HP3 : Hid (P = .ok (t, k, n2)) := hid HPE.out
          obtain ⟨g0, x0, hA1, rfl, hrow, hrep⟩ := HS8.out.kids.one
          have hg0 : g0 < w8.heap.size := (HS8.out.kids.own_lt g0 rfl).2
          have HM := hid (joined_one hr8 4 g0 cp7 x0 hrow hg0)
          have HREP := hid hrep
          unfold RV.val at HM
          clear HPE hrow hrep
          go_wp2_with fail
          refine (HM.out).mono ?_
          rintro e w9 ⟨rfl, hr9, hg9⟩
          have HZ9 := hid (show w9.heap[w.heap.size]? = some (.cells zeroR 26) from (hg9.block w.heap.size HS8.out.res.lt (by intro e; injection e with e; omega)).trans HS8.out.res)
          have HG9 := hid (grown_trans HS8.out.gr hg9)
          go_wp2_with (refine wpList_store_row rfl 26 _ _ rfl w.heap.size x0.cells.toArray ?_ ?_ 26 zeroR HZ9.out (rx_size _) ?_ (rx_one _) ?_; exact rfl; exact rfl; exact rfl)
          obtain ⟨A0, A1, A2⟩ := post_storeR (cs := x0.cells.toArray) HZ9.out HG9.out (Nat.le_refl _) hgw hr9
          have REPEND := (HREP.out.mono hg9.size (fun b hp hl => hg9.block b hl (by intro e; injection e with e; have : w.heap.size + 1 ≤ b := hp; omega)) (fun _ h _ => h)).mono (w' := w9.setRow w.heap.size x0.cells.toArray) (Q := (w.heap.size ≤ ·)) (by simp [World.setRow]) (fun b hp _ => setRow_other _ _ _ _ (by have : w.heap.size + 1 ≤ b := hp; omega)) (fun b h _ => by have : w.heap.size + 1 ≤ b := h; omega)
          rw [HP3.out]
          exact bodyPost_ret (v := .tuple #[.agg x0.cells.toArray, .bool true]) (results_cell_tmp (P := Tryd.prog) (fn := Tryd.f31) rfl _ _ w.heap.size 26 _ (0, 0) _ rfl A0 Tryd.underlying26 rfl (rx_size _)) rfl ⟨A2, ⟨x0, rfl, ⟨_, _, A1⟩, REPEND⟩⟩
        · have HP2 : Hid (P = mkN (.nd 4 (0#256) (t :: t2 :: ks) 0 0) k n2) := hid HPE.out
          have hlen : (t :: t2 :: ks).length = ks.length + 1 + 1 := rfl
          rw [hlen]
          have hkl : ks.length ≤ 512 := by have : ks.length + 1 + 1 ≤ k + 1 := hkj2; omega
          clear HPE
          by_cases hn : n2 + 1 ≤ 512
          · have HP3 : Hid (P = .ok (.nd 4 (0#256) (t :: t2 :: ks) 0 0, k, n2 + 1)) := hid (by rw [HP2.out]; unfold mkN; rw [if_pos hn])
            have HM := hid (joined_many hr8 hn 4 A7 (ks.length + 1 + 1) cp7 (by omega) (by omega))
            have HV2 := hid (many_val 4 A7 (ks.length + 1 + 1) cp7)
            have HV3 := hid (RV.val_eq (RV.many 4 A7 (ks.length + 1 + 1) cp7))
            have HREP := hid (HS8.out.kids.rep 4 (0#256) 0 0)
            rw [HV2.out] at HM HV3
            clear HP2
            go_wp2_with fail
            refine (HM.out).mono ?_
            rintro e w9 ⟨rfl, hr9, hg9⟩
            have HZ9 := hid (show w9.heap[w.heap.size]? = some (.cells zeroR 26) from (hg9.block w.heap.size HS8.out.res.lt (by intro e; injection e with e; omega)).trans HS8.out.res)
            have HG9 := hid (grown_trans HS8.out.gr hg9)
            go_wp2_with (refine wpList_store_row rfl 26 _ _ rfl w.heap.size (RV.many 4 A7 (ks.length + 1 + 1) cp7).cells.toArray ?_ ?_ 26 zeroR HZ9.out (rx_size _) ?_ (rx_one _) ?_; exact rfl; exact HV3.out; exact rfl)
            obtain ⟨A0, A1, A2⟩ := post_storeR (cs := (RV.many 4 A7 (ks.length + 1 + 1) cp7).cells.toArray) HZ9.out HG9.out (Nat.le_refl _) hgw hr9
            have REPEND := (HREP.out.mono hg9.size (fun b hp hl => hg9.block b hl (by intro e; injection e with e; have : w.heap.size + 1 ≤ b := hp; omega)) (fun _ h _ => h)).mono (w' := w9.setRow w.heap.size (RV.many 4 A7 (ks.length + 1 + 1) cp7).cells.toArray) (Q := (w.heap.size ≤ ·)) (by simp [World.setRow]) (fun b hp _ => setRow_other _ _ _ _ (by have : w.heap.size + 1 ≤ b := hp; omega)) (fun b h _ => by have : w.heap.size + 1 ≤ b := h; omega)
            rw [HP3.out]
            exact bodyPost_ret (v := .tuple #[.agg (RV.many 4 A7 (ks.length + 1 + 1) cp7).cells.toArray, .bool true]) (results_cell_tmp (P := Tryd.prog) (fn := Tryd.f31) rfl _ _ w.heap.size 26 _ (0, 0) _ rfl A0 Tryd.underlying26 rfl (rx_size _)) rfl ⟨A2, ⟨(RV.many 4 A7 (ks.length + 1 + 1) cp7), by rw [RV.val_eq], ⟨_, _, A1⟩, REPEND⟩⟩
          · have HP3 : Hid (P = .error (2, k)) := hid (by rw [HP2.out]; unfold mkN; rw [if_neg hn])
            have HM := hid (joined_over hr8 (by omega) (by omega) 4 A7 (ks.length + 1 + 1) cp7 (by omega) (by omega))
            clear HP2
            go_wp2_with fail
            refine (HM.out).mono ?_
            rintro e w9 ⟨rfl, hr9, hg9⟩
            have HZ9 := hid (show w9.heap[w.heap.size]? = some (.cells zeroR 26) from (hg9.block w.heap.size HS8.out.res.lt (by intro e; injection e with e; omega)).trans HS8.out.res)
            have HG9 := hid (grown_trans HS8.out.gr hg9)
            go_wp2_with (refine wpList_store_row rfl 26 _ _ rfl w.heap.size zeroR ?_ ?_ 26 zeroR HZ9.out (by rw [← zeroR_eq]; exact rx_size _) ?_ (by rw [← zeroR_eq]; exact rx_one _) ?_; exact rfl; exact rfl; exact rfl)
            obtain ⟨A0, A1, A2⟩ := post_storeR (cs := zeroR) HZ9.out HG9.out (Nat.le_refl _) hgw hr9
            rw [HP3.out]
            exact bodyPost_ret (v := .tuple #[.agg zeroR, .bool false]) (results_cell_tmp (P := Tryd.prog) (fn := Tryd.f31) rfl _ _ w.heap.size 26 _ (0, 0) _ rfl A0 Tryd.underlying26 rfl (by rw [← zeroR_eq]; exact rx_size _)) rfl ⟨A2, ⟨RV.zero, by rw [rx_zero]; rfl⟩, _, _, A1⟩
    · have HPe : Hid (P = .error (c4, p4)) := hid HP1.out.symm
      have HZ5 := hid (Blk.keep (cs := zeroR.toList) ((hg4.block w.heap.size HS1.out.res.lt (by intro e; injection e with e; omega)).trans HS1.out.res) hbx)
      have HG5 := hid (below_of_new (grown_trans HS1.out.gr hg4) hbx)
      have HR5 := hid (Rd.keep hr4 hbx)
      clear hbx hg4 hr4 HS1 HP1 HRl2
      go_wp2_with (first
        | (refine wpList_store_row rfl 26 _ _ rfl w4.heap.size v.cells.toArray ?_ ?_ 26 #[.int .i64 0, .int .u64 0, .int .u64 0, .int .u64 0, .int .u64 0, .slice none 0 0, .int .i64 0, .int .i64 0] (heap_alloc_new w4 _) HSz.out ?_ HOne.out ?_; exact rfl; exact rfl; exact rfl; generalize (w4.alloc (.cells #[.int .i64 0, .int .u64 0, .int .u64 0, .int .u64 0, .int .u64 0, .slice none 0 0, .int .i64 0, .int .i64 0] 26)).setRow w4.heap.size v.cells.toArray = w5 at *)
        | (refine wpList_store_row rfl 26 _ _ rfl w.heap.size zeroR ?_ ?_ 26 zeroR HZ5.out (by rw [← zeroR_eq]; exact rx_size _) ?_ (by rw [← zeroR_eq]; exact rx_one _) ?_; exact rfl; exact rfl; exact rfl))
      obtain ⟨A0, A1, A2⟩ := post_storeR (cs := zeroR) (show w5.heap[w.heap.size]? = some (.cells zeroR 26) from HZ5.out) HG5.out (Nat.le_refl _) hgw HR5.out
      rw [HPe.out]
      exact bodyPost_ret (v := .tuple #[.agg zeroR, .bool false]) (results_cell_tmp (P := Tryd.prog) (fn := Tryd.f31) rfl _ _ w.heap.size 26 _ (0, 0) _ rfl A0 Tryd.underlying26 rfl (by rw [← zeroR_eq]; exact rx_size _)) rfl ⟨A2, ⟨RV.zero, by rw [rx_zero]; rfl⟩, _, _, A1⟩
end Go.Proofs.YtoiegkejkahfgaaDoor

/- regex: an expression, at whatever depth. -/
namespace Go.Proofs.YtoiegkejkahfgaaDoor
open Go.RowKit

set_option maxRecDepth 100000 in
set_option maxHeartbeats 4000000 in
theorem either_deep {w : World} {g : Nat} {s : ByteArray} {i nd : Nat} {c p : Int} (h : Rd w g s i nd c p) (hi : i ≤ s.size) (hs : s.size ≤ 512) (E : Nat → Nat → NR RT) (hE : E i nd = .error (6, i)) :
    Calls Tryd.prog 31 #[.pointer (some ⟨g, 0, none⟩), .int .i64 ((33 : Nat) : Int)] w (PostN (E i nd) w g s) := by
  rw [hE]
  have hgw := Blk.lt h
  have hA : Below w.heap.size w (w.alloc (.cells zeroR 26)) := (Below.refl _ _).alloc (Nat.le_refl _) _
  have HZ := hid (heap_alloc_new w (.cells zeroR 26))
  have HR := hid (h.keep hA)
  have HG := hid (grown_of_below hA (some g))
  clear hA h hE
  go_enter Tryd.func31, Tryd.ntmps31
  go_upto_region 1 with (fail)
  change Code.wp _ _ _ _ (w.alloc (.cells zeroR 26))
  have hs1 : (w.alloc (.cells zeroR 26)).heap.size = w.heap.size + 1 := by simp
  generalize w.alloc (.cells zeroR 26) = w1 at *
  obtain ⟨h0, h1, h2, h3, h4, f1, f2, f3, f4⟩ := HR.out.cells
  go_wp2_with fail
  refine (fail_any HR.out 6 (i : Int)).mono ?_
  rintro e w2 ⟨rfl, hr2, hg2⟩
  have HZ9 := hid (show w2.heap[w.heap.size]? = some (.cells zeroR 26) from (hg2.block w.heap.size (by omega) (by intro e; injection e with e; omega)).trans HZ.out)
  have HG9 := hid (grown_trans HG.out hg2)
  have hr9 := hr2
  go_wp2_with (refine wpList_store_row rfl 26 _ _ rfl w.heap.size zeroR ?_ ?_ 26 zeroR HZ9.out (by rw [← zeroR_eq]; exact rx_size _) ?_ (by rw [← zeroR_eq]; exact rx_one _) ?_; exact rfl; exact rfl; exact rfl)
  obtain ⟨A0, A1, A2⟩ := post_storeR (cs := zeroR) HZ9.out HG9.out (Nat.le_refl _) hgw hr9
  exact bodyPost_ret (v := .tuple #[.agg zeroR, .bool false]) (results_cell_tmp (P := Tryd.prog) (fn := Tryd.f31) rfl _ _ w.heap.size 26 _ (0, 0) _ rfl A0 Tryd.underlying26 rfl (by rw [← zeroR_eq]; exact rx_size _)) rfl ⟨A2, ⟨RV.zero, by rw [rx_zero]; rfl⟩, _, _, A1⟩
theorem either_at {g : Nat} {s : ByteArray} (hs : s.size ≤ 512) : ∀ d : Nat, d ≤ 33 → EitherAt g s (33 - d) (pEither s.data.toList d) := by
  intro d
  induction d with
  | zero =>
    intro _
    exact ⟨fun W j nd c p h hj _ => either_deep h hj hs _ rfl, fun j nd t j' nd' _ _ e => by cases e⟩
  | succ d ih =>
    intro hd
    have HE := ih (by omega)
    rw [show 33 - d = (33 - (d + 1)) + 1 by omega] at HE
    exact ⟨fun W j nd c p h hj hnd => either_in h hj hnd hs (33 - (d + 1)) (by omega) _ HE, fun j nd t j' nd' hj hnd e => pEithL_le HE hj hnd e⟩
end Go.Proofs.YtoiegkejkahfgaaDoor
