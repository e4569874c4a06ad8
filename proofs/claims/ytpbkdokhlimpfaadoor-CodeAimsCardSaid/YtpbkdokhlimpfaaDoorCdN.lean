/- code: Clone, walked. -/
import Derived.Test.YtpbkdokhlimpfaaDoorCdM
namespace Go.Proofs.YtpbkdokhlimpfaaDoor
set_option linter.unusedSimpArgs false
set_option linter.unusedVariables false
open Go.RowKit

theorem froz_keep {w w' : World} {g : Nat} (hb : Below w.heap.size w w') (hg : g < w.heap.size) (h : ∀ j, w.frozen? ⟨g, j, none⟩ = false) : ∀ j, w'.frozen? ⟨g, j, none⟩ = false := fun j => by
  have := h j
  unfold World.frozen? at this ⊢
  simp only at this ⊢
  rw [hb.block g hg]
  exact this
theorem pt_one (p : PT) : (#[.slice p.S.A p.S.n p.S.c, .int .i64 p.sl, .int .i64 p.su, .int .i64 p.au] : Array Value).all (·.oneCell') = true := by simp [Value.oneCell']
theorem ClI.done {w wr : World} {base g0 : Nat} {p : PT} {S : SV} {ss : List ST} {q : Nat} (h : ClI w base g0 p S q ss wr) (hq : q = ss.length) (hbs : ∀ x ∈ p.ss, x.bs.length = 256) : POwn wr base ⟨ss, S, p.sl, p.su, p.au⟩ := by
  refine ⟨h.row, fun x hx => ?_, ?_⟩
  · obtain ⟨j, hj, hje⟩ := List.mem_iff_getElem.1 hx
    replace hj : j < ss.length := hj
    exact ⟨h.own j x (by rw [← hje]; exact List.getElem?_eq_getElem _) (by omega), bare_bs h.bare hbs x hx⟩
  · have := h.ne
    rw [hq, List.take_length] at this
    exact this
theorem POwn.other {w w' : World} {base : Nat} {p : PT} (h : POwn w base p) (hb : ∀ b, base ≤ b → b < w.heap.size → w'.heap[b]? = w.heap[b]?) : POwn w' base p :=
  ⟨owns_mono h.row (fun b hh => hb b (owns_block h.row b hh).1 (owns_block h.row b hh).2), fun x hx => ⟨owns_mono (h.ways x hx).1 (fun b hh => hb b (owns_block (h.ways x hx).1 b hh).1 (owns_block (h.ways x hx).1 b hh).2), (h.ways x hx).2⟩, h.ne⟩
def PT.zero : PT := ⟨[], SV.nil, 0, 0, 0⟩
set_option maxRecDepth 100000 in
set_option maxHeartbeats 4000000 in
theorem Clone_any (p : PT) (w : World) {P : Nat → Prop} (hP : PtOk w P p) (hl : p.ss.length ≤ 1000000) (hws : ∀ x ∈ p.ss, x.ws.length ≤ 1000000) :
    Calls Tryd.prog 21 #[p.val] w fun e w' => ∃ q : PT, e = .returned q.val ∧ q.bare = p.bare ∧ POwn w' w.heap.size q ∧ Below w.heap.size w w' := by
  obtain ⟨RR, hRR⟩ : ∃ RR : Ending → World → Prop, RR = fun e w' => ∃ q : PT, e = .returned q.val ∧ q.bare = p.bare ∧ POwn w' w.heap.size q ∧ Below w.heap.size w w' := ⟨_, rfl⟩
  rw [← hRR]
  have HRR := hid hRR
  obtain ⟨hb1, h1⟩ := box_prog w p
  obtain ⟨hb2, h2⟩ := box_prog (w.alloc (.cells p.cells.toArray 24)) PT.zero
  have hb := below_then' hb1 hb2
  replace h1 : BoxP _ w.heap.size p := Blk.keep h1 hb2
  rw [World.size_alloc] at h2
  have hpc : p.cells.toArray = #[.slice p.S.A p.S.n p.S.c, .int .i64 p.sl, .int .i64 p.su, .int .i64 p.au] := rfl
  have hzc : PT.zero.cells.toArray = #[.slice none 0 0, .int .i64 0, .int .i64 0, .int .i64 0] := rfl
  have hsz : ((w.alloc (.cells p.cells.toArray 24)).alloc (.cells PT.zero.cells.toArray 24)).heap.size = w.heap.size + 2 := by simp
  rw [hpc, hzc] at hb h1 h2 hsz
  have HB := hid hb
  have HX := hid h1
  have HZ := hid h2
  have HS := hid hsz
  have HP := hid (hP.keep hb)
  have hbs : ∀ x ∈ p.ss, x.bs.length = 256 := fun x hx => (hP.each x hx).bl
  have HBs := hid hbs
  have HNe := hid hP.n
  have HWs := hid hws
  have HLn := hid hl
  have HC := hid (fun W (hW : PtOk W P p) => cloneS_any P p.S (flatS p.ss) W hW.r (by rw [hW.n, flatS_len (fun x hx => (hW.each x hx).len)]) (by rw [hW.n]; omega) (flatS_ones _))
  have HCw := hid (fun x W (hW : StOk W P x) (hl : x.ws.length ≤ 1000000) => cloneW_any P x.W (flatW x.ws) W hW.wr (by rw [hW.wn, flatW_len]) (by rw [hW.wn]; omega) (flatW_ones _))
  obtain ⟨x0, x1, x2, x3⟩ := h1.four
  have hPe := hid (show ∀ x ∈ p.ss, StOk w P x from hP.each)
  clear hRR hb1 hb2 hb h1 h2 hpc hzc hsz hP hl hws hbs
  unfold PT.val
  obtain ⟨ss, ⟨A, n, c⟩, sl, su, au⟩ := p
  simp only at *
  go_enter Tryd.func21, Tryd.ntmps21
  go_upto_region 1 with (fail)
  generalize (w.alloc (.cells #[.slice A n c, .int .i64 sl, .int .i64 su, .int .i64 au] 24)).alloc (.cells #[.slice none 0 0, .int .i64 0, .int .i64 0, .int .i64 0] 24) = w1 at *
  have HCc := hid (HC.out w1 HP.out)
  unfold SV.val at HCc
  go_upto_region 2 with (go_at_call 34; (with_reducible refine HCc.out.mono ?_); rintro e w2 ⟨⟨A', n', c'⟩, rfl, hn', hb2, ho2⟩; unfold SV.val; have e0 := Blk.at (Blk.keep HX.out hb2) 0; have ff := Blk.free (Blk.keep HX.out hb2); simp only [PT.cells, List.getElem?_cons_zero] at e0)
  have hn2 : n' = n := hn'
  subst hn2
  have HI := hid (show ClI w (w.heap.size + 2) w.heap.size ⟨ss, ⟨A, n', c⟩, sl, su, au⟩ ⟨A', n', c'⟩ 0 ss (w2.setCell ⟨w.heap.size, 0, none⟩ (.slice A' n' c')) from by
    have hs2 := hb2.size
    have hs1 := HS.out
    refine ⟨(HB.out.trans (hb2.mono HB.out.size)).setCell (Nat.le_refl _) _, by simp [World.setCell]; omega, by omega, ?_, ?_, ?_, rfl, rfl, fun j x _ h => absurd h (by omega), fun j _ => rfl, by simp⟩
    · exact Blk.put (Blk.keep HX.out hb2) 0 (.slice A' n' c')
    · exact Blk.other (Blk.keep HZ.out hb2) (by simp) _
    · have ho3 : w2.ownsRow (w.heap.size + 2) 37 265 (.slice A' n' c') n' (flatS ss) := by rw [← hs1]; exact ho2
      have e : n' = ss.length := HNe.out
      rw [← e]
      exact ownsRow_setCell_below ho3 (by simp) _)
  have z0 := Blk.at HI.out.box 0
  simp only [PT.cells, List.getElem?_cons_zero] at z0
  generalize w2.setCell ⟨w.heap.size, 0, none⟩ (.slice A' n' c') = w3 at *
  clear e0 ff ho2 hb2 hn' x0 x1 x2 x3 HX HZ HS HCc HC
  go_wp2_with fail
  clear z0
  have hnb : n' ≤ 1000000 := by have h1 := HLn.out; have h2 : n' = ss.length := HNe.out; omega
  go_loopw [3, 11] (fun _ i wr => ∃ (q : Nat) (cur : List ST), q ≤ n' ∧ i = .int .i64 q ∧ Hid (ClI w (w.heap.size + 2) w.heap.size ⟨ss, ⟨A, n', c⟩, sl, su, au⟩ ⟨A', n', c'⟩ q cur wr)) (fun _ i _ => n' - (intOf i).toNat)
  case atStart => exact ⟨0, ss, by omega, rfl, HI⟩
  case round =>
    clear HI
    obtain ⟨q, cur, hq, rfl, HI⟩ := hrel
    by_cases hlt : q < n'
    · have hlt' : (q : Int) < (n' : Int) := by omega
      obtain ⟨x, hx⟩ : ∃ x, cur[q]? = some x := ⟨_, List.getElem?_eq_getElem (by rw [HI.out.len]; have h2 : n' = ss.length := HNe.out; show q < ss.length; omega)⟩
      obtain ⟨g, hA, -, hg2, hgl, hgc, hgf⟩ := owns_at HI.out.row (by have := (List.getElem?_eq_some_iff.1 hx).1; omega)
      have HX := hid hx
      have hql := (List.getElem?_eq_some_iff.1 hx).1
      have hlen : ∀ y ∈ cur, y.cells.length = 265 := fun y hy => st_len (bare_bs HI.out.bare HBs.out y hy)
      have r8 : wr.cell? ⟨g, q * 265 + 8, none⟩ = some (.slice x.W.A x.W.n x.W.c) := hgc _ _ (by
        rw [flatS_get hlen q 8 hql (by decide), (List.getElem?_eq_some_iff.1 hx).2]
        unfold ST.cells
        rw [List.getElem?_append_left (by show 8 < 9; decide)]
        rfl)
      have HSt := hid (show ∀ W, Below wr.heap.size wr W → StOk W P x from fun W hW => by
        have hx2 : ss[q]? = some x := by rw [← HI.out.old q (Nat.le_refl _)]; exact HX.out
        have := (List.getElem?_eq_some_iff.1 hx2)
        exact (((hPe.out x (by rw [← this.2]; exact List.getElem_mem _)).keep HI.out.bel).keep hW))
      have hA : A' = some ⟨g, 0, none⟩ := hA
      subst hA
      have z0 := Blk.at HI.out.box 0
      simp only [PT.cells, List.getElem?_cons_zero] at z0
      have HG := hid (And.intro hgl hgf)
      have hxw : x.ws.length ≤ 1000000 := HWs.out x (by
        have hx2 : ss[q]? = some x := by rw [← HI.out.old q (Nat.le_refl _)]; exact HX.out
        have := (List.getElem?_eq_some_iff.1 hx2)
        rw [← this.2]; exact List.getElem_mem _)
      have HWn := hid (HSt.out wr (Below.refl _ _)).wn
      have HCx := hid (HCw.out x wr.drew (HSt.out _ (below_d0' _)) hxw)
      unfold SV.val at HCx
      have HR8 := hid r8
      obtain ⟨xW, hxW⟩ : ∃ xW, xW = x.W := ⟨_, rfl⟩
      rw [← hxW] at HCx r8 HWn
      clear hxW
      obtain ⟨wA, wN, wC⟩ := xW
      simp only at r8 HCx
      clear hgc hgf hlen hx hg2 hgl hxw hql
      go_upto_region 5 with (fail)
      go_region_with (go_at_call 27; (with_reducible refine HCx.out.mono ?_); rintro e w4 ⟨⟨A4, n4, c4⟩, rfl, hn4, hb4, ho4⟩; unfold SV.val; have hb4 := (show Below wr.heap.size wr w4 from ⟨hb4.os, hb4.tape, hb4.output, hb4.size, hb4.block⟩); have e0 := Blk.at (Blk.keep HI.out.box hb4) 0; simp only [PT.cells, List.getElem?_cons_zero] at e0; have f8 := (World.cell?_of_block (w := wr) (w' := w4) (a := ⟨g, q * 265 + 8, none⟩) (hb4.block g HG.out.1)).trans HR8.out; have ff := froz_keep hb4 HG.out.1 HG.out.2)
      all_goals
        have HI2 := hid (show ClI w (w.heap.size + 2) w.heap.size ⟨ss, ⟨A, n', c⟩, sl, su, au⟩ ⟨some ⟨g, 0, none⟩, n', c'⟩ (q + 1) (cur.set q (x.moved ⟨A4, n4, c4⟩)) (w4.setCell ⟨g, q * 265 + 8, none⟩ (.slice A4 n4 c4)) from HI.out.step (s' := ⟨A4, n4, c4⟩) HBs.out HX.out (Nat.le_refl _) hb4 (by rw [← HWn.out]; exact ho4) g rfl)
        have hn4 : n4 = wN := hn4
        try subst hn4
        generalize w4.setCell ⟨g, q * 265 + 8, none⟩ (.slice A4 n4 c4) = w5 at *
        clear e0 f8 ff z0 r8 ho4 hb4
        go_wp2_with fail
        exact ⟨⟨q + 1, _, by omega, by go_num, HI2⟩, by simp [intOf]; omega⟩
    · obtain rfl : q = n' := by omega
      clear hlt
      have HSz := hid (show (Tryd.prog.info? 24).map (·.size) = some (#[.slice A' q c', .int .i64 sl, .int .i64 su, .int .i64 au] : Array Value).size from by kernel_rfl)
      obtain ⟨x0, x1, x2, x3⟩ := HI.out.box.four
      have HOne := hid (pt_one ⟨[], ⟨A', q, c'⟩, sl, su, au⟩)
      simp only at HOne
      have HBz := hid (show wr.heap[w.heap.size + 1]? = some (.cells #[.slice none 0 0, .int .i64 0, .int .i64 0, .int .i64 0] 24 (0, 0)) from HI.out.box1)
      have HF := hid (setRow_heap wr (w.heap.size + 1) _ #[.slice A' q c', .int .i64 sl, .int .i64 su, .int .i64 au] _ _ HBz.out)
      go_wp2_with ((with_reducible refine wpList_store_row rfl 24 _ _ rfl (w.heap.size + 1) #[.slice A' q c', .int .i64 sl, .int .i64 su, .int .i64 au] ?_ ?_ 24 #[.slice none 0 0, .int .i64 0, .int .i64 0, .int .i64 0] HBz.out HSz.out ?_ HOne.out ?_); exact rfl; exact rfl; exact rfl)
      refine bodyPost_ret (v := .agg #[.slice A' q c', .int .i64 sl, .int .i64 su, .int .i64 au]) (results_cell_row (P := Tryd.prog) (fn := Tryd.f21) rfl _ _ (w.heap.size + 1) 24 #[.slice A' q c', .int .i64 sl, .int .i64 su, .int .i64 au] (0, 0) _ rfl HF.out Tryd.underlying24 rfl (by kernel_rfl)) rfl ?_
      rw [HRR.out]
      have hq2 : q = cur.length := by have h1 := HI.out.len; have h2 : q = ss.length := HNe.out; have h1 : cur.length = ss.length := h1; omega
      refine ⟨⟨cur, ⟨A', q, c'⟩, sl, su, au⟩, rfl, ?_, ?_, below_row HI.out.bel (by omega) _⟩
      · unfold PT.bare
        simp only [PT.mk.injEq, and_true]
        exact HI.out.bare
      · exact ((HI.out.done hq2 HBs.out).other (fun b hb _ => setRow_other wr _ b _ (by omega))).wide (by omega)
end Go.Proofs.YtpbkdokhlimpfaaDoor
