/- code: the Maker's Add. -/
import Derived.Test.YtpbkdokhlimpfaaDoorCdP
namespace Go.Proofs.YtpbkdokhlimpfaaDoor
set_option linter.unusedSimpArgs false
set_option linter.unusedVariables false
open Go.RowKit

theorem flatS_add (l : List ST) (y : ST) : flatS (l ++ [y]) = flatS l ++ y.cells := by
  unfold flatS
  rw [List.flatMap_append]
  simp
theorem add_done {w w2 wx : World} {O : Nat → Prop} {g : Nat} {p : PT} {ov : Bool} {x : ST} {s' : SV} {A' : Option Addr} {c' : Nat} (hM : MkOk w O g p ov) (hb : ∀ b, b < w.heap.size → w2.heap[b]? = w.heap[b]?) (hs : w.heap.size + 1 ≤ w2.heap.size) (hos : w2.os = w.os) (hot : w2.tape = w.tape) (hoo : w2.output = w.output)
    (ho : w2.ownsRow (w.heap.size + 1) 46 2 s'.val x.ws.length (flatW x.ws)) (hbs : x.bs.length = 256)
    (hx1 : wx.ownsRow 0 37 265 (.slice A' (p.ss.length + 1) c') (p.ss.length + 1) (flatS p.ss ++ (x.moved s').cells))
    (hgr : (((w2.setCell ⟨w.heap.size, 8, none⟩ s'.val).drew).alloc (.cells (x.moved s').cells.toArray 37)).grownBy wx p.S.val.ownBlock)
    (hat : (Value.slice A' (p.ss.length + 1) c').ownBlock = p.S.val.ownBlock ∨ (Value.slice A' (p.ss.length + 1) c').ownBlock = some (w2.heap.size + 1)) :
    MkOk (wx.setCell ⟨g, 0, none⟩ (.slice A' (p.ss.length + 1) c')) (fun b => O b ∨ w.heap.size ≤ b ∧ b < (wx.setCell ⟨g, 0, none⟩ (.slice A' (p.ss.length + 1) c')).heap.size) g ⟨p.ss ++ [x.moved s'], ⟨A', p.ss.length + 1, c'⟩, p.sl, p.su, p.au⟩ ov ∧ Chg w (wx.setCell ⟨g, 0, none⟩ (.slice A' (p.ss.length + 1) c')) O := by
  have hS0 : ∀ b, p.S.val.ownBlock = some b → b < w.heap.size := fun b hh => (owns_block hM.own.row b hh).2
  have hg : g < w.heap.size := Blk.lt hM.box
  have hsz3 : (((w2.setCell ⟨w.heap.size, 8, none⟩ s'.val).drew).alloc (.cells (x.moved s').cells.toArray 37)).heap.size = w2.heap.size + 1 := by simp [World.setCell]
  have hsx := hgr.size
  rw [hsz3] at hsx
  have hszf : (wx.setCell ⟨g, 0, none⟩ (.slice A' (p.ss.length + 1) c')).heap.size = wx.heap.size := by simp [World.setCell]
  -- what isn't the box, the row or the maker stays
  have hk : ∀ b, b < w2.heap.size → b ≠ w.heap.size → p.S.val.ownBlock ≠ some b → wx.heap[b]? = w2.heap[b]? := fun b h1 h2 h3 => by
    rw [hgr.block b (by rw [hsz3]; omega) (fun e => h3 e.symm)]
    rw [heap_alloc_old _ _ (by simpa [World.setCell] using h1)]
    exact Below.heap_setCell w2 _ _ b h2
  have hk2 : ∀ b, b < w2.heap.size → b ≠ w.heap.size → p.S.val.ownBlock ≠ some b → b ≠ g → (wx.setCell ⟨g, 0, none⟩ (.slice A' (p.ss.length + 1) c')).heap[b]? = w2.heap[b]? := fun b h1 h2 h3 h4 => (Below.heap_setCell wx _ _ b h4).trans (hk b h1 h2 h3)
  have hboxx : MkBox wx g p ov := (hk g (by omega) (by omega) (hM.box.not_row hM.own.row (by decide))).trans ((hb g hg).trans hM.box)
  have hwx : WOwn (wx.setCell ⟨g, 0, none⟩ (.slice A' (p.ss.length + 1) c')) 0 (x.moved s') := owns_mono (owns_base ho (Nat.zero_le _)) (fun b hh => by
    have h1 := owns_block ho b hh
    exact hk2 b h1.2 (by omega) (fun e => by have := hS0 b e; omega) (by omega))
  have hwo : ∀ y ∈ p.ss, WOwn (wx.setCell ⟨g, 0, none⟩ (.slice A' (p.ss.length + 1) c')) 0 y := fun y hy => owns_mono (hM.own.ways y hy).1 (fun b hh => by
    have h1 := (owns_block (hM.own.ways y hy).1 b hh).2
    refine (hk2 b (by omega) (by omega) (fun e => owns_apart hM.own.row (hM.own.ways y hy).1 (by decide) b e hh) (fun e => ?_)).trans (hb b h1)
    subst e
    exact own_neN (hM.own.ways y hy).1 hM.box (by decide) hh)
  refine ⟨⟨?_, Or.inl hM.og, ⟨?_, ?_, ?_⟩, ?_, ?_⟩, ?_⟩
  · exact Blk.put hboxx 0 (.slice A' (p.ss.length + 1) c')
  · have h2 : (wx.setCell ⟨g, 0, none⟩ (.slice A' (p.ss.length + 1) c')).ownsRow 0 37 265 (.slice A' (p.ss.length + 1) c') (p.ss.length + 1) (flatS p.ss ++ (x.moved s').cells) := owns_mono hx1 (fun b hh => Below.heap_setCell wx _ _ b (fun e => by
      simp only at e
      subst e
      exact own_neN hx1 hboxx (by decide) hh))
    show (wx.setCell _ _).ownsRow 0 _ 265 _ (p.ss ++ [x.moved s']).length (flatS (p.ss ++ [x.moved s']))
    rw [flatS_add, List.length_append]
    exact h2
  · intro y hy
    rcases List.mem_append.1 hy with hy | hy
    · exact ⟨hwo y hy, (hM.own.ways y hy).2⟩
    · rw [List.mem_singleton] at hy
      subst hy
      exact ⟨hwx, hbs⟩
  · rw [List.pairwise_append]
    refine ⟨hM.own.ne, List.pairwise_singleton _ _, fun y hy z hz => ?_⟩
    rw [List.mem_singleton] at hz
    subst hz
    intro b hh hc
    have h1 := (owns_block (hM.own.ways y hy).1 b hh).2
    have h2 := (owns_block ho b hc).1
    omega
  · intro b hh
    rcases hat with h | h
    · exact Or.inl (hM.os b (by rw [← h]; exact hh))
    · have hh : (Value.slice A' (p.ss.length + 1) c').ownBlock = some b := hh
      rw [h] at hh
      injection hh with hh
      have := (owns_block hx1 b (by rw [h, hh])).2
      exact Or.inr ⟨by omega, by omega⟩
  · intro y hy b hh
    rcases List.mem_append.1 hy with hy | hy
    · exact Or.inl (hM.ow y hy b hh)
    · rw [List.mem_singleton] at hy
      subst hy
      have h1 := owns_block ho b hh
      exact Or.inr ⟨by omega, by omega⟩
  · refine ⟨?_, ?_, ?_, by omega, fun b h1 h2 => ?_⟩
    · exact hgr.os.trans hos
    · exact hgr.tape.trans hot
    · exact hgr.output.trans hoo
    · exact (hk2 b (by omega) (by omega) (fun e => h2 (hM.os b e)) (fun e => h2 (by rw [e]; exact hM.og))).trans (hb b h1)
set_option maxRecDepth 100000 in
set_option maxHeartbeats 4000000 in
theorem Add_any (O : Nat → Prop) (g : Nat) (p : PT) (ov : Bool) (x : ST) (w : World) {P : Nat → Prop} (hM : MkOk w O g p ov) (hx : StOk w P x) (hl : p.ss.length < 65536) (hw : x.ws.length ≤ 1000000) :
    Calls Tryd.prog 12 #[.pointer (some ⟨g, 0, none⟩), x.val] w fun e w' => e = .returned (.int .i64 p.ss.length) ∧ ∃ s' S', MkOk w' (fun b => O b ∨ w.heap.size ≤ b ∧ b < w'.heap.size) g ⟨p.ss ++ [x.moved s'], S', p.sl, p.su, p.au⟩ ov ∧ Chg w w' O := by
  obtain ⟨RR, hRR⟩ : ∃ RR : Ending → World → Prop, RR = fun e w' => e = .returned (.int .i64 p.ss.length) ∧ ∃ s' S', MkOk w' (fun b => O b ∨ w.heap.size ≤ b ∧ b < w'.heap.size) g ⟨p.ss ++ [x.moved s'], S', p.sl, p.su, p.au⟩ ov ∧ Chg w w' O := ⟨_, rfl⟩
  rw [← hRR]
  have HRR := hid hRR
  obtain ⟨X, hX⟩ : ∃ X, X = x.cells.toArray := ⟨_, rfl⟩
  have hb1 : Below w.heap.size w (w.alloc (.cells X 37)) := (Below.refl _ _).alloc (Nat.le_refl _) _
  have hk1 : Blk (w.alloc (.cells X 37)) w.heap.size 37 x.cells := by
    have := heap_alloc_new w (.cells X 37)
    rw [hX] at this ⊢
    exact this
  have hS : (w.alloc (.cells X 37)).heap.size = w.heap.size + 1 := by simp
  have HB := hid hb1
  have HK := hid hk1
  have HS := hid hS
  have HM := hid hM
  have HMb := hid (show MkBox (w.alloc (.cells X 37)) g p ov from Blk.keep hM.box hb1)
  have HHe := hid (Here_any g p ov _ HMb.out)
  have HX := hid (hx.keep hb1)
  have HXw := hid (show x.cells.length = 265 from hx.len)
  have hn : p.S.n = p.ss.length := owns_n hM.own.row
  have HN := hid hn
  have hl : ((p.S.n : Int) == 65536) = false := by simp; omega
  have c8 : (w.alloc (.cells X 37)).cell? ⟨w.heap.size, 8, none⟩ = some (.slice x.W.A x.W.n x.W.c) := by
    rw [Blk.at hk1 8]
    unfold ST.cells
    rw [List.getElem?_append_left (by show 8 < 9; decide)]
    rfl
  have hff := Blk.free hk1
  have HCw := hid (cloneW_any P x.W (flatW x.ws) _ HX.out.wr (by rw [HX.out.wn, flatW_len]) (by rw [HX.out.wn]; omega) (flatW_ones _))
  unfold SV.val at HCw
  have hsz : X.size = 265 := by rw [hX]; simpa using hx.len
  have hpl : p.ss.length ≤ 1048576 := by omega
  unfold ST.val
  rw [← hX]
  have HXx := hid hX
  clear hRR hM hx hb1 hk1 hS hX
  go_enter Tryd.func12, Tryd.ntmps12
  go_upto_region 2 with (go_at_call 11; (with_reducible refine HHe.out.mono ?_); rintro e w4 ⟨rfl, rfl⟩)
  generalize w.alloc (.cells X 37) = w1 at *
  go_upto_region 6 with (go_at_call 27; (with_reducible refine HCw.out.mono ?_); rintro e w2 ⟨⟨A4, n4, c4⟩, rfl, hn4, hb2, ho2⟩; unfold SV.val; have e8 := (World.cell?_of_block (w := w1) (w' := w2) (a := ⟨w.heap.size, 8, none⟩) (hb2.block w.heap.size (by rw [HS.out]; omega))).trans c8; have ff2 := froz_keep hb2 (show w.heap.size < w1.heap.size by rw [HS.out]; omega) hff)
  have hn4 : n4 = x.W.n := hn4
  subst hn4
  obtain ⟨x0, x1, x2, x3, x4⟩ := HMb.out.five
  have HF8 := hid (Blk.put (Blk.keep HK.out hb2) 8 (.slice A4 x.W.n c4))
  have hmv : (x.moved ⟨A4, x.W.n, c4⟩).cells = x.cells.set 8 (.slice A4 x.W.n c4) := moved_cells x ⟨A4, x.W.n, c4⟩
  rw [← hmv] at HF8
  have HBs := hid HX.out.bl
  have HWn := hid HX.out.wn
  have hl265 : (x.moved ⟨A4, x.W.n, c4⟩).cells.length = 265 := st_len HBs.out
  obtain ⟨Y, hY⟩ : ∃ Y, Y = (x.moved ⟨A4, x.W.n, c4⟩).cells.toArray := ⟨_, rfl⟩
  have hbw : ∀ b, b < w.heap.size → w2.heap[b]? = w.heap[b]? := fun b hb => (hb2.block b (by rw [HS.out]; omega)).trans (HB.out.block b hb)
  have HBw := hid hbw
  have hs2 : w.heap.size + 1 ≤ w2.heap.size := by have := hb2.size; rw [HS.out] at this; exact this
  have HB2 := hid hb2
  have hgl := Blk.lt HM.out.box
  have HOw := hid (show w2.ownsRow (w.heap.size + 1) 46 2 (.slice A4 x.W.n c4) x.ws.length (flatW x.ws) from by rw [← HS.out, ← HWn.out]; exact ho2)
  have hrow : (w2.setCell ⟨w.heap.size, 8, none⟩ (.slice A4 x.W.n c4)).ownsRow 0 37 265 (.slice p.S.A p.S.n p.S.c) p.S.n (flatS p.ss) := by
    have h1 : w.ownsRow 0 37 265 p.S.val p.S.n (flatS p.ss) := by rw [HN.out]; exact HM.out.own.row
    exact owns_mono h1 (fun b hh => (Below.heap_setCell w2 _ _ b (by have := (owns_block h1 b hh).2; show b ≠ w.heap.size; omega)).trans (hbw b (owns_block h1 b hh).2))
  have hcB : (w2.setCell ⟨w.heap.size, 8, none⟩ (.slice A4 x.W.n c4)).cell? ⟨g, 0, none⟩ = some (.slice p.S.A p.S.n p.S.c) := by
    have hb3 : Blk (w2.setCell ⟨w.heap.size, 8, none⟩ (.slice A4 x.W.n c4)) g 32 _ := Blk.other (Blk.keep HMb.out hb2) (by show g ≠ w.heap.size; omega) _
    exact Blk.at hb3 0
  have hcS : (w2.setCell ⟨w.heap.size, 8, none⟩ (.slice A4 x.W.n c4)).heap.size = w2.heap.size := by simp [World.setCell]
  refine add_reg (pb := g) (pn := w.heap.size) (n := p.S.n) (cc := p.S.c) (A := p.S.A) (X := Y) (base := 0) (xs := flatS p.ss)
    (R8 := fun v' wx => wx.ownsRow 0 37 265 v' (p.S.n + 1) (flatS p.ss ++ Y.toList) ∧ ((w2.setCell ⟨w.heap.size, 8, none⟩ (.slice A4 x.W.n c4)).drew.alloc (.cells Y 37)).grownBy wx p.S.val.ownBlock ∧ (v'.ownBlock = p.S.val.ownBlock ∨ v'.ownBlock = some (w2.heap.size + 1)))
    (R12 := fun w' => ∃ s' S', MkOk w' (fun b => O b ∨ w.heap.size ≤ b ∧ b < w'.heap.size) g ⟨p.ss ++ [x.moved s'], S', p.sl, p.su, p.au⟩ ov ∧ Chg w w' O)
    rfl rfl (by simp) (by rw [hY]; simpa using hl265) (by rw [hY]; exact st_ones _) (by rw [hY]; exact HF8.out) hcB (by omega) hrow (Nat.zero_le _) (by omega) ?_ ?_ ?_
  · intro v' w' h1 h2 h3
    refine ⟨h1, h2, ?_⟩
    rw [hcS] at h3
    exact h3
  · rintro v wx ⟨h1, h2, h3⟩
    obtain ⟨A', c', rfl⟩ := owns_shape h1
    have hbx : MkBox wx g p ov := by
      have hb3 : MkBox (w2.setCell ⟨w.heap.size, 8, none⟩ (.slice A4 x.W.n c4)) g p ov := Blk.other (Blk.keep HMb.out hb2) (by show g ≠ w.heap.size; omega) _
      have hb4 : MkBox ((w2.setCell ⟨w.heap.size, 8, none⟩ (.slice A4 x.W.n c4)).drew.alloc (.cells Y 37)) g p ov := Blk.alloc (Blk.drew hb3) _
      exact Blk.grown hb4 h2 (fun e => HM.out.box.not_row HM.out.own.row (by decide) e.symm)
    refine ⟨⟨A', c', rfl⟩, ⟨_, Blk.at hbx 0⟩, Blk.free hbx 0, ⟨A4, x.W.n, c4⟩, ⟨A', p.S.n + 1, c'⟩, ?_⟩
    rw [hY] at h1 h2
    have hN := HN.out
    have h := add_done (w := w) (w2 := w2) (wx := wx) (O := O) (g := g) (p := p) (ov := ov) (x := x) (s' := ⟨A4, x.W.n, c4⟩) (A' := A') (c' := c') HM.out HBw.out hs2 (HB2.out.os.trans HB.out.os) (HB2.out.tape.trans HB.out.tape) (HB2.out.output.trans HB.out.output) HOw.out HBs.out (by rw [← hN]; simpa using h1) h2 (by rw [← hN]; exact h3)
    rw [← hN] at h
    exact h
  · rintro f w' ⟨s', S', h1, h2⟩
    have H12 := hid (And.intro h1 h2)
    clear h1 h2 HF8 HK HB HMb HX HM HHe HCw HBw HB2 HOw hrow hcB c8 hff e8 ff2 ho2 x0 x1 x2 x3 x4 hb2 hmv hl265 hY hbw hs2 hgl hcS
    simp only [addUs, List.foldl, List.setIfInBounds_toArray, List.set_cons_zero, List.set_cons_succ]
    go_wp2_with fail
    show RR (.returned (.int .i64 (p.ss.length : Int))) w'
    rw [HRR.out]
    exact ⟨rfl, s', S', H12.out.1, H12.out.2⟩
end Go.Proofs.YtpbkdokhlimpfaaDoor
