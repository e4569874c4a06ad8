/- code: the Maker's small calls. -/
import Derived.Test.YtpbkdokhlimpfaaDoorCdO
namespace Go.Proofs.YtpbkdokhlimpfaaDoor
set_option linter.unusedSimpArgs false
set_option linter.unusedVariables false
open Go.RowKit

def MkBox (w : World) (g : Nat) (p : PT) (ov : Bool) : Prop := Blk w g 32 [.slice p.S.A p.S.n p.S.c, .int .i64 p.sl, .int .i64 p.su, .int .i64 p.au, .bool ov]
/-- A maker, whose blocks are among O. -/
structure MkOk (w : World) (O : Nat → Prop) (g : Nat) (p : PT) (ov : Bool) : Prop where
  box : MkBox w g p ov
  og : O g
  own : POwn w 0 p
  os : ∀ b, p.S.val.ownBlock = some b → O b
  ow : ∀ x ∈ p.ss, ∀ b, x.W.val.ownBlock = some b → O b
theorem MkOk.chg {w w' : World} {O S : Nat → Prop} {g : Nat} {p : PT} {ov : Bool} (h : MkOk w O g p ov) (hc : Chg w w' S) (hd : ∀ b, O b → ¬ S b) : MkOk w' O g p ov :=
  ⟨Blk.chg h.box hc (hd g h.og), h.og, ⟨owns_mono h.own.row (fun b hb => hc.block b (owns_block h.own.row b hb).2 (hd b (h.os b hb))), fun x hx => ⟨owns_mono (h.own.ways x hx).1 (fun b hb => hc.block b (owns_block (h.own.ways x hx).1 b hb).2 (hd b (h.ow x hx b hb))), (h.own.ways x hx).2⟩, h.own.ne⟩, h.os, h.ow⟩
theorem MkOk.wide {w : World} {O O' : Nat → Prop} {g : Nat} {p : PT} {ov : Bool} (h : MkOk w O g p ov) (hO : ∀ b, O b → O' b) : MkOk w O' g p ov :=
  ⟨h.box, hO g h.og, h.own, fun b hb => hO b (h.os b hb), fun x hx b hb => hO b (h.ow x hx b hb)⟩
theorem MkBox.five {w : World} {g : Nat} {p : PT} {ov : Bool} (h : MkBox w g p ov) : w.cell? ⟨g, 0, none⟩ = some (.slice p.S.A p.S.n p.S.c) ∧ w.cell? ⟨g, 1, none⟩ = some (.int .i64 p.sl) ∧ w.cell? ⟨g, 2, none⟩ = some (.int .i64 p.su) ∧ w.cell? ⟨g, 3, none⟩ = some (.int .i64 p.au) ∧ w.cell? ⟨g, 4, none⟩ = some (.bool ov) :=
  ⟨Blk.at h 0, Blk.at h 1, Blk.at h 2, Blk.at h 3, Blk.at h 4⟩
/-- A row's block isn't the maker's. -/
theorem MkBox.not_row {w : World} {g : Nat} {p : PT} {ov : Bool} (h : MkBox w g p ov) {base : Nat} {e : TypeId} {size : Nat} {v : Value} {n : Nat} {xs : List Value} (hv : w.ownsRow base e size v n xs) (he : e ≠ 32) : v.ownBlock ≠ some g := own_neN hv h he
theorem POwn.put {w : World} {base : Nat} {p : PT} (h : POwn w base p) {g : Nat} {t : TypeId} {cs : List Value} (hg : Blk w g t cs) (h1 : 37 ≠ t) (h2 : 46 ≠ t) (i : Nat) (u : Value) : POwn (w.setCell ⟨g, i, none⟩ u) base p :=
  ⟨owns_mono h.row (fun b hb => Below.heap_setCell _ _ _ _ (fun e => by simp only at e; subst e; exact own_neN h.row hg h1 hb)), fun x hx => ⟨owns_mono (h.ways x hx).1 (fun b hb => Below.heap_setCell _ _ _ _ (fun e => by simp only at e; subst e; exact own_neN (h.ways x hx).1 hg h2 hb)), (h.ways x hx).2⟩, h.ne⟩
set_option maxRecDepth 100000 in
set_option maxHeartbeats 1000000 in
theorem Here_any (g : Nat) (p : PT) (ov : Bool) (w : World) (hB : MkBox w g p ov) : Calls Tryd.prog 11 #[.pointer (some ⟨g, 0, none⟩)] w fun e w' => e = .returned (.int .i64 p.S.n) ∧ w' = w := by
  obtain ⟨x0, x1, x2, x3, x4⟩ := hB.five
  clear hB
  obtain ⟨ss, ⟨A, n, c⟩, sl, su, au⟩ := p
  simp only at *
  go_enter Tryd.func11, Tryd.ntmps11
  go_wp2_with fail
  go_ret
  exact ⟨rfl, rfl⟩
set_option maxRecDepth 100000 in
set_option maxHeartbeats 1000000 in
theorem Slot_any (O : Nat → Prop) (g : Nat) (p : PT) (ov : Bool) (w : World) (hM : MkOk w O g p ov) (h0 : 0 ≤ p.sl) (h1 : p.sl ≤ 1000000) : Calls Tryd.prog 13 #[.pointer (some ⟨g, 0, none⟩)] w fun e w' => e = .returned (.int .i64 p.sl) ∧ MkOk w' O g ⟨p.ss, p.S, p.sl + 1, p.su, p.au⟩ ov ∧ Chg w w' (· = g) ∧ w'.heap.size = w.heap.size := by
  have hk : ∀ u, Blk (w.setCell ⟨g, 1, none⟩ u) g 32 ([.slice p.S.A p.S.n p.S.c, .int .i64 p.sl, .int .i64 p.su, .int .i64 p.au, .bool ov].set 1 u) := fun u => Blk.put hM.box 1 u
  have HW := hid (show MkOk (w.setCell ⟨g, 1, none⟩ (.int .i64 (p.sl + 1))) O g ⟨p.ss, p.S, p.sl + 1, p.su, p.au⟩ ov from
    ⟨hk _, hM.og, (show POwn _ 0 ⟨p.ss, p.S, p.sl + 1, p.su, p.au⟩ from by
      have := hM.own.put hM.box (by decide) (by decide) 1 (.int .i64 (p.sl + 1))
      exact ⟨this.row, this.ways, this.ne⟩), hM.os, hM.ow⟩)
  have HC := hid (show Chg w (w.setCell ⟨g, 1, none⟩ (.int .i64 (p.sl + 1))) (· = g) from (Chg.refl w (fun x => x = g)).set g 1 rfl _)
  have HS := hid (show (w.setCell ⟨g, 1, none⟩ (.int .i64 (p.sl + 1))).heap.size = w.heap.size by simp [World.setCell])
  have HK := hid (hk (.int .i64 (p.sl + 1)))
  have hff := Blk.free hM.box
  obtain ⟨x0, x1, x2, x3, x4⟩ := hM.box.five
  clear hM hk
  obtain ⟨ss, ⟨A, n, c⟩, sl, su, au⟩ := p
  simp only at *
  have hwr : wrap64 (sl + 1) = sl + 1 := by unfold wrap64; omega
  have hwr2 : wrap64 (sl + 1 - 1) = sl := by unfold wrap64; omega
  go_enter Tryd.func13, Tryd.ntmps13
  go_upto_region 2 with (fail)
  try rw [hwr]
  have y1 := Blk.at HK.out 1
  simp only [List.set_cons_zero, List.set_cons_succ, List.getElem?_cons_zero, List.getElem?_cons_succ] at y1
  generalize w.setCell ⟨g, 1, none⟩ (.int .i64 (sl + 1)) = w1 at *
  go_wp2_with fail
  go_ret
  refine ⟨?_, HW.out, HC.out, HS.out⟩
  first | rfl | (rw [hwr2])
set_option maxRecDepth 100000 in
set_option maxHeartbeats 1000000 in
theorem Sum_any (O : Nat → Prop) (g : Nat) (p : PT) (ov : Bool) (w : World) (hM : MkOk w O g p ov) (h0 : 0 ≤ p.su) (h1 : p.su ≤ 1000000) : Calls Tryd.prog 14 #[.pointer (some ⟨g, 0, none⟩)] w fun e w' => e = .returned (.int .i64 p.su) ∧ MkOk w' O g ⟨p.ss, p.S, p.sl, p.su + 1, p.au⟩ ov ∧ Chg w w' (· = g) ∧ w'.heap.size = w.heap.size := by
  have hk : ∀ u, Blk (w.setCell ⟨g, 2, none⟩ u) g 32 ([.slice p.S.A p.S.n p.S.c, .int .i64 p.sl, .int .i64 p.su, .int .i64 p.au, .bool ov].set 2 u) := fun u => Blk.put hM.box 2 u
  have HW := hid (show MkOk (w.setCell ⟨g, 2, none⟩ (.int .i64 (p.su + 1))) O g ⟨p.ss, p.S, p.sl, p.su + 1, p.au⟩ ov from
    ⟨hk _, hM.og, (show POwn _ 0 ⟨p.ss, p.S, p.sl, p.su + 1, p.au⟩ from by
      have := hM.own.put hM.box (by decide) (by decide) 2 (.int .i64 (p.su + 1))
      exact ⟨this.row, this.ways, this.ne⟩), hM.os, hM.ow⟩)
  have HC := hid (show Chg w (w.setCell ⟨g, 2, none⟩ (.int .i64 (p.su + 1))) (· = g) from (Chg.refl w (fun x => x = g)).set g 2 rfl _)
  have HS := hid (show (w.setCell ⟨g, 2, none⟩ (.int .i64 (p.su + 1))).heap.size = w.heap.size by simp [World.setCell])
  have HK := hid (hk (.int .i64 (p.su + 1)))
  have hff := Blk.free hM.box
  obtain ⟨x0, x1, x2, x3, x4⟩ := hM.box.five
  clear hM hk
  obtain ⟨ss, ⟨A, n, c⟩, sl, su, au⟩ := p
  simp only at *
  have hwr : wrap64 (su + 1) = su + 1 := by unfold wrap64; omega
  have hwr2 : wrap64 (su + 1 - 1) = su := by unfold wrap64; omega
  go_enter Tryd.func14, Tryd.ntmps14
  go_upto_region 2 with (fail)
  try rw [hwr]
  have y2 := Blk.at HK.out 2
  simp only [List.set_cons_zero, List.set_cons_succ, List.getElem?_cons_zero, List.getElem?_cons_succ] at y2
  generalize w.setCell ⟨g, 2, none⟩ (.int .i64 (su + 1)) = w1 at *
  go_wp2_with fail
  go_ret
  refine ⟨?_, HW.out, HC.out, HS.out⟩
  first | rfl | (rw [hwr2])
set_option maxRecDepth 100000 in
set_option maxHeartbeats 1000000 in
theorem Auto_any (O : Nat → Prop) (g : Nat) (p : PT) (ov : Bool) (w : World) (hM : MkOk w O g p ov) (h0 : 0 ≤ p.au) (h1 : p.au ≤ 1000000) : Calls Tryd.prog 15 #[.pointer (some ⟨g, 0, none⟩)] w fun e w' => e = .returned (.int .i64 p.au) ∧ MkOk w' O g ⟨p.ss, p.S, p.sl, p.su, p.au + 1⟩ ov ∧ Chg w w' (· = g) ∧ w'.heap.size = w.heap.size := by
  have hk : ∀ u, Blk (w.setCell ⟨g, 3, none⟩ u) g 32 ([.slice p.S.A p.S.n p.S.c, .int .i64 p.sl, .int .i64 p.su, .int .i64 p.au, .bool ov].set 3 u) := fun u => Blk.put hM.box 3 u
  have HW := hid (show MkOk (w.setCell ⟨g, 3, none⟩ (.int .i64 (p.au + 1))) O g ⟨p.ss, p.S, p.sl, p.su, p.au + 1⟩ ov from
    ⟨hk _, hM.og, (show POwn _ 0 ⟨p.ss, p.S, p.sl, p.su, p.au + 1⟩ from by
      have := hM.own.put hM.box (by decide) (by decide) 3 (.int .i64 (p.au + 1))
      exact ⟨this.row, this.ways, this.ne⟩), hM.os, hM.ow⟩)
  have HC := hid (show Chg w (w.setCell ⟨g, 3, none⟩ (.int .i64 (p.au + 1))) (· = g) from (Chg.refl w (fun x => x = g)).set g 3 rfl _)
  have HS := hid (show (w.setCell ⟨g, 3, none⟩ (.int .i64 (p.au + 1))).heap.size = w.heap.size by simp [World.setCell])
  have HK := hid (hk (.int .i64 (p.au + 1)))
  have hff := Blk.free hM.box
  obtain ⟨x0, x1, x2, x3, x4⟩ := hM.box.five
  clear hM hk
  obtain ⟨ss, ⟨A, n, c⟩, sl, su, au⟩ := p
  simp only at *
  have hwr : wrap64 (au + 1) = au + 1 := by unfold wrap64; omega
  have hwr2 : wrap64 (au + 1 - 1) = au := by unfold wrap64; omega
  go_enter Tryd.func15, Tryd.ntmps15
  go_upto_region 2 with (fail)
  try rw [hwr]
  have y3 := Blk.at HK.out 3
  simp only [List.set_cons_zero, List.set_cons_succ, List.getElem?_cons_zero, List.getElem?_cons_succ] at y3
  generalize w.setCell ⟨g, 3, none⟩ (.int .i64 (au + 1)) = w1 at *
  go_wp2_with fail
  go_ret
  refine ⟨?_, HW.out, HC.out, HS.out⟩
  first | rfl | (rw [hwr2])
end Go.Proofs.YtpbkdokhlimpfaaDoor
