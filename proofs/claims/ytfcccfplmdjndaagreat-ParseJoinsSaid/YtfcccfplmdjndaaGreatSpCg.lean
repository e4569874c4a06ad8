/- spec: two statements of pair's same, in open order. -/
import Derived.Test.YtfcccfplmdjndaaGreatSpCe
import Derived.Test.YtfcccfplmdjndaaGreatSpXb
import Derived.Test.YtfcccfplmdjndaaGreatSpHa
namespace Go.Proofs.YtfcccfplmdjndaaGreat
set_option linter.unusedSimpArgs false
set_option linter.unusedVariables false
open Go.RowKit

structure TwoN (W1 : World) (cs ds : List Value) (la lb lc ld : Bool) (p q : Value) (w : World) : Prop where
 bel : Below W1.heap.size W1 w
 a : la = true → ∃ g, p = .pointer (some ⟨g, 0, none⟩) ∧ W1.heap.size ≤ g ∧ Blk w g 54 (if lc = true then cs else nvZ.cells)
 b : lb = true → ∃ g, q = .pointer (some ⟨g, 0, none⟩) ∧ W1.heap.size ≤ g ∧ Blk w g 54 (if ld = true then ds else nvZ.cells)
 ne : la = true → lb = true → p ≠ q
 ca : lc = true → la = true
 db : ld = true → lb = true
theorem TwoN.swap {W1 : World} {cs ds : List Value} {la lb lc ld : Bool} {p q : Value} {w : World} (h : TwoN W1 cs ds la lb lc ld p q w) : TwoN W1 ds cs lb la ld lc q p w :=
 ⟨h.bel, h.b, h.a, fun h1 h2 e => h.ne h2 h1 e.symm, h.db, h.ca⟩
theorem TwoN.alloc {W1 : World} {cs ds : List Value} {lb lc ld : Bool} {p q : Value} {w : World} (h : TwoN W1 cs ds false lb lc ld p q w) : TwoN W1 cs ds true lb lc ld (.pointer (some ⟨w.heap.size, 0, none⟩)) q (w.alloc (.cells nvZ.cells.toArray 54)) := by
 have hlc : lc = false := by cases lc with | false => rfl | true => exact absurd (h.ca rfl) (by decide)
 subst hlc
 have hb := (Below.refl w.heap.size w).alloc (Nat.le_refl _) (.cells nvZ.cells.toArray 54)
 refine ⟨h.bel.alloc h.bel.size _, fun _ => ⟨_, rfl, h.bel.size, heap_alloc_new w _⟩, fun hl => ?_, fun _ hl => ?_, fun _ => rfl, h.db⟩
 ·obtain ⟨g, e, hg, hk⟩ := h.b hl
  exact ⟨g, e, hg, hk.keep hb⟩
 ·obtain ⟨g, e, hg, hk⟩ := h.b hl
  rw [e]
  intro e2
  have := hk.lt
  simp only [Value.pointer.injEq, Option.some.injEq, Addr.mk.injEq] at e2
  omega
theorem TwoN.store {W1 : World} {cs ds : List Value} {lb ld : Bool} {q : Value} {w : World} {g : Nat} (h : TwoN W1 cs ds true lb false ld (.pointer (some ⟨g, 0, none⟩)) q w) : TwoN W1 cs ds true lb true ld (.pointer (some ⟨g, 0, none⟩)) q (w.setRow g cs.toArray) := by
 obtain ⟨g1, e1, hg1, hk1⟩ := h.a rfl
 simp only [Value.pointer.injEq, Option.some.injEq, Addr.mk.injEq, and_true] at e1
 subst e1
 refine ⟨below_row h.bel hg1 _, fun _ => ⟨_, rfl, hg1, setRow_heap _ _ _ _ _ (0, 0) hk1⟩, fun hl => ?_, fun _ hl => h.ne rfl hl, fun _ => rfl, h.db⟩
 obtain ⟨g2, e2, hg2, hk2⟩ := h.b hl
 refine ⟨g2, e2, hg2, (setRow_other w g g2 _ ?_).trans hk2⟩
 rintro rfl
 exact h.ne rfl hl e2.symm
theorem wp_allocN {o : Oper} {a : Act} {w : World} {K : Act → World → Prop} {Q : Exit → Act → World → Prop} (ho : o.op = .alloc 54) (h : K (a.put o.dst (.pointer (some ⟨w.heap.size, 0, none⟩))) (w.alloc (.cells nvZ.cells.toArray 54))) : o.wp Tryz.prog a w K Q := by
 unfold Oper.wp
 have e : (execOp a.eval o).run Tryz.prog w = .ok (.value (.pointer (some ⟨w.heap.size, 0, none⟩))) (w.alloc (.cells nvZ.cells.toArray 54)) := by
  unfold execOp
  simp only [ho]
  kernel_rfl
 rw [e]
 exact h
theorem wp_indexNo {o : Oper} {a : Act} {w : World} {K : Act → World → Prop} {Q : Exit → Act → World → Prop} (x y : Operand) (ho : o.op = .indexAddr 29 x y) (gn og n c j : Nat) (hx : a.eval x = .slice (some ⟨gn, og, none⟩) n c) (hy : a.eval y = .int .i64 (j : Int)) (hj : j < n) (h : K (a.put o.dst (.pointer (some ⟨gn, og + j * 18, none⟩))) w) : o.wp Tryz.prog a w K Q := by
 unfold Oper.wp
 have hj' : (j : Int) < (n : Int) := by omega
 have e : (execOp a.eval o).run Tryz.prog w = .ok (.value (.pointer (some ⟨gn, og + j * 18, none⟩))) w := by
  unfold execOp
  simp only [ho, hx, hy]
  go_simp
 rw [e]
 exact h
theorem field_0P (g : Nat) (w : World) : (Instr.fieldAt 77 (.pointer (some ⟨g, 0, none⟩)) 0).run Tryz.prog w = .ok (.pointer (some ⟨g, 0, none⟩)) w := by kernel_rfl
theorem field_1P (g : Nat) (w : World) : (Instr.fieldAt 77 (.pointer (some ⟨g, 0, none⟩)) 1).run Tryz.prog w = .ok (.pointer (some ⟨g, 2, none⟩)) w := by kernel_rfl
theorem field_2S (g : Nat) (w : World) : (Instr.fieldAt 32 (.pointer (some ⟨g, 2, none⟩)) 0).run Tryz.prog w = .ok (.pointer (some ⟨g, 2, none⟩)) w := by kernel_rfl
def sm4Ops : Array Oper := #[{ dst := some 40, op := Op.move (Operand.tmp 0), type := 113, pos := "spec.go:134", after := #[], guard := none }, { dst := some 41, op := Op.nilCheck (Operand.tmp 40), type := 0, pos := "spec.go:134", after := #[{ on := 0, ground := Ground.data }], guard := none }, { dst := some 42, op := Op.fieldAddr 77 (Operand.tmp 41) 0, type := 0, pos := "spec.go:134", after := #[{ on := 1, ground := Ground.data }], guard := none }, { dst := some 43, op := Op.fieldAddr 32 (Operand.tmp 42) 0, type := 0, pos := "spec.go:134", after := #[{ on := 2, ground := Ground.data }], guard := none }, { dst := some 44, op := Op.load 29 (Operand.tmp 43), type := 29, pos := "spec.go:134", after := #[{ on := 3, ground := Ground.data }], guard := none }, { dst := some 45, op := Op.move (Operand.tmp 1), type := 3, pos := "spec.go:134", after := #[], guard := none }, { dst := some 46, op := Op.indexAddr 29 (Operand.tmp 44) (Operand.tmp 45), type := 0, pos := "spec.go:134", after := #[{ on := 4, ground := Ground.data }, { on := 5, ground := Ground.data }], guard := none }, { dst := some 47, op := Op.load 54 (Operand.tmp 46), type := 54, pos := "spec.go:134", after := #[{ on := 6, ground := Ground.data }], guard := none }, { dst := some 48, op := Op.move (Operand.tmp 0), type := 113, pos := "spec.go:134", after := #[{ on := 18, ground := Ground.gcOnly Departure.lateStores }], guard := none }, { dst := some 49, op := Op.nilCheck (Operand.tmp 48), type := 0, pos := "spec.go:134", after := #[{ on := 8, ground := Ground.data }, { on := 18, ground := Ground.gcOnly Departure.lateStores }], guard := none }, { dst := some 50, op := Op.fieldAddr 77 (Operand.tmp 49) 1, type := 0, pos := "spec.go:134", after := #[{ on := 9, ground := Ground.data }, { on := 18, ground := Ground.gcOnly Departure.lateStores }], guard := none }, { dst := some 51, op := Op.fieldAddr 32 (Operand.tmp 50) 0, type := 0, pos := "spec.go:134", after := #[{ on := 10, ground := Ground.data }, { on := 18, ground := Ground.gcOnly Departure.lateStores }], guard := none }, { dst := some 52, op := Op.load 29 (Operand.tmp 51), type := 29, pos := "spec.go:134", after := #[{ on := 11, ground := Ground.data }, { on := 18, ground := Ground.gcOnly Departure.lateStores }], guard := none }, { dst := some 53, op := Op.move (Operand.tmp 2), type := 3, pos := "spec.go:134", after := #[{ on := 18, ground := Ground.gcOnly Departure.lateStores }], guard := none }, { dst := some 54, op := Op.indexAddr 29 (Operand.tmp 52) (Operand.tmp 53), type := 0, pos := "spec.go:134", after := #[{ on := 12, ground := Ground.data }, { on := 13, ground := Ground.data }, { on := 18, ground := Ground.gcOnly Departure.lateStores }], guard := none }, { dst := some 55, op := Op.load 54 (Operand.tmp 54), type := 54, pos := "spec.go:134", after := #[{ on := 14, ground := Ground.data }, { on := 18, ground := Ground.gcOnly Departure.lateStores }], guard := none }, { dst := some 7, op := Op.alloc 54, type := 0, pos := "spec.go:134", after := #[], guard := none }, { dst := some 8, op := Op.alloc 54, type := 0, pos := "spec.go:134", after := #[], guard := none }, { dst := none, op := Op.store 54 (Operand.tmp 7) (Operand.tmp 47), type := 0, pos := "spec.go:134", after := #[{ on := 16, ground := Ground.data }, { on := 7, ground := Ground.data }, { on := 0, ground := Ground.phase }, { on := 1, ground := Ground.phase }, { on := 2, ground := Ground.phase }, { on := 3, ground := Ground.phase }, { on := 4, ground := Ground.phase }, { on := 5, ground := Ground.phase }, { on := 6, ground := Ground.phase }, { on := 7, ground := Ground.phase }, { on := 8, ground := Ground.textOnly Departure.lateStores }, { on := 9, ground := Ground.textOnly Departure.lateStores }, { on := 10, ground := Ground.textOnly Departure.lateStores }, { on := 11, ground := Ground.textOnly Departure.lateStores }, { on := 12, ground := Ground.textOnly Departure.lateStores }, { on := 13, ground := Ground.textOnly Departure.lateStores }, { on := 14, ground := Ground.textOnly Departure.lateStores }, { on := 15, ground := Ground.textOnly Departure.lateStores }, { on := 16, ground := Ground.phase }, { on := 17, ground := Ground.phase }], guard := none }, { dst := none, op := Op.store 54 (Operand.tmp 8) (Operand.tmp 55), type := 0, pos := "spec.go:134", after := #[{ on := 17, ground := Ground.data }, { on := 15, ground := Ground.data }, { on := 18, ground := Ground.chain }, { on := 0, ground := Ground.phase }, { on := 1, ground := Ground.phase }, { on := 2, ground := Ground.phase }, { on := 3, ground := Ground.phase }, { on := 4, ground := Ground.phase }, { on := 5, ground := Ground.phase }, { on := 6, ground := Ground.phase }, { on := 7, ground := Ground.phase }, { on := 8, ground := Ground.phase }, { on := 9, ground := Ground.phase }, { on := 10, ground := Ground.phase }, { on := 11, ground := Ground.phase }, { on := 12, ground := Ground.phase }, { on := 13, ground := Ground.phase }, { on := 14, ground := Ground.phase }, { on := 15, ground := Ground.phase }, { on := 16, ground := Ground.phase }, { on := 17, ground := Ground.phase }, { on := 18, ground := Ground.phase }], guard := none }]
def sm4Dep : Nat → List Nat := fun i => match i with | 1 => [0] | 2 => [1] | 3 => [2] | 4 => [3] | 6 => [4, 5] | 7 => [6] | 9 => [8] | 10 => [9] | 11 => [10] | 12 => [11] | 14 => [12, 13] | 15 => [14] | 18 => [16, 7] | 19 => [17, 15, 18] | _ => []
structure sm4C (gp : Nat) (bA : Nat) (oA : Nat) (cA : Nat) (bB : Nat) (oB : Nat) (cB : Nat) (n : Nat) (x : Nat) (cs : List Value) (ds : List Value) (W1 : World) (L : Nat → Bool) (f : Nat → Value) (w : World) : Prop where
 v0 : L 0 = true → f 40 = .pointer (some ⟨gp, 0, none⟩)
 v1 : L 1 = true → f 41 = .pointer (some ⟨gp, 0, none⟩)
 v2 : L 2 = true → f 42 = .pointer (some ⟨gp, 0, none⟩)
 v3 : L 3 = true → f 43 = .pointer (some ⟨gp, 0, none⟩)
 v4 : L 4 = true → f 44 = .slice (some ⟨bA, oA, none⟩) n cA
 v5 : L 5 = true → f 45 = .int .i64 (x : Int)
 v6 : L 6 = true → f 46 = .pointer (some ⟨bA, oA + x * 18, none⟩)
 v7 : L 7 = true → f 47 = .agg cs.toArray
 v8 : L 8 = true → f 48 = .pointer (some ⟨gp, 0, none⟩)
 v9 : L 9 = true → f 49 = .pointer (some ⟨gp, 0, none⟩)
 v10 : L 10 = true → f 50 = .pointer (some ⟨gp, 2, none⟩)
 v11 : L 11 = true → f 51 = .pointer (some ⟨gp, 2, none⟩)
 v12 : L 12 = true → f 52 = .slice (some ⟨bB, oB, none⟩) n cB
 v13 : L 13 = true → f 53 = .int .i64 (x : Int)
 v14 : L 14 = true → f 54 = .pointer (some ⟨bB, oB + x * 18, none⟩)
 v15 : L 15 = true → f 55 = .agg ds.toArray
 tw : TwoN W1 cs ds (L 16) (L 17) (L 18) (L 19) (f 7) (f 8) w
theorem sm4_0 {gp : Nat} {bA : Nat} {oA : Nat} {cA : Nat} {bB : Nat} {oB : Nat} {cB : Nat} {n : Nat} {x : Nat} {cs : List Value} {ds : List Value} {W1 : World} {L : Nat → Bool} {f : Nat → Value} {w : World} (h : sm4C gp bA oA cA bB oB cB n x cs ds W1 L f w) : sm4C gp bA oA cA bB oB cB n x cs ds W1 (fun k => if k = 0 then true else L k) (fun t => if (some 40 : Option Nat) = some t then (.pointer (some ⟨gp, 0, none⟩)) else f t) w where
 v0 := fun _ => by simp
 v1 := by simpa using h.v1
 v2 := by simpa using h.v2
 v3 := by simpa using h.v3
 v4 := by simpa using h.v4
 v5 := by simpa using h.v5
 v6 := by simpa using h.v6
 v7 := by simpa using h.v7
 v8 := by simpa using h.v8
 v9 := by simpa using h.v9
 v10 := by simpa using h.v10
 v11 := by simpa using h.v11
 v12 := by simpa using h.v12
 v13 := by simpa using h.v13
 v14 := by simpa using h.v14
 v15 := by simpa using h.v15
 tw := by simpa using h.tw
theorem sm4_1 {gp : Nat} {bA : Nat} {oA : Nat} {cA : Nat} {bB : Nat} {oB : Nat} {cB : Nat} {n : Nat} {x : Nat} {cs : List Value} {ds : List Value} {W1 : World} {L : Nat → Bool} {f : Nat → Value} {w : World} (h : sm4C gp bA oA cA bB oB cB n x cs ds W1 L f w) : sm4C gp bA oA cA bB oB cB n x cs ds W1 (fun k => if k = 1 then true else L k) (fun t => if (some 41 : Option Nat) = some t then (.pointer (some ⟨gp, 0, none⟩)) else f t) w where
 v0 := by simpa using h.v0
 v1 := fun _ => by simp
 v2 := by simpa using h.v2
 v3 := by simpa using h.v3
 v4 := by simpa using h.v4
 v5 := by simpa using h.v5
 v6 := by simpa using h.v6
 v7 := by simpa using h.v7
 v8 := by simpa using h.v8
 v9 := by simpa using h.v9
 v10 := by simpa using h.v10
 v11 := by simpa using h.v11
 v12 := by simpa using h.v12
 v13 := by simpa using h.v13
 v14 := by simpa using h.v14
 v15 := by simpa using h.v15
 tw := by simpa using h.tw
theorem sm4_2 {gp : Nat} {bA : Nat} {oA : Nat} {cA : Nat} {bB : Nat} {oB : Nat} {cB : Nat} {n : Nat} {x : Nat} {cs : List Value} {ds : List Value} {W1 : World} {L : Nat → Bool} {f : Nat → Value} {w : World} (h : sm4C gp bA oA cA bB oB cB n x cs ds W1 L f w) : sm4C gp bA oA cA bB oB cB n x cs ds W1 (fun k => if k = 2 then true else L k) (fun t => if (some 42 : Option Nat) = some t then (.pointer (some ⟨gp, 0, none⟩)) else f t) w where
 v0 := by simpa using h.v0
 v1 := by simpa using h.v1
 v2 := fun _ => by simp
 v3 := by simpa using h.v3
 v4 := by simpa using h.v4
 v5 := by simpa using h.v5
 v6 := by simpa using h.v6
 v7 := by simpa using h.v7
 v8 := by simpa using h.v8
 v9 := by simpa using h.v9
 v10 := by simpa using h.v10
 v11 := by simpa using h.v11
 v12 := by simpa using h.v12
 v13 := by simpa using h.v13
 v14 := by simpa using h.v14
 v15 := by simpa using h.v15
 tw := by simpa using h.tw
theorem sm4_3 {gp : Nat} {bA : Nat} {oA : Nat} {cA : Nat} {bB : Nat} {oB : Nat} {cB : Nat} {n : Nat} {x : Nat} {cs : List Value} {ds : List Value} {W1 : World} {L : Nat → Bool} {f : Nat → Value} {w : World} (h : sm4C gp bA oA cA bB oB cB n x cs ds W1 L f w) : sm4C gp bA oA cA bB oB cB n x cs ds W1 (fun k => if k = 3 then true else L k) (fun t => if (some 43 : Option Nat) = some t then (.pointer (some ⟨gp, 0, none⟩)) else f t) w where
 v0 := by simpa using h.v0
 v1 := by simpa using h.v1
 v2 := by simpa using h.v2
 v3 := fun _ => by simp
 v4 := by simpa using h.v4
 v5 := by simpa using h.v5
 v6 := by simpa using h.v6
 v7 := by simpa using h.v7
 v8 := by simpa using h.v8
 v9 := by simpa using h.v9
 v10 := by simpa using h.v10
 v11 := by simpa using h.v11
 v12 := by simpa using h.v12
 v13 := by simpa using h.v13
 v14 := by simpa using h.v14
 v15 := by simpa using h.v15
 tw := by simpa using h.tw
theorem sm4_4 {gp : Nat} {bA : Nat} {oA : Nat} {cA : Nat} {bB : Nat} {oB : Nat} {cB : Nat} {n : Nat} {x : Nat} {cs : List Value} {ds : List Value} {W1 : World} {L : Nat → Bool} {f : Nat → Value} {w : World} (h : sm4C gp bA oA cA bB oB cB n x cs ds W1 L f w) : sm4C gp bA oA cA bB oB cB n x cs ds W1 (fun k => if k = 4 then true else L k) (fun t => if (some 44 : Option Nat) = some t then (.slice (some ⟨bA, oA, none⟩) n cA) else f t) w where
 v0 := by simpa using h.v0
 v1 := by simpa using h.v1
 v2 := by simpa using h.v2
 v3 := by simpa using h.v3
 v4 := fun _ => by simp
 v5 := by simpa using h.v5
 v6 := by simpa using h.v6
 v7 := by simpa using h.v7
 v8 := by simpa using h.v8
 v9 := by simpa using h.v9
 v10 := by simpa using h.v10
 v11 := by simpa using h.v11
 v12 := by simpa using h.v12
 v13 := by simpa using h.v13
 v14 := by simpa using h.v14
 v15 := by simpa using h.v15
 tw := by simpa using h.tw
theorem sm4_5 {gp : Nat} {bA : Nat} {oA : Nat} {cA : Nat} {bB : Nat} {oB : Nat} {cB : Nat} {n : Nat} {x : Nat} {cs : List Value} {ds : List Value} {W1 : World} {L : Nat → Bool} {f : Nat → Value} {w : World} (h : sm4C gp bA oA cA bB oB cB n x cs ds W1 L f w) : sm4C gp bA oA cA bB oB cB n x cs ds W1 (fun k => if k = 5 then true else L k) (fun t => if (some 45 : Option Nat) = some t then (.int .i64 (x : Int)) else f t) w where
 v0 := by simpa using h.v0
 v1 := by simpa using h.v1
 v2 := by simpa using h.v2
 v3 := by simpa using h.v3
 v4 := by simpa using h.v4
 v5 := fun _ => by simp
 v6 := by simpa using h.v6
 v7 := by simpa using h.v7
 v8 := by simpa using h.v8
 v9 := by simpa using h.v9
 v10 := by simpa using h.v10
 v11 := by simpa using h.v11
 v12 := by simpa using h.v12
 v13 := by simpa using h.v13
 v14 := by simpa using h.v14
 v15 := by simpa using h.v15
 tw := by simpa using h.tw
theorem sm4_6 {gp : Nat} {bA : Nat} {oA : Nat} {cA : Nat} {bB : Nat} {oB : Nat} {cB : Nat} {n : Nat} {x : Nat} {cs : List Value} {ds : List Value} {W1 : World} {L : Nat → Bool} {f : Nat → Value} {w : World} (h : sm4C gp bA oA cA bB oB cB n x cs ds W1 L f w) : sm4C gp bA oA cA bB oB cB n x cs ds W1 (fun k => if k = 6 then true else L k) (fun t => if (some 46 : Option Nat) = some t then (.pointer (some ⟨bA, oA + x * 18, none⟩)) else f t) w where
 v0 := by simpa using h.v0
 v1 := by simpa using h.v1
 v2 := by simpa using h.v2
 v3 := by simpa using h.v3
 v4 := by simpa using h.v4
 v5 := by simpa using h.v5
 v6 := fun _ => by simp
 v7 := by simpa using h.v7
 v8 := by simpa using h.v8
 v9 := by simpa using h.v9
 v10 := by simpa using h.v10
 v11 := by simpa using h.v11
 v12 := by simpa using h.v12
 v13 := by simpa using h.v13
 v14 := by simpa using h.v14
 v15 := by simpa using h.v15
 tw := by simpa using h.tw
theorem sm4_7 {gp : Nat} {bA : Nat} {oA : Nat} {cA : Nat} {bB : Nat} {oB : Nat} {cB : Nat} {n : Nat} {x : Nat} {cs : List Value} {ds : List Value} {W1 : World} {L : Nat → Bool} {f : Nat → Value} {w : World} (h : sm4C gp bA oA cA bB oB cB n x cs ds W1 L f w) : sm4C gp bA oA cA bB oB cB n x cs ds W1 (fun k => if k = 7 then true else L k) (fun t => if (some 47 : Option Nat) = some t then (.agg cs.toArray) else f t) w where
 v0 := by simpa using h.v0
 v1 := by simpa using h.v1
 v2 := by simpa using h.v2
 v3 := by simpa using h.v3
 v4 := by simpa using h.v4
 v5 := by simpa using h.v5
 v6 := by simpa using h.v6
 v7 := fun _ => by simp
 v8 := by simpa using h.v8
 v9 := by simpa using h.v9
 v10 := by simpa using h.v10
 v11 := by simpa using h.v11
 v12 := by simpa using h.v12
 v13 := by simpa using h.v13
 v14 := by simpa using h.v14
 v15 := by simpa using h.v15
 tw := by simpa using h.tw
theorem sm4_8 {gp : Nat} {bA : Nat} {oA : Nat} {cA : Nat} {bB : Nat} {oB : Nat} {cB : Nat} {n : Nat} {x : Nat} {cs : List Value} {ds : List Value} {W1 : World} {L : Nat → Bool} {f : Nat → Value} {w : World} (h : sm4C gp bA oA cA bB oB cB n x cs ds W1 L f w) : sm4C gp bA oA cA bB oB cB n x cs ds W1 (fun k => if k = 8 then true else L k) (fun t => if (some 48 : Option Nat) = some t then (.pointer (some ⟨gp, 0, none⟩)) else f t) w where
 v0 := by simpa using h.v0
 v1 := by simpa using h.v1
 v2 := by simpa using h.v2
 v3 := by simpa using h.v3
 v4 := by simpa using h.v4
 v5 := by simpa using h.v5
 v6 := by simpa using h.v6
 v7 := by simpa using h.v7
 v8 := fun _ => by simp
 v9 := by simpa using h.v9
 v10 := by simpa using h.v10
 v11 := by simpa using h.v11
 v12 := by simpa using h.v12
 v13 := by simpa using h.v13
 v14 := by simpa using h.v14
 v15 := by simpa using h.v15
 tw := by simpa using h.tw
theorem sm4_9 {gp : Nat} {bA : Nat} {oA : Nat} {cA : Nat} {bB : Nat} {oB : Nat} {cB : Nat} {n : Nat} {x : Nat} {cs : List Value} {ds : List Value} {W1 : World} {L : Nat → Bool} {f : Nat → Value} {w : World} (h : sm4C gp bA oA cA bB oB cB n x cs ds W1 L f w) : sm4C gp bA oA cA bB oB cB n x cs ds W1 (fun k => if k = 9 then true else L k) (fun t => if (some 49 : Option Nat) = some t then (.pointer (some ⟨gp, 0, none⟩)) else f t) w where
 v0 := by simpa using h.v0
 v1 := by simpa using h.v1
 v2 := by simpa using h.v2
 v3 := by simpa using h.v3
 v4 := by simpa using h.v4
 v5 := by simpa using h.v5
 v6 := by simpa using h.v6
 v7 := by simpa using h.v7
 v8 := by simpa using h.v8
 v9 := fun _ => by simp
 v10 := by simpa using h.v10
 v11 := by simpa using h.v11
 v12 := by simpa using h.v12
 v13 := by simpa using h.v13
 v14 := by simpa using h.v14
 v15 := by simpa using h.v15
 tw := by simpa using h.tw
theorem sm4_10 {gp : Nat} {bA : Nat} {oA : Nat} {cA : Nat} {bB : Nat} {oB : Nat} {cB : Nat} {n : Nat} {x : Nat} {cs : List Value} {ds : List Value} {W1 : World} {L : Nat → Bool} {f : Nat → Value} {w : World} (h : sm4C gp bA oA cA bB oB cB n x cs ds W1 L f w) : sm4C gp bA oA cA bB oB cB n x cs ds W1 (fun k => if k = 10 then true else L k) (fun t => if (some 50 : Option Nat) = some t then (.pointer (some ⟨gp, 2, none⟩)) else f t) w where
 v0 := by simpa using h.v0
 v1 := by simpa using h.v1
 v2 := by simpa using h.v2
 v3 := by simpa using h.v3
 v4 := by simpa using h.v4
 v5 := by simpa using h.v5
 v6 := by simpa using h.v6
 v7 := by simpa using h.v7
 v8 := by simpa using h.v8
 v9 := by simpa using h.v9
 v10 := fun _ => by simp
 v11 := by simpa using h.v11
 v12 := by simpa using h.v12
 v13 := by simpa using h.v13
 v14 := by simpa using h.v14
 v15 := by simpa using h.v15
 tw := by simpa using h.tw
theorem sm4_11 {gp : Nat} {bA : Nat} {oA : Nat} {cA : Nat} {bB : Nat} {oB : Nat} {cB : Nat} {n : Nat} {x : Nat} {cs : List Value} {ds : List Value} {W1 : World} {L : Nat → Bool} {f : Nat → Value} {w : World} (h : sm4C gp bA oA cA bB oB cB n x cs ds W1 L f w) : sm4C gp bA oA cA bB oB cB n x cs ds W1 (fun k => if k = 11 then true else L k) (fun t => if (some 51 : Option Nat) = some t then (.pointer (some ⟨gp, 2, none⟩)) else f t) w where
 v0 := by simpa using h.v0
 v1 := by simpa using h.v1
 v2 := by simpa using h.v2
 v3 := by simpa using h.v3
 v4 := by simpa using h.v4
 v5 := by simpa using h.v5
 v6 := by simpa using h.v6
 v7 := by simpa using h.v7
 v8 := by simpa using h.v8
 v9 := by simpa using h.v9
 v10 := by simpa using h.v10
 v11 := fun _ => by simp
 v12 := by simpa using h.v12
 v13 := by simpa using h.v13
 v14 := by simpa using h.v14
 v15 := by simpa using h.v15
 tw := by simpa using h.tw
theorem sm4_12 {gp : Nat} {bA : Nat} {oA : Nat} {cA : Nat} {bB : Nat} {oB : Nat} {cB : Nat} {n : Nat} {x : Nat} {cs : List Value} {ds : List Value} {W1 : World} {L : Nat → Bool} {f : Nat → Value} {w : World} (h : sm4C gp bA oA cA bB oB cB n x cs ds W1 L f w) : sm4C gp bA oA cA bB oB cB n x cs ds W1 (fun k => if k = 12 then true else L k) (fun t => if (some 52 : Option Nat) = some t then (.slice (some ⟨bB, oB, none⟩) n cB) else f t) w where
 v0 := by simpa using h.v0
 v1 := by simpa using h.v1
 v2 := by simpa using h.v2
 v3 := by simpa using h.v3
 v4 := by simpa using h.v4
 v5 := by simpa using h.v5
 v6 := by simpa using h.v6
 v7 := by simpa using h.v7
 v8 := by simpa using h.v8
 v9 := by simpa using h.v9
 v10 := by simpa using h.v10
 v11 := by simpa using h.v11
 v12 := fun _ => by simp
 v13 := by simpa using h.v13
 v14 := by simpa using h.v14
 v15 := by simpa using h.v15
 tw := by simpa using h.tw
theorem sm4_13 {gp : Nat} {bA : Nat} {oA : Nat} {cA : Nat} {bB : Nat} {oB : Nat} {cB : Nat} {n : Nat} {x : Nat} {cs : List Value} {ds : List Value} {W1 : World} {L : Nat → Bool} {f : Nat → Value} {w : World} (h : sm4C gp bA oA cA bB oB cB n x cs ds W1 L f w) : sm4C gp bA oA cA bB oB cB n x cs ds W1 (fun k => if k = 13 then true else L k) (fun t => if (some 53 : Option Nat) = some t then (.int .i64 (x : Int)) else f t) w where
 v0 := by simpa using h.v0
 v1 := by simpa using h.v1
 v2 := by simpa using h.v2
 v3 := by simpa using h.v3
 v4 := by simpa using h.v4
 v5 := by simpa using h.v5
 v6 := by simpa using h.v6
 v7 := by simpa using h.v7
 v8 := by simpa using h.v8
 v9 := by simpa using h.v9
 v10 := by simpa using h.v10
 v11 := by simpa using h.v11
 v12 := by simpa using h.v12
 v13 := fun _ => by simp
 v14 := by simpa using h.v14
 v15 := by simpa using h.v15
 tw := by simpa using h.tw
theorem sm4_14 {gp : Nat} {bA : Nat} {oA : Nat} {cA : Nat} {bB : Nat} {oB : Nat} {cB : Nat} {n : Nat} {x : Nat} {cs : List Value} {ds : List Value} {W1 : World} {L : Nat → Bool} {f : Nat → Value} {w : World} (h : sm4C gp bA oA cA bB oB cB n x cs ds W1 L f w) : sm4C gp bA oA cA bB oB cB n x cs ds W1 (fun k => if k = 14 then true else L k) (fun t => if (some 54 : Option Nat) = some t then (.pointer (some ⟨bB, oB + x * 18, none⟩)) else f t) w where
 v0 := by simpa using h.v0
 v1 := by simpa using h.v1
 v2 := by simpa using h.v2
 v3 := by simpa using h.v3
 v4 := by simpa using h.v4
 v5 := by simpa using h.v5
 v6 := by simpa using h.v6
 v7 := by simpa using h.v7
 v8 := by simpa using h.v8
 v9 := by simpa using h.v9
 v10 := by simpa using h.v10
 v11 := by simpa using h.v11
 v12 := by simpa using h.v12
 v13 := by simpa using h.v13
 v14 := fun _ => by simp
 v15 := by simpa using h.v15
 tw := by simpa using h.tw
theorem sm4_15 {gp : Nat} {bA : Nat} {oA : Nat} {cA : Nat} {bB : Nat} {oB : Nat} {cB : Nat} {n : Nat} {x : Nat} {cs : List Value} {ds : List Value} {W1 : World} {L : Nat → Bool} {f : Nat → Value} {w : World} (h : sm4C gp bA oA cA bB oB cB n x cs ds W1 L f w) : sm4C gp bA oA cA bB oB cB n x cs ds W1 (fun k => if k = 15 then true else L k) (fun t => if (some 55 : Option Nat) = some t then (.agg ds.toArray) else f t) w where
 v0 := by simpa using h.v0
 v1 := by simpa using h.v1
 v2 := by simpa using h.v2
 v3 := by simpa using h.v3
 v4 := by simpa using h.v4
 v5 := by simpa using h.v5
 v6 := by simpa using h.v6
 v7 := by simpa using h.v7
 v8 := by simpa using h.v8
 v9 := by simpa using h.v9
 v10 := by simpa using h.v10
 v11 := by simpa using h.v11
 v12 := by simpa using h.v12
 v13 := by simpa using h.v13
 v14 := by simpa using h.v14
 v15 := fun _ => by simp
 tw := by simpa using h.tw
theorem sm4_16 {gp : Nat} {bA : Nat} {oA : Nat} {cA : Nat} {bB : Nat} {oB : Nat} {cB : Nat} {n : Nat} {x : Nat} {cs : List Value} {ds : List Value} {W1 : World} {L : Nat → Bool} {f : Nat → Value} {w : World} (h : sm4C gp bA oA cA bB oB cB n x cs ds W1 L f w) (hl : L 16 = false) : sm4C gp bA oA cA bB oB cB n x cs ds W1 (fun k => if k = 16 then true else L k) (fun t => if (some 7 : Option Nat) = some t then .pointer (some ⟨w.heap.size, 0, none⟩) else f t) (w.alloc (.cells nvZ.cells.toArray 54)) where
 v0 := by simpa using h.v0
 v1 := by simpa using h.v1
 v2 := by simpa using h.v2
 v3 := by simpa using h.v3
 v4 := by simpa using h.v4
 v5 := by simpa using h.v5
 v6 := by simpa using h.v6
 v7 := by simpa using h.v7
 v8 := by simpa using h.v8
 v9 := by simpa using h.v9
 v10 := by simpa using h.v10
 v11 := by simpa using h.v11
 v12 := by simpa using h.v12
 v13 := by simpa using h.v13
 v14 := by simpa using h.v14
 v15 := by simpa using h.v15
 tw := by
  have ht := h.tw
  rw [hl] at ht
  simpa using ht.alloc
theorem sm4_17 {gp : Nat} {bA : Nat} {oA : Nat} {cA : Nat} {bB : Nat} {oB : Nat} {cB : Nat} {n : Nat} {x : Nat} {cs : List Value} {ds : List Value} {W1 : World} {L : Nat → Bool} {f : Nat → Value} {w : World} (h : sm4C gp bA oA cA bB oB cB n x cs ds W1 L f w) (hl : L 17 = false) : sm4C gp bA oA cA bB oB cB n x cs ds W1 (fun k => if k = 17 then true else L k) (fun t => if (some 8 : Option Nat) = some t then .pointer (some ⟨w.heap.size, 0, none⟩) else f t) (w.alloc (.cells nvZ.cells.toArray 54)) where
 v0 := by simpa using h.v0
 v1 := by simpa using h.v1
 v2 := by simpa using h.v2
 v3 := by simpa using h.v3
 v4 := by simpa using h.v4
 v5 := by simpa using h.v5
 v6 := by simpa using h.v6
 v7 := by simpa using h.v7
 v8 := by simpa using h.v8
 v9 := by simpa using h.v9
 v10 := by simpa using h.v10
 v11 := by simpa using h.v11
 v12 := by simpa using h.v12
 v13 := by simpa using h.v13
 v14 := by simpa using h.v14
 v15 := by simpa using h.v15
 tw := by
  have ht := h.tw
  rw [hl] at ht
  simpa using ht.swap.alloc.swap
theorem sm4_18 {gp : Nat} {bA : Nat} {oA : Nat} {cA : Nat} {bB : Nat} {oB : Nat} {cB : Nat} {n : Nat} {x : Nat} {cs : List Value} {ds : List Value} {W1 : World} {L : Nat → Bool} {f : Nat → Value} {w : World} {g : Nat} (h : sm4C gp bA oA cA bB oB cB n x cs ds W1 L f w) (hl : L 18 = false) (hl2 : L 16 = true) (hf : f 7 = .pointer (some ⟨g, 0, none⟩)) : sm4C gp bA oA cA bB oB cB n x cs ds W1 (fun k => if k = 18 then true else L k) (fun t => if (none : Option Nat) = some t then undef else f t) (w.setRow g cs.toArray) where
 v0 := by simpa using h.v0
 v1 := by simpa using h.v1
 v2 := by simpa using h.v2
 v3 := by simpa using h.v3
 v4 := by simpa using h.v4
 v5 := by simpa using h.v5
 v6 := by simpa using h.v6
 v7 := by simpa using h.v7
 v8 := by simpa using h.v8
 v9 := by simpa using h.v9
 v10 := by simpa using h.v10
 v11 := by simpa using h.v11
 v12 := by simpa using h.v12
 v13 := by simpa using h.v13
 v14 := by simpa using h.v14
 v15 := by simpa using h.v15
 tw := by
  have ht := h.tw
  rw [hl, hl2, hf] at ht
  simpa [hl2, hf] using ht.store
theorem sm4_19 {gp : Nat} {bA : Nat} {oA : Nat} {cA : Nat} {bB : Nat} {oB : Nat} {cB : Nat} {n : Nat} {x : Nat} {cs : List Value} {ds : List Value} {W1 : World} {L : Nat → Bool} {f : Nat → Value} {w : World} {g : Nat} (h : sm4C gp bA oA cA bB oB cB n x cs ds W1 L f w) (hl : L 19 = false) (hl2 : L 17 = true) (hf : f 8 = .pointer (some ⟨g, 0, none⟩)) : sm4C gp bA oA cA bB oB cB n x cs ds W1 (fun k => if k = 19 then true else L k) (fun t => if (none : Option Nat) = some t then undef else f t) (w.setRow g ds.toArray) where
 v0 := by simpa using h.v0
 v1 := by simpa using h.v1
 v2 := by simpa using h.v2
 v3 := by simpa using h.v3
 v4 := by simpa using h.v4
 v5 := by simpa using h.v5
 v6 := by simpa using h.v6
 v7 := by simpa using h.v7
 v8 := by simpa using h.v8
 v9 := by simpa using h.v9
 v10 := by simpa using h.v10
 v11 := by simpa using h.v11
 v12 := by simpa using h.v12
 v13 := by simpa using h.v13
 v14 := by simpa using h.v14
 v15 := by simpa using h.v15
 tw := by
  have ht := h.tw
  rw [hl, hl2, hf] at ht
  simpa [hl2, hf] using ht.swap.store.swap
def sm4Us (f : Nat → Value) : List (Nat × Value) := [(40, f 40), (41, f 41), (42, f 42), (43, f 43), (44, f 44), (45, f 45), (46, f 46), (47, f 47), (48, f 48), (49, f 49), (50, f 50), (51, f 51), (52, f 52), (53, f 53), (54, f 54), (55, f 55), (7, f 7), (8, f 8)]
set_option maxRecDepth 10000 in
set_option maxHeartbeats 2000000 in
theorem sm4_reg {gp bA oA cA bB oB cB n x : Nat} {cs ds : List Value} {W : World} {A0 : Act} {Q : Exit → Act → World → Prop} {id : Nat} (a0 : Act.at A0 0 = .pointer (some ⟨gp, 0, none⟩)) (a1 : Act.at A0 1 = .int .i64 (x : Int)) (a2 : Act.at A0 2 = .int .i64 (x : Int)) (hsz : 56 ≤ A0.tmps.size) (hx : x < n) (hgp : gp < W.heap.size) (hbA : bA < W.heap.size) (hbB : bB < W.heap.size)
  (hA : W.cell? ⟨gp, 0, none⟩ = some (.slice (some ⟨bA, oA, none⟩) n cA)) (hB : W.cell? ⟨gp, 2, none⟩ = some (.slice (some ⟨bB, oB, none⟩) n cB)) (rA : W.rangeAt bA (oA + x * 18) cs) (rB : W.rangeAt bB (oB + x * 18) ds)
  (hscs : (Tryz.prog.info? 54).map (·.size) = some cs.length) (hsds : (Tryz.prog.info? 54).map (·.size) = some ds.length) (hlcs : cs.length = 18) (hlds : ds.length = 18) (hocs : cs.toArray.all (·.oneCell') = true) (hods : ds.toArray.all (·.oneCell') = true)
  (hk : ∀ (f : Nat → Value) w' g7 g8, f 7 = .pointer (some ⟨g7, 0, none⟩) → f 8 = .pointer (some ⟨g8, 0, none⟩) → Below W.heap.size W w' → W.heap.size ≤ g7 → W.heap.size ≤ g8 → Blk w' g7 54 cs → Blk w' g8 54 ds → Q .normal ⟨(sm4Us f).foldl (fun A p => A.setIfInBounds p.1 p.2) A0.tmps, A0.defers⟩ w') :
  (Code.region id sm4Ops true).wp Tryz.prog Q A0 W := by
 refine wp_region_fun (by kernel_rfl) (fun L f w => sm4C gp bA oA cA bB oB cB n x cs ds W.drew L f w) [40, 41, 42, 43, 44, 45, 46, 47, 48, 49, 50, 51, 52, 53, 54, 55, 7, 8] (wf_ops2 (by kernel_rfl)) (fun i o ho u hu => ?_) ?_ ?_ ?_
 ·have := ops_dst [40, 41, 42, 43, 44, 45, 46, 47, 48, 49, 50, 51, 52, 53, 54, 55, 7, 8] 56 (by kernel_rfl) i o ho u hu
  exact ⟨this.1, Nat.lt_of_lt_of_le this.2 hsz⟩
 ·have hs : sm4Ops.size = 20 := rfl
  rw [hs]
  constructor <;> first | exact (fun _ => rfl) | (intro h; simp at h) | exact ⟨Below.refl _ _, (fun h => by simp at h), (fun h => by simp at h), (fun h => by simp at h), (fun h => by simp at h), (fun h => by simp at h)⟩
 ·rintro L i o ho hLi haf b w hf hc K hK
  have hdep := ops_deps sm4Dep (by kernel_rfl) ho haf
  clear haf
  have hs : sm4Ops.size = 20 := rfl
  have hlt : i < 20 := hs ▸ (Array.getElem?_eq_some_iff.1 ho).1
  have hcases : i = 0 ∨ i = 1 ∨ i = 2 ∨ i = 3 ∨ i = 4 ∨ i = 5 ∨ i = 6 ∨ i = 7 ∨ i = 8 ∨ i = 9 ∨ i = 10 ∨ i = 11 ∨ i = 12 ∨ i = 13 ∨ i = 14 ∨ i = 15 ∨ i = 16 ∨ i = 17 ∨ i = 18 ∨ i = 19 := by omega
  rcases hcases with rfl | rfl | rfl | rfl | rfl | rfl | rfl | rfl | rfl | rfl | rfl | rfl | rfl | rfl | rfl | rfl | rfl | rfl | rfl | rfl
  ·obtain ⟨h1, h2⟩ := op_at2 ho (show (sm4Ops[0]?).map (fun o => (o.dst, o.op)) = some ((some 40), (.move (.tmp 0))) by kernel_rfl)
   rw [h1] at hK
   refine wp_moveG _ h2 _ ((hf 0 (by decide)).trans a0) ?_
   rw [h1]
   exact hK _ _ (sm4_0 hc)
  ·obtain ⟨h1, h2⟩ := op_at2 ho (show (sm4Ops[1]?).map (fun o => (o.dst, o.op)) = some ((some 41), (.nilCheck (.tmp 40))) by kernel_rfl)
   rw [h1] at hK
   have l0 : L 0 = true := hdep 0 (by simp [sm4Dep])
   refine wp_nilG _ h2 _ (hc.v0 l0) ?_
   rw [h1]
   exact hK _ _ (sm4_1 hc)
  ·obtain ⟨h1, h2⟩ := op_at2 ho (show (sm4Ops[2]?).map (fun o => (o.dst, o.op)) = some ((some 42), (.fieldAddr 77 (.tmp 41) 0)) by kernel_rfl)
   rw [h1] at hK
   have l1 : L 1 = true := hdep 1 (by simp [sm4Dep])
   refine wp_fieldG _ _ _ h2 _ _ (hc.v1 l1) (field_0P gp w) ?_
   rw [h1]
   exact hK _ _ (sm4_2 hc)
  ·obtain ⟨h1, h2⟩ := op_at2 ho (show (sm4Ops[3]?).map (fun o => (o.dst, o.op)) = some ((some 43), (.fieldAddr 32 (.tmp 42) 0)) by kernel_rfl)
   rw [h1] at hK
   have l2 : L 2 = true := hdep 2 (by simp [sm4Dep])
   refine wp_fieldG _ _ _ h2 _ _ (hc.v2 l2) (field_0S gp w) ?_
   rw [h1]
   exact hK _ _ (sm4_3 hc)
  ·obtain ⟨h1, h2⟩ := op_at2 ho (show (sm4Ops[4]?).map (fun o => (o.dst, o.op)) = some ((some 44), (.load 29 (.tmp 43))) by kernel_rfl)
   rw [h1] at hK
   have l3 : L 3 = true := hdep 3 (by simp [sm4Dep])
   refine wp_loadG _ _ h2 _ _ (hc.v3 l3) (load_slN ((World.cell?_of_block (w := W) (hc.tw.bel.block gp hgp)).trans hA)) ?_
   rw [h1]
   exact hK _ _ (sm4_4 hc)
  ·obtain ⟨h1, h2⟩ := op_at2 ho (show (sm4Ops[5]?).map (fun o => (o.dst, o.op)) = some ((some 45), (.move (.tmp 1))) by kernel_rfl)
   rw [h1] at hK
   refine wp_moveG _ h2 _ ((hf 1 (by decide)).trans a1) ?_
   rw [h1]
   exact hK _ _ (sm4_5 hc)
  ·obtain ⟨h1, h2⟩ := op_at2 ho (show (sm4Ops[6]?).map (fun o => (o.dst, o.op)) = some ((some 46), (.indexAddr 29 (.tmp 44) (.tmp 45))) by kernel_rfl)
   rw [h1] at hK
   have l4 : L 4 = true := hdep 4 (by simp [sm4Dep])
   have l5 : L 5 = true := hdep 5 (by simp [sm4Dep])
   refine wp_indexNo _ _ h2 bA oA n _ x (hc.v4 l4) (hc.v5 l5) hx ?_
   rw [h1]
   exact hK _ _ (sm4_6 hc)
  ·obtain ⟨h1, h2⟩ := op_at2 ho (show (sm4Ops[7]?).map (fun o => (o.dst, o.op)) = some ((some 47), (.load 54 (.tmp 46))) by kernel_rfl)
   rw [h1] at hK
   have l6 : L 6 = true := hdep 6 (by simp [sm4Dep])
   refine wp_load_mid 54 _ h2 bA (oA + x * 18) (hc.v6 l6) cs _ (range_keep rA (hc.tw.bel.block bA hbA)) Tryz.underlying54 rfl hscs ?_
   rw [h1]
   exact hK _ _ (sm4_7 hc)
  ·obtain ⟨h1, h2⟩ := op_at2 ho (show (sm4Ops[8]?).map (fun o => (o.dst, o.op)) = some ((some 48), (.move (.tmp 0))) by kernel_rfl)
   rw [h1] at hK
   refine wp_moveG _ h2 _ ((hf 0 (by decide)).trans a0) ?_
   rw [h1]
   exact hK _ _ (sm4_8 hc)
  ·obtain ⟨h1, h2⟩ := op_at2 ho (show (sm4Ops[9]?).map (fun o => (o.dst, o.op)) = some ((some 49), (.nilCheck (.tmp 48))) by kernel_rfl)
   rw [h1] at hK
   have l8 : L 8 = true := hdep 8 (by simp [sm4Dep])
   refine wp_nilG _ h2 _ (hc.v8 l8) ?_
   rw [h1]
   exact hK _ _ (sm4_9 hc)
  ·obtain ⟨h1, h2⟩ := op_at2 ho (show (sm4Ops[10]?).map (fun o => (o.dst, o.op)) = some ((some 50), (.fieldAddr 77 (.tmp 49) 1)) by kernel_rfl)
   rw [h1] at hK
   have l9 : L 9 = true := hdep 9 (by simp [sm4Dep])
   refine wp_fieldG _ _ _ h2 _ _ (hc.v9 l9) (field_1P gp w) ?_
   rw [h1]
   exact hK _ _ (sm4_10 hc)
  ·obtain ⟨h1, h2⟩ := op_at2 ho (show (sm4Ops[11]?).map (fun o => (o.dst, o.op)) = some ((some 51), (.fieldAddr 32 (.tmp 50) 0)) by kernel_rfl)
   rw [h1] at hK
   have l10 : L 10 = true := hdep 10 (by simp [sm4Dep])
   refine wp_fieldG _ _ _ h2 _ _ (hc.v10 l10) (field_2S gp w) ?_
   rw [h1]
   exact hK _ _ (sm4_11 hc)
  ·obtain ⟨h1, h2⟩ := op_at2 ho (show (sm4Ops[12]?).map (fun o => (o.dst, o.op)) = some ((some 52), (.load 29 (.tmp 51))) by kernel_rfl)
   rw [h1] at hK
   have l11 : L 11 = true := hdep 11 (by simp [sm4Dep])
   refine wp_loadG _ _ h2 _ _ (hc.v11 l11) (load_slN ((World.cell?_of_block (w := W) (hc.tw.bel.block gp hgp)).trans hB)) ?_
   rw [h1]
   exact hK _ _ (sm4_12 hc)
  ·obtain ⟨h1, h2⟩ := op_at2 ho (show (sm4Ops[13]?).map (fun o => (o.dst, o.op)) = some ((some 53), (.move (.tmp 2))) by kernel_rfl)
   rw [h1] at hK
   refine wp_moveG _ h2 _ ((hf 2 (by decide)).trans a2) ?_
   rw [h1]
   exact hK _ _ (sm4_13 hc)
  ·obtain ⟨h1, h2⟩ := op_at2 ho (show (sm4Ops[14]?).map (fun o => (o.dst, o.op)) = some ((some 54), (.indexAddr 29 (.tmp 52) (.tmp 53))) by kernel_rfl)
   rw [h1] at hK
   have l12 : L 12 = true := hdep 12 (by simp [sm4Dep])
   have l13 : L 13 = true := hdep 13 (by simp [sm4Dep])
   refine wp_indexNo _ _ h2 bB oB n _ x (hc.v12 l12) (hc.v13 l13) hx ?_
   rw [h1]
   exact hK _ _ (sm4_14 hc)
  ·obtain ⟨h1, h2⟩ := op_at2 ho (show (sm4Ops[15]?).map (fun o => (o.dst, o.op)) = some ((some 55), (.load 54 (.tmp 54))) by kernel_rfl)
   rw [h1] at hK
   have l14 : L 14 = true := hdep 14 (by simp [sm4Dep])
   refine wp_load_mid 54 _ h2 bB (oB + x * 18) (hc.v14 l14) ds _ (range_keep rB (hc.tw.bel.block bB hbB)) Tryz.underlying54 rfl hsds ?_
   rw [h1]
   exact hK _ _ (sm4_15 hc)
  ·obtain ⟨h1, h2⟩ := op_at2 ho (show (sm4Ops[16]?).map (fun o => (o.dst, o.op)) = some ((some 7), (.alloc 54)) by kernel_rfl)
   rw [h1] at hK
   refine wp_allocN h2 ?_
   rw [h1]
   exact hK _ _ (sm4_16 hc hLi)
  ·obtain ⟨h1, h2⟩ := op_at2 ho (show (sm4Ops[17]?).map (fun o => (o.dst, o.op)) = some ((some 8), (.alloc 54)) by kernel_rfl)
   rw [h1] at hK
   refine wp_allocN h2 ?_
   rw [h1]
   exact hK _ _ (sm4_17 hc hLi)
  ·obtain ⟨h1, h2⟩ := op_at2 ho (show (sm4Ops[18]?).map (fun o => (o.dst, o.op)) = some (none, (.store 54 (.tmp 7) (.tmp 47))) by kernel_rfl)
   rw [h1] at hK
   have l16 : L 16 = true := hdep 16 (by simp [sm4Dep])
   have l7 : L 7 = true := hdep 7 (by simp [sm4Dep])
   obtain ⟨g, e1, hg, hk1⟩ := hc.tw.a l16
   rw [hLi, if_neg (by decide)] at hk1
   refine wp_store_row 54 _ _ h2 g cs.toArray e1 (hc.v7 l7) 54 nvZ.cells.toArray hk1 (by simpa using hscs) (by rw [List.size_toArray, List.size_toArray, hlcs]; rfl) hocs ?_
   rw [h1]
   exact hK _ _ (sm4_18 hc hLi l16 e1)
  ·obtain ⟨h1, h2⟩ := op_at2 ho (show (sm4Ops[19]?).map (fun o => (o.dst, o.op)) = some (none, (.store 54 (.tmp 8) (.tmp 55))) by kernel_rfl)
   rw [h1] at hK
   have l17 : L 17 = true := hdep 17 (by simp [sm4Dep])
   have l15 : L 15 = true := hdep 15 (by simp [sm4Dep])
   have l18 : L 18 = true := hdep 18 (by simp [sm4Dep])
   obtain ⟨g, e1, hg, hk1⟩ := hc.tw.b l17
   rw [hLi, if_neg (by decide)] at hk1
   refine wp_store_row 54 _ _ h2 g ds.toArray e1 (hc.v15 l15) 54 nvZ.cells.toArray hk1 (by simpa using hsds) (by rw [List.size_toArray, List.size_toArray, hlds]; rfl) hods ?_
   rw [h1]
   exact hK _ _ (sm4_19 hc hLi l17 e1)
 ·rintro L b w hL hd hs hf hc
  have hsz2 : sm4Ops.size = 20 := rfl
  rw [hsz2] at hL
  have e := act_eq (a := A0) (b := b) (sm4Us (Act.at b)) hd hs hf (by
   intro p hp
   simp only [sm4Us, List.mem_cons, List.not_mem_nil, or_false] at hp
   rcases hp with rfl | rfl | rfl | rfl | rfl | rfl | rfl | rfl | rfl | rfl | rfl | rfl | rfl | rfl | rfl | rfl | rfl | rfl <;> rfl) (by rw [show (sm4Us (Act.at b)).map (·.1) = [40, 41, 42, 43, 44, 45, 46, 47, 48, 49, 50, 51, 52, 53, 54, 55, 7, 8] from rfl]; decide)
  rw [e]
  obtain ⟨g7, e7, h7, k7⟩ := hc.tw.a (hL 16 (by omega))
  obtain ⟨g8, e8, h8, k8⟩ := hc.tw.b (hL 17 (by omega))
  rw [if_pos (hL 18 (by omega))] at k7
  rw [if_pos (hL 19 (by omega))] at k8
  have hb := hc.tw.bel
  exact hk (Act.at b) w g7 g8 e7 e8 ⟨hb.os, hb.tape, hb.output, hb.size, hb.block⟩ h7 h8 k7 k8
end Go.Proofs.YtfcccfplmdjndaaGreat

/- spec: pair's same's last statement, in open order. -/
namespace Go.Proofs.YtfcccfplmdjndaaGreat
set_option linter.unusedSimpArgs false
set_option linter.unusedVariables false
open Go.RowKit

def sm5Ops : Array Oper := #[{ dst := some 56, op := Op.load 54 (Operand.tmp 7), type := 54, pos := "spec.go:135", after := #[], guard := none }, { dst := some 57, op := Op.load 54 (Operand.tmp 8), type := 54, pos := "spec.go:135", after := #[], guard := none }, { dst := some 58, op := Op.call { callee := Callee.value (Operand.func 60), args := #[Operand.tmp 56, Operand.tmp 57], argTypes := #[54, 54] }, type := 4, pos := "spec.go:135", after := #[{ on := 0, ground := Ground.data }, { on := 1, ground := Ground.data }], guard := none }, { dst := some 59, op := Op.move (Operand.tmp 58), type := 4, pos := "spec.go:135", after := #[{ on := 2, ground := Ground.data }, { on := 2, ground := Ground.chain }], guard := none }, { dst := some 60, op := Op.load 54 (Operand.tmp 7), type := 54, pos := "spec.go:135", after := #[{ on := 3, ground := Ground.guard }], guard := some (3, true) }, { dst := some 61, op := Op.call { callee := Callee.value (Operand.func 62), args := #[Operand.tmp 60], argTypes := #[54] }, type := 49, pos := "spec.go:135", after := #[{ on := 4, ground := Ground.data }, { on := 3, ground := Ground.chain }, { on := 3, ground := Ground.guard }], guard := some (3, true) }, { dst := some 62, op := Op.load 54 (Operand.tmp 8), type := 54, pos := "spec.go:135", after := #[{ on := 3, ground := Ground.guard }], guard := some (3, true) }, { dst := some 63, op := Op.call { callee := Callee.value (Operand.func 62), args := #[Operand.tmp 62], argTypes := #[54] }, type := 49, pos := "spec.go:135", after := #[{ on := 6, ground := Ground.data }, { on := 5, ground := Ground.chain }, { on := 3, ground := Ground.guard }], guard := some (3, true) }, { dst := some 64, op := Op.move (Operand.tmp 0), type := 113, pos := "spec.go:135", after := #[{ on := 3, ground := Ground.guard }], guard := some (3, true) }, { dst := some 65, op := Op.makeFunc (Fn.func 27) #[Operand.tmp 64] #[], type := 79, pos := "spec.go:135", after := #[{ on := 8, ground := Ground.data }, { on := 3, ground := Ground.guard }], guard := some (3, true) }, { dst := some 66, op := Op.call { callee := Callee.value (Operand.func 61), args := #[Operand.tmp 61, Operand.tmp 63, Operand.tmp 65], argTypes := #[49, 49, 79] }, type := 4, pos := "spec.go:135", after := #[{ on := 5, ground := Ground.data }, { on := 7, ground := Ground.data }, { on := 9, ground := Ground.data }, { on := 7, ground := Ground.chain }, { on := 3, ground := Ground.guard }], guard := some (3, true) }, { dst := some 67, op := Op.pick (Operand.tmp 59) (Operand.tmp 66) (Operand.const (Value.bool false)), type := 4, pos := "spec.go:135", after := #[{ on := 3, ground := Ground.data }, { on := 10, ground := Ground.data }], guard := none }, { dst := some 6, op := Op.assign (Operand.tmp 67), type := 4, pos := "spec.go:135", after := #[{ on := 11, ground := Ground.data }, { on := 10, ground := Ground.chain }, { on := 0, ground := Ground.phase }, { on := 1, ground := Ground.phase }, { on := 2, ground := Ground.phase }, { on := 3, ground := Ground.phase }, { on := 4, ground := Ground.phase }, { on := 5, ground := Ground.phase }, { on := 6, ground := Ground.phase }, { on := 7, ground := Ground.phase }, { on := 8, ground := Ground.phase }, { on := 9, ground := Ground.phase }, { on := 10, ground := Ground.phase }, { on := 11, ground := Ground.phase }], guard := none }]
def sm5Dep : Nat → List Nat := fun i => match i with | 2 => [0, 1] | 3 => [2] | 4 => [3] | 5 => [4, 3] | 6 => [3] | 7 => [6, 5, 3] | 8 => [3] | 9 => [8, 3] | 10 => [5, 7, 9, 3] | 11 => [3, 10] | 12 => [11] | _ => []
structure sm5C (gp : Nat) (g7 : Nat) (g8 : Nat) (cs : Array Value) (ds : Array Value) (W1 : World) (R2 : Value → World → Prop) (R5 : Value → World → Prop) (R7 : Value → Value → World → Prop) (R10 : Value → World → Prop) (L : Nat → Bool) (f : Nat → Value) (w : World) : Prop where
 v0 : L 0 = true → f 56 = .agg cs
 v1 : L 1 = true → f 57 = .agg ds
 v3 : L 3 = true → f 59 = .bool true
 v4 : L 4 = true → f 60 = .agg cs
 v6 : L 6 = true → f 62 = .agg ds
 v8 : L 8 = true → f 64 = .pointer (some ⟨gp, 0, none⟩)
 v9 : L 9 = true → f 65 = .func (.func 27) #[.pointer (some ⟨gp, 0, none⟩)] #[]
 v11 : L 11 = true → f 67 = .bool true
 v12 : L 12 = true → f 6 = .bool true
 wz : L 2 = false → w = W1
 w2 : L 2 = true → L 5 = false → R2 (f 58) w
 w5 : L 5 = true → L 7 = false → R5 (f 61) w
 w7 : L 7 = true → L 10 = false → R7 (f 61) (f 63) w
 w10 : L 10 = true → R10 (f 66) w
 d5_2 : L 5 = true → L 2 = true
 d7_5 : L 7 = true → L 5 = true
 d10_7 : L 10 = true → L 7 = true
 d2_0 : L 2 = true → L 0 = true
 d2_1 : L 2 = true → L 1 = true
 d5_3 : L 5 = true → L 3 = true
 d5_4 : L 5 = true → L 4 = true
 d7_6 : L 7 = true → L 6 = true
 d10_9 : L 10 = true → L 9 = true
 d3_2 : L 3 = true → L 2 = true
theorem sm5_0 {gp : Nat} {g7 : Nat} {g8 : Nat} {cs : Array Value} {ds : Array Value} {W1 : World} {R2 : Value → World → Prop} {R5 : Value → World → Prop} {R7 : Value → Value → World → Prop} {R10 : Value → World → Prop} {L : Nat → Bool} {f : Nat → Value} {w : World} (h : sm5C gp g7 g8 cs ds W1 R2 R5 R7 R10 L f w) : sm5C gp g7 g8 cs ds W1 R2 R5 R7 R10 (fun k => if k = 0 then true else L k) (fun t => if (some 56 : Option Nat) = some t then (.agg cs) else f t) w where
 v0 := fun _ => by simp
 v1 := by simpa using h.v1
 v3 := by simpa using h.v3
 v4 := by simpa using h.v4
 v6 := by simpa using h.v6
 v8 := by simpa using h.v8
 v9 := by simpa using h.v9
 v11 := by simpa using h.v11
 v12 := by simpa using h.v12
 wz := by simpa using h.wz
 w2 := by simpa using h.w2
 w5 := by simpa using h.w5
 w7 := by simpa using h.w7
 w10 := by simpa using h.w10
 d5_2 := by simpa using h.d5_2
 d7_5 := by simpa using h.d7_5
 d10_7 := by simpa using h.d10_7
 d2_0 := fun _ => by simp
 d2_1 := by simpa using h.d2_1
 d5_3 := by simpa using h.d5_3
 d5_4 := by simpa using h.d5_4
 d7_6 := by simpa using h.d7_6
 d10_9 := by simpa using h.d10_9
 d3_2 := by simpa using h.d3_2
theorem sm5_1 {gp : Nat} {g7 : Nat} {g8 : Nat} {cs : Array Value} {ds : Array Value} {W1 : World} {R2 : Value → World → Prop} {R5 : Value → World → Prop} {R7 : Value → Value → World → Prop} {R10 : Value → World → Prop} {L : Nat → Bool} {f : Nat → Value} {w : World} (h : sm5C gp g7 g8 cs ds W1 R2 R5 R7 R10 L f w) : sm5C gp g7 g8 cs ds W1 R2 R5 R7 R10 (fun k => if k = 1 then true else L k) (fun t => if (some 57 : Option Nat) = some t then (.agg ds) else f t) w where
 v0 := by simpa using h.v0
 v1 := fun _ => by simp
 v3 := by simpa using h.v3
 v4 := by simpa using h.v4
 v6 := by simpa using h.v6
 v8 := by simpa using h.v8
 v9 := by simpa using h.v9
 v11 := by simpa using h.v11
 v12 := by simpa using h.v12
 wz := by simpa using h.wz
 w2 := by simpa using h.w2
 w5 := by simpa using h.w5
 w7 := by simpa using h.w7
 w10 := by simpa using h.w10
 d5_2 := by simpa using h.d5_2
 d7_5 := by simpa using h.d7_5
 d10_7 := by simpa using h.d10_7
 d2_0 := by simpa using h.d2_0
 d2_1 := fun _ => by simp
 d5_3 := by simpa using h.d5_3
 d5_4 := by simpa using h.d5_4
 d7_6 := by simpa using h.d7_6
 d10_9 := by simpa using h.d10_9
 d3_2 := by simpa using h.d3_2
theorem sm5_2 {gp : Nat} {g7 : Nat} {g8 : Nat} {cs : Array Value} {ds : Array Value} {W1 : World} {R2 : Value → World → Prop} {R5 : Value → World → Prop} {R7 : Value → Value → World → Prop} {R10 : Value → World → Prop} {L : Nat → Bool} {f : Nat → Value} {w : World} {v : Value} {w2 : World} (h : sm5C gp g7 g8 cs ds W1 R2 R5 R7 R10 L f w) (h2 : L 2 = false) (h0 : L 0 = true) (h1 : L 1 = true) (hp : R2 v w2) : sm5C gp g7 g8 cs ds W1 R2 R5 R7 R10 (fun k => if k = 2 then true else L k) (fun t => if (some 58 : Option Nat) = some t then v else f t) w2 := by
 have h5 : L 5 = false := by cases hh : L 5 with | false => rfl | true => exact absurd (h.d5_2 hh) (by rw [h2]; decide)
 have h7 : L 7 = false := by cases hh : L 7 with | false => rfl | true => exact absurd (h.d7_5 hh) (by rw [h5]; decide)
 have h10 : L 10 = false := by cases hh : L 10 with | false => rfl | true => exact absurd (h.d10_7 hh) (by rw [h7]; decide)
 constructor
 ·simpa using h.v0
 ·simpa using h.v1
 ·simpa using h.v3
 ·simpa using h.v4
 ·simpa using h.v6
 ·simpa using h.v8
 ·simpa using h.v9
 ·simpa using h.v11
 ·simpa using h.v12
 ·intro hh; simp at hh
 ·intro _ _; simpa using hp
 ·intro hh _; simp [h5] at hh
 ·intro hh _; simp [h7] at hh
 ·intro hh; simp [h10] at hh
 ·intro _; simp
 ·simpa using h.d7_5
 ·simpa using h.d10_7
 ·intro _; simpa using h0
 ·intro _; simpa using h1
 ·simpa using h.d5_3
 ·simpa using h.d5_4
 ·simpa using h.d7_6
 ·simpa using h.d10_9
 ·intro _; simp
theorem sm5_3 {gp : Nat} {g7 : Nat} {g8 : Nat} {cs : Array Value} {ds : Array Value} {W1 : World} {R2 : Value → World → Prop} {R5 : Value → World → Prop} {R7 : Value → Value → World → Prop} {R10 : Value → World → Prop} {L : Nat → Bool} {f : Nat → Value} {w : World} (h : sm5C gp g7 g8 cs ds W1 R2 R5 R7 R10 L f w) (h2 : L 2 = true) : sm5C gp g7 g8 cs ds W1 R2 R5 R7 R10 (fun k => if k = 3 then true else L k) (fun t => if (some 59 : Option Nat) = some t then (.bool true) else f t) w where
 v0 := by simpa using h.v0
 v1 := by simpa using h.v1
 v3 := fun _ => by simp
 v4 := by simpa using h.v4
 v6 := by simpa using h.v6
 v8 := by simpa using h.v8
 v9 := by simpa using h.v9
 v11 := by simpa using h.v11
 v12 := by simpa using h.v12
 wz := by simpa using h.wz
 w2 := by simpa using h.w2
 w5 := by simpa using h.w5
 w7 := by simpa using h.w7
 w10 := by simpa using h.w10
 d5_2 := by simpa using h.d5_2
 d7_5 := by simpa using h.d7_5
 d10_7 := by simpa using h.d10_7
 d2_0 := by simpa using h.d2_0
 d2_1 := by simpa using h.d2_1
 d5_3 := fun _ => by simp
 d5_4 := by simpa using h.d5_4
 d7_6 := by simpa using h.d7_6
 d10_9 := by simpa using h.d10_9
 d3_2 := fun _ => by simpa using h2
theorem sm5_4 {gp : Nat} {g7 : Nat} {g8 : Nat} {cs : Array Value} {ds : Array Value} {W1 : World} {R2 : Value → World → Prop} {R5 : Value → World → Prop} {R7 : Value → Value → World → Prop} {R10 : Value → World → Prop} {L : Nat → Bool} {f : Nat → Value} {w : World} (h : sm5C gp g7 g8 cs ds W1 R2 R5 R7 R10 L f w) : sm5C gp g7 g8 cs ds W1 R2 R5 R7 R10 (fun k => if k = 4 then true else L k) (fun t => if (some 60 : Option Nat) = some t then (.agg cs) else f t) w where
 v0 := by simpa using h.v0
 v1 := by simpa using h.v1
 v3 := by simpa using h.v3
 v4 := fun _ => by simp
 v6 := by simpa using h.v6
 v8 := by simpa using h.v8
 v9 := by simpa using h.v9
 v11 := by simpa using h.v11
 v12 := by simpa using h.v12
 wz := by simpa using h.wz
 w2 := by simpa using h.w2
 w5 := by simpa using h.w5
 w7 := by simpa using h.w7
 w10 := by simpa using h.w10
 d5_2 := by simpa using h.d5_2
 d7_5 := by simpa using h.d7_5
 d10_7 := by simpa using h.d10_7
 d2_0 := by simpa using h.d2_0
 d2_1 := by simpa using h.d2_1
 d5_3 := by simpa using h.d5_3
 d5_4 := fun _ => by simp
 d7_6 := by simpa using h.d7_6
 d10_9 := by simpa using h.d10_9
 d3_2 := by simpa using h.d3_2
theorem sm5_5 {gp : Nat} {g7 : Nat} {g8 : Nat} {cs : Array Value} {ds : Array Value} {W1 : World} {R2 : Value → World → Prop} {R5 : Value → World → Prop} {R7 : Value → Value → World → Prop} {R10 : Value → World → Prop} {L : Nat → Bool} {f : Nat → Value} {w : World} {v : Value} {w2 : World} (h : sm5C gp g7 g8 cs ds W1 R2 R5 R7 R10 L f w) (h2 : L 2 = true) (h5 : L 5 = false) (h3 : L 3 = true) (h4 : L 4 = true) (hp : R5 v w2) : sm5C gp g7 g8 cs ds W1 R2 R5 R7 R10 (fun k => if k = 5 then true else L k) (fun t => if (some 61 : Option Nat) = some t then v else f t) w2 := by
 have h7 : L 7 = false := by cases hh : L 7 with | false => rfl | true => exact absurd (h.d7_5 hh) (by rw [h5]; decide)
 have h10 : L 10 = false := by cases hh : L 10 with | false => rfl | true => exact absurd (h.d10_7 hh) (by rw [h7]; decide)
 constructor
 ·simpa using h.v0
 ·simpa using h.v1
 ·simpa using h.v3
 ·simpa using h.v4
 ·simpa using h.v6
 ·simpa using h.v8
 ·simpa using h.v9
 ·simpa using h.v11
 ·simpa using h.v12
 ·intro hh; simp [h2] at hh
 ·intro _ hh; simp at hh
 ·intro _ _; simpa using hp
 ·intro hh _; simp [h7] at hh
 ·intro hh; simp [h10] at hh
 ·intro _; simpa using h2
 ·intro _; simp
 ·simpa using h.d10_7
 ·simpa using h.d2_0
 ·simpa using h.d2_1
 ·intro _; simpa using h3
 ·intro _; simpa using h4
 ·simpa using h.d7_6
 ·simpa using h.d10_9
 ·simpa using h.d3_2
theorem sm5_6 {gp : Nat} {g7 : Nat} {g8 : Nat} {cs : Array Value} {ds : Array Value} {W1 : World} {R2 : Value → World → Prop} {R5 : Value → World → Prop} {R7 : Value → Value → World → Prop} {R10 : Value → World → Prop} {L : Nat → Bool} {f : Nat → Value} {w : World} (h : sm5C gp g7 g8 cs ds W1 R2 R5 R7 R10 L f w) : sm5C gp g7 g8 cs ds W1 R2 R5 R7 R10 (fun k => if k = 6 then true else L k) (fun t => if (some 62 : Option Nat) = some t then (.agg ds) else f t) w where
 v0 := by simpa using h.v0
 v1 := by simpa using h.v1
 v3 := by simpa using h.v3
 v4 := by simpa using h.v4
 v6 := fun _ => by simp
 v8 := by simpa using h.v8
 v9 := by simpa using h.v9
 v11 := by simpa using h.v11
 v12 := by simpa using h.v12
 wz := by simpa using h.wz
 w2 := by simpa using h.w2
 w5 := by simpa using h.w5
 w7 := by simpa using h.w7
 w10 := by simpa using h.w10
 d5_2 := by simpa using h.d5_2
 d7_5 := by simpa using h.d7_5
 d10_7 := by simpa using h.d10_7
 d2_0 := by simpa using h.d2_0
 d2_1 := by simpa using h.d2_1
 d5_3 := by simpa using h.d5_3
 d5_4 := by simpa using h.d5_4
 d7_6 := fun _ => by simp
 d10_9 := by simpa using h.d10_9
 d3_2 := by simpa using h.d3_2
theorem sm5_7 {gp : Nat} {g7 : Nat} {g8 : Nat} {cs : Array Value} {ds : Array Value} {W1 : World} {R2 : Value → World → Prop} {R5 : Value → World → Prop} {R7 : Value → Value → World → Prop} {R10 : Value → World → Prop} {L : Nat → Bool} {f : Nat → Value} {w : World} {v : Value} {w2 : World} (h : sm5C gp g7 g8 cs ds W1 R2 R5 R7 R10 L f w) (h2 : L 2 = true) (h5 : L 5 = true) (h7 : L 7 = false) (h6 : L 6 = true) (hp : R7 (f 61) v w2) : sm5C gp g7 g8 cs ds W1 R2 R5 R7 R10 (fun k => if k = 7 then true else L k) (fun t => if (some 63 : Option Nat) = some t then v else f t) w2 := by
 have h10 : L 10 = false := by cases hh : L 10 with | false => rfl | true => exact absurd (h.d10_7 hh) (by rw [h7]; decide)
 constructor
 ·simpa using h.v0
 ·simpa using h.v1
 ·simpa using h.v3
 ·simpa using h.v4
 ·simpa using h.v6
 ·simpa using h.v8
 ·simpa using h.v9
 ·simpa using h.v11
 ·simpa using h.v12
 ·intro hh; simp [h2] at hh
 ·intro _ hh; simp [h5] at hh
 ·intro _ hh; simp at hh
 ·intro _ _; simpa using hp
 ·intro hh; simp [h10] at hh
 ·simpa using h.d5_2
 ·intro _; simpa using h5
 ·intro _; simp
 ·simpa using h.d2_0
 ·simpa using h.d2_1
 ·simpa using h.d5_3
 ·simpa using h.d5_4
 ·intro _; simpa using h6
 ·simpa using h.d10_9
 ·simpa using h.d3_2
theorem sm5_8 {gp : Nat} {g7 : Nat} {g8 : Nat} {cs : Array Value} {ds : Array Value} {W1 : World} {R2 : Value → World → Prop} {R5 : Value → World → Prop} {R7 : Value → Value → World → Prop} {R10 : Value → World → Prop} {L : Nat → Bool} {f : Nat → Value} {w : World} (h : sm5C gp g7 g8 cs ds W1 R2 R5 R7 R10 L f w) : sm5C gp g7 g8 cs ds W1 R2 R5 R7 R10 (fun k => if k = 8 then true else L k) (fun t => if (some 64 : Option Nat) = some t then (.pointer (some ⟨gp, 0, none⟩)) else f t) w where
 v0 := by simpa using h.v0
 v1 := by simpa using h.v1
 v3 := by simpa using h.v3
 v4 := by simpa using h.v4
 v6 := by simpa using h.v6
 v8 := fun _ => by simp
 v9 := by simpa using h.v9
 v11 := by simpa using h.v11
 v12 := by simpa using h.v12
 wz := by simpa using h.wz
 w2 := by simpa using h.w2
 w5 := by simpa using h.w5
 w7 := by simpa using h.w7
 w10 := by simpa using h.w10
 d5_2 := by simpa using h.d5_2
 d7_5 := by simpa using h.d7_5
 d10_7 := by simpa using h.d10_7
 d2_0 := by simpa using h.d2_0
 d2_1 := by simpa using h.d2_1
 d5_3 := by simpa using h.d5_3
 d5_4 := by simpa using h.d5_4
 d7_6 := by simpa using h.d7_6
 d10_9 := by simpa using h.d10_9
 d3_2 := by simpa using h.d3_2
theorem sm5_9 {gp : Nat} {g7 : Nat} {g8 : Nat} {cs : Array Value} {ds : Array Value} {W1 : World} {R2 : Value → World → Prop} {R5 : Value → World → Prop} {R7 : Value → Value → World → Prop} {R10 : Value → World → Prop} {L : Nat → Bool} {f : Nat → Value} {w : World} (h : sm5C gp g7 g8 cs ds W1 R2 R5 R7 R10 L f w) : sm5C gp g7 g8 cs ds W1 R2 R5 R7 R10 (fun k => if k = 9 then true else L k) (fun t => if (some 65 : Option Nat) = some t then (.func (.func 27) #[.pointer (some ⟨gp, 0, none⟩)] #[]) else f t) w where
 v0 := by simpa using h.v0
 v1 := by simpa using h.v1
 v3 := by simpa using h.v3
 v4 := by simpa using h.v4
 v6 := by simpa using h.v6
 v8 := by simpa using h.v8
 v9 := fun _ => by simp
 v11 := by simpa using h.v11
 v12 := by simpa using h.v12
 wz := by simpa using h.wz
 w2 := by simpa using h.w2
 w5 := by simpa using h.w5
 w7 := by simpa using h.w7
 w10 := by simpa using h.w10
 d5_2 := by simpa using h.d5_2
 d7_5 := by simpa using h.d7_5
 d10_7 := by simpa using h.d10_7
 d2_0 := by simpa using h.d2_0
 d2_1 := by simpa using h.d2_1
 d5_3 := by simpa using h.d5_3
 d5_4 := by simpa using h.d5_4
 d7_6 := by simpa using h.d7_6
 d10_9 := fun _ => by simp
 d3_2 := by simpa using h.d3_2
theorem sm5_10 {gp : Nat} {g7 : Nat} {g8 : Nat} {cs : Array Value} {ds : Array Value} {W1 : World} {R2 : Value → World → Prop} {R5 : Value → World → Prop} {R7 : Value → Value → World → Prop} {R10 : Value → World → Prop} {L : Nat → Bool} {f : Nat → Value} {w : World} {v : Value} {w2 : World} (h : sm5C gp g7 g8 cs ds W1 R2 R5 R7 R10 L f w) (h2 : L 2 = true) (h5 : L 5 = true) (h7 : L 7 = true) (h10 : L 10 = false) (h9 : L 9 = true) (hp : R10 v w2) : sm5C gp g7 g8 cs ds W1 R2 R5 R7 R10 (fun k => if k = 10 then true else L k) (fun t => if (some 66 : Option Nat) = some t then v else f t) w2 := by
 constructor
 ·simpa using h.v0
 ·simpa using h.v1
 ·simpa using h.v3
 ·simpa using h.v4
 ·simpa using h.v6
 ·simpa using h.v8
 ·simpa using h.v9
 ·simpa using h.v11
 ·simpa using h.v12
 ·intro hh; simp [h2] at hh
 ·intro _ hh; simp [h5] at hh
 ·intro _ hh; simp [h7] at hh
 ·intro _ hh; simp at hh
 ·intro _; simpa using hp
 ·simpa using h.d5_2
 ·simpa using h.d7_5
 ·intro _; simpa using h7
 ·simpa using h.d2_0
 ·simpa using h.d2_1
 ·simpa using h.d5_3
 ·simpa using h.d5_4
 ·simpa using h.d7_6
 ·intro _; simpa using h9
 ·simpa using h.d3_2
theorem sm5_11 {gp : Nat} {g7 : Nat} {g8 : Nat} {cs : Array Value} {ds : Array Value} {W1 : World} {R2 : Value → World → Prop} {R5 : Value → World → Prop} {R7 : Value → Value → World → Prop} {R10 : Value → World → Prop} {L : Nat → Bool} {f : Nat → Value} {w : World} (h : sm5C gp g7 g8 cs ds W1 R2 R5 R7 R10 L f w) : sm5C gp g7 g8 cs ds W1 R2 R5 R7 R10 (fun k => if k = 11 then true else L k) (fun t => if (some 67 : Option Nat) = some t then (.bool true) else f t) w where
 v0 := by simpa using h.v0
 v1 := by simpa using h.v1
 v3 := by simpa using h.v3
 v4 := by simpa using h.v4
 v6 := by simpa using h.v6
 v8 := by simpa using h.v8
 v9 := by simpa using h.v9
 v11 := fun _ => by simp
 v12 := by simpa using h.v12
 wz := by simpa using h.wz
 w2 := by simpa using h.w2
 w5 := by simpa using h.w5
 w7 := by simpa using h.w7
 w10 := by simpa using h.w10
 d5_2 := by simpa using h.d5_2
 d7_5 := by simpa using h.d7_5
 d10_7 := by simpa using h.d10_7
 d2_0 := by simpa using h.d2_0
 d2_1 := by simpa using h.d2_1
 d5_3 := by simpa using h.d5_3
 d5_4 := by simpa using h.d5_4
 d7_6 := by simpa using h.d7_6
 d10_9 := by simpa using h.d10_9
 d3_2 := by simpa using h.d3_2
theorem sm5_12 {gp : Nat} {g7 : Nat} {g8 : Nat} {cs : Array Value} {ds : Array Value} {W1 : World} {R2 : Value → World → Prop} {R5 : Value → World → Prop} {R7 : Value → Value → World → Prop} {R10 : Value → World → Prop} {L : Nat → Bool} {f : Nat → Value} {w : World} (h : sm5C gp g7 g8 cs ds W1 R2 R5 R7 R10 L f w) : sm5C gp g7 g8 cs ds W1 R2 R5 R7 R10 (fun k => if k = 12 then true else L k) (fun t => if (some 6 : Option Nat) = some t then (.bool true) else f t) w where
 v0 := by simpa using h.v0
 v1 := by simpa using h.v1
 v3 := by simpa using h.v3
 v4 := by simpa using h.v4
 v6 := by simpa using h.v6
 v8 := by simpa using h.v8
 v9 := by simpa using h.v9
 v11 := by simpa using h.v11
 v12 := fun _ => by simp
 wz := by simpa using h.wz
 w2 := by simpa using h.w2
 w5 := by simpa using h.w5
 w7 := by simpa using h.w7
 w10 := by simpa using h.w10
 d5_2 := by simpa using h.d5_2
 d7_5 := by simpa using h.d7_5
 d10_7 := by simpa using h.d10_7
 d2_0 := by simpa using h.d2_0
 d2_1 := by simpa using h.d2_1
 d5_3 := by simpa using h.d5_3
 d5_4 := by simpa using h.d5_4
 d7_6 := by simpa using h.d7_6
 d10_9 := by simpa using h.d10_9
 d3_2 := by simpa using h.d3_2
def sm5Us (f : Nat → Value) : List (Nat × Value) := [(56, f 56), (57, f 57), (58, f 58), (59, f 59), (60, f 60), (61, f 61), (62, f 62), (63, f 63), (64, f 64), (65, f 65), (66, f 66), (67, f 67), (6, f 6)]
theorem enters_alike : ∀ args w, (callFunc 60 args).run Tryz.prog w = .ok (.enter 60 args) w := enters_of Tryz.func60 (by kernel_rfl) rfl
theorem enters_Kids : ∀ args w, (callFunc 62 args).run Tryz.prog w = .ok (.enter 62 args) w := enters_of Tryz.func62 (by kernel_rfl) rfl
theorem enters_eqI : ∀ args w, (callFunc 61 args).run Tryz.prog w = .ok (.enter 61 args) w := enters_of Tryz.func61 (by kernel_rfl) rfl
theorem wp_mkfunG {P : Program} {o : Oper} {a : Act} {w : World} {K : Act → World → Prop} {Q : Exit → Act → World → Prop} (F : Nat) (x : Operand) (ho : o.op = .makeFunc (.func F) #[x] #[]) (v : Value) (hx : a.eval x = v) (h : K (a.put o.dst (.func (.func F) #[v] #[])) w) : o.wp P a w K Q := by
 unfold Oper.wp
 have e : (execOp a.eval o).run P w = .ok (.value (.func (.func F) #[v] #[])) w := by
  unfold execOp
  simp only [ho]
  simp [hx]
  rfl
 rw [e]
 exact h
set_option maxRecDepth 10000 in
set_option maxHeartbeats 2000000 in
theorem sm5_reg {gp g7 g8 : Nat} {cs ds : Array Value} {W : World} {R2 : Value → World → Prop} {R5 : Value → World → Prop} {R7 : Value → Value → World → Prop} {R10 : Value → World → Prop} {A0 : Act} {Q : Exit → Act → World → Prop} {id : Nat} (a0 : Act.at A0 0 = .pointer (some ⟨gp, 0, none⟩)) (a7 : Act.at A0 7 = .pointer (some ⟨g7, 0, none⟩)) (a8 : Act.at A0 8 = .pointer (some ⟨g8, 0, none⟩)) (hsz : 68 ≤ A0.tmps.size)
  (hA : W.heap[g7]? = some (.cells cs 54)) (hB : W.heap[g8]? = some (.cells ds 54)) (hsA : (Tryz.prog.info? 54).map (·.size) = some cs.size) (hsB : (Tryz.prog.info? 54).map (·.size) = some ds.size)
  (HC2 : Calls Tryz.prog 60 #[.agg cs, .agg ds] W.drew fun e w' => ∃ v, e = .returned v ∧ R2 v w')
  (hR2 : ∀ u w, R2 u w → u = .bool true ∧ w.heap[g7]? = some (.cells cs 54) ∧ w.heap[g8]? = some (.cells ds 54))
  (HC5 : ∀ u w, R2 u w → Calls Tryz.prog 62 #[.agg cs] w fun e w' => ∃ v, e = .returned v ∧ R5 v w')
  (hR5 : ∀ u w, R5 u w → w.heap[g8]? = some (.cells ds 54))
  (HC7 : ∀ u w, R5 u w → Calls Tryz.prog 62 #[.agg ds] w fun e w' => ∃ v, e = .returned v ∧ R7 u v w')
  (HC10 : ∀ u v w, R7 u v w → Calls Tryz.prog 61 #[u, v, .func (.func 27) #[.pointer (some ⟨gp, 0, none⟩)] #[]] w fun e w' => ∃ z, e = .returned z ∧ R10 z w')
  (hR10 : ∀ u w, R10 u w → u = .bool true)
  (hk : ∀ (f : Nat → Value) w', f 6 = .bool true → R10 (.bool true) w' → Q .normal ⟨(sm5Us f).foldl (fun A p => A.setIfInBounds p.1 p.2) A0.tmps, A0.defers⟩ w') :
  (Code.region id sm5Ops true).wp Tryz.prog Q A0 W := by
 refine wp_region_fun3 (by kernel_rfl) (fun L f w => sm5C gp g7 g8 cs ds W.drew R2 R5 R7 R10 L f w) [56, 57, 58, 59, 60, 61, 62, 63, 64, 65, 66, 67, 6] (wf_ops3 (by kernel_rfl)) (fun i o ho u hu => ?_) ?_ ?_ ?_
 ·have := ops_dst [56, 57, 58, 59, 60, 61, 62, 63, 64, 65, 66, 67, 6] 68 (by kernel_rfl) i o ho u hu
  exact ⟨this.1, Nat.lt_of_lt_of_le this.2 hsz⟩
 ·have hs : sm5Ops.size = 13 := rfl
  rw [hs]
  constructor <;> first | exact (fun _ => rfl) | (intro h; simp at h) | (intro h h2; simp at h)
 ·rintro L i o ho hLi haf b w hf hc K hK
  have hdep := ops_deps sm5Dep (by kernel_rfl) ho haf
  clear haf
  have hs : sm5Ops.size = 13 := rfl
  have hlt : i < 13 := hs ▸ (Array.getElem?_eq_some_iff.1 ho).1
  have hcases : i = 0 ∨ i = 1 ∨ i = 2 ∨ i = 3 ∨ i = 4 ∨ i = 5 ∨ i = 6 ∨ i = 7 ∨ i = 8 ∨ i = 9 ∨ i = 10 ∨ i = 11 ∨ i = 12 := by omega
  rcases hcases with rfl | rfl | rfl | rfl | rfl | rfl | rfl | rfl | rfl | rfl | rfl | rfl | rfl
  ·obtain ⟨h1, h2, h3⟩ := op_at3 ho (show (sm5Ops[0]?).map (fun o => (o.dst, o.op, o.guard)) = some ((some 56), (.load 54 (.tmp 7)), none) by kernel_rfl)
   rw [h1] at hK
   refine want_none h3 ?_
   have hw : w = W.drew := by
    cases h2' : L 2 with
    | true => exact absurd (hc.d2_0 h2') (by rw [hLi]; decide)
    | false => exact hc.wz h2'
   subst hw
   have hcell : W.drew.heap[g7]? = some (.cells cs 54) := hA
   refine wp_load_row 54 (.tmp 7) h2 g7 ((hf 7 (by decide)).trans a7) 54 _ (0, 0) _ hcell Tryz.underlying54 rfl hsA ?_
   rw [h1]
   exact hK _ _ (sm5_0 hc)
  ·obtain ⟨h1, h2, h3⟩ := op_at3 ho (show (sm5Ops[1]?).map (fun o => (o.dst, o.op, o.guard)) = some ((some 57), (.load 54 (.tmp 8)), none) by kernel_rfl)
   rw [h1] at hK
   refine want_none h3 ?_
   have hw : w = W.drew := by
    cases h2' : L 2 with
    | true => exact absurd (hc.d2_1 h2') (by rw [hLi]; decide)
    | false => exact hc.wz h2'
   subst hw
   have hcell : W.drew.heap[g8]? = some (.cells ds 54) := hB
   refine wp_load_row 54 (.tmp 8) h2 g8 ((hf 8 (by decide)).trans a8) 54 _ (0, 0) _ hcell Tryz.underlying54 rfl hsB ?_
   rw [h1]
   exact hK _ _ (sm5_1 hc)
  ·obtain ⟨h1, h2, h3⟩ := op_at3 ho (show (sm5Ops[2]?).map (fun o => (o.dst, o.op, o.guard)) = some ((some 58), (.call { callee := .value (.func 60), args := #[.tmp 56, .tmp 57], argTypes := #[54, 54] }), none) by kernel_rfl)
   rw [h1] at hK
   have l0 : L 0 = true := hdep 0 (by simp [sm5Dep])
   have l1 : L 1 = true := hdep 1 (by simp [sm5Dep])
   refine want_none h3 ?_
   obtain rfl := hc.wz hLi
   refine wp_callG 60 _ _ h2 enters_alike #[.agg cs, .agg ds] (by simp [show b.eval (.tmp 56) = _ from hc.v0 l0, show b.eval (.tmp 57) = _ from hc.v1 l1]) _ HC2 ?_
   intro v w2 hp
   rw [h1]
   exact hK _ _ (sm5_2 hc hLi l0 l1 hp)
  ·obtain ⟨h1, h2, h3⟩ := op_at3 ho (show (sm5Ops[3]?).map (fun o => (o.dst, o.op, o.guard)) = some ((some 59), (.move (.tmp 58)), none) by kernel_rfl)
   rw [h1] at hK
   have l2 : L 2 = true := hdep 2 (by simp [sm5Dep])
   refine want_none h3 ?_
   have h58 : Act.at b 58 = .bool true := by
    cases h5' : L 5 with
    | true => exact absurd (hc.d5_3 h5') (by rw [hLi]; decide)
    | false => exact (hR2 _ _ (hc.w2 l2 h5')).1
   refine wp_moveG _ h2 _ h58 ?_
   rw [h1]
   exact hK _ _ (sm5_3 hc l2)
  ·obtain ⟨h1, h2, h3⟩ := op_at3 ho (show (sm5Ops[4]?).map (fun o => (o.dst, o.op, o.guard)) = some ((some 60), (.load 54 (.tmp 7)), (some (3, true))) by kernel_rfl)
   rw [h1] at hK
   have l3 : L 3 = true := hdep 3 (by simp [sm5Dep])
   have hw := wanted_of (ops := sm5Ops) (b := b) h3 (d := 59) (by kernel_rfl) (hc.v3 l3)
   rw [hw]
   refine ⟨fun _ => ?_, fun hq => by cases hq⟩
   have hcell : w.heap[g7]? = some (.cells cs 54) := by
    cases h2' : L 2 with
    | false => rw [hc.wz h2']; exact hA
    | true =>
     cases h5' : L 5 with
     | false => exact (hR2 _ _ (hc.w2 h2' h5')).2.1
     | true =>
      cases h7' : L 7 with
      | false => exact absurd (hc.d5_4 h5') (by rw [hLi]; decide)
      | true => exact absurd (hc.d5_4 h5') (by rw [hLi]; decide)
   refine wp_load_row 54 (.tmp 7) h2 g7 ((hf 7 (by decide)).trans a7) 54 _ (0, 0) _ hcell Tryz.underlying54 rfl hsA ?_
   rw [h1]
   exact hK _ _ (sm5_4 hc)
  ·obtain ⟨h1, h2, h3⟩ := op_at3 ho (show (sm5Ops[5]?).map (fun o => (o.dst, o.op, o.guard)) = some ((some 61), (.call { callee := .value (.func 62), args := #[.tmp 60], argTypes := #[54] }), (some (3, true))) by kernel_rfl)
   rw [h1] at hK
   have l4 : L 4 = true := hdep 4 (by simp [sm5Dep])
   have l3 : L 3 = true := hdep 3 (by simp [sm5Dep])
   have hw := wanted_of (ops := sm5Ops) (b := b) h3 (d := 59) (by kernel_rfl) (hc.v3 l3)
   rw [hw]
   refine ⟨fun _ => ?_, fun hq => by cases hq⟩
   have l2 : L 2 = true := hc.d3_2 l3
   have h22 := hc.w2 l2 hLi
   refine wp_callG 62 _ _ h2 enters_Kids #[.agg cs] (by simp [show b.eval (.tmp 60) = _ from hc.v4 l4]) _ (HC5 _ _ h22) ?_
   intro v w2 hp
   rw [h1]
   exact hK _ _ (sm5_5 hc l2 hLi l3 l4 hp)
  ·obtain ⟨h1, h2, h3⟩ := op_at3 ho (show (sm5Ops[6]?).map (fun o => (o.dst, o.op, o.guard)) = some ((some 62), (.load 54 (.tmp 8)), (some (3, true))) by kernel_rfl)
   rw [h1] at hK
   have l3 : L 3 = true := hdep 3 (by simp [sm5Dep])
   have hw := wanted_of (ops := sm5Ops) (b := b) h3 (d := 59) (by kernel_rfl) (hc.v3 l3)
   rw [hw]
   refine ⟨fun _ => ?_, fun hq => by cases hq⟩
   have hcell : w.heap[g8]? = some (.cells ds 54) := by
    cases h2' : L 2 with
    | false => rw [hc.wz h2']; exact hB
    | true =>
     cases h5' : L 5 with
     | false => exact (hR2 _ _ (hc.w2 h2' h5')).2.2
     | true =>
      cases h7' : L 7 with
      | false => exact hR5 _ _ (hc.w5 h5' h7')
      | true => exact absurd (hc.d7_6 h7') (by rw [hLi]; decide)
   refine wp_load_row 54 (.tmp 8) h2 g8 ((hf 8 (by decide)).trans a8) 54 _ (0, 0) _ hcell Tryz.underlying54 rfl hsB ?_
   rw [h1]
   exact hK _ _ (sm5_6 hc)
  ·obtain ⟨h1, h2, h3⟩ := op_at3 ho (show (sm5Ops[7]?).map (fun o => (o.dst, o.op, o.guard)) = some ((some 63), (.call { callee := .value (.func 62), args := #[.tmp 62], argTypes := #[54] }), (some (3, true))) by kernel_rfl)
   rw [h1] at hK
   have l6 : L 6 = true := hdep 6 (by simp [sm5Dep])
   have l5 : L 5 = true := hdep 5 (by simp [sm5Dep])
   have l3 : L 3 = true := hdep 3 (by simp [sm5Dep])
   have hw := wanted_of (ops := sm5Ops) (b := b) h3 (d := 59) (by kernel_rfl) (hc.v3 l3)
   rw [hw]
   refine ⟨fun _ => ?_, fun hq => by cases hq⟩
   have l2 : L 2 = true := hc.d3_2 l3
   have h55 := hc.w5 l5 hLi
   refine wp_callG 62 _ _ h2 enters_Kids #[.agg ds] (by simp [show b.eval (.tmp 62) = _ from hc.v6 l6]) _ (HC7 _ _ h55) ?_
   intro v w2 hp
   rw [h1]
   exact hK _ _ (sm5_7 hc l2 l5 hLi l6 hp)
  ·obtain ⟨h1, h2, h3⟩ := op_at3 ho (show (sm5Ops[8]?).map (fun o => (o.dst, o.op, o.guard)) = some ((some 64), (.move (.tmp 0)), (some (3, true))) by kernel_rfl)
   rw [h1] at hK
   have l3 : L 3 = true := hdep 3 (by simp [sm5Dep])
   have hw := wanted_of (ops := sm5Ops) (b := b) h3 (d := 59) (by kernel_rfl) (hc.v3 l3)
   rw [hw]
   refine ⟨fun _ => ?_, fun hq => by cases hq⟩
   refine wp_moveG _ h2 _ ((hf 0 (by decide)).trans a0) ?_
   rw [h1]
   exact hK _ _ (sm5_8 hc)
  ·obtain ⟨h1, h2, h3⟩ := op_at3 ho (show (sm5Ops[9]?).map (fun o => (o.dst, o.op, o.guard)) = some ((some 65), (.makeFunc (.func 27) #[.tmp 64] #[]), (some (3, true))) by kernel_rfl)
   rw [h1] at hK
   have l8 : L 8 = true := hdep 8 (by simp [sm5Dep])
   have l3 : L 3 = true := hdep 3 (by simp [sm5Dep])
   have hw := wanted_of (ops := sm5Ops) (b := b) h3 (d := 59) (by kernel_rfl) (hc.v3 l3)
   rw [hw]
   refine ⟨fun _ => ?_, fun hq => by cases hq⟩
   refine wp_mkfunG _ _ h2 _ (hc.v8 l8) ?_
   rw [h1]
   exact hK _ _ (sm5_9 hc)
  ·obtain ⟨h1, h2, h3⟩ := op_at3 ho (show (sm5Ops[10]?).map (fun o => (o.dst, o.op, o.guard)) = some ((some 66), (.call { callee := .value (.func 61), args := #[.tmp 61, .tmp 63, .tmp 65], argTypes := #[49, 49, 79] }), (some (3, true))) by kernel_rfl)
   rw [h1] at hK
   have l5 : L 5 = true := hdep 5 (by simp [sm5Dep])
   have l7 : L 7 = true := hdep 7 (by simp [sm5Dep])
   have l9 : L 9 = true := hdep 9 (by simp [sm5Dep])
   have l3 : L 3 = true := hdep 3 (by simp [sm5Dep])
   have hw := wanted_of (ops := sm5Ops) (b := b) h3 (d := 59) (by kernel_rfl) (hc.v3 l3)
   rw [hw]
   refine ⟨fun _ => ?_, fun hq => by cases hq⟩
   have l2 : L 2 = true := hc.d3_2 l3
   have h77 := hc.w7 l7 hLi
   refine wp_callG 61 _ _ h2 enters_eqI #[Act.at b 61, Act.at b 63, .func (.func 27) #[.pointer (some ⟨gp, 0, none⟩)] #[]] (by simp [show b.eval (.tmp 61) = Act.at b 61 from rfl, show b.eval (.tmp 63) = Act.at b 63 from rfl, show b.eval (.tmp 65) = _ from hc.v9 l9]) _ (HC10 _ _ _ h77) ?_
   intro v w2 hp
   rw [h1]
   exact hK _ _ (sm5_10 hc l2 l5 l7 hLi l9 hp)
  ·obtain ⟨h1, h2, h3⟩ := op_at3 ho (show (sm5Ops[11]?).map (fun o => (o.dst, o.op, o.guard)) = some ((some 67), (.pick (.tmp 59) (.tmp 66) (.const (.bool false))), none) by kernel_rfl)
   rw [h1] at hK
   have l3 : L 3 = true := hdep 3 (by simp [sm5Dep])
   have l10 : L 10 = true := hdep 10 (by simp [sm5Dep])
   refine want_none h3 ?_
   refine wp_pickG _ _ _ h2 true (hc.v3 l3) _ ((if_pos rfl).trans (hR10 _ _ (hc.w10 l10))) ?_
   rw [h1]
   exact hK _ _ (sm5_11 hc)
  ·obtain ⟨h1, h2, h3⟩ := op_at3 ho (show (sm5Ops[12]?).map (fun o => (o.dst, o.op, o.guard)) = some ((some 6), (.assign (.tmp 67)), none) by kernel_rfl)
   rw [h1] at hK
   have l11 : L 11 = true := hdep 11 (by simp [sm5Dep])
   refine want_none h3 ?_
   refine wp_assignG _ h2 _ (hc.v11 l11) ?_
   rw [h1]
   exact hK _ _ (sm5_12 hc)
 ·rintro L b w hL hd hs hf hc
  have hsz2 : sm5Ops.size = 13 := rfl
  rw [hsz2] at hL
  have e := act_eq (a := A0) (b := b) (sm5Us (Act.at b)) hd hs hf (by
   intro p hp
   simp only [sm5Us, List.mem_cons, List.not_mem_nil, or_false] at hp
   rcases hp with rfl | rfl | rfl | rfl | rfl | rfl | rfl | rfl | rfl | rfl | rfl | rfl | rfl <;> rfl) (by rw [show (sm5Us (Act.at b)).map (·.1) = [56, 57, 58, 59, 60, 61, 62, 63, 64, 65, 66, 67, 6] from rfl]; decide)
  rw [e]
  have h10 := hc.w10 (hL 10 (by omega))
  have hv := hR10 _ _ h10
  rw [hv] at h10
  exact hk (Act.at b) w (hc.v12 (hL 12 (by omega))) h10
end Go.Proofs.YtfcccfplmdjndaaGreat
