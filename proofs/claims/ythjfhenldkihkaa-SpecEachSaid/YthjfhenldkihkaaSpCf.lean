/- spec: two statements of pair's same, in open order. -/
import Derived.Test.YthjfhenldkihkaaSpCe
import Derived.Test.YthjfhenldkihkaaSpXb
import Derived.Test.YthjfhenldkihkaaSpVa
import Derived.Test.YthjfhenldkihkaaSpHa
namespace Go.Proofs.Ythjfhenldkihkaa
set_option linter.unusedSimpArgs false
set_option linter.unusedVariables false
open Go.RowKit

/-- Two boxes are laid and written, in whichever order. -/
structure TwoN (W1 : World) (cs ds : List Value) (la lb lc ld : Bool) (p q : Value) (w : World) : Prop where
  bel : Below W1.heap.size W1 w
  a : la = true → ∃ g, p = .pointer (some ⟨g, 0, none⟩) ∧ W1.heap.size ≤ g ∧ Blk w g 49 (if lc = true then cs else nvZ.cells)
  b : lb = true → ∃ g, q = .pointer (some ⟨g, 0, none⟩) ∧ W1.heap.size ≤ g ∧ Blk w g 49 (if ld = true then ds else nvZ.cells)
  ne : la = true → lb = true → p ≠ q
  ca : lc = true → la = true
  db : ld = true → lb = true
theorem TwoN.swap {W1 : World} {cs ds : List Value} {la lb lc ld : Bool} {p q : Value} {w : World} (h : TwoN W1 cs ds la lb lc ld p q w) : TwoN W1 ds cs lb la ld lc q p w :=
  ⟨h.bel, h.b, h.a, fun h1 h2 e => h.ne h2 h1 e.symm, h.db, h.ca⟩
theorem TwoN.alloc {W1 : World} {cs ds : List Value} {lb lc ld : Bool} {p q : Value} {w : World} (h : TwoN W1 cs ds false lb lc ld p q w) : TwoN W1 cs ds true lb lc ld (.pointer (some ⟨w.heap.size, 0, none⟩)) q (w.alloc (.cells nvZ.cells.toArray 49)) := by
  have hlc : lc = false := by cases lc with | false => rfl | true => exact absurd (h.ca rfl) (by decide)
  subst hlc
  have hb := (Below.refl w.heap.size w).alloc (Nat.le_refl _) (.cells nvZ.cells.toArray 49)
  refine ⟨h.bel.alloc h.bel.size _, fun _ => ⟨_, rfl, h.bel.size, heap_alloc_new w _⟩, fun hl => ?_, fun _ hl => ?_, fun _ => rfl, h.db⟩
  · obtain ⟨g, e, hg, hk⟩ := h.b hl
    exact ⟨g, e, hg, hk.keep hb⟩
  · obtain ⟨g, e, hg, hk⟩ := h.b hl
    rw [e]
    intro e2
    have := hk.lt
    simp only [Value.pointer.injEq, Option.some.injEq, Addr.mk.injEq] at e2
    omega
theorem TwoN.store {W1 : World} {cs ds : List Value} {lb ld : Bool} {q : Value} {w : World} {g : Nat} (h : TwoN W1 cs ds true lb false ld (.pointer (some ⟨g, 0, none⟩)) q w) : TwoN W1 cs ds true lb true ld (.pointer (some ⟨g, 0, none⟩)) q (w.setRow g cs.toArray) := by
  obtain ⟨g1, e1, hg1, hk1⟩ := h.a rfl
  simp only [Value.pointer.injEq, Option.some.injEq, Addr.mk.injEq, and_true] at e1
  subst e1
  refine ⟨below_row h.bel hg1 _, fun _ => ⟨_, rfl, hg1, setRow_heap _ _ _ _ _ (0, 0) hk1⟩, fun hl => ?_, fun _ hl => h.ne rfl hl, fun _ => rfl, h.db⟩
  obtain ⟨g2, e2, hg2, hk2⟩ := h.b hl
  refine ⟨g2, e2, hg2, (setRow_other w g g2 _ ?_).trans hk2⟩
  rintro rfl
  exact h.ne rfl hl e2.symm
theorem wp_allocN {o : Oper} {a : Act} {w : World} {K : Act → World → Prop} {Q : Exit → Act → World → Prop} (ho : o.op = .alloc 49) (h : K (a.put o.dst (.pointer (some ⟨w.heap.size, 0, none⟩))) (w.alloc (.cells nvZ.cells.toArray 49))) : o.wp Try.prog a w K Q := by
  unfold Oper.wp
  have e : (execOp a.eval o).run Try.prog w = .ok (.value (.pointer (some ⟨w.heap.size, 0, none⟩))) (w.alloc (.cells nvZ.cells.toArray 49)) := by
    unfold execOp
    simp only [ho]
    kernel_rfl
  rw [e]
  exact h
theorem wp_indexNo {o : Oper} {a : Act} {w : World} {K : Act → World → Prop} {Q : Exit → Act → World → Prop} (x y : Operand) (ho : o.op = .indexAddr 22 x y) (gn og n c j : Nat) (hx : a.eval x = .slice (some ⟨gn, og, none⟩) n c) (hy : a.eval y = .int .i64 (j : Int)) (hj : j < n) (h : K (a.put o.dst (.pointer (some ⟨gn, og + j * 18, none⟩))) w) : o.wp Try.prog a w K Q := by
  unfold Oper.wp
  have hj' : (j : Int) < (n : Int) := by omega
  have e : (execOp a.eval o).run Try.prog w = .ok (.value (.pointer (some ⟨gn, og + j * 18, none⟩))) w := by
    unfold execOp
    simp only [ho, hx, hy]
    go_simp
  rw [e]
  exact h
theorem field_0P (g : Nat) (w : World) : (Instr.fieldAt 72 (.pointer (some ⟨g, 0, none⟩)) 0).run Try.prog w = .ok (.pointer (some ⟨g, 0, none⟩)) w := by kernel_rfl
theorem field_1P (g : Nat) (w : World) : (Instr.fieldAt 72 (.pointer (some ⟨g, 0, none⟩)) 1).run Try.prog w = .ok (.pointer (some ⟨g, 2, none⟩)) w := by kernel_rfl
theorem field_2S (g : Nat) (w : World) : (Instr.fieldAt 25 (.pointer (some ⟨g, 2, none⟩)) 0).run Try.prog w = .ok (.pointer (some ⟨g, 2, none⟩)) w := by kernel_rfl
def sm4Ops : Array Oper := #[{ dst := some 40, op := Op.move (Operand.tmp 0), type := 97, pos := "spec.go:134", after := #[], guard := none }, { dst := some 41, op := Op.nilCheck (Operand.tmp 40), type := 0, pos := "spec.go:134", after := #[{ on := 0, ground := Ground.data }], guard := none }, { dst := some 42, op := Op.fieldAddr 72 (Operand.tmp 41) 0, type := 0, pos := "spec.go:134", after := #[{ on := 1, ground := Ground.data }], guard := none }, { dst := some 43, op := Op.fieldAddr 25 (Operand.tmp 42) 0, type := 0, pos := "spec.go:134", after := #[{ on := 2, ground := Ground.data }], guard := none }, { dst := some 44, op := Op.load 22 (Operand.tmp 43), type := 22, pos := "spec.go:134", after := #[{ on := 3, ground := Ground.data }], guard := none }, { dst := some 45, op := Op.move (Operand.tmp 1), type := 3, pos := "spec.go:134", after := #[], guard := none }, { dst := some 46, op := Op.indexAddr 22 (Operand.tmp 44) (Operand.tmp 45), type := 0, pos := "spec.go:134", after := #[{ on := 4, ground := Ground.data }, { on := 5, ground := Ground.data }], guard := none }, { dst := some 47, op := Op.load 49 (Operand.tmp 46), type := 49, pos := "spec.go:134", after := #[{ on := 6, ground := Ground.data }], guard := none }, { dst := some 48, op := Op.move (Operand.tmp 0), type := 97, pos := "spec.go:134", after := #[{ on := 18, ground := Ground.gcOnly Departure.lateStores }], guard := none }, { dst := some 49, op := Op.nilCheck (Operand.tmp 48), type := 0, pos := "spec.go:134", after := #[{ on := 8, ground := Ground.data }, { on := 18, ground := Ground.gcOnly Departure.lateStores }], guard := none }, { dst := some 50, op := Op.fieldAddr 72 (Operand.tmp 49) 1, type := 0, pos := "spec.go:134", after := #[{ on := 9, ground := Ground.data }, { on := 18, ground := Ground.gcOnly Departure.lateStores }], guard := none }, { dst := some 51, op := Op.fieldAddr 25 (Operand.tmp 50) 0, type := 0, pos := "spec.go:134", after := #[{ on := 10, ground := Ground.data }, { on := 18, ground := Ground.gcOnly Departure.lateStores }], guard := none }, { dst := some 52, op := Op.load 22 (Operand.tmp 51), type := 22, pos := "spec.go:134", after := #[{ on := 11, ground := Ground.data }, { on := 18, ground := Ground.gcOnly Departure.lateStores }], guard := none }, { dst := some 53, op := Op.move (Operand.tmp 2), type := 3, pos := "spec.go:134", after := #[{ on := 18, ground := Ground.gcOnly Departure.lateStores }], guard := none }, { dst := some 54, op := Op.indexAddr 22 (Operand.tmp 52) (Operand.tmp 53), type := 0, pos := "spec.go:134", after := #[{ on := 12, ground := Ground.data }, { on := 13, ground := Ground.data }, { on := 18, ground := Ground.gcOnly Departure.lateStores }], guard := none }, { dst := some 55, op := Op.load 49 (Operand.tmp 54), type := 49, pos := "spec.go:134", after := #[{ on := 14, ground := Ground.data }, { on := 18, ground := Ground.gcOnly Departure.lateStores }], guard := none }, { dst := some 7, op := Op.alloc 49, type := 0, pos := "spec.go:134", after := #[], guard := none }, { dst := some 8, op := Op.alloc 49, type := 0, pos := "spec.go:134", after := #[], guard := none }, { dst := none, op := Op.store 49 (Operand.tmp 7) (Operand.tmp 47), type := 0, pos := "spec.go:134", after := #[{ on := 16, ground := Ground.data }, { on := 7, ground := Ground.data }, { on := 0, ground := Ground.phase }, { on := 1, ground := Ground.phase }, { on := 2, ground := Ground.phase }, { on := 3, ground := Ground.phase }, { on := 4, ground := Ground.phase }, { on := 5, ground := Ground.phase }, { on := 6, ground := Ground.phase }, { on := 7, ground := Ground.phase }, { on := 8, ground := Ground.textOnly Departure.lateStores }, { on := 9, ground := Ground.textOnly Departure.lateStores }, { on := 10, ground := Ground.textOnly Departure.lateStores }, { on := 11, ground := Ground.textOnly Departure.lateStores }, { on := 12, ground := Ground.textOnly Departure.lateStores }, { on := 13, ground := Ground.textOnly Departure.lateStores }, { on := 14, ground := Ground.textOnly Departure.lateStores }, { on := 15, ground := Ground.textOnly Departure.lateStores }, { on := 16, ground := Ground.phase }, { on := 17, ground := Ground.phase }], guard := none }, { dst := none, op := Op.store 49 (Operand.tmp 8) (Operand.tmp 55), type := 0, pos := "spec.go:134", after := #[{ on := 17, ground := Ground.data }, { on := 15, ground := Ground.data }, { on := 18, ground := Ground.chain }, { on := 0, ground := Ground.phase }, { on := 1, ground := Ground.phase }, { on := 2, ground := Ground.phase }, { on := 3, ground := Ground.phase }, { on := 4, ground := Ground.phase }, { on := 5, ground := Ground.phase }, { on := 6, ground := Ground.phase }, { on := 7, ground := Ground.phase }, { on := 8, ground := Ground.phase }, { on := 9, ground := Ground.phase }, { on := 10, ground := Ground.phase }, { on := 11, ground := Ground.phase }, { on := 12, ground := Ground.phase }, { on := 13, ground := Ground.phase }, { on := 14, ground := Ground.phase }, { on := 15, ground := Ground.phase }, { on := 16, ground := Ground.phase }, { on := 17, ground := Ground.phase }, { on := 18, ground := Ground.phase }], guard := none }]
def sm4Dep : Nat → List Nat := fun i => match i with | 1 => [0] | 2 => [1] | 3 => [2] | 4 => [3] | 6 => [4, 5] | 7 => [6] | 9 => [8] | 10 => [9] | 11 => [10] | 12 => [11] | 14 => [12, 13] | 15 => [14] | 18 => [16, 7] | 19 => [17, 15, 18] | _ => []
structure sm4C (gp : Nat) (bA : Nat) (oA : Nat) (cA : Nat) (bB : Nat) (oB : Nat) (cB : Nat) (n : Nat) (x : Nat) (cs : List Value) (ds : List Value) (W1 : World) (L : Nat → Bool) (f : Nat → Value) (w : World) : Prop where
  v0 : L 0 = true → f 40 = .pointer (some ⟨gp, 0, none⟩)
  v1 : L 1 = true → f 41 = .pointer (some ⟨gp, 0, none⟩)
  v2 : L 2 = true → f 42 = .pointer (some ⟨gp, 0, none⟩)
  v3 : L 3 = true → f 43 = .pointer (some ⟨gp, 0, none⟩)
  v4 : L 4 = true → f 44 = .slice (some ⟨bA, oA, none⟩) n cA
  v5 : L 5 = true → f 45 = .int .i64 (x : Int)
  v6 : L 6 = true → f 46 = .pointer (some ⟨bA, oA + x * 18, none⟩)
  v7 : L 7 = true → f 47 = .agg cs.toArray
  v8 : L 8 = true → f 48 = .pointer (some ⟨gp, 0, none⟩)
  v9 : L 9 = true → f 49 = .pointer (some ⟨gp, 0, none⟩)
  v10 : L 10 = true → f 50 = .pointer (some ⟨gp, 2, none⟩)
  v11 : L 11 = true → f 51 = .pointer (some ⟨gp, 2, none⟩)
  v12 : L 12 = true → f 52 = .slice (some ⟨bB, oB, none⟩) n cB
  v13 : L 13 = true → f 53 = .int .i64 (x : Int)
  v14 : L 14 = true → f 54 = .pointer (some ⟨bB, oB + x * 18, none⟩)
  v15 : L 15 = true → f 55 = .agg ds.toArray
  tw : TwoN W1 cs ds (L 16) (L 17) (L 18) (L 19) (f 7) (f 8) w
theorem sm4_0 {gp : Nat} {bA : Nat} {oA : Nat} {cA : Nat} {bB : Nat} {oB : Nat} {cB : Nat} {n : Nat} {x : Nat} {cs : List Value} {ds : List Value} {W1 : World} {L : Nat → Bool} {f : Nat → Value} {w : World} (h : sm4C gp bA oA cA bB oB cB n x cs ds W1 L f w) : sm4C gp bA oA cA bB oB cB n x cs ds W1 (fun k => if k = 0 then true else L k) (fun t => if (some 40 : Option Nat) = some t then (.pointer (some ⟨gp, 0, none⟩)) else f t) w where
  v0 := fun _ => by simp
  v1 := by simpa using h.v1
  v2 := by simpa using h.v2
  v3 := by simpa using h.v3
  v4 := by simpa using h.v4
  v5 := by simpa using h.v5
  v6 := by simpa using h.v6
  v7 := by simpa using h.v7
  v8 := by simpa using h.v8
  v9 := by simpa using h.v9
  v10 := by simpa using h.v10
  v11 := by simpa using h.v11
  v12 := by simpa using h.v12
  v13 := by simpa using h.v13
  v14 := by simpa using h.v14
  v15 := by simpa using h.v15
  tw := by simpa using h.tw
theorem sm4_1 {gp : Nat} {bA : Nat} {oA : Nat} {cA : Nat} {bB : Nat} {oB : Nat} {cB : Nat} {n : Nat} {x : Nat} {cs : List Value} {ds : List Value} {W1 : World} {L : Nat → Bool} {f : Nat → Value} {w : World} (h : sm4C gp bA oA cA bB oB cB n x cs ds W1 L f w) : sm4C gp bA oA cA bB oB cB n x cs ds W1 (fun k => if k = 1 then true else L k) (fun t => if (some 41 : Option Nat) = some t then (.pointer (some ⟨gp, 0, none⟩)) else f t) w where
  v0 := by simpa using h.v0
  v1 := fun _ => by simp
  v2 := by simpa using h.v2
  v3 := by simpa using h.v3
  v4 := by simpa using h.v4
  v5 := by simpa using h.v5
  v6 := by simpa using h.v6
  v7 := by simpa using h.v7
  v8 := by simpa using h.v8
  v9 := by simpa using h.v9
  v10 := by simpa using h.v10
  v11 := by simpa using h.v11
  v12 := by simpa using h.v12
  v13 := by simpa using h.v13
  v14 := by simpa using h.v14
  v15 := by simpa using h.v15
  tw := by simpa using h.tw
theorem sm4_2 {gp : Nat} {bA : Nat} {oA : Nat} {cA : Nat} {bB : Nat} {oB : Nat} {cB : Nat} {n : Nat} {x : Nat} {cs : List Value} {ds : List Value} {W1 : World} {L : Nat → Bool} {f : Nat → Value} {w : World} (h : sm4C gp bA oA cA bB oB cB n x cs ds W1 L f w) : sm4C gp bA oA cA bB oB cB n x cs ds W1 (fun k => if k = 2 then true else L k) (fun t => if (some 42 : Option Nat) = some t then (.pointer (some ⟨gp, 0, none⟩)) else f t) w where
  v0 := by simpa using h.v0
  v1 := by simpa using h.v1
  v2 := fun _ => by simp
  v3 := by simpa using h.v3
  v4 := by simpa using h.v4
  v5 := by simpa using h.v5
  v6 := by simpa using h.v6
  v7 := by simpa using h.v7
  v8 := by simpa using h.v8
  v9 := by simpa using h.v9
  v10 := by simpa using h.v10
  v11 := by simpa using h.v11
  v12 := by simpa using h.v12
  v13 := by simpa using h.v13
  v14 := by simpa using h.v14
  v15 := by simpa using h.v15
  tw := by simpa using h.tw
theorem sm4_3 {gp : Nat} {bA : Nat} {oA : Nat} {cA : Nat} {bB : Nat} {oB : Nat} {cB : Nat} {n : Nat} {x : Nat} {cs : List Value} {ds : List Value} {W1 : World} {L : Nat → Bool} {f : Nat → Value} {w : World} (h : sm4C gp bA oA cA bB oB cB n x cs ds W1 L f w) : sm4C gp bA oA cA bB oB cB n x cs ds W1 (fun k => if k = 3 then true else L k) (fun t => if (some 43 : Option Nat) = some t then (.pointer (some ⟨gp, 0, none⟩)) else f t) w where
  v0 := by simpa using h.v0
  v1 := by simpa using h.v1
  v2 := by simpa using h.v2
  v3 := fun _ => by simp
  v4 := by simpa using h.v4
  v5 := by simpa using h.v5
  v6 := by simpa using h.v6
  v7 := by simpa using h.v7
  v8 := by simpa using h.v8
  v9 := by simpa using h.v9
  v10 := by simpa using h.v10
  v11 := by simpa using h.v11
  v12 := by simpa using h.v12
  v13 := by simpa using h.v13
  v14 := by simpa using h.v14
  v15 := by simpa using h.v15
  tw := by simpa using h.tw
theorem sm4_4 {gp : Nat} {bA : Nat} {oA : Nat} {cA : Nat} {bB : Nat} {oB : Nat} {cB : Nat} {n : Nat} {x : Nat} {cs : List Value} {ds : List Value} {W1 : World} {L : Nat → Bool} {f : Nat → Value} {w : World} (h : sm4C gp bA oA cA bB oB cB n x cs ds W1 L f w) : sm4C gp bA oA cA bB oB cB n x cs ds W1 (fun k => if k = 4 then true else L k) (fun t => if (some 44 : Option Nat) = some t then (.slice (some ⟨bA, oA, none⟩) n cA) else f t) w where
  v0 := by simpa using h.v0
  v1 := by simpa using h.v1
  v2 := by simpa using h.v2
  v3 := by simpa using h.v3
  v4 := fun _ => by simp
  v5 := by simpa using h.v5
  v6 := by simpa using h.v6
  v7 := by simpa using h.v7
  v8 := by simpa using h.v8
  v9 := by simpa using h.v9
  v10 := by simpa using h.v10
  v11 := by simpa using h.v11
  v12 := by simpa using h.v12
  v13 := by simpa using h.v13
  v14 := by simpa using h.v14
  v15 := by simpa using h.v15
  tw := by simpa using h.tw
theorem sm4_5 {gp : Nat} {bA : Nat} {oA : Nat} {cA : Nat} {bB : Nat} {oB : Nat} {cB : Nat} {n : Nat} {x : Nat} {cs : List Value} {ds : List Value} {W1 : World} {L : Nat → Bool} {f : Nat → Value} {w : World} (h : sm4C gp bA oA cA bB oB cB n x cs ds W1 L f w) : sm4C gp bA oA cA bB oB cB n x cs ds W1 (fun k => if k = 5 then true else L k) (fun t => if (some 45 : Option Nat) = some t then (.int .i64 (x : Int)) else f t) w where
  v0 := by simpa using h.v0
  v1 := by simpa using h.v1
  v2 := by simpa using h.v2
  v3 := by simpa using h.v3
  v4 := by simpa using h.v4
  v5 := fun _ => by simp
  v6 := by simpa using h.v6
  v7 := by simpa using h.v7
  v8 := by simpa using h.v8
  v9 := by simpa using h.v9
  v10 := by simpa using h.v10
  v11 := by simpa using h.v11
  v12 := by simpa using h.v12
  v13 := by simpa using h.v13
  v14 := by simpa using h.v14
  v15 := by simpa using h.v15
  tw := by simpa using h.tw
theorem sm4_6 {gp : Nat} {bA : Nat} {oA : Nat} {cA : Nat} {bB : Nat} {oB : Nat} {cB : Nat} {n : Nat} {x : Nat} {cs : List Value} {ds : List Value} {W1 : World} {L : Nat → Bool} {f : Nat → Value} {w : World} (h : sm4C gp bA oA cA bB oB cB n x cs ds W1 L f w) : sm4C gp bA oA cA bB oB cB n x cs ds W1 (fun k => if k = 6 then true else L k) (fun t => if (some 46 : Option Nat) = some t then (.pointer (some ⟨bA, oA + x * 18, none⟩)) else f t) w where
  v0 := by simpa using h.v0
  v1 := by simpa using h.v1
  v2 := by simpa using h.v2
  v3 := by simpa using h.v3
  v4 := by simpa using h.v4
  v5 := by simpa using h.v5
  v6 := fun _ => by simp
  v7 := by simpa using h.v7
  v8 := by simpa using h.v8
  v9 := by simpa using h.v9
  v10 := by simpa using h.v10
  v11 := by simpa using h.v11
  v12 := by simpa using h.v12
  v13 := by simpa using h.v13
  v14 := by simpa using h.v14
  v15 := by simpa using h.v15
  tw := by simpa using h.tw
theorem sm4_7 {gp : Nat} {bA : Nat} {oA : Nat} {cA : Nat} {bB : Nat} {oB : Nat} {cB : Nat} {n : Nat} {x : Nat} {cs : List Value} {ds : List Value} {W1 : World} {L : Nat → Bool} {f : Nat → Value} {w : World} (h : sm4C gp bA oA cA bB oB cB n x cs ds W1 L f w) : sm4C gp bA oA cA bB oB cB n x cs ds W1 (fun k => if k = 7 then true else L k) (fun t => if (some 47 : Option Nat) = some t then (.agg cs.toArray) else f t) w where
  v0 := by simpa using h.v0
  v1 := by simpa using h.v1
  v2 := by simpa using h.v2
  v3 := by simpa using h.v3
  v4 := by simpa using h.v4
  v5 := by simpa using h.v5
  v6 := by simpa using h.v6
  v7 := fun _ => by simp
  v8 := by simpa using h.v8
  v9 := by simpa using h.v9
  v10 := by simpa using h.v10
  v11 := by simpa using h.v11
  v12 := by simpa using h.v12
  v13 := by simpa using h.v13
  v14 := by simpa using h.v14
  v15 := by simpa using h.v15
  tw := by simpa using h.tw
theorem sm4_8 {gp : Nat} {bA : Nat} {oA : Nat} {cA : Nat} {bB : Nat} {oB : Nat} {cB : Nat} {n : Nat} {x : Nat} {cs : List Value} {ds : List Value} {W1 : World} {L : Nat → Bool} {f : Nat → Value} {w : World} (h : sm4C gp bA oA cA bB oB cB n x cs ds W1 L f w) : sm4C gp bA oA cA bB oB cB n x cs ds W1 (fun k => if k = 8 then true else L k) (fun t => if (some 48 : Option Nat) = some t then (.pointer (some ⟨gp, 0, none⟩)) else f t) w where
  v0 := by simpa using h.v0
  v1 := by simpa using h.v1
  v2 := by simpa using h.v2
  v3 := by simpa using h.v3
  v4 := by simpa using h.v4
  v5 := by simpa using h.v5
  v6 := by simpa using h.v6
  v7 := by simpa using h.v7
  v8 := fun _ => by simp
  v9 := by simpa using h.v9
  v10 := by simpa using h.v10
  v11 := by simpa using h.v11
  v12 := by simpa using h.v12
  v13 := by simpa using h.v13
  v14 := by simpa using h.v14
  v15 := by simpa using h.v15
  tw := by simpa using h.tw
theorem sm4_9 {gp : Nat} {bA : Nat} {oA : Nat} {cA : Nat} {bB : Nat} {oB : Nat} {cB : Nat} {n : Nat} {x : Nat} {cs : List Value} {ds : List Value} {W1 : World} {L : Nat → Bool} {f : Nat → Value} {w : World} (h : sm4C gp bA oA cA bB oB cB n x cs ds W1 L f w) : sm4C gp bA oA cA bB oB cB n x cs ds W1 (fun k => if k = 9 then true else L k) (fun t => if (some 49 : Option Nat) = some t then (.pointer (some ⟨gp, 0, none⟩)) else f t) w where
  v0 := by simpa using h.v0
  v1 := by simpa using h.v1
  v2 := by simpa using h.v2
  v3 := by simpa using h.v3
  v4 := by simpa using h.v4
  v5 := by simpa using h.v5
  v6 := by simpa using h.v6
  v7 := by simpa using h.v7
  v8 := by simpa using h.v8
  v9 := fun _ => by simp
  v10 := by simpa using h.v10
  v11 := by simpa using h.v11
  v12 := by simpa using h.v12
  v13 := by simpa using h.v13
  v14 := by simpa using h.v14
  v15 := by simpa using h.v15
  tw := by simpa using h.tw
theorem sm4_10 {gp : Nat} {bA : Nat} {oA : Nat} {cA : Nat} {bB : Nat} {oB : Nat} {cB : Nat} {n : Nat} {x : Nat} {cs : List Value} {ds : List Value} {W1 : World} {L : Nat → Bool} {f : Nat → Value} {w : World} (h : sm4C gp bA oA cA bB oB cB n x cs ds W1 L f w) : sm4C gp bA oA cA bB oB cB n x cs ds W1 (fun k => if k = 10 then true else L k) (fun t => if (some 50 : Option Nat) = some t then (.pointer (some ⟨gp, 2, none⟩)) else f t) w where
  v0 := by simpa using h.v0
  v1 := by simpa using h.v1
  v2 := by simpa using h.v2
  v3 := by simpa using h.v3
  v4 := by simpa using h.v4
  v5 := by simpa using h.v5
  v6 := by simpa using h.v6
  v7 := by simpa using h.v7
  v8 := by simpa using h.v8
  v9 := by simpa using h.v9
  v10 := fun _ => by simp
  v11 := by simpa using h.v11
  v12 := by simpa using h.v12
  v13 := by simpa using h.v13
  v14 := by simpa using h.v14
  v15 := by simpa using h.v15
  tw := by simpa using h.tw
theorem sm4_11 {gp : Nat} {bA : Nat} {oA : Nat} {cA : Nat} {bB : Nat} {oB : Nat} {cB : Nat} {n : Nat} {x : Nat} {cs : List Value} {ds : List Value} {W1 : World} {L : Nat → Bool} {f : Nat → Value} {w : World} (h : sm4C gp bA oA cA bB oB cB n x cs ds W1 L f w) : sm4C gp bA oA cA bB oB cB n x cs ds W1 (fun k => if k = 11 then true else L k) (fun t => if (some 51 : Option Nat) = some t then (.pointer (some ⟨gp, 2, none⟩)) else f t) w where
  v0 := by simpa using h.v0
  v1 := by simpa using h.v1
  v2 := by simpa using h.v2
  v3 := by simpa using h.v3
  v4 := by simpa using h.v4
  v5 := by simpa using h.v5
  v6 := by simpa using h.v6
  v7 := by simpa using h.v7
  v8 := by simpa using h.v8
  v9 := by simpa using h.v9
  v10 := by simpa using h.v10
  v11 := fun _ => by simp
  v12 := by simpa using h.v12
  v13 := by simpa using h.v13
  v14 := by simpa using h.v14
  v15 := by simpa using h.v15
  tw := by simpa using h.tw
theorem sm4_12 {gp : Nat} {bA : Nat} {oA : Nat} {cA : Nat} {bB : Nat} {oB : Nat} {cB : Nat} {n : Nat} {x : Nat} {cs : List Value} {ds : List Value} {W1 : World} {L : Nat → Bool} {f : Nat → Value} {w : World} (h : sm4C gp bA oA cA bB oB cB n x cs ds W1 L f w) : sm4C gp bA oA cA bB oB cB n x cs ds W1 (fun k => if k = 12 then true else L k) (fun t => if (some 52 : Option Nat) = some t then (.slice (some ⟨bB, oB, none⟩) n cB) else f t) w where
  v0 := by simpa using h.v0
  v1 := by simpa using h.v1
  v2 := by simpa using h.v2
  v3 := by simpa using h.v3
  v4 := by simpa using h.v4
  v5 := by simpa using h.v5
  v6 := by simpa using h.v6
  v7 := by simpa using h.v7
  v8 := by simpa using h.v8
  v9 := by simpa using h.v9
  v10 := by simpa using h.v10
  v11 := by simpa using h.v11
  v12 := fun _ => by simp
  v13 := by simpa using h.v13
  v14 := by simpa using h.v14
  v15 := by simpa using h.v15
  tw := by simpa using h.tw
theorem sm4_13 {gp : Nat} {bA : Nat} {oA : Nat} {cA : Nat} {bB : Nat} {oB : Nat} {cB : Nat} {n : Nat} {x : Nat} {cs : List Value} {ds : List Value} {W1 : World} {L : Nat → Bool} {f : Nat → Value} {w : World} (h : sm4C gp bA oA cA bB oB cB n x cs ds W1 L f w) : sm4C gp bA oA cA bB oB cB n x cs ds W1 (fun k => if k = 13 then true else L k) (fun t => if (some 53 : Option Nat) = some t then (.int .i64 (x : Int)) else f t) w where
  v0 := by simpa using h.v0
  v1 := by simpa using h.v1
  v2 := by simpa using h.v2
  v3 := by simpa using h.v3
  v4 := by simpa using h.v4
  v5 := by simpa using h.v5
  v6 := by simpa using h.v6
  v7 := by simpa using h.v7
  v8 := by simpa using h.v8
  v9 := by simpa using h.v9
  v10 := by simpa using h.v10
  v11 := by simpa using h.v11
  v12 := by simpa using h.v12
  v13 := fun _ => by simp
  v14 := by simpa using h.v14
  v15 := by simpa using h.v15
  tw := by simpa using h.tw
theorem sm4_14 {gp : Nat} {bA : Nat} {oA : Nat} {cA : Nat} {bB : Nat} {oB : Nat} {cB : Nat} {n : Nat} {x : Nat} {cs : List Value} {ds : List Value} {W1 : World} {L : Nat → Bool} {f : Nat → Value} {w : World} (h : sm4C gp bA oA cA bB oB cB n x cs ds W1 L f w) : sm4C gp bA oA cA bB oB cB n x cs ds W1 (fun k => if k = 14 then true else L k) (fun t => if (some 54 : Option Nat) = some t then (.pointer (some ⟨bB, oB + x * 18, none⟩)) else f t) w where
  v0 := by simpa using h.v0
  v1 := by simpa using h.v1
  v2 := by simpa using h.v2
  v3 := by simpa using h.v3
  v4 := by simpa using h.v4
  v5 := by simpa using h.v5
  v6 := by simpa using h.v6
  v7 := by simpa using h.v7
  v8 := by simpa using h.v8
  v9 := by simpa using h.v9
  v10 := by simpa using h.v10
  v11 := by simpa using h.v11
  v12 := by simpa using h.v12
  v13 := by simpa using h.v13
  v14 := fun _ => by simp
  v15 := by simpa using h.v15
  tw := by simpa using h.tw
theorem sm4_15 {gp : Nat} {bA : Nat} {oA : Nat} {cA : Nat} {bB : Nat} {oB : Nat} {cB : Nat} {n : Nat} {x : Nat} {cs : List Value} {ds : List Value} {W1 : World} {L : Nat → Bool} {f : Nat → Value} {w : World} (h : sm4C gp bA oA cA bB oB cB n x cs ds W1 L f w) : sm4C gp bA oA cA bB oB cB n x cs ds W1 (fun k => if k = 15 then true else L k) (fun t => if (some 55 : Option Nat) = some t then (.agg ds.toArray) else f t) w where
  v0 := by simpa using h.v0
  v1 := by simpa using h.v1
  v2 := by simpa using h.v2
  v3 := by simpa using h.v3
  v4 := by simpa using h.v4
  v5 := by simpa using h.v5
  v6 := by simpa using h.v6
  v7 := by simpa using h.v7
  v8 := by simpa using h.v8
  v9 := by simpa using h.v9
  v10 := by simpa using h.v10
  v11 := by simpa using h.v11
  v12 := by simpa using h.v12
  v13 := by simpa using h.v13
  v14 := by simpa using h.v14
  v15 := fun _ => by simp
  tw := by simpa using h.tw
theorem sm4_16 {gp : Nat} {bA : Nat} {oA : Nat} {cA : Nat} {bB : Nat} {oB : Nat} {cB : Nat} {n : Nat} {x : Nat} {cs : List Value} {ds : List Value} {W1 : World} {L : Nat → Bool} {f : Nat → Value} {w : World} (h : sm4C gp bA oA cA bB oB cB n x cs ds W1 L f w) (hl : L 16 = false) : sm4C gp bA oA cA bB oB cB n x cs ds W1 (fun k => if k = 16 then true else L k) (fun t => if (some 7 : Option Nat) = some t then .pointer (some ⟨w.heap.size, 0, none⟩) else f t) (w.alloc (.cells nvZ.cells.toArray 49)) where
  v0 := by simpa using h.v0
  v1 := by simpa using h.v1
  v2 := by simpa using h.v2
  v3 := by simpa using h.v3
  v4 := by simpa using h.v4
  v5 := by simpa using h.v5
  v6 := by simpa using h.v6
  v7 := by simpa using h.v7
  v8 := by simpa using h.v8
  v9 := by simpa using h.v9
  v10 := by simpa using h.v10
  v11 := by simpa using h.v11
  v12 := by simpa using h.v12
  v13 := by simpa using h.v13
  v14 := by simpa using h.v14
  v15 := by simpa using h.v15
  tw := by
    have ht := h.tw
    rw [hl] at ht
    simpa using ht.alloc
theorem sm4_17 {gp : Nat} {bA : Nat} {oA : Nat} {cA : Nat} {bB : Nat} {oB : Nat} {cB : Nat} {n : Nat} {x : Nat} {cs : List Value} {ds : List Value} {W1 : World} {L : Nat → Bool} {f : Nat → Value} {w : World} (h : sm4C gp bA oA cA bB oB cB n x cs ds W1 L f w) (hl : L 17 = false) : sm4C gp bA oA cA bB oB cB n x cs ds W1 (fun k => if k = 17 then true else L k) (fun t => if (some 8 : Option Nat) = some t then .pointer (some ⟨w.heap.size, 0, none⟩) else f t) (w.alloc (.cells nvZ.cells.toArray 49)) where
  v0 := by simpa using h.v0
  v1 := by simpa using h.v1
  v2 := by simpa using h.v2
  v3 := by simpa using h.v3
  v4 := by simpa using h.v4
  v5 := by simpa using h.v5
  v6 := by simpa using h.v6
  v7 := by simpa using h.v7
  v8 := by simpa using h.v8
  v9 := by simpa using h.v9
  v10 := by simpa using h.v10
  v11 := by simpa using h.v11
  v12 := by simpa using h.v12
  v13 := by simpa using h.v13
  v14 := by simpa using h.v14
  v15 := by simpa using h.v15
  tw := by
    have ht := h.tw
    rw [hl] at ht
    simpa using ht.swap.alloc.swap
theorem sm4_18 {gp : Nat} {bA : Nat} {oA : Nat} {cA : Nat} {bB : Nat} {oB : Nat} {cB : Nat} {n : Nat} {x : Nat} {cs : List Value} {ds : List Value} {W1 : World} {L : Nat → Bool} {f : Nat → Value} {w : World} {g : Nat} (h : sm4C gp bA oA cA bB oB cB n x cs ds W1 L f w) (hl : L 18 = false) (hl2 : L 16 = true) (hf : f 7 = .pointer (some ⟨g, 0, none⟩)) : sm4C gp bA oA cA bB oB cB n x cs ds W1 (fun k => if k = 18 then true else L k) (fun t => if (none : Option Nat) = some t then undef else f t) (w.setRow g cs.toArray) where
  v0 := by simpa using h.v0
  v1 := by simpa using h.v1
  v2 := by simpa using h.v2
  v3 := by simpa using h.v3
  v4 := by simpa using h.v4
  v5 := by simpa using h.v5
  v6 := by simpa using h.v6
  v7 := by simpa using h.v7
  v8 := by simpa using h.v8
  v9 := by simpa using h.v9
  v10 := by simpa using h.v10
  v11 := by simpa using h.v11
  v12 := by simpa using h.v12
  v13 := by simpa using h.v13
  v14 := by simpa using h.v14
  v15 := by simpa using h.v15
  tw := by
    have ht := h.tw
    rw [hl, hl2, hf] at ht
    simpa [hl2, hf] using ht.store
theorem sm4_19 {gp : Nat} {bA : Nat} {oA : Nat} {cA : Nat} {bB : Nat} {oB : Nat} {cB : Nat} {n : Nat} {x : Nat} {cs : List Value} {ds : List Value} {W1 : World} {L : Nat → Bool} {f : Nat → Value} {w : World} {g : Nat} (h : sm4C gp bA oA cA bB oB cB n x cs ds W1 L f w) (hl : L 19 = false) (hl2 : L 17 = true) (hf : f 8 = .pointer (some ⟨g, 0, none⟩)) : sm4C gp bA oA cA bB oB cB n x cs ds W1 (fun k => if k = 19 then true else L k) (fun t => if (none : Option Nat) = some t then undef else f t) (w.setRow g ds.toArray) where
  v0 := by simpa using h.v0
  v1 := by simpa using h.v1
  v2 := by simpa using h.v2
  v3 := by simpa using h.v3
  v4 := by simpa using h.v4
  v5 := by simpa using h.v5
  v6 := by simpa using h.v6
  v7 := by simpa using h.v7
  v8 := by simpa using h.v8
  v9 := by simpa using h.v9
  v10 := by simpa using h.v10
  v11 := by simpa using h.v11
  v12 := by simpa using h.v12
  v13 := by simpa using h.v13
  v14 := by simpa using h.v14
  v15 := by simpa using h.v15
  tw := by
    have ht := h.tw
    rw [hl, hl2, hf] at ht
    simpa [hl2, hf] using ht.swap.store.swap
def sm4Us (f : Nat → Value) : List (Nat × Value) := [(40, f 40), (41, f 41), (42, f 42), (43, f 43), (44, f 44), (45, f 45), (46, f 46), (47, f 47), (48, f 48), (49, f 49), (50, f 50), (51, f 51), (52, f 52), (53, f 53), (54, f 54), (55, f 55), (7, f 7), (8, f 8)]
set_option maxRecDepth 10000 in
set_option maxHeartbeats 2000000 in
theorem sm4_reg {gp bA oA cA bB oB cB n x : Nat} {cs ds : List Value} {W : World} {A0 : Act} {Q : Exit → Act → World → Prop} {id : Nat} (a0 : Act.at A0 0 = .pointer (some ⟨gp, 0, none⟩)) (a1 : Act.at A0 1 = .int .i64 (x : Int)) (a2 : Act.at A0 2 = .int .i64 (x : Int)) (hsz : 56 ≤ A0.tmps.size) (hx : x < n) (hgp : gp < W.heap.size) (hbA : bA < W.heap.size) (hbB : bB < W.heap.size)
    (hA : W.cell? ⟨gp, 0, none⟩ = some (.slice (some ⟨bA, oA, none⟩) n cA)) (hB : W.cell? ⟨gp, 2, none⟩ = some (.slice (some ⟨bB, oB, none⟩) n cB)) (rA : W.rangeAt bA (oA + x * 18) cs) (rB : W.rangeAt bB (oB + x * 18) ds)
    (hscs : (Try.prog.info? 49).map (·.size) = some cs.length) (hsds : (Try.prog.info? 49).map (·.size) = some ds.length) (hlcs : cs.length = 18) (hlds : ds.length = 18) (hocs : cs.toArray.all (·.oneCell') = true) (hods : ds.toArray.all (·.oneCell') = true)
    (hk : ∀ (f : Nat → Value) w' g7 g8, f 7 = .pointer (some ⟨g7, 0, none⟩) → f 8 = .pointer (some ⟨g8, 0, none⟩) → Below W.heap.size W w' → W.heap.size ≤ g7 → W.heap.size ≤ g8 → Blk w' g7 49 cs → Blk w' g8 49 ds → Q .normal ⟨(sm4Us f).foldl (fun A p => A.setIfInBounds p.1 p.2) A0.tmps, A0.defers⟩ w') :
    (Code.region id sm4Ops true).wp Try.prog Q A0 W := by
  refine wp_region_fun (by kernel_rfl) (fun L f w => sm4C gp bA oA cA bB oB cB n x cs ds W.drew L f w) [40, 41, 42, 43, 44, 45, 46, 47, 48, 49, 50, 51, 52, 53, 54, 55, 7, 8] (wf_ops2 (by kernel_rfl)) (fun i o ho u hu => ?_) ?_ ?_ ?_
  · have := ops_dst [40, 41, 42, 43, 44, 45, 46, 47, 48, 49, 50, 51, 52, 53, 54, 55, 7, 8] 56 (by kernel_rfl) i o ho u hu
    exact ⟨this.1, Nat.lt_of_lt_of_le this.2 hsz⟩
  · have hs : sm4Ops.size = 20 := rfl
    rw [hs]
    constructor <;> first | exact (fun _ => rfl) | (intro h; simp at h) | exact ⟨Below.refl _ _, (fun h => by simp at h), (fun h => by simp at h), (fun h => by simp at h), (fun h => by simp at h), (fun h => by simp at h)⟩
  · rintro L i o ho hLi haf b w hf hc K hK
    have hdep := ops_deps sm4Dep (by kernel_rfl) ho haf
    clear haf
    have hs : sm4Ops.size = 20 := rfl
    have hlt : i < 20 := hs ▸ (Array.getElem?_eq_some_iff.1 ho).1
    have hcases : i = 0 ∨ i = 1 ∨ i = 2 ∨ i = 3 ∨ i = 4 ∨ i = 5 ∨ i = 6 ∨ i = 7 ∨ i = 8 ∨ i = 9 ∨ i = 10 ∨ i = 11 ∨ i = 12 ∨ i = 13 ∨ i = 14 ∨ i = 15 ∨ i = 16 ∨ i = 17 ∨ i = 18 ∨ i = 19 := by omega
    rcases hcases with rfl | rfl | rfl | rfl | rfl | rfl | rfl | rfl | rfl | rfl | rfl | rfl | rfl | rfl | rfl | rfl | rfl | rfl | rfl | rfl
    · have h1 : (sm4Ops[0]?).map (·.dst) = some (some 40) := by kernel_rfl
      have h2 : (sm4Ops[0]?).map (·.op) = some (.move (.tmp 0)) := by kernel_rfl
      rw [ho] at h1 h2
      replace h1 := Option.some.inj h1
      replace h2 := Option.some.inj h2
      simp only at h1 h2
      rw [h1] at hK
      refine wp_moveG _ h2 _ ((hf 0 (by decide)).trans a0) ?_
      rw [h1]
      exact hK _ _ (sm4_0 hc)
    · have h1 : (sm4Ops[1]?).map (·.dst) = some (some 41) := by kernel_rfl
      have h2 : (sm4Ops[1]?).map (·.op) = some (.nilCheck (.tmp 40)) := by kernel_rfl
      rw [ho] at h1 h2
      replace h1 := Option.some.inj h1
      replace h2 := Option.some.inj h2
      simp only at h1 h2
      rw [h1] at hK
      have l0 : L 0 = true := hdep 0 (by simp [sm4Dep])
      refine wp_nilG _ h2 _ (hc.v0 l0) ?_
      rw [h1]
      exact hK _ _ (sm4_1 hc)
    · have h1 : (sm4Ops[2]?).map (·.dst) = some (some 42) := by kernel_rfl
      have h2 : (sm4Ops[2]?).map (·.op) = some (.fieldAddr 72 (.tmp 41) 0) := by kernel_rfl
      rw [ho] at h1 h2
      replace h1 := Option.some.inj h1
      replace h2 := Option.some.inj h2
      simp only at h1 h2
      rw [h1] at hK
      have l1 : L 1 = true := hdep 1 (by simp [sm4Dep])
      refine wp_fieldG _ _ _ h2 _ _ (hc.v1 l1) (field_0P gp w) ?_
      rw [h1]
      exact hK _ _ (sm4_2 hc)
    · have h1 : (sm4Ops[3]?).map (·.dst) = some (some 43) := by kernel_rfl
      have h2 : (sm4Ops[3]?).map (·.op) = some (.fieldAddr 25 (.tmp 42) 0) := by kernel_rfl
      rw [ho] at h1 h2
      replace h1 := Option.some.inj h1
      replace h2 := Option.some.inj h2
      simp only at h1 h2
      rw [h1] at hK
      have l2 : L 2 = true := hdep 2 (by simp [sm4Dep])
      refine wp_fieldG _ _ _ h2 _ _ (hc.v2 l2) (field_0S gp w) ?_
      rw [h1]
      exact hK _ _ (sm4_3 hc)
    · have h1 : (sm4Ops[4]?).map (·.dst) = some (some 44) := by kernel_rfl
      have h2 : (sm4Ops[4]?).map (·.op) = some (.load 22 (.tmp 43)) := by kernel_rfl
      rw [ho] at h1 h2
      replace h1 := Option.some.inj h1
      replace h2 := Option.some.inj h2
      simp only at h1 h2
      rw [h1] at hK
      have l3 : L 3 = true := hdep 3 (by simp [sm4Dep])
      refine wp_loadG _ _ h2 _ _ (hc.v3 l3) (load_slN ((World.cell?_of_block (w := W) (hc.tw.bel.block gp hgp)).trans hA)) ?_
      rw [h1]
      exact hK _ _ (sm4_4 hc)
    · have h1 : (sm4Ops[5]?).map (·.dst) = some (some 45) := by kernel_rfl
      have h2 : (sm4Ops[5]?).map (·.op) = some (.move (.tmp 1)) := by kernel_rfl
      rw [ho] at h1 h2
      replace h1 := Option.some.inj h1
      replace h2 := Option.some.inj h2
      simp only at h1 h2
      rw [h1] at hK
      refine wp_moveG _ h2 _ ((hf 1 (by decide)).trans a1) ?_
      rw [h1]
      exact hK _ _ (sm4_5 hc)
    · have h1 : (sm4Ops[6]?).map (·.dst) = some (some 46) := by kernel_rfl
      have h2 : (sm4Ops[6]?).map (·.op) = some (.indexAddr 22 (.tmp 44) (.tmp 45)) := by kernel_rfl
      rw [ho] at h1 h2
      replace h1 := Option.some.inj h1
      replace h2 := Option.some.inj h2
      simp only at h1 h2
      rw [h1] at hK
      have l4 : L 4 = true := hdep 4 (by simp [sm4Dep])
      have l5 : L 5 = true := hdep 5 (by simp [sm4Dep])
      refine wp_indexNo _ _ h2 bA oA n _ x (hc.v4 l4) (hc.v5 l5) hx ?_
      rw [h1]
      exact hK _ _ (sm4_6 hc)
    · have h1 : (sm4Ops[7]?).map (·.dst) = some (some 47) := by kernel_rfl
      have h2 : (sm4Ops[7]?).map (·.op) = some (.load 49 (.tmp 46)) := by kernel_rfl
      rw [ho] at h1 h2
      replace h1 := Option.some.inj h1
      replace h2 := Option.some.inj h2
      simp only at h1 h2
      rw [h1] at hK
      have l6 : L 6 = true := hdep 6 (by simp [sm4Dep])
      refine wp_load_mid 49 _ h2 bA (oA + x * 18) (hc.v6 l6) cs _ (range_keep rA (hc.tw.bel.block bA hbA)) Try.underlying49 rfl hscs ?_
      rw [h1]
      exact hK _ _ (sm4_7 hc)
    · have h1 : (sm4Ops[8]?).map (·.dst) = some (some 48) := by kernel_rfl
      have h2 : (sm4Ops[8]?).map (·.op) = some (.move (.tmp 0)) := by kernel_rfl
      rw [ho] at h1 h2
      replace h1 := Option.some.inj h1
      replace h2 := Option.some.inj h2
      simp only at h1 h2
      rw [h1] at hK
      refine wp_moveG _ h2 _ ((hf 0 (by decide)).trans a0) ?_
      rw [h1]
      exact hK _ _ (sm4_8 hc)
    · have h1 : (sm4Ops[9]?).map (·.dst) = some (some 49) := by kernel_rfl
      have h2 : (sm4Ops[9]?).map (·.op) = some (.nilCheck (.tmp 48)) := by kernel_rfl
      rw [ho] at h1 h2
      replace h1 := Option.some.inj h1
      replace h2 := Option.some.inj h2
      simp only at h1 h2
      rw [h1] at hK
      have l8 : L 8 = true := hdep 8 (by simp [sm4Dep])
      refine wp_nilG _ h2 _ (hc.v8 l8) ?_
      rw [h1]
      exact hK _ _ (sm4_9 hc)
    · have h1 : (sm4Ops[10]?).map (·.dst) = some (some 50) := by kernel_rfl
      have h2 : (sm4Ops[10]?).map (·.op) = some (.fieldAddr 72 (.tmp 49) 1) := by kernel_rfl
      rw [ho] at h1 h2
      replace h1 := Option.some.inj h1
      replace h2 := Option.some.inj h2
      simp only at h1 h2
      rw [h1] at hK
      have l9 : L 9 = true := hdep 9 (by simp [sm4Dep])
      refine wp_fieldG _ _ _ h2 _ _ (hc.v9 l9) (field_1P gp w) ?_
      rw [h1]
      exact hK _ _ (sm4_10 hc)
    · have h1 : (sm4Ops[11]?).map (·.dst) = some (some 51) := by kernel_rfl
      have h2 : (sm4Ops[11]?).map (·.op) = some (.fieldAddr 25 (.tmp 50) 0) := by kernel_rfl
      rw [ho] at h1 h2
      replace h1 := Option.some.inj h1
      replace h2 := Option.some.inj h2
      simp only at h1 h2
      rw [h1] at hK
      have l10 : L 10 = true := hdep 10 (by simp [sm4Dep])
      refine wp_fieldG _ _ _ h2 _ _ (hc.v10 l10) (field_2S gp w) ?_
      rw [h1]
      exact hK _ _ (sm4_11 hc)
    · have h1 : (sm4Ops[12]?).map (·.dst) = some (some 52) := by kernel_rfl
      have h2 : (sm4Ops[12]?).map (·.op) = some (.load 22 (.tmp 51)) := by kernel_rfl
      rw [ho] at h1 h2
      replace h1 := Option.some.inj h1
      replace h2 := Option.some.inj h2
      simp only at h1 h2
      rw [h1] at hK
      have l11 : L 11 = true := hdep 11 (by simp [sm4Dep])
      refine wp_loadG _ _ h2 _ _ (hc.v11 l11) (load_slN ((World.cell?_of_block (w := W) (hc.tw.bel.block gp hgp)).trans hB)) ?_
      rw [h1]
      exact hK _ _ (sm4_12 hc)
    · have h1 : (sm4Ops[13]?).map (·.dst) = some (some 53) := by kernel_rfl
      have h2 : (sm4Ops[13]?).map (·.op) = some (.move (.tmp 2)) := by kernel_rfl
      rw [ho] at h1 h2
      replace h1 := Option.some.inj h1
      replace h2 := Option.some.inj h2
      simp only at h1 h2
      rw [h1] at hK
      refine wp_moveG _ h2 _ ((hf 2 (by decide)).trans a2) ?_
      rw [h1]
      exact hK _ _ (sm4_13 hc)
    · have h1 : (sm4Ops[14]?).map (·.dst) = some (some 54) := by kernel_rfl
      have h2 : (sm4Ops[14]?).map (·.op) = some (.indexAddr 22 (.tmp 52) (.tmp 53)) := by kernel_rfl
      rw [ho] at h1 h2
      replace h1 := Option.some.inj h1
      replace h2 := Option.some.inj h2
      simp only at h1 h2
      rw [h1] at hK
      have l12 : L 12 = true := hdep 12 (by simp [sm4Dep])
      have l13 : L 13 = true := hdep 13 (by simp [sm4Dep])
      refine wp_indexNo _ _ h2 bB oB n _ x (hc.v12 l12) (hc.v13 l13) hx ?_
      rw [h1]
      exact hK _ _ (sm4_14 hc)
    · have h1 : (sm4Ops[15]?).map (·.dst) = some (some 55) := by kernel_rfl
      have h2 : (sm4Ops[15]?).map (·.op) = some (.load 49 (.tmp 54)) := by kernel_rfl
      rw [ho] at h1 h2
      replace h1 := Option.some.inj h1
      replace h2 := Option.some.inj h2
      simp only at h1 h2
      rw [h1] at hK
      have l14 : L 14 = true := hdep 14 (by simp [sm4Dep])
      refine wp_load_mid 49 _ h2 bB (oB + x * 18) (hc.v14 l14) ds _ (range_keep rB (hc.tw.bel.block bB hbB)) Try.underlying49 rfl hsds ?_
      rw [h1]
      exact hK _ _ (sm4_15 hc)
    · have h1 : (sm4Ops[16]?).map (·.dst) = some (some 7) := by kernel_rfl
      have h2 : (sm4Ops[16]?).map (·.op) = some (.alloc 49) := by kernel_rfl
      rw [ho] at h1 h2
      replace h1 := Option.some.inj h1
      replace h2 := Option.some.inj h2
      simp only at h1 h2
      rw [h1] at hK
      refine wp_allocN h2 ?_
      rw [h1]
      exact hK _ _ (sm4_16 hc hLi)
    · have h1 : (sm4Ops[17]?).map (·.dst) = some (some 8) := by kernel_rfl
      have h2 : (sm4Ops[17]?).map (·.op) = some (.alloc 49) := by kernel_rfl
      rw [ho] at h1 h2
      replace h1 := Option.some.inj h1
      replace h2 := Option.some.inj h2
      simp only at h1 h2
      rw [h1] at hK
      refine wp_allocN h2 ?_
      rw [h1]
      exact hK _ _ (sm4_17 hc hLi)
    · have h1 : (sm4Ops[18]?).map (·.dst) = some none := by kernel_rfl
      have h2 : (sm4Ops[18]?).map (·.op) = some (.store 49 (.tmp 7) (.tmp 47)) := by kernel_rfl
      rw [ho] at h1 h2
      replace h1 := Option.some.inj h1
      replace h2 := Option.some.inj h2
      simp only at h1 h2
      rw [h1] at hK
      have l16 : L 16 = true := hdep 16 (by simp [sm4Dep])
      have l7 : L 7 = true := hdep 7 (by simp [sm4Dep])
      obtain ⟨g, e1, hg, hk1⟩ := hc.tw.a l16
      rw [hLi, if_neg (by decide)] at hk1
      refine wp_store_row 49 _ _ h2 g cs.toArray e1 (hc.v7 l7) 49 nvZ.cells.toArray hk1 (by simpa using hscs) (by rw [List.size_toArray, List.size_toArray, hlcs]; rfl) hocs ?_
      rw [h1]
      exact hK _ _ (sm4_18 hc hLi l16 e1)
    · have h1 : (sm4Ops[19]?).map (·.dst) = some none := by kernel_rfl
      have h2 : (sm4Ops[19]?).map (·.op) = some (.store 49 (.tmp 8) (.tmp 55)) := by kernel_rfl
      rw [ho] at h1 h2
      replace h1 := Option.some.inj h1
      replace h2 := Option.some.inj h2
      simp only at h1 h2
      rw [h1] at hK
      have l17 : L 17 = true := hdep 17 (by simp [sm4Dep])
      have l15 : L 15 = true := hdep 15 (by simp [sm4Dep])
      have l18 : L 18 = true := hdep 18 (by simp [sm4Dep])
      obtain ⟨g, e1, hg, hk1⟩ := hc.tw.b l17
      rw [hLi, if_neg (by decide)] at hk1
      refine wp_store_row 49 _ _ h2 g ds.toArray e1 (hc.v15 l15) 49 nvZ.cells.toArray hk1 (by simpa using hsds) (by rw [List.size_toArray, List.size_toArray, hlds]; rfl) hods ?_
      rw [h1]
      exact hK _ _ (sm4_19 hc hLi l17 e1)
  · rintro L b w hL hd hs hf hc
    have hsz2 : sm4Ops.size = 20 := rfl
    rw [hsz2] at hL
    have e := act_eq (a := A0) (b := b) (sm4Us (Act.at b)) hd hs hf (by
      intro p hp
      simp only [sm4Us, List.mem_cons, List.not_mem_nil, or_false] at hp
      rcases hp with rfl | rfl | rfl | rfl | rfl | rfl | rfl | rfl | rfl | rfl | rfl | rfl | rfl | rfl | rfl | rfl | rfl | rfl <;> rfl) (by rw [show (sm4Us (Act.at b)).map (·.1) = [40, 41, 42, 43, 44, 45, 46, 47, 48, 49, 50, 51, 52, 53, 54, 55, 7, 8] from rfl]; decide)
    rw [e]
    obtain ⟨g7, e7, h7, k7⟩ := hc.tw.a (hL 16 (by omega))
    obtain ⟨g8, e8, h8, k8⟩ := hc.tw.b (hL 17 (by omega))
    rw [if_pos (hL 18 (by omega))] at k7
    rw [if_pos (hL 19 (by omega))] at k8
    have hb := hc.tw.bel
    exact hk (Act.at b) w g7 g8 e7 e8 ⟨hb.os, hb.tape, hb.output, hb.size, hb.block⟩ h7 h8 k7 k8
end Go.Proofs.Ythjfhenldkihkaa
