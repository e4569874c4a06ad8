/- regex: the reference: Parse: what a round adds, in open order. -/
import Derived.Test.YtplldfbjbekdlaaDoorRqI
import Derived.Test.YtplldfbjbekdlaaDoorInv
import Derived.Deep.AppendLies
namespace Go.Proofs.YtplldfbjbekdlaaDoor
set_option linter.unusedSimpArgs false
set_option linter.unusedVariables false
open Go.RowKit

theorem al_belowR (w : World) (o : Obj) : Below w.heap.size w (w.alloc o) := (Below.refl _ _).alloc (Nat.le_refl _) _
section
variable {o : Oper} {a : Act} {w : World} {K : Act → World → Prop} {Q : Exit → Act → World → Prop}
theorem wp_bldR (i : Nat) (ho : o.op = .buildSlice 25 1 #[(0, .tmp i)]) (y : RV) (hx : a.eval (.tmp i) = .agg y.cells.toArray) (h : K (a.put o.dst (.slice (some ⟨w.heap.size, 0, none⟩) 1 1)) (w.alloc (.cells (y.cells).toArray 27))) : o.wp Tryd.prog a w K Q := by
  unfold Oper.wp
  have hx' : a.tmps[i]?.getD undef = .agg y.cells.toArray := by unfold Act.eval at hx; simpa using hx
  have e : (execOp a.eval o).run Tryd.prog w = .ok (.value (.slice (some ⟨w.heap.size, 0, none⟩) 1 1)) (w.alloc (.cells (y.cells).toArray 27)) := by
    unfold execOp
    simp only [ho]
    go_simp
    try (simp [RV.cells, newObj]; rfl)
  rw [e]
  exact h
set_option maxRecDepth 10000 in
theorem wp_stR (x y : Operand) (ho : o.op = .store 25 x y) (p : Addr) (hx : a.eval x = .pointer (some p)) (A : Option Addr) (n c : Nat) (hy : a.eval y = .slice A n c) (u : Value) (hc : w.cell? p = some u) (hf : w.frozen? p = false) (h : K (a.put o.dst undef) (w.setCell p (.slice A n c))) : o.wp Tryd.prog a w K Q := by
  unfold Oper.wp
  have e : (execOp a.eval o).run Tryd.prog w = .ok .skip (w.setCell p (.slice A n c)) := by
    unfold execOp
    simp only [ho, hx, hy]
    go_simp
  rw [e, Oper.upon_skip]
  exact h
theorem load_slR {w : World} {p : Addr} {A : Option Addr} {n c : Nat} (h : w.cell? p = some (.slice A n c)) : (Instr.loadAt 25 (.pointer (some p))).run Tryd.prog w = .ok (.slice A n c) w := by
  simp [Instr.loadAt, h]
  go_simp
theorem load_tR {w : World} {p : Addr} {x : ByteArray} (h : w.cell? p = some (.string x)) : (Instr.loadAt 9 (.pointer (some p))).run Tryd.prog w = .ok (.string x) w := by
  simp [Instr.loadAt, h]
  go_simp
theorem wp_indexSR (x y : Operand) (ho : o.op = .indexAddr 46 x y) (b n c j : Nat) (hx : a.eval x = .slice (some ⟨b, 0, none⟩) n c) (hy : a.eval y = .int .i64 (j : Int)) (hj : j < n) (h : K (a.put o.dst (.pointer (some ⟨b, j, none⟩))) w) : o.wp Tryd.prog a w K Q := by
  unfold Oper.wp
  have hj' : (j : Int) < (n : Int) := by omega
  have e : (execOp a.eval o).run Tryd.prog w = .ok (.value (.pointer (some ⟨b, j, none⟩))) w := by
    unfold execOp
    simp only [ho, hx, hy]
    go_simp
  rw [e]
  exact h
theorem wp_appR (s x : Operand) (ho : o.op = .call { callee := .builtin .append, args := #[s, x], argTypes := #[25, 25] }) (hty : o.type = 25)
    (base : Nat) (v : Value) (n : Nat) (xs : List Value) (hs : a.eval s = v) (hown : w.ownsRow base 27 8 v n xs) (g : Nat) (y : RV) (hx : a.eval x = .slice (some ⟨g, 0, none⟩) 1 1) (hr : Blk w g 27 (y.cells)) (hb : n ≤ 1048576) (hbase : base ≤ w.heap.size)
    (h : ∀ g9 c9 w', w'.ownsRow base 27 8 (.slice (some ⟨g9, 0, none⟩) (n + 1) c9) (n + 1) (xs ++ y.cells) → w.grownBy w' v.ownBlock → (v.ownBlock = some g9 ∨ g9 = w.heap.size) → K (a.put o.dst (.slice (some ⟨g9, 0, none⟩) (n + 1) c9)) w') : o.wp Tryd.prog a w K Q := by
  obtain ⟨i0, hi0, hz0, hz1, hz2⟩ := info_parts info_rx
  refine wp_append_lies w s x 25 ho base 27 i0 _ 8 80 Tryd.underlying25 hi0 hz0 hz1 hz2 rfl (by decide) v n xs hs hown ⟨g, 0, none⟩ 1 1 (y.cells) hx rfl (World.news_of_block hr) (rx_ones y) (by decide) (by unfold maxLen; omega) (by omega) hbase w.heap.size rfl ?_
  intro g9 c9 w' h1 h2 h3 _
  exact h g9 c9 w' h1 h2 h3
end
def pr16Ops : Array Oper := #[{ dst := some 49, op := Op.fieldAddr 27 (Operand.tmp 6) 2, type := 0, pos := "ref.go:67", after := #[], guard := none }, { dst := some 50, op := Op.load 25 (Operand.tmp 49), type := 25, pos := "ref.go:67", after := #[{ on := 0, ground := Ground.data }], guard := none }, { dst := some 51, op := Op.move (Operand.tmp 3), type := 46, pos := "ref.go:67", after := #[], guard := none }, { dst := some 52, op := Op.move (Operand.tmp 7), type := 3, pos := "ref.go:67", after := #[], guard := none }, { dst := some 53, op := Op.indexAddr 46 (Operand.tmp 51) (Operand.tmp 52), type := 0, pos := "ref.go:67", after := #[{ on := 2, ground := Ground.data }, { on := 3, ground := Ground.data }], guard := none }, { dst := some 54, op := Op.load 9 (Operand.tmp 53), type := 9, pos := "ref.go:67", after := #[{ on := 4, ground := Ground.data }], guard := none }, { dst := some 55, op := Op.call { callee := Callee.value (Operand.func 15), args := #[Operand.tmp 54], argTypes := #[9] }, type := 27, pos := "ref.go:67", after := #[{ on := 5, ground := Ground.data }], guard := none }, { dst := some 56, op := Op.buildSlice 25 1 #[(0, Operand.tmp 55)], type := 25, pos := "ref.go:67", after := #[{ on := 6, ground := Ground.data }], guard := none }, { dst := some 57, op := Op.call { callee := Callee.builtin Builtin.append, args := #[Operand.tmp 50, Operand.tmp 56], argTypes := #[25, 25] }, type := 25, pos := "ref.go:67", after := #[{ on := 1, ground := Ground.data }, { on := 7, ground := Ground.data }, { on := 6, ground := Ground.chain }], guard := none }, { dst := some 58, op := Op.fieldAddr 27 (Operand.tmp 6) 2, type := 0, pos := "ref.go:67", after := #[{ on := 0, ground := Ground.phase }, { on := 1, ground := Ground.phase }, { on := 2, ground := Ground.phase }, { on := 3, ground := Ground.phase }, { on := 4, ground := Ground.phase }, { on := 5, ground := Ground.phase }, { on := 6, ground := Ground.phase }, { on := 7, ground := Ground.phase }, { on := 8, ground := Ground.phase }], guard := none }, { dst := none, op := Op.store 25 (Operand.tmp 58) (Operand.tmp 57), type := 0, pos := "ref.go:67", after := #[{ on := 9, ground := Ground.data }, { on := 8, ground := Ground.data }, { on := 8, ground := Ground.chain }, { on := 0, ground := Ground.phase }, { on := 1, ground := Ground.phase }, { on := 2, ground := Ground.phase }, { on := 3, ground := Ground.phase }, { on := 4, ground := Ground.phase }, { on := 5, ground := Ground.phase }, { on := 6, ground := Ground.phase }, { on := 7, ground := Ground.phase }, { on := 8, ground := Ground.phase }], guard := none }]
def pr16Dep : Nat → List Nat := fun i => match i with | 1 => [0] | 4 => [2, 3] | 5 => [4] | 6 => [5] | 7 => [6] | 8 => [1, 7] | 10 => [9, 8] | _ => []
structure pr16C (bx : Nat) (n : Nat) (c : Nat) (gp : Nat) (m : Nat) (pc : Nat) (j : Nat) (x : ByteArray) (A : Option Addr) (W1 : World) (R6 : Value → World → Prop) (R7 : Value → World → Prop) (R8 : Value → World → Prop) (R10 : World → Prop) (L : Nat → Bool) (f : Nat → Value) (w : World) : Prop where
  v0 : L 0 = true → f 49 = .pointer (some ⟨bx, 5, none⟩)
  v9 : L 9 = true → f 58 = .pointer (some ⟨bx, 5, none⟩)
  v1 : L 1 = true → f 50 = .slice A n c
  v2 : L 2 = true → f 51 = .slice (some ⟨gp, 0, none⟩) m pc
  v3 : L 3 = true → f 52 = .int .i64 (j : Int)
  v4 : L 4 = true → f 53 = .pointer (some ⟨gp, j, none⟩)
  v5 : L 5 = true → f 54 = .string x
  wz : L 6 = false → w = W1
  w6 : L 6 = true → L 7 = false → R6 (f 55) w
  w7 : L 7 = true → L 8 = false → R7 (f 56) w
  w8 : L 8 = true → L 10 = false → R8 (f 57) w
  w10 : L 10 = true → R10 w
  d7_6 : L 7 = true → L 6 = true
  d8_7 : L 8 = true → L 7 = true
  d10_8 : L 10 = true → L 8 = true
  d8_1 : L 8 = true → L 1 = true
  d6_5 : L 6 = true → L 5 = true
  d10_9 : L 10 = true → L 9 = true
theorem pr16_0 {bx : Nat} {n : Nat} {c : Nat} {gp : Nat} {m : Nat} {pc : Nat} {j : Nat} {x : ByteArray} {A : Option Addr} {W1 : World} {R6 : Value → World → Prop} {R7 : Value → World → Prop} {R8 : Value → World → Prop} {R10 : World → Prop} {L : Nat → Bool} {f : Nat → Value} {w : World} (h : pr16C bx n c gp m pc j x A W1 R6 R7 R8 R10 L f w) : pr16C bx n c gp m pc j x A W1 R6 R7 R8 R10 (fun k => if k = 0 then true else L k) (fun t => if (some 49 : Option Nat) = some t then (.pointer (some ⟨bx, 5, none⟩)) else f t) w where
  v0 := fun _ => by simp
  v9 := by simpa using h.v9
  v1 := by simpa using h.v1
  v2 := by simpa using h.v2
  v3 := by simpa using h.v3
  v4 := by simpa using h.v4
  v5 := by simpa using h.v5
  wz := by simpa using h.wz
  w6 := by simpa using h.w6
  w7 := by simpa using h.w7
  w8 := by simpa using h.w8
  w10 := by simpa using h.w10
  d7_6 := by simpa using h.d7_6
  d8_7 := by simpa using h.d8_7
  d10_8 := by simpa using h.d10_8
  d8_1 := by simpa using h.d8_1
  d6_5 := by simpa using h.d6_5
  d10_9 := by simpa using h.d10_9
theorem pr16_1 {bx : Nat} {n : Nat} {c : Nat} {gp : Nat} {m : Nat} {pc : Nat} {j : Nat} {x : ByteArray} {A : Option Addr} {W1 : World} {R6 : Value → World → Prop} {R7 : Value → World → Prop} {R8 : Value → World → Prop} {R10 : World → Prop} {L : Nat → Bool} {f : Nat → Value} {w : World} (h : pr16C bx n c gp m pc j x A W1 R6 R7 R8 R10 L f w) : pr16C bx n c gp m pc j x A W1 R6 R7 R8 R10 (fun k => if k = 1 then true else L k) (fun t => if (some 50 : Option Nat) = some t then (.slice A n c) else f t) w where
  v0 := by simpa using h.v0
  v9 := by simpa using h.v9
  v1 := fun _ => by simp
  v2 := by simpa using h.v2
  v3 := by simpa using h.v3
  v4 := by simpa using h.v4
  v5 := by simpa using h.v5
  wz := by simpa using h.wz
  w6 := by simpa using h.w6
  w7 := by simpa using h.w7
  w8 := by simpa using h.w8
  w10 := by simpa using h.w10
  d7_6 := by simpa using h.d7_6
  d8_7 := by simpa using h.d8_7
  d10_8 := by simpa using h.d10_8
  d8_1 := fun _ => by simp
  d6_5 := by simpa using h.d6_5
  d10_9 := by simpa using h.d10_9
theorem pr16_2 {bx : Nat} {n : Nat} {c : Nat} {gp : Nat} {m : Nat} {pc : Nat} {j : Nat} {x : ByteArray} {A : Option Addr} {W1 : World} {R6 : Value → World → Prop} {R7 : Value → World → Prop} {R8 : Value → World → Prop} {R10 : World → Prop} {L : Nat → Bool} {f : Nat → Value} {w : World} (h : pr16C bx n c gp m pc j x A W1 R6 R7 R8 R10 L f w) : pr16C bx n c gp m pc j x A W1 R6 R7 R8 R10 (fun k => if k = 2 then true else L k) (fun t => if (some 51 : Option Nat) = some t then (.slice (some ⟨gp, 0, none⟩) m pc) else f t) w where
  v0 := by simpa using h.v0
  v9 := by simpa using h.v9
  v1 := by simpa using h.v1
  v2 := fun _ => by simp
  v3 := by simpa using h.v3
  v4 := by simpa using h.v4
  v5 := by simpa using h.v5
  wz := by simpa using h.wz
  w6 := by simpa using h.w6
  w7 := by simpa using h.w7
  w8 := by simpa using h.w8
  w10 := by simpa using h.w10
  d7_6 := by simpa using h.d7_6
  d8_7 := by simpa using h.d8_7
  d10_8 := by simpa using h.d10_8
  d8_1 := by simpa using h.d8_1
  d6_5 := by simpa using h.d6_5
  d10_9 := by simpa using h.d10_9
theorem pr16_3 {bx : Nat} {n : Nat} {c : Nat} {gp : Nat} {m : Nat} {pc : Nat} {j : Nat} {x : ByteArray} {A : Option Addr} {W1 : World} {R6 : Value → World → Prop} {R7 : Value → World → Prop} {R8 : Value → World → Prop} {R10 : World → Prop} {L : Nat → Bool} {f : Nat → Value} {w : World} (h : pr16C bx n c gp m pc j x A W1 R6 R7 R8 R10 L f w) : pr16C bx n c gp m pc j x A W1 R6 R7 R8 R10 (fun k => if k = 3 then true else L k) (fun t => if (some 52 : Option Nat) = some t then (.int .i64 (j : Int)) else f t) w where
  v0 := by simpa using h.v0
  v9 := by simpa using h.v9
  v1 := by simpa using h.v1
  v2 := by simpa using h.v2
  v3 := fun _ => by simp
  v4 := by simpa using h.v4
  v5 := by simpa using h.v5
  wz := by simpa using h.wz
  w6 := by simpa using h.w6
  w7 := by simpa using h.w7
  w8 := by simpa using h.w8
  w10 := by simpa using h.w10
  d7_6 := by simpa using h.d7_6
  d8_7 := by simpa using h.d8_7
  d10_8 := by simpa using h.d10_8
  d8_1 := by simpa using h.d8_1
  d6_5 := by simpa using h.d6_5
  d10_9 := by simpa using h.d10_9
theorem pr16_4 {bx : Nat} {n : Nat} {c : Nat} {gp : Nat} {m : Nat} {pc : Nat} {j : Nat} {x : ByteArray} {A : Option Addr} {W1 : World} {R6 : Value → World → Prop} {R7 : Value → World → Prop} {R8 : Value → World → Prop} {R10 : World → Prop} {L : Nat → Bool} {f : Nat → Value} {w : World} (h : pr16C bx n c gp m pc j x A W1 R6 R7 R8 R10 L f w) : pr16C bx n c gp m pc j x A W1 R6 R7 R8 R10 (fun k => if k = 4 then true else L k) (fun t => if (some 53 : Option Nat) = some t then (.pointer (some ⟨gp, j, none⟩)) else f t) w where
  v0 := by simpa using h.v0
  v9 := by simpa using h.v9
  v1 := by simpa using h.v1
  v2 := by simpa using h.v2
  v3 := by simpa using h.v3
  v4 := fun _ => by simp
  v5 := by simpa using h.v5
  wz := by simpa using h.wz
  w6 := by simpa using h.w6
  w7 := by simpa using h.w7
  w8 := by simpa using h.w8
  w10 := by simpa using h.w10
  d7_6 := by simpa using h.d7_6
  d8_7 := by simpa using h.d8_7
  d10_8 := by simpa using h.d10_8
  d8_1 := by simpa using h.d8_1
  d6_5 := by simpa using h.d6_5
  d10_9 := by simpa using h.d10_9
theorem pr16_5 {bx : Nat} {n : Nat} {c : Nat} {gp : Nat} {m : Nat} {pc : Nat} {j : Nat} {x : ByteArray} {A : Option Addr} {W1 : World} {R6 : Value → World → Prop} {R7 : Value → World → Prop} {R8 : Value → World → Prop} {R10 : World → Prop} {L : Nat → Bool} {f : Nat → Value} {w : World} (h : pr16C bx n c gp m pc j x A W1 R6 R7 R8 R10 L f w) : pr16C bx n c gp m pc j x A W1 R6 R7 R8 R10 (fun k => if k = 5 then true else L k) (fun t => if (some 54 : Option Nat) = some t then (.string x) else f t) w where
  v0 := by simpa using h.v0
  v9 := by simpa using h.v9
  v1 := by simpa using h.v1
  v2 := by simpa using h.v2
  v3 := by simpa using h.v3
  v4 := by simpa using h.v4
  v5 := fun _ => by simp
  wz := by simpa using h.wz
  w6 := by simpa using h.w6
  w7 := by simpa using h.w7
  w8 := by simpa using h.w8
  w10 := by simpa using h.w10
  d7_6 := by simpa using h.d7_6
  d8_7 := by simpa using h.d8_7
  d10_8 := by simpa using h.d10_8
  d8_1 := by simpa using h.d8_1
  d6_5 := fun _ => by simp
  d10_9 := by simpa using h.d10_9
theorem pr16_6 {bx : Nat} {n : Nat} {c : Nat} {gp : Nat} {m : Nat} {pc : Nat} {j : Nat} {x : ByteArray} {A : Option Addr} {W1 : World} {R6 : Value → World → Prop} {R7 : Value → World → Prop} {R8 : Value → World → Prop} {R10 : World → Prop} {L : Nat → Bool} {f : Nat → Value} {w : World} {v : Value} {w2 : World} (h : pr16C bx n c gp m pc j x A W1 R6 R7 R8 R10 L f w) (h6 : L 6 = false) (h5 : L 5 = true) (hp : R6 v w2) : pr16C bx n c gp m pc j x A W1 R6 R7 R8 R10 (fun k => if k = 6 then true else L k) (fun t => if (some 55 : Option Nat) = some t then v else f t) w2 := by
  have h7 : L 7 = false := by cases hh : L 7 with | false => rfl | true => exact absurd (h.d7_6 hh) (by rw [h6]; decide)
  have h8 : L 8 = false := by cases hh : L 8 with | false => rfl | true => exact absurd (h.d8_7 hh) (by rw [h7]; decide)
  have h10 : L 10 = false := by cases hh : L 10 with | false => rfl | true => exact absurd (h.d10_8 hh) (by rw [h8]; decide)
  constructor
  · simpa using h.v0
  · simpa using h.v9
  · simpa using h.v1
  · simpa using h.v2
  · simpa using h.v3
  · simpa using h.v4
  · simpa using h.v5
  · intro hh; simp at hh
  · intro _ _; simpa using hp
  · intro hh _; simp [h7] at hh
  · intro hh _; simp [h8] at hh
  · intro hh; simp [h10] at hh
  · intro _; simp
  · simpa using h.d8_7
  · simpa using h.d10_8
  · simpa using h.d8_1
  · intro _; simpa using h5
  · simpa using h.d10_9
theorem pr16_7 {bx : Nat} {n : Nat} {c : Nat} {gp : Nat} {m : Nat} {pc : Nat} {j : Nat} {x : ByteArray} {A : Option Addr} {W1 : World} {R6 : Value → World → Prop} {R7 : Value → World → Prop} {R8 : Value → World → Prop} {R10 : World → Prop} {L : Nat → Bool} {f : Nat → Value} {w : World} {v : Value} {w2 : World} (h : pr16C bx n c gp m pc j x A W1 R6 R7 R8 R10 L f w) (h6 : L 6 = true) (h7 : L 7 = false) (hp : R7 v w2) : pr16C bx n c gp m pc j x A W1 R6 R7 R8 R10 (fun k => if k = 7 then true else L k) (fun t => if (some 56 : Option Nat) = some t then v else f t) w2 := by
  have h8 : L 8 = false := by cases hh : L 8 with | false => rfl | true => exact absurd (h.d8_7 hh) (by rw [h7]; decide)
  have h10 : L 10 = false := by cases hh : L 10 with | false => rfl | true => exact absurd (h.d10_8 hh) (by rw [h8]; decide)
  constructor
  · simpa using h.v0
  · simpa using h.v9
  · simpa using h.v1
  · simpa using h.v2
  · simpa using h.v3
  · simpa using h.v4
  · simpa using h.v5
  · intro hh; simp [h6] at hh
  · intro _ hh; simp at hh
  · intro _ _; simpa using hp
  · intro hh _; simp [h8] at hh
  · intro hh; simp [h10] at hh
  · intro _; simpa using h6
  · intro _; simp
  · simpa using h.d10_8
  · simpa using h.d8_1
  · simpa using h.d6_5
  · simpa using h.d10_9
theorem pr16_8 {bx : Nat} {n : Nat} {c : Nat} {gp : Nat} {m : Nat} {pc : Nat} {j : Nat} {x : ByteArray} {A : Option Addr} {W1 : World} {R6 : Value → World → Prop} {R7 : Value → World → Prop} {R8 : Value → World → Prop} {R10 : World → Prop} {L : Nat → Bool} {f : Nat → Value} {w : World} {v : Value} {w2 : World} (h : pr16C bx n c gp m pc j x A W1 R6 R7 R8 R10 L f w) (h6 : L 6 = true) (h7 : L 7 = true) (h8 : L 8 = false) (h1 : L 1 = true) (hp : R8 v w2) : pr16C bx n c gp m pc j x A W1 R6 R7 R8 R10 (fun k => if k = 8 then true else L k) (fun t => if (some 57 : Option Nat) = some t then v else f t) w2 := by
  have h10 : L 10 = false := by cases hh : L 10 with | false => rfl | true => exact absurd (h.d10_8 hh) (by rw [h8]; decide)
  constructor
  · simpa using h.v0
  · simpa using h.v9
  · simpa using h.v1
  · simpa using h.v2
  · simpa using h.v3
  · simpa using h.v4
  · simpa using h.v5
  · intro hh; simp [h6] at hh
  · intro _ hh; simp [h7] at hh
  · intro _ hh; simp at hh
  · intro _ _; simpa using hp
  · intro hh; simp [h10] at hh
  · simpa using h.d7_6
  · intro _; simpa using h7
  · intro _; simp
  · intro _; simpa using h1
  · simpa using h.d6_5
  · simpa using h.d10_9
theorem pr16_9 {bx : Nat} {n : Nat} {c : Nat} {gp : Nat} {m : Nat} {pc : Nat} {j : Nat} {x : ByteArray} {A : Option Addr} {W1 : World} {R6 : Value → World → Prop} {R7 : Value → World → Prop} {R8 : Value → World → Prop} {R10 : World → Prop} {L : Nat → Bool} {f : Nat → Value} {w : World} (h : pr16C bx n c gp m pc j x A W1 R6 R7 R8 R10 L f w) : pr16C bx n c gp m pc j x A W1 R6 R7 R8 R10 (fun k => if k = 9 then true else L k) (fun t => if (some 58 : Option Nat) = some t then (.pointer (some ⟨bx, 5, none⟩)) else f t) w where
  v0 := by simpa using h.v0
  v9 := fun _ => by simp
  v1 := by simpa using h.v1
  v2 := by simpa using h.v2
  v3 := by simpa using h.v3
  v4 := by simpa using h.v4
  v5 := by simpa using h.v5
  wz := by simpa using h.wz
  w6 := by simpa using h.w6
  w7 := by simpa using h.w7
  w8 := by simpa using h.w8
  w10 := by simpa using h.w10
  d7_6 := by simpa using h.d7_6
  d8_7 := by simpa using h.d8_7
  d10_8 := by simpa using h.d10_8
  d8_1 := by simpa using h.d8_1
  d6_5 := by simpa using h.d6_5
  d10_9 := fun _ => by simp
theorem pr16_10 {bx : Nat} {n : Nat} {c : Nat} {gp : Nat} {m : Nat} {pc : Nat} {j : Nat} {x : ByteArray} {A : Option Addr} {W1 : World} {R6 : Value → World → Prop} {R7 : Value → World → Prop} {R8 : Value → World → Prop} {R10 : World → Prop} {L : Nat → Bool} {f : Nat → Value} {w : World} {v : Value} {w2 : World} (h : pr16C bx n c gp m pc j x A W1 R6 R7 R8 R10 L f w) (h6 : L 6 = true) (h7 : L 7 = true) (h8 : L 8 = true) (h10 : L 10 = false) (h9 : L 9 = true) (hp : R10 w2) : pr16C bx n c gp m pc j x A W1 R6 R7 R8 R10 (fun k => if k = 10 then true else L k) (fun t => if (none : Option Nat) = some t then v else f t) w2 := by
  constructor
  · simpa using h.v0
  · simpa using h.v9
  · simpa using h.v1
  · simpa using h.v2
  · simpa using h.v3
  · simpa using h.v4
  · simpa using h.v5
  · intro hh; simp [h6] at hh
  · intro _ hh; simp [h7] at hh
  · intro _ hh; simp [h8] at hh
  · intro _ hh; simp at hh
  · intro _; simpa using hp
  · simpa using h.d7_6
  · simpa using h.d8_7
  · intro _; simpa using h8
  · simpa using h.d8_1
  · simpa using h.d6_5
  · intro _; simpa using h9
def pr16Us (f : Nat → Value) : List (Nat × Value) := [(49, f 49), (50, f 50), (51, f 51), (52, f 52), (53, f 53), (54, f 54), (55, f 55), (56, f 56), (57, f 57), (58, f 58)]
set_option maxRecDepth 10000 in
set_option maxHeartbeats 1000000 in
theorem pr16_reg {bx n c base gp m pc j : Nat} {x : ByteArray} {A : Option Addr} {W : World} {xs : List Value} {R1 : RV → World → Prop} {R4 : World → Prop} {A0 : Act} {Q : Exit → Act → World → Prop} {id : Nat} (ab : Act.at A0 6 = .pointer (some ⟨bx, 0, none⟩)) (a3 : Act.at A0 3 = .slice (some ⟨gp, 0, none⟩) m pc) (a7 : Act.at A0 7 = .int .i64 (j : Int)) (hsz : 60 ≤ A0.tmps.size) (hjm : j < m) (hX : W.drew.cell? ⟨gp, j, none⟩ = some (.string x)) (hB : W.drew.cell? ⟨bx, 5, none⟩ = some (.slice A n c)) (hn : n ≤ 1048576)
    (HC : Calls Tryd.prog 15 #[.string x] W.drew fun e w' => ∃ v, e = .returned v ∧ (fun u w => ∃ y : RV, u = .agg y.cells.toArray ∧ R1 y w) v w')
    (hR1 : ∀ y w, R1 y w → w.cell? ⟨bx, 5, none⟩ = some (.slice A n c) ∧ w.frozen? ⟨bx, 5, none⟩ = false ∧ w.ownsRow base 27 8 (.slice A n c) n xs ∧ base ≤ w.heap.size ∧ bx < w.heap.size)
    (hR3 : ∀ y w, R1 y w → ∀ g9 c9 w', w'.ownsRow base 27 8 (.slice (some ⟨g9, 0, none⟩) (n + 1) c9) (n + 1) (xs ++ y.cells) → (w.alloc (.cells (y.cells).toArray 27)).grownBy w' (Value.slice A n c).ownBlock → ((Value.slice A n c).ownBlock = some g9 ∨ g9 = (w.alloc (.cells (y.cells).toArray 27)).heap.size) → w'.cell? ⟨bx, 5, none⟩ = some (.slice A n c) ∧ w'.frozen? ⟨bx, 5, none⟩ = false ∧ R4 (w'.setCell ⟨bx, 5, none⟩ (.slice (some ⟨g9, 0, none⟩) (n + 1) c9)))
    (hk : ∀ (f : Nat → Value) w', R4 w' → Q .normal ⟨(pr16Us f).foldl (fun A p => A.setIfInBounds p.1 p.2) A0.tmps, A0.defers⟩ w') :
    (Code.region id pr16Ops true).wp Tryd.prog Q A0 W := by
  refine wp_region_fun (by kernel_rfl) (fun L f w => pr16C bx n c gp m pc j x A W.drew (fun u w => ∃ y : RV, u = .agg y.cells.toArray ∧ R1 y w) (fun u w => ∃ y w1, R1 y w1 ∧ u = .slice (some ⟨w1.heap.size, 0, none⟩) 1 1 ∧ w = w1.alloc (.cells (y.cells).toArray 27)) (fun u w => ∃ g9 c9, u = .slice (some ⟨g9, 0, none⟩) (n + 1) c9 ∧ w.cell? ⟨bx, 5, none⟩ = some (.slice A n c) ∧ w.frozen? ⟨bx, 5, none⟩ = false ∧ R4 (w.setCell ⟨bx, 5, none⟩ (.slice (some ⟨g9, 0, none⟩) (n + 1) c9))) R4 L f w) [49, 50, 51, 52, 53, 54, 55, 56, 57, 58] (wf_ops2 (by kernel_rfl)) (fun i o ho u hu => ?_) ?_ ?_ ?_
  · have := ops_dst [49, 50, 51, 52, 53, 54, 55, 56, 57, 58] 60 (by kernel_rfl) i o ho u hu
    exact ⟨this.1, Nat.lt_of_lt_of_le this.2 hsz⟩
  · have hs : pr16Ops.size = 11 := rfl
    rw [hs]
    constructor <;> first | exact (fun _ => rfl) | (intro h; simp at h) | (intro h h2; simp at h)
  · rintro L i o ho hLi haf b w hf hc K hK
    have hdep := ops_deps pr16Dep (by kernel_rfl) ho haf
    clear haf
    have hs : pr16Ops.size = 11 := rfl
    have hlt : i < 11 := hs ▸ (Array.getElem?_eq_some_iff.1 ho).1
    have hcases : i = 0 ∨ i = 1 ∨ i = 2 ∨ i = 3 ∨ i = 4 ∨ i = 5 ∨ i = 6 ∨ i = 7 ∨ i = 8 ∨ i = 9 ∨ i = 10 := by omega
    rcases hcases with rfl | rfl | rfl | rfl | rfl | rfl | rfl | rfl | rfl | rfl | rfl
    · have h1 : (pr16Ops[0]?).map (·.dst) = some (some 49) := by kernel_rfl
      have h2 : (pr16Ops[0]?).map (·.op) = some (Op.fieldAddr 27 (Operand.tmp 6) 2) := by kernel_rfl
      rw [ho] at h1 h2
      replace h1 := Option.some.inj h1
      replace h2 := Option.some.inj h2
      simp only at h1 h2
      rw [h1] at hK
      refine wp_fieldG _ _ _ h2 _ _ ((hf 6 (by decide)).trans ab) (show (Instr.fieldAt 27 (.pointer (some ⟨bx, 0, none⟩)) 2).run Tryd.prog w = .ok (.pointer (some ⟨bx, 5, none⟩)) w from by kernel_rfl) ?_
      rw [h1]
      exact hK _ _ (pr16_0 hc)
    · have h1 : (pr16Ops[1]?).map (·.dst) = some (some 50) := by kernel_rfl
      have h2 : (pr16Ops[1]?).map (·.op) = some (Op.load 25 (Operand.tmp 49)) := by kernel_rfl
      rw [ho] at h1 h2
      replace h1 := Option.some.inj h1
      replace h2 := Option.some.inj h2
      simp only at h1 h2
      rw [h1] at hK
      have l0 : L 0 = true := hdep 0 (by simp [pr16Dep])
      have hcell : w.cell? ⟨bx, 5, none⟩ = some (.slice A n c) := by
        cases hq4 : L 6 with
        | false => rw [hc.wz hq4]; exact hB
        | true =>
          cases hq5 : L 7 with
          | false => obtain ⟨y, _, hy⟩ := hc.w6 hq4 hq5; exact (hR1 y w hy).1
          | true =>
            cases hq6 : L 8 with
            | true => exact absurd (hc.d8_1 hq6) (by rw [hLi]; decide)
            | false =>
              obtain ⟨y, w1, hy, _, rfl⟩ := hc.w7 hq5 hq6
              have h1c := (hR1 y w1 hy).1
              have hal : Below w1.heap.size w1 (w1.alloc (.cells (y.cells).toArray 27)) := al_belowR _ _
              exact (World.cell?_of_block (w := w1) (a := ⟨bx, 5, none⟩) (hal.block bx (hR1 y w1 hy).2.2.2.2)).trans h1c
      refine wp_loadG _ _ h2 _ _ (hc.v0 l0) (load_slR hcell) ?_
      rw [h1]
      exact hK _ _ (pr16_1 hc)
    · have h1 : (pr16Ops[2]?).map (·.dst) = some (some 51) := by kernel_rfl
      have h2 : (pr16Ops[2]?).map (·.op) = some (Op.move (Operand.tmp 3)) := by kernel_rfl
      rw [ho] at h1 h2
      replace h1 := Option.some.inj h1
      replace h2 := Option.some.inj h2
      simp only at h1 h2
      rw [h1] at hK
      refine wp_moveG _ h2 _ ((hf 3 (by decide)).trans a3) ?_
      rw [h1]
      exact hK _ _ (pr16_2 hc)
    · have h1 : (pr16Ops[3]?).map (·.dst) = some (some 52) := by kernel_rfl
      have h2 : (pr16Ops[3]?).map (·.op) = some (Op.move (Operand.tmp 7)) := by kernel_rfl
      rw [ho] at h1 h2
      replace h1 := Option.some.inj h1
      replace h2 := Option.some.inj h2
      simp only at h1 h2
      rw [h1] at hK
      refine wp_moveG _ h2 _ ((hf 7 (by decide)).trans a7) ?_
      rw [h1]
      exact hK _ _ (pr16_3 hc)
    · have h1 : (pr16Ops[4]?).map (·.dst) = some (some 53) := by kernel_rfl
      have h2 : (pr16Ops[4]?).map (·.op) = some (Op.indexAddr 46 (Operand.tmp 51) (Operand.tmp 52)) := by kernel_rfl
      rw [ho] at h1 h2
      replace h1 := Option.some.inj h1
      replace h2 := Option.some.inj h2
      simp only at h1 h2
      rw [h1] at hK
      have l2 : L 2 = true := hdep 2 (by simp [pr16Dep])
      have l3 : L 3 = true := hdep 3 (by simp [pr16Dep])
      refine wp_indexSR _ _ h2 gp m pc j (hc.v2 l2) (hc.v3 l3) hjm ?_
      rw [h1]
      exact hK _ _ (pr16_4 hc)
    · have h1 : (pr16Ops[5]?).map (·.dst) = some (some 54) := by kernel_rfl
      have h2 : (pr16Ops[5]?).map (·.op) = some (Op.load 9 (Operand.tmp 53)) := by kernel_rfl
      rw [ho] at h1 h2
      replace h1 := Option.some.inj h1
      replace h2 := Option.some.inj h2
      simp only at h1 h2
      rw [h1] at hK
      have l4 : L 4 = true := hdep 4 (by simp [pr16Dep])
      have hq : L 6 = false := by cases hh : L 6 with | false => rfl | true => exact absurd (hc.d6_5 hh) (by rw [hLi]; decide)
      obtain rfl := hc.wz hq
      refine wp_loadG _ _ h2 _ _ (hc.v4 l4) (load_tR hX) ?_
      rw [h1]
      exact hK _ _ (pr16_5 hc)
    · have h1 : (pr16Ops[6]?).map (·.dst) = some (some 55) := by kernel_rfl
      have h2 : (pr16Ops[6]?).map (·.op) = some (Op.call { callee := Callee.value (Operand.func 15), args := #[Operand.tmp 54], argTypes := #[9] }) := by kernel_rfl
      rw [ho] at h1 h2
      replace h1 := Option.some.inj h1
      replace h2 := Option.some.inj h2
      simp only at h1 h2
      rw [h1] at hK
      have l5 : L 5 = true := hdep 5 (by simp [pr16Dep])
      obtain rfl := hc.wz hLi
      refine wp_callG 15 _ _ h2 (enters_of Tryd.func15 (by kernel_rfl) rfl) #[.string x] (by simp [show b.eval (.tmp 54) = _ from hc.v5 l5]) _ HC ?_
      intro v w2 hp
      rw [h1]
      exact hK _ _ (pr16_6 hc hLi l5 hp)
    · have h1 : (pr16Ops[7]?).map (·.dst) = some (some 56) := by kernel_rfl
      have h2 : (pr16Ops[7]?).map (·.op) = some (Op.buildSlice 25 1 #[(0, Operand.tmp 55)]) := by kernel_rfl
      rw [ho] at h1 h2
      replace h1 := Option.some.inj h1
      replace h2 := Option.some.inj h2
      simp only at h1 h2
      rw [h1] at hK
      have l6 : L 6 = true := hdep 6 (by simp [pr16Dep])
      have lq : L 7 = false := hLi
      obtain ⟨y, hy0, hy⟩ := hc.w6 l6 lq
      refine wp_bldR 55 h2 y hy0 ?_
      rw [h1]
      exact hK _ _ (pr16_7 hc l6 hLi ⟨y, _, hy, rfl, rfl⟩)
    · have h1 : (pr16Ops[8]?).map (·.dst) = some (some 57) := by kernel_rfl
      have h2 : (pr16Ops[8]?).map (·.op) = some (Op.call { callee := Callee.builtin Builtin.append, args := #[Operand.tmp 50, Operand.tmp 56], argTypes := #[25, 25] }) := by kernel_rfl
      rw [ho] at h1 h2
      replace h1 := Option.some.inj h1
      replace h2 := Option.some.inj h2
      simp only at h1 h2
      rw [h1] at hK
      have l1 : L 1 = true := hdep 1 (by simp [pr16Dep])
      have l7 : L 7 = true := hdep 7 (by simp [pr16Dep])
      have l6 := hc.d7_6 l7
      obtain ⟨y, w1, hy, hu, rfl⟩ := hc.w7 l7 hLi
      obtain ⟨hq1, hq2, hq3, hq4, _⟩ := hR1 y w1 hy
      have hal : Below w1.heap.size w1 (w1.alloc (.cells (y.cells).toArray 27)) := al_belowR _ _
      have h4 : (pr16Ops[8]?).map (·.type) = some 25 := by kernel_rfl
      rw [ho] at h4
      replace h4 := Option.some.inj h4
      simp only at h4
      refine wp_appR _ _ h2 h4 base (.slice A n c) n xs (hc.v1 l1) (hq3.alloc _) w1.heap.size y hu (heap_alloc_new w1 _) hn (Nat.le_trans hq4 hal.size) ?_
      intro g9 c9 w2 hown hgr hat
      rw [h1]
      exact hK _ _ (pr16_8 hc l6 l7 hLi l1 (by obtain ⟨e1, e2, e3⟩ := hR3 y w1 hy g9 c9 w2 hown hgr hat; exact ⟨g9, c9, rfl, e1, e2, e3⟩))
    · have h1 : (pr16Ops[9]?).map (·.dst) = some (some 58) := by kernel_rfl
      have h2 : (pr16Ops[9]?).map (·.op) = some (Op.fieldAddr 27 (Operand.tmp 6) 2) := by kernel_rfl
      rw [ho] at h1 h2
      replace h1 := Option.some.inj h1
      replace h2 := Option.some.inj h2
      simp only at h1 h2
      rw [h1] at hK
      refine wp_fieldG _ _ _ h2 _ _ ((hf 6 (by decide)).trans ab) (show (Instr.fieldAt 27 (.pointer (some ⟨bx, 0, none⟩)) 2).run Tryd.prog w = .ok (.pointer (some ⟨bx, 5, none⟩)) w from by kernel_rfl) ?_
      rw [h1]
      exact hK _ _ (pr16_9 hc)
    · have h1 : (pr16Ops[10]?).map (·.dst) = some none := by kernel_rfl
      have h2 : (pr16Ops[10]?).map (·.op) = some (Op.store 25 (Operand.tmp 58) (Operand.tmp 57)) := by kernel_rfl
      rw [ho] at h1 h2
      replace h1 := Option.some.inj h1
      replace h2 := Option.some.inj h2
      simp only at h1 h2
      rw [h1] at hK
      have l9 : L 9 = true := hdep 9 (by simp [pr16Dep])
      have l8 : L 8 = true := hdep 8 (by simp [pr16Dep])
      have l7 := hc.d8_7 l8
      have l6 := hc.d7_6 l7
      obtain ⟨g9, c9, hv, hcl, hfz, h13⟩ := hc.w8 l8 hLi
      refine wp_stR _ _ h2 ⟨bx, 5, none⟩ (hc.v9 l9) (some ⟨g9, 0, none⟩) (n + 1) c9 hv (.slice A n c) hcl hfz ?_
      rw [h1]
      exact hK _ _ (pr16_10 hc l6 l7 l8 hLi l9 h13)
  · rintro L b w hL hd hs hf hc
    have hsz2 : pr16Ops.size = 11 := rfl
    rw [hsz2] at hL
    have e := act_eq (a := A0) (b := b) (pr16Us (Act.at b)) hd hs hf (by
      intro p hp
      simp only [pr16Us, List.mem_cons, List.not_mem_nil, or_false] at hp
      rcases hp with rfl | rfl | rfl | rfl | rfl | rfl | rfl | rfl | rfl | rfl <;> rfl) (by rw [show (pr16Us (Act.at b)).map (·.1) = [49, 50, 51, 52, 53, 54, 55, 56, 57, 58] from rfl]; decide)
    rw [e]
    exact hk (Act.at b) w (hc.w10 (hL 10 (by omega)))
end Go.Proofs.YtplldfbjbekdlaaDoor

/- regex: the reference: Parse: what its loops hold. -/
namespace Go.Proofs.YtplldfbjbekdlaaDoor
open Go.RowKit
set_option linter.unusedVariables false
set_option linter.unusedSimpArgs false

def strs (l : List ByteArray) : List Value := l.map Value.string
theorem strs_one (l : List ByteArray) : ∀ u ∈ strs l, u.oneCell' = true := by
  intro u hu
  obtain ⟨x, _, rfl⟩ := List.mem_map.1 hu
  rfl
theorem own_blockR {w : World} {base : Nat} {e : TypeId} {size : Nat} {v : Value} {n : Nat} {xs : List Value} (h : w.ownsRow base e size v n xs) : ∀ b, v.ownBlock = some b → base ≤ b ∧ b < w.heap.size := by
  intro b hb
  rcases h.2 with ⟨rfl, _⟩ | ⟨g', cap, cur, rfl, hb', hg', _⟩
  · cases hb
  · injection hb with hb
    subst hb
    exact ⟨hb', (Array.getElem?_eq_some_iff.1 hg').1⟩
theorem own_keepR {w w' : World} {base : Nat} {e : TypeId} {size : Nat} {v : Value} {n : Nat} {xs : List Value} (h : w.ownsRow base e size v n xs) (hb : ∀ b, v.ownBlock = some b → w'.heap[b]? = w.heap[b]?) : w'.ownsRow base e size v n xs := by
  refine ⟨h.1, ?_⟩
  rcases h.2 with hn | ⟨g', cap, cur, rfl, hb', hg', r⟩
  · exact .inl hn
  · exact .inr ⟨g', cap, cur, rfl, hb', (hb g' rfl).trans hg', r⟩
theorem own_nR {w : World} {base : Nat} {e : TypeId} {size : Nat} {A : Option Addr} {n c m : Nat} {xs : List Value} (h : w.ownsRow base e size (.slice A n c) m xs) : n = m := by
  rcases h.2 with ⟨hv, hm⟩ | ⟨g, cap, cur, hv, _⟩
  · injection hv with _ e _; omega
  · injection hv
theorem own_shapeR {w : World} {base : Nat} {e : TypeId} {size : Nat} {v : Value} {n : Nat} {xs : List Value} (h : w.ownsRow base e size v n xs) : ∃ A c, v = .slice A n c := by
  rcases h.2 with ⟨rfl, hn⟩ | ⟨g', cap, cur, rfl, _⟩
  · exact ⟨none, 0, by rw [hn]⟩
  · exact ⟨_, cap, rfl⟩
theorem info_strV : (Tryd.prog.info? 9).map (fun i => (i.zero, i.size, i.bytes)) = some (some (.string ⟨#[]⟩), 1, 16) := by kernel_rfl
/-- What Parse's first loop holds: the result's block, and the parts so far. -/
structure PaS (w : World) (l : List ByteArray) (A : Option Addr) (c : Nat) (W : World) : Prop where
  bel : Below w.heap.size w W
  res : Blk W w.heap.size 27 zeroR.toList
  row : W.ownsRow (w.heap.size + 1) 9 1 (.slice A l.length c) l.length (strs l)
section
variable {w W W' W2 : World} {l : List ByteArray} {A A' : Option Addr} {c c' : Nat} {x : ByteArray}
theorem PaS.keep (h : PaS w l A c W) (hb : Below W.heap.size W W') : PaS w l A c W' :=
  ⟨h.bel.trans (hb.mono h.bel.size), h.res.keep hb, own_keepR h.row (fun b e => hb.block b (own_blockR h.row b e).2)⟩
theorem PaS.app (h : PaS w l A c W) (hown : W2.ownsRow (w.heap.size + 1) 9 1 (.slice A' (l.length + 1) c') (l.length + 1) (strs l ++ strs [x])) (hg : W.grownBy W2 (Value.slice A l.length c).ownBlock) : PaS w (l ++ [x]) A' c' W2 := by
  have hge := own_blockR h.row
  have e : strs (l ++ [x]) = strs l ++ strs [x] := by unfold strs; rw [List.map_append]
  refine ⟨h.bel.grown hg h.bel.size (fun k hk => by have := hge k hk; omega), (hg.block _ h.res.lt (fun e => by have := hge _ e.symm; omega)).trans h.res, ?_⟩
  rw [e, show (l ++ [x]).length = l.length + 1 by simp]
  exact hown
/-- A part in memory. -/
theorem PaS.part (h : PaS w l A c W) (h0 : 0 < l.length) : ∃ g, A = some ⟨g, 0, none⟩ ∧ g < W.heap.size ∧ ∀ j (hj : j < l.length), W.cell? ⟨g, j, none⟩ = some (.string l[j]) := by
  rcases h.row.2 with ⟨hv, hm⟩ | ⟨g, cap, cur, hv, hb, hg, h1, h2, h3, h4⟩
  · omega
  · have hrow := h.row
    injection hv with e1 e2 e3
    subst e1
    refine ⟨g, rfl, (Array.getElem?_eq_some_iff.1 hg).1, fun j hj => ?_⟩
    have := hrow.cells (g := g) rfl j (.string l[j]) (by unfold strs; rw [List.getElem?_map, List.getElem?_eq_getElem hj]; rfl)
    rw [addr_add, Nat.zero_add] at this
    exact this
end
/-- What Parse's second loop holds: the expression's box, and its parts so far. -/
structure AlS (W0 : World) (A : Option Addr) (n c : Nat) (ts : List RT) (W : World) : Prop where
  bel : Below W0.heap.size W0 W
  box : Blk W W0.heap.size 27 (RV.many 4 A n c).cells
  kids : Kids W (W0.heap.size + 1) (.slice A n c) ts
  len : n = ts.length
theorem AlS.new (W0 : World) (cs : Array Value) : AlS W0 none 0 0 [] ((W0.alloc (.cells cs 27)).setRow W0.heap.size (RV.many 4 none 0 0).cells.toArray) := by
  have h1 : Below W0.heap.size W0 (W0.alloc (.cells cs 27)) := (Below.refl _ _).alloc (Nat.le_refl _) _
  exact ⟨below_row h1 (Nat.le_refl _) _, setRow_heap _ _ _ _ _ (0, 0) (heap_alloc_new W0 _), Kids.nil _ _, rfl⟩
theorem AlS.drew {W0 W : World} {A : Option Addr} {n c : Nat} {ts : List RT} (h : AlS W0 A n c ts W) : AlS W0 A n c ts W.drew :=
  ⟨h.bel.drew, h.box.drew, h.kids.same (Nat.le_refl _) (fun _ _ _ => rfl), h.len⟩
theorem AlS.keep {W0 W W' : World} {A : Option Addr} {n c : Nat} {ts : List RT} (h : AlS W0 A n c ts W) (hb : Below W.heap.size W W') : AlS W0 A n c ts W' :=
  ⟨h.bel.trans (hb.mono h.bel.size), h.box.keep hb, h.kids.below hb, h.len⟩
theorem many_set (A A' : Option Addr) (n n' c c' : Nat) : (RV.many 4 A n c).cells.set 5 (.slice A' n' c') = (RV.many 4 A' n' c').cells := rfl
theorem AlS.snoc {W0 W5 W6 W7 : World} {A A' : Option Addr} {n c c' : Nat} {ts : List RT} {x : RV} {t : RT} (h : AlS W0 A n c ts W5) (h6 : Below W5.heap.size W5 W6) (vs : List RV) (h1 : vs.length = ts.length)
    (h3 : ∀ j (h1 : j < vs.length) (h2 : j < ts.length), Rep W5 (fun b => W0.heap.size + 1 ≤ b ∧ (Value.slice A n c).ownBlock ≠ some b) vs[j] ts[j]) (hx : Rep W5 (fun b => W0.heap.size + 1 ≤ b ∧ (Value.slice A n c).ownBlock ≠ some b) x t)
    (hown : W7.ownsRow (W0.heap.size + 1) 27 8 (.slice A' (n + 1) c') (n + 1) (flatR vs ++ x.cells)) (hg : W6.grownBy W7 (Value.slice A n c).ownBlock) (hv : (Value.slice A' (n + 1) c').ownBlock = (Value.slice A n c).ownBlock ∨ (Value.slice A' (n + 1) c').ownBlock = some W6.heap.size) :
    Blk W7 W0.heap.size 27 (RV.many 4 A n c).cells ∧ AlS W0 A' (n + 1) c' (ts ++ [t]) (W7.setCell ⟨W0.heap.size, 5, none⟩ (.slice A' (n + 1) c')) := by
  have h56 := h.keep h6
  have hge := h.kids.own_lt
  have hn := h.len
  have hbx : Blk W7 W0.heap.size 27 (RV.many 4 A n c).cells := (hg.block _ h56.box.lt (fun e => by have := hge _ e.symm; omega)).trans h56.box
  have hbel : Below W0.heap.size W0 W7 := h56.bel.grown hg h56.bel.size (fun k hk => by have := hge k hk; omega)
  refine ⟨hbx, hbel.setCell (p := ⟨W0.heap.size, 5, none⟩) (Nat.le_refl _) _, ?_, ?_, by rw [List.length_append, ← hn]; rfl⟩
  · have := hbx.put 5 (.slice A' (n + 1) c')
    rw [many_set] at this
    exact this
  · rw [hn] at hown hv ⊢
    rw [hn] at hg h3 hx
    exact (Kids.snoc vs h1 h3 hx (fun b hb => h6.block b hb) h6.size hown hg hv).same (by simp [World.setCell]) (fun b hb _ => Below.heap_setCell _ _ _ _ (by show b ≠ W0.heap.size; omega))
theorem alP_len {C : List UInt8 → Option RT} : ∀ {qs : List (List UInt8)} {ts : List RT}, alP C qs = some ts → ts.length = qs.length ∧ ∀ j (h1 : j < qs.length) (h2 : j < ts.length), C qs[j] = some ts[j]
  | [], ts, h => by injection h with h; subst h; exact ⟨rfl, fun j h1 => absurd h1 (by simp)⟩
  | q :: qs, ts, h => by
    unfold alP at h
    cases hc : C q with
    | none => rw [hc] at h; cases h
    | some t =>
      rw [hc] at h
      cases ha : alP C qs with
      | none => rw [ha] at h; cases h
      | some us =>
        rw [ha] at h
        simp only [Option.map_some, Option.some.injEq] at h
        subst h
        obtain ⟨i1, i2⟩ := alP_len ha
        refine ⟨by simp [i1], fun j h1 h2 => ?_⟩
        cases j with
        | zero => exact hc
        | succ j => exact i2 j (by simpa using h1) (by simpa using h2)
end Go.Proofs.YtplldfbjbekdlaaDoor

/- regex: the reference: Parse. -/
namespace Go.Proofs.YtplldfbjbekdlaaDoor
open Go.RowKit
set_option linter.unusedVariables false
set_option linter.unusedSimpArgs false

theorem ext_le (s : ByteArray) (i e : Nat) : (s.extract i e).size ≤ s.size := by
  have h : (s.extract i e).data.toList.length = (s.extract i e).size := rfl
  have h2 : s.data.toList.length = s.size := rfl
  rw [← h, ext_list, List.length_take, List.length_drop]
  omega
theorem str_cell (W : World) (x : ByteArray) : ∀ j u, (strs [x])[j]? = some u → (W.alloc (.cells #[.string x] 9)).cell? ((⟨W.heap.size, 0, none⟩ : Addr).add j) = some u := by
  intro j u hj
  rw [addr_add, Nat.zero_add]
  exact (Blk.at (Blk.fresh W 9 (strs [x])) j).trans hj
set_option maxRecDepth 100000 in
set_option maxHeartbeats 8000000 in
theorem rParse_step (d : Nat) (HR : ReAt (reP d)) : ReAt (reP (d + 1)) := by
  intro s T w hs h
  have HPc : PcAt (reP d) := fun u t W hu hp => rPiece_any HR u t W hu hp
  have HCa := hid (fun (W : World) (u : ByteArray) (t : RT) (hu : u.size ≤ 1000) (hp : caP (reP d) (d + 2) u.data.toList = some t) => rCat_any HPc (d + 2) u t W hu hp)
  have HSk := hid (fun (W : World) (t : ByteArray) (n : Nat) (ht : t.size ≤ 1000) (hn : skP (d + 2) t.data.toList = some n) => rSkip_any (d + 2) t n W ht hn)
  have hsz : s.data.toList.length = s.size := rfl
  unfold reP at h
  cases hB : baL (d + 2) s.data.toList (s.data.toList.length + 1) 0 0 [] with
  | none => rw [hB] at h; cases h
  | some y =>
    obtain ⟨PS, F⟩ := y
    rw [hB] at h
    simp only at h
    have HT := hid h
    have H := hid hB
    generalize reP d = R at *
    generalize d + 2 = d2 at *
    have hA : Below w.heap.size w (w.alloc (.cells zeroR 27)) := (Below.refl _ _).alloc (Nat.le_refl _) _
    have HS := hid (show PaS w [] none 0 (w.alloc (.cells zeroR 27)) from ⟨hA, heap_alloc_new w (.cells zeroR 27), World.ownsRow_nil _ _ _ _⟩)
    clear hB hA HPc h HR
    go_enter Tryd.func8, Tryd.ntmps8
    go_upto_region 1 with (fail)
    change Code.wp _ _ _ _ (w.alloc (.cells zeroR 27))
    generalize w.alloc (.cells zeroR 27) = w1 at *
    go_wp2_with fail
    go_loopg [3, 4, 5] (s.data.toList.length + 1) (fun k u3 u4 u5 wr => ∃ (i f : Nat) (ps : List ByteArray) (A : Option Addr) (c : Nat), f ≤ i ∧ i ≤ s.size ∧ ps.length ≤ i ∧ (∀ q ∈ ps, q.size ≤ 1000) ∧ u3 = .slice A ps.length c ∧ u4 = .int .i64 (f : Int) ∧ u5 = .int .i64 (i : Int) ∧ Hid (baL d2 s.data.toList k i f (ps.map (·.data.toList)) = some (PS, F)) ∧ Hid (PaS w ps A c wr))
    case atStart => exact ⟨0, 0, [], none, 0, Nat.le_refl _, Nat.zero_le _, Nat.le_refl _, (fun q hq => absurd hq (by simp)), rfl, rfl, rfl, H, HS⟩
    case round =>
      clear H HS
      obtain ⟨i, f, ps, A, c, hfi, his, hpi, hps, rfl, rfl, rfl, H, HS⟩ := hrel
      obtain ⟨k, rfl⟩ : ∃ k, gk = k + 1 := by
        cases gk with
        | zero => exact absurd H.out (by unfold baL; intro q; cases q)
        | succ k => exact ⟨k, rfl⟩
      have h := H.out
      clear H
      obtain ⟨i0, hi0, hz0, hz1, hz2⟩ := info_parts info_strV
      have HPs := hid hps
      clear hps
      unfold baL at h
      rw [hsz] at h
      split at h
      · rename_i hz
        injection h with h
        injection h with h1 h2
        subst h1
        subst h2
        have n9 : ¬ (i : Int) < (s.size : Int) := by omega
        clear hz HSk
        rcases ps with _ | ⟨p0, ps⟩
        · have hT := HT.out
          rw [if_pos (show (([] : List ByteArray).map (·.data.toList)).length = 0 from rfl)] at hT
          have HC1 := hid (fun W => HCa.out W s T hs hT)
          clear HT HCa hT
          go_wp2_with fail
          refine (HC1.out _).mono ?_
          rintro e w2 ⟨hb2, v, rfl, hrep⟩
          have HRs := hid (HS.out.res.keep hb2)
          have HBel := hid (HS.out.bel.trans (hb2.mono HS.out.bel.size))
          have hlt := HS.out.res.lt
          have HREP := hid (show Rep (w2.setRow w.heap.size v.cells.toArray) (w.heap.size ≤ ·) v T from hrep.mono (by simp [World.setRow]) (fun b hp _ => setRow_other _ _ _ _ (by have : wr.heap.size ≤ b := hp; omega)) (fun b h _ => by have : wr.heap.size ≤ b := h; omega))
          clear hb2 hrep HC1 HS hlt
          go_wp2_with (refine wpList_store_row rfl 27 _ _ rfl w.heap.size (v.cells.toArray) ?_ ?_ 27 zeroR HRs.out (rx_size _) ?_ (rx_one _) ?_; exact rfl; exact rfl; exact rfl)
          exact bodyPost_ret (v := .agg (v.cells.toArray)) (results_cell_row (P := Tryd.prog) (fn := Tryd.f8) rfl _ _ w.heap.size 27 _ (0, 0) _ rfl (setRow_heap _ _ _ _ _ (0, 0) HRs.out) Tryd.underlying27 rfl (rx_size _)) rfl ⟨below_row HBel.out (Nat.le_refl _) _, _, rfl, HREP.out⟩
        · have hq0 : 0 < (p0 :: ps).length := by simp
          generalize p0 :: ps = qs at *
          have hT := HT.out
          rw [if_neg (by rw [List.length_map]; omega)] at hT
          have hm : qs.map (·.data.toList) ++ [s.data.toList.drop f] = (qs ++ [s.extract f s.size]).map (·.data.toList) := by rw [List.map_append, List.map_cons, List.map_nil, ext_drop]
          rw [hm] at hT
          cases hal : alP (caP R d2) ((qs ++ [s.extract f s.size]).map (·.data.toList)) with
          | none => rw [hal] at hT; cases hT
          | some TS =>
            rw [hal] at hT
            simp only [Option.map_some, Option.some.injEq] at hT
            subst hT
            obtain ⟨hl, hat⟩ := alP_len hal
            have hxz := ext_le s f s.size
            generalize hx : s.extract f s.size = x at *
            rw [List.length_map] at hl
            have HPx := hid (show ∀ q ∈ qs ++ [x], q.size ≤ 1000 from fun q hq => by
              rcases List.mem_append.1 hq with hq | hq
              · exact HPs.out q hq
              · rw [List.mem_singleton.1 hq]; omega)
            have HAt := hid (show ∀ j (h1 : j < (qs ++ [x]).length) (h2 : j < TS.length), caP R d2 ((qs ++ [x])[j]).data.toList = some TS[j] from fun j h1 h2 => by
              have := hat j (by rw [List.length_map]; exact h1) h2
              rw [List.getElem_map] at this
              exact this)
            have HLn := hid hl
            have HS2 := hid (HS.out.keep (show Below wr.heap.size wr (wr.alloc (.cells #[.string x] 9)) from (Below.refl _ _).alloc (Nat.le_refl _) _))
            have hlt := HS.out.res.lt
            have HOwn := hid HS2.out.row
            have HCn := hid (str_cell wr x)
            have bf : (f : Int) ≤ (s.size : Int) := by omega
            have n0 : ¬ (qs.length : Int) = 0 := by omega
            have HV2 : Hid (Value.agg #[.int .i64 4, .int .u64 0, .int .u64 0, .int .u64 0, .int .u64 0, .slice none 0 0, .int .i64 0, .int .i64 0] = .agg (RV.many 4 none 0 0).cells.toArray) := hid ((many_val 4 none 0 0).symm)
            clear hal hat hm hl HT HS hxz
            go_upto_region 13 with (first
              | (refine wpList_append_own_at _ rfl _ _ 46 rfl (w.heap.size + 1) 9 i0 (.string ⟨#[]⟩) 1 16 Tryd.underlying46 hi0 hz0 hz1 hz2 rfl (by decide) _ _ _ rfl HOwn.out ⟨wr.heap.size, 0, none⟩ 1 1 (strs [x]) rfl rfl HCn.out (strs_one _) (by unfold maxLen; omega) (by omega) (by simp; omega) ?_; intro u7 w7 hown7 hgrow7 _ _; (obtain ⟨A7, c7, rfl⟩ := own_shapeR hown7; have HS7 := hid (HS2.out.app hown7 hgrow7); clear hown7 hgrow7; have HN := hid (AlS.new w7 #[.int .i64 0, .int .u64 0, .int .u64 0, .int .u64 0, .int .u64 0, .slice none 0 0, .int .i64 0, .int .i64 0])))
              | (refine wpList_store_row rfl 27 _ _ rfl w7.heap.size ((RV.many 4 none 0 0).cells.toArray) ?_ ?_ 27 #[.int .i64 0, .int .u64 0, .int .u64 0, .int .u64 0, .int .u64 0, .slice none 0 0, .int .i64 0, .int .i64 0] (heap_alloc_new w7 _) (rx_size _) ?_ (rx_one _) ?_; exact rfl; exact HV2.out; exact rfl))
            simp only [Act.put]
            generalize (w7.alloc (.cells #[.int .i64 0, .int .u64 0, .int .u64 0, .int .u64 0, .int .u64 0, .slice none 0 0, .int .i64 0, .int .i64 0] 27)).setRow w7.heap.size (RV.many 4 none 0 0).cells.toArray = w8 at *
            obtain ⟨g, rfl, hgl, hcell⟩ := HS7.out.part (by simp)
            have HCell := hid hcell
            have hlq : (qs ++ [x]).length = qs.length + 1 := by simp
            obtain ⟨m, hm⟩ : ∃ m, m = qs.length + 1 := ⟨_, rfl⟩
            have hm1 : m ≤ 1001 := by omega
            rw [← hm] at hlq ⊢
            generalize qs ++ [x] = l2 at *
            have hTm : TS.length = m := by rw [HLn.out]; exact hlq
            clear hcell n0 bf HOwn HCn HV2 HS2 hlt hm
            go_wp2_with fail
            go_loopw [7] (fun u wq => ∃ (j : Nat) (ts : List RT) (A2 : Option Addr) (c2 : Nat), j ≤ m ∧ u = .int .i64 (j : Int) ∧ Hid (ts = TS.take j) ∧ Hid (AlS w7 A2 j c2 ts wq)) (fun u _ => m - (intOf u).toNat)
            case atStart => exact ⟨0, [], none, 0, Nat.zero_le _, rfl, hid rfl, HN⟩
            case round =>
              clear HN
              obtain ⟨j, ts, A2, c2, hj, rfl, HTs, HAl⟩ := hrel
              by_cases hlt : j < m
              · have p3 : (j : Int) < (m : Int) := by omega
                have hjT : j < TS.length := by omega
                have hjl : j < l2.length := by omega
                obtain ⟨vs, hv1, hv2, hv3⟩ := HAl.out.kids.out
                have hn := HAl.out.len
                rw [← hn] at hv2
                have HV1 := hid hv1
                have HV2 := hid hv2
                have HV3 := hid hv3
                have HN := hid hn
                have HC1 := hid (HCa.out wr.drew l2[j] TS[j] (HPx.out _ (List.getElem_mem _)) (HAt.out j hjl hjT))
                have HXc := hid (show wr.drew.cell? ⟨g, j, none⟩ = some (.string l2[j]) from (World.cell?_of_block (w := w7) (w' := wr.drew) (a := ⟨g, j, none⟩) (HAl.out.bel.block g hgl)).trans (HCell.out j hjl))
                clear hv1 hv2 hv3 hn
                go_upto_region 16 with fail
                refine pr16_reg (bx := w7.heap.size) (n := j) (c := c2) (base := w7.heap.size + 1) (gp := g) (m := m) (pc := c7) (j := j) (x := l2[j]) (A := A2) (xs := flatR vs)
                  (R1 := fun y wf => Below wr.heap.size wr wf ∧ Rep wf (wr.heap.size ≤ ·) y TS[j]) (R4 := fun wx => ∃ A3 c3, AlS w7 A3 (j + 1) c3 (ts ++ [TS[j]]) wx) rfl rfl rfl (by simp) hlt HXc.out (HAl.out.box.at 5) (by omega) ?_ ?_ ?_ ?_
                · refine HC1.out.mono ?_
                  rintro e wf ⟨hb, v, rfl, hrep⟩
                  exact ⟨_, rfl, v, rfl, ⟨hb.os, hb.tape, hb.output, hb.size, hb.block⟩, hrep⟩
                · rintro y wf ⟨hb, hr⟩
                  have hk := HAl.out.keep hb
                  exact ⟨hk.box.at 5, hk.box.free 5, own_keepR HV2.out (fun b e => hb.block b (own_blockR HV2.out b e).2), hk.box.lt, hk.box.lt⟩
                · rintro y wf ⟨hb, hr⟩ g9 c9 w9 hown hgr hat
                  have hk := HAl.out.keep hb
                  have hbl := HAl.out.box.lt
                  have hol := HAl.out.kids.own_lt
                  obtain ⟨k1, k2⟩ := hk.snoc (A' := some ⟨g9, 0, none⟩) (al_belowR wf _) vs HV1.out (fun q a b => (HV3.out q a b).mono hb.size (fun b _ hl => hb.block b hl) (fun _ h _ => h)) (hr.mono (Nat.le_refl _) (fun _ _ _ => rfl) (fun b hp _ => ⟨by have : wr.heap.size ≤ b := hp; omega, fun e => by have := hol b e; have : wr.heap.size ≤ b := hp; omega⟩)) hown hgr (by
                    rcases hat with q | q
                    · exact .inl q.symm
                    · exact .inr (by rw [q]; rfl))
                  exact ⟨k1.at 5, k1.free 5, _, _, k2⟩
                · rintro f2 wx ⟨A3, c3, h4⟩
                  simp only [pr16Us, List.foldl_cons, List.foldl_nil, List.setIfInBounds_toArray, List.set_cons_zero, List.set_cons_succ]
                  have H4 := hid h4
                  clear h4
                  go_wp2_with fail
                  go_roundw
                  case rel => exact ⟨j + 1, ts ++ [TS[j]], A3, c3, by omega, by go_num, hid (by rw [HTs.out, List.take_succ_eq_append_getElem hjT]), H4⟩
                  case measure => simp [intOf]; omega
              · obtain rfl : j = m := by omega
                have hts : ts = TS := by rw [HTs.out]; exact List.take_of_length_le (by omega)
                subst hts
                have HRs := hid (show wr.heap[w.heap.size]? = some (.cells zeroR 27) from (HAl.out.bel.block _ HS7.out.res.lt).trans HS7.out.res)
                have HBel := hid (HS7.out.bel.trans (HAl.out.bel.mono HS7.out.bel.size))
                have hl7 := HS7.out.res.lt
                have HREP := hid (show Rep (wr.setRow w.heap.size (RV.many 4 A2 j c2).cells.toArray) (w.heap.size ≤ ·) (RV.many 4 A2 j c2) (.nd 4 (0#256) ts 0 0) from (HAl.out.kids.rep 4 (0#256) 0 0).mono (by simp [World.setRow]) (fun b hp _ => setRow_other _ _ _ _ (by have : w7.heap.size + 1 ≤ b := hp; omega)) (fun b h _ => by have : w7.heap.size + 1 ≤ b := h; omega))
                have hBx : wr.heap[w7.heap.size]? = some (.cells (RV.many 4 A2 j c2).cells.toArray 27) := HAl.out.box
                clear HAl HTs HCa HPx HAt HCell HLn
                go_wp2_with (first
                  | refine wpList_load_row rfl 27 _ rfl w7.heap.size rfl 27 _ (0, 0) _ hBx Tryd.underlying27 rfl (rx_size _) ?_
                  | (refine wpList_store_row rfl 27 _ _ rfl w.heap.size ((RV.many 4 A2 j c2).cells.toArray) ?_ ?_ 27 zeroR HRs.out (rx_size _) ?_ (rx_one _) ?_; exact rfl; exact rfl; exact rfl))
                exact bodyPost_ret (v := .agg ((RV.many 4 A2 j c2).cells.toArray)) (results_cell_row (P := Tryd.prog) (fn := Tryd.f8) rfl _ _ w.heap.size 27 _ (0, 0) _ rfl (setRow_heap _ _ _ _ _ (0, 0) HRs.out) Tryd.underlying27 rfl (rx_size _)) rfl ⟨below_row HBel.out (Nat.le_refl _) _, _, rfl, HREP.out⟩
      · rename_i hz
        have p1 : (i : Int) < (s.size : Int) := by omega
        have p2 : i < s.size := by omega
        cases hk : skP d2 (s.data.toList.drop i) with
        | none => rw [hk] at h; cases h
        | some n =>
          rw [hk] at h
          simp only at h
          have hn := skP_le _ _ _ hk
          rw [List.length_drop, hsz] at hn
          have hez := ext_siz s i
          have HK1 := hid (fun W => HSk.out W (s.extract i s.size) n (by omega) (by rw [ext_drop]; exact hk))
          have e0 := nx_str p2
          have bi : (i : Int) ≤ (s.size : Int) := by omega
          have bf : (f : Int) ≤ (i : Int) := by omega
          have hw1 : IntKind.i64.wrap ((i : Int) + 1) = ((i + 1 : Nat) : Int) := by rw [IntKind.wrap_i64]; omega
          have hw2 : IntKind.i64.wrap ((i : Int) + (n : Int)) = ((i + n : Nat) : Int) := by rw [IntKind.wrap_i64]; omega
          by_cases hc : nx s.data.toList i = 124
          · rw [if_pos hc, if_pos hc] at h
            rw [hc] at e0
            have hm : ps.map (·.data.toList) ++ [(s.data.toList.drop f).take (i - f)] = (ps ++ [s.extract f i]).map (·.data.toList) := by rw [List.map_append, List.map_cons, List.map_nil, ext_list]
            rw [hm] at h
            have HH := hid h
            have hxz := ext_le s f i
            generalize hx : s.extract f i = x at *
            have HPx := hid (show ∀ q ∈ ps ++ [x], q.size ≤ 1000 from fun q hq => by
              rcases List.mem_append.1 hq with hq | hq
              · exact HPs.out q hq
              · rw [List.mem_singleton.1 hq]; omega)
            clear hxz
            have HS2 := hid (HS.out.keep (show Below wr.heap.size wr (wr.alloc (.cells #[.string x] 9)) from (Below.refl _ _).alloc (Nat.le_refl _) _))
            have hlt := HS.out.res.lt
            have HOwn := hid HS2.out.row
            have HCn := hid (str_cell wr x)
            clear h hk hz hez hm hc HSk HCa HT HS hsz
            go_wp2_with (first
              | (refine wpList_append_own_at _ rfl _ _ 46 rfl (w.heap.size + 1) 9 i0 (.string ⟨#[]⟩) 1 16 Tryd.underlying46 hi0 hz0 hz1 hz2 rfl (by decide) _ _ _ rfl HOwn.out ⟨wr.heap.size, 0, none⟩ 1 1 (strs [x]) rfl rfl HCn.out (strs_one _) (by unfold maxLen; omega) (by omega) (by simp; omega) ?_; intro u7 w7 hown7 hgrow7 _ _; (obtain ⟨A7, c7, rfl⟩ := own_shapeR hown7; have HS7 := hid (HS2.out.app hown7 hgrow7); clear hown7 hgrow7))
              | (go_at_call 14; refine (HK1.out _).mono ?_; rintro e w8 ⟨rfl, hw⟩; obtain rfl := hw.symm; clear hw))
            go_roundg k
            case measure => omega
            case rel => exact ⟨i + n, i + 1, ps ++ [x], A7, c7, by omega, by omega, by simp; omega, HPx.out, by simp, by go_num, by go_num, HH, HS7⟩
          · rw [if_neg hc, if_neg hc] at h
            have HH := hid h
            have n2 : ¬ ((nx s.data.toList i : Nat) : Int) = 124 := by omega
            clear h hk hz hez hc HSk HCa HT hsz
            generalize nx s.data.toList i = x0 at *
            go_wp2_with (go_at_call 14; refine (HK1.out _).mono ?_; rintro e w8 ⟨rfl, hw⟩; obtain rfl := hw.symm; clear hw)
            go_roundg k
            case measure => omega
            case rel => exact ⟨i + n, f, ps, A, c, by omega, by omega, by omega, HPs.out, rfl, rfl, by go_num, HH, HS⟩
theorem rParse_any : ∀ d, ReAt (reP d)
  | 0 => fun s t w hs h => by cases h
  | d + 1 => rParse_step d (rParse_any d)
end Go.Proofs.YtplldfbjbekdlaaDoor
