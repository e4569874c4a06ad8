/- tree: the laws' texts: its last statement, in open order. -/
import Derived.Test.YtdhipmdapodpkaaTrC
import Derived.Test.YtdhipmdapodpkaaInv
namespace Go.Proofs.Ytdhipmdapodpkaa
set_option linter.unusedSimpArgs false
set_option linter.unusedVariables false
open Go.RowKit

theorem wp_convG {P : Program} {o : Oper} {a : Act} {w : World} {K : Act → World → Prop} {Q : Exit → Act → World → Prop} (t1 t2 : TypeId) (x : Operand) (ho : o.op = .convert t1 t2 x) (u r : Value) (hx : a.eval x = u) (hr : (convert t1 t2 u).run P w = .ok r w) (h : K (a.put o.dst r) w) : o.wp P a w K Q := by
  unfold Oper.wp
  have e : (execOp a.eval o).run P w = .ok (.value r) w := by
    unfold execOp
    simp only [ho, hx]
    simp [hr]
  rw [e]
  exact h
theorem field_2T (g : Nat) (w : World) : (Instr.fieldAt 26 (.pointer (some ⟨g, 0, none⟩)) 2).run Try.prog w = .ok (.pointer (some ⟨g, 2, none⟩)) w := by kernel_rfl
theorem load_bT {w : World} {p : Addr} {A : Option Addr} {n c : Nat} (h : w.cell? p = some (.slice A n c)) : (Instr.loadAt 23 (.pointer (some p))).run Try.prog w = .ok (.slice A n c) w := by
  simp [Instr.loadAt, h]
  go_simp
def tz5Ops : Array Oper := #[{ dst := some 33, op := Op.move (Operand.tmp 3), type := 30, pos := "law.go:15", after := #[], guard := none }, { dst := some 34, op := Op.binOp BinOp.eql 30 (Operand.tmp 33) (Operand.const (Value.int IntKind.i64 0)) 30, type := 4, pos := "law.go:15", after := #[{ on := 0, ground := Ground.data }], guard := none }, { dst := some 35, op := Op.move (Operand.tmp 34), type := 4, pos := "law.go:15", after := #[{ on := 1, ground := Ground.data }], guard := none }, { dst := some 36, op := Op.load 26 (Operand.tmp 1), type := 26, pos := "law.go:15", after := #[{ on := 2, ground := Ground.guard }], guard := some (2, true) }, { dst := some 37, op := Op.call { callee := Callee.value (Operand.func 11), args := #[Operand.tmp 36], argTypes := #[26] }, type := 9, pos := "law.go:15", after := #[{ on := 3, ground := Ground.data }, { on := 2, ground := Ground.chain }, { on := 2, ground := Ground.guard }], guard := some (2, true) }, { dst := some 38, op := Op.binOp BinOp.eql 9 (Operand.tmp 37) (Operand.const (Value.string { data := #[48, 40, 53, 44, 95, 48, 44, 48, 40, 48, 58, 54, 49, 54, 50, 41, 41] })) 9, type := 4, pos := "law.go:15", after := #[{ on := 4, ground := Ground.data }, { on := 2, ground := Ground.guard }], guard := some (2, true) }, { dst := some 39, op := Op.pick (Operand.tmp 35) (Operand.tmp 38) (Operand.const (Value.bool false)), type := 4, pos := "law.go:15", after := #[{ on := 2, ground := Ground.data }, { on := 5, ground := Ground.data }], guard := none }, { dst := some 40, op := Op.move (Operand.tmp 39), type := 4, pos := "law.go:15", after := #[{ on := 6, ground := Ground.data }, { on := 4, ground := Ground.chain }], guard := none }, { dst := some 41, op := Op.load 26 (Operand.tmp 2), type := 26, pos := "law.go:15", after := #[{ on := 7, ground := Ground.guard }], guard := some (7, true) }, { dst := some 42, op := Op.load 26 (Operand.tmp 1), type := 26, pos := "law.go:15", after := #[{ on := 7, ground := Ground.guard }], guard := some (7, true) }, { dst := some 43, op := Op.call { callee := Callee.value (Operand.func 12), args := #[Operand.tmp 41, Operand.tmp 42], argTypes := #[26, 26] }, type := 4, pos := "law.go:15", after := #[{ on := 8, ground := Ground.data }, { on := 9, ground := Ground.data }, { on := 7, ground := Ground.chain }, { on := 7, ground := Ground.guard }], guard := some (7, true) }, { dst := some 44, op := Op.pick (Operand.tmp 40) (Operand.tmp 43) (Operand.const (Value.bool false)), type := 4, pos := "law.go:15", after := #[{ on := 7, ground := Ground.data }, { on := 10, ground := Ground.data }], guard := none }, { dst := some 45, op := Op.move (Operand.tmp 44), type := 4, pos := "law.go:15", after := #[{ on := 11, ground := Ground.data }, { on := 10, ground := Ground.chain }], guard := none }, { dst := some 46, op := Op.move (Operand.tmp 5), type := 4, pos := "law.go:15", after := #[{ on := 12, ground := Ground.guard }], guard := some (12, true) }, { dst := some 47, op := Op.pick (Operand.tmp 45) (Operand.tmp 46) (Operand.const (Value.bool false)), type := 4, pos := "law.go:15", after := #[{ on := 12, ground := Ground.data }, { on := 13, ground := Ground.data }], guard := none }, { dst := some 48, op := Op.move (Operand.tmp 47), type := 4, pos := "law.go:15", after := #[{ on := 14, ground := Ground.data }, { on := 12, ground := Ground.chain }], guard := none }, { dst := some 49, op := Op.fieldAddr 26 (Operand.tmp 4) 2, type := 0, pos := "law.go:15", after := #[{ on := 15, ground := Ground.guard }], guard := some (15, true) }, { dst := some 50, op := Op.load 23 (Operand.tmp 49), type := 23, pos := "law.go:15", after := #[{ on := 16, ground := Ground.data }, { on := 15, ground := Ground.guard }], guard := some (15, true) }, { dst := some 51, op := Op.convert 23 9 (Operand.tmp 50), type := 9, pos := "law.go:15", after := #[{ on := 17, ground := Ground.data }, { on := 15, ground := Ground.guard }], guard := some (15, true) }, { dst := some 52, op := Op.binOp BinOp.eql 9 (Operand.tmp 51) (Operand.const (Value.string { data := #[97, 98] })) 9, type := 4, pos := "law.go:15", after := #[{ on := 18, ground := Ground.data }, { on := 15, ground := Ground.guard }], guard := some (15, true) }, { dst := some 53, op := Op.pick (Operand.tmp 48) (Operand.tmp 52) (Operand.const (Value.bool false)), type := 4, pos := "law.go:15", after := #[{ on := 15, ground := Ground.data }, { on := 19, ground := Ground.data }], guard := none }, { dst := some 54, op := Op.move (Operand.tmp 53), type := 4, pos := "law.go:15", after := #[{ on := 20, ground := Ground.data }, { on := 15, ground := Ground.chain }], guard := none }, { dst := some 55, op := Op.move (Operand.tmp 7), type := 4, pos := "law.go:15", after := #[{ on := 21, ground := Ground.guard }], guard := some (21, true) }, { dst := some 56, op := Op.pick (Operand.tmp 54) (Operand.tmp 55) (Operand.const (Value.bool false)), type := 4, pos := "law.go:15", after := #[{ on := 21, ground := Ground.data }, { on := 22, ground := Ground.data }], guard := none }, { dst := some 57, op := Op.move (Operand.tmp 56), type := 4, pos := "law.go:15", after := #[{ on := 23, ground := Ground.data }, { on := 21, ground := Ground.chain }], guard := none }, { dst := some 58, op := Op.load 26 (Operand.tmp 6), type := 26, pos := "law.go:15", after := #[{ on := 24, ground := Ground.guard }], guard := some (24, true) }, { dst := some 59, op := Op.call { callee := Callee.value (Operand.func 11), args := #[Operand.tmp 58], argTypes := #[26] }, type := 9, pos := "law.go:15", after := #[{ on := 25, ground := Ground.data }, { on := 24, ground := Ground.chain }, { on := 24, ground := Ground.guard }], guard := some (24, true) }, { dst := some 60, op := Op.binOp BinOp.eql 9 (Operand.tmp 59) (Operand.const (Value.string { data := #[48, 40, 55, 44, 95, 48, 44, 48, 40, 48, 58, 54, 49, 54, 50, 41, 41] })) 9, type := 4, pos := "law.go:15", after := #[{ on := 26, ground := Ground.data }, { on := 24, ground := Ground.guard }], guard := some (24, true) }, { dst := some 61, op := Op.pick (Operand.tmp 57) (Operand.tmp 60) (Operand.const (Value.bool false)), type := 4, pos := "law.go:15", after := #[{ on := 24, ground := Ground.data }, { on := 27, ground := Ground.data }], guard := none }, { dst := some 62, op := Op.move (Operand.tmp 61), type := 4, pos := "law.go:15", after := #[{ on := 28, ground := Ground.data }, { on := 26, ground := Ground.chain }], guard := none }, { dst := some 63, op := Op.load 26 (Operand.tmp 1), type := 26, pos := "law.go:15", after := #[{ on := 29, ground := Ground.guard }], guard := some (29, true) }, { dst := some 64, op := Op.call { callee := Callee.value (Operand.func 16), args := #[Operand.tmp 63], argTypes := #[26] }, type := 3, pos := "law.go:15", after := #[{ on := 30, ground := Ground.data }, { on := 29, ground := Ground.chain }, { on := 29, ground := Ground.guard }], guard := some (29, true) }, { dst := some 65, op := Op.binOp BinOp.eql 3 (Operand.tmp 64) (Operand.const (Value.int IntKind.i64 5)) 3, type := 4, pos := "law.go:15", after := #[{ on := 31, ground := Ground.data }, { on := 29, ground := Ground.guard }], guard := some (29, true) }, { dst := some 66, op := Op.pick (Operand.tmp 62) (Operand.tmp 65) (Operand.const (Value.bool false)), type := 4, pos := "law.go:15", after := #[{ on := 29, ground := Ground.data }, { on := 32, ground := Ground.data }], guard := none }, { dst := some 67, op := Op.move (Operand.tmp 66), type := 4, pos := "law.go:15", after := #[{ on := 33, ground := Ground.data }, { on := 31, ground := Ground.chain }], guard := none }, { dst := some 68, op := Op.load 26 (Operand.tmp 1), type := 26, pos := "law.go:15", after := #[{ on := 34, ground := Ground.guard }], guard := some (34, true) }, { dst := some 69, op := Op.call { callee := Callee.value (Operand.func 13), args := #[Operand.tmp 68], argTypes := #[26] }, type := 3, pos := "law.go:15", after := #[{ on := 35, ground := Ground.data }, { on := 34, ground := Ground.chain }, { on := 34, ground := Ground.guard }], guard := some (34, true) }, { dst := some 70, op := Op.binOp BinOp.eql 3 (Operand.tmp 69) (Operand.const (Value.int IntKind.i64 3)) 3, type := 4, pos := "law.go:15", after := #[{ on := 36, ground := Ground.data }, { on := 34, ground := Ground.guard }], guard := some (34, true) }, { dst := some 71, op := Op.pick (Operand.tmp 67) (Operand.tmp 70) (Operand.const (Value.bool false)), type := 4, pos := "law.go:15", after := #[{ on := 34, ground := Ground.data }, { on := 37, ground := Ground.data }], guard := none }, { dst := some 72, op := Op.move (Operand.tmp 71), type := 4, pos := "law.go:15", after := #[{ on := 38, ground := Ground.data }, { on := 36, ground := Ground.chain }], guard := none }, { dst := some 73, op := Op.load 26 (Operand.tmp 1), type := 26, pos := "law.go:15", after := #[{ on := 39, ground := Ground.guard }], guard := some (39, true) }, { dst := some 74, op := Op.load 26 (Operand.tmp 1), type := 26, pos := "law.go:15", after := #[{ on := 39, ground := Ground.guard }], guard := some (39, true) }, { dst := some 75, op := Op.call { callee := Callee.value (Operand.func 18), args := #[Operand.tmp 74], argTypes := #[26] }, type := 26, pos := "law.go:15", after := #[{ on := 41, ground := Ground.data }, { on := 39, ground := Ground.chain }, { on := 39, ground := Ground.guard }], guard := some (39, true) }, { dst := some 76, op := Op.call { callee := Callee.value (Operand.func 12), args := #[Operand.tmp 73, Operand.tmp 75], argTypes := #[26, 26] }, type := 4, pos := "law.go:15", after := #[{ on := 40, ground := Ground.data }, { on := 42, ground := Ground.data }, { on := 42, ground := Ground.chain }, { on := 39, ground := Ground.guard }], guard := some (39, true) }, { dst := some 77, op := Op.pick (Operand.tmp 72) (Operand.tmp 76) (Operand.const (Value.bool false)), type := 4, pos := "law.go:15", after := #[{ on := 39, ground := Ground.data }, { on := 43, ground := Ground.data }], guard := none }, { dst := some 78, op := Op.move (Operand.tmp 77), type := 4, pos := "law.go:15", after := #[{ on := 44, ground := Ground.data }, { on := 43, ground := Ground.chain }], guard := none }, { dst := some 79, op := Op.load 26 (Operand.tmp 1), type := 26, pos := "law.go:15", after := #[{ on := 45, ground := Ground.guard }], guard := some (45, true) }, { dst := some 80, op := Op.load 26 (Operand.tmp 6), type := 26, pos := "law.go:15", after := #[{ on := 45, ground := Ground.guard }], guard := some (45, true) }, { dst := some 81, op := Op.call { callee := Callee.value (Operand.func 12), args := #[Operand.tmp 79, Operand.tmp 80], argTypes := #[26, 26] }, type := 4, pos := "law.go:15", after := #[{ on := 46, ground := Ground.data }, { on := 47, ground := Ground.data }, { on := 45, ground := Ground.chain }, { on := 45, ground := Ground.guard }], guard := some (45, true) }, { dst := some 82, op := Op.unOp UnOp.not 4 (Operand.tmp 81), type := 4, pos := "law.go:15", after := #[{ on := 48, ground := Ground.data }, { on := 45, ground := Ground.guard }], guard := some (45, true) }, { dst := some 83, op := Op.pick (Operand.tmp 78) (Operand.tmp 82) (Operand.const (Value.bool false)), type := 4, pos := "law.go:15", after := #[{ on := 45, ground := Ground.data }, { on := 49, ground := Ground.data }], guard := none }, { dst := some 84, op := Op.move (Operand.tmp 83), type := 4, pos := "law.go:15", after := #[{ on := 50, ground := Ground.data }, { on := 48, ground := Ground.chain }], guard := none }, { dst := some 85, op := Op.pick (Operand.tmp 84) (Operand.const (Value.bool true)) (Operand.const (Value.bool false)), type := 4, pos := "law.go:15", after := #[{ on := 51, ground := Ground.data }], guard := none }, { dst := some 86, op := Op.move (Operand.tmp 85), type := 4, pos := "law.go:15", after := #[{ on := 52, ground := Ground.data }, { on := 51, ground := Ground.chain }], guard := none }, { dst := some 87, op := Op.pick (Operand.tmp 86) (Operand.const (Value.bool true)) (Operand.const (Value.bool false)), type := 4, pos := "law.go:15", after := #[{ on := 53, ground := Ground.data }], guard := none }, { dst := some 0, op := Op.assign (Operand.tmp 87), type := 4, pos := "law.go:15", after := #[{ on := 54, ground := Ground.data }, { on := 53, ground := Ground.chain }, { on := 0, ground := Ground.phase }, { on := 1, ground := Ground.phase }, { on := 2, ground := Ground.phase }, { on := 3, ground := Ground.phase }, { on := 4, ground := Ground.phase }, { on := 5, ground := Ground.phase }, { on := 6, ground := Ground.phase }, { on := 7, ground := Ground.phase }, { on := 8, ground := Ground.phase }, { on := 9, ground := Ground.phase }, { on := 10, ground := Ground.phase }, { on := 11, ground := Ground.phase }, { on := 12, ground := Ground.phase }, { on := 13, ground := Ground.phase }, { on := 14, ground := Ground.phase }, { on := 15, ground := Ground.phase }, { on := 16, ground := Ground.phase }, { on := 17, ground := Ground.phase }, { on := 18, ground := Ground.phase }, { on := 19, ground := Ground.phase }, { on := 20, ground := Ground.phase }, { on := 21, ground := Ground.phase }, { on := 22, ground := Ground.phase }, { on := 23, ground := Ground.phase }, { on := 24, ground := Ground.phase }, { on := 25, ground := Ground.phase }, { on := 26, ground := Ground.phase }, { on := 27, ground := Ground.phase }, { on := 28, ground := Ground.phase }, { on := 29, ground := Ground.phase }, { on := 30, ground := Ground.phase }, { on := 31, ground := Ground.phase }, { on := 32, ground := Ground.phase }, { on := 33, ground := Ground.phase }, { on := 34, ground := Ground.phase }, { on := 35, ground := Ground.phase }, { on := 36, ground := Ground.phase }, { on := 37, ground := Ground.phase }, { on := 38, ground := Ground.phase }, { on := 39, ground := Ground.phase }, { on := 40, ground := Ground.phase }, { on := 41, ground := Ground.phase }, { on := 42, ground := Ground.phase }, { on := 43, ground := Ground.phase }, { on := 44, ground := Ground.phase }, { on := 45, ground := Ground.phase }, { on := 46, ground := Ground.phase }, { on := 47, ground := Ground.phase }, { on := 48, ground := Ground.phase }, { on := 49, ground := Ground.phase }, { on := 50, ground := Ground.phase }, { on := 51, ground := Ground.phase }, { on := 52, ground := Ground.phase }, { on := 53, ground := Ground.phase }, { on := 54, ground := Ground.phase }], guard := none }]
def tz5Dep : Nat → List Nat := fun i => match i with | 1 => [0] | 2 => [1] | 3 => [2] | 4 => [2, 3] | 5 => [2, 4] | 6 => [2, 5] | 7 => [6] | 8 => [7] | 9 => [7] | 10 => [7, 8, 9] | 11 => [7, 10] | 12 => [11] | 13 => [12] | 14 => [12, 13] | 15 => [14] | 16 => [15] | 17 => [15, 16] | 18 => [15, 17] | 19 => [15, 18] | 20 => [15, 19] | 21 => [20] | 22 => [21] | 23 => [21, 22] | 24 => [23] | 25 => [24] | 26 => [24, 25] | 27 => [24, 26] | 28 => [24, 27] | 29 => [28] | 30 => [29] | 31 => [29, 30] | 32 => [29, 31] | 33 => [29, 32] | 34 => [33] | 35 => [34] | 36 => [34, 35] | 37 => [34, 36] | 38 => [34, 37] | 39 => [38] | 40 => [39] | 41 => [39] | 42 => [39, 41] | 43 => [42, 39, 40] | 44 => [39, 43] | 45 => [44] | 46 => [45] | 47 => [45] | 48 => [45, 46, 47] | 49 => [45, 48] | 50 => [45, 49] | 51 => [50] | 52 => [51] | 53 => [52] | 54 => [53] | 55 => [54] | _ => []
def tz5Sl : List Nat := [33, 34, 35, 36, 37, 38, 39, 40, 41, 42, 43, 44, 45, 46, 47, 48, 49, 50, 51, 52, 53, 54, 55, 56, 57, 58, 59, 60, 61, 62, 63, 64, 65, 66, 67, 68, 69, 70, 71, 72, 73, 74, 75, 76, 77, 78, 79, 80, 81, 82, 83, 84, 85, 86, 87, 0]
def tz5Vs (g1 : Nat) (g2 : Nat) (g4 : Nat) (g6 : Nat) (y : TV) (z : TV) (x : TV) (u : TV) : List (Option Value) := [some (.int .i64 0), some (.bool true), some (.bool true), some (.agg y.cells.toArray), some (Value.string { data := #[48, 40, 53, 44, 95, 48, 44, 48, 40, 48, 58, 54, 49, 54, 50, 41, 41] }), some (.bool true), some (.bool true), some (.bool true), some (.agg z.cells.toArray), some (.agg y.cells.toArray), some (.bool true), some (.bool true), some (.bool true), some (.bool true), some (.bool true), some (.bool true), some (.pointer (some ⟨g4, 2, none⟩)), some (.slice x.D.A x.D.n x.D.c), some (Value.string { data := #[97, 98] }), some (.bool true), some (.bool true), some (.bool true), some (.bool true), some (.bool true), some (.bool true), some (.agg u.cells.toArray), some (Value.string { data := #[48, 40, 55, 44, 95, 48, 44, 48, 40, 48, 58, 54, 49, 54, 50, 41, 41] }), some (.bool true), some (.bool true), some (.bool true), some (.agg y.cells.toArray), some (.int .i64 5), some (.bool true), some (.bool true), some (.bool true), some (.agg y.cells.toArray), some (.int .i64 3), some (.bool true), some (.bool true), some (.bool true), some (.agg y.cells.toArray), some (.agg y.cells.toArray), none, some (.bool true), some (.bool true), some (.bool true), some (.agg y.cells.toArray), some (.agg u.cells.toArray), some (.bool false), some (.bool true), some (.bool true), some (.bool true), some (.bool true), some (.bool true), some (.bool true), some (.bool true)]
def tz5Sp (Sc : Value → World → Prop) (i : Nat) : Value → World → Prop := match i with | 42 => Sc | _ => fun _ _ => True
theorem tz5_ks {Sc : Value → World → Prop} (kSc : ∀ v w w', Sc v w → Below w.heap.size w w' → Sc v w') : ∀ i v w w', tz5Sp Sc i v w → Below w.heap.size w w' → tz5Sp Sc i v w' := by
  intro i v w w' h hb
  unfold tz5Sp at h ⊢
  split <;> first | trivial | exact kSc _ _ _ h hb
theorem tz5_nd : tz5Sl.Nodup := by decide
def tz5Us (f : Nat → Value) : List (Nat × Value) := [(33, f 33), (34, f 34), (35, f 35), (36, f 36), (37, f 37), (38, f 38), (39, f 39), (40, f 40), (41, f 41), (42, f 42), (43, f 43), (44, f 44), (45, f 45), (46, f 46), (47, f 47), (48, f 48), (49, f 49), (50, f 50), (51, f 51), (52, f 52), (53, f 53), (54, f 54), (55, f 55), (56, f 56), (57, f 57), (58, f 58), (59, f 59), (60, f 60), (61, f 61), (62, f 62), (63, f 63), (64, f 64), (65, f 65), (66, f 66), (67, f 67), (68, f 68), (69, f 69), (70, f 70), (71, f 71), (72, f 72), (73, f 73), (74, f 74), (75, f 75), (76, f 76), (77, f 77), (78, f 78), (79, f 79), (80, f 80), (81, f 81), (82, f 82), (83, f 83), (84, f 84), (85, f 85), (86, f 86), (87, f 87), (0, f 0)]
set_option maxRecDepth 20000 in
set_option maxHeartbeats 4000000 in
theorem tz5_reg {g1 : Nat} {g2 : Nat} {g4 : Nat} {g6 : Nat} {y : TV} {z : TV} {x : TV} {u : TV} {Sc : Value → World → Prop} {W : World} {A0 : Act} {Q : Exit → Act → World → Prop} {id : Nat} (a1 : Act.at A0 1 = .pointer (some ⟨g1, 0, none⟩)) (a2 : Act.at A0 2 = .pointer (some ⟨g2, 0, none⟩)) (a3 : Act.at A0 3 = .int .i64 0) (a4 : Act.at A0 4 = .pointer (some ⟨g4, 0, none⟩)) (a5 : Act.at A0 5 = .bool true) (a6 : Act.at A0 6 = .pointer (some ⟨g6, 0, none⟩)) (a7 : Act.at A0 7 = .bool true) (hsz : 88 ≤ A0.tmps.size) (kSc : ∀ v w w', Sc v w → Below w.heap.size w w' → Sc v w') (hKg1 : Blk W g1 26 y.cells)
    (hKg2 : Blk W g2 26 z.cells)
    (hKg4 : Blk W g4 26 x.cells)
    (hKg6 : Blk W g6 26 u.cells)
    (HR : ∀ w, Below W.heap.size W w → RdB w x.D.A x.D.n [97, 98])
    (HT1 : ∀ w, Below W.heap.size W w → Calls Try.prog 11 #[.agg y.cells.toArray] w fun e w' => ∃ v, e = .returned v ∧ v = Value.string { data := #[48, 40, 53, 44, 95, 48, 44, 48, 40, 48, 58, 54, 49, 54, 50, 41, 41] } ∧ Below w.heap.size w w')
    (HT6 : ∀ w, Below W.heap.size W w → Calls Try.prog 11 #[.agg u.cells.toArray] w fun e w' => ∃ v, e = .returned v ∧ v = Value.string { data := #[48, 40, 55, 44, 95, 48, 44, 48, 40, 48, 58, 54, 49, 54, 50, 41, 41] } ∧ Below w.heap.size w w')
    (HSz : ∀ w, Below W.heap.size W w → Calls Try.prog 12 #[.agg z.cells.toArray, .agg y.cells.toArray] w fun e w' => ∃ v, e = .returned v ∧ v = .bool true ∧ Below w.heap.size w w')
    (HSu : ∀ w, Below W.heap.size W w → Calls Try.prog 12 #[.agg y.cells.toArray, .agg u.cells.toArray] w fun e w' => ∃ v, e = .returned v ∧ v = .bool false ∧ Below w.heap.size w w')
    (HPt : ∀ w, Below W.heap.size W w → Calls Try.prog 16 #[.agg y.cells.toArray] w fun e w' => ∃ v, e = .returned v ∧ v = .int .i64 5 ∧ Below w.heap.size w w')
    (HDp : ∀ w, Below W.heap.size W w → Calls Try.prog 13 #[.agg y.cells.toArray] w fun e w' => ∃ v, e = .returned v ∧ v = .int .i64 3 ∧ Below w.heap.size w w')
    (HCl : ∀ w, Below W.heap.size W w → Calls Try.prog 18 #[.agg y.cells.toArray] w fun e w' => ∃ v, e = .returned v ∧ Sc v w' ∧ Below w.heap.size w w')
    (HSc : ∀ c w, Sc c w → Below W.heap.size W w → Calls Try.prog 12 #[.agg y.cells.toArray, c] w fun e w' => ∃ v, e = .returned v ∧ v = .bool true ∧ Below w.heap.size w w')
    (hk : ∀ (f : Nat → Value) w', f 0 = .bool true → Below W.heap.size W w' → Q .normal ⟨(tz5Us f).foldl (fun A p => A.setIfInBounds p.1 p.2) A0.tmps, A0.defers⟩ w') :
    (Code.region id tz5Ops true).wp Try.prog Q A0 W := by
  refine wp_region_fun3 (by kernel_rfl) (fun L f w => FlatC W.drew tz5Sl (tz5Vs g1 g2 g4 g6 y z x u) (tz5Sp Sc) L f w) [33, 34, 35, 36, 37, 38, 39, 40, 41, 42, 43, 44, 45, 46, 47, 48, 49, 50, 51, 52, 53, 54, 55, 56, 57, 58, 59, 60, 61, 62, 63, 64, 65, 66, 67, 68, 69, 70, 71, 72, 73, 74, 75, 76, 77, 78, 79, 80, 81, 82, 83, 84, 85, 86, 87, 0] (fun i o ho => (wf_ops3 (ops := tz5Ops) (by kernel_rfl)) i o ho) (fun i o ho u hu => ?_) ?_ ?_ ?_
  · have := ops_dst [33, 34, 35, 36, 37, 38, 39, 40, 41, 42, 43, 44, 45, 46, 47, 48, 49, 50, 51, 52, 53, 54, 55, 56, 57, 58, 59, 60, 61, 62, 63, 64, 65, 66, 67, 68, 69, 70, 71, 72, 73, 74, 75, 76, 77, 78, 79, 80, 81, 82, 83, 84, 85, 86, 87, 0] 88 (by kernel_rfl) i o ho u hu
    exact ⟨this.1, Nat.lt_of_lt_of_le this.2 hsz⟩
  · have hs : tz5Ops.size = 56 := rfl
    rw [hs]
    exact FlatC.start rfl rfl
  · rintro L i o ho hLi haf b w hf hc K hK
    have hdep := ops_deps tz5Dep (by kernel_rfl) ho haf
    clear haf
    have hbw : Below W.heap.size W w := ⟨hc.bel.os, hc.bel.tape, hc.bel.output, hc.bel.size, hc.bel.block⟩
    have hs : tz5Ops.size = 56 := rfl
    have hlt : i < 56 := hs ▸ (Array.getElem?_eq_some_iff.1 ho).1
    have hcases : i = 0 ∨ i = 1 ∨ i = 2 ∨ i = 3 ∨ i = 4 ∨ i = 5 ∨ i = 6 ∨ i = 7 ∨ i = 8 ∨ i = 9 ∨ i = 10 ∨ i = 11 ∨ i = 12 ∨ i = 13 ∨ i = 14 ∨ i = 15 ∨ i = 16 ∨ i = 17 ∨ i = 18 ∨ i = 19 ∨ i = 20 ∨ i = 21 ∨ i = 22 ∨ i = 23 ∨ i = 24 ∨ i = 25 ∨ i = 26 ∨ i = 27 ∨ i = 28 ∨ i = 29 ∨ i = 30 ∨ i = 31 ∨ i = 32 ∨ i = 33 ∨ i = 34 ∨ i = 35 ∨ i = 36 ∨ i = 37 ∨ i = 38 ∨ i = 39 ∨ i = 40 ∨ i = 41 ∨ i = 42 ∨ i = 43 ∨ i = 44 ∨ i = 45 ∨ i = 46 ∨ i = 47 ∨ i = 48 ∨ i = 49 ∨ i = 50 ∨ i = 51 ∨ i = 52 ∨ i = 53 ∨ i = 54 ∨ i = 55 := by omega
    clear hlt
    rcases hcases with rfl | rfl | rfl | rfl | rfl | rfl | rfl | rfl | rfl | rfl | rfl | rfl | rfl | rfl | rfl | rfl | rfl | rfl | rfl | rfl | rfl | rfl | rfl | rfl | rfl | rfl | rfl | rfl | rfl | rfl | rfl | rfl | rfl | rfl | rfl | rfl | rfl | rfl | rfl | rfl | rfl | rfl | rfl | rfl | rfl | rfl | rfl | rfl | rfl | rfl | rfl | rfl | rfl | rfl | rfl | rfl
    · have h1 : (tz5Ops[0]?).map (·.dst) = some (some 33) := by kernel_rfl
      have h2 : (tz5Ops[0]?).map (·.op) = some (Op.move (Operand.tmp 3)) := by kernel_rfl
      have h3 : (tz5Ops[0]?).map (·.guard) = some none := by kernel_rfl
      rw [ho] at h1 h2 h3
      replace h1 := Option.some.inj h1
      replace h2 := Option.some.inj h2
      replace h3 := Option.some.inj h3
      simp only at h1 h2 h3
      rw [h1] at hK
      refine ⟨fun _ => ?_, fun hw => by rw [wanted_none h3] at hw; cases hw⟩
      refine wp_moveG _ h2 _ ((hf 3 (by decide)).trans a3) ?_
      rw [h1]
      exact hK _ _ (FlatC.step tz5_nd (tz5_ks kSc) rfl hc 0 (by decide) (Below.refl _ _) (fun u hu => by injection hu with hu; injection hu) (trivial))
    · have h1 : (tz5Ops[1]?).map (·.dst) = some (some 34) := by kernel_rfl
      have h2 : (tz5Ops[1]?).map (·.op) = some (Op.binOp BinOp.eql 30 (Operand.tmp 33) (Operand.const (Value.int IntKind.i64 0)) 30) := by kernel_rfl
      have h3 : (tz5Ops[1]?).map (·.guard) = some none := by kernel_rfl
      rw [ho] at h1 h2 h3
      replace h1 := Option.some.inj h1
      replace h2 := Option.some.inj h2
      replace h3 := Option.some.inj h3
      simp only at h1 h2 h3
      rw [h1] at hK
      have l0 : L 0 = true := hdep 0 (by simp [tz5Dep])
      refine ⟨fun _ => ?_, fun hw => by rw [wanted_none h3] at hw; cases hw⟩
      refine wp_binG _ _ _ _ _ h2 _ _ (.bool true) (show Act.at b 33 = .int .i64 0 from hc.v 0 l0 _ rfl) rfl (by kernel_rfl) (by kernel_rfl) ?_
      rw [h1]
      exact hK _ _ (FlatC.step tz5_nd (tz5_ks kSc) rfl hc 1 (by decide) (Below.refl _ _) (fun u hu => by injection hu with hu; injection hu) (trivial))
    · have h1 : (tz5Ops[2]?).map (·.dst) = some (some 35) := by kernel_rfl
      have h2 : (tz5Ops[2]?).map (·.op) = some (Op.move (Operand.tmp 34)) := by kernel_rfl
      have h3 : (tz5Ops[2]?).map (·.guard) = some none := by kernel_rfl
      rw [ho] at h1 h2 h3
      replace h1 := Option.some.inj h1
      replace h2 := Option.some.inj h2
      replace h3 := Option.some.inj h3
      simp only at h1 h2 h3
      rw [h1] at hK
      have l1 : L 1 = true := hdep 1 (by simp [tz5Dep])
      refine ⟨fun _ => ?_, fun hw => by rw [wanted_none h3] at hw; cases hw⟩
      refine wp_moveG _ h2 _ (show Act.at b 34 = .bool true from hc.v 1 l1 _ rfl) ?_
      rw [h1]
      exact hK _ _ (FlatC.step tz5_nd (tz5_ks kSc) rfl hc 2 (by decide) (Below.refl _ _) (fun u hu => by injection hu with hu; injection hu) (trivial))
    · have h1 : (tz5Ops[3]?).map (·.dst) = some (some 36) := by kernel_rfl
      have h2 : (tz5Ops[3]?).map (·.op) = some (Op.load 26 (Operand.tmp 1)) := by kernel_rfl
      have h3 : (tz5Ops[3]?).map (·.guard) = some (some (2, true)) := by kernel_rfl
      rw [ho] at h1 h2 h3
      replace h1 := Option.some.inj h1
      replace h2 := Option.some.inj h2
      replace h3 := Option.some.inj h3
      simp only at h1 h2 h3
      rw [h1] at hK
      have l2 : L 2 = true := hdep 2 (by simp [tz5Dep])
      have hw := wanted_of (ops := tz5Ops) (b := b) h3 (d := 35) (by kernel_rfl) (show Act.at b 35 = .bool true from hc.v 2 l2 _ rfl)
      rw [hw]
      refine ⟨fun _ => ?_, fun hq => absurd hq (by decide)⟩
      refine wp_load_row 26 (.tmp 1) h2 g1 ((hf 1 (by decide)).trans a1) 26 y.cells.toArray (0, 0) _ ((hbw.block g1 hKg1.lt).trans hKg1) Try.underlying26 rfl (tv_size y) ?_
      rw [h1]
      exact hK _ _ (FlatC.step tz5_nd (tz5_ks kSc) rfl hc 3 (by decide) (Below.refl _ _) (fun u hu => by injection hu with hu; injection hu) (trivial))
    · have h1 : (tz5Ops[4]?).map (·.dst) = some (some 37) := by kernel_rfl
      have h2 : (tz5Ops[4]?).map (·.op) = some (Op.call { callee := Callee.value (Operand.func 11), args := #[Operand.tmp 36], argTypes := #[26] }) := by kernel_rfl
      have h3 : (tz5Ops[4]?).map (·.guard) = some (some (2, true)) := by kernel_rfl
      rw [ho] at h1 h2 h3
      replace h1 := Option.some.inj h1
      replace h2 := Option.some.inj h2
      replace h3 := Option.some.inj h3
      simp only at h1 h2 h3
      rw [h1] at hK
      have l2 : L 2 = true := hdep 2 (by simp [tz5Dep])
      have l3 : L 3 = true := hdep 3 (by simp [tz5Dep])
      have hw := wanted_of (ops := tz5Ops) (b := b) h3 (d := 35) (by kernel_rfl) (show Act.at b 35 = .bool true from hc.v 2 l2 _ rfl)
      rw [hw]
      refine ⟨fun _ => ?_, fun hq => absurd hq (by decide)⟩
      refine wp_callG 11 _ _ h2 (enters_of Try.func11 (by kernel_rfl) rfl) #[.agg y.cells.toArray] (by simp [show b.eval (.tmp 36) = _ from (show Act.at b 36 = .agg y.cells.toArray from hc.v 3 l3 _ rfl)]) _ (HT1 w hbw) ?_
      rintro v w2 ⟨rfl, hb2⟩
      rw [h1]
      exact hK _ _ (FlatC.step tz5_nd (tz5_ks kSc) rfl hc 4 (by decide) (hb2) (fun u hu => by injection hu with hu; injection hu) (trivial))
    · have h1 : (tz5Ops[5]?).map (·.dst) = some (some 38) := by kernel_rfl
      have h2 : (tz5Ops[5]?).map (·.op) = some (Op.binOp BinOp.eql 9 (Operand.tmp 37) (Operand.const (Value.string { data := #[48, 40, 53, 44, 95, 48, 44, 48, 40, 48, 58, 54, 49, 54, 50, 41, 41] })) 9) := by kernel_rfl
      have h3 : (tz5Ops[5]?).map (·.guard) = some (some (2, true)) := by kernel_rfl
      rw [ho] at h1 h2 h3
      replace h1 := Option.some.inj h1
      replace h2 := Option.some.inj h2
      replace h3 := Option.some.inj h3
      simp only at h1 h2 h3
      rw [h1] at hK
      have l2 : L 2 = true := hdep 2 (by simp [tz5Dep])
      have l4 : L 4 = true := hdep 4 (by simp [tz5Dep])
      have hw := wanted_of (ops := tz5Ops) (b := b) h3 (d := 35) (by kernel_rfl) (show Act.at b 35 = .bool true from hc.v 2 l2 _ rfl)
      rw [hw]
      refine ⟨fun _ => ?_, fun hq => absurd hq (by decide)⟩
      refine wp_binG _ _ _ _ _ h2 _ _ (.bool true) (show Act.at b 37 = Value.string { data := #[48, 40, 53, 44, 95, 48, 44, 48, 40, 48, 58, 54, 49, 54, 50, 41, 41] } from hc.v 4 l4 _ rfl) rfl (by kernel_rfl) (by kernel_rfl) ?_
      rw [h1]
      exact hK _ _ (FlatC.step tz5_nd (tz5_ks kSc) rfl hc 5 (by decide) (Below.refl _ _) (fun u hu => by injection hu with hu; injection hu) (trivial))
    · have h1 : (tz5Ops[6]?).map (·.dst) = some (some 39) := by kernel_rfl
      have h2 : (tz5Ops[6]?).map (·.op) = some (Op.pick (Operand.tmp 35) (Operand.tmp 38) (Operand.const (Value.bool false))) := by kernel_rfl
      have h3 : (tz5Ops[6]?).map (·.guard) = some none := by kernel_rfl
      rw [ho] at h1 h2 h3
      replace h1 := Option.some.inj h1
      replace h2 := Option.some.inj h2
      replace h3 := Option.some.inj h3
      simp only at h1 h2 h3
      rw [h1] at hK
      have l2 : L 2 = true := hdep 2 (by simp [tz5Dep])
      have l5 : L 5 = true := hdep 5 (by simp [tz5Dep])
      refine ⟨fun _ => ?_, fun hw => by rw [wanted_none h3] at hw; cases hw⟩
      refine wp_pickG _ _ _ h2 true (show Act.at b 35 = .bool true from hc.v 2 l2 _ rfl) _ (if_pos rfl |>.trans (show Act.at b 38 = .bool true from hc.v 5 l5 _ rfl)) ?_
      rw [h1]
      exact hK _ _ (FlatC.step tz5_nd (tz5_ks kSc) rfl hc 6 (by decide) (Below.refl _ _) (fun u hu => by injection hu with hu; injection hu) (trivial))
    · have h1 : (tz5Ops[7]?).map (·.dst) = some (some 40) := by kernel_rfl
      have h2 : (tz5Ops[7]?).map (·.op) = some (Op.move (Operand.tmp 39)) := by kernel_rfl
      have h3 : (tz5Ops[7]?).map (·.guard) = some none := by kernel_rfl
      rw [ho] at h1 h2 h3
      replace h1 := Option.some.inj h1
      replace h2 := Option.some.inj h2
      replace h3 := Option.some.inj h3
      simp only at h1 h2 h3
      rw [h1] at hK
      have l6 : L 6 = true := hdep 6 (by simp [tz5Dep])
      refine ⟨fun _ => ?_, fun hw => by rw [wanted_none h3] at hw; cases hw⟩
      refine wp_moveG _ h2 _ (show Act.at b 39 = .bool true from hc.v 6 l6 _ rfl) ?_
      rw [h1]
      exact hK _ _ (FlatC.step tz5_nd (tz5_ks kSc) rfl hc 7 (by decide) (Below.refl _ _) (fun u hu => by injection hu with hu; injection hu) (trivial))
    · have h1 : (tz5Ops[8]?).map (·.dst) = some (some 41) := by kernel_rfl
      have h2 : (tz5Ops[8]?).map (·.op) = some (Op.load 26 (Operand.tmp 2)) := by kernel_rfl
      have h3 : (tz5Ops[8]?).map (·.guard) = some (some (7, true)) := by kernel_rfl
      rw [ho] at h1 h2 h3
      replace h1 := Option.some.inj h1
      replace h2 := Option.some.inj h2
      replace h3 := Option.some.inj h3
      simp only at h1 h2 h3
      rw [h1] at hK
      have l7 : L 7 = true := hdep 7 (by simp [tz5Dep])
      have hw := wanted_of (ops := tz5Ops) (b := b) h3 (d := 40) (by kernel_rfl) (show Act.at b 40 = .bool true from hc.v 7 l7 _ rfl)
      rw [hw]
      refine ⟨fun _ => ?_, fun hq => absurd hq (by decide)⟩
      refine wp_load_row 26 (.tmp 2) h2 g2 ((hf 2 (by decide)).trans a2) 26 z.cells.toArray (0, 0) _ ((hbw.block g2 hKg2.lt).trans hKg2) Try.underlying26 rfl (tv_size z) ?_
      rw [h1]
      exact hK _ _ (FlatC.step tz5_nd (tz5_ks kSc) rfl hc 8 (by decide) (Below.refl _ _) (fun u hu => by injection hu with hu; injection hu) (trivial))
    · have h1 : (tz5Ops[9]?).map (·.dst) = some (some 42) := by kernel_rfl
      have h2 : (tz5Ops[9]?).map (·.op) = some (Op.load 26 (Operand.tmp 1)) := by kernel_rfl
      have h3 : (tz5Ops[9]?).map (·.guard) = some (some (7, true)) := by kernel_rfl
      rw [ho] at h1 h2 h3
      replace h1 := Option.some.inj h1
      replace h2 := Option.some.inj h2
      replace h3 := Option.some.inj h3
      simp only at h1 h2 h3
      rw [h1] at hK
      have l7 : L 7 = true := hdep 7 (by simp [tz5Dep])
      have hw := wanted_of (ops := tz5Ops) (b := b) h3 (d := 40) (by kernel_rfl) (show Act.at b 40 = .bool true from hc.v 7 l7 _ rfl)
      rw [hw]
      refine ⟨fun _ => ?_, fun hq => absurd hq (by decide)⟩
      refine wp_load_row 26 (.tmp 1) h2 g1 ((hf 1 (by decide)).trans a1) 26 y.cells.toArray (0, 0) _ ((hbw.block g1 hKg1.lt).trans hKg1) Try.underlying26 rfl (tv_size y) ?_
      rw [h1]
      exact hK _ _ (FlatC.step tz5_nd (tz5_ks kSc) rfl hc 9 (by decide) (Below.refl _ _) (fun u hu => by injection hu with hu; injection hu) (trivial))
    · have h1 : (tz5Ops[10]?).map (·.dst) = some (some 43) := by kernel_rfl
      have h2 : (tz5Ops[10]?).map (·.op) = some (Op.call { callee := Callee.value (Operand.func 12), args := #[Operand.tmp 41, Operand.tmp 42], argTypes := #[26, 26] }) := by kernel_rfl
      have h3 : (tz5Ops[10]?).map (·.guard) = some (some (7, true)) := by kernel_rfl
      rw [ho] at h1 h2 h3
      replace h1 := Option.some.inj h1
      replace h2 := Option.some.inj h2
      replace h3 := Option.some.inj h3
      simp only at h1 h2 h3
      rw [h1] at hK
      have l7 : L 7 = true := hdep 7 (by simp [tz5Dep])
      have l8 : L 8 = true := hdep 8 (by simp [tz5Dep])
      have l9 : L 9 = true := hdep 9 (by simp [tz5Dep])
      have hw := wanted_of (ops := tz5Ops) (b := b) h3 (d := 40) (by kernel_rfl) (show Act.at b 40 = .bool true from hc.v 7 l7 _ rfl)
      rw [hw]
      refine ⟨fun _ => ?_, fun hq => absurd hq (by decide)⟩
      refine wp_callG 12 _ _ h2 (enters_of Try.func12 (by kernel_rfl) rfl) #[.agg z.cells.toArray, .agg y.cells.toArray] (by simp [show b.eval (.tmp 41) = _ from (show Act.at b 41 = .agg z.cells.toArray from hc.v 8 l8 _ rfl), show b.eval (.tmp 42) = _ from (show Act.at b 42 = .agg y.cells.toArray from hc.v 9 l9 _ rfl)]) _ (HSz w hbw) ?_
      rintro v w2 ⟨rfl, hb2⟩
      rw [h1]
      exact hK _ _ (FlatC.step tz5_nd (tz5_ks kSc) rfl hc 10 (by decide) (hb2) (fun u hu => by injection hu with hu; injection hu) (trivial))
    · have h1 : (tz5Ops[11]?).map (·.dst) = some (some 44) := by kernel_rfl
      have h2 : (tz5Ops[11]?).map (·.op) = some (Op.pick (Operand.tmp 40) (Operand.tmp 43) (Operand.const (Value.bool false))) := by kernel_rfl
      have h3 : (tz5Ops[11]?).map (·.guard) = some none := by kernel_rfl
      rw [ho] at h1 h2 h3
      replace h1 := Option.some.inj h1
      replace h2 := Option.some.inj h2
      replace h3 := Option.some.inj h3
      simp only at h1 h2 h3
      rw [h1] at hK
      have l7 : L 7 = true := hdep 7 (by simp [tz5Dep])
      have l10 : L 10 = true := hdep 10 (by simp [tz5Dep])
      refine ⟨fun _ => ?_, fun hw => by rw [wanted_none h3] at hw; cases hw⟩
      refine wp_pickG _ _ _ h2 true (show Act.at b 40 = .bool true from hc.v 7 l7 _ rfl) _ (if_pos rfl |>.trans (show Act.at b 43 = .bool true from hc.v 10 l10 _ rfl)) ?_
      rw [h1]
      exact hK _ _ (FlatC.step tz5_nd (tz5_ks kSc) rfl hc 11 (by decide) (Below.refl _ _) (fun u hu => by injection hu with hu; injection hu) (trivial))
    · have h1 : (tz5Ops[12]?).map (·.dst) = some (some 45) := by kernel_rfl
      have h2 : (tz5Ops[12]?).map (·.op) = some (Op.move (Operand.tmp 44)) := by kernel_rfl
      have h3 : (tz5Ops[12]?).map (·.guard) = some none := by kernel_rfl
      rw [ho] at h1 h2 h3
      replace h1 := Option.some.inj h1
      replace h2 := Option.some.inj h2
      replace h3 := Option.some.inj h3
      simp only at h1 h2 h3
      rw [h1] at hK
      have l11 : L 11 = true := hdep 11 (by simp [tz5Dep])
      refine ⟨fun _ => ?_, fun hw => by rw [wanted_none h3] at hw; cases hw⟩
      refine wp_moveG _ h2 _ (show Act.at b 44 = .bool true from hc.v 11 l11 _ rfl) ?_
      rw [h1]
      exact hK _ _ (FlatC.step tz5_nd (tz5_ks kSc) rfl hc 12 (by decide) (Below.refl _ _) (fun u hu => by injection hu with hu; injection hu) (trivial))
    · have h1 : (tz5Ops[13]?).map (·.dst) = some (some 46) := by kernel_rfl
      have h2 : (tz5Ops[13]?).map (·.op) = some (Op.move (Operand.tmp 5)) := by kernel_rfl
      have h3 : (tz5Ops[13]?).map (·.guard) = some (some (12, true)) := by kernel_rfl
      rw [ho] at h1 h2 h3
      replace h1 := Option.some.inj h1
      replace h2 := Option.some.inj h2
      replace h3 := Option.some.inj h3
      simp only at h1 h2 h3
      rw [h1] at hK
      have l12 : L 12 = true := hdep 12 (by simp [tz5Dep])
      have hw := wanted_of (ops := tz5Ops) (b := b) h3 (d := 45) (by kernel_rfl) (show Act.at b 45 = .bool true from hc.v 12 l12 _ rfl)
      rw [hw]
      refine ⟨fun _ => ?_, fun hq => absurd hq (by decide)⟩
      refine wp_moveG _ h2 _ ((hf 5 (by decide)).trans a5) ?_
      rw [h1]
      exact hK _ _ (FlatC.step tz5_nd (tz5_ks kSc) rfl hc 13 (by decide) (Below.refl _ _) (fun u hu => by injection hu with hu; injection hu) (trivial))
    · have h1 : (tz5Ops[14]?).map (·.dst) = some (some 47) := by kernel_rfl
      have h2 : (tz5Ops[14]?).map (·.op) = some (Op.pick (Operand.tmp 45) (Operand.tmp 46) (Operand.const (Value.bool false))) := by kernel_rfl
      have h3 : (tz5Ops[14]?).map (·.guard) = some none := by kernel_rfl
      rw [ho] at h1 h2 h3
      replace h1 := Option.some.inj h1
      replace h2 := Option.some.inj h2
      replace h3 := Option.some.inj h3
      simp only at h1 h2 h3
      rw [h1] at hK
      have l12 : L 12 = true := hdep 12 (by simp [tz5Dep])
      have l13 : L 13 = true := hdep 13 (by simp [tz5Dep])
      refine ⟨fun _ => ?_, fun hw => by rw [wanted_none h3] at hw; cases hw⟩
      refine wp_pickG _ _ _ h2 true (show Act.at b 45 = .bool true from hc.v 12 l12 _ rfl) _ (if_pos rfl |>.trans (show Act.at b 46 = .bool true from hc.v 13 l13 _ rfl)) ?_
      rw [h1]
      exact hK _ _ (FlatC.step tz5_nd (tz5_ks kSc) rfl hc 14 (by decide) (Below.refl _ _) (fun u hu => by injection hu with hu; injection hu) (trivial))
    · have h1 : (tz5Ops[15]?).map (·.dst) = some (some 48) := by kernel_rfl
      have h2 : (tz5Ops[15]?).map (·.op) = some (Op.move (Operand.tmp 47)) := by kernel_rfl
      have h3 : (tz5Ops[15]?).map (·.guard) = some none := by kernel_rfl
      rw [ho] at h1 h2 h3
      replace h1 := Option.some.inj h1
      replace h2 := Option.some.inj h2
      replace h3 := Option.some.inj h3
      simp only at h1 h2 h3
      rw [h1] at hK
      have l14 : L 14 = true := hdep 14 (by simp [tz5Dep])
      refine ⟨fun _ => ?_, fun hw => by rw [wanted_none h3] at hw; cases hw⟩
      refine wp_moveG _ h2 _ (show Act.at b 47 = .bool true from hc.v 14 l14 _ rfl) ?_
      rw [h1]
      exact hK _ _ (FlatC.step tz5_nd (tz5_ks kSc) rfl hc 15 (by decide) (Below.refl _ _) (fun u hu => by injection hu with hu; injection hu) (trivial))
    · have h1 : (tz5Ops[16]?).map (·.dst) = some (some 49) := by kernel_rfl
      have h2 : (tz5Ops[16]?).map (·.op) = some (Op.fieldAddr 26 (Operand.tmp 4) 2) := by kernel_rfl
      have h3 : (tz5Ops[16]?).map (·.guard) = some (some (15, true)) := by kernel_rfl
      rw [ho] at h1 h2 h3
      replace h1 := Option.some.inj h1
      replace h2 := Option.some.inj h2
      replace h3 := Option.some.inj h3
      simp only at h1 h2 h3
      rw [h1] at hK
      have l15 : L 15 = true := hdep 15 (by simp [tz5Dep])
      have hw := wanted_of (ops := tz5Ops) (b := b) h3 (d := 48) (by kernel_rfl) (show Act.at b 48 = .bool true from hc.v 15 l15 _ rfl)
      rw [hw]
      refine ⟨fun _ => ?_, fun hq => absurd hq (by decide)⟩
      refine wp_fieldG _ _ _ h2 _ _ ((hf 4 (by decide)).trans a4) (field_2T g4 w) ?_
      rw [h1]
      exact hK _ _ (FlatC.step tz5_nd (tz5_ks kSc) rfl hc 16 (by decide) (Below.refl _ _) (fun u hu => by injection hu with hu; injection hu) (trivial))
    · have h1 : (tz5Ops[17]?).map (·.dst) = some (some 50) := by kernel_rfl
      have h2 : (tz5Ops[17]?).map (·.op) = some (Op.load 23 (Operand.tmp 49)) := by kernel_rfl
      have h3 : (tz5Ops[17]?).map (·.guard) = some (some (15, true)) := by kernel_rfl
      rw [ho] at h1 h2 h3
      replace h1 := Option.some.inj h1
      replace h2 := Option.some.inj h2
      replace h3 := Option.some.inj h3
      simp only at h1 h2 h3
      rw [h1] at hK
      have l15 : L 15 = true := hdep 15 (by simp [tz5Dep])
      have l16 : L 16 = true := hdep 16 (by simp [tz5Dep])
      have hw := wanted_of (ops := tz5Ops) (b := b) h3 (d := 48) (by kernel_rfl) (show Act.at b 48 = .bool true from hc.v 15 l15 _ rfl)
      rw [hw]
      refine ⟨fun _ => ?_, fun hq => absurd hq (by decide)⟩
      refine wp_loadG _ _ h2 _ _ (show Act.at b 49 = .pointer (some ⟨g4, 2, none⟩) from hc.v 16 l16 _ rfl) (load_bT (by have h := Blk.at (show Blk w g4 26 x.cells from (hbw.block g4 hKg4.lt).trans hKg4) 2; exact h)) ?_
      rw [h1]
      exact hK _ _ (FlatC.step tz5_nd (tz5_ks kSc) rfl hc 17 (by decide) (Below.refl _ _) (fun u hu => by injection hu with hu; injection hu) (trivial))
    · have h1 : (tz5Ops[18]?).map (·.dst) = some (some 51) := by kernel_rfl
      have h2 : (tz5Ops[18]?).map (·.op) = some (Op.convert 23 9 (Operand.tmp 50)) := by kernel_rfl
      have h3 : (tz5Ops[18]?).map (·.guard) = some (some (15, true)) := by kernel_rfl
      rw [ho] at h1 h2 h3
      replace h1 := Option.some.inj h1
      replace h2 := Option.some.inj h2
      replace h3 := Option.some.inj h3
      simp only at h1 h2 h3
      rw [h1] at hK
      have l15 : L 15 = true := hdep 15 (by simp [tz5Dep])
      have l17 : L 17 = true := hdep 17 (by simp [tz5Dep])
      have hw := wanted_of (ops := tz5Ops) (b := b) h3 (d := 48) (by kernel_rfl) (show Act.at b 48 = .bool true from hc.v 15 l15 _ rfl)
      rw [hw]
      refine ⟨fun _ => ?_, fun hq => absurd hq (by decide)⟩
      refine wp_convG _ _ _ h2 _ _ (show Act.at b 50 = .slice x.D.A x.D.n x.D.c from hc.v 17 l17 _ rfl) (run_str (HR w hbw) _) ?_
      rw [h1]
      exact hK _ _ (FlatC.step tz5_nd (tz5_ks kSc) rfl hc 18 (by decide) (Below.refl _ _) (fun u hu => by injection hu with hu; injection hu) (trivial))
    · have h1 : (tz5Ops[19]?).map (·.dst) = some (some 52) := by kernel_rfl
      have h2 : (tz5Ops[19]?).map (·.op) = some (Op.binOp BinOp.eql 9 (Operand.tmp 51) (Operand.const (Value.string { data := #[97, 98] })) 9) := by kernel_rfl
      have h3 : (tz5Ops[19]?).map (·.guard) = some (some (15, true)) := by kernel_rfl
      rw [ho] at h1 h2 h3
      replace h1 := Option.some.inj h1
      replace h2 := Option.some.inj h2
      replace h3 := Option.some.inj h3
      simp only at h1 h2 h3
      rw [h1] at hK
      have l15 : L 15 = true := hdep 15 (by simp [tz5Dep])
      have l18 : L 18 = true := hdep 18 (by simp [tz5Dep])
      have hw := wanted_of (ops := tz5Ops) (b := b) h3 (d := 48) (by kernel_rfl) (show Act.at b 48 = .bool true from hc.v 15 l15 _ rfl)
      rw [hw]
      refine ⟨fun _ => ?_, fun hq => absurd hq (by decide)⟩
      refine wp_binG _ _ _ _ _ h2 _ _ (.bool true) (show Act.at b 51 = Value.string { data := #[97, 98] } from hc.v 18 l18 _ rfl) rfl (by kernel_rfl) (by kernel_rfl) ?_
      rw [h1]
      exact hK _ _ (FlatC.step tz5_nd (tz5_ks kSc) rfl hc 19 (by decide) (Below.refl _ _) (fun u hu => by injection hu with hu; injection hu) (trivial))
    · have h1 : (tz5Ops[20]?).map (·.dst) = some (some 53) := by kernel_rfl
      have h2 : (tz5Ops[20]?).map (·.op) = some (Op.pick (Operand.tmp 48) (Operand.tmp 52) (Operand.const (Value.bool false))) := by kernel_rfl
      have h3 : (tz5Ops[20]?).map (·.guard) = some none := by kernel_rfl
      rw [ho] at h1 h2 h3
      replace h1 := Option.some.inj h1
      replace h2 := Option.some.inj h2
      replace h3 := Option.some.inj h3
      simp only at h1 h2 h3
      rw [h1] at hK
      have l15 : L 15 = true := hdep 15 (by simp [tz5Dep])
      have l19 : L 19 = true := hdep 19 (by simp [tz5Dep])
      refine ⟨fun _ => ?_, fun hw => by rw [wanted_none h3] at hw; cases hw⟩
      refine wp_pickG _ _ _ h2 true (show Act.at b 48 = .bool true from hc.v 15 l15 _ rfl) _ (if_pos rfl |>.trans (show Act.at b 52 = .bool true from hc.v 19 l19 _ rfl)) ?_
      rw [h1]
      exact hK _ _ (FlatC.step tz5_nd (tz5_ks kSc) rfl hc 20 (by decide) (Below.refl _ _) (fun u hu => by injection hu with hu; injection hu) (trivial))
    · have h1 : (tz5Ops[21]?).map (·.dst) = some (some 54) := by kernel_rfl
      have h2 : (tz5Ops[21]?).map (·.op) = some (Op.move (Operand.tmp 53)) := by kernel_rfl
      have h3 : (tz5Ops[21]?).map (·.guard) = some none := by kernel_rfl
      rw [ho] at h1 h2 h3
      replace h1 := Option.some.inj h1
      replace h2 := Option.some.inj h2
      replace h3 := Option.some.inj h3
      simp only at h1 h2 h3
      rw [h1] at hK
      have l20 : L 20 = true := hdep 20 (by simp [tz5Dep])
      refine ⟨fun _ => ?_, fun hw => by rw [wanted_none h3] at hw; cases hw⟩
      refine wp_moveG _ h2 _ (show Act.at b 53 = .bool true from hc.v 20 l20 _ rfl) ?_
      rw [h1]
      exact hK _ _ (FlatC.step tz5_nd (tz5_ks kSc) rfl hc 21 (by decide) (Below.refl _ _) (fun u hu => by injection hu with hu; injection hu) (trivial))
    · have h1 : (tz5Ops[22]?).map (·.dst) = some (some 55) := by kernel_rfl
      have h2 : (tz5Ops[22]?).map (·.op) = some (Op.move (Operand.tmp 7)) := by kernel_rfl
      have h3 : (tz5Ops[22]?).map (·.guard) = some (some (21, true)) := by kernel_rfl
      rw [ho] at h1 h2 h3
      replace h1 := Option.some.inj h1
      replace h2 := Option.some.inj h2
      replace h3 := Option.some.inj h3
      simp only at h1 h2 h3
      rw [h1] at hK
      have l21 : L 21 = true := hdep 21 (by simp [tz5Dep])
      have hw := wanted_of (ops := tz5Ops) (b := b) h3 (d := 54) (by kernel_rfl) (show Act.at b 54 = .bool true from hc.v 21 l21 _ rfl)
      rw [hw]
      refine ⟨fun _ => ?_, fun hq => absurd hq (by decide)⟩
      refine wp_moveG _ h2 _ ((hf 7 (by decide)).trans a7) ?_
      rw [h1]
      exact hK _ _ (FlatC.step tz5_nd (tz5_ks kSc) rfl hc 22 (by decide) (Below.refl _ _) (fun u hu => by injection hu with hu; injection hu) (trivial))
    · have h1 : (tz5Ops[23]?).map (·.dst) = some (some 56) := by kernel_rfl
      have h2 : (tz5Ops[23]?).map (·.op) = some (Op.pick (Operand.tmp 54) (Operand.tmp 55) (Operand.const (Value.bool false))) := by kernel_rfl
      have h3 : (tz5Ops[23]?).map (·.guard) = some none := by kernel_rfl
      rw [ho] at h1 h2 h3
      replace h1 := Option.some.inj h1
      replace h2 := Option.some.inj h2
      replace h3 := Option.some.inj h3
      simp only at h1 h2 h3
      rw [h1] at hK
      have l21 : L 21 = true := hdep 21 (by simp [tz5Dep])
      have l22 : L 22 = true := hdep 22 (by simp [tz5Dep])
      refine ⟨fun _ => ?_, fun hw => by rw [wanted_none h3] at hw; cases hw⟩
      refine wp_pickG _ _ _ h2 true (show Act.at b 54 = .bool true from hc.v 21 l21 _ rfl) _ (if_pos rfl |>.trans (show Act.at b 55 = .bool true from hc.v 22 l22 _ rfl)) ?_
      rw [h1]
      exact hK _ _ (FlatC.step tz5_nd (tz5_ks kSc) rfl hc 23 (by decide) (Below.refl _ _) (fun u hu => by injection hu with hu; injection hu) (trivial))
    · have h1 : (tz5Ops[24]?).map (·.dst) = some (some 57) := by kernel_rfl
      have h2 : (tz5Ops[24]?).map (·.op) = some (Op.move (Operand.tmp 56)) := by kernel_rfl
      have h3 : (tz5Ops[24]?).map (·.guard) = some none := by kernel_rfl
      rw [ho] at h1 h2 h3
      replace h1 := Option.some.inj h1
      replace h2 := Option.some.inj h2
      replace h3 := Option.some.inj h3
      simp only at h1 h2 h3
      rw [h1] at hK
      have l23 : L 23 = true := hdep 23 (by simp [tz5Dep])
      refine ⟨fun _ => ?_, fun hw => by rw [wanted_none h3] at hw; cases hw⟩
      refine wp_moveG _ h2 _ (show Act.at b 56 = .bool true from hc.v 23 l23 _ rfl) ?_
      rw [h1]
      exact hK _ _ (FlatC.step tz5_nd (tz5_ks kSc) rfl hc 24 (by decide) (Below.refl _ _) (fun u hu => by injection hu with hu; injection hu) (trivial))
    · have h1 : (tz5Ops[25]?).map (·.dst) = some (some 58) := by kernel_rfl
      have h2 : (tz5Ops[25]?).map (·.op) = some (Op.load 26 (Operand.tmp 6)) := by kernel_rfl
      have h3 : (tz5Ops[25]?).map (·.guard) = some (some (24, true)) := by kernel_rfl
      rw [ho] at h1 h2 h3
      replace h1 := Option.some.inj h1
      replace h2 := Option.some.inj h2
      replace h3 := Option.some.inj h3
      simp only at h1 h2 h3
      rw [h1] at hK
      have l24 : L 24 = true := hdep 24 (by simp [tz5Dep])
      have hw := wanted_of (ops := tz5Ops) (b := b) h3 (d := 57) (by kernel_rfl) (show Act.at b 57 = .bool true from hc.v 24 l24 _ rfl)
      rw [hw]
      refine ⟨fun _ => ?_, fun hq => absurd hq (by decide)⟩
      refine wp_load_row 26 (.tmp 6) h2 g6 ((hf 6 (by decide)).trans a6) 26 u.cells.toArray (0, 0) _ ((hbw.block g6 hKg6.lt).trans hKg6) Try.underlying26 rfl (tv_size u) ?_
      rw [h1]
      exact hK _ _ (FlatC.step tz5_nd (tz5_ks kSc) rfl hc 25 (by decide) (Below.refl _ _) (fun u hu => by injection hu with hu; injection hu) (trivial))
    · have h1 : (tz5Ops[26]?).map (·.dst) = some (some 59) := by kernel_rfl
      have h2 : (tz5Ops[26]?).map (·.op) = some (Op.call { callee := Callee.value (Operand.func 11), args := #[Operand.tmp 58], argTypes := #[26] }) := by kernel_rfl
      have h3 : (tz5Ops[26]?).map (·.guard) = some (some (24, true)) := by kernel_rfl
      rw [ho] at h1 h2 h3
      replace h1 := Option.some.inj h1
      replace h2 := Option.some.inj h2
      replace h3 := Option.some.inj h3
      simp only at h1 h2 h3
      rw [h1] at hK
      have l24 : L 24 = true := hdep 24 (by simp [tz5Dep])
      have l25 : L 25 = true := hdep 25 (by simp [tz5Dep])
      have hw := wanted_of (ops := tz5Ops) (b := b) h3 (d := 57) (by kernel_rfl) (show Act.at b 57 = .bool true from hc.v 24 l24 _ rfl)
      rw [hw]
      refine ⟨fun _ => ?_, fun hq => absurd hq (by decide)⟩
      refine wp_callG 11 _ _ h2 (enters_of Try.func11 (by kernel_rfl) rfl) #[.agg u.cells.toArray] (by simp [show b.eval (.tmp 58) = _ from (show Act.at b 58 = .agg u.cells.toArray from hc.v 25 l25 _ rfl)]) _ (HT6 w hbw) ?_
      rintro v w2 ⟨rfl, hb2⟩
      rw [h1]
      exact hK _ _ (FlatC.step tz5_nd (tz5_ks kSc) rfl hc 26 (by decide) (hb2) (fun u hu => by injection hu with hu; injection hu) (trivial))
    · have h1 : (tz5Ops[27]?).map (·.dst) = some (some 60) := by kernel_rfl
      have h2 : (tz5Ops[27]?).map (·.op) = some (Op.binOp BinOp.eql 9 (Operand.tmp 59) (Operand.const (Value.string { data := #[48, 40, 55, 44, 95, 48, 44, 48, 40, 48, 58, 54, 49, 54, 50, 41, 41] })) 9) := by kernel_rfl
      have h3 : (tz5Ops[27]?).map (·.guard) = some (some (24, true)) := by kernel_rfl
      rw [ho] at h1 h2 h3
      replace h1 := Option.some.inj h1
      replace h2 := Option.some.inj h2
      replace h3 := Option.some.inj h3
      simp only at h1 h2 h3
      rw [h1] at hK
      have l24 : L 24 = true := hdep 24 (by simp [tz5Dep])
      have l26 : L 26 = true := hdep 26 (by simp [tz5Dep])
      have hw := wanted_of (ops := tz5Ops) (b := b) h3 (d := 57) (by kernel_rfl) (show Act.at b 57 = .bool true from hc.v 24 l24 _ rfl)
      rw [hw]
      refine ⟨fun _ => ?_, fun hq => absurd hq (by decide)⟩
      refine wp_binG _ _ _ _ _ h2 _ _ (.bool true) (show Act.at b 59 = Value.string { data := #[48, 40, 55, 44, 95, 48, 44, 48, 40, 48, 58, 54, 49, 54, 50, 41, 41] } from hc.v 26 l26 _ rfl) rfl (by kernel_rfl) (by kernel_rfl) ?_
      rw [h1]
      exact hK _ _ (FlatC.step tz5_nd (tz5_ks kSc) rfl hc 27 (by decide) (Below.refl _ _) (fun u hu => by injection hu with hu; injection hu) (trivial))
    · have h1 : (tz5Ops[28]?).map (·.dst) = some (some 61) := by kernel_rfl
      have h2 : (tz5Ops[28]?).map (·.op) = some (Op.pick (Operand.tmp 57) (Operand.tmp 60) (Operand.const (Value.bool false))) := by kernel_rfl
      have h3 : (tz5Ops[28]?).map (·.guard) = some none := by kernel_rfl
      rw [ho] at h1 h2 h3
      replace h1 := Option.some.inj h1
      replace h2 := Option.some.inj h2
      replace h3 := Option.some.inj h3
      simp only at h1 h2 h3
      rw [h1] at hK
      have l24 : L 24 = true := hdep 24 (by simp [tz5Dep])
      have l27 : L 27 = true := hdep 27 (by simp [tz5Dep])
      refine ⟨fun _ => ?_, fun hw => by rw [wanted_none h3] at hw; cases hw⟩
      refine wp_pickG _ _ _ h2 true (show Act.at b 57 = .bool true from hc.v 24 l24 _ rfl) _ (if_pos rfl |>.trans (show Act.at b 60 = .bool true from hc.v 27 l27 _ rfl)) ?_
      rw [h1]
      exact hK _ _ (FlatC.step tz5_nd (tz5_ks kSc) rfl hc 28 (by decide) (Below.refl _ _) (fun u hu => by injection hu with hu; injection hu) (trivial))
    · have h1 : (tz5Ops[29]?).map (·.dst) = some (some 62) := by kernel_rfl
      have h2 : (tz5Ops[29]?).map (·.op) = some (Op.move (Operand.tmp 61)) := by kernel_rfl
      have h3 : (tz5Ops[29]?).map (·.guard) = some none := by kernel_rfl
      rw [ho] at h1 h2 h3
      replace h1 := Option.some.inj h1
      replace h2 := Option.some.inj h2
      replace h3 := Option.some.inj h3
      simp only at h1 h2 h3
      rw [h1] at hK
      have l28 : L 28 = true := hdep 28 (by simp [tz5Dep])
      refine ⟨fun _ => ?_, fun hw => by rw [wanted_none h3] at hw; cases hw⟩
      refine wp_moveG _ h2 _ (show Act.at b 61 = .bool true from hc.v 28 l28 _ rfl) ?_
      rw [h1]
      exact hK _ _ (FlatC.step tz5_nd (tz5_ks kSc) rfl hc 29 (by decide) (Below.refl _ _) (fun u hu => by injection hu with hu; injection hu) (trivial))
    · have h1 : (tz5Ops[30]?).map (·.dst) = some (some 63) := by kernel_rfl
      have h2 : (tz5Ops[30]?).map (·.op) = some (Op.load 26 (Operand.tmp 1)) := by kernel_rfl
      have h3 : (tz5Ops[30]?).map (·.guard) = some (some (29, true)) := by kernel_rfl
      rw [ho] at h1 h2 h3
      replace h1 := Option.some.inj h1
      replace h2 := Option.some.inj h2
      replace h3 := Option.some.inj h3
      simp only at h1 h2 h3
      rw [h1] at hK
      have l29 : L 29 = true := hdep 29 (by simp [tz5Dep])
      have hw := wanted_of (ops := tz5Ops) (b := b) h3 (d := 62) (by kernel_rfl) (show Act.at b 62 = .bool true from hc.v 29 l29 _ rfl)
      rw [hw]
      refine ⟨fun _ => ?_, fun hq => absurd hq (by decide)⟩
      refine wp_load_row 26 (.tmp 1) h2 g1 ((hf 1 (by decide)).trans a1) 26 y.cells.toArray (0, 0) _ ((hbw.block g1 hKg1.lt).trans hKg1) Try.underlying26 rfl (tv_size y) ?_
      rw [h1]
      exact hK _ _ (FlatC.step tz5_nd (tz5_ks kSc) rfl hc 30 (by decide) (Below.refl _ _) (fun u hu => by injection hu with hu; injection hu) (trivial))
    · have h1 : (tz5Ops[31]?).map (·.dst) = some (some 64) := by kernel_rfl
      have h2 : (tz5Ops[31]?).map (·.op) = some (Op.call { callee := Callee.value (Operand.func 16), args := #[Operand.tmp 63], argTypes := #[26] }) := by kernel_rfl
      have h3 : (tz5Ops[31]?).map (·.guard) = some (some (29, true)) := by kernel_rfl
      rw [ho] at h1 h2 h3
      replace h1 := Option.some.inj h1
      replace h2 := Option.some.inj h2
      replace h3 := Option.some.inj h3
      simp only at h1 h2 h3
      rw [h1] at hK
      have l29 : L 29 = true := hdep 29 (by simp [tz5Dep])
      have l30 : L 30 = true := hdep 30 (by simp [tz5Dep])
      have hw := wanted_of (ops := tz5Ops) (b := b) h3 (d := 62) (by kernel_rfl) (show Act.at b 62 = .bool true from hc.v 29 l29 _ rfl)
      rw [hw]
      refine ⟨fun _ => ?_, fun hq => absurd hq (by decide)⟩
      refine wp_callG 16 _ _ h2 (enters_of Try.func16 (by kernel_rfl) rfl) #[.agg y.cells.toArray] (by simp [show b.eval (.tmp 63) = _ from (show Act.at b 63 = .agg y.cells.toArray from hc.v 30 l30 _ rfl)]) _ (HPt w hbw) ?_
      rintro v w2 ⟨rfl, hb2⟩
      rw [h1]
      exact hK _ _ (FlatC.step tz5_nd (tz5_ks kSc) rfl hc 31 (by decide) (hb2) (fun u hu => by injection hu with hu; injection hu) (trivial))
    · have h1 : (tz5Ops[32]?).map (·.dst) = some (some 65) := by kernel_rfl
      have h2 : (tz5Ops[32]?).map (·.op) = some (Op.binOp BinOp.eql 3 (Operand.tmp 64) (Operand.const (Value.int IntKind.i64 5)) 3) := by kernel_rfl
      have h3 : (tz5Ops[32]?).map (·.guard) = some (some (29, true)) := by kernel_rfl
      rw [ho] at h1 h2 h3
      replace h1 := Option.some.inj h1
      replace h2 := Option.some.inj h2
      replace h3 := Option.some.inj h3
      simp only at h1 h2 h3
      rw [h1] at hK
      have l29 : L 29 = true := hdep 29 (by simp [tz5Dep])
      have l31 : L 31 = true := hdep 31 (by simp [tz5Dep])
      have hw := wanted_of (ops := tz5Ops) (b := b) h3 (d := 62) (by kernel_rfl) (show Act.at b 62 = .bool true from hc.v 29 l29 _ rfl)
      rw [hw]
      refine ⟨fun _ => ?_, fun hq => absurd hq (by decide)⟩
      refine wp_binG _ _ _ _ _ h2 _ _ (.bool true) (show Act.at b 64 = .int .i64 5 from hc.v 31 l31 _ rfl) rfl (by kernel_rfl) (by kernel_rfl) ?_
      rw [h1]
      exact hK _ _ (FlatC.step tz5_nd (tz5_ks kSc) rfl hc 32 (by decide) (Below.refl _ _) (fun u hu => by injection hu with hu; injection hu) (trivial))
    · have h1 : (tz5Ops[33]?).map (·.dst) = some (some 66) := by kernel_rfl
      have h2 : (tz5Ops[33]?).map (·.op) = some (Op.pick (Operand.tmp 62) (Operand.tmp 65) (Operand.const (Value.bool false))) := by kernel_rfl
      have h3 : (tz5Ops[33]?).map (·.guard) = some none := by kernel_rfl
      rw [ho] at h1 h2 h3
      replace h1 := Option.some.inj h1
      replace h2 := Option.some.inj h2
      replace h3 := Option.some.inj h3
      simp only at h1 h2 h3
      rw [h1] at hK
      have l29 : L 29 = true := hdep 29 (by simp [tz5Dep])
      have l32 : L 32 = true := hdep 32 (by simp [tz5Dep])
      refine ⟨fun _ => ?_, fun hw => by rw [wanted_none h3] at hw; cases hw⟩
      refine wp_pickG _ _ _ h2 true (show Act.at b 62 = .bool true from hc.v 29 l29 _ rfl) _ (if_pos rfl |>.trans (show Act.at b 65 = .bool true from hc.v 32 l32 _ rfl)) ?_
      rw [h1]
      exact hK _ _ (FlatC.step tz5_nd (tz5_ks kSc) rfl hc 33 (by decide) (Below.refl _ _) (fun u hu => by injection hu with hu; injection hu) (trivial))
    · have h1 : (tz5Ops[34]?).map (·.dst) = some (some 67) := by kernel_rfl
      have h2 : (tz5Ops[34]?).map (·.op) = some (Op.move (Operand.tmp 66)) := by kernel_rfl
      have h3 : (tz5Ops[34]?).map (·.guard) = some none := by kernel_rfl
      rw [ho] at h1 h2 h3
      replace h1 := Option.some.inj h1
      replace h2 := Option.some.inj h2
      replace h3 := Option.some.inj h3
      simp only at h1 h2 h3
      rw [h1] at hK
      have l33 : L 33 = true := hdep 33 (by simp [tz5Dep])
      refine ⟨fun _ => ?_, fun hw => by rw [wanted_none h3] at hw; cases hw⟩
      refine wp_moveG _ h2 _ (show Act.at b 66 = .bool true from hc.v 33 l33 _ rfl) ?_
      rw [h1]
      exact hK _ _ (FlatC.step tz5_nd (tz5_ks kSc) rfl hc 34 (by decide) (Below.refl _ _) (fun u hu => by injection hu with hu; injection hu) (trivial))
    · have h1 : (tz5Ops[35]?).map (·.dst) = some (some 68) := by kernel_rfl
      have h2 : (tz5Ops[35]?).map (·.op) = some (Op.load 26 (Operand.tmp 1)) := by kernel_rfl
      have h3 : (tz5Ops[35]?).map (·.guard) = some (some (34, true)) := by kernel_rfl
      rw [ho] at h1 h2 h3
      replace h1 := Option.some.inj h1
      replace h2 := Option.some.inj h2
      replace h3 := Option.some.inj h3
      simp only at h1 h2 h3
      rw [h1] at hK
      have l34 : L 34 = true := hdep 34 (by simp [tz5Dep])
      have hw := wanted_of (ops := tz5Ops) (b := b) h3 (d := 67) (by kernel_rfl) (show Act.at b 67 = .bool true from hc.v 34 l34 _ rfl)
      rw [hw]
      refine ⟨fun _ => ?_, fun hq => absurd hq (by decide)⟩
      refine wp_load_row 26 (.tmp 1) h2 g1 ((hf 1 (by decide)).trans a1) 26 y.cells.toArray (0, 0) _ ((hbw.block g1 hKg1.lt).trans hKg1) Try.underlying26 rfl (tv_size y) ?_
      rw [h1]
      exact hK _ _ (FlatC.step tz5_nd (tz5_ks kSc) rfl hc 35 (by decide) (Below.refl _ _) (fun u hu => by injection hu with hu; injection hu) (trivial))
    · have h1 : (tz5Ops[36]?).map (·.dst) = some (some 69) := by kernel_rfl
      have h2 : (tz5Ops[36]?).map (·.op) = some (Op.call { callee := Callee.value (Operand.func 13), args := #[Operand.tmp 68], argTypes := #[26] }) := by kernel_rfl
      have h3 : (tz5Ops[36]?).map (·.guard) = some (some (34, true)) := by kernel_rfl
      rw [ho] at h1 h2 h3
      replace h1 := Option.some.inj h1
      replace h2 := Option.some.inj h2
      replace h3 := Option.some.inj h3
      simp only at h1 h2 h3
      rw [h1] at hK
      have l34 : L 34 = true := hdep 34 (by simp [tz5Dep])
      have l35 : L 35 = true := hdep 35 (by simp [tz5Dep])
      have hw := wanted_of (ops := tz5Ops) (b := b) h3 (d := 67) (by kernel_rfl) (show Act.at b 67 = .bool true from hc.v 34 l34 _ rfl)
      rw [hw]
      refine ⟨fun _ => ?_, fun hq => absurd hq (by decide)⟩
      refine wp_callG 13 _ _ h2 (enters_of Try.func13 (by kernel_rfl) rfl) #[.agg y.cells.toArray] (by simp [show b.eval (.tmp 68) = _ from (show Act.at b 68 = .agg y.cells.toArray from hc.v 35 l35 _ rfl)]) _ (HDp w hbw) ?_
      rintro v w2 ⟨rfl, hb2⟩
      rw [h1]
      exact hK _ _ (FlatC.step tz5_nd (tz5_ks kSc) rfl hc 36 (by decide) (hb2) (fun u hu => by injection hu with hu; injection hu) (trivial))
    · have h1 : (tz5Ops[37]?).map (·.dst) = some (some 70) := by kernel_rfl
      have h2 : (tz5Ops[37]?).map (·.op) = some (Op.binOp BinOp.eql 3 (Operand.tmp 69) (Operand.const (Value.int IntKind.i64 3)) 3) := by kernel_rfl
      have h3 : (tz5Ops[37]?).map (·.guard) = some (some (34, true)) := by kernel_rfl
      rw [ho] at h1 h2 h3
      replace h1 := Option.some.inj h1
      replace h2 := Option.some.inj h2
      replace h3 := Option.some.inj h3
      simp only at h1 h2 h3
      rw [h1] at hK
      have l34 : L 34 = true := hdep 34 (by simp [tz5Dep])
      have l36 : L 36 = true := hdep 36 (by simp [tz5Dep])
      have hw := wanted_of (ops := tz5Ops) (b := b) h3 (d := 67) (by kernel_rfl) (show Act.at b 67 = .bool true from hc.v 34 l34 _ rfl)
      rw [hw]
      refine ⟨fun _ => ?_, fun hq => absurd hq (by decide)⟩
      refine wp_binG _ _ _ _ _ h2 _ _ (.bool true) (show Act.at b 69 = .int .i64 3 from hc.v 36 l36 _ rfl) rfl (by kernel_rfl) (by kernel_rfl) ?_
      rw [h1]
      exact hK _ _ (FlatC.step tz5_nd (tz5_ks kSc) rfl hc 37 (by decide) (Below.refl _ _) (fun u hu => by injection hu with hu; injection hu) (trivial))
    · have h1 : (tz5Ops[38]?).map (·.dst) = some (some 71) := by kernel_rfl
      have h2 : (tz5Ops[38]?).map (·.op) = some (Op.pick (Operand.tmp 67) (Operand.tmp 70) (Operand.const (Value.bool false))) := by kernel_rfl
      have h3 : (tz5Ops[38]?).map (·.guard) = some none := by kernel_rfl
      rw [ho] at h1 h2 h3
      replace h1 := Option.some.inj h1
      replace h2 := Option.some.inj h2
      replace h3 := Option.some.inj h3
      simp only at h1 h2 h3
      rw [h1] at hK
      have l34 : L 34 = true := hdep 34 (by simp [tz5Dep])
      have l37 : L 37 = true := hdep 37 (by simp [tz5Dep])
      refine ⟨fun _ => ?_, fun hw => by rw [wanted_none h3] at hw; cases hw⟩
      refine wp_pickG _ _ _ h2 true (show Act.at b 67 = .bool true from hc.v 34 l34 _ rfl) _ (if_pos rfl |>.trans (show Act.at b 70 = .bool true from hc.v 37 l37 _ rfl)) ?_
      rw [h1]
      exact hK _ _ (FlatC.step tz5_nd (tz5_ks kSc) rfl hc 38 (by decide) (Below.refl _ _) (fun u hu => by injection hu with hu; injection hu) (trivial))
    · have h1 : (tz5Ops[39]?).map (·.dst) = some (some 72) := by kernel_rfl
      have h2 : (tz5Ops[39]?).map (·.op) = some (Op.move (Operand.tmp 71)) := by kernel_rfl
      have h3 : (tz5Ops[39]?).map (·.guard) = some none := by kernel_rfl
      rw [ho] at h1 h2 h3
      replace h1 := Option.some.inj h1
      replace h2 := Option.some.inj h2
      replace h3 := Option.some.inj h3
      simp only at h1 h2 h3
      rw [h1] at hK
      have l38 : L 38 = true := hdep 38 (by simp [tz5Dep])
      refine ⟨fun _ => ?_, fun hw => by rw [wanted_none h3] at hw; cases hw⟩
      refine wp_moveG _ h2 _ (show Act.at b 71 = .bool true from hc.v 38 l38 _ rfl) ?_
      rw [h1]
      exact hK _ _ (FlatC.step tz5_nd (tz5_ks kSc) rfl hc 39 (by decide) (Below.refl _ _) (fun u hu => by injection hu with hu; injection hu) (trivial))
    · have h1 : (tz5Ops[40]?).map (·.dst) = some (some 73) := by kernel_rfl
      have h2 : (tz5Ops[40]?).map (·.op) = some (Op.load 26 (Operand.tmp 1)) := by kernel_rfl
      have h3 : (tz5Ops[40]?).map (·.guard) = some (some (39, true)) := by kernel_rfl
      rw [ho] at h1 h2 h3
      replace h1 := Option.some.inj h1
      replace h2 := Option.some.inj h2
      replace h3 := Option.some.inj h3
      simp only at h1 h2 h3
      rw [h1] at hK
      have l39 : L 39 = true := hdep 39 (by simp [tz5Dep])
      have hw := wanted_of (ops := tz5Ops) (b := b) h3 (d := 72) (by kernel_rfl) (show Act.at b 72 = .bool true from hc.v 39 l39 _ rfl)
      rw [hw]
      refine ⟨fun _ => ?_, fun hq => absurd hq (by decide)⟩
      refine wp_load_row 26 (.tmp 1) h2 g1 ((hf 1 (by decide)).trans a1) 26 y.cells.toArray (0, 0) _ ((hbw.block g1 hKg1.lt).trans hKg1) Try.underlying26 rfl (tv_size y) ?_
      rw [h1]
      exact hK _ _ (FlatC.step tz5_nd (tz5_ks kSc) rfl hc 40 (by decide) (Below.refl _ _) (fun u hu => by injection hu with hu; injection hu) (trivial))
    · have h1 : (tz5Ops[41]?).map (·.dst) = some (some 74) := by kernel_rfl
      have h2 : (tz5Ops[41]?).map (·.op) = some (Op.load 26 (Operand.tmp 1)) := by kernel_rfl
      have h3 : (tz5Ops[41]?).map (·.guard) = some (some (39, true)) := by kernel_rfl
      rw [ho] at h1 h2 h3
      replace h1 := Option.some.inj h1
      replace h2 := Option.some.inj h2
      replace h3 := Option.some.inj h3
      simp only at h1 h2 h3
      rw [h1] at hK
      have l39 : L 39 = true := hdep 39 (by simp [tz5Dep])
      have hw := wanted_of (ops := tz5Ops) (b := b) h3 (d := 72) (by kernel_rfl) (show Act.at b 72 = .bool true from hc.v 39 l39 _ rfl)
      rw [hw]
      refine ⟨fun _ => ?_, fun hq => absurd hq (by decide)⟩
      refine wp_load_row 26 (.tmp 1) h2 g1 ((hf 1 (by decide)).trans a1) 26 y.cells.toArray (0, 0) _ ((hbw.block g1 hKg1.lt).trans hKg1) Try.underlying26 rfl (tv_size y) ?_
      rw [h1]
      exact hK _ _ (FlatC.step tz5_nd (tz5_ks kSc) rfl hc 41 (by decide) (Below.refl _ _) (fun u hu => by injection hu with hu; injection hu) (trivial))
    · have h1 : (tz5Ops[42]?).map (·.dst) = some (some 75) := by kernel_rfl
      have h2 : (tz5Ops[42]?).map (·.op) = some (Op.call { callee := Callee.value (Operand.func 18), args := #[Operand.tmp 74], argTypes := #[26] }) := by kernel_rfl
      have h3 : (tz5Ops[42]?).map (·.guard) = some (some (39, true)) := by kernel_rfl
      rw [ho] at h1 h2 h3
      replace h1 := Option.some.inj h1
      replace h2 := Option.some.inj h2
      replace h3 := Option.some.inj h3
      simp only at h1 h2 h3
      rw [h1] at hK
      have l39 : L 39 = true := hdep 39 (by simp [tz5Dep])
      have l41 : L 41 = true := hdep 41 (by simp [tz5Dep])
      have hw := wanted_of (ops := tz5Ops) (b := b) h3 (d := 72) (by kernel_rfl) (show Act.at b 72 = .bool true from hc.v 39 l39 _ rfl)
      rw [hw]
      refine ⟨fun _ => ?_, fun hq => absurd hq (by decide)⟩
      refine wp_callG 18 _ _ h2 (enters_of Try.func18 (by kernel_rfl) rfl) #[.agg y.cells.toArray] (by simp [show b.eval (.tmp 74) = _ from (show Act.at b 74 = .agg y.cells.toArray from hc.v 41 l41 _ rfl)]) _ (HCl w hbw) ?_
      rintro v w2 ⟨hp2, hb2⟩
      rw [h1]
      exact hK _ _ (FlatC.step tz5_nd (tz5_ks kSc) rfl hc 42 (by decide) (hb2) (fun u hu => by cases hu) (hp2))
    · have h1 : (tz5Ops[43]?).map (·.dst) = some (some 76) := by kernel_rfl
      have h2 : (tz5Ops[43]?).map (·.op) = some (Op.call { callee := Callee.value (Operand.func 12), args := #[Operand.tmp 73, Operand.tmp 75], argTypes := #[26, 26] }) := by kernel_rfl
      have h3 : (tz5Ops[43]?).map (·.guard) = some (some (39, true)) := by kernel_rfl
      rw [ho] at h1 h2 h3
      replace h1 := Option.some.inj h1
      replace h2 := Option.some.inj h2
      replace h3 := Option.some.inj h3
      simp only at h1 h2 h3
      rw [h1] at hK
      have l39 : L 39 = true := hdep 39 (by simp [tz5Dep])
      have l40 : L 40 = true := hdep 40 (by simp [tz5Dep])
      have hw := wanted_of (ops := tz5Ops) (b := b) h3 (d := 72) (by kernel_rfl) (show Act.at b 72 = .bool true from hc.v 39 l39 _ rfl)
      rw [hw]
      refine ⟨fun _ => ?_, fun hq => absurd hq (by decide)⟩
      have l42 : L 42 = true := hdep 42 (by simp [tz5Dep])
      have hp := hc.s 42 l42 (by decide)
      refine wp_callG 12 _ _ h2 (enters_of Try.func12 (by kernel_rfl) rfl) #[.agg y.cells.toArray, Act.at b 75] (by simp [show b.eval (.tmp 73) = _ from (show Act.at b 73 = .agg y.cells.toArray from hc.v 40 l40 _ rfl), show b.eval (.tmp 75) = Act.at b 75 from rfl]) _ (HSc _ w hp hbw) ?_
      rintro v w2 ⟨rfl, hb2⟩
      rw [h1]
      exact hK _ _ (FlatC.step tz5_nd (tz5_ks kSc) rfl hc 43 (by decide) (hb2) (fun u hu => by injection hu with hu; injection hu) (trivial))
    · have h1 : (tz5Ops[44]?).map (·.dst) = some (some 77) := by kernel_rfl
      have h2 : (tz5Ops[44]?).map (·.op) = some (Op.pick (Operand.tmp 72) (Operand.tmp 76) (Operand.const (Value.bool false))) := by kernel_rfl
      have h3 : (tz5Ops[44]?).map (·.guard) = some none := by kernel_rfl
      rw [ho] at h1 h2 h3
      replace h1 := Option.some.inj h1
      replace h2 := Option.some.inj h2
      replace h3 := Option.some.inj h3
      simp only at h1 h2 h3
      rw [h1] at hK
      have l39 : L 39 = true := hdep 39 (by simp [tz5Dep])
      have l43 : L 43 = true := hdep 43 (by simp [tz5Dep])
      refine ⟨fun _ => ?_, fun hw => by rw [wanted_none h3] at hw; cases hw⟩
      refine wp_pickG _ _ _ h2 true (show Act.at b 72 = .bool true from hc.v 39 l39 _ rfl) _ (if_pos rfl |>.trans (show Act.at b 76 = .bool true from hc.v 43 l43 _ rfl)) ?_
      rw [h1]
      exact hK _ _ (FlatC.step tz5_nd (tz5_ks kSc) rfl hc 44 (by decide) (Below.refl _ _) (fun u hu => by injection hu with hu; injection hu) (trivial))
    · have h1 : (tz5Ops[45]?).map (·.dst) = some (some 78) := by kernel_rfl
      have h2 : (tz5Ops[45]?).map (·.op) = some (Op.move (Operand.tmp 77)) := by kernel_rfl
      have h3 : (tz5Ops[45]?).map (·.guard) = some none := by kernel_rfl
      rw [ho] at h1 h2 h3
      replace h1 := Option.some.inj h1
      replace h2 := Option.some.inj h2
      replace h3 := Option.some.inj h3
      simp only at h1 h2 h3
      rw [h1] at hK
      have l44 : L 44 = true := hdep 44 (by simp [tz5Dep])
      refine ⟨fun _ => ?_, fun hw => by rw [wanted_none h3] at hw; cases hw⟩
      refine wp_moveG _ h2 _ (show Act.at b 77 = .bool true from hc.v 44 l44 _ rfl) ?_
      rw [h1]
      exact hK _ _ (FlatC.step tz5_nd (tz5_ks kSc) rfl hc 45 (by decide) (Below.refl _ _) (fun u hu => by injection hu with hu; injection hu) (trivial))
    · have h1 : (tz5Ops[46]?).map (·.dst) = some (some 79) := by kernel_rfl
      have h2 : (tz5Ops[46]?).map (·.op) = some (Op.load 26 (Operand.tmp 1)) := by kernel_rfl
      have h3 : (tz5Ops[46]?).map (·.guard) = some (some (45, true)) := by kernel_rfl
      rw [ho] at h1 h2 h3
      replace h1 := Option.some.inj h1
      replace h2 := Option.some.inj h2
      replace h3 := Option.some.inj h3
      simp only at h1 h2 h3
      rw [h1] at hK
      have l45 : L 45 = true := hdep 45 (by simp [tz5Dep])
      have hw := wanted_of (ops := tz5Ops) (b := b) h3 (d := 78) (by kernel_rfl) (show Act.at b 78 = .bool true from hc.v 45 l45 _ rfl)
      rw [hw]
      refine ⟨fun _ => ?_, fun hq => absurd hq (by decide)⟩
      refine wp_load_row 26 (.tmp 1) h2 g1 ((hf 1 (by decide)).trans a1) 26 y.cells.toArray (0, 0) _ ((hbw.block g1 hKg1.lt).trans hKg1) Try.underlying26 rfl (tv_size y) ?_
      rw [h1]
      exact hK _ _ (FlatC.step tz5_nd (tz5_ks kSc) rfl hc 46 (by decide) (Below.refl _ _) (fun u hu => by injection hu with hu; injection hu) (trivial))
    · have h1 : (tz5Ops[47]?).map (·.dst) = some (some 80) := by kernel_rfl
      have h2 : (tz5Ops[47]?).map (·.op) = some (Op.load 26 (Operand.tmp 6)) := by kernel_rfl
      have h3 : (tz5Ops[47]?).map (·.guard) = some (some (45, true)) := by kernel_rfl
      rw [ho] at h1 h2 h3
      replace h1 := Option.some.inj h1
      replace h2 := Option.some.inj h2
      replace h3 := Option.some.inj h3
      simp only at h1 h2 h3
      rw [h1] at hK
      have l45 : L 45 = true := hdep 45 (by simp [tz5Dep])
      have hw := wanted_of (ops := tz5Ops) (b := b) h3 (d := 78) (by kernel_rfl) (show Act.at b 78 = .bool true from hc.v 45 l45 _ rfl)
      rw [hw]
      refine ⟨fun _ => ?_, fun hq => absurd hq (by decide)⟩
      refine wp_load_row 26 (.tmp 6) h2 g6 ((hf 6 (by decide)).trans a6) 26 u.cells.toArray (0, 0) _ ((hbw.block g6 hKg6.lt).trans hKg6) Try.underlying26 rfl (tv_size u) ?_
      rw [h1]
      exact hK _ _ (FlatC.step tz5_nd (tz5_ks kSc) rfl hc 47 (by decide) (Below.refl _ _) (fun u hu => by injection hu with hu; injection hu) (trivial))
    · have h1 : (tz5Ops[48]?).map (·.dst) = some (some 81) := by kernel_rfl
      have h2 : (tz5Ops[48]?).map (·.op) = some (Op.call { callee := Callee.value (Operand.func 12), args := #[Operand.tmp 79, Operand.tmp 80], argTypes := #[26, 26] }) := by kernel_rfl
      have h3 : (tz5Ops[48]?).map (·.guard) = some (some (45, true)) := by kernel_rfl
      rw [ho] at h1 h2 h3
      replace h1 := Option.some.inj h1
      replace h2 := Option.some.inj h2
      replace h3 := Option.some.inj h3
      simp only at h1 h2 h3
      rw [h1] at hK
      have l45 : L 45 = true := hdep 45 (by simp [tz5Dep])
      have l46 : L 46 = true := hdep 46 (by simp [tz5Dep])
      have l47 : L 47 = true := hdep 47 (by simp [tz5Dep])
      have hw := wanted_of (ops := tz5Ops) (b := b) h3 (d := 78) (by kernel_rfl) (show Act.at b 78 = .bool true from hc.v 45 l45 _ rfl)
      rw [hw]
      refine ⟨fun _ => ?_, fun hq => absurd hq (by decide)⟩
      refine wp_callG 12 _ _ h2 (enters_of Try.func12 (by kernel_rfl) rfl) #[.agg y.cells.toArray, .agg u.cells.toArray] (by simp [show b.eval (.tmp 79) = _ from (show Act.at b 79 = .agg y.cells.toArray from hc.v 46 l46 _ rfl), show b.eval (.tmp 80) = _ from (show Act.at b 80 = .agg u.cells.toArray from hc.v 47 l47 _ rfl)]) _ (HSu w hbw) ?_
      rintro v w2 ⟨rfl, hb2⟩
      rw [h1]
      exact hK _ _ (FlatC.step tz5_nd (tz5_ks kSc) rfl hc 48 (by decide) (hb2) (fun u hu => by injection hu with hu; injection hu) (trivial))
    · have h1 : (tz5Ops[49]?).map (·.dst) = some (some 82) := by kernel_rfl
      have h2 : (tz5Ops[49]?).map (·.op) = some (Op.unOp UnOp.not 4 (Operand.tmp 81)) := by kernel_rfl
      have h3 : (tz5Ops[49]?).map (·.guard) = some (some (45, true)) := by kernel_rfl
      rw [ho] at h1 h2 h3
      replace h1 := Option.some.inj h1
      replace h2 := Option.some.inj h2
      replace h3 := Option.some.inj h3
      simp only at h1 h2 h3
      rw [h1] at hK
      have l45 : L 45 = true := hdep 45 (by simp [tz5Dep])
      have l48 : L 48 = true := hdep 48 (by simp [tz5Dep])
      have hw := wanted_of (ops := tz5Ops) (b := b) h3 (d := 78) (by kernel_rfl) (show Act.at b 78 = .bool true from hc.v 45 l45 _ rfl)
      rw [hw]
      refine ⟨fun _ => ?_, fun hq => absurd hq (by decide)⟩
      refine wp_unG _ _ _ h2 _ (.bool true) (show Act.at b 81 = .bool false from hc.v 48 l48 _ rfl) (by kernel_rfl) ?_
      rw [h1]
      exact hK _ _ (FlatC.step tz5_nd (tz5_ks kSc) rfl hc 49 (by decide) (Below.refl _ _) (fun u hu => by injection hu with hu; injection hu) (trivial))
    · have h1 : (tz5Ops[50]?).map (·.dst) = some (some 83) := by kernel_rfl
      have h2 : (tz5Ops[50]?).map (·.op) = some (Op.pick (Operand.tmp 78) (Operand.tmp 82) (Operand.const (Value.bool false))) := by kernel_rfl
      have h3 : (tz5Ops[50]?).map (·.guard) = some none := by kernel_rfl
      rw [ho] at h1 h2 h3
      replace h1 := Option.some.inj h1
      replace h2 := Option.some.inj h2
      replace h3 := Option.some.inj h3
      simp only at h1 h2 h3
      rw [h1] at hK
      have l45 : L 45 = true := hdep 45 (by simp [tz5Dep])
      have l49 : L 49 = true := hdep 49 (by simp [tz5Dep])
      refine ⟨fun _ => ?_, fun hw => by rw [wanted_none h3] at hw; cases hw⟩
      refine wp_pickG _ _ _ h2 true (show Act.at b 78 = .bool true from hc.v 45 l45 _ rfl) _ (if_pos rfl |>.trans (show Act.at b 82 = .bool true from hc.v 49 l49 _ rfl)) ?_
      rw [h1]
      exact hK _ _ (FlatC.step tz5_nd (tz5_ks kSc) rfl hc 50 (by decide) (Below.refl _ _) (fun u hu => by injection hu with hu; injection hu) (trivial))
    · have h1 : (tz5Ops[51]?).map (·.dst) = some (some 84) := by kernel_rfl
      have h2 : (tz5Ops[51]?).map (·.op) = some (Op.move (Operand.tmp 83)) := by kernel_rfl
      have h3 : (tz5Ops[51]?).map (·.guard) = some none := by kernel_rfl
      rw [ho] at h1 h2 h3
      replace h1 := Option.some.inj h1
      replace h2 := Option.some.inj h2
      replace h3 := Option.some.inj h3
      simp only at h1 h2 h3
      rw [h1] at hK
      have l50 : L 50 = true := hdep 50 (by simp [tz5Dep])
      refine ⟨fun _ => ?_, fun hw => by rw [wanted_none h3] at hw; cases hw⟩
      refine wp_moveG _ h2 _ (show Act.at b 83 = .bool true from hc.v 50 l50 _ rfl) ?_
      rw [h1]
      exact hK _ _ (FlatC.step tz5_nd (tz5_ks kSc) rfl hc 51 (by decide) (Below.refl _ _) (fun u hu => by injection hu with hu; injection hu) (trivial))
    · have h1 : (tz5Ops[52]?).map (·.dst) = some (some 85) := by kernel_rfl
      have h2 : (tz5Ops[52]?).map (·.op) = some (Op.pick (Operand.tmp 84) (Operand.const (Value.bool true)) (Operand.const (Value.bool false))) := by kernel_rfl
      have h3 : (tz5Ops[52]?).map (·.guard) = some none := by kernel_rfl
      rw [ho] at h1 h2 h3
      replace h1 := Option.some.inj h1
      replace h2 := Option.some.inj h2
      replace h3 := Option.some.inj h3
      simp only at h1 h2 h3
      rw [h1] at hK
      have l51 : L 51 = true := hdep 51 (by simp [tz5Dep])
      refine ⟨fun _ => ?_, fun hw => by rw [wanted_none h3] at hw; cases hw⟩
      refine wp_pickG _ _ _ h2 true (show Act.at b 84 = .bool true from hc.v 51 l51 _ rfl) _ (if_pos rfl |>.trans rfl) ?_
      rw [h1]
      exact hK _ _ (FlatC.step tz5_nd (tz5_ks kSc) rfl hc 52 (by decide) (Below.refl _ _) (fun u hu => by injection hu with hu; injection hu) (trivial))
    · have h1 : (tz5Ops[53]?).map (·.dst) = some (some 86) := by kernel_rfl
      have h2 : (tz5Ops[53]?).map (·.op) = some (Op.move (Operand.tmp 85)) := by kernel_rfl
      have h3 : (tz5Ops[53]?).map (·.guard) = some none := by kernel_rfl
      rw [ho] at h1 h2 h3
      replace h1 := Option.some.inj h1
      replace h2 := Option.some.inj h2
      replace h3 := Option.some.inj h3
      simp only at h1 h2 h3
      rw [h1] at hK
      have l52 : L 52 = true := hdep 52 (by simp [tz5Dep])
      refine ⟨fun _ => ?_, fun hw => by rw [wanted_none h3] at hw; cases hw⟩
      refine wp_moveG _ h2 _ (show Act.at b 85 = .bool true from hc.v 52 l52 _ rfl) ?_
      rw [h1]
      exact hK _ _ (FlatC.step tz5_nd (tz5_ks kSc) rfl hc 53 (by decide) (Below.refl _ _) (fun u hu => by injection hu with hu; injection hu) (trivial))
    · have h1 : (tz5Ops[54]?).map (·.dst) = some (some 87) := by kernel_rfl
      have h2 : (tz5Ops[54]?).map (·.op) = some (Op.pick (Operand.tmp 86) (Operand.const (Value.bool true)) (Operand.const (Value.bool false))) := by kernel_rfl
      have h3 : (tz5Ops[54]?).map (·.guard) = some none := by kernel_rfl
      rw [ho] at h1 h2 h3
      replace h1 := Option.some.inj h1
      replace h2 := Option.some.inj h2
      replace h3 := Option.some.inj h3
      simp only at h1 h2 h3
      rw [h1] at hK
      have l53 : L 53 = true := hdep 53 (by simp [tz5Dep])
      refine ⟨fun _ => ?_, fun hw => by rw [wanted_none h3] at hw; cases hw⟩
      refine wp_pickG _ _ _ h2 true (show Act.at b 86 = .bool true from hc.v 53 l53 _ rfl) _ (if_pos rfl |>.trans rfl) ?_
      rw [h1]
      exact hK _ _ (FlatC.step tz5_nd (tz5_ks kSc) rfl hc 54 (by decide) (Below.refl _ _) (fun u hu => by injection hu with hu; injection hu) (trivial))
    · have h1 : (tz5Ops[55]?).map (·.dst) = some (some 0) := by kernel_rfl
      have h2 : (tz5Ops[55]?).map (·.op) = some (Op.assign (Operand.tmp 87)) := by kernel_rfl
      have h3 : (tz5Ops[55]?).map (·.guard) = some none := by kernel_rfl
      rw [ho] at h1 h2 h3
      replace h1 := Option.some.inj h1
      replace h2 := Option.some.inj h2
      replace h3 := Option.some.inj h3
      simp only at h1 h2 h3
      rw [h1] at hK
      have l54 : L 54 = true := hdep 54 (by simp [tz5Dep])
      refine ⟨fun _ => ?_, fun hw => by rw [wanted_none h3] at hw; cases hw⟩
      refine wp_assignG _ h2 _ (show Act.at b 87 = .bool true from hc.v 54 l54 _ rfl) ?_
      rw [h1]
      exact hK _ _ (FlatC.step tz5_nd (tz5_ks kSc) rfl hc 55 (by decide) (Below.refl _ _) (fun u hu => by injection hu with hu; injection hu) (trivial))
  · rintro L b w hL hd hs hf hc
    have hsz2 : tz5Ops.size = 56 := rfl
    rw [hsz2] at hL
    have e := act_eq (a := A0) (b := b) (tz5Us (Act.at b)) hd hs hf (by
      intro p hp
      simp only [tz5Us, List.mem_cons, List.not_mem_nil, or_false] at hp
      rcases hp with rfl | rfl | rfl | rfl | rfl | rfl | rfl | rfl | rfl | rfl | rfl | rfl | rfl | rfl | rfl | rfl | rfl | rfl | rfl | rfl | rfl | rfl | rfl | rfl | rfl | rfl | rfl | rfl | rfl | rfl | rfl | rfl | rfl | rfl | rfl | rfl | rfl | rfl | rfl | rfl | rfl | rfl | rfl | rfl | rfl | rfl | rfl | rfl | rfl | rfl | rfl | rfl | rfl | rfl | rfl | rfl <;> rfl) (by rw [show (tz5Us (Act.at b)).map (·.1) = [33, 34, 35, 36, 37, 38, 39, 40, 41, 42, 43, 44, 45, 46, 47, 48, 49, 50, 51, 52, 53, 54, 55, 56, 57, 58, 59, 60, 61, 62, 63, 64, 65, 66, 67, 68, 69, 70, 71, 72, 73, 74, 75, 76, 77, 78, 79, 80, 81, 82, 83, 84, 85, 86, 87, 0] from rfl]; decide)
    rw [e]
    exact hk (Act.at b) w (hc.v 55 (hL 55 (by omega)) _ rfl) ⟨hc.bel.os, hc.bel.tape, hc.bel.output, hc.bel.size, hc.bel.block⟩
end Go.Proofs.Ytdhipmdapodpkaa
