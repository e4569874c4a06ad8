/- parse: the laws' head: its last statement, in open order. -/
import Derived.Test.YtfcccfplmdjndaaGreatPaRd4
namespace Go.Proofs.YtfcccfplmdjndaaGreat
set_option linter.unusedSimpArgs false
set_option linter.unusedVariables false
open Go.RowKit

theorem load_iP {w : World} {p : Addr} {x : Int} (h : w.cell? p = some (.int .i64 x)) : (Instr.loadAt 3 (.pointer (some p))).run Tryz.prog w = .ok (.int .i64 x) w := by
 simp [Instr.loadAt, h]
 go_simp
theorem load_tP {w : World} {p : Addr} {x : ByteArray} (h : w.cell? p = some (.string x)) : (Instr.loadAt 9 (.pointer (some p))).run Tryz.prog w = .ok (.string x) w := by
 simp [Instr.loadAt, h]
 go_simp
theorem load_flP {w : World} {p : Addr} {A : Option Addr} {n c : Nat} (h : w.cell? p = some (.slice A n c)) : (Instr.loadAt 51 (.pointer (some p))).run Tryz.prog w = .ok (.slice A n c) w := by
 simp [Instr.loadAt, h]
 go_simp
theorem wp_indexF {o : Oper} {a : Act} {w : World} {K : Act → World → Prop} {Q : Exit → Act → World → Prop} (x y : Operand) (ho : o.op = .indexAddr 51 x y) (b q n c j : Nat) (hx : a.eval x = .slice (some ⟨b, q, none⟩) n c) (hy : a.eval y = .int .i64 (j : Int)) (hj : j < n) (h : K (a.put o.dst (.pointer (some ⟨b, q + j * 5, none⟩))) w) : o.wp Tryz.prog a w K Q := by
 unfold Oper.wp
 have hj' : (j : Int) < (n : Int) := by omega
 have e : (execOp a.eval o).run Tryz.prog w = .ok (.value (.pointer (some ⟨b, q + j * 5, none⟩))) w := by
  unfold execOp
  simp only [ho, hx, hy]
  go_simp
 rw [e]
 exact h
theorem wp_execG {o : Oper} {a : Act} {w : World} {K : Act → World → Prop} {Q : Exit → Act → World → Prop} (v : Value) (hr : (execOp a.eval o).run Tryz.prog w = .ok (.value v) w) (h : K (a.put o.dst v) w) : o.wp Tryz.prog a w K Q := by
 unfold Oper.wp
 rw [hr]
 exact h
def rd7Ops : Array Oper := #[{ dst := some 50, op := Op.fieldAddr 54 (Operand.tmp 3) 0, type := 0, pos := "law.go:22", after := #[], guard := none }, { dst := some 51, op := Op.load 3 (Operand.tmp 50), type := 3, pos := "law.go:22", after := #[{ on := 0, ground := Ground.data }], guard := none }, { dst := some 52, op := Op.binOp BinOp.eql 3 (Operand.tmp 51) (Operand.const (Value.int IntKind.i64 5)) 3, type := 4, pos := "law.go:22", after := #[{ on := 1, ground := Ground.data }], guard := none }, { dst := some 53, op := Op.move (Operand.tmp 52), type := 4, pos := "law.go:22", after := #[{ on := 2, ground := Ground.data }], guard := none }, { dst := some 54, op := Op.fieldAddr 54 (Operand.tmp 3) 11, type := 0, pos := "law.go:22", after := #[{ on := 3, ground := Ground.guard }], guard := some (3, true) }, { dst := some 55, op := Op.load 51 (Operand.tmp 54), type := 51, pos := "law.go:22", after := #[{ on := 4, ground := Ground.data }, { on := 3, ground := Ground.guard }], guard := some (3, true) }, { dst := some 56, op := Op.call { callee := Callee.builtin Builtin.len, args := #[Operand.tmp 55], argTypes := #[51] }, type := 3, pos := "law.go:22", after := #[{ on := 5, ground := Ground.data }, { on := 3, ground := Ground.guard }], guard := some (3, true) }, { dst := some 57, op := Op.binOp BinOp.eql 3 (Operand.tmp 56) (Operand.const (Value.int IntKind.i64 5)) 3, type := 4, pos := "law.go:22", after := #[{ on := 6, ground := Ground.data }, { on := 3, ground := Ground.guard }], guard := some (3, true) }, { dst := some 58, op := Op.pick (Operand.tmp 53) (Operand.tmp 57) (Operand.const (Value.bool false)), type := 4, pos := "law.go:22", after := #[{ on := 3, ground := Ground.data }, { on := 7, ground := Ground.data }], guard := none }, { dst := some 59, op := Op.move (Operand.tmp 58), type := 4, pos := "law.go:22", after := #[{ on := 8, ground := Ground.data }, { on := 3, ground := Ground.chain }], guard := none }, { dst := some 60, op := Op.fieldAddr 54 (Operand.tmp 3) 11, type := 0, pos := "law.go:22", after := #[{ on := 9, ground := Ground.guard }], guard := some (9, true) }, { dst := some 61, op := Op.load 51 (Operand.tmp 60), type := 51, pos := "law.go:22", after := #[{ on := 10, ground := Ground.data }, { on := 9, ground := Ground.guard }], guard := some (9, true) }, { dst := some 62, op := Op.indexAddr 51 (Operand.tmp 61) (Operand.const (Value.int IntKind.i64 0)), type := 0, pos := "law.go:22", after := #[{ on := 11, ground := Ground.data }, { on := 9, ground := Ground.guard }], guard := some (9, true) }, { dst := some 63, op := Op.fieldAddr 64 (Operand.tmp 62) 2, type := 0, pos := "law.go:22", after := #[{ on := 12, ground := Ground.data }, { on := 9, ground := Ground.guard }], guard := some (9, true) }, { dst := some 64, op := Op.load 3 (Operand.tmp 63), type := 3, pos := "law.go:22", after := #[{ on := 13, ground := Ground.data }, { on := 9, ground := Ground.guard }], guard := some (9, true) }, { dst := some 65, op := Op.binOp BinOp.eql 3 (Operand.tmp 64) (Operand.const (Value.int IntKind.i64 2)) 3, type := 4, pos := "law.go:22", after := #[{ on := 14, ground := Ground.data }, { on := 9, ground := Ground.guard }], guard := some (9, true) }, { dst := some 66, op := Op.pick (Operand.tmp 59) (Operand.tmp 65) (Operand.const (Value.bool false)), type := 4, pos := "law.go:22", after := #[{ on := 9, ground := Ground.data }, { on := 15, ground := Ground.data }], guard := none }, { dst := some 67, op := Op.move (Operand.tmp 66), type := 4, pos := "law.go:22", after := #[{ on := 16, ground := Ground.data }, { on := 9, ground := Ground.chain }], guard := none }, { dst := some 68, op := Op.fieldAddr 54 (Operand.tmp 3) 11, type := 0, pos := "law.go:22", after := #[{ on := 17, ground := Ground.guard }], guard := some (17, true) }, { dst := some 69, op := Op.load 51 (Operand.tmp 68), type := 51, pos := "law.go:22", after := #[{ on := 18, ground := Ground.data }, { on := 17, ground := Ground.guard }], guard := some (17, true) }, { dst := some 70, op := Op.indexAddr 51 (Operand.tmp 69) (Operand.const (Value.int IntKind.i64 3)), type := 0, pos := "law.go:22", after := #[{ on := 19, ground := Ground.data }, { on := 17, ground := Ground.guard }], guard := some (17, true) }, { dst := some 71, op := Op.fieldAddr 64 (Operand.tmp 70) 4, type := 0, pos := "law.go:22", after := #[{ on := 20, ground := Ground.data }, { on := 17, ground := Ground.guard }], guard := some (17, true) }, { dst := some 72, op := Op.load 9 (Operand.tmp 71), type := 9, pos := "law.go:22", after := #[{ on := 21, ground := Ground.data }, { on := 17, ground := Ground.guard }], guard := some (17, true) }, { dst := some 73, op := Op.binOp BinOp.eql 9 (Operand.tmp 72) (Operand.const (Value.string { data := #[113] })) 9, type := 4, pos := "law.go:22", after := #[{ on := 22, ground := Ground.data }, { on := 17, ground := Ground.guard }], guard := some (17, true) }, { dst := some 74, op := Op.pick (Operand.tmp 67) (Operand.tmp 73) (Operand.const (Value.bool false)), type := 4, pos := "law.go:22", after := #[{ on := 17, ground := Ground.data }, { on := 23, ground := Ground.data }], guard := none }, { dst := some 75, op := Op.move (Operand.tmp 74), type := 4, pos := "law.go:22", after := #[{ on := 24, ground := Ground.data }, { on := 17, ground := Ground.chain }], guard := none }, { dst := some 76, op := Op.fieldAddr 32 (Operand.tmp 1) 0, type := 0, pos := "law.go:22", after := #[{ on := 25, ground := Ground.guard }], guard := some (25, true) }, { dst := some 77, op := Op.load 29 (Operand.tmp 76), type := 29, pos := "law.go:22", after := #[{ on := 26, ground := Ground.data }, { on := 25, ground := Ground.guard }], guard := some (25, true) }, { dst := some 78, op := Op.fieldAddr 54 (Operand.tmp 3) 11, type := 0, pos := "law.go:22", after := #[{ on := 25, ground := Ground.guard }], guard := some (25, true) }, { dst := some 79, op := Op.load 51 (Operand.tmp 78), type := 51, pos := "law.go:22", after := #[{ on := 28, ground := Ground.data }, { on := 25, ground := Ground.guard }], guard := some (25, true) }, { dst := some 80, op := Op.indexAddr 51 (Operand.tmp 79) (Operand.const (Value.int IntKind.i64 4)), type := 0, pos := "law.go:22", after := #[{ on := 29, ground := Ground.data }, { on := 25, ground := Ground.guard }], guard := some (25, true) }, { dst := some 81, op := Op.fieldAddr 64 (Operand.tmp 80) 1, type := 0, pos := "law.go:22", after := #[{ on := 30, ground := Ground.data }, { on := 25, ground := Ground.guard }], guard := some (25, true) }, { dst := some 82, op := Op.load 3 (Operand.tmp 81), type := 3, pos := "law.go:22", after := #[{ on := 31, ground := Ground.data }, { on := 25, ground := Ground.guard }], guard := some (25, true) }, { dst := some 83, op := Op.indexAddr 29 (Operand.tmp 77) (Operand.tmp 82), type := 0, pos := "law.go:22", after := #[{ on := 27, ground := Ground.data }, { on := 32, ground := Ground.data }, { on := 25, ground := Ground.guard }], guard := some (25, true) }, { dst := some 84, op := Op.fieldAddr 54 (Operand.tmp 83) 8, type := 0, pos := "law.go:22", after := #[{ on := 33, ground := Ground.data }, { on := 25, ground := Ground.guard }], guard := some (25, true) }, { dst := some 85, op := Op.load 48 (Operand.tmp 84), type := 48, pos := "law.go:22", after := #[{ on := 34, ground := Ground.data }, { on := 25, ground := Ground.guard }], guard := some (25, true) }, { dst := some 86, op := Op.build 48 #[(0, Operand.const (Value.string { data := #[107] })), (1, Operand.const (Value.int IntKind.u64 2)), (2, Operand.const (Value.int IntKind.u64 1))], type := 48, pos := "law.go:22", after := #[{ on := 25, ground := Ground.guard }], guard := some (25, true) }, { dst := some 87, op := Op.binOp BinOp.eql 48 (Operand.tmp 85) (Operand.tmp 86) 48, type := 4, pos := "law.go:22", after := #[{ on := 35, ground := Ground.data }, { on := 36, ground := Ground.data }, { on := 25, ground := Ground.guard }], guard := some (25, true) }, { dst := some 88, op := Op.pick (Operand.tmp 75) (Operand.tmp 87) (Operand.const (Value.bool false)), type := 4, pos := "law.go:22", after := #[{ on := 25, ground := Ground.data }, { on := 37, ground := Ground.data }], guard := none }, { dst := some 89, op := Op.move (Operand.tmp 88), type := 4, pos := "law.go:22", after := #[{ on := 38, ground := Ground.data }, { on := 25, ground := Ground.chain }], guard := none }, { dst := some 90, op := Op.load 26 (Operand.tmp 5), type := 26, pos := "law.go:22", after := #[{ on := 39, ground := Ground.guard }], guard := some (39, true) }, { dst := some 91, op := Op.build 26 #[(0, Operand.const (Value.int IntKind.i64 5)), (1, Operand.const (Value.int IntKind.i64 9))], type := 26, pos := "law.go:22", after := #[{ on := 39, ground := Ground.guard }], guard := some (39, true) }, { dst := some 92, op := Op.binOp BinOp.eql 26 (Operand.tmp 90) (Operand.tmp 91) 26, type := 4, pos := "law.go:22", after := #[{ on := 40, ground := Ground.data }, { on := 41, ground := Ground.data }, { on := 39, ground := Ground.guard }], guard := some (39, true) }, { dst := some 93, op := Op.pick (Operand.tmp 89) (Operand.tmp 92) (Operand.const (Value.bool false)), type := 4, pos := "law.go:22", after := #[{ on := 39, ground := Ground.data }, { on := 42, ground := Ground.data }], guard := none }, { dst := some 94, op := Op.move (Operand.tmp 93), type := 4, pos := "law.go:22", after := #[{ on := 43, ground := Ground.data }, { on := 39, ground := Ground.chain }], guard := none }, { dst := some 95, op := Op.move (Operand.tmp 6), type := 3, pos := "law.go:22", after := #[{ on := 44, ground := Ground.guard }], guard := some (44, true) }, { dst := some 96, op := Op.binOp BinOp.eql 3 (Operand.tmp 95) (Operand.const (Value.int IntKind.i64 3)) 3, type := 4, pos := "law.go:22", after := #[{ on := 45, ground := Ground.data }, { on := 44, ground := Ground.guard }], guard := some (44, true) }, { dst := some 97, op := Op.pick (Operand.tmp 94) (Operand.tmp 96) (Operand.const (Value.bool false)), type := 4, pos := "law.go:22", after := #[{ on := 44, ground := Ground.data }, { on := 46, ground := Ground.data }], guard := none }, { dst := some 98, op := Op.move (Operand.tmp 97), type := 4, pos := "law.go:22", after := #[{ on := 47, ground := Ground.data }, { on := 44, ground := Ground.chain }], guard := none }, { dst := some 99, op := Op.move (Operand.tmp 7), type := 4, pos := "law.go:22", after := #[{ on := 48, ground := Ground.guard }], guard := some (48, true) }, { dst := some 100, op := Op.pick (Operand.tmp 98) (Operand.tmp 99) (Operand.const (Value.bool false)), type := 4, pos := "law.go:22", after := #[{ on := 48, ground := Ground.data }, { on := 49, ground := Ground.data }], guard := none }, { dst := some 101, op := Op.move (Operand.tmp 100), type := 4, pos := "law.go:22", after := #[{ on := 50, ground := Ground.data }, { on := 48, ground := Ground.chain }], guard := none }, { dst := some 102, op := Op.move (Operand.tmp 8), type := 4, pos := "law.go:22", after := #[{ on := 51, ground := Ground.guard }], guard := some (51, true) }, { dst := some 103, op := Op.pick (Operand.tmp 101) (Operand.tmp 102) (Operand.const (Value.bool false)), type := 4, pos := "law.go:22", after := #[{ on := 51, ground := Ground.data }, { on := 52, ground := Ground.data }], guard := none }, { dst := some 104, op := Op.move (Operand.tmp 103), type := 4, pos := "law.go:22", after := #[{ on := 53, ground := Ground.data }, { on := 51, ground := Ground.chain }], guard := none }, { dst := some 105, op := Op.call { callee := Callee.value (Operand.func 11), args := #[Operand.const (Value.string { data := #[109, 97, 110, 121] })], argTypes := #[9] }, type := 4, pos := "law.go:22", after := #[{ on := 54, ground := Ground.chain }, { on := 54, ground := Ground.guard }], guard := some (54, true) }, { dst := some 106, op := Op.pick (Operand.tmp 104) (Operand.tmp 105) (Operand.const (Value.bool false)), type := 4, pos := "law.go:22", after := #[{ on := 54, ground := Ground.data }, { on := 55, ground := Ground.data }], guard := none }, { dst := some 107, op := Op.move (Operand.tmp 106), type := 4, pos := "law.go:22", after := #[{ on := 56, ground := Ground.data }, { on := 55, ground := Ground.chain }], guard := none }, { dst := some 108, op := Op.call { callee := Callee.value (Operand.func 11), args := #[Operand.const (Value.string { data := #[109, 97, 105, 110] })], argTypes := #[9] }, type := 4, pos := "law.go:22", after := #[{ on := 57, ground := Ground.chain }, { on := 57, ground := Ground.guard }], guard := some (57, true) }, { dst := some 109, op := Op.unOp UnOp.not 4 (Operand.tmp 108), type := 4, pos := "law.go:22", after := #[{ on := 58, ground := Ground.data }, { on := 57, ground := Ground.guard }], guard := some (57, true) }, { dst := some 110, op := Op.pick (Operand.tmp 107) (Operand.tmp 109) (Operand.const (Value.bool false)), type := 4, pos := "law.go:22", after := #[{ on := 57, ground := Ground.data }, { on := 59, ground := Ground.data }], guard := none }, { dst := some 111, op := Op.move (Operand.tmp 110), type := 4, pos := "law.go:22", after := #[{ on := 60, ground := Ground.data }, { on := 58, ground := Ground.chain }], guard := none }, { dst := some 112, op := Op.pick (Operand.tmp 111) (Operand.const (Value.bool true)) (Operand.const (Value.bool false)), type := 4, pos := "law.go:22", after := #[{ on := 61, ground := Ground.data }], guard := none }, { dst := some 0, op := Op.assign (Operand.tmp 112), type := 4, pos := "law.go:22", after := #[{ on := 62, ground := Ground.data }, { on := 61, ground := Ground.chain }, { on := 0, ground := Ground.phase }, { on := 1, ground := Ground.phase }, { on := 2, ground := Ground.phase }, { on := 3, ground := Ground.phase }, { on := 4, ground := Ground.phase }, { on := 5, ground := Ground.phase }, { on := 6, ground := Ground.phase }, { on := 7, ground := Ground.phase }, { on := 8, ground := Ground.phase }, { on := 9, ground := Ground.phase }, { on := 10, ground := Ground.phase }, { on := 11, ground := Ground.phase }, { on := 12, ground := Ground.phase }, { on := 13, ground := Ground.phase }, { on := 14, ground := Ground.phase }, { on := 15, ground := Ground.phase }, { on := 16, ground := Ground.phase }, { on := 17, ground := Ground.phase }, { on := 18, ground := Ground.phase }, { on := 19, ground := Ground.phase }, { on := 20, ground := Ground.phase }, { on := 21, ground := Ground.phase }, { on := 22, ground := Ground.phase }, { on := 23, ground := Ground.phase }, { on := 24, ground := Ground.phase }, { on := 25, ground := Ground.phase }, { on := 26, ground := Ground.phase }, { on := 27, ground := Ground.phase }, { on := 28, ground := Ground.phase }, { on := 29, ground := Ground.phase }, { on := 30, ground := Ground.phase }, { on := 31, ground := Ground.phase }, { on := 32, ground := Ground.phase }, { on := 33, ground := Ground.phase }, { on := 34, ground := Ground.phase }, { on := 35, ground := Ground.phase }, { on := 36, ground := Ground.phase }, { on := 37, ground := Ground.phase }, { on := 38, ground := Ground.phase }, { on := 39, ground := Ground.phase }, { on := 40, ground := Ground.phase }, { on := 41, ground := Ground.phase }, { on := 42, ground := Ground.phase }, { on := 43, ground := Ground.phase }, { on := 44, ground := Ground.phase }, { on := 45, ground := Ground.phase }, { on := 46, ground := Ground.phase }, { on := 47, ground := Ground.phase }, { on := 48, ground := Ground.phase }, { on := 49, ground := Ground.phase }, { on := 50, ground := Ground.phase }, { on := 51, ground := Ground.phase }, { on := 52, ground := Ground.phase }, { on := 53, ground := Ground.phase }, { on := 54, ground := Ground.phase }, { on := 55, ground := Ground.phase }, { on := 56, ground := Ground.phase }, { on := 57, ground := Ground.phase }, { on := 58, ground := Ground.phase }, { on := 59, ground := Ground.phase }, { on := 60, ground := Ground.phase }, { on := 61, ground := Ground.phase }, { on := 62, ground := Ground.phase }], guard := none }]
def rd7Dep : Nat → List Nat := fun i => match i with | 1 => [0] | 2 => [1] | 3 => [2] | 4 => [3] | 5 => [3, 4] | 6 => [3, 5] | 7 => [3, 6] | 8 => [3, 7] | 9 => [8] | 10 => [9] | 11 => [9, 10] | 12 => [9, 11] | 13 => [9, 12] | 14 => [9, 13] | 15 => [9, 14] | 16 => [9, 15] | 17 => [16] | 18 => [17] | 19 => [17, 18] | 20 => [17, 19] | 21 => [17, 20] | 22 => [17, 21] | 23 => [17, 22] | 24 => [17, 23] | 25 => [24] | 26 => [25] | 27 => [25, 26] | 28 => [25] | 29 => [25, 28] | 30 => [25, 29] | 31 => [25, 30] | 32 => [25, 31] | 33 => [25, 27, 32] | 34 => [25, 33] | 35 => [25, 34] | 36 => [25] | 37 => [25, 35, 36] | 38 => [25, 37] | 39 => [38] | 40 => [39] | 41 => [39] | 42 => [39, 40, 41] | 43 => [39, 42] | 44 => [43] | 45 => [44] | 46 => [44, 45] | 47 => [44, 46] | 48 => [47] | 49 => [48] | 50 => [48, 49] | 51 => [50] | 52 => [51] | 53 => [51, 52] | 54 => [53] | 55 => [54] | 56 => [54, 55] | 57 => [56] | 58 => [57] | 59 => [57, 58] | 60 => [57, 59] | 61 => [60] | 62 => [61] | 63 => [62] | _ => []
def rd7Sl : List Nat := [50, 51, 52, 53, 54, 55, 56, 57, 58, 59, 60, 61, 62, 63, 64, 65, 66, 67, 68, 69, 70, 71, 72, 73, 74, 75, 76, 77, 78, 79, 80, 81, 82, 83, 84, 85, 86, 87, 88, 89, 90, 91, 92, 93, 94, 95, 96, 97, 98, 99, 100, 101, 102, 103, 104, 105, 106, 107, 108, 109, 110, 111, 112, 0]
def rd7Vs (b1 : Nat) (b5 : Nat) (g0 : Nat) (gN : Nat) (gD : Nat) (gF : Nat) (K0 : SV) (L0 : SV) (C0 : SV) : List (Option Value) := [some (.pointer (some ⟨g0, 0, none⟩)), some (.int .i64 5), some (.bool true), some (.bool true), some (.pointer (some ⟨g0, 13, none⟩)), some (.slice (some ⟨gF, 0, none⟩) 5 5), some (.int .i64 5), some (.bool true), some (.bool true), some (.bool true), some (.pointer (some ⟨g0, 13, none⟩)), some (.slice (some ⟨gF, 0, none⟩) 5 5), some (.pointer (some ⟨gF, 0 + 0 * 5, none⟩)), some (.pointer (some ⟨gF, 0 + 0 * 5 + 2, none⟩)), some (.int .i64 2), some (.bool true), some (.bool true), some (.bool true), some (.pointer (some ⟨g0, 13, none⟩)), some (.slice (some ⟨gF, 0, none⟩) 5 5), some (.pointer (some ⟨gF, 0 + 3 * 5, none⟩)), some (.pointer (some ⟨gF, 0 + 3 * 5 + 4, none⟩)), some (.string ⟨#[113]⟩), some (.bool true), some (.bool true), some (.bool true), some (.pointer (some ⟨b1, 0, none⟩)), some (.slice (some ⟨gN, 0, none⟩) 16 16), some (.pointer (some ⟨g0, 13, none⟩)), some (.slice (some ⟨gF, 0, none⟩) 5 5), some (.pointer (some ⟨gF, 0 + 4 * 5, none⟩)), some (.pointer (some ⟨gF, 0 + 4 * 5 + 1, none⟩)), some (.int .i64 14), some (.pointer (some ⟨gN, 0 + 14 * 18, none⟩)), some (.pointer (some ⟨gN, 0 + 14 * 18 + 8, none⟩)), some (.agg #[.string ⟨#[107]⟩, .int .u64 2, .int .u64 1]), some (.agg #[.string ⟨#[107]⟩, .int .u64 2, .int .u64 1]), some (.bool true), some (.bool true), some (.bool true), some (.agg #[.int .i64 5, .int .i64 9]), some (.agg #[.int .i64 5, .int .i64 9]), some (.bool true), some (.bool true), some (.bool true), some (.int .i64 3), some (.bool true), some (.bool true), some (.bool true), some (.bool true), some (.bool true), some (.bool true), some (.bool true), some (.bool true), some (.bool true), some (.bool true), some (.bool true), some (.bool true), some (.bool false), some (.bool true), some (.bool true), some (.bool true), some (.bool true), some (.bool true)]
def rd7Sp  (i : Nat) : Value → World → Prop := match i with  | _ => fun _ _ => True
theorem rd7_ks   : ∀ i v w w', rd7Sp  i v w → Below w.heap.size w w' → rd7Sp  i v w' := by
 intro i v w w' h hb
 unfold rd7Sp at h ⊢
 split <;> first | trivial
theorem rd7_nd : rd7Sl.Nodup := by decide
def rd7Us (f : Nat → Value) : List (Nat × Value) := [(50, f 50), (51, f 51), (52, f 52), (53, f 53), (54, f 54), (55, f 55), (56, f 56), (57, f 57), (58, f 58), (59, f 59), (60, f 60), (61, f 61), (62, f 62), (63, f 63), (64, f 64), (65, f 65), (66, f 66), (67, f 67), (68, f 68), (69, f 69), (70, f 70), (71, f 71), (72, f 72), (73, f 73), (74, f 74), (75, f 75), (76, f 76), (77, f 77), (78, f 78), (79, f 79), (80, f 80), (81, f 81), (82, f 82), (83, f 83), (84, f 84), (85, f 85), (86, f 86), (87, f 87), (88, f 88), (89, f 89), (90, f 90), (91, f 91), (92, f 92), (93, f 93), (94, f 94), (95, f 95), (96, f 96), (97, f 97), (98, f 98), (99, f 99), (100, f 100), (101, f 101), (102, f 102), (103, f 103), (104, f 104), (105, f 105), (106, f 106), (107, f 107), (108, f 108), (109, f 109), (110, f 110), (111, f 111), (112, f 112), (0, f 0)]
theorem rd7_s {b1 : Nat} {b5 : Nat} {g0 : Nat} {gN : Nat} {gD : Nat} {gF : Nat} {K0 : SV} {L0 : SV} {C0 : SV} {W1 : World} {L : Nat → Bool} {f : Nat → Value} {w : World} {v : Value} (hc : FlatC W1 rd7Sl (rd7Vs b1 b5 g0 gN gD gF K0 L0 C0) rd7Sp L f w) (i : Nat) (hi : i < rd7Sl.length) (hv : (rd7Vs b1 b5 g0 gN gD gF K0 L0 C0)[i]? = some (some v)) : FlatC W1 rd7Sl (rd7Vs b1 b5 g0 gN gD gF K0 L0 C0) rd7Sp (fun k => if k = i then true else L k) (fun t => if some (rd7Sl.getD i 0) = some t then v else f t) w :=
 FlatC.step rd7_nd rd7_ks rfl hc i hi (Below.refl _ _) (fun u hu => by rw [hv] at hu; injection hu with hu; injection hu) trivial
set_option maxRecDepth 20000 in
set_option maxHeartbeats 4000000 in
theorem rd7_reg {b1 : Nat} {b5 : Nat} {g0 : Nat} {gN : Nat} {gD : Nat} {gF : Nat} {K0 : SV} {L0 : SV} {C0 : SV}  {W : World} {A0 : Act} {Q : Exit → Act → World → Prop} {id : Nat} (a1 : Act.at A0 1 = .pointer (some ⟨b1, 0, none⟩)) (a3 : Act.at A0 3 = .pointer (some ⟨g0, 0, none⟩)) (a5 : Act.at A0 5 = .pointer (some ⟨b5, 0, none⟩)) (a6 : Act.at A0 6 = .int .i64 3) (a7 : Act.at A0 7 = .bool true) (a8 : Act.at A0 8 = .bool true) (hsz : 113 ≤ A0.tmps.size)  (hG : Blk W g0 54 (row15 gF K0 L0 C0)) (hF : Blk W gF 64 (flatF evR.fs)) (hB : Blk W b1 32 [.slice (some ⟨gN, 0, none⟩) 16 16, .slice (some ⟨gD, 0, none⟩) 2 2]) (hT : Blk W b5 26 [.int .i64 5, .int .i64 9]) (hgN : gN < W.heap.size) (hE : W.rangeAt gN (0 + 14 * 18 + 8) [.string ⟨#[107]⟩, .int .u64 2, .int .u64 1])
  (HW1 : ∀ w, Below W.heap.size W w → Calls Tryz.prog 11 #[.string ⟨#[109, 97, 110, 121]⟩] w fun e w' => ∃ v, e = .returned v ∧ v = .bool true ∧ Below w.heap.size w w')
  (HW2 : ∀ w, Below W.heap.size W w → Calls Tryz.prog 11 #[.string ⟨#[109, 97, 105, 110]⟩] w fun e w' => ∃ v, e = .returned v ∧ v = .bool false ∧ Below w.heap.size w w')
  (hk : ∀ (f : Nat → Value) w', f 0 = .bool true → Below W.heap.size W w' → Q .normal ⟨(rd7Us f).foldl (fun A p => A.setIfInBounds p.1 p.2) A0.tmps, A0.defers⟩ w') :
  (Code.region id rd7Ops true).wp Tryz.prog Q A0 W := by
 refine wp_region_fun3 (by kernel_rfl) (fun L f w => FlatC W.drew rd7Sl (rd7Vs b1 b5 g0 gN gD gF K0 L0 C0) (rd7Sp ) L f w) [50, 51, 52, 53, 54, 55, 56, 57, 58, 59, 60, 61, 62, 63, 64, 65, 66, 67, 68, 69, 70, 71, 72, 73, 74, 75, 76, 77, 78, 79, 80, 81, 82, 83, 84, 85, 86, 87, 88, 89, 90, 91, 92, 93, 94, 95, 96, 97, 98, 99, 100, 101, 102, 103, 104, 105, 106, 107, 108, 109, 110, 111, 112, 0] (fun i o ho => (wf_ops3 (ops := rd7Ops) (by kernel_rfl)) i o ho) (fun i o ho u hu => ?_) ?_ ?_ ?_
 ·have := ops_dst [50, 51, 52, 53, 54, 55, 56, 57, 58, 59, 60, 61, 62, 63, 64, 65, 66, 67, 68, 69, 70, 71, 72, 73, 74, 75, 76, 77, 78, 79, 80, 81, 82, 83, 84, 85, 86, 87, 88, 89, 90, 91, 92, 93, 94, 95, 96, 97, 98, 99, 100, 101, 102, 103, 104, 105, 106, 107, 108, 109, 110, 111, 112, 0] 113 (by kernel_rfl) i o ho u hu
  exact ⟨this.1, Nat.lt_of_lt_of_le this.2 hsz⟩
 ·have hs : rd7Ops.size = 64 := rfl
  rw [hs]
  exact FlatC.start rfl rfl
 ·rintro L i o ho hLi haf b w hf hc K hK
  have hdep := ops_deps rd7Dep (by kernel_rfl) ho haf
  clear haf
  have hbw : Below W.heap.size W w := ⟨hc.bel.os, hc.bel.tape, hc.bel.output, hc.bel.size, hc.bel.block⟩
  have hs : rd7Ops.size = 64 := rfl
  have hlt : i < 64 := hs ▸ (Array.getElem?_eq_some_iff.1 ho).1
  have hcases : i = 0 ∨ i = 1 ∨ i = 2 ∨ i = 3 ∨ i = 4 ∨ i = 5 ∨ i = 6 ∨ i = 7 ∨ i = 8 ∨ i = 9 ∨ i = 10 ∨ i = 11 ∨ i = 12 ∨ i = 13 ∨ i = 14 ∨ i = 15 ∨ i = 16 ∨ i = 17 ∨ i = 18 ∨ i = 19 ∨ i = 20 ∨ i = 21 ∨ i = 22 ∨ i = 23 ∨ i = 24 ∨ i = 25 ∨ i = 26 ∨ i = 27 ∨ i = 28 ∨ i = 29 ∨ i = 30 ∨ i = 31 ∨ i = 32 ∨ i = 33 ∨ i = 34 ∨ i = 35 ∨ i = 36 ∨ i = 37 ∨ i = 38 ∨ i = 39 ∨ i = 40 ∨ i = 41 ∨ i = 42 ∨ i = 43 ∨ i = 44 ∨ i = 45 ∨ i = 46 ∨ i = 47 ∨ i = 48 ∨ i = 49 ∨ i = 50 ∨ i = 51 ∨ i = 52 ∨ i = 53 ∨ i = 54 ∨ i = 55 ∨ i = 56 ∨ i = 57 ∨ i = 58 ∨ i = 59 ∨ i = 60 ∨ i = 61 ∨ i = 62 ∨ i = 63 := by omega
  clear hlt
  rcases hcases with rfl | rfl | rfl | rfl | rfl | rfl | rfl | rfl | rfl | rfl | rfl | rfl | rfl | rfl | rfl | rfl | rfl | rfl | rfl | rfl | rfl | rfl | rfl | rfl | rfl | rfl | rfl | rfl | rfl | rfl | rfl | rfl | rfl | rfl | rfl | rfl | rfl | rfl | rfl | rfl | rfl | rfl | rfl | rfl | rfl | rfl | rfl | rfl | rfl | rfl | rfl | rfl | rfl | rfl | rfl | rfl | rfl | rfl | rfl | rfl | rfl | rfl | rfl | rfl
  ·obtain ⟨h1, h2, h3⟩ := op_at3 ho (show (rd7Ops[0]?).map (fun o => (o.dst, o.op, o.guard)) = some ((some 50), (Op.fieldAddr 54 (Operand.tmp 3) 0), none) by kernel_rfl)
   rw [h1] at hK
   refine want_none h3 ?_
   refine wp_fieldG _ _ _ h2 _ (.pointer (some ⟨g0, 0, none⟩)) ((hf 3 (by decide)).trans a3) (by kernel_rfl) ?_
   rw [h1]
   exact hK _ _ (rd7_s hc 0 (by decide) rfl)
  ·obtain ⟨h1, h2, h3⟩ := op_at3 ho (show (rd7Ops[1]?).map (fun o => (o.dst, o.op, o.guard)) = some ((some 51), (Op.load 3 (Operand.tmp 50)), none) by kernel_rfl)
   rw [h1] at hK
   have l0 : L 0 = true := hdep 0 (by simp [rd7Dep])
   refine want_none h3 ?_
   refine wp_loadG _ _ h2 _ _ (show Act.at b 50 = .pointer (some ⟨g0, 0, none⟩) from hc.v 0 l0 _ rfl) (load_iP (Blk.at (show Blk w g0 54 _ from (hbw.block g0 hG.lt).trans hG) 0)) ?_
   rw [h1]
   exact hK _ _ (rd7_s hc 1 (by decide) rfl)
  ·obtain ⟨h1, h2, h3⟩ := op_at3 ho (show (rd7Ops[2]?).map (fun o => (o.dst, o.op, o.guard)) = some ((some 52), (Op.binOp BinOp.eql 3 (Operand.tmp 51) (Operand.const (Value.int IntKind.i64 5)) 3), none) by kernel_rfl)
   rw [h1] at hK
   have l1 : L 1 = true := hdep 1 (by simp [rd7Dep])
   refine want_none h3 ?_
   refine wp_binG _ _ _ _ _ h2 _ _ (.bool true) (show Act.at b 51 = .int .i64 5 from hc.v 1 l1 _ rfl) rfl (by kernel_rfl) (by kernel_rfl) ?_
   rw [h1]
   exact hK _ _ (rd7_s hc 2 (by decide) rfl)
  ·obtain ⟨h1, h2, h3⟩ := op_at3 ho (show (rd7Ops[3]?).map (fun o => (o.dst, o.op, o.guard)) = some ((some 53), (Op.move (Operand.tmp 52)), none) by kernel_rfl)
   rw [h1] at hK
   have l2 : L 2 = true := hdep 2 (by simp [rd7Dep])
   refine want_none h3 ?_
   refine wp_moveG _ h2 _ (show Act.at b 52 = .bool true from hc.v 2 l2 _ rfl) ?_
   rw [h1]
   exact hK _ _ (rd7_s hc 3 (by decide) rfl)
  ·obtain ⟨h1, h2, h3⟩ := op_at3 ho (show (rd7Ops[4]?).map (fun o => (o.dst, o.op, o.guard)) = some ((some 54), (Op.fieldAddr 54 (Operand.tmp 3) 11), (some (3, true))) by kernel_rfl)
   rw [h1] at hK
   have l3 : L 3 = true := hdep 3 (by simp [rd7Dep])
   refine want_yes (wanted_of (ops := rd7Ops) (b := b) h3 (d := 53) (by kernel_rfl) (show Act.at b 53 = .bool true from hc.v 3 l3 _ rfl)) rfl ?_
   refine wp_fieldG _ _ _ h2 _ (.pointer (some ⟨g0, 13, none⟩)) ((hf 3 (by decide)).trans a3) (by kernel_rfl) ?_
   rw [h1]
   exact hK _ _ (rd7_s hc 4 (by decide) rfl)
  ·obtain ⟨h1, h2, h3⟩ := op_at3 ho (show (rd7Ops[5]?).map (fun o => (o.dst, o.op, o.guard)) = some ((some 55), (Op.load 51 (Operand.tmp 54)), (some (3, true))) by kernel_rfl)
   rw [h1] at hK
   have l3 : L 3 = true := hdep 3 (by simp [rd7Dep])
   have l4 : L 4 = true := hdep 4 (by simp [rd7Dep])
   refine want_yes (wanted_of (ops := rd7Ops) (b := b) h3 (d := 53) (by kernel_rfl) (show Act.at b 53 = .bool true from hc.v 3 l3 _ rfl)) rfl ?_
   refine wp_loadG _ _ h2 _ _ (show Act.at b 54 = .pointer (some ⟨g0, 13, none⟩) from hc.v 4 l4 _ rfl) (load_flP (Blk.at (show Blk w g0 54 _ from (hbw.block g0 hG.lt).trans hG) 13)) ?_
   rw [h1]
   exact hK _ _ (rd7_s hc 5 (by decide) rfl)
  ·obtain ⟨h1, h2, h3⟩ := op_at3 ho (show (rd7Ops[6]?).map (fun o => (o.dst, o.op, o.guard)) = some ((some 56), (Op.call { callee := Callee.builtin Builtin.len, args := #[Operand.tmp 55], argTypes := #[51] }), (some (3, true))) by kernel_rfl)
   rw [h1] at hK
   have l3 : L 3 = true := hdep 3 (by simp [rd7Dep])
   have l5 : L 5 = true := hdep 5 (by simp [rd7Dep])
   refine want_yes (wanted_of (ops := rd7Ops) (b := b) h3 (d := 53) (by kernel_rfl) (show Act.at b 53 = .bool true from hc.v 3 l3 _ rfl)) rfl ?_
   refine wp_lenS _ _ h2 ⟨_, Tryz.underlying51⟩ _ 5 5 (show Act.at b 55 = .slice (some ⟨gF, 0, none⟩) 5 5 from hc.v 5 l5 _ rfl) ?_
   rw [h1]
   exact hK _ _ (rd7_s hc 6 (by decide) rfl)
  ·obtain ⟨h1, h2, h3⟩ := op_at3 ho (show (rd7Ops[7]?).map (fun o => (o.dst, o.op, o.guard)) = some ((some 57), (Op.binOp BinOp.eql 3 (Operand.tmp 56) (Operand.const (Value.int IntKind.i64 5)) 3), (some (3, true))) by kernel_rfl)
   rw [h1] at hK
   have l3 : L 3 = true := hdep 3 (by simp [rd7Dep])
   have l6 : L 6 = true := hdep 6 (by simp [rd7Dep])
   refine want_yes (wanted_of (ops := rd7Ops) (b := b) h3 (d := 53) (by kernel_rfl) (show Act.at b 53 = .bool true from hc.v 3 l3 _ rfl)) rfl ?_
   refine wp_binG _ _ _ _ _ h2 _ _ (.bool true) (show Act.at b 56 = .int .i64 5 from hc.v 6 l6 _ rfl) rfl (by kernel_rfl) (by kernel_rfl) ?_
   rw [h1]
   exact hK _ _ (rd7_s hc 7 (by decide) rfl)
  ·obtain ⟨h1, h2, h3⟩ := op_at3 ho (show (rd7Ops[8]?).map (fun o => (o.dst, o.op, o.guard)) = some ((some 58), (Op.pick (Operand.tmp 53) (Operand.tmp 57) (Operand.const (Value.bool false))), none) by kernel_rfl)
   rw [h1] at hK
   have l3 : L 3 = true := hdep 3 (by simp [rd7Dep])
   have l7 : L 7 = true := hdep 7 (by simp [rd7Dep])
   refine want_none h3 ?_
   refine wp_pickG _ _ _ h2 true (show Act.at b 53 = .bool true from hc.v 3 l3 _ rfl) _ (if_pos rfl |>.trans (show Act.at b 57 = .bool true from hc.v 7 l7 _ rfl)) ?_
   rw [h1]
   exact hK _ _ (rd7_s hc 8 (by decide) rfl)
  ·obtain ⟨h1, h2, h3⟩ := op_at3 ho (show (rd7Ops[9]?).map (fun o => (o.dst, o.op, o.guard)) = some ((some 59), (Op.move (Operand.tmp 58)), none) by kernel_rfl)
   rw [h1] at hK
   have l8 : L 8 = true := hdep 8 (by simp [rd7Dep])
   refine want_none h3 ?_
   refine wp_moveG _ h2 _ (show Act.at b 58 = .bool true from hc.v 8 l8 _ rfl) ?_
   rw [h1]
   exact hK _ _ (rd7_s hc 9 (by decide) rfl)
  ·obtain ⟨h1, h2, h3⟩ := op_at3 ho (show (rd7Ops[10]?).map (fun o => (o.dst, o.op, o.guard)) = some ((some 60), (Op.fieldAddr 54 (Operand.tmp 3) 11), (some (9, true))) by kernel_rfl)
   rw [h1] at hK
   have l9 : L 9 = true := hdep 9 (by simp [rd7Dep])
   refine want_yes (wanted_of (ops := rd7Ops) (b := b) h3 (d := 59) (by kernel_rfl) (show Act.at b 59 = .bool true from hc.v 9 l9 _ rfl)) rfl ?_
   refine wp_fieldG _ _ _ h2 _ (.pointer (some ⟨g0, 13, none⟩)) ((hf 3 (by decide)).trans a3) (by kernel_rfl) ?_
   rw [h1]
   exact hK _ _ (rd7_s hc 10 (by decide) rfl)
  ·obtain ⟨h1, h2, h3⟩ := op_at3 ho (show (rd7Ops[11]?).map (fun o => (o.dst, o.op, o.guard)) = some ((some 61), (Op.load 51 (Operand.tmp 60)), (some (9, true))) by kernel_rfl)
   rw [h1] at hK
   have l9 : L 9 = true := hdep 9 (by simp [rd7Dep])
   have l10 : L 10 = true := hdep 10 (by simp [rd7Dep])
   refine want_yes (wanted_of (ops := rd7Ops) (b := b) h3 (d := 59) (by kernel_rfl) (show Act.at b 59 = .bool true from hc.v 9 l9 _ rfl)) rfl ?_
   refine wp_loadG _ _ h2 _ _ (show Act.at b 60 = .pointer (some ⟨g0, 13, none⟩) from hc.v 10 l10 _ rfl) (load_flP (Blk.at (show Blk w g0 54 _ from (hbw.block g0 hG.lt).trans hG) 13)) ?_
   rw [h1]
   exact hK _ _ (rd7_s hc 11 (by decide) rfl)
  ·obtain ⟨h1, h2, h3⟩ := op_at3 ho (show (rd7Ops[12]?).map (fun o => (o.dst, o.op, o.guard)) = some ((some 62), (Op.indexAddr 51 (Operand.tmp 61) (Operand.const (Value.int IntKind.i64 0))), (some (9, true))) by kernel_rfl)
   rw [h1] at hK
   have l9 : L 9 = true := hdep 9 (by simp [rd7Dep])
   have l11 : L 11 = true := hdep 11 (by simp [rd7Dep])
   refine want_yes (wanted_of (ops := rd7Ops) (b := b) h3 (d := 59) (by kernel_rfl) (show Act.at b 59 = .bool true from hc.v 9 l9 _ rfl)) rfl ?_
   refine wp_indexF _ _ h2 gF 0 5 5 0 (show Act.at b 61 = .slice (some ⟨gF, 0, none⟩) 5 5 from hc.v 11 l11 _ rfl) rfl (by decide) ?_
   rw [h1]
   exact hK _ _ (rd7_s hc 12 (by decide) rfl)
  ·obtain ⟨h1, h2, h3⟩ := op_at3 ho (show (rd7Ops[13]?).map (fun o => (o.dst, o.op, o.guard)) = some ((some 63), (Op.fieldAddr 64 (Operand.tmp 62) 2), (some (9, true))) by kernel_rfl)
   rw [h1] at hK
   have l9 : L 9 = true := hdep 9 (by simp [rd7Dep])
   have l12 : L 12 = true := hdep 12 (by simp [rd7Dep])
   refine want_yes (wanted_of (ops := rd7Ops) (b := b) h3 (d := 59) (by kernel_rfl) (show Act.at b 59 = .bool true from hc.v 9 l9 _ rfl)) rfl ?_
   refine wp_fieldG _ _ _ h2 _ (.pointer (some ⟨gF, 0 + 0 * 5 + 2, none⟩)) (show Act.at b 62 = .pointer (some ⟨gF, 0 + 0 * 5, none⟩) from hc.v 12 l12 _ rfl) (by kernel_rfl) ?_
   rw [h1]
   exact hK _ _ (rd7_s hc 13 (by decide) rfl)
  ·obtain ⟨h1, h2, h3⟩ := op_at3 ho (show (rd7Ops[14]?).map (fun o => (o.dst, o.op, o.guard)) = some ((some 64), (Op.load 3 (Operand.tmp 63)), (some (9, true))) by kernel_rfl)
   rw [h1] at hK
   have l9 : L 9 = true := hdep 9 (by simp [rd7Dep])
   have l13 : L 13 = true := hdep 13 (by simp [rd7Dep])
   refine want_yes (wanted_of (ops := rd7Ops) (b := b) h3 (d := 59) (by kernel_rfl) (show Act.at b 59 = .bool true from hc.v 9 l9 _ rfl)) rfl ?_
   refine wp_loadG _ _ h2 _ _ (show Act.at b 63 = .pointer (some ⟨gF, 0 + 0 * 5 + 2, none⟩) from hc.v 13 l13 _ rfl) (load_iP (Blk.at (show Blk w gF 64 _ from (hbw.block gF hF.lt).trans hF) 2)) ?_
   rw [h1]
   exact hK _ _ (rd7_s hc 14 (by decide) rfl)
  ·obtain ⟨h1, h2, h3⟩ := op_at3 ho (show (rd7Ops[15]?).map (fun o => (o.dst, o.op, o.guard)) = some ((some 65), (Op.binOp BinOp.eql 3 (Operand.tmp 64) (Operand.const (Value.int IntKind.i64 2)) 3), (some (9, true))) by kernel_rfl)
   rw [h1] at hK
   have l9 : L 9 = true := hdep 9 (by simp [rd7Dep])
   have l14 : L 14 = true := hdep 14 (by simp [rd7Dep])
   refine want_yes (wanted_of (ops := rd7Ops) (b := b) h3 (d := 59) (by kernel_rfl) (show Act.at b 59 = .bool true from hc.v 9 l9 _ rfl)) rfl ?_
   refine wp_binG _ _ _ _ _ h2 _ _ (.bool true) (show Act.at b 64 = .int .i64 2 from hc.v 14 l14 _ rfl) rfl (by kernel_rfl) (by kernel_rfl) ?_
   rw [h1]
   exact hK _ _ (rd7_s hc 15 (by decide) rfl)
  ·obtain ⟨h1, h2, h3⟩ := op_at3 ho (show (rd7Ops[16]?).map (fun o => (o.dst, o.op, o.guard)) = some ((some 66), (Op.pick (Operand.tmp 59) (Operand.tmp 65) (Operand.const (Value.bool false))), none) by kernel_rfl)
   rw [h1] at hK
   have l9 : L 9 = true := hdep 9 (by simp [rd7Dep])
   have l15 : L 15 = true := hdep 15 (by simp [rd7Dep])
   refine want_none h3 ?_
   refine wp_pickG _ _ _ h2 true (show Act.at b 59 = .bool true from hc.v 9 l9 _ rfl) _ (if_pos rfl |>.trans (show Act.at b 65 = .bool true from hc.v 15 l15 _ rfl)) ?_
   rw [h1]
   exact hK _ _ (rd7_s hc 16 (by decide) rfl)
  ·obtain ⟨h1, h2, h3⟩ := op_at3 ho (show (rd7Ops[17]?).map (fun o => (o.dst, o.op, o.guard)) = some ((some 67), (Op.move (Operand.tmp 66)), none) by kernel_rfl)
   rw [h1] at hK
   have l16 : L 16 = true := hdep 16 (by simp [rd7Dep])
   refine want_none h3 ?_
   refine wp_moveG _ h2 _ (show Act.at b 66 = .bool true from hc.v 16 l16 _ rfl) ?_
   rw [h1]
   exact hK _ _ (rd7_s hc 17 (by decide) rfl)
  ·obtain ⟨h1, h2, h3⟩ := op_at3 ho (show (rd7Ops[18]?).map (fun o => (o.dst, o.op, o.guard)) = some ((some 68), (Op.fieldAddr 54 (Operand.tmp 3) 11), (some (17, true))) by kernel_rfl)
   rw [h1] at hK
   have l17 : L 17 = true := hdep 17 (by simp [rd7Dep])
   refine want_yes (wanted_of (ops := rd7Ops) (b := b) h3 (d := 67) (by kernel_rfl) (show Act.at b 67 = .bool true from hc.v 17 l17 _ rfl)) rfl ?_
   refine wp_fieldG _ _ _ h2 _ (.pointer (some ⟨g0, 13, none⟩)) ((hf 3 (by decide)).trans a3) (by kernel_rfl) ?_
   rw [h1]
   exact hK _ _ (rd7_s hc 18 (by decide) rfl)
  ·obtain ⟨h1, h2, h3⟩ := op_at3 ho (show (rd7Ops[19]?).map (fun o => (o.dst, o.op, o.guard)) = some ((some 69), (Op.load 51 (Operand.tmp 68)), (some (17, true))) by kernel_rfl)
   rw [h1] at hK
   have l17 : L 17 = true := hdep 17 (by simp [rd7Dep])
   have l18 : L 18 = true := hdep 18 (by simp [rd7Dep])
   refine want_yes (wanted_of (ops := rd7Ops) (b := b) h3 (d := 67) (by kernel_rfl) (show Act.at b 67 = .bool true from hc.v 17 l17 _ rfl)) rfl ?_
   refine wp_loadG _ _ h2 _ _ (show Act.at b 68 = .pointer (some ⟨g0, 13, none⟩) from hc.v 18 l18 _ rfl) (load_flP (Blk.at (show Blk w g0 54 _ from (hbw.block g0 hG.lt).trans hG) 13)) ?_
   rw [h1]
   exact hK _ _ (rd7_s hc 19 (by decide) rfl)
  ·obtain ⟨h1, h2, h3⟩ := op_at3 ho (show (rd7Ops[20]?).map (fun o => (o.dst, o.op, o.guard)) = some ((some 70), (Op.indexAddr 51 (Operand.tmp 69) (Operand.const (Value.int IntKind.i64 3))), (some (17, true))) by kernel_rfl)
   rw [h1] at hK
   have l17 : L 17 = true := hdep 17 (by simp [rd7Dep])
   have l19 : L 19 = true := hdep 19 (by simp [rd7Dep])
   refine want_yes (wanted_of (ops := rd7Ops) (b := b) h3 (d := 67) (by kernel_rfl) (show Act.at b 67 = .bool true from hc.v 17 l17 _ rfl)) rfl ?_
   refine wp_indexF _ _ h2 gF 0 5 5 3 (show Act.at b 69 = .slice (some ⟨gF, 0, none⟩) 5 5 from hc.v 19 l19 _ rfl) rfl (by decide) ?_
   rw [h1]
   exact hK _ _ (rd7_s hc 20 (by decide) rfl)
  ·obtain ⟨h1, h2, h3⟩ := op_at3 ho (show (rd7Ops[21]?).map (fun o => (o.dst, o.op, o.guard)) = some ((some 71), (Op.fieldAddr 64 (Operand.tmp 70) 4), (some (17, true))) by kernel_rfl)
   rw [h1] at hK
   have l17 : L 17 = true := hdep 17 (by simp [rd7Dep])
   have l20 : L 20 = true := hdep 20 (by simp [rd7Dep])
   refine want_yes (wanted_of (ops := rd7Ops) (b := b) h3 (d := 67) (by kernel_rfl) (show Act.at b 67 = .bool true from hc.v 17 l17 _ rfl)) rfl ?_
   refine wp_fieldG _ _ _ h2 _ (.pointer (some ⟨gF, 0 + 3 * 5 + 4, none⟩)) (show Act.at b 70 = .pointer (some ⟨gF, 0 + 3 * 5, none⟩) from hc.v 20 l20 _ rfl) (by kernel_rfl) ?_
   rw [h1]
   exact hK _ _ (rd7_s hc 21 (by decide) rfl)
  ·obtain ⟨h1, h2, h3⟩ := op_at3 ho (show (rd7Ops[22]?).map (fun o => (o.dst, o.op, o.guard)) = some ((some 72), (Op.load 9 (Operand.tmp 71)), (some (17, true))) by kernel_rfl)
   rw [h1] at hK
   have l17 : L 17 = true := hdep 17 (by simp [rd7Dep])
   have l21 : L 21 = true := hdep 21 (by simp [rd7Dep])
   refine want_yes (wanted_of (ops := rd7Ops) (b := b) h3 (d := 67) (by kernel_rfl) (show Act.at b 67 = .bool true from hc.v 17 l17 _ rfl)) rfl ?_
   refine wp_loadG _ _ h2 _ _ (show Act.at b 71 = .pointer (some ⟨gF, 0 + 3 * 5 + 4, none⟩) from hc.v 21 l21 _ rfl) (load_tP (Blk.at (show Blk w gF 64 _ from (hbw.block gF hF.lt).trans hF) 19)) ?_
   rw [h1]
   exact hK _ _ (rd7_s hc 22 (by decide) rfl)
  ·obtain ⟨h1, h2, h3⟩ := op_at3 ho (show (rd7Ops[23]?).map (fun o => (o.dst, o.op, o.guard)) = some ((some 73), (Op.binOp BinOp.eql 9 (Operand.tmp 72) (Operand.const (Value.string { data := #[113] })) 9), (some (17, true))) by kernel_rfl)
   rw [h1] at hK
   have l17 : L 17 = true := hdep 17 (by simp [rd7Dep])
   have l22 : L 22 = true := hdep 22 (by simp [rd7Dep])
   refine want_yes (wanted_of (ops := rd7Ops) (b := b) h3 (d := 67) (by kernel_rfl) (show Act.at b 67 = .bool true from hc.v 17 l17 _ rfl)) rfl ?_
   refine wp_binG _ _ _ _ _ h2 _ _ (.bool true) (show Act.at b 72 = .string ⟨#[113]⟩ from hc.v 22 l22 _ rfl) rfl (by kernel_rfl) (by kernel_rfl) ?_
   rw [h1]
   exact hK _ _ (rd7_s hc 23 (by decide) rfl)
  ·obtain ⟨h1, h2, h3⟩ := op_at3 ho (show (rd7Ops[24]?).map (fun o => (o.dst, o.op, o.guard)) = some ((some 74), (Op.pick (Operand.tmp 67) (Operand.tmp 73) (Operand.const (Value.bool false))), none) by kernel_rfl)
   rw [h1] at hK
   have l17 : L 17 = true := hdep 17 (by simp [rd7Dep])
   have l23 : L 23 = true := hdep 23 (by simp [rd7Dep])
   refine want_none h3 ?_
   refine wp_pickG _ _ _ h2 true (show Act.at b 67 = .bool true from hc.v 17 l17 _ rfl) _ (if_pos rfl |>.trans (show Act.at b 73 = .bool true from hc.v 23 l23 _ rfl)) ?_
   rw [h1]
   exact hK _ _ (rd7_s hc 24 (by decide) rfl)
  ·obtain ⟨h1, h2, h3⟩ := op_at3 ho (show (rd7Ops[25]?).map (fun o => (o.dst, o.op, o.guard)) = some ((some 75), (Op.move (Operand.tmp 74)), none) by kernel_rfl)
   rw [h1] at hK
   have l24 : L 24 = true := hdep 24 (by simp [rd7Dep])
   refine want_none h3 ?_
   refine wp_moveG _ h2 _ (show Act.at b 74 = .bool true from hc.v 24 l24 _ rfl) ?_
   rw [h1]
   exact hK _ _ (rd7_s hc 25 (by decide) rfl)
  ·obtain ⟨h1, h2, h3⟩ := op_at3 ho (show (rd7Ops[26]?).map (fun o => (o.dst, o.op, o.guard)) = some ((some 76), (Op.fieldAddr 32 (Operand.tmp 1) 0), (some (25, true))) by kernel_rfl)
   rw [h1] at hK
   have l25 : L 25 = true := hdep 25 (by simp [rd7Dep])
   refine want_yes (wanted_of (ops := rd7Ops) (b := b) h3 (d := 75) (by kernel_rfl) (show Act.at b 75 = .bool true from hc.v 25 l25 _ rfl)) rfl ?_
   refine wp_fieldG _ _ _ h2 _ _ ((hf 1 (by decide)).trans a1) (field_0R b1 w) ?_
   rw [h1]
   exact hK _ _ (rd7_s hc 26 (by decide) rfl)
  ·obtain ⟨h1, h2, h3⟩ := op_at3 ho (show (rd7Ops[27]?).map (fun o => (o.dst, o.op, o.guard)) = some ((some 77), (Op.load 29 (Operand.tmp 76)), (some (25, true))) by kernel_rfl)
   rw [h1] at hK
   have l25 : L 25 = true := hdep 25 (by simp [rd7Dep])
   have l26 : L 26 = true := hdep 26 (by simp [rd7Dep])
   refine want_yes (wanted_of (ops := rd7Ops) (b := b) h3 (d := 75) (by kernel_rfl) (show Act.at b 75 = .bool true from hc.v 25 l25 _ rfl)) rfl ?_
   refine wp_loadG _ _ h2 _ _ (show Act.at b 76 = .pointer (some ⟨b1, 0, none⟩) from hc.v 26 l26 _ rfl) (load_slP (Blk.at (show Blk w b1 32 _ from (hbw.block b1 hB.lt).trans hB) 0)) ?_
   rw [h1]
   exact hK _ _ (rd7_s hc 27 (by decide) rfl)
  ·obtain ⟨h1, h2, h3⟩ := op_at3 ho (show (rd7Ops[28]?).map (fun o => (o.dst, o.op, o.guard)) = some ((some 78), (Op.fieldAddr 54 (Operand.tmp 3) 11), (some (25, true))) by kernel_rfl)
   rw [h1] at hK
   have l25 : L 25 = true := hdep 25 (by simp [rd7Dep])
   refine want_yes (wanted_of (ops := rd7Ops) (b := b) h3 (d := 75) (by kernel_rfl) (show Act.at b 75 = .bool true from hc.v 25 l25 _ rfl)) rfl ?_
   refine wp_fieldG _ _ _ h2 _ (.pointer (some ⟨g0, 13, none⟩)) ((hf 3 (by decide)).trans a3) (by kernel_rfl) ?_
   rw [h1]
   exact hK _ _ (rd7_s hc 28 (by decide) rfl)
  ·obtain ⟨h1, h2, h3⟩ := op_at3 ho (show (rd7Ops[29]?).map (fun o => (o.dst, o.op, o.guard)) = some ((some 79), (Op.load 51 (Operand.tmp 78)), (some (25, true))) by kernel_rfl)
   rw [h1] at hK
   have l25 : L 25 = true := hdep 25 (by simp [rd7Dep])
   have l28 : L 28 = true := hdep 28 (by simp [rd7Dep])
   refine want_yes (wanted_of (ops := rd7Ops) (b := b) h3 (d := 75) (by kernel_rfl) (show Act.at b 75 = .bool true from hc.v 25 l25 _ rfl)) rfl ?_
   refine wp_loadG _ _ h2 _ _ (show Act.at b 78 = .pointer (some ⟨g0, 13, none⟩) from hc.v 28 l28 _ rfl) (load_flP (Blk.at (show Blk w g0 54 _ from (hbw.block g0 hG.lt).trans hG) 13)) ?_
   rw [h1]
   exact hK _ _ (rd7_s hc 29 (by decide) rfl)
  ·obtain ⟨h1, h2, h3⟩ := op_at3 ho (show (rd7Ops[30]?).map (fun o => (o.dst, o.op, o.guard)) = some ((some 80), (Op.indexAddr 51 (Operand.tmp 79) (Operand.const (Value.int IntKind.i64 4))), (some (25, true))) by kernel_rfl)
   rw [h1] at hK
   have l25 : L 25 = true := hdep 25 (by simp [rd7Dep])
   have l29 : L 29 = true := hdep 29 (by simp [rd7Dep])
   refine want_yes (wanted_of (ops := rd7Ops) (b := b) h3 (d := 75) (by kernel_rfl) (show Act.at b 75 = .bool true from hc.v 25 l25 _ rfl)) rfl ?_
   refine wp_indexF _ _ h2 gF 0 5 5 4 (show Act.at b 79 = .slice (some ⟨gF, 0, none⟩) 5 5 from hc.v 29 l29 _ rfl) rfl (by decide) ?_
   rw [h1]
   exact hK _ _ (rd7_s hc 30 (by decide) rfl)
  ·obtain ⟨h1, h2, h3⟩ := op_at3 ho (show (rd7Ops[31]?).map (fun o => (o.dst, o.op, o.guard)) = some ((some 81), (Op.fieldAddr 64 (Operand.tmp 80) 1), (some (25, true))) by kernel_rfl)
   rw [h1] at hK
   have l25 : L 25 = true := hdep 25 (by simp [rd7Dep])
   have l30 : L 30 = true := hdep 30 (by simp [rd7Dep])
   refine want_yes (wanted_of (ops := rd7Ops) (b := b) h3 (d := 75) (by kernel_rfl) (show Act.at b 75 = .bool true from hc.v 25 l25 _ rfl)) rfl ?_
   refine wp_fieldG _ _ _ h2 _ (.pointer (some ⟨gF, 0 + 4 * 5 + 1, none⟩)) (show Act.at b 80 = .pointer (some ⟨gF, 0 + 4 * 5, none⟩) from hc.v 30 l30 _ rfl) (by kernel_rfl) ?_
   rw [h1]
   exact hK _ _ (rd7_s hc 31 (by decide) rfl)
  ·obtain ⟨h1, h2, h3⟩ := op_at3 ho (show (rd7Ops[32]?).map (fun o => (o.dst, o.op, o.guard)) = some ((some 82), (Op.load 3 (Operand.tmp 81)), (some (25, true))) by kernel_rfl)
   rw [h1] at hK
   have l25 : L 25 = true := hdep 25 (by simp [rd7Dep])
   have l31 : L 31 = true := hdep 31 (by simp [rd7Dep])
   refine want_yes (wanted_of (ops := rd7Ops) (b := b) h3 (d := 75) (by kernel_rfl) (show Act.at b 75 = .bool true from hc.v 25 l25 _ rfl)) rfl ?_
   refine wp_loadG _ _ h2 _ _ (show Act.at b 81 = .pointer (some ⟨gF, 0 + 4 * 5 + 1, none⟩) from hc.v 31 l31 _ rfl) (load_iP (Blk.at (show Blk w gF 64 _ from (hbw.block gF hF.lt).trans hF) 21)) ?_
   rw [h1]
   exact hK _ _ (rd7_s hc 32 (by decide) rfl)
  ·obtain ⟨h1, h2, h3⟩ := op_at3 ho (show (rd7Ops[33]?).map (fun o => (o.dst, o.op, o.guard)) = some ((some 83), (Op.indexAddr 29 (Operand.tmp 77) (Operand.tmp 82)), (some (25, true))) by kernel_rfl)
   rw [h1] at hK
   have l25 : L 25 = true := hdep 25 (by simp [rd7Dep])
   have l27 : L 27 = true := hdep 27 (by simp [rd7Dep])
   have l32 : L 32 = true := hdep 32 (by simp [rd7Dep])
   refine want_yes (wanted_of (ops := rd7Ops) (b := b) h3 (d := 75) (by kernel_rfl) (show Act.at b 75 = .bool true from hc.v 25 l25 _ rfl)) rfl ?_
   refine wp_indexP _ _ h2 gN 0 16 _ 14 (show Act.at b 77 = .slice (some ⟨gN, 0, none⟩) 16 16 from hc.v 27 l27 _ rfl) (show Act.at b 82 = .int .i64 14 from hc.v 32 l32 _ rfl) (by decide) ?_
   rw [h1]
   exact hK _ _ (rd7_s hc 33 (by decide) rfl)
  ·obtain ⟨h1, h2, h3⟩ := op_at3 ho (show (rd7Ops[34]?).map (fun o => (o.dst, o.op, o.guard)) = some ((some 84), (Op.fieldAddr 54 (Operand.tmp 83) 8), (some (25, true))) by kernel_rfl)
   rw [h1] at hK
   have l25 : L 25 = true := hdep 25 (by simp [rd7Dep])
   have l33 : L 33 = true := hdep 33 (by simp [rd7Dep])
   refine want_yes (wanted_of (ops := rd7Ops) (b := b) h3 (d := 75) (by kernel_rfl) (show Act.at b 75 = .bool true from hc.v 25 l25 _ rfl)) rfl ?_
   refine wp_fieldG _ _ _ h2 _ (.pointer (some ⟨gN, 0 + 14 * 18 + 8, none⟩)) (show Act.at b 83 = .pointer (some ⟨gN, 0 + 14 * 18, none⟩) from hc.v 33 l33 _ rfl) (by kernel_rfl) ?_
   rw [h1]
   exact hK _ _ (rd7_s hc 34 (by decide) rfl)
  ·obtain ⟨h1, h2, h3⟩ := op_at3 ho (show (rd7Ops[35]?).map (fun o => (o.dst, o.op, o.guard)) = some ((some 85), (Op.load 48 (Operand.tmp 84)), (some (25, true))) by kernel_rfl)
   rw [h1] at hK
   have l25 : L 25 = true := hdep 25 (by simp [rd7Dep])
   have l34 : L 34 = true := hdep 34 (by simp [rd7Dep])
   refine want_yes (wanted_of (ops := rd7Ops) (b := b) h3 (d := 75) (by kernel_rfl) (show Act.at b 75 = .bool true from hc.v 25 l25 _ rfl)) rfl ?_
   refine wp_load_mid 48 _ h2 gN (0 + 14 * 18 + 8) (show Act.at b 84 = .pointer (some ⟨gN, 0 + 14 * 18 + 8, none⟩) from hc.v 34 l34 _ rfl) [.string ⟨#[107]⟩, .int .u64 2, .int .u64 1] _ (range_keep hE (hbw.block gN hgN)) Tryz.underlying48 rfl (by kernel_rfl) ?_
   rw [h1]
   exact hK _ _ (rd7_s hc 35 (by decide) rfl)
  ·obtain ⟨h1, h2, h3⟩ := op_at3 ho (show (rd7Ops[36]?).map (fun o => (o.dst, o.op, o.guard)) = some ((some 86), (Op.build 48 #[(0, Operand.const (Value.string { data := #[107] })), (1, Operand.const (Value.int IntKind.u64 2)), (2, Operand.const (Value.int IntKind.u64 1))]), (some (25, true))) by kernel_rfl)
   rw [h1] at hK
   have l25 : L 25 = true := hdep 25 (by simp [rd7Dep])
   refine want_yes (wanted_of (ops := rd7Ops) (b := b) h3 (d := 75) (by kernel_rfl) (show Act.at b 75 = .bool true from hc.v 25 l25 _ rfl)) rfl ?_
   refine wp_execG (.agg #[.string ⟨#[107]⟩, .int .u64 2, .int .u64 1]) (by unfold execOp; simp only [h2]; kernel_rfl) ?_
   rw [h1]
   exact hK _ _ (rd7_s hc 36 (by decide) rfl)
  ·obtain ⟨h1, h2, h3⟩ := op_at3 ho (show (rd7Ops[37]?).map (fun o => (o.dst, o.op, o.guard)) = some ((some 87), (Op.binOp BinOp.eql 48 (Operand.tmp 85) (Operand.tmp 86) 48), (some (25, true))) by kernel_rfl)
   rw [h1] at hK
   have l25 : L 25 = true := hdep 25 (by simp [rd7Dep])
   have l35 : L 35 = true := hdep 35 (by simp [rd7Dep])
   have l36 : L 36 = true := hdep 36 (by simp [rd7Dep])
   refine want_yes (wanted_of (ops := rd7Ops) (b := b) h3 (d := 75) (by kernel_rfl) (show Act.at b 75 = .bool true from hc.v 25 l25 _ rfl)) rfl ?_
   refine wp_binG _ _ _ _ _ h2 _ _ (.bool true) (show Act.at b 85 = .agg #[.string ⟨#[107]⟩, .int .u64 2, .int .u64 1] from hc.v 35 l35 _ rfl) (show Act.at b 86 = .agg #[.string ⟨#[107]⟩, .int .u64 2, .int .u64 1] from hc.v 36 l36 _ rfl) (by kernel_rfl) (by kernel_rfl) ?_
   rw [h1]
   exact hK _ _ (rd7_s hc 37 (by decide) rfl)
  ·obtain ⟨h1, h2, h3⟩ := op_at3 ho (show (rd7Ops[38]?).map (fun o => (o.dst, o.op, o.guard)) = some ((some 88), (Op.pick (Operand.tmp 75) (Operand.tmp 87) (Operand.const (Value.bool false))), none) by kernel_rfl)
   rw [h1] at hK
   have l25 : L 25 = true := hdep 25 (by simp [rd7Dep])
   have l37 : L 37 = true := hdep 37 (by simp [rd7Dep])
   refine want_none h3 ?_
   refine wp_pickG _ _ _ h2 true (show Act.at b 75 = .bool true from hc.v 25 l25 _ rfl) _ (if_pos rfl |>.trans (show Act.at b 87 = .bool true from hc.v 37 l37 _ rfl)) ?_
   rw [h1]
   exact hK _ _ (rd7_s hc 38 (by decide) rfl)
  ·obtain ⟨h1, h2, h3⟩ := op_at3 ho (show (rd7Ops[39]?).map (fun o => (o.dst, o.op, o.guard)) = some ((some 89), (Op.move (Operand.tmp 88)), none) by kernel_rfl)
   rw [h1] at hK
   have l38 : L 38 = true := hdep 38 (by simp [rd7Dep])
   refine want_none h3 ?_
   refine wp_moveG _ h2 _ (show Act.at b 88 = .bool true from hc.v 38 l38 _ rfl) ?_
   rw [h1]
   exact hK _ _ (rd7_s hc 39 (by decide) rfl)
  ·obtain ⟨h1, h2, h3⟩ := op_at3 ho (show (rd7Ops[40]?).map (fun o => (o.dst, o.op, o.guard)) = some ((some 90), (Op.load 26 (Operand.tmp 5)), (some (39, true))) by kernel_rfl)
   rw [h1] at hK
   have l39 : L 39 = true := hdep 39 (by simp [rd7Dep])
   refine want_yes (wanted_of (ops := rd7Ops) (b := b) h3 (d := 89) (by kernel_rfl) (show Act.at b 89 = .bool true from hc.v 39 l39 _ rfl)) rfl ?_
   refine wp_load_row 26 (.tmp 5) h2 b5 ((hf 5 (by decide)).trans a5) 26 #[.int .i64 5, .int .i64 9] (0, 0) _ ((hbw.block b5 hT.lt).trans hT) Tryz.underlying26 rfl (by kernel_rfl) ?_
   rw [h1]
   exact hK _ _ (rd7_s hc 40 (by decide) rfl)
  ·obtain ⟨h1, h2, h3⟩ := op_at3 ho (show (rd7Ops[41]?).map (fun o => (o.dst, o.op, o.guard)) = some ((some 91), (Op.build 26 #[(0, Operand.const (Value.int IntKind.i64 5)), (1, Operand.const (Value.int IntKind.i64 9))]), (some (39, true))) by kernel_rfl)
   rw [h1] at hK
   have l39 : L 39 = true := hdep 39 (by simp [rd7Dep])
   refine want_yes (wanted_of (ops := rd7Ops) (b := b) h3 (d := 89) (by kernel_rfl) (show Act.at b 89 = .bool true from hc.v 39 l39 _ rfl)) rfl ?_
   refine wp_execG (.agg #[.int .i64 5, .int .i64 9]) (by unfold execOp; simp only [h2]; kernel_rfl) ?_
   rw [h1]
   exact hK _ _ (rd7_s hc 41 (by decide) rfl)
  ·obtain ⟨h1, h2, h3⟩ := op_at3 ho (show (rd7Ops[42]?).map (fun o => (o.dst, o.op, o.guard)) = some ((some 92), (Op.binOp BinOp.eql 26 (Operand.tmp 90) (Operand.tmp 91) 26), (some (39, true))) by kernel_rfl)
   rw [h1] at hK
   have l39 : L 39 = true := hdep 39 (by simp [rd7Dep])
   have l40 : L 40 = true := hdep 40 (by simp [rd7Dep])
   have l41 : L 41 = true := hdep 41 (by simp [rd7Dep])
   refine want_yes (wanted_of (ops := rd7Ops) (b := b) h3 (d := 89) (by kernel_rfl) (show Act.at b 89 = .bool true from hc.v 39 l39 _ rfl)) rfl ?_
   refine wp_binG _ _ _ _ _ h2 _ _ (.bool true) (show Act.at b 90 = .agg #[.int .i64 5, .int .i64 9] from hc.v 40 l40 _ rfl) (show Act.at b 91 = .agg #[.int .i64 5, .int .i64 9] from hc.v 41 l41 _ rfl) (by kernel_rfl) (by kernel_rfl) ?_
   rw [h1]
   exact hK _ _ (rd7_s hc 42 (by decide) rfl)
  ·obtain ⟨h1, h2, h3⟩ := op_at3 ho (show (rd7Ops[43]?).map (fun o => (o.dst, o.op, o.guard)) = some ((some 93), (Op.pick (Operand.tmp 89) (Operand.tmp 92) (Operand.const (Value.bool false))), none) by kernel_rfl)
   rw [h1] at hK
   have l39 : L 39 = true := hdep 39 (by simp [rd7Dep])
   have l42 : L 42 = true := hdep 42 (by simp [rd7Dep])
   refine want_none h3 ?_
   refine wp_pickG _ _ _ h2 true (show Act.at b 89 = .bool true from hc.v 39 l39 _ rfl) _ (if_pos rfl |>.trans (show Act.at b 92 = .bool true from hc.v 42 l42 _ rfl)) ?_
   rw [h1]
   exact hK _ _ (rd7_s hc 43 (by decide) rfl)
  ·obtain ⟨h1, h2, h3⟩ := op_at3 ho (show (rd7Ops[44]?).map (fun o => (o.dst, o.op, o.guard)) = some ((some 94), (Op.move (Operand.tmp 93)), none) by kernel_rfl)
   rw [h1] at hK
   have l43 : L 43 = true := hdep 43 (by simp [rd7Dep])
   refine want_none h3 ?_
   refine wp_moveG _ h2 _ (show Act.at b 93 = .bool true from hc.v 43 l43 _ rfl) ?_
   rw [h1]
   exact hK _ _ (rd7_s hc 44 (by decide) rfl)
  ·obtain ⟨h1, h2, h3⟩ := op_at3 ho (show (rd7Ops[45]?).map (fun o => (o.dst, o.op, o.guard)) = some ((some 95), (Op.move (Operand.tmp 6)), (some (44, true))) by kernel_rfl)
   rw [h1] at hK
   have l44 : L 44 = true := hdep 44 (by simp [rd7Dep])
   refine want_yes (wanted_of (ops := rd7Ops) (b := b) h3 (d := 94) (by kernel_rfl) (show Act.at b 94 = .bool true from hc.v 44 l44 _ rfl)) rfl ?_
   refine wp_moveG _ h2 _ ((hf 6 (by decide)).trans a6) ?_
   rw [h1]
   exact hK _ _ (rd7_s hc 45 (by decide) rfl)
  ·obtain ⟨h1, h2, h3⟩ := op_at3 ho (show (rd7Ops[46]?).map (fun o => (o.dst, o.op, o.guard)) = some ((some 96), (Op.binOp BinOp.eql 3 (Operand.tmp 95) (Operand.const (Value.int IntKind.i64 3)) 3), (some (44, true))) by kernel_rfl)
   rw [h1] at hK
   have l44 : L 44 = true := hdep 44 (by simp [rd7Dep])
   have l45 : L 45 = true := hdep 45 (by simp [rd7Dep])
   refine want_yes (wanted_of (ops := rd7Ops) (b := b) h3 (d := 94) (by kernel_rfl) (show Act.at b 94 = .bool true from hc.v 44 l44 _ rfl)) rfl ?_
   refine wp_binG _ _ _ _ _ h2 _ _ (.bool true) (show Act.at b 95 = .int .i64 3 from hc.v 45 l45 _ rfl) rfl (by kernel_rfl) (by kernel_rfl) ?_
   rw [h1]
   exact hK _ _ (rd7_s hc 46 (by decide) rfl)
  ·obtain ⟨h1, h2, h3⟩ := op_at3 ho (show (rd7Ops[47]?).map (fun o => (o.dst, o.op, o.guard)) = some ((some 97), (Op.pick (Operand.tmp 94) (Operand.tmp 96) (Operand.const (Value.bool false))), none) by kernel_rfl)
   rw [h1] at hK
   have l44 : L 44 = true := hdep 44 (by simp [rd7Dep])
   have l46 : L 46 = true := hdep 46 (by simp [rd7Dep])
   refine want_none h3 ?_
   refine wp_pickG _ _ _ h2 true (show Act.at b 94 = .bool true from hc.v 44 l44 _ rfl) _ (if_pos rfl |>.trans (show Act.at b 96 = .bool true from hc.v 46 l46 _ rfl)) ?_
   rw [h1]
   exact hK _ _ (rd7_s hc 47 (by decide) rfl)
  ·obtain ⟨h1, h2, h3⟩ := op_at3 ho (show (rd7Ops[48]?).map (fun o => (o.dst, o.op, o.guard)) = some ((some 98), (Op.move (Operand.tmp 97)), none) by kernel_rfl)
   rw [h1] at hK
   have l47 : L 47 = true := hdep 47 (by simp [rd7Dep])
   refine want_none h3 ?_
   refine wp_moveG _ h2 _ (show Act.at b 97 = .bool true from hc.v 47 l47 _ rfl) ?_
   rw [h1]
   exact hK _ _ (rd7_s hc 48 (by decide) rfl)
  ·obtain ⟨h1, h2, h3⟩ := op_at3 ho (show (rd7Ops[49]?).map (fun o => (o.dst, o.op, o.guard)) = some ((some 99), (Op.move (Operand.tmp 7)), (some (48, true))) by kernel_rfl)
   rw [h1] at hK
   have l48 : L 48 = true := hdep 48 (by simp [rd7Dep])
   refine want_yes (wanted_of (ops := rd7Ops) (b := b) h3 (d := 98) (by kernel_rfl) (show Act.at b 98 = .bool true from hc.v 48 l48 _ rfl)) rfl ?_
   refine wp_moveG _ h2 _ ((hf 7 (by decide)).trans a7) ?_
   rw [h1]
   exact hK _ _ (rd7_s hc 49 (by decide) rfl)
  ·obtain ⟨h1, h2, h3⟩ := op_at3 ho (show (rd7Ops[50]?).map (fun o => (o.dst, o.op, o.guard)) = some ((some 100), (Op.pick (Operand.tmp 98) (Operand.tmp 99) (Operand.const (Value.bool false))), none) by kernel_rfl)
   rw [h1] at hK
   have l48 : L 48 = true := hdep 48 (by simp [rd7Dep])
   have l49 : L 49 = true := hdep 49 (by simp [rd7Dep])
   refine want_none h3 ?_
   refine wp_pickG _ _ _ h2 true (show Act.at b 98 = .bool true from hc.v 48 l48 _ rfl) _ (if_pos rfl |>.trans (show Act.at b 99 = .bool true from hc.v 49 l49 _ rfl)) ?_
   rw [h1]
   exact hK _ _ (rd7_s hc 50 (by decide) rfl)
  ·obtain ⟨h1, h2, h3⟩ := op_at3 ho (show (rd7Ops[51]?).map (fun o => (o.dst, o.op, o.guard)) = some ((some 101), (Op.move (Operand.tmp 100)), none) by kernel_rfl)
   rw [h1] at hK
   have l50 : L 50 = true := hdep 50 (by simp [rd7Dep])
   refine want_none h3 ?_
   refine wp_moveG _ h2 _ (show Act.at b 100 = .bool true from hc.v 50 l50 _ rfl) ?_
   rw [h1]
   exact hK _ _ (rd7_s hc 51 (by decide) rfl)
  ·obtain ⟨h1, h2, h3⟩ := op_at3 ho (show (rd7Ops[52]?).map (fun o => (o.dst, o.op, o.guard)) = some ((some 102), (Op.move (Operand.tmp 8)), (some (51, true))) by kernel_rfl)
   rw [h1] at hK
   have l51 : L 51 = true := hdep 51 (by simp [rd7Dep])
   refine want_yes (wanted_of (ops := rd7Ops) (b := b) h3 (d := 101) (by kernel_rfl) (show Act.at b 101 = .bool true from hc.v 51 l51 _ rfl)) rfl ?_
   refine wp_moveG _ h2 _ ((hf 8 (by decide)).trans a8) ?_
   rw [h1]
   exact hK _ _ (rd7_s hc 52 (by decide) rfl)
  ·obtain ⟨h1, h2, h3⟩ := op_at3 ho (show (rd7Ops[53]?).map (fun o => (o.dst, o.op, o.guard)) = some ((some 103), (Op.pick (Operand.tmp 101) (Operand.tmp 102) (Operand.const (Value.bool false))), none) by kernel_rfl)
   rw [h1] at hK
   have l51 : L 51 = true := hdep 51 (by simp [rd7Dep])
   have l52 : L 52 = true := hdep 52 (by simp [rd7Dep])
   refine want_none h3 ?_
   refine wp_pickG _ _ _ h2 true (show Act.at b 101 = .bool true from hc.v 51 l51 _ rfl) _ (if_pos rfl |>.trans (show Act.at b 102 = .bool true from hc.v 52 l52 _ rfl)) ?_
   rw [h1]
   exact hK _ _ (rd7_s hc 53 (by decide) rfl)
  ·obtain ⟨h1, h2, h3⟩ := op_at3 ho (show (rd7Ops[54]?).map (fun o => (o.dst, o.op, o.guard)) = some ((some 104), (Op.move (Operand.tmp 103)), none) by kernel_rfl)
   rw [h1] at hK
   have l53 : L 53 = true := hdep 53 (by simp [rd7Dep])
   refine want_none h3 ?_
   refine wp_moveG _ h2 _ (show Act.at b 103 = .bool true from hc.v 53 l53 _ rfl) ?_
   rw [h1]
   exact hK _ _ (rd7_s hc 54 (by decide) rfl)
  ·obtain ⟨h1, h2, h3⟩ := op_at3 ho (show (rd7Ops[55]?).map (fun o => (o.dst, o.op, o.guard)) = some ((some 105), (Op.call { callee := Callee.value (Operand.func 11), args := #[Operand.const (Value.string { data := #[109, 97, 110, 121] })], argTypes := #[9] }), (some (54, true))) by kernel_rfl)
   rw [h1] at hK
   have l54 : L 54 = true := hdep 54 (by simp [rd7Dep])
   refine want_yes (wanted_of (ops := rd7Ops) (b := b) h3 (d := 104) (by kernel_rfl) (show Act.at b 104 = .bool true from hc.v 54 l54 _ rfl)) rfl ?_
   refine wp_callG 11 _ _ h2 (enters_of Tryz.func11 (by kernel_rfl) rfl) #[.string ⟨#[109, 97, 110, 121]⟩] (by simp only [List.map_toArray, List.map_cons, List.map_nil]; rfl) _ (HW1 w hbw) ?_
   rintro v w2 ⟨rfl, hb2⟩
   rw [h1]
   exact hK _ _ (FlatC.step rd7_nd (rd7_ks ) rfl hc 55 (by decide) (hb2) (fun u hu => by injection hu with hu; injection hu) (trivial))
  ·obtain ⟨h1, h2, h3⟩ := op_at3 ho (show (rd7Ops[56]?).map (fun o => (o.dst, o.op, o.guard)) = some ((some 106), (Op.pick (Operand.tmp 104) (Operand.tmp 105) (Operand.const (Value.bool false))), none) by kernel_rfl)
   rw [h1] at hK
   have l54 : L 54 = true := hdep 54 (by simp [rd7Dep])
   have l55 : L 55 = true := hdep 55 (by simp [rd7Dep])
   refine want_none h3 ?_
   refine wp_pickG _ _ _ h2 true (show Act.at b 104 = .bool true from hc.v 54 l54 _ rfl) _ (if_pos rfl |>.trans (show Act.at b 105 = .bool true from hc.v 55 l55 _ rfl)) ?_
   rw [h1]
   exact hK _ _ (rd7_s hc 56 (by decide) rfl)
  ·obtain ⟨h1, h2, h3⟩ := op_at3 ho (show (rd7Ops[57]?).map (fun o => (o.dst, o.op, o.guard)) = some ((some 107), (Op.move (Operand.tmp 106)), none) by kernel_rfl)
   rw [h1] at hK
   have l56 : L 56 = true := hdep 56 (by simp [rd7Dep])
   refine want_none h3 ?_
   refine wp_moveG _ h2 _ (show Act.at b 106 = .bool true from hc.v 56 l56 _ rfl) ?_
   rw [h1]
   exact hK _ _ (rd7_s hc 57 (by decide) rfl)
  ·obtain ⟨h1, h2, h3⟩ := op_at3 ho (show (rd7Ops[58]?).map (fun o => (o.dst, o.op, o.guard)) = some ((some 108), (Op.call { callee := Callee.value (Operand.func 11), args := #[Operand.const (Value.string { data := #[109, 97, 105, 110] })], argTypes := #[9] }), (some (57, true))) by kernel_rfl)
   rw [h1] at hK
   have l57 : L 57 = true := hdep 57 (by simp [rd7Dep])
   refine want_yes (wanted_of (ops := rd7Ops) (b := b) h3 (d := 107) (by kernel_rfl) (show Act.at b 107 = .bool true from hc.v 57 l57 _ rfl)) rfl ?_
   refine wp_callG 11 _ _ h2 (enters_of Tryz.func11 (by kernel_rfl) rfl) #[.string ⟨#[109, 97, 105, 110]⟩] (by simp only [List.map_toArray, List.map_cons, List.map_nil]; rfl) _ (HW2 w hbw) ?_
   rintro v w2 ⟨rfl, hb2⟩
   rw [h1]
   exact hK _ _ (FlatC.step rd7_nd (rd7_ks ) rfl hc 58 (by decide) (hb2) (fun u hu => by injection hu with hu; injection hu) (trivial))
  ·obtain ⟨h1, h2, h3⟩ := op_at3 ho (show (rd7Ops[59]?).map (fun o => (o.dst, o.op, o.guard)) = some ((some 109), (Op.unOp UnOp.not 4 (Operand.tmp 108)), (some (57, true))) by kernel_rfl)
   rw [h1] at hK
   have l57 : L 57 = true := hdep 57 (by simp [rd7Dep])
   have l58 : L 58 = true := hdep 58 (by simp [rd7Dep])
   refine want_yes (wanted_of (ops := rd7Ops) (b := b) h3 (d := 107) (by kernel_rfl) (show Act.at b 107 = .bool true from hc.v 57 l57 _ rfl)) rfl ?_
   refine wp_unG _ _ _ h2 _ (.bool true) (show Act.at b 108 = .bool false from hc.v 58 l58 _ rfl) (by kernel_rfl) ?_
   rw [h1]
   exact hK _ _ (rd7_s hc 59 (by decide) rfl)
  ·obtain ⟨h1, h2, h3⟩ := op_at3 ho (show (rd7Ops[60]?).map (fun o => (o.dst, o.op, o.guard)) = some ((some 110), (Op.pick (Operand.tmp 107) (Operand.tmp 109) (Operand.const (Value.bool false))), none) by kernel_rfl)
   rw [h1] at hK
   have l57 : L 57 = true := hdep 57 (by simp [rd7Dep])
   have l59 : L 59 = true := hdep 59 (by simp [rd7Dep])
   refine want_none h3 ?_
   refine wp_pickG _ _ _ h2 true (show Act.at b 107 = .bool true from hc.v 57 l57 _ rfl) _ (if_pos rfl |>.trans (show Act.at b 109 = .bool true from hc.v 59 l59 _ rfl)) ?_
   rw [h1]
   exact hK _ _ (rd7_s hc 60 (by decide) rfl)
  ·obtain ⟨h1, h2, h3⟩ := op_at3 ho (show (rd7Ops[61]?).map (fun o => (o.dst, o.op, o.guard)) = some ((some 111), (Op.move (Operand.tmp 110)), none) by kernel_rfl)
   rw [h1] at hK
   have l60 : L 60 = true := hdep 60 (by simp [rd7Dep])
   refine want_none h3 ?_
   refine wp_moveG _ h2 _ (show Act.at b 110 = .bool true from hc.v 60 l60 _ rfl) ?_
   rw [h1]
   exact hK _ _ (rd7_s hc 61 (by decide) rfl)
  ·obtain ⟨h1, h2, h3⟩ := op_at3 ho (show (rd7Ops[62]?).map (fun o => (o.dst, o.op, o.guard)) = some ((some 112), (Op.pick (Operand.tmp 111) (Operand.const (Value.bool true)) (Operand.const (Value.bool false))), none) by kernel_rfl)
   rw [h1] at hK
   have l61 : L 61 = true := hdep 61 (by simp [rd7Dep])
   refine want_none h3 ?_
   refine wp_pickG _ _ _ h2 true (show Act.at b 111 = .bool true from hc.v 61 l61 _ rfl) _ (if_pos rfl |>.trans rfl) ?_
   rw [h1]
   exact hK _ _ (rd7_s hc 62 (by decide) rfl)
  ·obtain ⟨h1, h2, h3⟩ := op_at3 ho (show (rd7Ops[63]?).map (fun o => (o.dst, o.op, o.guard)) = some ((some 0), (Op.assign (Operand.tmp 112)), none) by kernel_rfl)
   rw [h1] at hK
   have l62 : L 62 = true := hdep 62 (by simp [rd7Dep])
   refine want_none h3 ?_
   refine wp_assignG _ h2 _ (show Act.at b 112 = .bool true from hc.v 62 l62 _ rfl) ?_
   rw [h1]
   exact hK _ _ (rd7_s hc 63 (by decide) rfl)
 ·rintro L b w hL hd hs hf hc
  have hsz2 : rd7Ops.size = 64 := rfl
  rw [hsz2] at hL
  have e := act_eq (a := A0) (b := b) (rd7Us (Act.at b)) hd hs hf (by
   intro p hp
   simp only [rd7Us, List.mem_cons, List.not_mem_nil, or_false] at hp
   rcases hp with rfl | rfl | rfl | rfl | rfl | rfl | rfl | rfl | rfl | rfl | rfl | rfl | rfl | rfl | rfl | rfl | rfl | rfl | rfl | rfl | rfl | rfl | rfl | rfl | rfl | rfl | rfl | rfl | rfl | rfl | rfl | rfl | rfl | rfl | rfl | rfl | rfl | rfl | rfl | rfl | rfl | rfl | rfl | rfl | rfl | rfl | rfl | rfl | rfl | rfl | rfl | rfl | rfl | rfl | rfl | rfl | rfl | rfl | rfl | rfl | rfl | rfl | rfl | rfl <;> rfl) (by rw [show (rd7Us (Act.at b)).map (·.1) = [50, 51, 52, 53, 54, 55, 56, 57, 58, 59, 60, 61, 62, 63, 64, 65, 66, 67, 68, 69, 70, 71, 72, 73, 74, 75, 76, 77, 78, 79, 80, 81, 82, 83, 84, 85, 86, 87, 88, 89, 90, 91, 92, 93, 94, 95, 96, 97, 98, 99, 100, 101, 102, 103, 104, 105, 106, 107, 108, 109, 110, 111, 112, 0] from rfl]; decide)
  rw [e]
  exact hk (Act.at b) w (hc.v 63 (hL 63 (by omega)) _ rfl) ⟨hc.bel.os, hc.bel.tape, hc.bel.output, hc.bel.size, hc.bel.block⟩
end Go.Proofs.YtfcccfplmdjndaaGreat
