/- spec: the question's long line, in open order. -/
import Derived.Test.YthjfhenldkihkaaSpCh
import Derived.Test.YthjfhenldkihkaaInv
namespace Go.Proofs.Ythjfhenldkihkaa
set_option linter.unusedSimpArgs false
set_option linter.unusedVariables false
open Go.RowKit

def bldOps : Array Oper := #[{ dst := some 38, op := Op.move (Operand.tmp 3), type := 28, pos := "law.go:19", after := #[], guard := none }, { dst := some 39, op := Op.move (Operand.tmp 5), type := 28, pos := "law.go:19", after := #[], guard := none }, { dst := some 40, op := Op.binOp BinOp.add 28 (Operand.tmp 38) (Operand.tmp 39) 28, type := 28, pos := "law.go:19", after := #[{ on := 0, ground := Ground.data }, { on := 1, ground := Ground.data }], guard := none }, { dst := some 41, op := Op.move (Operand.tmp 7), type := 28, pos := "law.go:19", after := #[], guard := none }, { dst := some 42, op := Op.binOp BinOp.add 28 (Operand.tmp 40) (Operand.tmp 41) 28, type := 28, pos := "law.go:19", after := #[{ on := 2, ground := Ground.data }, { on := 3, ground := Ground.data }], guard := none }, { dst := some 43, op := Op.move (Operand.tmp 8), type := 28, pos := "law.go:19", after := #[], guard := none }, { dst := some 44, op := Op.binOp BinOp.add 28 (Operand.tmp 42) (Operand.tmp 43) 28, type := 28, pos := "law.go:19", after := #[{ on := 4, ground := Ground.data }, { on := 5, ground := Ground.data }], guard := none }, { dst := some 45, op := Op.move (Operand.tmp 10), type := 28, pos := "law.go:19", after := #[], guard := none }, { dst := some 46, op := Op.binOp BinOp.add 28 (Operand.tmp 44) (Operand.tmp 45) 28, type := 28, pos := "law.go:19", after := #[{ on := 6, ground := Ground.data }, { on := 7, ground := Ground.data }], guard := none }, { dst := some 47, op := Op.binOp BinOp.eql 28 (Operand.tmp 46) (Operand.const (Value.int IntKind.i64 0)) 28, type := 4, pos := "law.go:19", after := #[{ on := 8, ground := Ground.data }], guard := none }, { dst := some 48, op := Op.move (Operand.tmp 47), type := 4, pos := "law.go:19", after := #[{ on := 9, ground := Ground.data }], guard := none }, { dst := some 49, op := Op.move (Operand.tmp 2), type := 3, pos := "law.go:19", after := #[{ on := 10, ground := Ground.guard }], guard := some (10, true) }, { dst := some 50, op := Op.binOp BinOp.eql 3 (Operand.tmp 49) (Operand.const (Value.int IntKind.i64 0)) 3, type := 4, pos := "law.go:19", after := #[{ on := 11, ground := Ground.data }, { on := 10, ground := Ground.guard }], guard := some (10, true) }, { dst := some 51, op := Op.pick (Operand.tmp 48) (Operand.tmp 50) (Operand.const (Value.bool false)), type := 4, pos := "law.go:19", after := #[{ on := 10, ground := Ground.data }, { on := 12, ground := Ground.data }], guard := none }, { dst := some 52, op := Op.move (Operand.tmp 51), type := 4, pos := "law.go:19", after := #[{ on := 13, ground := Ground.data }, { on := 10, ground := Ground.chain }], guard := none }, { dst := some 53, op := Op.move (Operand.tmp 4), type := 3, pos := "law.go:19", after := #[{ on := 14, ground := Ground.guard }], guard := some (14, true) }, { dst := some 54, op := Op.binOp BinOp.eql 3 (Operand.tmp 53) (Operand.const (Value.int IntKind.i64 1)) 3, type := 4, pos := "law.go:19", after := #[{ on := 15, ground := Ground.data }, { on := 14, ground := Ground.guard }], guard := some (14, true) }, { dst := some 55, op := Op.pick (Operand.tmp 52) (Operand.tmp 54) (Operand.const (Value.bool false)), type := 4, pos := "law.go:19", after := #[{ on := 14, ground := Ground.data }, { on := 16, ground := Ground.data }], guard := none }, { dst := some 56, op := Op.move (Operand.tmp 55), type := 4, pos := "law.go:19", after := #[{ on := 17, ground := Ground.data }, { on := 14, ground := Ground.chain }], guard := none }, { dst := some 57, op := Op.move (Operand.tmp 6), type := 3, pos := "law.go:19", after := #[{ on := 18, ground := Ground.guard }], guard := some (18, true) }, { dst := some 58, op := Op.binOp BinOp.eql 3 (Operand.tmp 57) (Operand.const (Value.int IntKind.i64 2)) 3, type := 4, pos := "law.go:19", after := #[{ on := 19, ground := Ground.data }, { on := 18, ground := Ground.guard }], guard := some (18, true) }, { dst := some 59, op := Op.pick (Operand.tmp 56) (Operand.tmp 58) (Operand.const (Value.bool false)), type := 4, pos := "law.go:19", after := #[{ on := 18, ground := Ground.data }, { on := 20, ground := Ground.data }], guard := none }, { dst := some 60, op := Op.move (Operand.tmp 59), type := 4, pos := "law.go:19", after := #[{ on := 21, ground := Ground.data }, { on := 18, ground := Ground.chain }], guard := none }, { dst := some 61, op := Op.load 25 (Operand.tmp 9), type := 25, pos := "law.go:19", after := #[{ on := 22, ground := Ground.guard }], guard := some (22, true) }, { dst := some 62, op := Op.call { callee := Callee.value (Operand.func 9), args := #[Operand.tmp 61], argTypes := #[25] }, type := 3, pos := "law.go:19", after := #[{ on := 23, ground := Ground.data }, { on := 22, ground := Ground.chain }, { on := 22, ground := Ground.guard }], guard := some (22, true) }, { dst := some 63, op := Op.binOp BinOp.eql 3 (Operand.tmp 62) (Operand.const (Value.int IntKind.i64 2)) 3, type := 4, pos := "law.go:19", after := #[{ on := 24, ground := Ground.data }, { on := 22, ground := Ground.guard }], guard := some (22, true) }, { dst := some 64, op := Op.pick (Operand.tmp 60) (Operand.tmp 63) (Operand.const (Value.bool false)), type := 4, pos := "law.go:19", after := #[{ on := 22, ground := Ground.data }, { on := 25, ground := Ground.data }], guard := none }, { dst := some 65, op := Op.move (Operand.tmp 64), type := 4, pos := "law.go:19", after := #[{ on := 26, ground := Ground.data }, { on := 24, ground := Ground.chain }], guard := none }, { dst := some 66, op := Op.load 25 (Operand.tmp 9), type := 25, pos := "law.go:19", after := #[{ on := 27, ground := Ground.guard }], guard := some (27, true) }, { dst := some 67, op := Op.call { callee := Callee.value (Operand.func 15), args := #[Operand.tmp 66, Operand.const (Value.string { data := #[109, 97, 105, 110] })], argTypes := #[25, 9] }, type := 3, pos := "law.go:19", after := #[{ on := 28, ground := Ground.data }, { on := 27, ground := Ground.chain }, { on := 27, ground := Ground.guard }], guard := some (27, true) }, { dst := some 68, op := Op.binOp BinOp.eql 3 (Operand.tmp 67) (Operand.const (Value.int IntKind.i64 2)) 3, type := 4, pos := "law.go:19", after := #[{ on := 29, ground := Ground.data }, { on := 27, ground := Ground.guard }], guard := some (27, true) }, { dst := some 69, op := Op.pick (Operand.tmp 65) (Operand.tmp 68) (Operand.const (Value.bool false)), type := 4, pos := "law.go:19", after := #[{ on := 27, ground := Ground.data }, { on := 30, ground := Ground.data }], guard := none }, { dst := some 70, op := Op.move (Operand.tmp 69), type := 4, pos := "law.go:19", after := #[{ on := 31, ground := Ground.data }, { on := 29, ground := Ground.chain }], guard := none }, { dst := some 71, op := Op.load 25 (Operand.tmp 9), type := 25, pos := "law.go:19", after := #[{ on := 32, ground := Ground.guard }], guard := some (32, true) }, { dst := some 72, op := Op.call { callee := Callee.value (Operand.func 15), args := #[Operand.tmp 71, Operand.const (Value.string { data := #[120] })], argTypes := #[25, 9] }, type := 3, pos := "law.go:19", after := #[{ on := 33, ground := Ground.data }, { on := 32, ground := Ground.chain }, { on := 32, ground := Ground.guard }], guard := some (32, true) }, { dst := some 73, op := Op.binOp BinOp.eql 3 (Operand.tmp 72) (Operand.const (Value.int IntKind.i64 (-1))) 3, type := 4, pos := "law.go:19", after := #[{ on := 34, ground := Ground.data }, { on := 32, ground := Ground.guard }], guard := some (32, true) }, { dst := some 74, op := Op.pick (Operand.tmp 70) (Operand.tmp 73) (Operand.const (Value.bool false)), type := 4, pos := "law.go:19", after := #[{ on := 32, ground := Ground.data }, { on := 35, ground := Ground.data }], guard := none }, { dst := some 75, op := Op.move (Operand.tmp 74), type := 4, pos := "law.go:19", after := #[{ on := 36, ground := Ground.data }, { on := 34, ground := Ground.chain }], guard := none }, { dst := some 76, op := Op.load 25 (Operand.tmp 9), type := 25, pos := "law.go:19", after := #[{ on := 37, ground := Ground.guard }], guard := some (37, true) }, { dst := some 77, op := Op.load 25 (Operand.tmp 9), type := 25, pos := "law.go:19", after := #[{ on := 37, ground := Ground.guard }], guard := some (37, true) }, { dst := some 78, op := Op.call { callee := Callee.value (Operand.func 17), args := #[Operand.tmp 77], argTypes := #[25] }, type := 25, pos := "law.go:19", after := #[{ on := 39, ground := Ground.data }, { on := 37, ground := Ground.chain }, { on := 37, ground := Ground.guard }], guard := some (37, true) }, { dst := some 79, op := Op.call { callee := Callee.value (Operand.func 16), args := #[Operand.tmp 76, Operand.tmp 78], argTypes := #[25, 25] }, type := 4, pos := "law.go:19", after := #[{ on := 38, ground := Ground.data }, { on := 40, ground := Ground.data }, { on := 40, ground := Ground.chain }, { on := 37, ground := Ground.guard }], guard := some (37, true) }, { dst := some 80, op := Op.pick (Operand.tmp 75) (Operand.tmp 79) (Operand.const (Value.bool false)), type := 4, pos := "law.go:19", after := #[{ on := 37, ground := Ground.data }, { on := 41, ground := Ground.data }], guard := none }, { dst := some 81, op := Op.move (Operand.tmp 80), type := 4, pos := "law.go:19", after := #[{ on := 42, ground := Ground.data }, { on := 41, ground := Ground.chain }], guard := none }, { dst := some 82, op := Op.fieldAddr 25 (Operand.tmp 9) 0, type := 0, pos := "law.go:19", after := #[{ on := 43, ground := Ground.guard }], guard := some (43, true) }, { dst := some 83, op := Op.load 22 (Operand.tmp 82), type := 22, pos := "law.go:19", after := #[{ on := 44, ground := Ground.data }, { on := 43, ground := Ground.guard }], guard := some (43, true) }, { dst := some 84, op := Op.indexAddr 22 (Operand.tmp 83) (Operand.const (Value.int IntKind.i64 0)), type := 0, pos := "law.go:19", after := #[{ on := 45, ground := Ground.data }, { on := 43, ground := Ground.guard }], guard := some (43, true) }, { dst := some 85, op := Op.load 49 (Operand.tmp 84), type := 49, pos := "law.go:19", after := #[{ on := 46, ground := Ground.data }, { on := 43, ground := Ground.guard }], guard := some (43, true) }, { dst := some 86, op := Op.call { callee := Callee.value (Operand.func 18), args := #[Operand.tmp 85], argTypes := #[49] }, type := 42, pos := "law.go:19", after := #[{ on := 47, ground := Ground.data }, { on := 43, ground := Ground.chain }, { on := 43, ground := Ground.guard }], guard := some (43, true) }, { dst := some 87, op := Op.binOp BinOp.eql 42 (Operand.tmp 86) (Operand.const (Value.int IntKind.u64 255)) 42, type := 4, pos := "law.go:19", after := #[{ on := 48, ground := Ground.data }, { on := 43, ground := Ground.guard }], guard := some (43, true) }, { dst := some 88, op := Op.pick (Operand.tmp 81) (Operand.tmp 87) (Operand.const (Value.bool false)), type := 4, pos := "law.go:19", after := #[{ on := 43, ground := Ground.data }, { on := 49, ground := Ground.data }], guard := none }, { dst := some 89, op := Op.move (Operand.tmp 88), type := 4, pos := "law.go:19", after := #[{ on := 50, ground := Ground.data }, { on := 48, ground := Ground.chain }], guard := none }, { dst := some 90, op := Op.fieldAddr 25 (Operand.tmp 9) 0, type := 0, pos := "law.go:19", after := #[{ on := 51, ground := Ground.guard }], guard := some (51, true) }, { dst := some 91, op := Op.load 22 (Operand.tmp 90), type := 22, pos := "law.go:19", after := #[{ on := 52, ground := Ground.data }, { on := 51, ground := Ground.guard }], guard := some (51, true) }, { dst := some 92, op := Op.indexAddr 22 (Operand.tmp 91) (Operand.const (Value.int IntKind.i64 0)), type := 0, pos := "law.go:19", after := #[{ on := 53, ground := Ground.data }, { on := 51, ground := Ground.guard }], guard := some (51, true) }, { dst := some 93, op := Op.load 49 (Operand.tmp 92), type := 49, pos := "law.go:19", after := #[{ on := 54, ground := Ground.data }, { on := 51, ground := Ground.guard }], guard := some (51, true) }, { dst := some 94, op := Op.call { callee := Callee.value (Operand.func 19), args := #[Operand.tmp 93], argTypes := #[49] }, type := 4, pos := "law.go:19", after := #[{ on := 55, ground := Ground.data }, { on := 51, ground := Ground.chain }, { on := 51, ground := Ground.guard }], guard := some (51, true) }, { dst := some 95, op := Op.pick (Operand.tmp 89) (Operand.tmp 94) (Operand.const (Value.bool false)), type := 4, pos := "law.go:19", after := #[{ on := 51, ground := Ground.data }, { on := 56, ground := Ground.data }], guard := none }, { dst := some 96, op := Op.move (Operand.tmp 95), type := 4, pos := "law.go:19", after := #[{ on := 57, ground := Ground.data }, { on := 56, ground := Ground.chain }], guard := none }, { dst := some 97, op := Op.fieldAddr 25 (Operand.tmp 9) 0, type := 0, pos := "law.go:19", after := #[{ on := 58, ground := Ground.guard }], guard := some (58, true) }, { dst := some 98, op := Op.load 22 (Operand.tmp 97), type := 22, pos := "law.go:19", after := #[{ on := 59, ground := Ground.data }, { on := 58, ground := Ground.guard }], guard := some (58, true) }, { dst := some 99, op := Op.indexAddr 22 (Operand.tmp 98) (Operand.const (Value.int IntKind.i64 2)), type := 0, pos := "law.go:19", after := #[{ on := 60, ground := Ground.data }, { on := 58, ground := Ground.guard }], guard := some (58, true) }, { dst := some 100, op := Op.load 49 (Operand.tmp 99), type := 49, pos := "law.go:19", after := #[{ on := 61, ground := Ground.data }, { on := 58, ground := Ground.guard }], guard := some (58, true) }, { dst := some 101, op := Op.call { callee := Callee.value (Operand.func 20), args := #[Operand.tmp 100], argTypes := #[49] }, type := 30, pos := "law.go:19", after := #[{ on := 62, ground := Ground.data }, { on := 58, ground := Ground.chain }, { on := 58, ground := Ground.guard }], guard := some (58, true) }, { dst := some 102, op := Op.call { callee := Callee.builtin Builtin.len, args := #[Operand.tmp 101], argTypes := #[30] }, type := 3, pos := "law.go:19", after := #[{ on := 63, ground := Ground.data }, { on := 58, ground := Ground.guard }], guard := some (58, true) }, { dst := some 103, op := Op.binOp BinOp.eql 3 (Operand.tmp 102) (Operand.const (Value.int IntKind.i64 2)) 3, type := 4, pos := "law.go:19", after := #[{ on := 64, ground := Ground.data }, { on := 58, ground := Ground.guard }], guard := some (58, true) }, { dst := some 104, op := Op.pick (Operand.tmp 96) (Operand.tmp 103) (Operand.const (Value.bool false)), type := 4, pos := "law.go:19", after := #[{ on := 58, ground := Ground.data }, { on := 65, ground := Ground.data }], guard := none }, { dst := some 105, op := Op.move (Operand.tmp 104), type := 4, pos := "law.go:19", after := #[{ on := 66, ground := Ground.data }, { on := 63, ground := Ground.chain }], guard := none }, { dst := some 106, op := Op.pick (Operand.tmp 105) (Operand.const (Value.bool true)) (Operand.const (Value.bool false)), type := 4, pos := "law.go:19", after := #[{ on := 67, ground := Ground.data }], guard := none }, { dst := some 107, op := Op.move (Operand.tmp 106), type := 4, pos := "law.go:19", after := #[{ on := 68, ground := Ground.data }, { on := 67, ground := Ground.chain }], guard := none }, { dst := some 108, op := Op.pick (Operand.tmp 107) (Operand.const (Value.bool true)) (Operand.const (Value.bool false)), type := 4, pos := "law.go:19", after := #[{ on := 69, ground := Ground.data }], guard := none }, { dst := some 109, op := Op.move (Operand.tmp 108), type := 4, pos := "law.go:19", after := #[{ on := 70, ground := Ground.data }, { on := 69, ground := Ground.chain }], guard := none }, { dst := some 110, op := Op.pick (Operand.tmp 109) (Operand.const (Value.bool true)) (Operand.const (Value.bool false)), type := 4, pos := "law.go:19", after := #[{ on := 71, ground := Ground.data }], guard := none }, { dst := some 0, op := Op.assign (Operand.tmp 110), type := 4, pos := "law.go:19", after := #[{ on := 72, ground := Ground.data }, { on := 71, ground := Ground.chain }, { on := 0, ground := Ground.phase }, { on := 1, ground := Ground.phase }, { on := 2, ground := Ground.phase }, { on := 3, ground := Ground.phase }, { on := 4, ground := Ground.phase }, { on := 5, ground := Ground.phase }, { on := 6, ground := Ground.phase }, { on := 7, ground := Ground.phase }, { on := 8, ground := Ground.phase }, { on := 9, ground := Ground.phase }, { on := 10, ground := Ground.phase }, { on := 11, ground := Ground.phase }, { on := 12, ground := Ground.phase }, { on := 13, ground := Ground.phase }, { on := 14, ground := Ground.phase }, { on := 15, ground := Ground.phase }, { on := 16, ground := Ground.phase }, { on := 17, ground := Ground.phase }, { on := 18, ground := Ground.phase }, { on := 19, ground := Ground.phase }, { on := 20, ground := Ground.phase }, { on := 21, ground := Ground.phase }, { on := 22, ground := Ground.phase }, { on := 23, ground := Ground.phase }, { on := 24, ground := Ground.phase }, { on := 25, ground := Ground.phase }, { on := 26, ground := Ground.phase }, { on := 27, ground := Ground.phase }, { on := 28, ground := Ground.phase }, { on := 29, ground := Ground.phase }, { on := 30, ground := Ground.phase }, { on := 31, ground := Ground.phase }, { on := 32, ground := Ground.phase }, { on := 33, ground := Ground.phase }, { on := 34, ground := Ground.phase }, { on := 35, ground := Ground.phase }, { on := 36, ground := Ground.phase }, { on := 37, ground := Ground.phase }, { on := 38, ground := Ground.phase }, { on := 39, ground := Ground.phase }, { on := 40, ground := Ground.phase }, { on := 41, ground := Ground.phase }, { on := 42, ground := Ground.phase }, { on := 43, ground := Ground.phase }, { on := 44, ground := Ground.phase }, { on := 45, ground := Ground.phase }, { on := 46, ground := Ground.phase }, { on := 47, ground := Ground.phase }, { on := 48, ground := Ground.phase }, { on := 49, ground := Ground.phase }, { on := 50, ground := Ground.phase }, { on := 51, ground := Ground.phase }, { on := 52, ground := Ground.phase }, { on := 53, ground := Ground.phase }, { on := 54, ground := Ground.phase }, { on := 55, ground := Ground.phase }, { on := 56, ground := Ground.phase }, { on := 57, ground := Ground.phase }, { on := 58, ground := Ground.phase }, { on := 59, ground := Ground.phase }, { on := 60, ground := Ground.phase }, { on := 61, ground := Ground.phase }, { on := 62, ground := Ground.phase }, { on := 63, ground := Ground.phase }, { on := 64, ground := Ground.phase }, { on := 65, ground := Ground.phase }, { on := 66, ground := Ground.phase }, { on := 67, ground := Ground.phase }, { on := 68, ground := Ground.phase }, { on := 69, ground := Ground.phase }, { on := 70, ground := Ground.phase }, { on := 71, ground := Ground.phase }, { on := 72, ground := Ground.phase }], guard := none }]
def bldDep : Nat → List Nat := fun i => match i with | 2 => [0, 1] | 4 => [2, 3] | 6 => [4, 5] | 8 => [6, 7] | 9 => [8] | 10 => [9] | 11 => [10] | 12 => [10, 11] | 13 => [10, 12] | 14 => [13] | 15 => [14] | 16 => [14, 15] | 17 => [14, 16] | 18 => [17] | 19 => [18] | 20 => [18, 19] | 21 => [18, 20] | 22 => [21] | 23 => [22] | 24 => [22, 23] | 25 => [22, 24] | 26 => [22, 25] | 27 => [26] | 28 => [27] | 29 => [27, 28] | 30 => [27, 29] | 31 => [27, 30] | 32 => [31] | 33 => [32] | 34 => [32, 33] | 35 => [32, 34] | 36 => [32, 35] | 37 => [36] | 38 => [37] | 39 => [37] | 40 => [37, 39] | 41 => [40, 37, 38] | 42 => [37, 41] | 43 => [42] | 44 => [43] | 45 => [43, 44] | 46 => [43, 45] | 47 => [43, 46] | 48 => [43, 47] | 49 => [43, 48] | 50 => [43, 49] | 51 => [50] | 52 => [51] | 53 => [51, 52] | 54 => [51, 53] | 55 => [51, 54] | 56 => [51, 55] | 57 => [51, 56] | 58 => [57] | 59 => [58] | 60 => [58, 59] | 61 => [58, 60] | 62 => [58, 61] | 63 => [58, 62] | 64 => [63, 58] | 65 => [58, 64] | 66 => [58, 65] | 67 => [66] | 68 => [67] | 69 => [68] | 70 => [69] | 71 => [70] | 72 => [71] | 73 => [72] | _ => []
def bldSl : List Nat := [38, 39, 40, 41, 42, 43, 44, 45, 46, 47, 48, 49, 50, 51, 52, 53, 54, 55, 56, 57, 58, 59, 60, 61, 62, 63, 64, 65, 66, 67, 68, 69, 70, 71, 72, 73, 74, 75, 76, 77, 78, 79, 80, 81, 82, 83, 84, 85, 86, 87, 88, 89, 90, 91, 92, 93, 94, 95, 96, 97, 98, 99, 100, 101, 102, 103, 104, 105, 106, 107, 108, 109, 110, 0]
def bldVs (g : Nat) (bN : Nat) (oN : Nat) (cN : Nat) (DA : Option Addr) (Dn : Nat) (Dc : Nat) (v1 : NV) (v3 : NV) : List (Option Value) := [some (.int .i64 0), some (.int .i64 0), some (.int .i64 0), some (.int .i64 0), some (.int .i64 0), some (.int .i64 0), some (.int .i64 0), some (.int .i64 0), some (.int .i64 0), some (.bool true), some (.bool true), some (.int .i64 0), some (.bool true), some (.bool true), some (.bool true), some (.int .i64 1), some (.bool true), some (.bool true), some (.bool true), some (.int .i64 2), some (.bool true), some (.bool true), some (.bool true), some (.agg #[.slice (some ⟨bN, oN, none⟩) 3 cN, .slice DA Dn Dc]), some (.int .i64 2), some (.bool true), some (.bool true), some (.bool true), some (.agg #[.slice (some ⟨bN, oN, none⟩) 3 cN, .slice DA Dn Dc]), some (.int .i64 2), some (.bool true), some (.bool true), some (.bool true), some (.agg #[.slice (some ⟨bN, oN, none⟩) 3 cN, .slice DA Dn Dc]), some (.int .i64 (-1)), some (.bool true), some (.bool true), some (.bool true), some (.agg #[.slice (some ⟨bN, oN, none⟩) 3 cN, .slice DA Dn Dc]), some (.agg #[.slice (some ⟨bN, oN, none⟩) 3 cN, .slice DA Dn Dc]), none, some (.bool true), some (.bool true), some (.bool true), some (.pointer (some ⟨g, 0, none⟩)), some (.slice (some ⟨bN, oN, none⟩) 3 cN), some (.pointer (some ⟨bN, oN + 0 * 18, none⟩)), some (.agg v1.cells.toArray), some (.int .u64 255), some (.bool true), some (.bool true), some (.bool true), some (.pointer (some ⟨g, 0, none⟩)), some (.slice (some ⟨bN, oN, none⟩) 3 cN), some (.pointer (some ⟨bN, oN + 0 * 18, none⟩)), some (.agg v1.cells.toArray), some (.bool true), some (.bool true), some (.bool true), some (.pointer (some ⟨g, 0, none⟩)), some (.slice (some ⟨bN, oN, none⟩) 3 cN), some (.pointer (some ⟨bN, oN + 2 * 18, none⟩)), some (.agg v3.cells.toArray), none, some (.int .i64 2), some (.bool true), some (.bool true), some (.bool true), some (.bool true), some (.bool true), some (.bool true), some (.bool true), some (.bool true), some (.bool true)]
def bldSp (Sc : Value → World → Prop) (Sk : Value → World → Prop) (i : Nat) : Value → World → Prop := match i with | 40 => Sc | 63 => Sk | _ => fun _ _ => True
theorem bld_ks {Sc : Value → World → Prop} {Sk : Value → World → Prop} (kSc : ∀ v w w', Sc v w → Below w.heap.size w w' → Sc v w') (kSk : ∀ v w w', Sk v w → Below w.heap.size w w' → Sk v w') : ∀ i v w w', bldSp Sc Sk i v w → Below w.heap.size w w' → bldSp Sc Sk i v w' := by
  intro i v w w' h hb
  unfold bldSp at h ⊢
  split <;> first | trivial | exact kSc _ _ _ h hb | exact kSk _ _ _ h hb
theorem bld_nd : bldSl.Nodup := by decide
def bldUs (f : Nat → Value) : List (Nat × Value) := [(38, f 38), (39, f 39), (40, f 40), (41, f 41), (42, f 42), (43, f 43), (44, f 44), (45, f 45), (46, f 46), (47, f 47), (48, f 48), (49, f 49), (50, f 50), (51, f 51), (52, f 52), (53, f 53), (54, f 54), (55, f 55), (56, f 56), (57, f 57), (58, f 58), (59, f 59), (60, f 60), (61, f 61), (62, f 62), (63, f 63), (64, f 64), (65, f 65), (66, f 66), (67, f 67), (68, f 68), (69, f 69), (70, f 70), (71, f 71), (72, f 72), (73, f 73), (74, f 74), (75, f 75), (76, f 76), (77, f 77), (78, f 78), (79, f 79), (80, f 80), (81, f 81), (82, f 82), (83, f 83), (84, f 84), (85, f 85), (86, f 86), (87, f 87), (88, f 88), (89, f 89), (90, f 90), (91, f 91), (92, f 92), (93, f 93), (94, f 94), (95, f 95), (96, f 96), (97, f 97), (98, f 98), (99, f 99), (100, f 100), (101, f 101), (102, f 102), (103, f 103), (104, f 104), (105, f 105), (106, f 106), (107, f 107), (108, f 108), (109, f 109), (110, f 110), (0, f 0)]
set_option maxRecDepth 20000 in
set_option maxHeartbeats 4000000 in
theorem bld_reg {g : Nat} {bN : Nat} {oN : Nat} {cN : Nat} {DA : Option Addr} {Dn : Nat} {Dc : Nat} {v1 : NV} {v3 : NV} {Sc : Value → World → Prop} {Sk : Value → World → Prop} {W : World} {A0 : Act} {Q : Exit → Act → World → Prop} {id : Nat} (a2 : Act.at A0 2 = .int .i64 0) (a3 : Act.at A0 3 = .int .i64 0) (a4 : Act.at A0 4 = .int .i64 1) (a5 : Act.at A0 5 = .int .i64 0) (a6 : Act.at A0 6 = .int .i64 2) (a7 : Act.at A0 7 = .int .i64 0) (a8 : Act.at A0 8 = .int .i64 0) (a9 : Act.at A0 9 = .pointer (some ⟨g, 0, none⟩)) (a10 : Act.at A0 10 = .int .i64 0) (hsz : 111 ≤ A0.tmps.size) (kSc : ∀ v w w', Sc v w → Below w.heap.size w w' → Sc v w') (kSk : ∀ v w w', Sk v w → Below w.heap.size w w' → Sk v w') (hG : Blk W g 25 [.slice (some ⟨bN, oN, none⟩) 3 cN, .slice DA Dn Dc]) (hG0 : W.cell? ⟨g, 0, none⟩ = some (.slice (some ⟨bN, oN, none⟩) 3 cN)) (hbN : bN < W.heap.size) (rv1 : W.rangeAt bN (oN + 0 * 18) v1.cells) (rv3 : W.rangeAt bN (oN + 2 * 18) v3.cells)
    (HRo : ∀ w, Below W.heap.size W w → Calls Try.prog 9 #[.agg #[.slice (some ⟨bN, oN, none⟩) 3 cN, .slice DA Dn Dc]] w fun e w' => ∃ v, e = .returned v ∧ v = .int .i64 2 ∧ Below w.heap.size w w')
    (HD1 : ∀ w, Below W.heap.size W w → Calls Try.prog 15 #[.agg #[.slice (some ⟨bN, oN, none⟩) 3 cN, .slice DA Dn Dc], .string ⟨#[109, 97, 105, 110]⟩] w fun e w' => ∃ v, e = .returned v ∧ v = .int .i64 2 ∧ Below w.heap.size w w')
    (HD2 : ∀ w, Below W.heap.size W w → Calls Try.prog 15 #[.agg #[.slice (some ⟨bN, oN, none⟩) 3 cN, .slice DA Dn Dc], .string ⟨#[120]⟩] w fun e w' => ∃ v, e = .returned v ∧ v = .int .i64 (-1) ∧ Below w.heap.size w w')
    (HCl : ∀ w, Below W.heap.size W w → Calls Try.prog 17 #[.agg #[.slice (some ⟨bN, oN, none⟩) 3 cN, .slice DA Dn Dc]] w fun e w' => ∃ v, e = .returned v ∧ Sc v w' ∧ Below w.heap.size w w')
    (HSa : ∀ u w, Sc u w → Below W.heap.size W w → Calls Try.prog 16 #[.agg #[.slice (some ⟨bN, oN, none⟩) 3 cN, .slice DA Dn Dc], u] w fun e w' => ∃ v, e = .returned v ∧ v = .bool true ∧ Below w.heap.size w w')
    (HMo : ∀ w, Below W.heap.size W w → Calls Try.prog 18 #[.agg v1.cells.toArray] w fun e w' => ∃ v, e = .returned v ∧ v = .int .u64 255 ∧ Below w.heap.size w w')
    (HNu : ∀ w, Below W.heap.size W w → Calls Try.prog 19 #[.agg v1.cells.toArray] w fun e w' => ∃ v, e = .returned v ∧ v = .bool true ∧ Below w.heap.size w w')
    (HKi : ∀ w, Below W.heap.size W w → Calls Try.prog 20 #[.agg v3.cells.toArray] w fun e w' => ∃ v, e = .returned v ∧ Sk v w' ∧ Below w.heap.size w w')
    (kSk' : ∀ v w, Sk v w → ∃ A c, v = .slice A 2 c)
    (hk : ∀ (f : Nat → Value) w', f 0 = .bool true → Below W.heap.size W w' → Q .normal ⟨(bldUs f).foldl (fun A p => A.setIfInBounds p.1 p.2) A0.tmps, A0.defers⟩ w') :
    (Code.region id bldOps true).wp Try.prog Q A0 W := by
  refine wp_region_fun3 (by kernel_rfl) (fun L f w => FlatC W.drew bldSl (bldVs g bN oN cN DA Dn Dc v1 v3) (bldSp Sc Sk) L f w) [38, 39, 40, 41, 42, 43, 44, 45, 46, 47, 48, 49, 50, 51, 52, 53, 54, 55, 56, 57, 58, 59, 60, 61, 62, 63, 64, 65, 66, 67, 68, 69, 70, 71, 72, 73, 74, 75, 76, 77, 78, 79, 80, 81, 82, 83, 84, 85, 86, 87, 88, 89, 90, 91, 92, 93, 94, 95, 96, 97, 98, 99, 100, 101, 102, 103, 104, 105, 106, 107, 108, 109, 110, 0] (fun i o ho => (wf_ops3 (ops := bldOps) (by kernel_rfl)) i o ho) (fun i o ho u hu => ?_) ?_ ?_ ?_
  · have := ops_dst [38, 39, 40, 41, 42, 43, 44, 45, 46, 47, 48, 49, 50, 51, 52, 53, 54, 55, 56, 57, 58, 59, 60, 61, 62, 63, 64, 65, 66, 67, 68, 69, 70, 71, 72, 73, 74, 75, 76, 77, 78, 79, 80, 81, 82, 83, 84, 85, 86, 87, 88, 89, 90, 91, 92, 93, 94, 95, 96, 97, 98, 99, 100, 101, 102, 103, 104, 105, 106, 107, 108, 109, 110, 0] 111 (by kernel_rfl) i o ho u hu
    exact ⟨this.1, Nat.lt_of_lt_of_le this.2 hsz⟩
  · have hs : bldOps.size = 74 := rfl
    rw [hs]
    exact FlatC.start rfl rfl
  · rintro L i o ho hLi haf b w hf hc K hK
    have hdep := ops_deps bldDep (by kernel_rfl) ho haf
    clear haf
    have hbw : Below W.heap.size W w := ⟨hc.bel.os, hc.bel.tape, hc.bel.output, hc.bel.size, hc.bel.block⟩
    have hs : bldOps.size = 74 := rfl
    have hlt : i < 74 := hs ▸ (Array.getElem?_eq_some_iff.1 ho).1
    have hcases : i = 0 ∨ i = 1 ∨ i = 2 ∨ i = 3 ∨ i = 4 ∨ i = 5 ∨ i = 6 ∨ i = 7 ∨ i = 8 ∨ i = 9 ∨ i = 10 ∨ i = 11 ∨ i = 12 ∨ i = 13 ∨ i = 14 ∨ i = 15 ∨ i = 16 ∨ i = 17 ∨ i = 18 ∨ i = 19 ∨ i = 20 ∨ i = 21 ∨ i = 22 ∨ i = 23 ∨ i = 24 ∨ i = 25 ∨ i = 26 ∨ i = 27 ∨ i = 28 ∨ i = 29 ∨ i = 30 ∨ i = 31 ∨ i = 32 ∨ i = 33 ∨ i = 34 ∨ i = 35 ∨ i = 36 ∨ i = 37 ∨ i = 38 ∨ i = 39 ∨ i = 40 ∨ i = 41 ∨ i = 42 ∨ i = 43 ∨ i = 44 ∨ i = 45 ∨ i = 46 ∨ i = 47 ∨ i = 48 ∨ i = 49 ∨ i = 50 ∨ i = 51 ∨ i = 52 ∨ i = 53 ∨ i = 54 ∨ i = 55 ∨ i = 56 ∨ i = 57 ∨ i = 58 ∨ i = 59 ∨ i = 60 ∨ i = 61 ∨ i = 62 ∨ i = 63 ∨ i = 64 ∨ i = 65 ∨ i = 66 ∨ i = 67 ∨ i = 68 ∨ i = 69 ∨ i = 70 ∨ i = 71 ∨ i = 72 ∨ i = 73 := by omega
    clear hlt
    rcases hcases with rfl | rfl | rfl | rfl | rfl | rfl | rfl | rfl | rfl | rfl | rfl | rfl | rfl | rfl | rfl | rfl | rfl | rfl | rfl | rfl | rfl | rfl | rfl | rfl | rfl | rfl | rfl | rfl | rfl | rfl | rfl | rfl | rfl | rfl | rfl | rfl | rfl | rfl | rfl | rfl | rfl | rfl | rfl | rfl | rfl | rfl | rfl | rfl | rfl | rfl | rfl | rfl | rfl | rfl | rfl | rfl | rfl | rfl | rfl | rfl | rfl | rfl | rfl | rfl | rfl | rfl | rfl | rfl | rfl | rfl | rfl | rfl | rfl | rfl
    · have h1 : (bldOps[0]?).map (·.dst) = some (some 38) := by kernel_rfl
      have h2 : (bldOps[0]?).map (·.op) = some (Op.move (Operand.tmp 3)) := by kernel_rfl
      have h3 : (bldOps[0]?).map (·.guard) = some none := by kernel_rfl
      rw [ho] at h1 h2 h3
      replace h1 := Option.some.inj h1
      replace h2 := Option.some.inj h2
      replace h3 := Option.some.inj h3
      simp only at h1 h2 h3
      rw [h1] at hK
      refine ⟨fun _ => ?_, fun hw => by rw [wanted_none h3] at hw; cases hw⟩
      refine wp_moveG _ h2 _ ((hf 3 (by decide)).trans a3) ?_
      rw [h1]
      exact hK _ _ (FlatC.step bld_nd (bld_ks kSc kSk) rfl hc 0 (by decide) (Below.refl _ _) (fun u hu => by injection hu with hu; injection hu) (trivial))
    · have h1 : (bldOps[1]?).map (·.dst) = some (some 39) := by kernel_rfl
      have h2 : (bldOps[1]?).map (·.op) = some (Op.move (Operand.tmp 5)) := by kernel_rfl
      have h3 : (bldOps[1]?).map (·.guard) = some none := by kernel_rfl
      rw [ho] at h1 h2 h3
      replace h1 := Option.some.inj h1
      replace h2 := Option.some.inj h2
      replace h3 := Option.some.inj h3
      simp only at h1 h2 h3
      rw [h1] at hK
      refine ⟨fun _ => ?_, fun hw => by rw [wanted_none h3] at hw; cases hw⟩
      refine wp_moveG _ h2 _ ((hf 5 (by decide)).trans a5) ?_
      rw [h1]
      exact hK _ _ (FlatC.step bld_nd (bld_ks kSc kSk) rfl hc 1 (by decide) (Below.refl _ _) (fun u hu => by injection hu with hu; injection hu) (trivial))
    · have h1 : (bldOps[2]?).map (·.dst) = some (some 40) := by kernel_rfl
      have h2 : (bldOps[2]?).map (·.op) = some (Op.binOp BinOp.add 28 (Operand.tmp 38) (Operand.tmp 39) 28) := by kernel_rfl
      have h3 : (bldOps[2]?).map (·.guard) = some none := by kernel_rfl
      rw [ho] at h1 h2 h3
      replace h1 := Option.some.inj h1
      replace h2 := Option.some.inj h2
      replace h3 := Option.some.inj h3
      simp only at h1 h2 h3
      rw [h1] at hK
      have l0 : L 0 = true := hdep 0 (by simp [bldDep])
      have l1 : L 1 = true := hdep 1 (by simp [bldDep])
      refine ⟨fun _ => ?_, fun hw => by rw [wanted_none h3] at hw; cases hw⟩
      refine wp_binG _ _ _ _ _ h2 _ _ (.int .i64 0) (show Act.at b 38 = .int .i64 0 from hc.v 0 l0 _ rfl) (show Act.at b 39 = .int .i64 0 from hc.v 1 l1 _ rfl) (by kernel_rfl) (by kernel_rfl) ?_
      rw [h1]
      exact hK _ _ (FlatC.step bld_nd (bld_ks kSc kSk) rfl hc 2 (by decide) (Below.refl _ _) (fun u hu => by injection hu with hu; injection hu) (trivial))
    · have h1 : (bldOps[3]?).map (·.dst) = some (some 41) := by kernel_rfl
      have h2 : (bldOps[3]?).map (·.op) = some (Op.move (Operand.tmp 7)) := by kernel_rfl
      have h3 : (bldOps[3]?).map (·.guard) = some none := by kernel_rfl
      rw [ho] at h1 h2 h3
      replace h1 := Option.some.inj h1
      replace h2 := Option.some.inj h2
      replace h3 := Option.some.inj h3
      simp only at h1 h2 h3
      rw [h1] at hK
      refine ⟨fun _ => ?_, fun hw => by rw [wanted_none h3] at hw; cases hw⟩
      refine wp_moveG _ h2 _ ((hf 7 (by decide)).trans a7) ?_
      rw [h1]
      exact hK _ _ (FlatC.step bld_nd (bld_ks kSc kSk) rfl hc 3 (by decide) (Below.refl _ _) (fun u hu => by injection hu with hu; injection hu) (trivial))
    · have h1 : (bldOps[4]?).map (·.dst) = some (some 42) := by kernel_rfl
      have h2 : (bldOps[4]?).map (·.op) = some (Op.binOp BinOp.add 28 (Operand.tmp 40) (Operand.tmp 41) 28) := by kernel_rfl
      have h3 : (bldOps[4]?).map (·.guard) = some none := by kernel_rfl
      rw [ho] at h1 h2 h3
      replace h1 := Option.some.inj h1
      replace h2 := Option.some.inj h2
      replace h3 := Option.some.inj h3
      simp only at h1 h2 h3
      rw [h1] at hK
      have l2 : L 2 = true := hdep 2 (by simp [bldDep])
      have l3 : L 3 = true := hdep 3 (by simp [bldDep])
      refine ⟨fun _ => ?_, fun hw => by rw [wanted_none h3] at hw; cases hw⟩
      refine wp_binG _ _ _ _ _ h2 _ _ (.int .i64 0) (show Act.at b 40 = .int .i64 0 from hc.v 2 l2 _ rfl) (show Act.at b 41 = .int .i64 0 from hc.v 3 l3 _ rfl) (by kernel_rfl) (by kernel_rfl) ?_
      rw [h1]
      exact hK _ _ (FlatC.step bld_nd (bld_ks kSc kSk) rfl hc 4 (by decide) (Below.refl _ _) (fun u hu => by injection hu with hu; injection hu) (trivial))
    · have h1 : (bldOps[5]?).map (·.dst) = some (some 43) := by kernel_rfl
      have h2 : (bldOps[5]?).map (·.op) = some (Op.move (Operand.tmp 8)) := by kernel_rfl
      have h3 : (bldOps[5]?).map (·.guard) = some none := by kernel_rfl
      rw [ho] at h1 h2 h3
      replace h1 := Option.some.inj h1
      replace h2 := Option.some.inj h2
      replace h3 := Option.some.inj h3
      simp only at h1 h2 h3
      rw [h1] at hK
      refine ⟨fun _ => ?_, fun hw => by rw [wanted_none h3] at hw; cases hw⟩
      refine wp_moveG _ h2 _ ((hf 8 (by decide)).trans a8) ?_
      rw [h1]
      exact hK _ _ (FlatC.step bld_nd (bld_ks kSc kSk) rfl hc 5 (by decide) (Below.refl _ _) (fun u hu => by injection hu with hu; injection hu) (trivial))
    · have h1 : (bldOps[6]?).map (·.dst) = some (some 44) := by kernel_rfl
      have h2 : (bldOps[6]?).map (·.op) = some (Op.binOp BinOp.add 28 (Operand.tmp 42) (Operand.tmp 43) 28) := by kernel_rfl
      have h3 : (bldOps[6]?).map (·.guard) = some none := by kernel_rfl
      rw [ho] at h1 h2 h3
      replace h1 := Option.some.inj h1
      replace h2 := Option.some.inj h2
      replace h3 := Option.some.inj h3
      simp only at h1 h2 h3
      rw [h1] at hK
      have l4 : L 4 = true := hdep 4 (by simp [bldDep])
      have l5 : L 5 = true := hdep 5 (by simp [bldDep])
      refine ⟨fun _ => ?_, fun hw => by rw [wanted_none h3] at hw; cases hw⟩
      refine wp_binG _ _ _ _ _ h2 _ _ (.int .i64 0) (show Act.at b 42 = .int .i64 0 from hc.v 4 l4 _ rfl) (show Act.at b 43 = .int .i64 0 from hc.v 5 l5 _ rfl) (by kernel_rfl) (by kernel_rfl) ?_
      rw [h1]
      exact hK _ _ (FlatC.step bld_nd (bld_ks kSc kSk) rfl hc 6 (by decide) (Below.refl _ _) (fun u hu => by injection hu with hu; injection hu) (trivial))
    · have h1 : (bldOps[7]?).map (·.dst) = some (some 45) := by kernel_rfl
      have h2 : (bldOps[7]?).map (·.op) = some (Op.move (Operand.tmp 10)) := by kernel_rfl
      have h3 : (bldOps[7]?).map (·.guard) = some none := by kernel_rfl
      rw [ho] at h1 h2 h3
      replace h1 := Option.some.inj h1
      replace h2 := Option.some.inj h2
      replace h3 := Option.some.inj h3
      simp only at h1 h2 h3
      rw [h1] at hK
      refine ⟨fun _ => ?_, fun hw => by rw [wanted_none h3] at hw; cases hw⟩
      refine wp_moveG _ h2 _ ((hf 10 (by decide)).trans a10) ?_
      rw [h1]
      exact hK _ _ (FlatC.step bld_nd (bld_ks kSc kSk) rfl hc 7 (by decide) (Below.refl _ _) (fun u hu => by injection hu with hu; injection hu) (trivial))
    · have h1 : (bldOps[8]?).map (·.dst) = some (some 46) := by kernel_rfl
      have h2 : (bldOps[8]?).map (·.op) = some (Op.binOp BinOp.add 28 (Operand.tmp 44) (Operand.tmp 45) 28) := by kernel_rfl
      have h3 : (bldOps[8]?).map (·.guard) = some none := by kernel_rfl
      rw [ho] at h1 h2 h3
      replace h1 := Option.some.inj h1
      replace h2 := Option.some.inj h2
      replace h3 := Option.some.inj h3
      simp only at h1 h2 h3
      rw [h1] at hK
      have l6 : L 6 = true := hdep 6 (by simp [bldDep])
      have l7 : L 7 = true := hdep 7 (by simp [bldDep])
      refine ⟨fun _ => ?_, fun hw => by rw [wanted_none h3] at hw; cases hw⟩
      refine wp_binG _ _ _ _ _ h2 _ _ (.int .i64 0) (show Act.at b 44 = .int .i64 0 from hc.v 6 l6 _ rfl) (show Act.at b 45 = .int .i64 0 from hc.v 7 l7 _ rfl) (by kernel_rfl) (by kernel_rfl) ?_
      rw [h1]
      exact hK _ _ (FlatC.step bld_nd (bld_ks kSc kSk) rfl hc 8 (by decide) (Below.refl _ _) (fun u hu => by injection hu with hu; injection hu) (trivial))
    · have h1 : (bldOps[9]?).map (·.dst) = some (some 47) := by kernel_rfl
      have h2 : (bldOps[9]?).map (·.op) = some (Op.binOp BinOp.eql 28 (Operand.tmp 46) (Operand.const (Value.int IntKind.i64 0)) 28) := by kernel_rfl
      have h3 : (bldOps[9]?).map (·.guard) = some none := by kernel_rfl
      rw [ho] at h1 h2 h3
      replace h1 := Option.some.inj h1
      replace h2 := Option.some.inj h2
      replace h3 := Option.some.inj h3
      simp only at h1 h2 h3
      rw [h1] at hK
      have l8 : L 8 = true := hdep 8 (by simp [bldDep])
      refine ⟨fun _ => ?_, fun hw => by rw [wanted_none h3] at hw; cases hw⟩
      refine wp_binG _ _ _ _ _ h2 _ _ (.bool true) (show Act.at b 46 = .int .i64 0 from hc.v 8 l8 _ rfl) rfl (by kernel_rfl) (by kernel_rfl) ?_
      rw [h1]
      exact hK _ _ (FlatC.step bld_nd (bld_ks kSc kSk) rfl hc 9 (by decide) (Below.refl _ _) (fun u hu => by injection hu with hu; injection hu) (trivial))
    · have h1 : (bldOps[10]?).map (·.dst) = some (some 48) := by kernel_rfl
      have h2 : (bldOps[10]?).map (·.op) = some (Op.move (Operand.tmp 47)) := by kernel_rfl
      have h3 : (bldOps[10]?).map (·.guard) = some none := by kernel_rfl
      rw [ho] at h1 h2 h3
      replace h1 := Option.some.inj h1
      replace h2 := Option.some.inj h2
      replace h3 := Option.some.inj h3
      simp only at h1 h2 h3
      rw [h1] at hK
      have l9 : L 9 = true := hdep 9 (by simp [bldDep])
      refine ⟨fun _ => ?_, fun hw => by rw [wanted_none h3] at hw; cases hw⟩
      refine wp_moveG _ h2 _ (show Act.at b 47 = .bool true from hc.v 9 l9 _ rfl) ?_
      rw [h1]
      exact hK _ _ (FlatC.step bld_nd (bld_ks kSc kSk) rfl hc 10 (by decide) (Below.refl _ _) (fun u hu => by injection hu with hu; injection hu) (trivial))
    · have h1 : (bldOps[11]?).map (·.dst) = some (some 49) := by kernel_rfl
      have h2 : (bldOps[11]?).map (·.op) = some (Op.move (Operand.tmp 2)) := by kernel_rfl
      have h3 : (bldOps[11]?).map (·.guard) = some (some (10, true)) := by kernel_rfl
      rw [ho] at h1 h2 h3
      replace h1 := Option.some.inj h1
      replace h2 := Option.some.inj h2
      replace h3 := Option.some.inj h3
      simp only at h1 h2 h3
      rw [h1] at hK
      have l10 : L 10 = true := hdep 10 (by simp [bldDep])
      have hw := wanted_of (ops := bldOps) (b := b) h3 (d := 48) (by kernel_rfl) (show Act.at b 48 = .bool true from hc.v 10 l10 _ rfl)
      rw [hw]
      refine ⟨fun _ => ?_, fun hq => by cases hq⟩
      refine wp_moveG _ h2 _ ((hf 2 (by decide)).trans a2) ?_
      rw [h1]
      exact hK _ _ (FlatC.step bld_nd (bld_ks kSc kSk) rfl hc 11 (by decide) (Below.refl _ _) (fun u hu => by injection hu with hu; injection hu) (trivial))
    · have h1 : (bldOps[12]?).map (·.dst) = some (some 50) := by kernel_rfl
      have h2 : (bldOps[12]?).map (·.op) = some (Op.binOp BinOp.eql 3 (Operand.tmp 49) (Operand.const (Value.int IntKind.i64 0)) 3) := by kernel_rfl
      have h3 : (bldOps[12]?).map (·.guard) = some (some (10, true)) := by kernel_rfl
      rw [ho] at h1 h2 h3
      replace h1 := Option.some.inj h1
      replace h2 := Option.some.inj h2
      replace h3 := Option.some.inj h3
      simp only at h1 h2 h3
      rw [h1] at hK
      have l10 : L 10 = true := hdep 10 (by simp [bldDep])
      have l11 : L 11 = true := hdep 11 (by simp [bldDep])
      have hw := wanted_of (ops := bldOps) (b := b) h3 (d := 48) (by kernel_rfl) (show Act.at b 48 = .bool true from hc.v 10 l10 _ rfl)
      rw [hw]
      refine ⟨fun _ => ?_, fun hq => by cases hq⟩
      refine wp_binG _ _ _ _ _ h2 _ _ (.bool true) (show Act.at b 49 = .int .i64 0 from hc.v 11 l11 _ rfl) rfl (by kernel_rfl) (by kernel_rfl) ?_
      rw [h1]
      exact hK _ _ (FlatC.step bld_nd (bld_ks kSc kSk) rfl hc 12 (by decide) (Below.refl _ _) (fun u hu => by injection hu with hu; injection hu) (trivial))
    · have h1 : (bldOps[13]?).map (·.dst) = some (some 51) := by kernel_rfl
      have h2 : (bldOps[13]?).map (·.op) = some (Op.pick (Operand.tmp 48) (Operand.tmp 50) (Operand.const (Value.bool false))) := by kernel_rfl
      have h3 : (bldOps[13]?).map (·.guard) = some none := by kernel_rfl
      rw [ho] at h1 h2 h3
      replace h1 := Option.some.inj h1
      replace h2 := Option.some.inj h2
      replace h3 := Option.some.inj h3
      simp only at h1 h2 h3
      rw [h1] at hK
      have l10 : L 10 = true := hdep 10 (by simp [bldDep])
      have l12 : L 12 = true := hdep 12 (by simp [bldDep])
      refine ⟨fun _ => ?_, fun hw => by rw [wanted_none h3] at hw; cases hw⟩
      refine wp_pickG _ _ _ h2 true (show Act.at b 48 = .bool true from hc.v 10 l10 _ rfl) _ (if_pos rfl |>.trans (show Act.at b 50 = .bool true from hc.v 12 l12 _ rfl)) ?_
      rw [h1]
      exact hK _ _ (FlatC.step bld_nd (bld_ks kSc kSk) rfl hc 13 (by decide) (Below.refl _ _) (fun u hu => by injection hu with hu; injection hu) (trivial))
    · have h1 : (bldOps[14]?).map (·.dst) = some (some 52) := by kernel_rfl
      have h2 : (bldOps[14]?).map (·.op) = some (Op.move (Operand.tmp 51)) := by kernel_rfl
      have h3 : (bldOps[14]?).map (·.guard) = some none := by kernel_rfl
      rw [ho] at h1 h2 h3
      replace h1 := Option.some.inj h1
      replace h2 := Option.some.inj h2
      replace h3 := Option.some.inj h3
      simp only at h1 h2 h3
      rw [h1] at hK
      have l13 : L 13 = true := hdep 13 (by simp [bldDep])
      refine ⟨fun _ => ?_, fun hw => by rw [wanted_none h3] at hw; cases hw⟩
      refine wp_moveG _ h2 _ (show Act.at b 51 = .bool true from hc.v 13 l13 _ rfl) ?_
      rw [h1]
      exact hK _ _ (FlatC.step bld_nd (bld_ks kSc kSk) rfl hc 14 (by decide) (Below.refl _ _) (fun u hu => by injection hu with hu; injection hu) (trivial))
    · have h1 : (bldOps[15]?).map (·.dst) = some (some 53) := by kernel_rfl
      have h2 : (bldOps[15]?).map (·.op) = some (Op.move (Operand.tmp 4)) := by kernel_rfl
      have h3 : (bldOps[15]?).map (·.guard) = some (some (14, true)) := by kernel_rfl
      rw [ho] at h1 h2 h3
      replace h1 := Option.some.inj h1
      replace h2 := Option.some.inj h2
      replace h3 := Option.some.inj h3
      simp only at h1 h2 h3
      rw [h1] at hK
      have l14 : L 14 = true := hdep 14 (by simp [bldDep])
      have hw := wanted_of (ops := bldOps) (b := b) h3 (d := 52) (by kernel_rfl) (show Act.at b 52 = .bool true from hc.v 14 l14 _ rfl)
      rw [hw]
      refine ⟨fun _ => ?_, fun hq => by cases hq⟩
      refine wp_moveG _ h2 _ ((hf 4 (by decide)).trans a4) ?_
      rw [h1]
      exact hK _ _ (FlatC.step bld_nd (bld_ks kSc kSk) rfl hc 15 (by decide) (Below.refl _ _) (fun u hu => by injection hu with hu; injection hu) (trivial))
    · have h1 : (bldOps[16]?).map (·.dst) = some (some 54) := by kernel_rfl
      have h2 : (bldOps[16]?).map (·.op) = some (Op.binOp BinOp.eql 3 (Operand.tmp 53) (Operand.const (Value.int IntKind.i64 1)) 3) := by kernel_rfl
      have h3 : (bldOps[16]?).map (·.guard) = some (some (14, true)) := by kernel_rfl
      rw [ho] at h1 h2 h3
      replace h1 := Option.some.inj h1
      replace h2 := Option.some.inj h2
      replace h3 := Option.some.inj h3
      simp only at h1 h2 h3
      rw [h1] at hK
      have l14 : L 14 = true := hdep 14 (by simp [bldDep])
      have l15 : L 15 = true := hdep 15 (by simp [bldDep])
      have hw := wanted_of (ops := bldOps) (b := b) h3 (d := 52) (by kernel_rfl) (show Act.at b 52 = .bool true from hc.v 14 l14 _ rfl)
      rw [hw]
      refine ⟨fun _ => ?_, fun hq => by cases hq⟩
      refine wp_binG _ _ _ _ _ h2 _ _ (.bool true) (show Act.at b 53 = .int .i64 1 from hc.v 15 l15 _ rfl) rfl (by kernel_rfl) (by kernel_rfl) ?_
      rw [h1]
      exact hK _ _ (FlatC.step bld_nd (bld_ks kSc kSk) rfl hc 16 (by decide) (Below.refl _ _) (fun u hu => by injection hu with hu; injection hu) (trivial))
    · have h1 : (bldOps[17]?).map (·.dst) = some (some 55) := by kernel_rfl
      have h2 : (bldOps[17]?).map (·.op) = some (Op.pick (Operand.tmp 52) (Operand.tmp 54) (Operand.const (Value.bool false))) := by kernel_rfl
      have h3 : (bldOps[17]?).map (·.guard) = some none := by kernel_rfl
      rw [ho] at h1 h2 h3
      replace h1 := Option.some.inj h1
      replace h2 := Option.some.inj h2
      replace h3 := Option.some.inj h3
      simp only at h1 h2 h3
      rw [h1] at hK
      have l14 : L 14 = true := hdep 14 (by simp [bldDep])
      have l16 : L 16 = true := hdep 16 (by simp [bldDep])
      refine ⟨fun _ => ?_, fun hw => by rw [wanted_none h3] at hw; cases hw⟩
      refine wp_pickG _ _ _ h2 true (show Act.at b 52 = .bool true from hc.v 14 l14 _ rfl) _ (if_pos rfl |>.trans (show Act.at b 54 = .bool true from hc.v 16 l16 _ rfl)) ?_
      rw [h1]
      exact hK _ _ (FlatC.step bld_nd (bld_ks kSc kSk) rfl hc 17 (by decide) (Below.refl _ _) (fun u hu => by injection hu with hu; injection hu) (trivial))
    · have h1 : (bldOps[18]?).map (·.dst) = some (some 56) := by kernel_rfl
      have h2 : (bldOps[18]?).map (·.op) = some (Op.move (Operand.tmp 55)) := by kernel_rfl
      have h3 : (bldOps[18]?).map (·.guard) = some none := by kernel_rfl
      rw [ho] at h1 h2 h3
      replace h1 := Option.some.inj h1
      replace h2 := Option.some.inj h2
      replace h3 := Option.some.inj h3
      simp only at h1 h2 h3
      rw [h1] at hK
      have l17 : L 17 = true := hdep 17 (by simp [bldDep])
      refine ⟨fun _ => ?_, fun hw => by rw [wanted_none h3] at hw; cases hw⟩
      refine wp_moveG _ h2 _ (show Act.at b 55 = .bool true from hc.v 17 l17 _ rfl) ?_
      rw [h1]
      exact hK _ _ (FlatC.step bld_nd (bld_ks kSc kSk) rfl hc 18 (by decide) (Below.refl _ _) (fun u hu => by injection hu with hu; injection hu) (trivial))
    · have h1 : (bldOps[19]?).map (·.dst) = some (some 57) := by kernel_rfl
      have h2 : (bldOps[19]?).map (·.op) = some (Op.move (Operand.tmp 6)) := by kernel_rfl
      have h3 : (bldOps[19]?).map (·.guard) = some (some (18, true)) := by kernel_rfl
      rw [ho] at h1 h2 h3
      replace h1 := Option.some.inj h1
      replace h2 := Option.some.inj h2
      replace h3 := Option.some.inj h3
      simp only at h1 h2 h3
      rw [h1] at hK
      have l18 : L 18 = true := hdep 18 (by simp [bldDep])
      have hw := wanted_of (ops := bldOps) (b := b) h3 (d := 56) (by kernel_rfl) (show Act.at b 56 = .bool true from hc.v 18 l18 _ rfl)
      rw [hw]
      refine ⟨fun _ => ?_, fun hq => by cases hq⟩
      refine wp_moveG _ h2 _ ((hf 6 (by decide)).trans a6) ?_
      rw [h1]
      exact hK _ _ (FlatC.step bld_nd (bld_ks kSc kSk) rfl hc 19 (by decide) (Below.refl _ _) (fun u hu => by injection hu with hu; injection hu) (trivial))
    · have h1 : (bldOps[20]?).map (·.dst) = some (some 58) := by kernel_rfl
      have h2 : (bldOps[20]?).map (·.op) = some (Op.binOp BinOp.eql 3 (Operand.tmp 57) (Operand.const (Value.int IntKind.i64 2)) 3) := by kernel_rfl
      have h3 : (bldOps[20]?).map (·.guard) = some (some (18, true)) := by kernel_rfl
      rw [ho] at h1 h2 h3
      replace h1 := Option.some.inj h1
      replace h2 := Option.some.inj h2
      replace h3 := Option.some.inj h3
      simp only at h1 h2 h3
      rw [h1] at hK
      have l18 : L 18 = true := hdep 18 (by simp [bldDep])
      have l19 : L 19 = true := hdep 19 (by simp [bldDep])
      have hw := wanted_of (ops := bldOps) (b := b) h3 (d := 56) (by kernel_rfl) (show Act.at b 56 = .bool true from hc.v 18 l18 _ rfl)
      rw [hw]
      refine ⟨fun _ => ?_, fun hq => by cases hq⟩
      refine wp_binG _ _ _ _ _ h2 _ _ (.bool true) (show Act.at b 57 = .int .i64 2 from hc.v 19 l19 _ rfl) rfl (by kernel_rfl) (by kernel_rfl) ?_
      rw [h1]
      exact hK _ _ (FlatC.step bld_nd (bld_ks kSc kSk) rfl hc 20 (by decide) (Below.refl _ _) (fun u hu => by injection hu with hu; injection hu) (trivial))
    · have h1 : (bldOps[21]?).map (·.dst) = some (some 59) := by kernel_rfl
      have h2 : (bldOps[21]?).map (·.op) = some (Op.pick (Operand.tmp 56) (Operand.tmp 58) (Operand.const (Value.bool false))) := by kernel_rfl
      have h3 : (bldOps[21]?).map (·.guard) = some none := by kernel_rfl
      rw [ho] at h1 h2 h3
      replace h1 := Option.some.inj h1
      replace h2 := Option.some.inj h2
      replace h3 := Option.some.inj h3
      simp only at h1 h2 h3
      rw [h1] at hK
      have l18 : L 18 = true := hdep 18 (by simp [bldDep])
      have l20 : L 20 = true := hdep 20 (by simp [bldDep])
      refine ⟨fun _ => ?_, fun hw => by rw [wanted_none h3] at hw; cases hw⟩
      refine wp_pickG _ _ _ h2 true (show Act.at b 56 = .bool true from hc.v 18 l18 _ rfl) _ (if_pos rfl |>.trans (show Act.at b 58 = .bool true from hc.v 20 l20 _ rfl)) ?_
      rw [h1]
      exact hK _ _ (FlatC.step bld_nd (bld_ks kSc kSk) rfl hc 21 (by decide) (Below.refl _ _) (fun u hu => by injection hu with hu; injection hu) (trivial))
    · have h1 : (bldOps[22]?).map (·.dst) = some (some 60) := by kernel_rfl
      have h2 : (bldOps[22]?).map (·.op) = some (Op.move (Operand.tmp 59)) := by kernel_rfl
      have h3 : (bldOps[22]?).map (·.guard) = some none := by kernel_rfl
      rw [ho] at h1 h2 h3
      replace h1 := Option.some.inj h1
      replace h2 := Option.some.inj h2
      replace h3 := Option.some.inj h3
      simp only at h1 h2 h3
      rw [h1] at hK
      have l21 : L 21 = true := hdep 21 (by simp [bldDep])
      refine ⟨fun _ => ?_, fun hw => by rw [wanted_none h3] at hw; cases hw⟩
      refine wp_moveG _ h2 _ (show Act.at b 59 = .bool true from hc.v 21 l21 _ rfl) ?_
      rw [h1]
      exact hK _ _ (FlatC.step bld_nd (bld_ks kSc kSk) rfl hc 22 (by decide) (Below.refl _ _) (fun u hu => by injection hu with hu; injection hu) (trivial))
    · have h1 : (bldOps[23]?).map (·.dst) = some (some 61) := by kernel_rfl
      have h2 : (bldOps[23]?).map (·.op) = some (Op.load 25 (Operand.tmp 9)) := by kernel_rfl
      have h3 : (bldOps[23]?).map (·.guard) = some (some (22, true)) := by kernel_rfl
      rw [ho] at h1 h2 h3
      replace h1 := Option.some.inj h1
      replace h2 := Option.some.inj h2
      replace h3 := Option.some.inj h3
      simp only at h1 h2 h3
      rw [h1] at hK
      have l22 : L 22 = true := hdep 22 (by simp [bldDep])
      have hw := wanted_of (ops := bldOps) (b := b) h3 (d := 60) (by kernel_rfl) (show Act.at b 60 = .bool true from hc.v 22 l22 _ rfl)
      rw [hw]
      refine ⟨fun _ => ?_, fun hq => by cases hq⟩
      refine wp_load_row 25 (.tmp 9) h2 g ((hf 9 (by decide)).trans a9) 25 #[.slice (some ⟨bN, oN, none⟩) 3 cN, .slice DA Dn Dc] (0, 0) _ ((hbw.block g hG.lt).trans hG) Try.underlying25 rfl (by kernel_rfl) ?_
      rw [h1]
      exact hK _ _ (FlatC.step bld_nd (bld_ks kSc kSk) rfl hc 23 (by decide) (Below.refl _ _) (fun u hu => by injection hu with hu; injection hu) (trivial))
    · have h1 : (bldOps[24]?).map (·.dst) = some (some 62) := by kernel_rfl
      have h2 : (bldOps[24]?).map (·.op) = some (Op.call { callee := Callee.value (Operand.func 9), args := #[Operand.tmp 61], argTypes := #[25] }) := by kernel_rfl
      have h3 : (bldOps[24]?).map (·.guard) = some (some (22, true)) := by kernel_rfl
      rw [ho] at h1 h2 h3
      replace h1 := Option.some.inj h1
      replace h2 := Option.some.inj h2
      replace h3 := Option.some.inj h3
      simp only at h1 h2 h3
      rw [h1] at hK
      have l22 : L 22 = true := hdep 22 (by simp [bldDep])
      have l23 : L 23 = true := hdep 23 (by simp [bldDep])
      have hw := wanted_of (ops := bldOps) (b := b) h3 (d := 60) (by kernel_rfl) (show Act.at b 60 = .bool true from hc.v 22 l22 _ rfl)
      rw [hw]
      refine ⟨fun _ => ?_, fun hq => by cases hq⟩
      refine wp_callG 9 _ _ h2 (enters_of Try.func9 (by kernel_rfl) rfl) #[.agg #[.slice (some ⟨bN, oN, none⟩) 3 cN, .slice DA Dn Dc]] (by simp [show b.eval (.tmp 61) = _ from (show Act.at b 61 = .agg #[.slice (some ⟨bN, oN, none⟩) 3 cN, .slice DA Dn Dc] from hc.v 23 l23 _ rfl)]) _ (HRo w hbw) ?_
      rintro v w2 ⟨rfl, hb2⟩
      rw [h1]
      exact hK _ _ (FlatC.step bld_nd (bld_ks kSc kSk) rfl hc 24 (by decide) (hb2) (fun u hu => by injection hu with hu; injection hu) (trivial))
    · have h1 : (bldOps[25]?).map (·.dst) = some (some 63) := by kernel_rfl
      have h2 : (bldOps[25]?).map (·.op) = some (Op.binOp BinOp.eql 3 (Operand.tmp 62) (Operand.const (Value.int IntKind.i64 2)) 3) := by kernel_rfl
      have h3 : (bldOps[25]?).map (·.guard) = some (some (22, true)) := by kernel_rfl
      rw [ho] at h1 h2 h3
      replace h1 := Option.some.inj h1
      replace h2 := Option.some.inj h2
      replace h3 := Option.some.inj h3
      simp only at h1 h2 h3
      rw [h1] at hK
      have l22 : L 22 = true := hdep 22 (by simp [bldDep])
      have l24 : L 24 = true := hdep 24 (by simp [bldDep])
      have hw := wanted_of (ops := bldOps) (b := b) h3 (d := 60) (by kernel_rfl) (show Act.at b 60 = .bool true from hc.v 22 l22 _ rfl)
      rw [hw]
      refine ⟨fun _ => ?_, fun hq => by cases hq⟩
      refine wp_binG _ _ _ _ _ h2 _ _ (.bool true) (show Act.at b 62 = .int .i64 2 from hc.v 24 l24 _ rfl) rfl (by kernel_rfl) (by kernel_rfl) ?_
      rw [h1]
      exact hK _ _ (FlatC.step bld_nd (bld_ks kSc kSk) rfl hc 25 (by decide) (Below.refl _ _) (fun u hu => by injection hu with hu; injection hu) (trivial))
    · have h1 : (bldOps[26]?).map (·.dst) = some (some 64) := by kernel_rfl
      have h2 : (bldOps[26]?).map (·.op) = some (Op.pick (Operand.tmp 60) (Operand.tmp 63) (Operand.const (Value.bool false))) := by kernel_rfl
      have h3 : (bldOps[26]?).map (·.guard) = some none := by kernel_rfl
      rw [ho] at h1 h2 h3
      replace h1 := Option.some.inj h1
      replace h2 := Option.some.inj h2
      replace h3 := Option.some.inj h3
      simp only at h1 h2 h3
      rw [h1] at hK
      have l22 : L 22 = true := hdep 22 (by simp [bldDep])
      have l25 : L 25 = true := hdep 25 (by simp [bldDep])
      refine ⟨fun _ => ?_, fun hw => by rw [wanted_none h3] at hw; cases hw⟩
      refine wp_pickG _ _ _ h2 true (show Act.at b 60 = .bool true from hc.v 22 l22 _ rfl) _ (if_pos rfl |>.trans (show Act.at b 63 = .bool true from hc.v 25 l25 _ rfl)) ?_
      rw [h1]
      exact hK _ _ (FlatC.step bld_nd (bld_ks kSc kSk) rfl hc 26 (by decide) (Below.refl _ _) (fun u hu => by injection hu with hu; injection hu) (trivial))
    · have h1 : (bldOps[27]?).map (·.dst) = some (some 65) := by kernel_rfl
      have h2 : (bldOps[27]?).map (·.op) = some (Op.move (Operand.tmp 64)) := by kernel_rfl
      have h3 : (bldOps[27]?).map (·.guard) = some none := by kernel_rfl
      rw [ho] at h1 h2 h3
      replace h1 := Option.some.inj h1
      replace h2 := Option.some.inj h2
      replace h3 := Option.some.inj h3
      simp only at h1 h2 h3
      rw [h1] at hK
      have l26 : L 26 = true := hdep 26 (by simp [bldDep])
      refine ⟨fun _ => ?_, fun hw => by rw [wanted_none h3] at hw; cases hw⟩
      refine wp_moveG _ h2 _ (show Act.at b 64 = .bool true from hc.v 26 l26 _ rfl) ?_
      rw [h1]
      exact hK _ _ (FlatC.step bld_nd (bld_ks kSc kSk) rfl hc 27 (by decide) (Below.refl _ _) (fun u hu => by injection hu with hu; injection hu) (trivial))
    · have h1 : (bldOps[28]?).map (·.dst) = some (some 66) := by kernel_rfl
      have h2 : (bldOps[28]?).map (·.op) = some (Op.load 25 (Operand.tmp 9)) := by kernel_rfl
      have h3 : (bldOps[28]?).map (·.guard) = some (some (27, true)) := by kernel_rfl
      rw [ho] at h1 h2 h3
      replace h1 := Option.some.inj h1
      replace h2 := Option.some.inj h2
      replace h3 := Option.some.inj h3
      simp only at h1 h2 h3
      rw [h1] at hK
      have l27 : L 27 = true := hdep 27 (by simp [bldDep])
      have hw := wanted_of (ops := bldOps) (b := b) h3 (d := 65) (by kernel_rfl) (show Act.at b 65 = .bool true from hc.v 27 l27 _ rfl)
      rw [hw]
      refine ⟨fun _ => ?_, fun hq => by cases hq⟩
      refine wp_load_row 25 (.tmp 9) h2 g ((hf 9 (by decide)).trans a9) 25 #[.slice (some ⟨bN, oN, none⟩) 3 cN, .slice DA Dn Dc] (0, 0) _ ((hbw.block g hG.lt).trans hG) Try.underlying25 rfl (by kernel_rfl) ?_
      rw [h1]
      exact hK _ _ (FlatC.step bld_nd (bld_ks kSc kSk) rfl hc 28 (by decide) (Below.refl _ _) (fun u hu => by injection hu with hu; injection hu) (trivial))
    · have h1 : (bldOps[29]?).map (·.dst) = some (some 67) := by kernel_rfl
      have h2 : (bldOps[29]?).map (·.op) = some (Op.call { callee := Callee.value (Operand.func 15), args := #[Operand.tmp 66, Operand.const (Value.string { data := #[109, 97, 105, 110] })], argTypes := #[25, 9] }) := by kernel_rfl
      have h3 : (bldOps[29]?).map (·.guard) = some (some (27, true)) := by kernel_rfl
      rw [ho] at h1 h2 h3
      replace h1 := Option.some.inj h1
      replace h2 := Option.some.inj h2
      replace h3 := Option.some.inj h3
      simp only at h1 h2 h3
      rw [h1] at hK
      have l27 : L 27 = true := hdep 27 (by simp [bldDep])
      have l28 : L 28 = true := hdep 28 (by simp [bldDep])
      have hw := wanted_of (ops := bldOps) (b := b) h3 (d := 65) (by kernel_rfl) (show Act.at b 65 = .bool true from hc.v 27 l27 _ rfl)
      rw [hw]
      refine ⟨fun _ => ?_, fun hq => by cases hq⟩
      refine wp_callG 15 _ _ h2 (enters_of Try.func15 (by kernel_rfl) rfl) #[.agg #[.slice (some ⟨bN, oN, none⟩) 3 cN, .slice DA Dn Dc], .string ⟨#[109, 97, 105, 110]⟩] (by simp [show b.eval (.tmp 66) = _ from (show Act.at b 66 = .agg #[.slice (some ⟨bN, oN, none⟩) 3 cN, .slice DA Dn Dc] from hc.v 28 l28 _ rfl)]; rfl) _ (HD1 w hbw) ?_
      rintro v w2 ⟨rfl, hb2⟩
      rw [h1]
      exact hK _ _ (FlatC.step bld_nd (bld_ks kSc kSk) rfl hc 29 (by decide) (hb2) (fun u hu => by injection hu with hu; injection hu) (trivial))
    · have h1 : (bldOps[30]?).map (·.dst) = some (some 68) := by kernel_rfl
      have h2 : (bldOps[30]?).map (·.op) = some (Op.binOp BinOp.eql 3 (Operand.tmp 67) (Operand.const (Value.int IntKind.i64 2)) 3) := by kernel_rfl
      have h3 : (bldOps[30]?).map (·.guard) = some (some (27, true)) := by kernel_rfl
      rw [ho] at h1 h2 h3
      replace h1 := Option.some.inj h1
      replace h2 := Option.some.inj h2
      replace h3 := Option.some.inj h3
      simp only at h1 h2 h3
      rw [h1] at hK
      have l27 : L 27 = true := hdep 27 (by simp [bldDep])
      have l29 : L 29 = true := hdep 29 (by simp [bldDep])
      have hw := wanted_of (ops := bldOps) (b := b) h3 (d := 65) (by kernel_rfl) (show Act.at b 65 = .bool true from hc.v 27 l27 _ rfl)
      rw [hw]
      refine ⟨fun _ => ?_, fun hq => by cases hq⟩
      refine wp_binG _ _ _ _ _ h2 _ _ (.bool true) (show Act.at b 67 = .int .i64 2 from hc.v 29 l29 _ rfl) rfl (by kernel_rfl) (by kernel_rfl) ?_
      rw [h1]
      exact hK _ _ (FlatC.step bld_nd (bld_ks kSc kSk) rfl hc 30 (by decide) (Below.refl _ _) (fun u hu => by injection hu with hu; injection hu) (trivial))
    · have h1 : (bldOps[31]?).map (·.dst) = some (some 69) := by kernel_rfl
      have h2 : (bldOps[31]?).map (·.op) = some (Op.pick (Operand.tmp 65) (Operand.tmp 68) (Operand.const (Value.bool false))) := by kernel_rfl
      have h3 : (bldOps[31]?).map (·.guard) = some none := by kernel_rfl
      rw [ho] at h1 h2 h3
      replace h1 := Option.some.inj h1
      replace h2 := Option.some.inj h2
      replace h3 := Option.some.inj h3
      simp only at h1 h2 h3
      rw [h1] at hK
      have l27 : L 27 = true := hdep 27 (by simp [bldDep])
      have l30 : L 30 = true := hdep 30 (by simp [bldDep])
      refine ⟨fun _ => ?_, fun hw => by rw [wanted_none h3] at hw; cases hw⟩
      refine wp_pickG _ _ _ h2 true (show Act.at b 65 = .bool true from hc.v 27 l27 _ rfl) _ (if_pos rfl |>.trans (show Act.at b 68 = .bool true from hc.v 30 l30 _ rfl)) ?_
      rw [h1]
      exact hK _ _ (FlatC.step bld_nd (bld_ks kSc kSk) rfl hc 31 (by decide) (Below.refl _ _) (fun u hu => by injection hu with hu; injection hu) (trivial))
    · have h1 : (bldOps[32]?).map (·.dst) = some (some 70) := by kernel_rfl
      have h2 : (bldOps[32]?).map (·.op) = some (Op.move (Operand.tmp 69)) := by kernel_rfl
      have h3 : (bldOps[32]?).map (·.guard) = some none := by kernel_rfl
      rw [ho] at h1 h2 h3
      replace h1 := Option.some.inj h1
      replace h2 := Option.some.inj h2
      replace h3 := Option.some.inj h3
      simp only at h1 h2 h3
      rw [h1] at hK
      have l31 : L 31 = true := hdep 31 (by simp [bldDep])
      refine ⟨fun _ => ?_, fun hw => by rw [wanted_none h3] at hw; cases hw⟩
      refine wp_moveG _ h2 _ (show Act.at b 69 = .bool true from hc.v 31 l31 _ rfl) ?_
      rw [h1]
      exact hK _ _ (FlatC.step bld_nd (bld_ks kSc kSk) rfl hc 32 (by decide) (Below.refl _ _) (fun u hu => by injection hu with hu; injection hu) (trivial))
    · have h1 : (bldOps[33]?).map (·.dst) = some (some 71) := by kernel_rfl
      have h2 : (bldOps[33]?).map (·.op) = some (Op.load 25 (Operand.tmp 9)) := by kernel_rfl
      have h3 : (bldOps[33]?).map (·.guard) = some (some (32, true)) := by kernel_rfl
      rw [ho] at h1 h2 h3
      replace h1 := Option.some.inj h1
      replace h2 := Option.some.inj h2
      replace h3 := Option.some.inj h3
      simp only at h1 h2 h3
      rw [h1] at hK
      have l32 : L 32 = true := hdep 32 (by simp [bldDep])
      have hw := wanted_of (ops := bldOps) (b := b) h3 (d := 70) (by kernel_rfl) (show Act.at b 70 = .bool true from hc.v 32 l32 _ rfl)
      rw [hw]
      refine ⟨fun _ => ?_, fun hq => by cases hq⟩
      refine wp_load_row 25 (.tmp 9) h2 g ((hf 9 (by decide)).trans a9) 25 #[.slice (some ⟨bN, oN, none⟩) 3 cN, .slice DA Dn Dc] (0, 0) _ ((hbw.block g hG.lt).trans hG) Try.underlying25 rfl (by kernel_rfl) ?_
      rw [h1]
      exact hK _ _ (FlatC.step bld_nd (bld_ks kSc kSk) rfl hc 33 (by decide) (Below.refl _ _) (fun u hu => by injection hu with hu; injection hu) (trivial))
    · have h1 : (bldOps[34]?).map (·.dst) = some (some 72) := by kernel_rfl
      have h2 : (bldOps[34]?).map (·.op) = some (Op.call { callee := Callee.value (Operand.func 15), args := #[Operand.tmp 71, Operand.const (Value.string { data := #[120] })], argTypes := #[25, 9] }) := by kernel_rfl
      have h3 : (bldOps[34]?).map (·.guard) = some (some (32, true)) := by kernel_rfl
      rw [ho] at h1 h2 h3
      replace h1 := Option.some.inj h1
      replace h2 := Option.some.inj h2
      replace h3 := Option.some.inj h3
      simp only at h1 h2 h3
      rw [h1] at hK
      have l32 : L 32 = true := hdep 32 (by simp [bldDep])
      have l33 : L 33 = true := hdep 33 (by simp [bldDep])
      have hw := wanted_of (ops := bldOps) (b := b) h3 (d := 70) (by kernel_rfl) (show Act.at b 70 = .bool true from hc.v 32 l32 _ rfl)
      rw [hw]
      refine ⟨fun _ => ?_, fun hq => by cases hq⟩
      refine wp_callG 15 _ _ h2 (enters_of Try.func15 (by kernel_rfl) rfl) #[.agg #[.slice (some ⟨bN, oN, none⟩) 3 cN, .slice DA Dn Dc], .string ⟨#[120]⟩] (by simp [show b.eval (.tmp 71) = _ from (show Act.at b 71 = .agg #[.slice (some ⟨bN, oN, none⟩) 3 cN, .slice DA Dn Dc] from hc.v 33 l33 _ rfl)]; rfl) _ (HD2 w hbw) ?_
      rintro v w2 ⟨rfl, hb2⟩
      rw [h1]
      exact hK _ _ (FlatC.step bld_nd (bld_ks kSc kSk) rfl hc 34 (by decide) (hb2) (fun u hu => by injection hu with hu; injection hu) (trivial))
    · have h1 : (bldOps[35]?).map (·.dst) = some (some 73) := by kernel_rfl
      have h2 : (bldOps[35]?).map (·.op) = some (Op.binOp BinOp.eql 3 (Operand.tmp 72) (Operand.const (Value.int IntKind.i64 (-1))) 3) := by kernel_rfl
      have h3 : (bldOps[35]?).map (·.guard) = some (some (32, true)) := by kernel_rfl
      rw [ho] at h1 h2 h3
      replace h1 := Option.some.inj h1
      replace h2 := Option.some.inj h2
      replace h3 := Option.some.inj h3
      simp only at h1 h2 h3
      rw [h1] at hK
      have l32 : L 32 = true := hdep 32 (by simp [bldDep])
      have l34 : L 34 = true := hdep 34 (by simp [bldDep])
      have hw := wanted_of (ops := bldOps) (b := b) h3 (d := 70) (by kernel_rfl) (show Act.at b 70 = .bool true from hc.v 32 l32 _ rfl)
      rw [hw]
      refine ⟨fun _ => ?_, fun hq => by cases hq⟩
      refine wp_binG _ _ _ _ _ h2 _ _ (.bool true) (show Act.at b 72 = .int .i64 (-1) from hc.v 34 l34 _ rfl) rfl (by kernel_rfl) (by kernel_rfl) ?_
      rw [h1]
      exact hK _ _ (FlatC.step bld_nd (bld_ks kSc kSk) rfl hc 35 (by decide) (Below.refl _ _) (fun u hu => by injection hu with hu; injection hu) (trivial))
    · have h1 : (bldOps[36]?).map (·.dst) = some (some 74) := by kernel_rfl
      have h2 : (bldOps[36]?).map (·.op) = some (Op.pick (Operand.tmp 70) (Operand.tmp 73) (Operand.const (Value.bool false))) := by kernel_rfl
      have h3 : (bldOps[36]?).map (·.guard) = some none := by kernel_rfl
      rw [ho] at h1 h2 h3
      replace h1 := Option.some.inj h1
      replace h2 := Option.some.inj h2
      replace h3 := Option.some.inj h3
      simp only at h1 h2 h3
      rw [h1] at hK
      have l32 : L 32 = true := hdep 32 (by simp [bldDep])
      have l35 : L 35 = true := hdep 35 (by simp [bldDep])
      refine ⟨fun _ => ?_, fun hw => by rw [wanted_none h3] at hw; cases hw⟩
      refine wp_pickG _ _ _ h2 true (show Act.at b 70 = .bool true from hc.v 32 l32 _ rfl) _ (if_pos rfl |>.trans (show Act.at b 73 = .bool true from hc.v 35 l35 _ rfl)) ?_
      rw [h1]
      exact hK _ _ (FlatC.step bld_nd (bld_ks kSc kSk) rfl hc 36 (by decide) (Below.refl _ _) (fun u hu => by injection hu with hu; injection hu) (trivial))
    · have h1 : (bldOps[37]?).map (·.dst) = some (some 75) := by kernel_rfl
      have h2 : (bldOps[37]?).map (·.op) = some (Op.move (Operand.tmp 74)) := by kernel_rfl
      have h3 : (bldOps[37]?).map (·.guard) = some none := by kernel_rfl
      rw [ho] at h1 h2 h3
      replace h1 := Option.some.inj h1
      replace h2 := Option.some.inj h2
      replace h3 := Option.some.inj h3
      simp only at h1 h2 h3
      rw [h1] at hK
      have l36 : L 36 = true := hdep 36 (by simp [bldDep])
      refine ⟨fun _ => ?_, fun hw => by rw [wanted_none h3] at hw; cases hw⟩
      refine wp_moveG _ h2 _ (show Act.at b 74 = .bool true from hc.v 36 l36 _ rfl) ?_
      rw [h1]
      exact hK _ _ (FlatC.step bld_nd (bld_ks kSc kSk) rfl hc 37 (by decide) (Below.refl _ _) (fun u hu => by injection hu with hu; injection hu) (trivial))
    · have h1 : (bldOps[38]?).map (·.dst) = some (some 76) := by kernel_rfl
      have h2 : (bldOps[38]?).map (·.op) = some (Op.load 25 (Operand.tmp 9)) := by kernel_rfl
      have h3 : (bldOps[38]?).map (·.guard) = some (some (37, true)) := by kernel_rfl
      rw [ho] at h1 h2 h3
      replace h1 := Option.some.inj h1
      replace h2 := Option.some.inj h2
      replace h3 := Option.some.inj h3
      simp only at h1 h2 h3
      rw [h1] at hK
      have l37 : L 37 = true := hdep 37 (by simp [bldDep])
      have hw := wanted_of (ops := bldOps) (b := b) h3 (d := 75) (by kernel_rfl) (show Act.at b 75 = .bool true from hc.v 37 l37 _ rfl)
      rw [hw]
      refine ⟨fun _ => ?_, fun hq => by cases hq⟩
      refine wp_load_row 25 (.tmp 9) h2 g ((hf 9 (by decide)).trans a9) 25 #[.slice (some ⟨bN, oN, none⟩) 3 cN, .slice DA Dn Dc] (0, 0) _ ((hbw.block g hG.lt).trans hG) Try.underlying25 rfl (by kernel_rfl) ?_
      rw [h1]
      exact hK _ _ (FlatC.step bld_nd (bld_ks kSc kSk) rfl hc 38 (by decide) (Below.refl _ _) (fun u hu => by injection hu with hu; injection hu) (trivial))
    · have h1 : (bldOps[39]?).map (·.dst) = some (some 77) := by kernel_rfl
      have h2 : (bldOps[39]?).map (·.op) = some (Op.load 25 (Operand.tmp 9)) := by kernel_rfl
      have h3 : (bldOps[39]?).map (·.guard) = some (some (37, true)) := by kernel_rfl
      rw [ho] at h1 h2 h3
      replace h1 := Option.some.inj h1
      replace h2 := Option.some.inj h2
      replace h3 := Option.some.inj h3
      simp only at h1 h2 h3
      rw [h1] at hK
      have l37 : L 37 = true := hdep 37 (by simp [bldDep])
      have hw := wanted_of (ops := bldOps) (b := b) h3 (d := 75) (by kernel_rfl) (show Act.at b 75 = .bool true from hc.v 37 l37 _ rfl)
      rw [hw]
      refine ⟨fun _ => ?_, fun hq => by cases hq⟩
      refine wp_load_row 25 (.tmp 9) h2 g ((hf 9 (by decide)).trans a9) 25 #[.slice (some ⟨bN, oN, none⟩) 3 cN, .slice DA Dn Dc] (0, 0) _ ((hbw.block g hG.lt).trans hG) Try.underlying25 rfl (by kernel_rfl) ?_
      rw [h1]
      exact hK _ _ (FlatC.step bld_nd (bld_ks kSc kSk) rfl hc 39 (by decide) (Below.refl _ _) (fun u hu => by injection hu with hu; injection hu) (trivial))
    · have h1 : (bldOps[40]?).map (·.dst) = some (some 78) := by kernel_rfl
      have h2 : (bldOps[40]?).map (·.op) = some (Op.call { callee := Callee.value (Operand.func 17), args := #[Operand.tmp 77], argTypes := #[25] }) := by kernel_rfl
      have h3 : (bldOps[40]?).map (·.guard) = some (some (37, true)) := by kernel_rfl
      rw [ho] at h1 h2 h3
      replace h1 := Option.some.inj h1
      replace h2 := Option.some.inj h2
      replace h3 := Option.some.inj h3
      simp only at h1 h2 h3
      rw [h1] at hK
      have l37 : L 37 = true := hdep 37 (by simp [bldDep])
      have l39 : L 39 = true := hdep 39 (by simp [bldDep])
      have hw := wanted_of (ops := bldOps) (b := b) h3 (d := 75) (by kernel_rfl) (show Act.at b 75 = .bool true from hc.v 37 l37 _ rfl)
      rw [hw]
      refine ⟨fun _ => ?_, fun hq => by cases hq⟩
      refine wp_callG 17 _ _ h2 (enters_of Try.func17 (by kernel_rfl) rfl) #[.agg #[.slice (some ⟨bN, oN, none⟩) 3 cN, .slice DA Dn Dc]] (by simp [show b.eval (.tmp 77) = _ from (show Act.at b 77 = .agg #[.slice (some ⟨bN, oN, none⟩) 3 cN, .slice DA Dn Dc] from hc.v 39 l39 _ rfl)]) _ (HCl w hbw) ?_
      rintro v w2 ⟨hp2, hb2⟩
      rw [h1]
      exact hK _ _ (FlatC.step bld_nd (bld_ks kSc kSk) rfl hc 40 (by decide) (hb2) (fun u hu => by cases hu) (hp2))
    · have h1 : (bldOps[41]?).map (·.dst) = some (some 79) := by kernel_rfl
      have h2 : (bldOps[41]?).map (·.op) = some (Op.call { callee := Callee.value (Operand.func 16), args := #[Operand.tmp 76, Operand.tmp 78], argTypes := #[25, 25] }) := by kernel_rfl
      have h3 : (bldOps[41]?).map (·.guard) = some (some (37, true)) := by kernel_rfl
      rw [ho] at h1 h2 h3
      replace h1 := Option.some.inj h1
      replace h2 := Option.some.inj h2
      replace h3 := Option.some.inj h3
      simp only at h1 h2 h3
      rw [h1] at hK
      have l37 : L 37 = true := hdep 37 (by simp [bldDep])
      have l38 : L 38 = true := hdep 38 (by simp [bldDep])
      have hw := wanted_of (ops := bldOps) (b := b) h3 (d := 75) (by kernel_rfl) (show Act.at b 75 = .bool true from hc.v 37 l37 _ rfl)
      rw [hw]
      refine ⟨fun _ => ?_, fun hq => by cases hq⟩
      have l40 : L 40 = true := hdep 40 (by simp [bldDep])
      have hp := hc.s 40 l40 (by decide)
      refine wp_callG 16 _ _ h2 (enters_of Try.func16 (by kernel_rfl) rfl) #[.agg #[.slice (some ⟨bN, oN, none⟩) 3 cN, .slice DA Dn Dc], Act.at b 78] (by simp [show b.eval (.tmp 76) = _ from (show Act.at b 76 = .agg #[.slice (some ⟨bN, oN, none⟩) 3 cN, .slice DA Dn Dc] from hc.v 38 l38 _ rfl), show b.eval (.tmp 78) = Act.at b 78 from rfl]) _ (HSa _ w hp hbw) ?_
      rintro v w2 ⟨rfl, hb2⟩
      rw [h1]
      exact hK _ _ (FlatC.step bld_nd (bld_ks kSc kSk) rfl hc 41 (by decide) (hb2) (fun u hu => by injection hu with hu; injection hu) (trivial))
    · have h1 : (bldOps[42]?).map (·.dst) = some (some 80) := by kernel_rfl
      have h2 : (bldOps[42]?).map (·.op) = some (Op.pick (Operand.tmp 75) (Operand.tmp 79) (Operand.const (Value.bool false))) := by kernel_rfl
      have h3 : (bldOps[42]?).map (·.guard) = some none := by kernel_rfl
      rw [ho] at h1 h2 h3
      replace h1 := Option.some.inj h1
      replace h2 := Option.some.inj h2
      replace h3 := Option.some.inj h3
      simp only at h1 h2 h3
      rw [h1] at hK
      have l37 : L 37 = true := hdep 37 (by simp [bldDep])
      have l41 : L 41 = true := hdep 41 (by simp [bldDep])
      refine ⟨fun _ => ?_, fun hw => by rw [wanted_none h3] at hw; cases hw⟩
      refine wp_pickG _ _ _ h2 true (show Act.at b 75 = .bool true from hc.v 37 l37 _ rfl) _ (if_pos rfl |>.trans (show Act.at b 79 = .bool true from hc.v 41 l41 _ rfl)) ?_
      rw [h1]
      exact hK _ _ (FlatC.step bld_nd (bld_ks kSc kSk) rfl hc 42 (by decide) (Below.refl _ _) (fun u hu => by injection hu with hu; injection hu) (trivial))
    · have h1 : (bldOps[43]?).map (·.dst) = some (some 81) := by kernel_rfl
      have h2 : (bldOps[43]?).map (·.op) = some (Op.move (Operand.tmp 80)) := by kernel_rfl
      have h3 : (bldOps[43]?).map (·.guard) = some none := by kernel_rfl
      rw [ho] at h1 h2 h3
      replace h1 := Option.some.inj h1
      replace h2 := Option.some.inj h2
      replace h3 := Option.some.inj h3
      simp only at h1 h2 h3
      rw [h1] at hK
      have l42 : L 42 = true := hdep 42 (by simp [bldDep])
      refine ⟨fun _ => ?_, fun hw => by rw [wanted_none h3] at hw; cases hw⟩
      refine wp_moveG _ h2 _ (show Act.at b 80 = .bool true from hc.v 42 l42 _ rfl) ?_
      rw [h1]
      exact hK _ _ (FlatC.step bld_nd (bld_ks kSc kSk) rfl hc 43 (by decide) (Below.refl _ _) (fun u hu => by injection hu with hu; injection hu) (trivial))
    · have h1 : (bldOps[44]?).map (·.dst) = some (some 82) := by kernel_rfl
      have h2 : (bldOps[44]?).map (·.op) = some (Op.fieldAddr 25 (Operand.tmp 9) 0) := by kernel_rfl
      have h3 : (bldOps[44]?).map (·.guard) = some (some (43, true)) := by kernel_rfl
      rw [ho] at h1 h2 h3
      replace h1 := Option.some.inj h1
      replace h2 := Option.some.inj h2
      replace h3 := Option.some.inj h3
      simp only at h1 h2 h3
      rw [h1] at hK
      have l43 : L 43 = true := hdep 43 (by simp [bldDep])
      have hw := wanted_of (ops := bldOps) (b := b) h3 (d := 81) (by kernel_rfl) (show Act.at b 81 = .bool true from hc.v 43 l43 _ rfl)
      rw [hw]
      refine ⟨fun _ => ?_, fun hq => by cases hq⟩
      refine wp_fieldG _ _ _ h2 _ _ ((hf 9 (by decide)).trans a9) (field_0S g w) ?_
      rw [h1]
      exact hK _ _ (FlatC.step bld_nd (bld_ks kSc kSk) rfl hc 44 (by decide) (Below.refl _ _) (fun u hu => by injection hu with hu; injection hu) (trivial))
    · have h1 : (bldOps[45]?).map (·.dst) = some (some 83) := by kernel_rfl
      have h2 : (bldOps[45]?).map (·.op) = some (Op.load 22 (Operand.tmp 82)) := by kernel_rfl
      have h3 : (bldOps[45]?).map (·.guard) = some (some (43, true)) := by kernel_rfl
      rw [ho] at h1 h2 h3
      replace h1 := Option.some.inj h1
      replace h2 := Option.some.inj h2
      replace h3 := Option.some.inj h3
      simp only at h1 h2 h3
      rw [h1] at hK
      have l43 : L 43 = true := hdep 43 (by simp [bldDep])
      have l44 : L 44 = true := hdep 44 (by simp [bldDep])
      have hw := wanted_of (ops := bldOps) (b := b) h3 (d := 81) (by kernel_rfl) (show Act.at b 81 = .bool true from hc.v 43 l43 _ rfl)
      rw [hw]
      refine ⟨fun _ => ?_, fun hq => by cases hq⟩
      refine wp_loadG _ _ h2 _ _ (show Act.at b 82 = .pointer (some ⟨g, 0, none⟩) from hc.v 44 l44 _ rfl) (load_slN ((World.cell?_of_block (w := W) (a := ⟨g, 0, none⟩) (hbw.block g hG.lt)).trans hG0)) ?_
      rw [h1]
      exact hK _ _ (FlatC.step bld_nd (bld_ks kSc kSk) rfl hc 45 (by decide) (Below.refl _ _) (fun u hu => by injection hu with hu; injection hu) (trivial))
    · have h1 : (bldOps[46]?).map (·.dst) = some (some 84) := by kernel_rfl
      have h2 : (bldOps[46]?).map (·.op) = some (Op.indexAddr 22 (Operand.tmp 83) (Operand.const (Value.int IntKind.i64 0))) := by kernel_rfl
      have h3 : (bldOps[46]?).map (·.guard) = some (some (43, true)) := by kernel_rfl
      rw [ho] at h1 h2 h3
      replace h1 := Option.some.inj h1
      replace h2 := Option.some.inj h2
      replace h3 := Option.some.inj h3
      simp only at h1 h2 h3
      rw [h1] at hK
      have l43 : L 43 = true := hdep 43 (by simp [bldDep])
      have l45 : L 45 = true := hdep 45 (by simp [bldDep])
      have hw := wanted_of (ops := bldOps) (b := b) h3 (d := 81) (by kernel_rfl) (show Act.at b 81 = .bool true from hc.v 43 l43 _ rfl)
      rw [hw]
      refine ⟨fun _ => ?_, fun hq => by cases hq⟩
      refine wp_indexNo _ _ h2 bN oN 3 _ 0 (show Act.at b 83 = .slice (some ⟨bN, oN, none⟩) 3 cN from hc.v 45 l45 _ rfl) rfl (by decide) ?_
      rw [h1]
      exact hK _ _ (FlatC.step bld_nd (bld_ks kSc kSk) rfl hc 46 (by decide) (Below.refl _ _) (fun u hu => by injection hu with hu; injection hu) (trivial))
    · have h1 : (bldOps[47]?).map (·.dst) = some (some 85) := by kernel_rfl
      have h2 : (bldOps[47]?).map (·.op) = some (Op.load 49 (Operand.tmp 84)) := by kernel_rfl
      have h3 : (bldOps[47]?).map (·.guard) = some (some (43, true)) := by kernel_rfl
      rw [ho] at h1 h2 h3
      replace h1 := Option.some.inj h1
      replace h2 := Option.some.inj h2
      replace h3 := Option.some.inj h3
      simp only at h1 h2 h3
      rw [h1] at hK
      have l43 : L 43 = true := hdep 43 (by simp [bldDep])
      have l46 : L 46 = true := hdep 46 (by simp [bldDep])
      have hw := wanted_of (ops := bldOps) (b := b) h3 (d := 81) (by kernel_rfl) (show Act.at b 81 = .bool true from hc.v 43 l43 _ rfl)
      rw [hw]
      refine ⟨fun _ => ?_, fun hq => by cases hq⟩
      refine wp_load_mid 49 _ h2 bN (oN + 0 * 18) (show Act.at b 84 = .pointer (some ⟨bN, oN + 0 * 18, none⟩) from hc.v 46 l46 _ rfl) v1.cells _ (range_keep rv1 (hbw.block bN hbN)) Try.underlying49 rfl (nv_size v1) ?_
      rw [h1]
      exact hK _ _ (FlatC.step bld_nd (bld_ks kSc kSk) rfl hc 47 (by decide) (Below.refl _ _) (fun u hu => by injection hu with hu; injection hu) (trivial))
    · have h1 : (bldOps[48]?).map (·.dst) = some (some 86) := by kernel_rfl
      have h2 : (bldOps[48]?).map (·.op) = some (Op.call { callee := Callee.value (Operand.func 18), args := #[Operand.tmp 85], argTypes := #[49] }) := by kernel_rfl
      have h3 : (bldOps[48]?).map (·.guard) = some (some (43, true)) := by kernel_rfl
      rw [ho] at h1 h2 h3
      replace h1 := Option.some.inj h1
      replace h2 := Option.some.inj h2
      replace h3 := Option.some.inj h3
      simp only at h1 h2 h3
      rw [h1] at hK
      have l43 : L 43 = true := hdep 43 (by simp [bldDep])
      have l47 : L 47 = true := hdep 47 (by simp [bldDep])
      have hw := wanted_of (ops := bldOps) (b := b) h3 (d := 81) (by kernel_rfl) (show Act.at b 81 = .bool true from hc.v 43 l43 _ rfl)
      rw [hw]
      refine ⟨fun _ => ?_, fun hq => by cases hq⟩
      refine wp_callG 18 _ _ h2 (enters_of Try.func18 (by kernel_rfl) rfl) #[.agg v1.cells.toArray] (by simp [show b.eval (.tmp 85) = _ from (show Act.at b 85 = .agg v1.cells.toArray from hc.v 47 l47 _ rfl)]) _ (HMo w hbw) ?_
      rintro v w2 ⟨rfl, hb2⟩
      rw [h1]
      exact hK _ _ (FlatC.step bld_nd (bld_ks kSc kSk) rfl hc 48 (by decide) (hb2) (fun u hu => by injection hu with hu; injection hu) (trivial))
    · have h1 : (bldOps[49]?).map (·.dst) = some (some 87) := by kernel_rfl
      have h2 : (bldOps[49]?).map (·.op) = some (Op.binOp BinOp.eql 42 (Operand.tmp 86) (Operand.const (Value.int IntKind.u64 255)) 42) := by kernel_rfl
      have h3 : (bldOps[49]?).map (·.guard) = some (some (43, true)) := by kernel_rfl
      rw [ho] at h1 h2 h3
      replace h1 := Option.some.inj h1
      replace h2 := Option.some.inj h2
      replace h3 := Option.some.inj h3
      simp only at h1 h2 h3
      rw [h1] at hK
      have l43 : L 43 = true := hdep 43 (by simp [bldDep])
      have l48 : L 48 = true := hdep 48 (by simp [bldDep])
      have hw := wanted_of (ops := bldOps) (b := b) h3 (d := 81) (by kernel_rfl) (show Act.at b 81 = .bool true from hc.v 43 l43 _ rfl)
      rw [hw]
      refine ⟨fun _ => ?_, fun hq => by cases hq⟩
      refine wp_binG _ _ _ _ _ h2 _ _ (.bool true) (show Act.at b 86 = .int .u64 255 from hc.v 48 l48 _ rfl) rfl (by kernel_rfl) (by kernel_rfl) ?_
      rw [h1]
      exact hK _ _ (FlatC.step bld_nd (bld_ks kSc kSk) rfl hc 49 (by decide) (Below.refl _ _) (fun u hu => by injection hu with hu; injection hu) (trivial))
    · have h1 : (bldOps[50]?).map (·.dst) = some (some 88) := by kernel_rfl
      have h2 : (bldOps[50]?).map (·.op) = some (Op.pick (Operand.tmp 81) (Operand.tmp 87) (Operand.const (Value.bool false))) := by kernel_rfl
      have h3 : (bldOps[50]?).map (·.guard) = some none := by kernel_rfl
      rw [ho] at h1 h2 h3
      replace h1 := Option.some.inj h1
      replace h2 := Option.some.inj h2
      replace h3 := Option.some.inj h3
      simp only at h1 h2 h3
      rw [h1] at hK
      have l43 : L 43 = true := hdep 43 (by simp [bldDep])
      have l49 : L 49 = true := hdep 49 (by simp [bldDep])
      refine ⟨fun _ => ?_, fun hw => by rw [wanted_none h3] at hw; cases hw⟩
      refine wp_pickG _ _ _ h2 true (show Act.at b 81 = .bool true from hc.v 43 l43 _ rfl) _ (if_pos rfl |>.trans (show Act.at b 87 = .bool true from hc.v 49 l49 _ rfl)) ?_
      rw [h1]
      exact hK _ _ (FlatC.step bld_nd (bld_ks kSc kSk) rfl hc 50 (by decide) (Below.refl _ _) (fun u hu => by injection hu with hu; injection hu) (trivial))
    · have h1 : (bldOps[51]?).map (·.dst) = some (some 89) := by kernel_rfl
      have h2 : (bldOps[51]?).map (·.op) = some (Op.move (Operand.tmp 88)) := by kernel_rfl
      have h3 : (bldOps[51]?).map (·.guard) = some none := by kernel_rfl
      rw [ho] at h1 h2 h3
      replace h1 := Option.some.inj h1
      replace h2 := Option.some.inj h2
      replace h3 := Option.some.inj h3
      simp only at h1 h2 h3
      rw [h1] at hK
      have l50 : L 50 = true := hdep 50 (by simp [bldDep])
      refine ⟨fun _ => ?_, fun hw => by rw [wanted_none h3] at hw; cases hw⟩
      refine wp_moveG _ h2 _ (show Act.at b 88 = .bool true from hc.v 50 l50 _ rfl) ?_
      rw [h1]
      exact hK _ _ (FlatC.step bld_nd (bld_ks kSc kSk) rfl hc 51 (by decide) (Below.refl _ _) (fun u hu => by injection hu with hu; injection hu) (trivial))
    · have h1 : (bldOps[52]?).map (·.dst) = some (some 90) := by kernel_rfl
      have h2 : (bldOps[52]?).map (·.op) = some (Op.fieldAddr 25 (Operand.tmp 9) 0) := by kernel_rfl
      have h3 : (bldOps[52]?).map (·.guard) = some (some (51, true)) := by kernel_rfl
      rw [ho] at h1 h2 h3
      replace h1 := Option.some.inj h1
      replace h2 := Option.some.inj h2
      replace h3 := Option.some.inj h3
      simp only at h1 h2 h3
      rw [h1] at hK
      have l51 : L 51 = true := hdep 51 (by simp [bldDep])
      have hw := wanted_of (ops := bldOps) (b := b) h3 (d := 89) (by kernel_rfl) (show Act.at b 89 = .bool true from hc.v 51 l51 _ rfl)
      rw [hw]
      refine ⟨fun _ => ?_, fun hq => by cases hq⟩
      refine wp_fieldG _ _ _ h2 _ _ ((hf 9 (by decide)).trans a9) (field_0S g w) ?_
      rw [h1]
      exact hK _ _ (FlatC.step bld_nd (bld_ks kSc kSk) rfl hc 52 (by decide) (Below.refl _ _) (fun u hu => by injection hu with hu; injection hu) (trivial))
    · have h1 : (bldOps[53]?).map (·.dst) = some (some 91) := by kernel_rfl
      have h2 : (bldOps[53]?).map (·.op) = some (Op.load 22 (Operand.tmp 90)) := by kernel_rfl
      have h3 : (bldOps[53]?).map (·.guard) = some (some (51, true)) := by kernel_rfl
      rw [ho] at h1 h2 h3
      replace h1 := Option.some.inj h1
      replace h2 := Option.some.inj h2
      replace h3 := Option.some.inj h3
      simp only at h1 h2 h3
      rw [h1] at hK
      have l51 : L 51 = true := hdep 51 (by simp [bldDep])
      have l52 : L 52 = true := hdep 52 (by simp [bldDep])
      have hw := wanted_of (ops := bldOps) (b := b) h3 (d := 89) (by kernel_rfl) (show Act.at b 89 = .bool true from hc.v 51 l51 _ rfl)
      rw [hw]
      refine ⟨fun _ => ?_, fun hq => by cases hq⟩
      refine wp_loadG _ _ h2 _ _ (show Act.at b 90 = .pointer (some ⟨g, 0, none⟩) from hc.v 52 l52 _ rfl) (load_slN ((World.cell?_of_block (w := W) (a := ⟨g, 0, none⟩) (hbw.block g hG.lt)).trans hG0)) ?_
      rw [h1]
      exact hK _ _ (FlatC.step bld_nd (bld_ks kSc kSk) rfl hc 53 (by decide) (Below.refl _ _) (fun u hu => by injection hu with hu; injection hu) (trivial))
    · have h1 : (bldOps[54]?).map (·.dst) = some (some 92) := by kernel_rfl
      have h2 : (bldOps[54]?).map (·.op) = some (Op.indexAddr 22 (Operand.tmp 91) (Operand.const (Value.int IntKind.i64 0))) := by kernel_rfl
      have h3 : (bldOps[54]?).map (·.guard) = some (some (51, true)) := by kernel_rfl
      rw [ho] at h1 h2 h3
      replace h1 := Option.some.inj h1
      replace h2 := Option.some.inj h2
      replace h3 := Option.some.inj h3
      simp only at h1 h2 h3
      rw [h1] at hK
      have l51 : L 51 = true := hdep 51 (by simp [bldDep])
      have l53 : L 53 = true := hdep 53 (by simp [bldDep])
      have hw := wanted_of (ops := bldOps) (b := b) h3 (d := 89) (by kernel_rfl) (show Act.at b 89 = .bool true from hc.v 51 l51 _ rfl)
      rw [hw]
      refine ⟨fun _ => ?_, fun hq => by cases hq⟩
      refine wp_indexNo _ _ h2 bN oN 3 _ 0 (show Act.at b 91 = .slice (some ⟨bN, oN, none⟩) 3 cN from hc.v 53 l53 _ rfl) rfl (by decide) ?_
      rw [h1]
      exact hK _ _ (FlatC.step bld_nd (bld_ks kSc kSk) rfl hc 54 (by decide) (Below.refl _ _) (fun u hu => by injection hu with hu; injection hu) (trivial))
    · have h1 : (bldOps[55]?).map (·.dst) = some (some 93) := by kernel_rfl
      have h2 : (bldOps[55]?).map (·.op) = some (Op.load 49 (Operand.tmp 92)) := by kernel_rfl
      have h3 : (bldOps[55]?).map (·.guard) = some (some (51, true)) := by kernel_rfl
      rw [ho] at h1 h2 h3
      replace h1 := Option.some.inj h1
      replace h2 := Option.some.inj h2
      replace h3 := Option.some.inj h3
      simp only at h1 h2 h3
      rw [h1] at hK
      have l51 : L 51 = true := hdep 51 (by simp [bldDep])
      have l54 : L 54 = true := hdep 54 (by simp [bldDep])
      have hw := wanted_of (ops := bldOps) (b := b) h3 (d := 89) (by kernel_rfl) (show Act.at b 89 = .bool true from hc.v 51 l51 _ rfl)
      rw [hw]
      refine ⟨fun _ => ?_, fun hq => by cases hq⟩
      refine wp_load_mid 49 _ h2 bN (oN + 0 * 18) (show Act.at b 92 = .pointer (some ⟨bN, oN + 0 * 18, none⟩) from hc.v 54 l54 _ rfl) v1.cells _ (range_keep rv1 (hbw.block bN hbN)) Try.underlying49 rfl (nv_size v1) ?_
      rw [h1]
      exact hK _ _ (FlatC.step bld_nd (bld_ks kSc kSk) rfl hc 55 (by decide) (Below.refl _ _) (fun u hu => by injection hu with hu; injection hu) (trivial))
    · have h1 : (bldOps[56]?).map (·.dst) = some (some 94) := by kernel_rfl
      have h2 : (bldOps[56]?).map (·.op) = some (Op.call { callee := Callee.value (Operand.func 19), args := #[Operand.tmp 93], argTypes := #[49] }) := by kernel_rfl
      have h3 : (bldOps[56]?).map (·.guard) = some (some (51, true)) := by kernel_rfl
      rw [ho] at h1 h2 h3
      replace h1 := Option.some.inj h1
      replace h2 := Option.some.inj h2
      replace h3 := Option.some.inj h3
      simp only at h1 h2 h3
      rw [h1] at hK
      have l51 : L 51 = true := hdep 51 (by simp [bldDep])
      have l55 : L 55 = true := hdep 55 (by simp [bldDep])
      have hw := wanted_of (ops := bldOps) (b := b) h3 (d := 89) (by kernel_rfl) (show Act.at b 89 = .bool true from hc.v 51 l51 _ rfl)
      rw [hw]
      refine ⟨fun _ => ?_, fun hq => by cases hq⟩
      refine wp_callG 19 _ _ h2 (enters_of Try.func19 (by kernel_rfl) rfl) #[.agg v1.cells.toArray] (by simp [show b.eval (.tmp 93) = _ from (show Act.at b 93 = .agg v1.cells.toArray from hc.v 55 l55 _ rfl)]) _ (HNu w hbw) ?_
      rintro v w2 ⟨rfl, hb2⟩
      rw [h1]
      exact hK _ _ (FlatC.step bld_nd (bld_ks kSc kSk) rfl hc 56 (by decide) (hb2) (fun u hu => by injection hu with hu; injection hu) (trivial))
    · have h1 : (bldOps[57]?).map (·.dst) = some (some 95) := by kernel_rfl
      have h2 : (bldOps[57]?).map (·.op) = some (Op.pick (Operand.tmp 89) (Operand.tmp 94) (Operand.const (Value.bool false))) := by kernel_rfl
      have h3 : (bldOps[57]?).map (·.guard) = some none := by kernel_rfl
      rw [ho] at h1 h2 h3
      replace h1 := Option.some.inj h1
      replace h2 := Option.some.inj h2
      replace h3 := Option.some.inj h3
      simp only at h1 h2 h3
      rw [h1] at hK
      have l51 : L 51 = true := hdep 51 (by simp [bldDep])
      have l56 : L 56 = true := hdep 56 (by simp [bldDep])
      refine ⟨fun _ => ?_, fun hw => by rw [wanted_none h3] at hw; cases hw⟩
      refine wp_pickG _ _ _ h2 true (show Act.at b 89 = .bool true from hc.v 51 l51 _ rfl) _ (if_pos rfl |>.trans (show Act.at b 94 = .bool true from hc.v 56 l56 _ rfl)) ?_
      rw [h1]
      exact hK _ _ (FlatC.step bld_nd (bld_ks kSc kSk) rfl hc 57 (by decide) (Below.refl _ _) (fun u hu => by injection hu with hu; injection hu) (trivial))
    · have h1 : (bldOps[58]?).map (·.dst) = some (some 96) := by kernel_rfl
      have h2 : (bldOps[58]?).map (·.op) = some (Op.move (Operand.tmp 95)) := by kernel_rfl
      have h3 : (bldOps[58]?).map (·.guard) = some none := by kernel_rfl
      rw [ho] at h1 h2 h3
      replace h1 := Option.some.inj h1
      replace h2 := Option.some.inj h2
      replace h3 := Option.some.inj h3
      simp only at h1 h2 h3
      rw [h1] at hK
      have l57 : L 57 = true := hdep 57 (by simp [bldDep])
      refine ⟨fun _ => ?_, fun hw => by rw [wanted_none h3] at hw; cases hw⟩
      refine wp_moveG _ h2 _ (show Act.at b 95 = .bool true from hc.v 57 l57 _ rfl) ?_
      rw [h1]
      exact hK _ _ (FlatC.step bld_nd (bld_ks kSc kSk) rfl hc 58 (by decide) (Below.refl _ _) (fun u hu => by injection hu with hu; injection hu) (trivial))
    · have h1 : (bldOps[59]?).map (·.dst) = some (some 97) := by kernel_rfl
      have h2 : (bldOps[59]?).map (·.op) = some (Op.fieldAddr 25 (Operand.tmp 9) 0) := by kernel_rfl
      have h3 : (bldOps[59]?).map (·.guard) = some (some (58, true)) := by kernel_rfl
      rw [ho] at h1 h2 h3
      replace h1 := Option.some.inj h1
      replace h2 := Option.some.inj h2
      replace h3 := Option.some.inj h3
      simp only at h1 h2 h3
      rw [h1] at hK
      have l58 : L 58 = true := hdep 58 (by simp [bldDep])
      have hw := wanted_of (ops := bldOps) (b := b) h3 (d := 96) (by kernel_rfl) (show Act.at b 96 = .bool true from hc.v 58 l58 _ rfl)
      rw [hw]
      refine ⟨fun _ => ?_, fun hq => by cases hq⟩
      refine wp_fieldG _ _ _ h2 _ _ ((hf 9 (by decide)).trans a9) (field_0S g w) ?_
      rw [h1]
      exact hK _ _ (FlatC.step bld_nd (bld_ks kSc kSk) rfl hc 59 (by decide) (Below.refl _ _) (fun u hu => by injection hu with hu; injection hu) (trivial))
    · have h1 : (bldOps[60]?).map (·.dst) = some (some 98) := by kernel_rfl
      have h2 : (bldOps[60]?).map (·.op) = some (Op.load 22 (Operand.tmp 97)) := by kernel_rfl
      have h3 : (bldOps[60]?).map (·.guard) = some (some (58, true)) := by kernel_rfl
      rw [ho] at h1 h2 h3
      replace h1 := Option.some.inj h1
      replace h2 := Option.some.inj h2
      replace h3 := Option.some.inj h3
      simp only at h1 h2 h3
      rw [h1] at hK
      have l58 : L 58 = true := hdep 58 (by simp [bldDep])
      have l59 : L 59 = true := hdep 59 (by simp [bldDep])
      have hw := wanted_of (ops := bldOps) (b := b) h3 (d := 96) (by kernel_rfl) (show Act.at b 96 = .bool true from hc.v 58 l58 _ rfl)
      rw [hw]
      refine ⟨fun _ => ?_, fun hq => by cases hq⟩
      refine wp_loadG _ _ h2 _ _ (show Act.at b 97 = .pointer (some ⟨g, 0, none⟩) from hc.v 59 l59 _ rfl) (load_slN ((World.cell?_of_block (w := W) (a := ⟨g, 0, none⟩) (hbw.block g hG.lt)).trans hG0)) ?_
      rw [h1]
      exact hK _ _ (FlatC.step bld_nd (bld_ks kSc kSk) rfl hc 60 (by decide) (Below.refl _ _) (fun u hu => by injection hu with hu; injection hu) (trivial))
    · have h1 : (bldOps[61]?).map (·.dst) = some (some 99) := by kernel_rfl
      have h2 : (bldOps[61]?).map (·.op) = some (Op.indexAddr 22 (Operand.tmp 98) (Operand.const (Value.int IntKind.i64 2))) := by kernel_rfl
      have h3 : (bldOps[61]?).map (·.guard) = some (some (58, true)) := by kernel_rfl
      rw [ho] at h1 h2 h3
      replace h1 := Option.some.inj h1
      replace h2 := Option.some.inj h2
      replace h3 := Option.some.inj h3
      simp only at h1 h2 h3
      rw [h1] at hK
      have l58 : L 58 = true := hdep 58 (by simp [bldDep])
      have l60 : L 60 = true := hdep 60 (by simp [bldDep])
      have hw := wanted_of (ops := bldOps) (b := b) h3 (d := 96) (by kernel_rfl) (show Act.at b 96 = .bool true from hc.v 58 l58 _ rfl)
      rw [hw]
      refine ⟨fun _ => ?_, fun hq => by cases hq⟩
      refine wp_indexNo _ _ h2 bN oN 3 _ 2 (show Act.at b 98 = .slice (some ⟨bN, oN, none⟩) 3 cN from hc.v 60 l60 _ rfl) rfl (by decide) ?_
      rw [h1]
      exact hK _ _ (FlatC.step bld_nd (bld_ks kSc kSk) rfl hc 61 (by decide) (Below.refl _ _) (fun u hu => by injection hu with hu; injection hu) (trivial))
    · have h1 : (bldOps[62]?).map (·.dst) = some (some 100) := by kernel_rfl
      have h2 : (bldOps[62]?).map (·.op) = some (Op.load 49 (Operand.tmp 99)) := by kernel_rfl
      have h3 : (bldOps[62]?).map (·.guard) = some (some (58, true)) := by kernel_rfl
      rw [ho] at h1 h2 h3
      replace h1 := Option.some.inj h1
      replace h2 := Option.some.inj h2
      replace h3 := Option.some.inj h3
      simp only at h1 h2 h3
      rw [h1] at hK
      have l58 : L 58 = true := hdep 58 (by simp [bldDep])
      have l61 : L 61 = true := hdep 61 (by simp [bldDep])
      have hw := wanted_of (ops := bldOps) (b := b) h3 (d := 96) (by kernel_rfl) (show Act.at b 96 = .bool true from hc.v 58 l58 _ rfl)
      rw [hw]
      refine ⟨fun _ => ?_, fun hq => by cases hq⟩
      refine wp_load_mid 49 _ h2 bN (oN + 2 * 18) (show Act.at b 99 = .pointer (some ⟨bN, oN + 2 * 18, none⟩) from hc.v 61 l61 _ rfl) v3.cells _ (range_keep rv3 (hbw.block bN hbN)) Try.underlying49 rfl (nv_size v3) ?_
      rw [h1]
      exact hK _ _ (FlatC.step bld_nd (bld_ks kSc kSk) rfl hc 62 (by decide) (Below.refl _ _) (fun u hu => by injection hu with hu; injection hu) (trivial))
    · have h1 : (bldOps[63]?).map (·.dst) = some (some 101) := by kernel_rfl
      have h2 : (bldOps[63]?).map (·.op) = some (Op.call { callee := Callee.value (Operand.func 20), args := #[Operand.tmp 100], argTypes := #[49] }) := by kernel_rfl
      have h3 : (bldOps[63]?).map (·.guard) = some (some (58, true)) := by kernel_rfl
      rw [ho] at h1 h2 h3
      replace h1 := Option.some.inj h1
      replace h2 := Option.some.inj h2
      replace h3 := Option.some.inj h3
      simp only at h1 h2 h3
      rw [h1] at hK
      have l58 : L 58 = true := hdep 58 (by simp [bldDep])
      have l62 : L 62 = true := hdep 62 (by simp [bldDep])
      have hw := wanted_of (ops := bldOps) (b := b) h3 (d := 96) (by kernel_rfl) (show Act.at b 96 = .bool true from hc.v 58 l58 _ rfl)
      rw [hw]
      refine ⟨fun _ => ?_, fun hq => by cases hq⟩
      refine wp_callG 20 _ _ h2 (enters_of Try.func20 (by kernel_rfl) rfl) #[.agg v3.cells.toArray] (by simp [show b.eval (.tmp 100) = _ from (show Act.at b 100 = .agg v3.cells.toArray from hc.v 62 l62 _ rfl)]) _ (HKi w hbw) ?_
      rintro v w2 ⟨hp2, hb2⟩
      rw [h1]
      exact hK _ _ (FlatC.step bld_nd (bld_ks kSc kSk) rfl hc 63 (by decide) (hb2) (fun u hu => by cases hu) (hp2))
    · have h1 : (bldOps[64]?).map (·.dst) = some (some 102) := by kernel_rfl
      have h2 : (bldOps[64]?).map (·.op) = some (Op.call { callee := Callee.builtin Builtin.len, args := #[Operand.tmp 101], argTypes := #[30] }) := by kernel_rfl
      have h3 : (bldOps[64]?).map (·.guard) = some (some (58, true)) := by kernel_rfl
      rw [ho] at h1 h2 h3
      replace h1 := Option.some.inj h1
      replace h2 := Option.some.inj h2
      replace h3 := Option.some.inj h3
      simp only at h1 h2 h3
      rw [h1] at hK
      have l58 : L 58 = true := hdep 58 (by simp [bldDep])
      have hw := wanted_of (ops := bldOps) (b := b) h3 (d := 96) (by kernel_rfl) (show Act.at b 96 = .bool true from hc.v 58 l58 _ rfl)
      rw [hw]
      refine ⟨fun _ => ?_, fun hq => by cases hq⟩
      have l63 : L 63 = true := hdep 63 (by simp [bldDep])
      obtain ⟨A, c, hv⟩ := kSk' _ _ (hc.s 63 l63 (by decide))
      refine wp_lenS _ _ h2 ⟨_, Try.underlying30⟩ A 2 c hv ?_
      rw [h1]
      exact hK _ _ (FlatC.step bld_nd (bld_ks kSc kSk) rfl hc 64 (by decide) (Below.refl _ _) (fun u hu => by injection hu with hu; injection hu) (trivial))
    · have h1 : (bldOps[65]?).map (·.dst) = some (some 103) := by kernel_rfl
      have h2 : (bldOps[65]?).map (·.op) = some (Op.binOp BinOp.eql 3 (Operand.tmp 102) (Operand.const (Value.int IntKind.i64 2)) 3) := by kernel_rfl
      have h3 : (bldOps[65]?).map (·.guard) = some (some (58, true)) := by kernel_rfl
      rw [ho] at h1 h2 h3
      replace h1 := Option.some.inj h1
      replace h2 := Option.some.inj h2
      replace h3 := Option.some.inj h3
      simp only at h1 h2 h3
      rw [h1] at hK
      have l58 : L 58 = true := hdep 58 (by simp [bldDep])
      have l64 : L 64 = true := hdep 64 (by simp [bldDep])
      have hw := wanted_of (ops := bldOps) (b := b) h3 (d := 96) (by kernel_rfl) (show Act.at b 96 = .bool true from hc.v 58 l58 _ rfl)
      rw [hw]
      refine ⟨fun _ => ?_, fun hq => by cases hq⟩
      refine wp_binG _ _ _ _ _ h2 _ _ (.bool true) (show Act.at b 102 = .int .i64 2 from hc.v 64 l64 _ rfl) rfl (by kernel_rfl) (by kernel_rfl) ?_
      rw [h1]
      exact hK _ _ (FlatC.step bld_nd (bld_ks kSc kSk) rfl hc 65 (by decide) (Below.refl _ _) (fun u hu => by injection hu with hu; injection hu) (trivial))
    · have h1 : (bldOps[66]?).map (·.dst) = some (some 104) := by kernel_rfl
      have h2 : (bldOps[66]?).map (·.op) = some (Op.pick (Operand.tmp 96) (Operand.tmp 103) (Operand.const (Value.bool false))) := by kernel_rfl
      have h3 : (bldOps[66]?).map (·.guard) = some none := by kernel_rfl
      rw [ho] at h1 h2 h3
      replace h1 := Option.some.inj h1
      replace h2 := Option.some.inj h2
      replace h3 := Option.some.inj h3
      simp only at h1 h2 h3
      rw [h1] at hK
      have l58 : L 58 = true := hdep 58 (by simp [bldDep])
      have l65 : L 65 = true := hdep 65 (by simp [bldDep])
      refine ⟨fun _ => ?_, fun hw => by rw [wanted_none h3] at hw; cases hw⟩
      refine wp_pickG _ _ _ h2 true (show Act.at b 96 = .bool true from hc.v 58 l58 _ rfl) _ (if_pos rfl |>.trans (show Act.at b 103 = .bool true from hc.v 65 l65 _ rfl)) ?_
      rw [h1]
      exact hK _ _ (FlatC.step bld_nd (bld_ks kSc kSk) rfl hc 66 (by decide) (Below.refl _ _) (fun u hu => by injection hu with hu; injection hu) (trivial))
    · have h1 : (bldOps[67]?).map (·.dst) = some (some 105) := by kernel_rfl
      have h2 : (bldOps[67]?).map (·.op) = some (Op.move (Operand.tmp 104)) := by kernel_rfl
      have h3 : (bldOps[67]?).map (·.guard) = some none := by kernel_rfl
      rw [ho] at h1 h2 h3
      replace h1 := Option.some.inj h1
      replace h2 := Option.some.inj h2
      replace h3 := Option.some.inj h3
      simp only at h1 h2 h3
      rw [h1] at hK
      have l66 : L 66 = true := hdep 66 (by simp [bldDep])
      refine ⟨fun _ => ?_, fun hw => by rw [wanted_none h3] at hw; cases hw⟩
      refine wp_moveG _ h2 _ (show Act.at b 104 = .bool true from hc.v 66 l66 _ rfl) ?_
      rw [h1]
      exact hK _ _ (FlatC.step bld_nd (bld_ks kSc kSk) rfl hc 67 (by decide) (Below.refl _ _) (fun u hu => by injection hu with hu; injection hu) (trivial))
    · have h1 : (bldOps[68]?).map (·.dst) = some (some 106) := by kernel_rfl
      have h2 : (bldOps[68]?).map (·.op) = some (Op.pick (Operand.tmp 105) (Operand.const (Value.bool true)) (Operand.const (Value.bool false))) := by kernel_rfl
      have h3 : (bldOps[68]?).map (·.guard) = some none := by kernel_rfl
      rw [ho] at h1 h2 h3
      replace h1 := Option.some.inj h1
      replace h2 := Option.some.inj h2
      replace h3 := Option.some.inj h3
      simp only at h1 h2 h3
      rw [h1] at hK
      have l67 : L 67 = true := hdep 67 (by simp [bldDep])
      refine ⟨fun _ => ?_, fun hw => by rw [wanted_none h3] at hw; cases hw⟩
      refine wp_pickG _ _ _ h2 true (show Act.at b 105 = .bool true from hc.v 67 l67 _ rfl) _ (if_pos rfl |>.trans rfl) ?_
      rw [h1]
      exact hK _ _ (FlatC.step bld_nd (bld_ks kSc kSk) rfl hc 68 (by decide) (Below.refl _ _) (fun u hu => by injection hu with hu; injection hu) (trivial))
    · have h1 : (bldOps[69]?).map (·.dst) = some (some 107) := by kernel_rfl
      have h2 : (bldOps[69]?).map (·.op) = some (Op.move (Operand.tmp 106)) := by kernel_rfl
      have h3 : (bldOps[69]?).map (·.guard) = some none := by kernel_rfl
      rw [ho] at h1 h2 h3
      replace h1 := Option.some.inj h1
      replace h2 := Option.some.inj h2
      replace h3 := Option.some.inj h3
      simp only at h1 h2 h3
      rw [h1] at hK
      have l68 : L 68 = true := hdep 68 (by simp [bldDep])
      refine ⟨fun _ => ?_, fun hw => by rw [wanted_none h3] at hw; cases hw⟩
      refine wp_moveG _ h2 _ (show Act.at b 106 = .bool true from hc.v 68 l68 _ rfl) ?_
      rw [h1]
      exact hK _ _ (FlatC.step bld_nd (bld_ks kSc kSk) rfl hc 69 (by decide) (Below.refl _ _) (fun u hu => by injection hu with hu; injection hu) (trivial))
    · have h1 : (bldOps[70]?).map (·.dst) = some (some 108) := by kernel_rfl
      have h2 : (bldOps[70]?).map (·.op) = some (Op.pick (Operand.tmp 107) (Operand.const (Value.bool true)) (Operand.const (Value.bool false))) := by kernel_rfl
      have h3 : (bldOps[70]?).map (·.guard) = some none := by kernel_rfl
      rw [ho] at h1 h2 h3
      replace h1 := Option.some.inj h1
      replace h2 := Option.some.inj h2
      replace h3 := Option.some.inj h3
      simp only at h1 h2 h3
      rw [h1] at hK
      have l69 : L 69 = true := hdep 69 (by simp [bldDep])
      refine ⟨fun _ => ?_, fun hw => by rw [wanted_none h3] at hw; cases hw⟩
      refine wp_pickG _ _ _ h2 true (show Act.at b 107 = .bool true from hc.v 69 l69 _ rfl) _ (if_pos rfl |>.trans rfl) ?_
      rw [h1]
      exact hK _ _ (FlatC.step bld_nd (bld_ks kSc kSk) rfl hc 70 (by decide) (Below.refl _ _) (fun u hu => by injection hu with hu; injection hu) (trivial))
    · have h1 : (bldOps[71]?).map (·.dst) = some (some 109) := by kernel_rfl
      have h2 : (bldOps[71]?).map (·.op) = some (Op.move (Operand.tmp 108)) := by kernel_rfl
      have h3 : (bldOps[71]?).map (·.guard) = some none := by kernel_rfl
      rw [ho] at h1 h2 h3
      replace h1 := Option.some.inj h1
      replace h2 := Option.some.inj h2
      replace h3 := Option.some.inj h3
      simp only at h1 h2 h3
      rw [h1] at hK
      have l70 : L 70 = true := hdep 70 (by simp [bldDep])
      refine ⟨fun _ => ?_, fun hw => by rw [wanted_none h3] at hw; cases hw⟩
      refine wp_moveG _ h2 _ (show Act.at b 108 = .bool true from hc.v 70 l70 _ rfl) ?_
      rw [h1]
      exact hK _ _ (FlatC.step bld_nd (bld_ks kSc kSk) rfl hc 71 (by decide) (Below.refl _ _) (fun u hu => by injection hu with hu; injection hu) (trivial))
    · have h1 : (bldOps[72]?).map (·.dst) = some (some 110) := by kernel_rfl
      have h2 : (bldOps[72]?).map (·.op) = some (Op.pick (Operand.tmp 109) (Operand.const (Value.bool true)) (Operand.const (Value.bool false))) := by kernel_rfl
      have h3 : (bldOps[72]?).map (·.guard) = some none := by kernel_rfl
      rw [ho] at h1 h2 h3
      replace h1 := Option.some.inj h1
      replace h2 := Option.some.inj h2
      replace h3 := Option.some.inj h3
      simp only at h1 h2 h3
      rw [h1] at hK
      have l71 : L 71 = true := hdep 71 (by simp [bldDep])
      refine ⟨fun _ => ?_, fun hw => by rw [wanted_none h3] at hw; cases hw⟩
      refine wp_pickG _ _ _ h2 true (show Act.at b 109 = .bool true from hc.v 71 l71 _ rfl) _ (if_pos rfl |>.trans rfl) ?_
      rw [h1]
      exact hK _ _ (FlatC.step bld_nd (bld_ks kSc kSk) rfl hc 72 (by decide) (Below.refl _ _) (fun u hu => by injection hu with hu; injection hu) (trivial))
    · have h1 : (bldOps[73]?).map (·.dst) = some (some 0) := by kernel_rfl
      have h2 : (bldOps[73]?).map (·.op) = some (Op.assign (Operand.tmp 110)) := by kernel_rfl
      have h3 : (bldOps[73]?).map (·.guard) = some none := by kernel_rfl
      rw [ho] at h1 h2 h3
      replace h1 := Option.some.inj h1
      replace h2 := Option.some.inj h2
      replace h3 := Option.some.inj h3
      simp only at h1 h2 h3
      rw [h1] at hK
      have l72 : L 72 = true := hdep 72 (by simp [bldDep])
      refine ⟨fun _ => ?_, fun hw => by rw [wanted_none h3] at hw; cases hw⟩
      refine wp_assignG _ h2 _ (show Act.at b 110 = .bool true from hc.v 72 l72 _ rfl) ?_
      rw [h1]
      exact hK _ _ (FlatC.step bld_nd (bld_ks kSc kSk) rfl hc 73 (by decide) (Below.refl _ _) (fun u hu => by injection hu with hu; injection hu) (trivial))
  · rintro L b w hL hd hs hf hc
    have hsz2 : bldOps.size = 74 := rfl
    rw [hsz2] at hL
    have e := act_eq (a := A0) (b := b) (bldUs (Act.at b)) hd hs hf (by
      intro p hp
      simp only [bldUs, List.mem_cons, List.not_mem_nil, or_false] at hp
      rcases hp with rfl | rfl | rfl | rfl | rfl | rfl | rfl | rfl | rfl | rfl | rfl | rfl | rfl | rfl | rfl | rfl | rfl | rfl | rfl | rfl | rfl | rfl | rfl | rfl | rfl | rfl | rfl | rfl | rfl | rfl | rfl | rfl | rfl | rfl | rfl | rfl | rfl | rfl | rfl | rfl | rfl | rfl | rfl | rfl | rfl | rfl | rfl | rfl | rfl | rfl | rfl | rfl | rfl | rfl | rfl | rfl | rfl | rfl | rfl | rfl | rfl | rfl | rfl | rfl | rfl | rfl | rfl | rfl | rfl | rfl | rfl | rfl | rfl | rfl <;> rfl) (by rw [show (bldUs (Act.at b)).map (·.1) = [38, 39, 40, 41, 42, 43, 44, 45, 46, 47, 48, 49, 50, 51, 52, 53, 54, 55, 56, 57, 58, 59, 60, 61, 62, 63, 64, 65, 66, 67, 68, 69, 70, 71, 72, 73, 74, 75, 76, 77, 78, 79, 80, 81, 82, 83, 84, 85, 86, 87, 88, 89, 90, 91, 92, 93, 94, 95, 96, 97, 98, 99, 100, 101, 102, 103, 104, 105, 106, 107, 108, 109, 110, 0] from rfl]; decide)
    rw [e]
    exact hk (Act.at b) w (hc.v 73 (hL 73 (by omega)) _ rfl) ⟨hc.bel.os, hc.bel.tape, hc.bel.output, hc.bel.size, hc.bel.block⟩
end Go.Proofs.Ythjfhenldkihkaa
