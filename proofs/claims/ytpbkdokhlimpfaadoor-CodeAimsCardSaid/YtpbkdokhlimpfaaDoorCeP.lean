/- code: CodeAims' last statement, in open order. -/
import Derived.Test.YtpbkdokhlimpfaaDoorCeN
import Derived.Test.YtpbkdokhlimpfaaDoorWCdC
namespace Go.Proofs.YtpbkdokhlimpfaaDoor
set_option linter.unusedSimpArgs false
set_option linter.unusedVariables false
open Go.RowKit

/-- A row of strings of one's own, whenever it was made. -/
def Sd (l : List ByteArray) (v : Value) (w : World) : Prop := ∃ w0 A n c, v = .slice A n c ∧ StrS w0 l A n c w
theorem Sd.keep (l : List ByteArray) (v : Value) (w w' : World) (h : Sd l v w) (hb : Below w.heap.size w w') : Sd l v w' := by
  obtain ⟨w0, A, n, c, e, h⟩ := h
  exact ⟨w0, A, n, c, e, h.keep hb⟩
theorem eql_strs (x : ByteArray) (w : World) : (binOp .eql 9 (.string x) (.string x)).run Tryd.prog w = .ok (.bool true) w := by
  go_simp
theorem eql_flt (c p : Int) (w : World) : (binOp .eql 29 (.agg #[.int .i64 c, .int .i64 p]) (.agg #[.int .i64 c, .int .i64 p])).run Tryd.prog w = .ok (.bool true) w := by
  have h := run_fte c p w
  go_simp
theorem field_0F (g : Nat) (w : World) : (Instr.fieldAt 29 (.pointer (some ⟨g, 0, none⟩)) 0).run Tryd.prog w = .ok (.pointer (some ⟨g, 0, none⟩)) w := by kernel_rfl
theorem load_eF {g : Nat} {c : Int} {w : World} (h : w.cell? ⟨g, 0, none⟩ = some (.int .i64 c)) : (Instr.loadAt 27 (.pointer (some ⟨g, 0, none⟩))).run Tryd.prog w = .ok (.int .i64 c) w := by
  go_simp
theorem neq_e0 {c : Int} (h : c = 0) (w : World) : (binOp .neq 27 (.int .i64 c) (.int .i64 0)).run Tryd.prog w = .ok (.bool false) w := by
  subst h
  kernel_rfl
theorem neq_e1 {c : Int} (h : c ≠ 0) (w : World) : (binOp .neq 27 (.int .i64 c) (.int .i64 0)).run Tryd.prog w = .ok (.bool true) w := by
  have hb : (c == 0) = false := by simpa using h
  go_simp
def m39aOps : Array Oper := #[{ dst := some 132, op := Op.load 29 (Operand.tmp 16), type := 29, pos := "law.go:182", after := #[], guard := none }, { dst := some 133, op := Op.load 24 (Operand.tmp 13), type := 24, pos := "law.go:182", after := #[], guard := none }, { dst := some 134, op := Op.call { callee := Callee.value (Operand.func 10), args := #[Operand.tmp 133], argTypes := #[24] }, type := 29, pos := "law.go:182", after := #[{ on := 1, ground := Ground.data }], guard := none }, { dst := some 135, op := Op.binOp BinOp.eql 29 (Operand.tmp 132) (Operand.tmp 134) 29, type := 4, pos := "law.go:182", after := #[{ on := 0, ground := Ground.data }, { on := 2, ground := Ground.data }], guard := none }, { dst := some 136, op := Op.move (Operand.tmp 135), type := 4, pos := "law.go:182", after := #[{ on := 3, ground := Ground.data }, { on := 2, ground := Ground.chain }], guard := none }, { dst := some 137, op := Op.load 29 (Operand.tmp 18), type := 29, pos := "law.go:182", after := #[{ on := 4, ground := Ground.guard }], guard := some (4, true) }, { dst := some 138, op := Op.load 24 (Operand.tmp 14), type := 24, pos := "law.go:182", after := #[{ on := 4, ground := Ground.guard }], guard := some (4, true) }, { dst := some 139, op := Op.call { callee := Callee.value (Operand.func 10), args := #[Operand.tmp 138], argTypes := #[24] }, type := 29, pos := "law.go:182", after := #[{ on := 6, ground := Ground.data }, { on := 4, ground := Ground.chain }, { on := 4, ground := Ground.guard }], guard := some (4, true) }, { dst := some 140, op := Op.binOp BinOp.eql 29 (Operand.tmp 137) (Operand.tmp 139) 29, type := 4, pos := "law.go:182", after := #[{ on := 5, ground := Ground.data }, { on := 7, ground := Ground.data }, { on := 4, ground := Ground.guard }], guard := some (4, true) }, { dst := some 141, op := Op.pick (Operand.tmp 136) (Operand.tmp 140) (Operand.const (Value.bool false)), type := 4, pos := "law.go:182", after := #[{ on := 4, ground := Ground.data }, { on := 8, ground := Ground.data }], guard := none }, { dst := some 142, op := Op.move (Operand.tmp 141), type := 4, pos := "law.go:182", after := #[{ on := 9, ground := Ground.data }, { on := 7, ground := Ground.chain }], guard := none }, { dst := some 143, op := Op.fieldAddr 29 (Operand.tmp 16) 0, type := 0, pos := "law.go:182", after := #[{ on := 10, ground := Ground.guard }], guard := some (10, true) }, { dst := some 144, op := Op.load 27 (Operand.tmp 143), type := 27, pos := "law.go:182", after := #[{ on := 11, ground := Ground.data }, { on := 10, ground := Ground.guard }], guard := some (10, true) }, { dst := some 145, op := Op.binOp BinOp.neq 27 (Operand.tmp 144) (Operand.const (Value.int IntKind.i64 0)) 27, type := 4, pos := "law.go:182", after := #[{ on := 12, ground := Ground.data }, { on := 10, ground := Ground.guard }], guard := some (10, true) }, { dst := some 146, op := Op.move (Operand.tmp 145), type := 4, pos := "law.go:182", after := #[{ on := 13, ground := Ground.data }, { on := 10, ground := Ground.chain }, { on := 10, ground := Ground.guard }], guard := some (10, true) }, { dst := some 147, op := Op.load 24 (Operand.tmp 15), type := 24, pos := "law.go:182", after := #[{ on := 14, ground := Ground.guard }], guard := some (14, false) }, { dst := some 148, op := Op.call { callee := Callee.value (Operand.func 18), args := #[Operand.tmp 147], argTypes := #[24] }, type := 43, pos := "law.go:182", after := #[{ on := 15, ground := Ground.data }, { on := 14, ground := Ground.chain }, { on := 14, ground := Ground.guard }], guard := some (14, false) }, { dst := some 149, op := Op.call { callee := Callee.value (Operand.func 17), args := #[Operand.tmp 148, Operand.const (Value.string { data := #[44] })], argTypes := #[43, 9] }, type := 9, pos := "law.go:182", after := #[{ on := 16, ground := Ground.data }, { on := 16, ground := Ground.chain }, { on := 14, ground := Ground.guard }], guard := some (14, false) }, { dst := some 150, op := Op.load 24 (Operand.tmp 13), type := 24, pos := "law.go:182", after := #[{ on := 14, ground := Ground.guard }], guard := some (14, false) }, { dst := some 151, op := Op.call { callee := Callee.value (Operand.func 18), args := #[Operand.tmp 150], argTypes := #[24] }, type := 43, pos := "law.go:182", after := #[{ on := 18, ground := Ground.data }, { on := 17, ground := Ground.chain }, { on := 14, ground := Ground.guard }], guard := some (14, false) }, { dst := some 152, op := Op.call { callee := Callee.value (Operand.func 17), args := #[Operand.tmp 151, Operand.const (Value.string { data := #[44] })], argTypes := #[43, 9] }, type := 9, pos := "law.go:182", after := #[{ on := 19, ground := Ground.data }, { on := 19, ground := Ground.chain }, { on := 14, ground := Ground.guard }], guard := some (14, false) }, { dst := some 153, op := Op.binOp BinOp.eql 9 (Operand.tmp 149) (Operand.tmp 152) 9, type := 4, pos := "law.go:182", after := #[{ on := 17, ground := Ground.data }, { on := 20, ground := Ground.data }, { on := 14, ground := Ground.guard }], guard := some (14, false) }, { dst := some 154, op := Op.pick (Operand.tmp 146) (Operand.const (Value.bool true)) (Operand.tmp 153), type := 4, pos := "law.go:182", after := #[{ on := 14, ground := Ground.data }, { on := 21, ground := Ground.data }, { on := 10, ground := Ground.guard }], guard := some (10, true) }, { dst := some 155, op := Op.pick (Operand.tmp 142) (Operand.tmp 154) (Operand.const (Value.bool false)), type := 4, pos := "law.go:182", after := #[{ on := 10, ground := Ground.data }, { on := 22, ground := Ground.data }], guard := none }, { dst := some 156, op := Op.move (Operand.tmp 155), type := 4, pos := "law.go:182", after := #[{ on := 23, ground := Ground.data }, { on := 20, ground := Ground.chain }], guard := none }, { dst := some 157, op := Op.fieldAddr 29 (Operand.tmp 18) 0, type := 0, pos := "law.go:182", after := #[{ on := 24, ground := Ground.guard }], guard := some (24, true) }, { dst := some 158, op := Op.load 27 (Operand.tmp 157), type := 27, pos := "law.go:182", after := #[{ on := 25, ground := Ground.data }, { on := 24, ground := Ground.guard }], guard := some (24, true) }, { dst := some 159, op := Op.binOp BinOp.neq 27 (Operand.tmp 158) (Operand.const (Value.int IntKind.i64 0)) 27, type := 4, pos := "law.go:182", after := #[{ on := 26, ground := Ground.data }, { on := 24, ground := Ground.guard }], guard := some (24, true) }, { dst := some 160, op := Op.move (Operand.tmp 159), type := 4, pos := "law.go:182", after := #[{ on := 27, ground := Ground.data }, { on := 24, ground := Ground.chain }, { on := 24, ground := Ground.guard }], guard := some (24, true) }, { dst := some 161, op := Op.load 24 (Operand.tmp 17), type := 24, pos := "law.go:182", after := #[{ on := 28, ground := Ground.guard }], guard := some (28, false) }, { dst := some 162, op := Op.call { callee := Callee.value (Operand.func 18), args := #[Operand.tmp 161], argTypes := #[24] }, type := 43, pos := "law.go:182", after := #[{ on := 29, ground := Ground.data }, { on := 28, ground := Ground.chain }, { on := 28, ground := Ground.guard }], guard := some (28, false) }, { dst := some 163, op := Op.call { callee := Callee.value (Operand.func 17), args := #[Operand.tmp 162, Operand.const (Value.string { data := #[44] })], argTypes := #[43, 9] }, type := 9, pos := "law.go:182", after := #[{ on := 30, ground := Ground.data }, { on := 30, ground := Ground.chain }, { on := 28, ground := Ground.guard }], guard := some (28, false) }, { dst := some 164, op := Op.load 24 (Operand.tmp 14), type := 24, pos := "law.go:182", after := #[{ on := 28, ground := Ground.guard }], guard := some (28, false) }, { dst := some 165, op := Op.call { callee := Callee.value (Operand.func 18), args := #[Operand.tmp 164], argTypes := #[24] }, type := 43, pos := "law.go:182", after := #[{ on := 32, ground := Ground.data }, { on := 31, ground := Ground.chain }, { on := 28, ground := Ground.guard }], guard := some (28, false) }, { dst := some 166, op := Op.call { callee := Callee.value (Operand.func 17), args := #[Operand.tmp 165, Operand.const (Value.string { data := #[44] })], argTypes := #[43, 9] }, type := 9, pos := "law.go:182", after := #[{ on := 33, ground := Ground.data }, { on := 33, ground := Ground.chain }, { on := 28, ground := Ground.guard }], guard := some (28, false) }, { dst := some 167, op := Op.binOp BinOp.eql 9 (Operand.tmp 163) (Operand.tmp 166) 9, type := 4, pos := "law.go:182", after := #[{ on := 31, ground := Ground.data }, { on := 34, ground := Ground.data }, { on := 28, ground := Ground.guard }], guard := some (28, false) }, { dst := some 168, op := Op.pick (Operand.tmp 160) (Operand.const (Value.bool true)) (Operand.tmp 167), type := 4, pos := "law.go:182", after := #[{ on := 28, ground := Ground.data }, { on := 35, ground := Ground.data }, { on := 24, ground := Ground.guard }], guard := some (24, true) }, { dst := some 169, op := Op.pick (Operand.tmp 156) (Operand.tmp 168) (Operand.const (Value.bool false)), type := 4, pos := "law.go:182", after := #[{ on := 24, ground := Ground.data }, { on := 36, ground := Ground.data }], guard := none }, { dst := some 6, op := Op.assign (Operand.tmp 169), type := 4, pos := "law.go:182", after := #[{ on := 37, ground := Ground.data }, { on := 34, ground := Ground.chain }, { on := 0, ground := Ground.phase }, { on := 1, ground := Ground.phase }, { on := 2, ground := Ground.phase }, { on := 3, ground := Ground.phase }, { on := 4, ground := Ground.phase }, { on := 5, ground := Ground.phase }, { on := 6, ground := Ground.phase }, { on := 7, ground := Ground.phase }, { on := 8, ground := Ground.phase }, { on := 9, ground := Ground.phase }, { on := 10, ground := Ground.phase }, { on := 11, ground := Ground.phase }, { on := 12, ground := Ground.phase }, { on := 13, ground := Ground.phase }, { on := 14, ground := Ground.phase }, { on := 15, ground := Ground.phase }, { on := 16, ground := Ground.phase }, { on := 17, ground := Ground.phase }, { on := 18, ground := Ground.phase }, { on := 19, ground := Ground.phase }, { on := 20, ground := Ground.phase }, { on := 21, ground := Ground.phase }, { on := 22, ground := Ground.phase }, { on := 23, ground := Ground.phase }, { on := 24, ground := Ground.phase }, { on := 25, ground := Ground.phase }, { on := 26, ground := Ground.phase }, { on := 27, ground := Ground.phase }, { on := 28, ground := Ground.phase }, { on := 29, ground := Ground.phase }, { on := 30, ground := Ground.phase }, { on := 31, ground := Ground.phase }, { on := 32, ground := Ground.phase }, { on := 33, ground := Ground.phase }, { on := 34, ground := Ground.phase }, { on := 35, ground := Ground.phase }, { on := 36, ground := Ground.phase }, { on := 37, ground := Ground.phase }], guard := none }]
def m39aDep : Nat → List Nat := fun i => match i with | 2 => [1] | 3 => [0, 2] | 4 => [3] | 5 => [4] | 6 => [4] | 7 => [4, 6] | 8 => [4, 5, 7] | 9 => [4, 8] | 10 => [9] | 11 => [10] | 12 => [10, 11] | 13 => [10, 12] | 14 => [10, 13] | 15 => [14] | 16 => [14, 15] | 17 => [14, 16] | 18 => [14] | 19 => [14, 18] | 20 => [14, 19] | 21 => [14, 17, 20] | 22 => [10, 14, 21] | 23 => [10, 22] | 24 => [23] | 25 => [24] | 26 => [24, 25] | 27 => [24, 26] | 28 => [24, 27] | 29 => [28] | 30 => [28, 29] | 31 => [28, 30] | 32 => [28] | 33 => [28, 32] | 34 => [28, 33] | 35 => [28, 31, 34] | 36 => [24, 28, 35] | 37 => [24, 36] | 38 => [37] | _ => []
def m39aSl : List Nat := [132, 133, 134, 135, 136, 137, 138, 139, 140, 141, 142, 143, 144, 145, 146, 147, 148, 149, 150, 151, 152, 153, 154, 155, 156, 157, 158, 159, 160, 161, 162, 163, 164, 165, 166, 167, 168, 169, 6]
def m39aVs (gA : Nat) (gB : Nat) (gx : Nat) (gf : Nat) (gy : Nat) (gh : Nat) (ta : PT) (tb : PT) (tx : PT) (ty : PT) (r1 : Int) (s1 : Int) (r2 : Int) (s2 : Int) (JX : ByteArray) (JY : ByteArray) : List (Option Value) := [some (.agg #[.int .i64 r1, .int .i64 s1]), some (.agg ta.cells.toArray), some (.agg #[.int .i64 r1, .int .i64 s1]), some (.bool true), some (.bool true), some (.agg #[.int .i64 r2, .int .i64 s2]), some (.agg tb.cells.toArray), some (.agg #[.int .i64 r2, .int .i64 s2]), some (.bool true), some (.bool true), some (.bool true), some (.pointer (some ⟨gf, 0, none⟩)), some (.int .i64 r1), some (.bool false), some (.bool false), some (.agg tx.cells.toArray), none, some (Value.string JX), some (.agg ta.cells.toArray), none, some (Value.string JX), some (.bool true), some (.bool true), some (.bool true), some (.bool true), some (.pointer (some ⟨gh, 0, none⟩)), some (.int .i64 r2), some (.bool false), some (.bool false), some (.agg ty.cells.toArray), none, some (Value.string JY), some (.agg tb.cells.toArray), none, some (Value.string JY), some (.bool true), some (.bool true), some (.bool true), some (.bool true)]
def m39aSp (SX : Value → World → Prop) (SA : Value → World → Prop) (SY : Value → World → Prop) (SB : Value → World → Prop) (i : Nat) : Value → World → Prop := match i with | 16 => SX | 19 => SA | 30 => SY | 33 => SB | _ => fun _ _ => True
theorem m39a_ks {SX : Value → World → Prop} {SA : Value → World → Prop} {SY : Value → World → Prop} {SB : Value → World → Prop} (kSX : ∀ v w w', SX v w → Below w.heap.size w w' → SX v w') (kSA : ∀ v w w', SA v w → Below w.heap.size w w' → SA v w') (kSY : ∀ v w w', SY v w → Below w.heap.size w w' → SY v w') (kSB : ∀ v w w', SB v w → Below w.heap.size w w' → SB v w') : ∀ i v w w', m39aSp SX SA SY SB i v w → Below w.heap.size w w' → m39aSp SX SA SY SB i v w' := by
  intro i v w w' h hb
  unfold m39aSp at h ⊢
  split <;> first | trivial | exact kSX _ _ _ h hb | exact kSA _ _ _ h hb | exact kSY _ _ _ h hb | exact kSB _ _ _ h hb
theorem m39a_nd : m39aSl.Nodup := by decide
def m39aUs (f : Nat → Value) : List (Nat × Value) := [(132, f 132), (133, f 133), (134, f 134), (135, f 135), (136, f 136), (137, f 137), (138, f 138), (139, f 139), (140, f 140), (141, f 141), (142, f 142), (143, f 143), (144, f 144), (145, f 145), (146, f 146), (147, f 147), (148, f 148), (149, f 149), (150, f 150), (151, f 151), (152, f 152), (153, f 153), (154, f 154), (155, f 155), (156, f 156), (157, f 157), (158, f 158), (159, f 159), (160, f 160), (161, f 161), (162, f 162), (163, f 163), (164, f 164), (165, f 165), (166, f 166), (167, f 167), (168, f 168), (169, f 169), (6, f 6)]
set_option maxRecDepth 20000 in
set_option maxHeartbeats 4000000 in
theorem m39a_reg {gA : Nat} {gB : Nat} {gx : Nat} {gf : Nat} {gy : Nat} {gh : Nat} {ta : PT} {tb : PT} {tx : PT} {ty : PT} {r1 : Int} {s1 : Int} {r2 : Int} {s2 : Int} {JX : ByteArray} {JY : ByteArray} {SX : Value → World → Prop} {SA : Value → World → Prop} {SY : Value → World → Prop} {SB : Value → World → Prop} {W : World} {A0 : Act} {Q : Exit → Act → World → Prop} {id : Nat} (a13 : Act.at A0 13 = .pointer (some ⟨gA, 0, none⟩)) (a14 : Act.at A0 14 = .pointer (some ⟨gB, 0, none⟩)) (a15 : Act.at A0 15 = .pointer (some ⟨gx, 0, none⟩)) (a16 : Act.at A0 16 = .pointer (some ⟨gf, 0, none⟩)) (a17 : Act.at A0 17 = .pointer (some ⟨gy, 0, none⟩)) (a18 : Act.at A0 18 = .pointer (some ⟨gh, 0, none⟩)) (hsz : 170 ≤ A0.tmps.size) (kSX : ∀ v w w', SX v w → Below w.heap.size w w' → SX v w') (kSA : ∀ v w w', SA v w → Below w.heap.size w w' → SA v w') (kSY : ∀ v w w', SY v w → Below w.heap.size w w' → SY v w') (kSB : ∀ v w w', SB v w → Below w.heap.size w w' → SB v w') (hK13 : BoxP W gA ta)
    (hK14 : BoxP W gB tb)
    (hK15 : BoxP W gx tx)
    (hK16 : Blk W gf 29 [.int .i64 r1, .int .i64 s1])
    (hK17 : BoxP W gy ty)
    (hK18 : Blk W gh 29 [.int .i64 r2, .int .i64 s2])
    (HWa : ∀ w, Below W.heap.size W w → Calls Tryd.prog 10 #[.agg ta.cells.toArray] w fun e w' => ∃ v, e = .returned v ∧ v = .agg #[.int .i64 r1, .int .i64 s1] ∧ Below w.heap.size w w')
    (HWb : ∀ w, Below W.heap.size W w → Calls Tryd.prog 10 #[.agg tb.cells.toArray] w fun e w' => ∃ v, e = .returned v ∧ v = .agg #[.int .i64 r2, .int .i64 s2] ∧ Below w.heap.size w w')
    (HN1 : ∀ w, (binOp .neq 27 (.int .i64 r1) (.int .i64 0)).run Tryd.prog w = .ok (.bool false) w)
    (HN2 : ∀ w, (binOp .neq 27 (.int .i64 r2) (.int .i64 0)).run Tryd.prog w = .ok (.bool false) w)
    (HLx : ∀ w, Below W.heap.size W w → Calls Tryd.prog 18 #[.agg tx.cells.toArray] w fun e w' => ∃ v, e = .returned v ∧ SX v w' ∧ Below w.heap.size w w')
    (HJx : ∀ u w, SX u w → Below W.heap.size W w → Calls Tryd.prog 17 #[u, Value.string { data := #[44] }] w fun e w' => ∃ v, e = .returned v ∧ v = Value.string JX ∧ Below w.heap.size w w')
    (HLa : ∀ w, Below W.heap.size W w → Calls Tryd.prog 18 #[.agg ta.cells.toArray] w fun e w' => ∃ v, e = .returned v ∧ SA v w' ∧ Below w.heap.size w w')
    (HJa : ∀ u w, SA u w → Below W.heap.size W w → Calls Tryd.prog 17 #[u, Value.string { data := #[44] }] w fun e w' => ∃ v, e = .returned v ∧ v = Value.string JX ∧ Below w.heap.size w w')
    (HLy : ∀ w, Below W.heap.size W w → Calls Tryd.prog 18 #[.agg ty.cells.toArray] w fun e w' => ∃ v, e = .returned v ∧ SY v w' ∧ Below w.heap.size w w')
    (HJy : ∀ u w, SY u w → Below W.heap.size W w → Calls Tryd.prog 17 #[u, Value.string { data := #[44] }] w fun e w' => ∃ v, e = .returned v ∧ v = Value.string JY ∧ Below w.heap.size w w')
    (HLb : ∀ w, Below W.heap.size W w → Calls Tryd.prog 18 #[.agg tb.cells.toArray] w fun e w' => ∃ v, e = .returned v ∧ SB v w' ∧ Below w.heap.size w w')
    (HJb : ∀ u w, SB u w → Below W.heap.size W w → Calls Tryd.prog 17 #[u, Value.string { data := #[44] }] w fun e w' => ∃ v, e = .returned v ∧ v = Value.string JY ∧ Below w.heap.size w w')
    (hk : ∀ (f : Nat → Value) w', f 6 = .bool true → Below W.heap.size W w' → Q .normal ⟨(m39aUs f).foldl (fun A p => A.setIfInBounds p.1 p.2) A0.tmps, A0.defers⟩ w') :
    (Code.region id m39aOps true).wp Tryd.prog Q A0 W := by
  refine wp_region_fun3 (by kernel_rfl) (fun L f w => FlatC W.drew m39aSl (m39aVs gA gB gx gf gy gh ta tb tx ty r1 s1 r2 s2 JX JY) (m39aSp SX SA SY SB) L f w) [132, 133, 134, 135, 136, 137, 138, 139, 140, 141, 142, 143, 144, 145, 146, 147, 148, 149, 150, 151, 152, 153, 154, 155, 156, 157, 158, 159, 160, 161, 162, 163, 164, 165, 166, 167, 168, 169, 6] (fun i o ho => (wf_ops3 (ops := m39aOps) (by kernel_rfl)) i o ho) (fun i o ho u hu => ?_) ?_ ?_ ?_
  · have := ops_dst [132, 133, 134, 135, 136, 137, 138, 139, 140, 141, 142, 143, 144, 145, 146, 147, 148, 149, 150, 151, 152, 153, 154, 155, 156, 157, 158, 159, 160, 161, 162, 163, 164, 165, 166, 167, 168, 169, 6] 170 (by kernel_rfl) i o ho u hu
    exact ⟨this.1, Nat.lt_of_lt_of_le this.2 hsz⟩
  · have hs : m39aOps.size = 39 := rfl
    rw [hs]
    exact FlatC.start rfl rfl
  · rintro L i o ho hLi haf b w hf hc K hK
    have hdep := ops_deps m39aDep (by kernel_rfl) ho haf
    clear haf
    have hbw : Below W.heap.size W w := ⟨hc.bel.os, hc.bel.tape, hc.bel.output, hc.bel.size, hc.bel.block⟩
    have hs : m39aOps.size = 39 := rfl
    have hlt : i < 39 := hs ▸ (Array.getElem?_eq_some_iff.1 ho).1
    have hcases : i = 0 ∨ i = 1 ∨ i = 2 ∨ i = 3 ∨ i = 4 ∨ i = 5 ∨ i = 6 ∨ i = 7 ∨ i = 8 ∨ i = 9 ∨ i = 10 ∨ i = 11 ∨ i = 12 ∨ i = 13 ∨ i = 14 ∨ i = 15 ∨ i = 16 ∨ i = 17 ∨ i = 18 ∨ i = 19 ∨ i = 20 ∨ i = 21 ∨ i = 22 ∨ i = 23 ∨ i = 24 ∨ i = 25 ∨ i = 26 ∨ i = 27 ∨ i = 28 ∨ i = 29 ∨ i = 30 ∨ i = 31 ∨ i = 32 ∨ i = 33 ∨ i = 34 ∨ i = 35 ∨ i = 36 ∨ i = 37 ∨ i = 38 := by omega
    clear hlt
    rcases hcases with rfl | rfl | rfl | rfl | rfl | rfl | rfl | rfl | rfl | rfl | rfl | rfl | rfl | rfl | rfl | rfl | rfl | rfl | rfl | rfl | rfl | rfl | rfl | rfl | rfl | rfl | rfl | rfl | rfl | rfl | rfl | rfl | rfl | rfl | rfl | rfl | rfl | rfl | rfl
    · have h1 : (m39aOps[0]?).map (·.dst) = some (some 132) := by kernel_rfl
      have h2 : (m39aOps[0]?).map (·.op) = some (Op.load 29 (Operand.tmp 16)) := by kernel_rfl
      have h3 : (m39aOps[0]?).map (·.guard) = some none := by kernel_rfl
      rw [ho] at h1 h2 h3
      replace h1 := Option.some.inj h1
      replace h2 := Option.some.inj h2
      replace h3 := Option.some.inj h3
      simp only at h1 h2 h3
      rw [h1] at hK
      refine ⟨fun _ => ?_, fun hw => by rw [wanted_none h3] at hw; cases hw⟩
      refine wp_load_row 29 (.tmp 16) h2 gf ((hf 16 (by decide)).trans a16) 29 #[.int .i64 r1, .int .i64 s1] (0, 0) _ ((hbw.block gf hK16.lt).trans hK16) Tryd.underlying29 rfl rfl ?_
      rw [h1]
      exact hK _ _ (FlatC.step m39a_nd (m39a_ks kSX kSA kSY kSB) rfl hc 0 (by decide) (Below.refl _ _) (fun u hu => by injection hu with hu; injection hu) (trivial))
    · have h1 : (m39aOps[1]?).map (·.dst) = some (some 133) := by kernel_rfl
      have h2 : (m39aOps[1]?).map (·.op) = some (Op.load 24 (Operand.tmp 13)) := by kernel_rfl
      have h3 : (m39aOps[1]?).map (·.guard) = some none := by kernel_rfl
      rw [ho] at h1 h2 h3
      replace h1 := Option.some.inj h1
      replace h2 := Option.some.inj h2
      replace h3 := Option.some.inj h3
      simp only at h1 h2 h3
      rw [h1] at hK
      refine ⟨fun _ => ?_, fun hw => by rw [wanted_none h3] at hw; cases hw⟩
      refine wp_load_row 24 (.tmp 13) h2 gA ((hf 13 (by decide)).trans a13) 24 ta.cells.toArray (0, 0) _ ((hbw.block gA hK13.lt).trans hK13) Tryd.underlying24 rfl rfl ?_
      rw [h1]
      exact hK _ _ (FlatC.step m39a_nd (m39a_ks kSX kSA kSY kSB) rfl hc 1 (by decide) (Below.refl _ _) (fun u hu => by injection hu with hu; injection hu) (trivial))
    · have h1 : (m39aOps[2]?).map (·.dst) = some (some 134) := by kernel_rfl
      have h2 : (m39aOps[2]?).map (·.op) = some (Op.call { callee := Callee.value (Operand.func 10), args := #[Operand.tmp 133], argTypes := #[24] }) := by kernel_rfl
      have h3 : (m39aOps[2]?).map (·.guard) = some none := by kernel_rfl
      rw [ho] at h1 h2 h3
      replace h1 := Option.some.inj h1
      replace h2 := Option.some.inj h2
      replace h3 := Option.some.inj h3
      simp only at h1 h2 h3
      rw [h1] at hK
      have l1 : L 1 = true := hdep 1 (by simp [m39aDep])
      refine ⟨fun _ => ?_, fun hw => by rw [wanted_none h3] at hw; cases hw⟩
      refine wp_callG 10 _ _ h2 (enters_of Tryd.func10 (by kernel_rfl) rfl) #[.agg ta.cells.toArray] (by simp [show b.eval (.tmp 133) = _ from (show Act.at b 133 = .agg ta.cells.toArray from hc.v 1 l1 _ rfl)]) _ (HWa w hbw) ?_
      rintro v w2 ⟨rfl, hb2⟩
      rw [h1]
      exact hK _ _ (FlatC.step m39a_nd (m39a_ks kSX kSA kSY kSB) rfl hc 2 (by decide) (hb2) (fun u hu => by injection hu with hu; injection hu) (trivial))
    · have h1 : (m39aOps[3]?).map (·.dst) = some (some 135) := by kernel_rfl
      have h2 : (m39aOps[3]?).map (·.op) = some (Op.binOp BinOp.eql 29 (Operand.tmp 132) (Operand.tmp 134) 29) := by kernel_rfl
      have h3 : (m39aOps[3]?).map (·.guard) = some none := by kernel_rfl
      rw [ho] at h1 h2 h3
      replace h1 := Option.some.inj h1
      replace h2 := Option.some.inj h2
      replace h3 := Option.some.inj h3
      simp only at h1 h2 h3
      rw [h1] at hK
      have l0 : L 0 = true := hdep 0 (by simp [m39aDep])
      have l2 : L 2 = true := hdep 2 (by simp [m39aDep])
      refine ⟨fun _ => ?_, fun hw => by rw [wanted_none h3] at hw; cases hw⟩
      refine wp_binG _ _ _ _ _ h2 _ _ (.bool true) (show Act.at b 132 = .agg #[.int .i64 r1, .int .i64 s1] from hc.v 0 l0 _ rfl) (show Act.at b 134 = .agg #[.int .i64 r1, .int .i64 s1] from hc.v 2 l2 _ rfl) (by kernel_rfl) (eql_flt r1 s1 w) ?_
      rw [h1]
      exact hK _ _ (FlatC.step m39a_nd (m39a_ks kSX kSA kSY kSB) rfl hc 3 (by decide) (Below.refl _ _) (fun u hu => by injection hu with hu; injection hu) (trivial))
    · have h1 : (m39aOps[4]?).map (·.dst) = some (some 136) := by kernel_rfl
      have h2 : (m39aOps[4]?).map (·.op) = some (Op.move (Operand.tmp 135)) := by kernel_rfl
      have h3 : (m39aOps[4]?).map (·.guard) = some none := by kernel_rfl
      rw [ho] at h1 h2 h3
      replace h1 := Option.some.inj h1
      replace h2 := Option.some.inj h2
      replace h3 := Option.some.inj h3
      simp only at h1 h2 h3
      rw [h1] at hK
      have l3 : L 3 = true := hdep 3 (by simp [m39aDep])
      refine ⟨fun _ => ?_, fun hw => by rw [wanted_none h3] at hw; cases hw⟩
      refine wp_moveG _ h2 _ (show Act.at b 135 = .bool true from hc.v 3 l3 _ rfl) ?_
      rw [h1]
      exact hK _ _ (FlatC.step m39a_nd (m39a_ks kSX kSA kSY kSB) rfl hc 4 (by decide) (Below.refl _ _) (fun u hu => by injection hu with hu; injection hu) (trivial))
    · have h1 : (m39aOps[5]?).map (·.dst) = some (some 137) := by kernel_rfl
      have h2 : (m39aOps[5]?).map (·.op) = some (Op.load 29 (Operand.tmp 18)) := by kernel_rfl
      have h3 : (m39aOps[5]?).map (·.guard) = some (some (4, true)) := by kernel_rfl
      rw [ho] at h1 h2 h3
      replace h1 := Option.some.inj h1
      replace h2 := Option.some.inj h2
      replace h3 := Option.some.inj h3
      simp only at h1 h2 h3
      rw [h1] at hK
      have l4 : L 4 = true := hdep 4 (by simp [m39aDep])
      have hw := wanted_of (ops := m39aOps) (b := b) h3 (d := 136) (by kernel_rfl) (show Act.at b 136 = .bool true from hc.v 4 l4 _ rfl)
      rw [hw]
      refine ⟨fun _ => ?_, fun hq => absurd hq (by decide)⟩
      refine wp_load_row 29 (.tmp 18) h2 gh ((hf 18 (by decide)).trans a18) 29 #[.int .i64 r2, .int .i64 s2] (0, 0) _ ((hbw.block gh hK18.lt).trans hK18) Tryd.underlying29 rfl rfl ?_
      rw [h1]
      exact hK _ _ (FlatC.step m39a_nd (m39a_ks kSX kSA kSY kSB) rfl hc 5 (by decide) (Below.refl _ _) (fun u hu => by injection hu with hu; injection hu) (trivial))
    · have h1 : (m39aOps[6]?).map (·.dst) = some (some 138) := by kernel_rfl
      have h2 : (m39aOps[6]?).map (·.op) = some (Op.load 24 (Operand.tmp 14)) := by kernel_rfl
      have h3 : (m39aOps[6]?).map (·.guard) = some (some (4, true)) := by kernel_rfl
      rw [ho] at h1 h2 h3
      replace h1 := Option.some.inj h1
      replace h2 := Option.some.inj h2
      replace h3 := Option.some.inj h3
      simp only at h1 h2 h3
      rw [h1] at hK
      have l4 : L 4 = true := hdep 4 (by simp [m39aDep])
      have hw := wanted_of (ops := m39aOps) (b := b) h3 (d := 136) (by kernel_rfl) (show Act.at b 136 = .bool true from hc.v 4 l4 _ rfl)
      rw [hw]
      refine ⟨fun _ => ?_, fun hq => absurd hq (by decide)⟩
      refine wp_load_row 24 (.tmp 14) h2 gB ((hf 14 (by decide)).trans a14) 24 tb.cells.toArray (0, 0) _ ((hbw.block gB hK14.lt).trans hK14) Tryd.underlying24 rfl rfl ?_
      rw [h1]
      exact hK _ _ (FlatC.step m39a_nd (m39a_ks kSX kSA kSY kSB) rfl hc 6 (by decide) (Below.refl _ _) (fun u hu => by injection hu with hu; injection hu) (trivial))
    · have h1 : (m39aOps[7]?).map (·.dst) = some (some 139) := by kernel_rfl
      have h2 : (m39aOps[7]?).map (·.op) = some (Op.call { callee := Callee.value (Operand.func 10), args := #[Operand.tmp 138], argTypes := #[24] }) := by kernel_rfl
      have h3 : (m39aOps[7]?).map (·.guard) = some (some (4, true)) := by kernel_rfl
      rw [ho] at h1 h2 h3
      replace h1 := Option.some.inj h1
      replace h2 := Option.some.inj h2
      replace h3 := Option.some.inj h3
      simp only at h1 h2 h3
      rw [h1] at hK
      have l4 : L 4 = true := hdep 4 (by simp [m39aDep])
      have l6 : L 6 = true := hdep 6 (by simp [m39aDep])
      have hw := wanted_of (ops := m39aOps) (b := b) h3 (d := 136) (by kernel_rfl) (show Act.at b 136 = .bool true from hc.v 4 l4 _ rfl)
      rw [hw]
      refine ⟨fun _ => ?_, fun hq => absurd hq (by decide)⟩
      refine wp_callG 10 _ _ h2 (enters_of Tryd.func10 (by kernel_rfl) rfl) #[.agg tb.cells.toArray] (by simp [show b.eval (.tmp 138) = _ from (show Act.at b 138 = .agg tb.cells.toArray from hc.v 6 l6 _ rfl)]) _ (HWb w hbw) ?_
      rintro v w2 ⟨rfl, hb2⟩
      rw [h1]
      exact hK _ _ (FlatC.step m39a_nd (m39a_ks kSX kSA kSY kSB) rfl hc 7 (by decide) (hb2) (fun u hu => by injection hu with hu; injection hu) (trivial))
    · have h1 : (m39aOps[8]?).map (·.dst) = some (some 140) := by kernel_rfl
      have h2 : (m39aOps[8]?).map (·.op) = some (Op.binOp BinOp.eql 29 (Operand.tmp 137) (Operand.tmp 139) 29) := by kernel_rfl
      have h3 : (m39aOps[8]?).map (·.guard) = some (some (4, true)) := by kernel_rfl
      rw [ho] at h1 h2 h3
      replace h1 := Option.some.inj h1
      replace h2 := Option.some.inj h2
      replace h3 := Option.some.inj h3
      simp only at h1 h2 h3
      rw [h1] at hK
      have l4 : L 4 = true := hdep 4 (by simp [m39aDep])
      have l5 : L 5 = true := hdep 5 (by simp [m39aDep])
      have l7 : L 7 = true := hdep 7 (by simp [m39aDep])
      have hw := wanted_of (ops := m39aOps) (b := b) h3 (d := 136) (by kernel_rfl) (show Act.at b 136 = .bool true from hc.v 4 l4 _ rfl)
      rw [hw]
      refine ⟨fun _ => ?_, fun hq => absurd hq (by decide)⟩
      refine wp_binG _ _ _ _ _ h2 _ _ (.bool true) (show Act.at b 137 = .agg #[.int .i64 r2, .int .i64 s2] from hc.v 5 l5 _ rfl) (show Act.at b 139 = .agg #[.int .i64 r2, .int .i64 s2] from hc.v 7 l7 _ rfl) (by kernel_rfl) (eql_flt r2 s2 w) ?_
      rw [h1]
      exact hK _ _ (FlatC.step m39a_nd (m39a_ks kSX kSA kSY kSB) rfl hc 8 (by decide) (Below.refl _ _) (fun u hu => by injection hu with hu; injection hu) (trivial))
    · have h1 : (m39aOps[9]?).map (·.dst) = some (some 141) := by kernel_rfl
      have h2 : (m39aOps[9]?).map (·.op) = some (Op.pick (Operand.tmp 136) (Operand.tmp 140) (Operand.const (Value.bool false))) := by kernel_rfl
      have h3 : (m39aOps[9]?).map (·.guard) = some none := by kernel_rfl
      rw [ho] at h1 h2 h3
      replace h1 := Option.some.inj h1
      replace h2 := Option.some.inj h2
      replace h3 := Option.some.inj h3
      simp only at h1 h2 h3
      rw [h1] at hK
      have l4 : L 4 = true := hdep 4 (by simp [m39aDep])
      have l8 : L 8 = true := hdep 8 (by simp [m39aDep])
      refine ⟨fun _ => ?_, fun hw => by rw [wanted_none h3] at hw; cases hw⟩
      refine wp_pickG _ _ _ h2 true (show Act.at b 136 = .bool true from hc.v 4 l4 _ rfl) _ (if_pos rfl |>.trans (show Act.at b 140 = .bool true from hc.v 8 l8 _ rfl)) ?_
      rw [h1]
      exact hK _ _ (FlatC.step m39a_nd (m39a_ks kSX kSA kSY kSB) rfl hc 9 (by decide) (Below.refl _ _) (fun u hu => by injection hu with hu; injection hu) (trivial))
    · have h1 : (m39aOps[10]?).map (·.dst) = some (some 142) := by kernel_rfl
      have h2 : (m39aOps[10]?).map (·.op) = some (Op.move (Operand.tmp 141)) := by kernel_rfl
      have h3 : (m39aOps[10]?).map (·.guard) = some none := by kernel_rfl
      rw [ho] at h1 h2 h3
      replace h1 := Option.some.inj h1
      replace h2 := Option.some.inj h2
      replace h3 := Option.some.inj h3
      simp only at h1 h2 h3
      rw [h1] at hK
      have l9 : L 9 = true := hdep 9 (by simp [m39aDep])
      refine ⟨fun _ => ?_, fun hw => by rw [wanted_none h3] at hw; cases hw⟩
      refine wp_moveG _ h2 _ (show Act.at b 141 = .bool true from hc.v 9 l9 _ rfl) ?_
      rw [h1]
      exact hK _ _ (FlatC.step m39a_nd (m39a_ks kSX kSA kSY kSB) rfl hc 10 (by decide) (Below.refl _ _) (fun u hu => by injection hu with hu; injection hu) (trivial))
    · have h1 : (m39aOps[11]?).map (·.dst) = some (some 143) := by kernel_rfl
      have h2 : (m39aOps[11]?).map (·.op) = some (Op.fieldAddr 29 (Operand.tmp 16) 0) := by kernel_rfl
      have h3 : (m39aOps[11]?).map (·.guard) = some (some (10, true)) := by kernel_rfl
      rw [ho] at h1 h2 h3
      replace h1 := Option.some.inj h1
      replace h2 := Option.some.inj h2
      replace h3 := Option.some.inj h3
      simp only at h1 h2 h3
      rw [h1] at hK
      have l10 : L 10 = true := hdep 10 (by simp [m39aDep])
      have hw := wanted_of (ops := m39aOps) (b := b) h3 (d := 142) (by kernel_rfl) (show Act.at b 142 = .bool true from hc.v 10 l10 _ rfl)
      rw [hw]
      refine ⟨fun _ => ?_, fun hq => absurd hq (by decide)⟩
      refine wp_fieldG _ _ _ h2 _ _ ((hf 16 (by decide)).trans a16) (field_0F gf w) ?_
      rw [h1]
      exact hK _ _ (FlatC.step m39a_nd (m39a_ks kSX kSA kSY kSB) rfl hc 11 (by decide) (Below.refl _ _) (fun u hu => by injection hu with hu; injection hu) (trivial))
    · have h1 : (m39aOps[12]?).map (·.dst) = some (some 144) := by kernel_rfl
      have h2 : (m39aOps[12]?).map (·.op) = some (Op.load 27 (Operand.tmp 143)) := by kernel_rfl
      have h3 : (m39aOps[12]?).map (·.guard) = some (some (10, true)) := by kernel_rfl
      rw [ho] at h1 h2 h3
      replace h1 := Option.some.inj h1
      replace h2 := Option.some.inj h2
      replace h3 := Option.some.inj h3
      simp only at h1 h2 h3
      rw [h1] at hK
      have l10 : L 10 = true := hdep 10 (by simp [m39aDep])
      have l11 : L 11 = true := hdep 11 (by simp [m39aDep])
      have hw := wanted_of (ops := m39aOps) (b := b) h3 (d := 142) (by kernel_rfl) (show Act.at b 142 = .bool true from hc.v 10 l10 _ rfl)
      rw [hw]
      refine ⟨fun _ => ?_, fun hq => absurd hq (by decide)⟩
      refine wp_loadG _ _ h2 _ _ (show Act.at b 143 = .pointer (some ⟨gf, 0, none⟩) from hc.v 11 l11 _ rfl) (load_eF (Blk.at (show Blk w gf 29 [.int .i64 r1, .int .i64 s1] from (hbw.block gf hK16.lt).trans hK16) 0)) ?_
      rw [h1]
      exact hK _ _ (FlatC.step m39a_nd (m39a_ks kSX kSA kSY kSB) rfl hc 12 (by decide) (Below.refl _ _) (fun u hu => by injection hu with hu; injection hu) (trivial))
    · have h1 : (m39aOps[13]?).map (·.dst) = some (some 145) := by kernel_rfl
      have h2 : (m39aOps[13]?).map (·.op) = some (Op.binOp BinOp.neq 27 (Operand.tmp 144) (Operand.const (Value.int IntKind.i64 0)) 27) := by kernel_rfl
      have h3 : (m39aOps[13]?).map (·.guard) = some (some (10, true)) := by kernel_rfl
      rw [ho] at h1 h2 h3
      replace h1 := Option.some.inj h1
      replace h2 := Option.some.inj h2
      replace h3 := Option.some.inj h3
      simp only at h1 h2 h3
      rw [h1] at hK
      have l10 : L 10 = true := hdep 10 (by simp [m39aDep])
      have l12 : L 12 = true := hdep 12 (by simp [m39aDep])
      have hw := wanted_of (ops := m39aOps) (b := b) h3 (d := 142) (by kernel_rfl) (show Act.at b 142 = .bool true from hc.v 10 l10 _ rfl)
      rw [hw]
      refine ⟨fun _ => ?_, fun hq => absurd hq (by decide)⟩
      refine wp_binG _ _ _ _ _ h2 _ _ (.bool false) (show Act.at b 144 = .int .i64 r1 from hc.v 12 l12 _ rfl) rfl (by kernel_rfl) (HN1 w) ?_
      rw [h1]
      exact hK _ _ (FlatC.step m39a_nd (m39a_ks kSX kSA kSY kSB) rfl hc 13 (by decide) (Below.refl _ _) (fun u hu => by injection hu with hu; injection hu) (trivial))
    · have h1 : (m39aOps[14]?).map (·.dst) = some (some 146) := by kernel_rfl
      have h2 : (m39aOps[14]?).map (·.op) = some (Op.move (Operand.tmp 145)) := by kernel_rfl
      have h3 : (m39aOps[14]?).map (·.guard) = some (some (10, true)) := by kernel_rfl
      rw [ho] at h1 h2 h3
      replace h1 := Option.some.inj h1
      replace h2 := Option.some.inj h2
      replace h3 := Option.some.inj h3
      simp only at h1 h2 h3
      rw [h1] at hK
      have l10 : L 10 = true := hdep 10 (by simp [m39aDep])
      have l13 : L 13 = true := hdep 13 (by simp [m39aDep])
      have hw := wanted_of (ops := m39aOps) (b := b) h3 (d := 142) (by kernel_rfl) (show Act.at b 142 = .bool true from hc.v 10 l10 _ rfl)
      rw [hw]
      refine ⟨fun _ => ?_, fun hq => absurd hq (by decide)⟩
      refine wp_moveG _ h2 _ (show Act.at b 145 = .bool false from hc.v 13 l13 _ rfl) ?_
      rw [h1]
      exact hK _ _ (FlatC.step m39a_nd (m39a_ks kSX kSA kSY kSB) rfl hc 14 (by decide) (Below.refl _ _) (fun u hu => by injection hu with hu; injection hu) (trivial))
    · have h1 : (m39aOps[15]?).map (·.dst) = some (some 147) := by kernel_rfl
      have h2 : (m39aOps[15]?).map (·.op) = some (Op.load 24 (Operand.tmp 15)) := by kernel_rfl
      have h3 : (m39aOps[15]?).map (·.guard) = some (some (14, false)) := by kernel_rfl
      rw [ho] at h1 h2 h3
      replace h1 := Option.some.inj h1
      replace h2 := Option.some.inj h2
      replace h3 := Option.some.inj h3
      simp only at h1 h2 h3
      rw [h1] at hK
      have l14 : L 14 = true := hdep 14 (by simp [m39aDep])
      have hw := wanted_of (ops := m39aOps) (b := b) h3 (d := 146) (by kernel_rfl) (show Act.at b 146 = .bool false from hc.v 14 l14 _ rfl)
      rw [hw]
      refine ⟨fun _ => ?_, fun hq => absurd hq (by decide)⟩
      refine wp_load_row 24 (.tmp 15) h2 gx ((hf 15 (by decide)).trans a15) 24 tx.cells.toArray (0, 0) _ ((hbw.block gx hK15.lt).trans hK15) Tryd.underlying24 rfl rfl ?_
      rw [h1]
      exact hK _ _ (FlatC.step m39a_nd (m39a_ks kSX kSA kSY kSB) rfl hc 15 (by decide) (Below.refl _ _) (fun u hu => by injection hu with hu; injection hu) (trivial))
    · have h1 : (m39aOps[16]?).map (·.dst) = some (some 148) := by kernel_rfl
      have h2 : (m39aOps[16]?).map (·.op) = some (Op.call { callee := Callee.value (Operand.func 18), args := #[Operand.tmp 147], argTypes := #[24] }) := by kernel_rfl
      have h3 : (m39aOps[16]?).map (·.guard) = some (some (14, false)) := by kernel_rfl
      rw [ho] at h1 h2 h3
      replace h1 := Option.some.inj h1
      replace h2 := Option.some.inj h2
      replace h3 := Option.some.inj h3
      simp only at h1 h2 h3
      rw [h1] at hK
      have l14 : L 14 = true := hdep 14 (by simp [m39aDep])
      have l15 : L 15 = true := hdep 15 (by simp [m39aDep])
      have hw := wanted_of (ops := m39aOps) (b := b) h3 (d := 146) (by kernel_rfl) (show Act.at b 146 = .bool false from hc.v 14 l14 _ rfl)
      rw [hw]
      refine ⟨fun _ => ?_, fun hq => absurd hq (by decide)⟩
      refine wp_callG 18 _ _ h2 (enters_of Tryd.func18 (by kernel_rfl) rfl) #[.agg tx.cells.toArray] (by simp [show b.eval (.tmp 147) = _ from (show Act.at b 147 = .agg tx.cells.toArray from hc.v 15 l15 _ rfl)]) _ (HLx w hbw) ?_
      rintro v w2 ⟨hp2, hb2⟩
      rw [h1]
      exact hK _ _ (FlatC.step m39a_nd (m39a_ks kSX kSA kSY kSB) rfl hc 16 (by decide) (hb2) (fun u hu => by cases hu) (hp2))
    · have h1 : (m39aOps[17]?).map (·.dst) = some (some 149) := by kernel_rfl
      have h2 : (m39aOps[17]?).map (·.op) = some (Op.call { callee := Callee.value (Operand.func 17), args := #[Operand.tmp 148, Operand.const (Value.string { data := #[44] })], argTypes := #[43, 9] }) := by kernel_rfl
      have h3 : (m39aOps[17]?).map (·.guard) = some (some (14, false)) := by kernel_rfl
      rw [ho] at h1 h2 h3
      replace h1 := Option.some.inj h1
      replace h2 := Option.some.inj h2
      replace h3 := Option.some.inj h3
      simp only at h1 h2 h3
      rw [h1] at hK
      have l14 : L 14 = true := hdep 14 (by simp [m39aDep])
      have hw := wanted_of (ops := m39aOps) (b := b) h3 (d := 146) (by kernel_rfl) (show Act.at b 146 = .bool false from hc.v 14 l14 _ rfl)
      rw [hw]
      refine ⟨fun _ => ?_, fun hq => absurd hq (by decide)⟩
      have l16 : L 16 = true := hdep 16 (by simp [m39aDep])
      have hp := hc.s 16 l16 (by decide)
      refine wp_callG 17 _ _ h2 (enters_of Tryd.func17 (by kernel_rfl) rfl) #[Act.at b 148, Value.string { data := #[44] }] (by simp [show b.eval (.tmp 148) = Act.at b 148 from rfl, show b.eval (Operand.const (Value.string { data := #[44] })) = Value.string { data := #[44] } from rfl]) _ (HJx _ w hp hbw) ?_
      rintro v w2 ⟨rfl, hb2⟩
      rw [h1]
      exact hK _ _ (FlatC.step m39a_nd (m39a_ks kSX kSA kSY kSB) rfl hc 17 (by decide) (hb2) (fun u hu => by injection hu with hu; injection hu) (trivial))
    · have h1 : (m39aOps[18]?).map (·.dst) = some (some 150) := by kernel_rfl
      have h2 : (m39aOps[18]?).map (·.op) = some (Op.load 24 (Operand.tmp 13)) := by kernel_rfl
      have h3 : (m39aOps[18]?).map (·.guard) = some (some (14, false)) := by kernel_rfl
      rw [ho] at h1 h2 h3
      replace h1 := Option.some.inj h1
      replace h2 := Option.some.inj h2
      replace h3 := Option.some.inj h3
      simp only at h1 h2 h3
      rw [h1] at hK
      have l14 : L 14 = true := hdep 14 (by simp [m39aDep])
      have hw := wanted_of (ops := m39aOps) (b := b) h3 (d := 146) (by kernel_rfl) (show Act.at b 146 = .bool false from hc.v 14 l14 _ rfl)
      rw [hw]
      refine ⟨fun _ => ?_, fun hq => absurd hq (by decide)⟩
      refine wp_load_row 24 (.tmp 13) h2 gA ((hf 13 (by decide)).trans a13) 24 ta.cells.toArray (0, 0) _ ((hbw.block gA hK13.lt).trans hK13) Tryd.underlying24 rfl rfl ?_
      rw [h1]
      exact hK _ _ (FlatC.step m39a_nd (m39a_ks kSX kSA kSY kSB) rfl hc 18 (by decide) (Below.refl _ _) (fun u hu => by injection hu with hu; injection hu) (trivial))
    · have h1 : (m39aOps[19]?).map (·.dst) = some (some 151) := by kernel_rfl
      have h2 : (m39aOps[19]?).map (·.op) = some (Op.call { callee := Callee.value (Operand.func 18), args := #[Operand.tmp 150], argTypes := #[24] }) := by kernel_rfl
      have h3 : (m39aOps[19]?).map (·.guard) = some (some (14, false)) := by kernel_rfl
      rw [ho] at h1 h2 h3
      replace h1 := Option.some.inj h1
      replace h2 := Option.some.inj h2
      replace h3 := Option.some.inj h3
      simp only at h1 h2 h3
      rw [h1] at hK
      have l14 : L 14 = true := hdep 14 (by simp [m39aDep])
      have l18 : L 18 = true := hdep 18 (by simp [m39aDep])
      have hw := wanted_of (ops := m39aOps) (b := b) h3 (d := 146) (by kernel_rfl) (show Act.at b 146 = .bool false from hc.v 14 l14 _ rfl)
      rw [hw]
      refine ⟨fun _ => ?_, fun hq => absurd hq (by decide)⟩
      refine wp_callG 18 _ _ h2 (enters_of Tryd.func18 (by kernel_rfl) rfl) #[.agg ta.cells.toArray] (by simp [show b.eval (.tmp 150) = _ from (show Act.at b 150 = .agg ta.cells.toArray from hc.v 18 l18 _ rfl)]) _ (HLa w hbw) ?_
      rintro v w2 ⟨hp2, hb2⟩
      rw [h1]
      exact hK _ _ (FlatC.step m39a_nd (m39a_ks kSX kSA kSY kSB) rfl hc 19 (by decide) (hb2) (fun u hu => by cases hu) (hp2))
    · have h1 : (m39aOps[20]?).map (·.dst) = some (some 152) := by kernel_rfl
      have h2 : (m39aOps[20]?).map (·.op) = some (Op.call { callee := Callee.value (Operand.func 17), args := #[Operand.tmp 151, Operand.const (Value.string { data := #[44] })], argTypes := #[43, 9] }) := by kernel_rfl
      have h3 : (m39aOps[20]?).map (·.guard) = some (some (14, false)) := by kernel_rfl
      rw [ho] at h1 h2 h3
      replace h1 := Option.some.inj h1
      replace h2 := Option.some.inj h2
      replace h3 := Option.some.inj h3
      simp only at h1 h2 h3
      rw [h1] at hK
      have l14 : L 14 = true := hdep 14 (by simp [m39aDep])
      have hw := wanted_of (ops := m39aOps) (b := b) h3 (d := 146) (by kernel_rfl) (show Act.at b 146 = .bool false from hc.v 14 l14 _ rfl)
      rw [hw]
      refine ⟨fun _ => ?_, fun hq => absurd hq (by decide)⟩
      have l19 : L 19 = true := hdep 19 (by simp [m39aDep])
      have hp := hc.s 19 l19 (by decide)
      refine wp_callG 17 _ _ h2 (enters_of Tryd.func17 (by kernel_rfl) rfl) #[Act.at b 151, Value.string { data := #[44] }] (by simp [show b.eval (.tmp 151) = Act.at b 151 from rfl, show b.eval (Operand.const (Value.string { data := #[44] })) = Value.string { data := #[44] } from rfl]) _ (HJa _ w hp hbw) ?_
      rintro v w2 ⟨rfl, hb2⟩
      rw [h1]
      exact hK _ _ (FlatC.step m39a_nd (m39a_ks kSX kSA kSY kSB) rfl hc 20 (by decide) (hb2) (fun u hu => by injection hu with hu; injection hu) (trivial))
    · have h1 : (m39aOps[21]?).map (·.dst) = some (some 153) := by kernel_rfl
      have h2 : (m39aOps[21]?).map (·.op) = some (Op.binOp BinOp.eql 9 (Operand.tmp 149) (Operand.tmp 152) 9) := by kernel_rfl
      have h3 : (m39aOps[21]?).map (·.guard) = some (some (14, false)) := by kernel_rfl
      rw [ho] at h1 h2 h3
      replace h1 := Option.some.inj h1
      replace h2 := Option.some.inj h2
      replace h3 := Option.some.inj h3
      simp only at h1 h2 h3
      rw [h1] at hK
      have l14 : L 14 = true := hdep 14 (by simp [m39aDep])
      have l17 : L 17 = true := hdep 17 (by simp [m39aDep])
      have l20 : L 20 = true := hdep 20 (by simp [m39aDep])
      have hw := wanted_of (ops := m39aOps) (b := b) h3 (d := 146) (by kernel_rfl) (show Act.at b 146 = .bool false from hc.v 14 l14 _ rfl)
      rw [hw]
      refine ⟨fun _ => ?_, fun hq => absurd hq (by decide)⟩
      refine wp_binG _ _ _ _ _ h2 _ _ (.bool true) (show Act.at b 149 = Value.string JX from hc.v 17 l17 _ rfl) (show Act.at b 152 = Value.string JX from hc.v 20 l20 _ rfl) (by kernel_rfl) (eql_strs JX w) ?_
      rw [h1]
      exact hK _ _ (FlatC.step m39a_nd (m39a_ks kSX kSA kSY kSB) rfl hc 21 (by decide) (Below.refl _ _) (fun u hu => by injection hu with hu; injection hu) (trivial))
    · have h1 : (m39aOps[22]?).map (·.dst) = some (some 154) := by kernel_rfl
      have h2 : (m39aOps[22]?).map (·.op) = some (Op.pick (Operand.tmp 146) (Operand.const (Value.bool true)) (Operand.tmp 153)) := by kernel_rfl
      have h3 : (m39aOps[22]?).map (·.guard) = some (some (10, true)) := by kernel_rfl
      rw [ho] at h1 h2 h3
      replace h1 := Option.some.inj h1
      replace h2 := Option.some.inj h2
      replace h3 := Option.some.inj h3
      simp only at h1 h2 h3
      rw [h1] at hK
      have l10 : L 10 = true := hdep 10 (by simp [m39aDep])
      have l14 : L 14 = true := hdep 14 (by simp [m39aDep])
      have l21 : L 21 = true := hdep 21 (by simp [m39aDep])
      have hw := wanted_of (ops := m39aOps) (b := b) h3 (d := 142) (by kernel_rfl) (show Act.at b 142 = .bool true from hc.v 10 l10 _ rfl)
      rw [hw]
      refine ⟨fun _ => ?_, fun hq => absurd hq (by decide)⟩
      refine wp_pickG _ _ _ h2 false (show Act.at b 146 = .bool false from hc.v 14 l14 _ rfl) _ (if_neg (by decide) |>.trans (show Act.at b 153 = .bool true from hc.v 21 l21 _ rfl)) ?_
      rw [h1]
      exact hK _ _ (FlatC.step m39a_nd (m39a_ks kSX kSA kSY kSB) rfl hc 22 (by decide) (Below.refl _ _) (fun u hu => by injection hu with hu; injection hu) (trivial))
    · have h1 : (m39aOps[23]?).map (·.dst) = some (some 155) := by kernel_rfl
      have h2 : (m39aOps[23]?).map (·.op) = some (Op.pick (Operand.tmp 142) (Operand.tmp 154) (Operand.const (Value.bool false))) := by kernel_rfl
      have h3 : (m39aOps[23]?).map (·.guard) = some none := by kernel_rfl
      rw [ho] at h1 h2 h3
      replace h1 := Option.some.inj h1
      replace h2 := Option.some.inj h2
      replace h3 := Option.some.inj h3
      simp only at h1 h2 h3
      rw [h1] at hK
      have l10 : L 10 = true := hdep 10 (by simp [m39aDep])
      have l22 : L 22 = true := hdep 22 (by simp [m39aDep])
      refine ⟨fun _ => ?_, fun hw => by rw [wanted_none h3] at hw; cases hw⟩
      refine wp_pickG _ _ _ h2 true (show Act.at b 142 = .bool true from hc.v 10 l10 _ rfl) _ (if_pos rfl |>.trans (show Act.at b 154 = .bool true from hc.v 22 l22 _ rfl)) ?_
      rw [h1]
      exact hK _ _ (FlatC.step m39a_nd (m39a_ks kSX kSA kSY kSB) rfl hc 23 (by decide) (Below.refl _ _) (fun u hu => by injection hu with hu; injection hu) (trivial))
    · have h1 : (m39aOps[24]?).map (·.dst) = some (some 156) := by kernel_rfl
      have h2 : (m39aOps[24]?).map (·.op) = some (Op.move (Operand.tmp 155)) := by kernel_rfl
      have h3 : (m39aOps[24]?).map (·.guard) = some none := by kernel_rfl
      rw [ho] at h1 h2 h3
      replace h1 := Option.some.inj h1
      replace h2 := Option.some.inj h2
      replace h3 := Option.some.inj h3
      simp only at h1 h2 h3
      rw [h1] at hK
      have l23 : L 23 = true := hdep 23 (by simp [m39aDep])
      refine ⟨fun _ => ?_, fun hw => by rw [wanted_none h3] at hw; cases hw⟩
      refine wp_moveG _ h2 _ (show Act.at b 155 = .bool true from hc.v 23 l23 _ rfl) ?_
      rw [h1]
      exact hK _ _ (FlatC.step m39a_nd (m39a_ks kSX kSA kSY kSB) rfl hc 24 (by decide) (Below.refl _ _) (fun u hu => by injection hu with hu; injection hu) (trivial))
    · have h1 : (m39aOps[25]?).map (·.dst) = some (some 157) := by kernel_rfl
      have h2 : (m39aOps[25]?).map (·.op) = some (Op.fieldAddr 29 (Operand.tmp 18) 0) := by kernel_rfl
      have h3 : (m39aOps[25]?).map (·.guard) = some (some (24, true)) := by kernel_rfl
      rw [ho] at h1 h2 h3
      replace h1 := Option.some.inj h1
      replace h2 := Option.some.inj h2
      replace h3 := Option.some.inj h3
      simp only at h1 h2 h3
      rw [h1] at hK
      have l24 : L 24 = true := hdep 24 (by simp [m39aDep])
      have hw := wanted_of (ops := m39aOps) (b := b) h3 (d := 156) (by kernel_rfl) (show Act.at b 156 = .bool true from hc.v 24 l24 _ rfl)
      rw [hw]
      refine ⟨fun _ => ?_, fun hq => absurd hq (by decide)⟩
      refine wp_fieldG _ _ _ h2 _ _ ((hf 18 (by decide)).trans a18) (field_0F gh w) ?_
      rw [h1]
      exact hK _ _ (FlatC.step m39a_nd (m39a_ks kSX kSA kSY kSB) rfl hc 25 (by decide) (Below.refl _ _) (fun u hu => by injection hu with hu; injection hu) (trivial))
    · have h1 : (m39aOps[26]?).map (·.dst) = some (some 158) := by kernel_rfl
      have h2 : (m39aOps[26]?).map (·.op) = some (Op.load 27 (Operand.tmp 157)) := by kernel_rfl
      have h3 : (m39aOps[26]?).map (·.guard) = some (some (24, true)) := by kernel_rfl
      rw [ho] at h1 h2 h3
      replace h1 := Option.some.inj h1
      replace h2 := Option.some.inj h2
      replace h3 := Option.some.inj h3
      simp only at h1 h2 h3
      rw [h1] at hK
      have l24 : L 24 = true := hdep 24 (by simp [m39aDep])
      have l25 : L 25 = true := hdep 25 (by simp [m39aDep])
      have hw := wanted_of (ops := m39aOps) (b := b) h3 (d := 156) (by kernel_rfl) (show Act.at b 156 = .bool true from hc.v 24 l24 _ rfl)
      rw [hw]
      refine ⟨fun _ => ?_, fun hq => absurd hq (by decide)⟩
      refine wp_loadG _ _ h2 _ _ (show Act.at b 157 = .pointer (some ⟨gh, 0, none⟩) from hc.v 25 l25 _ rfl) (load_eF (Blk.at (show Blk w gh 29 [.int .i64 r2, .int .i64 s2] from (hbw.block gh hK18.lt).trans hK18) 0)) ?_
      rw [h1]
      exact hK _ _ (FlatC.step m39a_nd (m39a_ks kSX kSA kSY kSB) rfl hc 26 (by decide) (Below.refl _ _) (fun u hu => by injection hu with hu; injection hu) (trivial))
    · have h1 : (m39aOps[27]?).map (·.dst) = some (some 159) := by kernel_rfl
      have h2 : (m39aOps[27]?).map (·.op) = some (Op.binOp BinOp.neq 27 (Operand.tmp 158) (Operand.const (Value.int IntKind.i64 0)) 27) := by kernel_rfl
      have h3 : (m39aOps[27]?).map (·.guard) = some (some (24, true)) := by kernel_rfl
      rw [ho] at h1 h2 h3
      replace h1 := Option.some.inj h1
      replace h2 := Option.some.inj h2
      replace h3 := Option.some.inj h3
      simp only at h1 h2 h3
      rw [h1] at hK
      have l24 : L 24 = true := hdep 24 (by simp [m39aDep])
      have l26 : L 26 = true := hdep 26 (by simp [m39aDep])
      have hw := wanted_of (ops := m39aOps) (b := b) h3 (d := 156) (by kernel_rfl) (show Act.at b 156 = .bool true from hc.v 24 l24 _ rfl)
      rw [hw]
      refine ⟨fun _ => ?_, fun hq => absurd hq (by decide)⟩
      refine wp_binG _ _ _ _ _ h2 _ _ (.bool false) (show Act.at b 158 = .int .i64 r2 from hc.v 26 l26 _ rfl) rfl (by kernel_rfl) (HN2 w) ?_
      rw [h1]
      exact hK _ _ (FlatC.step m39a_nd (m39a_ks kSX kSA kSY kSB) rfl hc 27 (by decide) (Below.refl _ _) (fun u hu => by injection hu with hu; injection hu) (trivial))
    · have h1 : (m39aOps[28]?).map (·.dst) = some (some 160) := by kernel_rfl
      have h2 : (m39aOps[28]?).map (·.op) = some (Op.move (Operand.tmp 159)) := by kernel_rfl
      have h3 : (m39aOps[28]?).map (·.guard) = some (some (24, true)) := by kernel_rfl
      rw [ho] at h1 h2 h3
      replace h1 := Option.some.inj h1
      replace h2 := Option.some.inj h2
      replace h3 := Option.some.inj h3
      simp only at h1 h2 h3
      rw [h1] at hK
      have l24 : L 24 = true := hdep 24 (by simp [m39aDep])
      have l27 : L 27 = true := hdep 27 (by simp [m39aDep])
      have hw := wanted_of (ops := m39aOps) (b := b) h3 (d := 156) (by kernel_rfl) (show Act.at b 156 = .bool true from hc.v 24 l24 _ rfl)
      rw [hw]
      refine ⟨fun _ => ?_, fun hq => absurd hq (by decide)⟩
      refine wp_moveG _ h2 _ (show Act.at b 159 = .bool false from hc.v 27 l27 _ rfl) ?_
      rw [h1]
      exact hK _ _ (FlatC.step m39a_nd (m39a_ks kSX kSA kSY kSB) rfl hc 28 (by decide) (Below.refl _ _) (fun u hu => by injection hu with hu; injection hu) (trivial))
    · have h1 : (m39aOps[29]?).map (·.dst) = some (some 161) := by kernel_rfl
      have h2 : (m39aOps[29]?).map (·.op) = some (Op.load 24 (Operand.tmp 17)) := by kernel_rfl
      have h3 : (m39aOps[29]?).map (·.guard) = some (some (28, false)) := by kernel_rfl
      rw [ho] at h1 h2 h3
      replace h1 := Option.some.inj h1
      replace h2 := Option.some.inj h2
      replace h3 := Option.some.inj h3
      simp only at h1 h2 h3
      rw [h1] at hK
      have l28 : L 28 = true := hdep 28 (by simp [m39aDep])
      have hw := wanted_of (ops := m39aOps) (b := b) h3 (d := 160) (by kernel_rfl) (show Act.at b 160 = .bool false from hc.v 28 l28 _ rfl)
      rw [hw]
      refine ⟨fun _ => ?_, fun hq => absurd hq (by decide)⟩
      refine wp_load_row 24 (.tmp 17) h2 gy ((hf 17 (by decide)).trans a17) 24 ty.cells.toArray (0, 0) _ ((hbw.block gy hK17.lt).trans hK17) Tryd.underlying24 rfl rfl ?_
      rw [h1]
      exact hK _ _ (FlatC.step m39a_nd (m39a_ks kSX kSA kSY kSB) rfl hc 29 (by decide) (Below.refl _ _) (fun u hu => by injection hu with hu; injection hu) (trivial))
    · have h1 : (m39aOps[30]?).map (·.dst) = some (some 162) := by kernel_rfl
      have h2 : (m39aOps[30]?).map (·.op) = some (Op.call { callee := Callee.value (Operand.func 18), args := #[Operand.tmp 161], argTypes := #[24] }) := by kernel_rfl
      have h3 : (m39aOps[30]?).map (·.guard) = some (some (28, false)) := by kernel_rfl
      rw [ho] at h1 h2 h3
      replace h1 := Option.some.inj h1
      replace h2 := Option.some.inj h2
      replace h3 := Option.some.inj h3
      simp only at h1 h2 h3
      rw [h1] at hK
      have l28 : L 28 = true := hdep 28 (by simp [m39aDep])
      have l29 : L 29 = true := hdep 29 (by simp [m39aDep])
      have hw := wanted_of (ops := m39aOps) (b := b) h3 (d := 160) (by kernel_rfl) (show Act.at b 160 = .bool false from hc.v 28 l28 _ rfl)
      rw [hw]
      refine ⟨fun _ => ?_, fun hq => absurd hq (by decide)⟩
      refine wp_callG 18 _ _ h2 (enters_of Tryd.func18 (by kernel_rfl) rfl) #[.agg ty.cells.toArray] (by simp [show b.eval (.tmp 161) = _ from (show Act.at b 161 = .agg ty.cells.toArray from hc.v 29 l29 _ rfl)]) _ (HLy w hbw) ?_
      rintro v w2 ⟨hp2, hb2⟩
      rw [h1]
      exact hK _ _ (FlatC.step m39a_nd (m39a_ks kSX kSA kSY kSB) rfl hc 30 (by decide) (hb2) (fun u hu => by cases hu) (hp2))
    · have h1 : (m39aOps[31]?).map (·.dst) = some (some 163) := by kernel_rfl
      have h2 : (m39aOps[31]?).map (·.op) = some (Op.call { callee := Callee.value (Operand.func 17), args := #[Operand.tmp 162, Operand.const (Value.string { data := #[44] })], argTypes := #[43, 9] }) := by kernel_rfl
      have h3 : (m39aOps[31]?).map (·.guard) = some (some (28, false)) := by kernel_rfl
      rw [ho] at h1 h2 h3
      replace h1 := Option.some.inj h1
      replace h2 := Option.some.inj h2
      replace h3 := Option.some.inj h3
      simp only at h1 h2 h3
      rw [h1] at hK
      have l28 : L 28 = true := hdep 28 (by simp [m39aDep])
      have hw := wanted_of (ops := m39aOps) (b := b) h3 (d := 160) (by kernel_rfl) (show Act.at b 160 = .bool false from hc.v 28 l28 _ rfl)
      rw [hw]
      refine ⟨fun _ => ?_, fun hq => absurd hq (by decide)⟩
      have l30 : L 30 = true := hdep 30 (by simp [m39aDep])
      have hp := hc.s 30 l30 (by decide)
      refine wp_callG 17 _ _ h2 (enters_of Tryd.func17 (by kernel_rfl) rfl) #[Act.at b 162, Value.string { data := #[44] }] (by simp [show b.eval (.tmp 162) = Act.at b 162 from rfl, show b.eval (Operand.const (Value.string { data := #[44] })) = Value.string { data := #[44] } from rfl]) _ (HJy _ w hp hbw) ?_
      rintro v w2 ⟨rfl, hb2⟩
      rw [h1]
      exact hK _ _ (FlatC.step m39a_nd (m39a_ks kSX kSA kSY kSB) rfl hc 31 (by decide) (hb2) (fun u hu => by injection hu with hu; injection hu) (trivial))
    · have h1 : (m39aOps[32]?).map (·.dst) = some (some 164) := by kernel_rfl
      have h2 : (m39aOps[32]?).map (·.op) = some (Op.load 24 (Operand.tmp 14)) := by kernel_rfl
      have h3 : (m39aOps[32]?).map (·.guard) = some (some (28, false)) := by kernel_rfl
      rw [ho] at h1 h2 h3
      replace h1 := Option.some.inj h1
      replace h2 := Option.some.inj h2
      replace h3 := Option.some.inj h3
      simp only at h1 h2 h3
      rw [h1] at hK
      have l28 : L 28 = true := hdep 28 (by simp [m39aDep])
      have hw := wanted_of (ops := m39aOps) (b := b) h3 (d := 160) (by kernel_rfl) (show Act.at b 160 = .bool false from hc.v 28 l28 _ rfl)
      rw [hw]
      refine ⟨fun _ => ?_, fun hq => absurd hq (by decide)⟩
      refine wp_load_row 24 (.tmp 14) h2 gB ((hf 14 (by decide)).trans a14) 24 tb.cells.toArray (0, 0) _ ((hbw.block gB hK14.lt).trans hK14) Tryd.underlying24 rfl rfl ?_
      rw [h1]
      exact hK _ _ (FlatC.step m39a_nd (m39a_ks kSX kSA kSY kSB) rfl hc 32 (by decide) (Below.refl _ _) (fun u hu => by injection hu with hu; injection hu) (trivial))
    · have h1 : (m39aOps[33]?).map (·.dst) = some (some 165) := by kernel_rfl
      have h2 : (m39aOps[33]?).map (·.op) = some (Op.call { callee := Callee.value (Operand.func 18), args := #[Operand.tmp 164], argTypes := #[24] }) := by kernel_rfl
      have h3 : (m39aOps[33]?).map (·.guard) = some (some (28, false)) := by kernel_rfl
      rw [ho] at h1 h2 h3
      replace h1 := Option.some.inj h1
      replace h2 := Option.some.inj h2
      replace h3 := Option.some.inj h3
      simp only at h1 h2 h3
      rw [h1] at hK
      have l28 : L 28 = true := hdep 28 (by simp [m39aDep])
      have l32 : L 32 = true := hdep 32 (by simp [m39aDep])
      have hw := wanted_of (ops := m39aOps) (b := b) h3 (d := 160) (by kernel_rfl) (show Act.at b 160 = .bool false from hc.v 28 l28 _ rfl)
      rw [hw]
      refine ⟨fun _ => ?_, fun hq => absurd hq (by decide)⟩
      refine wp_callG 18 _ _ h2 (enters_of Tryd.func18 (by kernel_rfl) rfl) #[.agg tb.cells.toArray] (by simp [show b.eval (.tmp 164) = _ from (show Act.at b 164 = .agg tb.cells.toArray from hc.v 32 l32 _ rfl)]) _ (HLb w hbw) ?_
      rintro v w2 ⟨hp2, hb2⟩
      rw [h1]
      exact hK _ _ (FlatC.step m39a_nd (m39a_ks kSX kSA kSY kSB) rfl hc 33 (by decide) (hb2) (fun u hu => by cases hu) (hp2))
    · have h1 : (m39aOps[34]?).map (·.dst) = some (some 166) := by kernel_rfl
      have h2 : (m39aOps[34]?).map (·.op) = some (Op.call { callee := Callee.value (Operand.func 17), args := #[Operand.tmp 165, Operand.const (Value.string { data := #[44] })], argTypes := #[43, 9] }) := by kernel_rfl
      have h3 : (m39aOps[34]?).map (·.guard) = some (some (28, false)) := by kernel_rfl
      rw [ho] at h1 h2 h3
      replace h1 := Option.some.inj h1
      replace h2 := Option.some.inj h2
      replace h3 := Option.some.inj h3
      simp only at h1 h2 h3
      rw [h1] at hK
      have l28 : L 28 = true := hdep 28 (by simp [m39aDep])
      have hw := wanted_of (ops := m39aOps) (b := b) h3 (d := 160) (by kernel_rfl) (show Act.at b 160 = .bool false from hc.v 28 l28 _ rfl)
      rw [hw]
      refine ⟨fun _ => ?_, fun hq => absurd hq (by decide)⟩
      have l33 : L 33 = true := hdep 33 (by simp [m39aDep])
      have hp := hc.s 33 l33 (by decide)
      refine wp_callG 17 _ _ h2 (enters_of Tryd.func17 (by kernel_rfl) rfl) #[Act.at b 165, Value.string { data := #[44] }] (by simp [show b.eval (.tmp 165) = Act.at b 165 from rfl, show b.eval (Operand.const (Value.string { data := #[44] })) = Value.string { data := #[44] } from rfl]) _ (HJb _ w hp hbw) ?_
      rintro v w2 ⟨rfl, hb2⟩
      rw [h1]
      exact hK _ _ (FlatC.step m39a_nd (m39a_ks kSX kSA kSY kSB) rfl hc 34 (by decide) (hb2) (fun u hu => by injection hu with hu; injection hu) (trivial))
    · have h1 : (m39aOps[35]?).map (·.dst) = some (some 167) := by kernel_rfl
      have h2 : (m39aOps[35]?).map (·.op) = some (Op.binOp BinOp.eql 9 (Operand.tmp 163) (Operand.tmp 166) 9) := by kernel_rfl
      have h3 : (m39aOps[35]?).map (·.guard) = some (some (28, false)) := by kernel_rfl
      rw [ho] at h1 h2 h3
      replace h1 := Option.some.inj h1
      replace h2 := Option.some.inj h2
      replace h3 := Option.some.inj h3
      simp only at h1 h2 h3
      rw [h1] at hK
      have l28 : L 28 = true := hdep 28 (by simp [m39aDep])
      have l31 : L 31 = true := hdep 31 (by simp [m39aDep])
      have l34 : L 34 = true := hdep 34 (by simp [m39aDep])
      have hw := wanted_of (ops := m39aOps) (b := b) h3 (d := 160) (by kernel_rfl) (show Act.at b 160 = .bool false from hc.v 28 l28 _ rfl)
      rw [hw]
      refine ⟨fun _ => ?_, fun hq => absurd hq (by decide)⟩
      refine wp_binG _ _ _ _ _ h2 _ _ (.bool true) (show Act.at b 163 = Value.string JY from hc.v 31 l31 _ rfl) (show Act.at b 166 = Value.string JY from hc.v 34 l34 _ rfl) (by kernel_rfl) (eql_strs JY w) ?_
      rw [h1]
      exact hK _ _ (FlatC.step m39a_nd (m39a_ks kSX kSA kSY kSB) rfl hc 35 (by decide) (Below.refl _ _) (fun u hu => by injection hu with hu; injection hu) (trivial))
    · have h1 : (m39aOps[36]?).map (·.dst) = some (some 168) := by kernel_rfl
      have h2 : (m39aOps[36]?).map (·.op) = some (Op.pick (Operand.tmp 160) (Operand.const (Value.bool true)) (Operand.tmp 167)) := by kernel_rfl
      have h3 : (m39aOps[36]?).map (·.guard) = some (some (24, true)) := by kernel_rfl
      rw [ho] at h1 h2 h3
      replace h1 := Option.some.inj h1
      replace h2 := Option.some.inj h2
      replace h3 := Option.some.inj h3
      simp only at h1 h2 h3
      rw [h1] at hK
      have l24 : L 24 = true := hdep 24 (by simp [m39aDep])
      have l28 : L 28 = true := hdep 28 (by simp [m39aDep])
      have l35 : L 35 = true := hdep 35 (by simp [m39aDep])
      have hw := wanted_of (ops := m39aOps) (b := b) h3 (d := 156) (by kernel_rfl) (show Act.at b 156 = .bool true from hc.v 24 l24 _ rfl)
      rw [hw]
      refine ⟨fun _ => ?_, fun hq => absurd hq (by decide)⟩
      refine wp_pickG _ _ _ h2 false (show Act.at b 160 = .bool false from hc.v 28 l28 _ rfl) _ (if_neg (by decide) |>.trans (show Act.at b 167 = .bool true from hc.v 35 l35 _ rfl)) ?_
      rw [h1]
      exact hK _ _ (FlatC.step m39a_nd (m39a_ks kSX kSA kSY kSB) rfl hc 36 (by decide) (Below.refl _ _) (fun u hu => by injection hu with hu; injection hu) (trivial))
    · have h1 : (m39aOps[37]?).map (·.dst) = some (some 169) := by kernel_rfl
      have h2 : (m39aOps[37]?).map (·.op) = some (Op.pick (Operand.tmp 156) (Operand.tmp 168) (Operand.const (Value.bool false))) := by kernel_rfl
      have h3 : (m39aOps[37]?).map (·.guard) = some none := by kernel_rfl
      rw [ho] at h1 h2 h3
      replace h1 := Option.some.inj h1
      replace h2 := Option.some.inj h2
      replace h3 := Option.some.inj h3
      simp only at h1 h2 h3
      rw [h1] at hK
      have l24 : L 24 = true := hdep 24 (by simp [m39aDep])
      have l36 : L 36 = true := hdep 36 (by simp [m39aDep])
      refine ⟨fun _ => ?_, fun hw => by rw [wanted_none h3] at hw; cases hw⟩
      refine wp_pickG _ _ _ h2 true (show Act.at b 156 = .bool true from hc.v 24 l24 _ rfl) _ (if_pos rfl |>.trans (show Act.at b 168 = .bool true from hc.v 36 l36 _ rfl)) ?_
      rw [h1]
      exact hK _ _ (FlatC.step m39a_nd (m39a_ks kSX kSA kSY kSB) rfl hc 37 (by decide) (Below.refl _ _) (fun u hu => by injection hu with hu; injection hu) (trivial))
    · have h1 : (m39aOps[38]?).map (·.dst) = some (some 6) := by kernel_rfl
      have h2 : (m39aOps[38]?).map (·.op) = some (Op.assign (Operand.tmp 169)) := by kernel_rfl
      have h3 : (m39aOps[38]?).map (·.guard) = some none := by kernel_rfl
      rw [ho] at h1 h2 h3
      replace h1 := Option.some.inj h1
      replace h2 := Option.some.inj h2
      replace h3 := Option.some.inj h3
      simp only at h1 h2 h3
      rw [h1] at hK
      have l37 : L 37 = true := hdep 37 (by simp [m39aDep])
      refine ⟨fun _ => ?_, fun hw => by rw [wanted_none h3] at hw; cases hw⟩
      refine wp_assignG _ h2 _ (show Act.at b 169 = .bool true from hc.v 37 l37 _ rfl) ?_
      rw [h1]
      exact hK _ _ (FlatC.step m39a_nd (m39a_ks kSX kSA kSY kSB) rfl hc 38 (by decide) (Below.refl _ _) (fun u hu => by injection hu with hu; injection hu) (trivial))
  · rintro L b w hL hd hs hf hc
    have hsz2 : m39aOps.size = 39 := rfl
    rw [hsz2] at hL
    have e := act_eq (a := A0) (b := b) (m39aUs (Act.at b)) hd hs hf (by
      intro p hp
      simp only [m39aUs, List.mem_cons, List.not_mem_nil, or_false] at hp
      rcases hp with rfl | rfl | rfl | rfl | rfl | rfl | rfl | rfl | rfl | rfl | rfl | rfl | rfl | rfl | rfl | rfl | rfl | rfl | rfl | rfl | rfl | rfl | rfl | rfl | rfl | rfl | rfl | rfl | rfl | rfl | rfl | rfl | rfl | rfl | rfl | rfl | rfl | rfl | rfl <;> rfl) (by rw [show (m39aUs (Act.at b)).map (·.1) = [132, 133, 134, 135, 136, 137, 138, 139, 140, 141, 142, 143, 144, 145, 146, 147, 148, 149, 150, 151, 152, 153, 154, 155, 156, 157, 158, 159, 160, 161, 162, 163, 164, 165, 166, 167, 168, 169, 6] from rfl]; decide)
    rw [e]
    exact hk (Act.at b) w (hc.v 38 (hL 38 (by omega)) _ rfl) ⟨hc.bel.os, hc.bel.tape, hc.bel.output, hc.bel.size, hc.bel.block⟩
def m39bOps : Array Oper := #[{ dst := some 132, op := Op.load 29 (Operand.tmp 16), type := 29, pos := "law.go:182", after := #[], guard := none }, { dst := some 133, op := Op.load 24 (Operand.tmp 13), type := 24, pos := "law.go:182", after := #[], guard := none }, { dst := some 134, op := Op.call { callee := Callee.value (Operand.func 10), args := #[Operand.tmp 133], argTypes := #[24] }, type := 29, pos := "law.go:182", after := #[{ on := 1, ground := Ground.data }], guard := none }, { dst := some 135, op := Op.binOp BinOp.eql 29 (Operand.tmp 132) (Operand.tmp 134) 29, type := 4, pos := "law.go:182", after := #[{ on := 0, ground := Ground.data }, { on := 2, ground := Ground.data }], guard := none }, { dst := some 136, op := Op.move (Operand.tmp 135), type := 4, pos := "law.go:182", after := #[{ on := 3, ground := Ground.data }, { on := 2, ground := Ground.chain }], guard := none }, { dst := some 137, op := Op.load 29 (Operand.tmp 18), type := 29, pos := "law.go:182", after := #[{ on := 4, ground := Ground.guard }], guard := some (4, true) }, { dst := some 138, op := Op.load 24 (Operand.tmp 14), type := 24, pos := "law.go:182", after := #[{ on := 4, ground := Ground.guard }], guard := some (4, true) }, { dst := some 139, op := Op.call { callee := Callee.value (Operand.func 10), args := #[Operand.tmp 138], argTypes := #[24] }, type := 29, pos := "law.go:182", after := #[{ on := 6, ground := Ground.data }, { on := 4, ground := Ground.chain }, { on := 4, ground := Ground.guard }], guard := some (4, true) }, { dst := some 140, op := Op.binOp BinOp.eql 29 (Operand.tmp 137) (Operand.tmp 139) 29, type := 4, pos := "law.go:182", after := #[{ on := 5, ground := Ground.data }, { on := 7, ground := Ground.data }, { on := 4, ground := Ground.guard }], guard := some (4, true) }, { dst := some 141, op := Op.pick (Operand.tmp 136) (Operand.tmp 140) (Operand.const (Value.bool false)), type := 4, pos := "law.go:182", after := #[{ on := 4, ground := Ground.data }, { on := 8, ground := Ground.data }], guard := none }, { dst := some 142, op := Op.move (Operand.tmp 141), type := 4, pos := "law.go:182", after := #[{ on := 9, ground := Ground.data }, { on := 7, ground := Ground.chain }], guard := none }, { dst := some 143, op := Op.fieldAddr 29 (Operand.tmp 16) 0, type := 0, pos := "law.go:182", after := #[{ on := 10, ground := Ground.guard }], guard := some (10, true) }, { dst := some 144, op := Op.load 27 (Operand.tmp 143), type := 27, pos := "law.go:182", after := #[{ on := 11, ground := Ground.data }, { on := 10, ground := Ground.guard }], guard := some (10, true) }, { dst := some 145, op := Op.binOp BinOp.neq 27 (Operand.tmp 144) (Operand.const (Value.int IntKind.i64 0)) 27, type := 4, pos := "law.go:182", after := #[{ on := 12, ground := Ground.data }, { on := 10, ground := Ground.guard }], guard := some (10, true) }, { dst := some 146, op := Op.move (Operand.tmp 145), type := 4, pos := "law.go:182", after := #[{ on := 13, ground := Ground.data }, { on := 10, ground := Ground.chain }, { on := 10, ground := Ground.guard }], guard := some (10, true) }, { dst := some 147, op := Op.load 24 (Operand.tmp 15), type := 24, pos := "law.go:182", after := #[{ on := 14, ground := Ground.guard }], guard := some (14, false) }, { dst := some 148, op := Op.call { callee := Callee.value (Operand.func 18), args := #[Operand.tmp 147], argTypes := #[24] }, type := 43, pos := "law.go:182", after := #[{ on := 15, ground := Ground.data }, { on := 14, ground := Ground.chain }, { on := 14, ground := Ground.guard }], guard := some (14, false) }, { dst := some 149, op := Op.call { callee := Callee.value (Operand.func 17), args := #[Operand.tmp 148, Operand.const (Value.string { data := #[44] })], argTypes := #[43, 9] }, type := 9, pos := "law.go:182", after := #[{ on := 16, ground := Ground.data }, { on := 16, ground := Ground.chain }, { on := 14, ground := Ground.guard }], guard := some (14, false) }, { dst := some 150, op := Op.load 24 (Operand.tmp 13), type := 24, pos := "law.go:182", after := #[{ on := 14, ground := Ground.guard }], guard := some (14, false) }, { dst := some 151, op := Op.call { callee := Callee.value (Operand.func 18), args := #[Operand.tmp 150], argTypes := #[24] }, type := 43, pos := "law.go:182", after := #[{ on := 18, ground := Ground.data }, { on := 17, ground := Ground.chain }, { on := 14, ground := Ground.guard }], guard := some (14, false) }, { dst := some 152, op := Op.call { callee := Callee.value (Operand.func 17), args := #[Operand.tmp 151, Operand.const (Value.string { data := #[44] })], argTypes := #[43, 9] }, type := 9, pos := "law.go:182", after := #[{ on := 19, ground := Ground.data }, { on := 19, ground := Ground.chain }, { on := 14, ground := Ground.guard }], guard := some (14, false) }, { dst := some 153, op := Op.binOp BinOp.eql 9 (Operand.tmp 149) (Operand.tmp 152) 9, type := 4, pos := "law.go:182", after := #[{ on := 17, ground := Ground.data }, { on := 20, ground := Ground.data }, { on := 14, ground := Ground.guard }], guard := some (14, false) }, { dst := some 154, op := Op.pick (Operand.tmp 146) (Operand.const (Value.bool true)) (Operand.tmp 153), type := 4, pos := "law.go:182", after := #[{ on := 14, ground := Ground.data }, { on := 21, ground := Ground.data }, { on := 10, ground := Ground.guard }], guard := some (10, true) }, { dst := some 155, op := Op.pick (Operand.tmp 142) (Operand.tmp 154) (Operand.const (Value.bool false)), type := 4, pos := "law.go:182", after := #[{ on := 10, ground := Ground.data }, { on := 22, ground := Ground.data }], guard := none }, { dst := some 156, op := Op.move (Operand.tmp 155), type := 4, pos := "law.go:182", after := #[{ on := 23, ground := Ground.data }, { on := 20, ground := Ground.chain }], guard := none }, { dst := some 157, op := Op.fieldAddr 29 (Operand.tmp 18) 0, type := 0, pos := "law.go:182", after := #[{ on := 24, ground := Ground.guard }], guard := some (24, true) }, { dst := some 158, op := Op.load 27 (Operand.tmp 157), type := 27, pos := "law.go:182", after := #[{ on := 25, ground := Ground.data }, { on := 24, ground := Ground.guard }], guard := some (24, true) }, { dst := some 159, op := Op.binOp BinOp.neq 27 (Operand.tmp 158) (Operand.const (Value.int IntKind.i64 0)) 27, type := 4, pos := "law.go:182", after := #[{ on := 26, ground := Ground.data }, { on := 24, ground := Ground.guard }], guard := some (24, true) }, { dst := some 160, op := Op.move (Operand.tmp 159), type := 4, pos := "law.go:182", after := #[{ on := 27, ground := Ground.data }, { on := 24, ground := Ground.chain }, { on := 24, ground := Ground.guard }], guard := some (24, true) }, { dst := some 161, op := Op.load 24 (Operand.tmp 17), type := 24, pos := "law.go:182", after := #[{ on := 28, ground := Ground.guard }], guard := some (28, false) }, { dst := some 162, op := Op.call { callee := Callee.value (Operand.func 18), args := #[Operand.tmp 161], argTypes := #[24] }, type := 43, pos := "law.go:182", after := #[{ on := 29, ground := Ground.data }, { on := 28, ground := Ground.chain }, { on := 28, ground := Ground.guard }], guard := some (28, false) }, { dst := some 163, op := Op.call { callee := Callee.value (Operand.func 17), args := #[Operand.tmp 162, Operand.const (Value.string { data := #[44] })], argTypes := #[43, 9] }, type := 9, pos := "law.go:182", after := #[{ on := 30, ground := Ground.data }, { on := 30, ground := Ground.chain }, { on := 28, ground := Ground.guard }], guard := some (28, false) }, { dst := some 164, op := Op.load 24 (Operand.tmp 14), type := 24, pos := "law.go:182", after := #[{ on := 28, ground := Ground.guard }], guard := some (28, false) }, { dst := some 165, op := Op.call { callee := Callee.value (Operand.func 18), args := #[Operand.tmp 164], argTypes := #[24] }, type := 43, pos := "law.go:182", after := #[{ on := 32, ground := Ground.data }, { on := 31, ground := Ground.chain }, { on := 28, ground := Ground.guard }], guard := some (28, false) }, { dst := some 166, op := Op.call { callee := Callee.value (Operand.func 17), args := #[Operand.tmp 165, Operand.const (Value.string { data := #[44] })], argTypes := #[43, 9] }, type := 9, pos := "law.go:182", after := #[{ on := 33, ground := Ground.data }, { on := 33, ground := Ground.chain }, { on := 28, ground := Ground.guard }], guard := some (28, false) }, { dst := some 167, op := Op.binOp BinOp.eql 9 (Operand.tmp 163) (Operand.tmp 166) 9, type := 4, pos := "law.go:182", after := #[{ on := 31, ground := Ground.data }, { on := 34, ground := Ground.data }, { on := 28, ground := Ground.guard }], guard := some (28, false) }, { dst := some 168, op := Op.pick (Operand.tmp 160) (Operand.const (Value.bool true)) (Operand.tmp 167), type := 4, pos := "law.go:182", after := #[{ on := 28, ground := Ground.data }, { on := 35, ground := Ground.data }, { on := 24, ground := Ground.guard }], guard := some (24, true) }, { dst := some 169, op := Op.pick (Operand.tmp 156) (Operand.tmp 168) (Operand.const (Value.bool false)), type := 4, pos := "law.go:182", after := #[{ on := 24, ground := Ground.data }, { on := 36, ground := Ground.data }], guard := none }, { dst := some 6, op := Op.assign (Operand.tmp 169), type := 4, pos := "law.go:182", after := #[{ on := 37, ground := Ground.data }, { on := 34, ground := Ground.chain }, { on := 0, ground := Ground.phase }, { on := 1, ground := Ground.phase }, { on := 2, ground := Ground.phase }, { on := 3, ground := Ground.phase }, { on := 4, ground := Ground.phase }, { on := 5, ground := Ground.phase }, { on := 6, ground := Ground.phase }, { on := 7, ground := Ground.phase }, { on := 8, ground := Ground.phase }, { on := 9, ground := Ground.phase }, { on := 10, ground := Ground.phase }, { on := 11, ground := Ground.phase }, { on := 12, ground := Ground.phase }, { on := 13, ground := Ground.phase }, { on := 14, ground := Ground.phase }, { on := 15, ground := Ground.phase }, { on := 16, ground := Ground.phase }, { on := 17, ground := Ground.phase }, { on := 18, ground := Ground.phase }, { on := 19, ground := Ground.phase }, { on := 20, ground := Ground.phase }, { on := 21, ground := Ground.phase }, { on := 22, ground := Ground.phase }, { on := 23, ground := Ground.phase }, { on := 24, ground := Ground.phase }, { on := 25, ground := Ground.phase }, { on := 26, ground := Ground.phase }, { on := 27, ground := Ground.phase }, { on := 28, ground := Ground.phase }, { on := 29, ground := Ground.phase }, { on := 30, ground := Ground.phase }, { on := 31, ground := Ground.phase }, { on := 32, ground := Ground.phase }, { on := 33, ground := Ground.phase }, { on := 34, ground := Ground.phase }, { on := 35, ground := Ground.phase }, { on := 36, ground := Ground.phase }, { on := 37, ground := Ground.phase }], guard := none }]
def m39bDep : Nat → List Nat := fun i => match i with | 2 => [1] | 3 => [0, 2] | 4 => [3] | 5 => [4] | 6 => [4] | 7 => [4, 6] | 8 => [4, 5, 7] | 9 => [4, 8] | 10 => [9] | 11 => [10] | 12 => [10, 11] | 13 => [10, 12] | 14 => [10, 13] | 15 => [14] | 16 => [14, 15] | 17 => [14, 16] | 18 => [14] | 19 => [14, 18] | 20 => [14, 19] | 21 => [14, 17, 20] | 22 => [10, 14, 21] | 23 => [10, 22] | 24 => [23] | 25 => [24] | 26 => [24, 25] | 27 => [24, 26] | 28 => [24, 27] | 29 => [28] | 30 => [28] | 31 => [28, 30] | 32 => [28] | 33 => [28] | 34 => [28, 33] | 35 => [28] | 36 => [24, 28] | 37 => [24, 36] | 38 => [37] | _ => []
def m39bSl : List Nat := [132, 133, 134, 135, 136, 137, 138, 139, 140, 141, 142, 143, 144, 145, 146, 147, 148, 149, 150, 151, 152, 153, 154, 155, 156, 157, 158, 159, 160, 161, 162, 163, 164, 165, 166, 167, 168, 169, 6]
def m39bVs (gA : Nat) (gB : Nat) (gx : Nat) (gf : Nat) (gy : Nat) (gh : Nat) (ta : PT) (tb : PT) (tx : PT) (ty : PT) (r1 : Int) (s1 : Int) (r2 : Int) (s2 : Int) (JX : ByteArray) (JY : ByteArray) : List (Option Value) := [some (.agg #[.int .i64 r1, .int .i64 s1]), some (.agg ta.cells.toArray), some (.agg #[.int .i64 r1, .int .i64 s1]), some (.bool true), some (.bool true), some (.agg #[.int .i64 r2, .int .i64 s2]), some (.agg tb.cells.toArray), some (.agg #[.int .i64 r2, .int .i64 s2]), some (.bool true), some (.bool true), some (.bool true), some (.pointer (some ⟨gf, 0, none⟩)), some (.int .i64 r1), some (.bool false), some (.bool false), some (.agg tx.cells.toArray), none, some (Value.string JX), some (.agg ta.cells.toArray), none, some (Value.string JX), some (.bool true), some (.bool true), some (.bool true), some (.bool true), some (.pointer (some ⟨gh, 0, none⟩)), some (.int .i64 r2), some (.bool true), some (.bool true), some (undef), some (undef), some (undef), some (undef), some (undef), some (undef), some (undef), some (.bool true), some (.bool true), some (.bool true)]
def m39bSp (SX : Value → World → Prop) (SA : Value → World → Prop) (i : Nat) : Value → World → Prop := match i with | 16 => SX | 19 => SA | _ => fun _ _ => True
theorem m39b_ks {SX : Value → World → Prop} {SA : Value → World → Prop} (kSX : ∀ v w w', SX v w → Below w.heap.size w w' → SX v w') (kSA : ∀ v w w', SA v w → Below w.heap.size w w' → SA v w') : ∀ i v w w', m39bSp SX SA i v w → Below w.heap.size w w' → m39bSp SX SA i v w' := by
  intro i v w w' h hb
  unfold m39bSp at h ⊢
  split <;> first | trivial | exact kSX _ _ _ h hb | exact kSA _ _ _ h hb
theorem m39b_nd : m39bSl.Nodup := by decide
def m39bUs (f : Nat → Value) : List (Nat × Value) := [(132, f 132), (133, f 133), (134, f 134), (135, f 135), (136, f 136), (137, f 137), (138, f 138), (139, f 139), (140, f 140), (141, f 141), (142, f 142), (143, f 143), (144, f 144), (145, f 145), (146, f 146), (147, f 147), (148, f 148), (149, f 149), (150, f 150), (151, f 151), (152, f 152), (153, f 153), (154, f 154), (155, f 155), (156, f 156), (157, f 157), (158, f 158), (159, f 159), (160, f 160), (161, f 161), (162, f 162), (163, f 163), (164, f 164), (165, f 165), (166, f 166), (167, f 167), (168, f 168), (169, f 169), (6, f 6)]
set_option maxRecDepth 20000 in
set_option maxHeartbeats 4000000 in
theorem m39b_reg {gA : Nat} {gB : Nat} {gx : Nat} {gf : Nat} {gy : Nat} {gh : Nat} {ta : PT} {tb : PT} {tx : PT} {ty : PT} {r1 : Int} {s1 : Int} {r2 : Int} {s2 : Int} {JX : ByteArray} {JY : ByteArray} {SX : Value → World → Prop} {SA : Value → World → Prop} {W : World} {A0 : Act} {Q : Exit → Act → World → Prop} {id : Nat} (a13 : Act.at A0 13 = .pointer (some ⟨gA, 0, none⟩)) (a14 : Act.at A0 14 = .pointer (some ⟨gB, 0, none⟩)) (a15 : Act.at A0 15 = .pointer (some ⟨gx, 0, none⟩)) (a16 : Act.at A0 16 = .pointer (some ⟨gf, 0, none⟩)) (a17 : Act.at A0 17 = .pointer (some ⟨gy, 0, none⟩)) (a18 : Act.at A0 18 = .pointer (some ⟨gh, 0, none⟩)) (hsz : 170 ≤ A0.tmps.size) (kSX : ∀ v w w', SX v w → Below w.heap.size w w' → SX v w') (kSA : ∀ v w w', SA v w → Below w.heap.size w w' → SA v w') (hK13 : BoxP W gA ta)
    (hK14 : BoxP W gB tb)
    (hK15 : BoxP W gx tx)
    (hK16 : Blk W gf 29 [.int .i64 r1, .int .i64 s1])
    (hK17 : BoxP W gy ty)
    (hK18 : Blk W gh 29 [.int .i64 r2, .int .i64 s2])
    (HWa : ∀ w, Below W.heap.size W w → Calls Tryd.prog 10 #[.agg ta.cells.toArray] w fun e w' => ∃ v, e = .returned v ∧ v = .agg #[.int .i64 r1, .int .i64 s1] ∧ Below w.heap.size w w')
    (HWb : ∀ w, Below W.heap.size W w → Calls Tryd.prog 10 #[.agg tb.cells.toArray] w fun e w' => ∃ v, e = .returned v ∧ v = .agg #[.int .i64 r2, .int .i64 s2] ∧ Below w.heap.size w w')
    (HN1 : ∀ w, (binOp .neq 27 (.int .i64 r1) (.int .i64 0)).run Tryd.prog w = .ok (.bool false) w)
    (HN2 : ∀ w, (binOp .neq 27 (.int .i64 r2) (.int .i64 0)).run Tryd.prog w = .ok (.bool true) w)
    (HLx : ∀ w, Below W.heap.size W w → Calls Tryd.prog 18 #[.agg tx.cells.toArray] w fun e w' => ∃ v, e = .returned v ∧ SX v w' ∧ Below w.heap.size w w')
    (HJx : ∀ u w, SX u w → Below W.heap.size W w → Calls Tryd.prog 17 #[u, Value.string { data := #[44] }] w fun e w' => ∃ v, e = .returned v ∧ v = Value.string JX ∧ Below w.heap.size w w')
    (HLa : ∀ w, Below W.heap.size W w → Calls Tryd.prog 18 #[.agg ta.cells.toArray] w fun e w' => ∃ v, e = .returned v ∧ SA v w' ∧ Below w.heap.size w w')
    (HJa : ∀ u w, SA u w → Below W.heap.size W w → Calls Tryd.prog 17 #[u, Value.string { data := #[44] }] w fun e w' => ∃ v, e = .returned v ∧ v = Value.string JX ∧ Below w.heap.size w w')
    (hk : ∀ (f : Nat → Value) w', f 6 = .bool true → Below W.heap.size W w' → Q .normal ⟨(m39bUs f).foldl (fun A p => A.setIfInBounds p.1 p.2) A0.tmps, A0.defers⟩ w') :
    (Code.region id m39bOps true).wp Tryd.prog Q A0 W := by
  refine wp_region_fun3 (by kernel_rfl) (fun L f w => FlatC W.drew m39bSl (m39bVs gA gB gx gf gy gh ta tb tx ty r1 s1 r2 s2 JX JY) (m39bSp SX SA) L f w) [132, 133, 134, 135, 136, 137, 138, 139, 140, 141, 142, 143, 144, 145, 146, 147, 148, 149, 150, 151, 152, 153, 154, 155, 156, 157, 158, 159, 160, 161, 162, 163, 164, 165, 166, 167, 168, 169, 6] (fun i o ho => (wf_ops3 (ops := m39bOps) (by kernel_rfl)) i o ho) (fun i o ho u hu => ?_) ?_ ?_ ?_
  · have := ops_dst [132, 133, 134, 135, 136, 137, 138, 139, 140, 141, 142, 143, 144, 145, 146, 147, 148, 149, 150, 151, 152, 153, 154, 155, 156, 157, 158, 159, 160, 161, 162, 163, 164, 165, 166, 167, 168, 169, 6] 170 (by kernel_rfl) i o ho u hu
    exact ⟨this.1, Nat.lt_of_lt_of_le this.2 hsz⟩
  · have hs : m39bOps.size = 39 := rfl
    rw [hs]
    exact FlatC.start rfl rfl
  · rintro L i o ho hLi haf b w hf hc K hK
    have hdep := ops_deps m39bDep (by kernel_rfl) ho haf
    clear haf
    have hbw : Below W.heap.size W w := ⟨hc.bel.os, hc.bel.tape, hc.bel.output, hc.bel.size, hc.bel.block⟩
    have hs : m39bOps.size = 39 := rfl
    have hlt : i < 39 := hs ▸ (Array.getElem?_eq_some_iff.1 ho).1
    have hcases : i = 0 ∨ i = 1 ∨ i = 2 ∨ i = 3 ∨ i = 4 ∨ i = 5 ∨ i = 6 ∨ i = 7 ∨ i = 8 ∨ i = 9 ∨ i = 10 ∨ i = 11 ∨ i = 12 ∨ i = 13 ∨ i = 14 ∨ i = 15 ∨ i = 16 ∨ i = 17 ∨ i = 18 ∨ i = 19 ∨ i = 20 ∨ i = 21 ∨ i = 22 ∨ i = 23 ∨ i = 24 ∨ i = 25 ∨ i = 26 ∨ i = 27 ∨ i = 28 ∨ i = 29 ∨ i = 30 ∨ i = 31 ∨ i = 32 ∨ i = 33 ∨ i = 34 ∨ i = 35 ∨ i = 36 ∨ i = 37 ∨ i = 38 := by omega
    clear hlt
    rcases hcases with rfl | rfl | rfl | rfl | rfl | rfl | rfl | rfl | rfl | rfl | rfl | rfl | rfl | rfl | rfl | rfl | rfl | rfl | rfl | rfl | rfl | rfl | rfl | rfl | rfl | rfl | rfl | rfl | rfl | rfl | rfl | rfl | rfl | rfl | rfl | rfl | rfl | rfl | rfl
    · have h1 : (m39bOps[0]?).map (·.dst) = some (some 132) := by kernel_rfl
      have h2 : (m39bOps[0]?).map (·.op) = some (Op.load 29 (Operand.tmp 16)) := by kernel_rfl
      have h3 : (m39bOps[0]?).map (·.guard) = some none := by kernel_rfl
      rw [ho] at h1 h2 h3
      replace h1 := Option.some.inj h1
      replace h2 := Option.some.inj h2
      replace h3 := Option.some.inj h3
      simp only at h1 h2 h3
      rw [h1] at hK
      refine ⟨fun _ => ?_, fun hw => by rw [wanted_none h3] at hw; cases hw⟩
      refine wp_load_row 29 (.tmp 16) h2 gf ((hf 16 (by decide)).trans a16) 29 #[.int .i64 r1, .int .i64 s1] (0, 0) _ ((hbw.block gf hK16.lt).trans hK16) Tryd.underlying29 rfl rfl ?_
      rw [h1]
      exact hK _ _ (FlatC.step m39b_nd (m39b_ks kSX kSA) rfl hc 0 (by decide) (Below.refl _ _) (fun u hu => by injection hu with hu; injection hu) (trivial))
    · have h1 : (m39bOps[1]?).map (·.dst) = some (some 133) := by kernel_rfl
      have h2 : (m39bOps[1]?).map (·.op) = some (Op.load 24 (Operand.tmp 13)) := by kernel_rfl
      have h3 : (m39bOps[1]?).map (·.guard) = some none := by kernel_rfl
      rw [ho] at h1 h2 h3
      replace h1 := Option.some.inj h1
      replace h2 := Option.some.inj h2
      replace h3 := Option.some.inj h3
      simp only at h1 h2 h3
      rw [h1] at hK
      refine ⟨fun _ => ?_, fun hw => by rw [wanted_none h3] at hw; cases hw⟩
      refine wp_load_row 24 (.tmp 13) h2 gA ((hf 13 (by decide)).trans a13) 24 ta.cells.toArray (0, 0) _ ((hbw.block gA hK13.lt).trans hK13) Tryd.underlying24 rfl rfl ?_
      rw [h1]
      exact hK _ _ (FlatC.step m39b_nd (m39b_ks kSX kSA) rfl hc 1 (by decide) (Below.refl _ _) (fun u hu => by injection hu with hu; injection hu) (trivial))
    · have h1 : (m39bOps[2]?).map (·.dst) = some (some 134) := by kernel_rfl
      have h2 : (m39bOps[2]?).map (·.op) = some (Op.call { callee := Callee.value (Operand.func 10), args := #[Operand.tmp 133], argTypes := #[24] }) := by kernel_rfl
      have h3 : (m39bOps[2]?).map (·.guard) = some none := by kernel_rfl
      rw [ho] at h1 h2 h3
      replace h1 := Option.some.inj h1
      replace h2 := Option.some.inj h2
      replace h3 := Option.some.inj h3
      simp only at h1 h2 h3
      rw [h1] at hK
      have l1 : L 1 = true := hdep 1 (by simp [m39bDep])
      refine ⟨fun _ => ?_, fun hw => by rw [wanted_none h3] at hw; cases hw⟩
      refine wp_callG 10 _ _ h2 (enters_of Tryd.func10 (by kernel_rfl) rfl) #[.agg ta.cells.toArray] (by simp [show b.eval (.tmp 133) = _ from (show Act.at b 133 = .agg ta.cells.toArray from hc.v 1 l1 _ rfl)]) _ (HWa w hbw) ?_
      rintro v w2 ⟨rfl, hb2⟩
      rw [h1]
      exact hK _ _ (FlatC.step m39b_nd (m39b_ks kSX kSA) rfl hc 2 (by decide) (hb2) (fun u hu => by injection hu with hu; injection hu) (trivial))
    · have h1 : (m39bOps[3]?).map (·.dst) = some (some 135) := by kernel_rfl
      have h2 : (m39bOps[3]?).map (·.op) = some (Op.binOp BinOp.eql 29 (Operand.tmp 132) (Operand.tmp 134) 29) := by kernel_rfl
      have h3 : (m39bOps[3]?).map (·.guard) = some none := by kernel_rfl
      rw [ho] at h1 h2 h3
      replace h1 := Option.some.inj h1
      replace h2 := Option.some.inj h2
      replace h3 := Option.some.inj h3
      simp only at h1 h2 h3
      rw [h1] at hK
      have l0 : L 0 = true := hdep 0 (by simp [m39bDep])
      have l2 : L 2 = true := hdep 2 (by simp [m39bDep])
      refine ⟨fun _ => ?_, fun hw => by rw [wanted_none h3] at hw; cases hw⟩
      refine wp_binG _ _ _ _ _ h2 _ _ (.bool true) (show Act.at b 132 = .agg #[.int .i64 r1, .int .i64 s1] from hc.v 0 l0 _ rfl) (show Act.at b 134 = .agg #[.int .i64 r1, .int .i64 s1] from hc.v 2 l2 _ rfl) (by kernel_rfl) (eql_flt r1 s1 w) ?_
      rw [h1]
      exact hK _ _ (FlatC.step m39b_nd (m39b_ks kSX kSA) rfl hc 3 (by decide) (Below.refl _ _) (fun u hu => by injection hu with hu; injection hu) (trivial))
    · have h1 : (m39bOps[4]?).map (·.dst) = some (some 136) := by kernel_rfl
      have h2 : (m39bOps[4]?).map (·.op) = some (Op.move (Operand.tmp 135)) := by kernel_rfl
      have h3 : (m39bOps[4]?).map (·.guard) = some none := by kernel_rfl
      rw [ho] at h1 h2 h3
      replace h1 := Option.some.inj h1
      replace h2 := Option.some.inj h2
      replace h3 := Option.some.inj h3
      simp only at h1 h2 h3
      rw [h1] at hK
      have l3 : L 3 = true := hdep 3 (by simp [m39bDep])
      refine ⟨fun _ => ?_, fun hw => by rw [wanted_none h3] at hw; cases hw⟩
      refine wp_moveG _ h2 _ (show Act.at b 135 = .bool true from hc.v 3 l3 _ rfl) ?_
      rw [h1]
      exact hK _ _ (FlatC.step m39b_nd (m39b_ks kSX kSA) rfl hc 4 (by decide) (Below.refl _ _) (fun u hu => by injection hu with hu; injection hu) (trivial))
    · have h1 : (m39bOps[5]?).map (·.dst) = some (some 137) := by kernel_rfl
      have h2 : (m39bOps[5]?).map (·.op) = some (Op.load 29 (Operand.tmp 18)) := by kernel_rfl
      have h3 : (m39bOps[5]?).map (·.guard) = some (some (4, true)) := by kernel_rfl
      rw [ho] at h1 h2 h3
      replace h1 := Option.some.inj h1
      replace h2 := Option.some.inj h2
      replace h3 := Option.some.inj h3
      simp only at h1 h2 h3
      rw [h1] at hK
      have l4 : L 4 = true := hdep 4 (by simp [m39bDep])
      have hw := wanted_of (ops := m39bOps) (b := b) h3 (d := 136) (by kernel_rfl) (show Act.at b 136 = .bool true from hc.v 4 l4 _ rfl)
      rw [hw]
      refine ⟨fun _ => ?_, fun hq => absurd hq (by decide)⟩
      refine wp_load_row 29 (.tmp 18) h2 gh ((hf 18 (by decide)).trans a18) 29 #[.int .i64 r2, .int .i64 s2] (0, 0) _ ((hbw.block gh hK18.lt).trans hK18) Tryd.underlying29 rfl rfl ?_
      rw [h1]
      exact hK _ _ (FlatC.step m39b_nd (m39b_ks kSX kSA) rfl hc 5 (by decide) (Below.refl _ _) (fun u hu => by injection hu with hu; injection hu) (trivial))
    · have h1 : (m39bOps[6]?).map (·.dst) = some (some 138) := by kernel_rfl
      have h2 : (m39bOps[6]?).map (·.op) = some (Op.load 24 (Operand.tmp 14)) := by kernel_rfl
      have h3 : (m39bOps[6]?).map (·.guard) = some (some (4, true)) := by kernel_rfl
      rw [ho] at h1 h2 h3
      replace h1 := Option.some.inj h1
      replace h2 := Option.some.inj h2
      replace h3 := Option.some.inj h3
      simp only at h1 h2 h3
      rw [h1] at hK
      have l4 : L 4 = true := hdep 4 (by simp [m39bDep])
      have hw := wanted_of (ops := m39bOps) (b := b) h3 (d := 136) (by kernel_rfl) (show Act.at b 136 = .bool true from hc.v 4 l4 _ rfl)
      rw [hw]
      refine ⟨fun _ => ?_, fun hq => absurd hq (by decide)⟩
      refine wp_load_row 24 (.tmp 14) h2 gB ((hf 14 (by decide)).trans a14) 24 tb.cells.toArray (0, 0) _ ((hbw.block gB hK14.lt).trans hK14) Tryd.underlying24 rfl rfl ?_
      rw [h1]
      exact hK _ _ (FlatC.step m39b_nd (m39b_ks kSX kSA) rfl hc 6 (by decide) (Below.refl _ _) (fun u hu => by injection hu with hu; injection hu) (trivial))
    · have h1 : (m39bOps[7]?).map (·.dst) = some (some 139) := by kernel_rfl
      have h2 : (m39bOps[7]?).map (·.op) = some (Op.call { callee := Callee.value (Operand.func 10), args := #[Operand.tmp 138], argTypes := #[24] }) := by kernel_rfl
      have h3 : (m39bOps[7]?).map (·.guard) = some (some (4, true)) := by kernel_rfl
      rw [ho] at h1 h2 h3
      replace h1 := Option.some.inj h1
      replace h2 := Option.some.inj h2
      replace h3 := Option.some.inj h3
      simp only at h1 h2 h3
      rw [h1] at hK
      have l4 : L 4 = true := hdep 4 (by simp [m39bDep])
      have l6 : L 6 = true := hdep 6 (by simp [m39bDep])
      have hw := wanted_of (ops := m39bOps) (b := b) h3 (d := 136) (by kernel_rfl) (show Act.at b 136 = .bool true from hc.v 4 l4 _ rfl)
      rw [hw]
      refine ⟨fun _ => ?_, fun hq => absurd hq (by decide)⟩
      refine wp_callG 10 _ _ h2 (enters_of Tryd.func10 (by kernel_rfl) rfl) #[.agg tb.cells.toArray] (by simp [show b.eval (.tmp 138) = _ from (show Act.at b 138 = .agg tb.cells.toArray from hc.v 6 l6 _ rfl)]) _ (HWb w hbw) ?_
      rintro v w2 ⟨rfl, hb2⟩
      rw [h1]
      exact hK _ _ (FlatC.step m39b_nd (m39b_ks kSX kSA) rfl hc 7 (by decide) (hb2) (fun u hu => by injection hu with hu; injection hu) (trivial))
    · have h1 : (m39bOps[8]?).map (·.dst) = some (some 140) := by kernel_rfl
      have h2 : (m39bOps[8]?).map (·.op) = some (Op.binOp BinOp.eql 29 (Operand.tmp 137) (Operand.tmp 139) 29) := by kernel_rfl
      have h3 : (m39bOps[8]?).map (·.guard) = some (some (4, true)) := by kernel_rfl
      rw [ho] at h1 h2 h3
      replace h1 := Option.some.inj h1
      replace h2 := Option.some.inj h2
      replace h3 := Option.some.inj h3
      simp only at h1 h2 h3
      rw [h1] at hK
      have l4 : L 4 = true := hdep 4 (by simp [m39bDep])
      have l5 : L 5 = true := hdep 5 (by simp [m39bDep])
      have l7 : L 7 = true := hdep 7 (by simp [m39bDep])
      have hw := wanted_of (ops := m39bOps) (b := b) h3 (d := 136) (by kernel_rfl) (show Act.at b 136 = .bool true from hc.v 4 l4 _ rfl)
      rw [hw]
      refine ⟨fun _ => ?_, fun hq => absurd hq (by decide)⟩
      refine wp_binG _ _ _ _ _ h2 _ _ (.bool true) (show Act.at b 137 = .agg #[.int .i64 r2, .int .i64 s2] from hc.v 5 l5 _ rfl) (show Act.at b 139 = .agg #[.int .i64 r2, .int .i64 s2] from hc.v 7 l7 _ rfl) (by kernel_rfl) (eql_flt r2 s2 w) ?_
      rw [h1]
      exact hK _ _ (FlatC.step m39b_nd (m39b_ks kSX kSA) rfl hc 8 (by decide) (Below.refl _ _) (fun u hu => by injection hu with hu; injection hu) (trivial))
    · have h1 : (m39bOps[9]?).map (·.dst) = some (some 141) := by kernel_rfl
      have h2 : (m39bOps[9]?).map (·.op) = some (Op.pick (Operand.tmp 136) (Operand.tmp 140) (Operand.const (Value.bool false))) := by kernel_rfl
      have h3 : (m39bOps[9]?).map (·.guard) = some none := by kernel_rfl
      rw [ho] at h1 h2 h3
      replace h1 := Option.some.inj h1
      replace h2 := Option.some.inj h2
      replace h3 := Option.some.inj h3
      simp only at h1 h2 h3
      rw [h1] at hK
      have l4 : L 4 = true := hdep 4 (by simp [m39bDep])
      have l8 : L 8 = true := hdep 8 (by simp [m39bDep])
      refine ⟨fun _ => ?_, fun hw => by rw [wanted_none h3] at hw; cases hw⟩
      refine wp_pickG _ _ _ h2 true (show Act.at b 136 = .bool true from hc.v 4 l4 _ rfl) _ (if_pos rfl |>.trans (show Act.at b 140 = .bool true from hc.v 8 l8 _ rfl)) ?_
      rw [h1]
      exact hK _ _ (FlatC.step m39b_nd (m39b_ks kSX kSA) rfl hc 9 (by decide) (Below.refl _ _) (fun u hu => by injection hu with hu; injection hu) (trivial))
    · have h1 : (m39bOps[10]?).map (·.dst) = some (some 142) := by kernel_rfl
      have h2 : (m39bOps[10]?).map (·.op) = some (Op.move (Operand.tmp 141)) := by kernel_rfl
      have h3 : (m39bOps[10]?).map (·.guard) = some none := by kernel_rfl
      rw [ho] at h1 h2 h3
      replace h1 := Option.some.inj h1
      replace h2 := Option.some.inj h2
      replace h3 := Option.some.inj h3
      simp only at h1 h2 h3
      rw [h1] at hK
      have l9 : L 9 = true := hdep 9 (by simp [m39bDep])
      refine ⟨fun _ => ?_, fun hw => by rw [wanted_none h3] at hw; cases hw⟩
      refine wp_moveG _ h2 _ (show Act.at b 141 = .bool true from hc.v 9 l9 _ rfl) ?_
      rw [h1]
      exact hK _ _ (FlatC.step m39b_nd (m39b_ks kSX kSA) rfl hc 10 (by decide) (Below.refl _ _) (fun u hu => by injection hu with hu; injection hu) (trivial))
    · have h1 : (m39bOps[11]?).map (·.dst) = some (some 143) := by kernel_rfl
      have h2 : (m39bOps[11]?).map (·.op) = some (Op.fieldAddr 29 (Operand.tmp 16) 0) := by kernel_rfl
      have h3 : (m39bOps[11]?).map (·.guard) = some (some (10, true)) := by kernel_rfl
      rw [ho] at h1 h2 h3
      replace h1 := Option.some.inj h1
      replace h2 := Option.some.inj h2
      replace h3 := Option.some.inj h3
      simp only at h1 h2 h3
      rw [h1] at hK
      have l10 : L 10 = true := hdep 10 (by simp [m39bDep])
      have hw := wanted_of (ops := m39bOps) (b := b) h3 (d := 142) (by kernel_rfl) (show Act.at b 142 = .bool true from hc.v 10 l10 _ rfl)
      rw [hw]
      refine ⟨fun _ => ?_, fun hq => absurd hq (by decide)⟩
      refine wp_fieldG _ _ _ h2 _ _ ((hf 16 (by decide)).trans a16) (field_0F gf w) ?_
      rw [h1]
      exact hK _ _ (FlatC.step m39b_nd (m39b_ks kSX kSA) rfl hc 11 (by decide) (Below.refl _ _) (fun u hu => by injection hu with hu; injection hu) (trivial))
    · have h1 : (m39bOps[12]?).map (·.dst) = some (some 144) := by kernel_rfl
      have h2 : (m39bOps[12]?).map (·.op) = some (Op.load 27 (Operand.tmp 143)) := by kernel_rfl
      have h3 : (m39bOps[12]?).map (·.guard) = some (some (10, true)) := by kernel_rfl
      rw [ho] at h1 h2 h3
      replace h1 := Option.some.inj h1
      replace h2 := Option.some.inj h2
      replace h3 := Option.some.inj h3
      simp only at h1 h2 h3
      rw [h1] at hK
      have l10 : L 10 = true := hdep 10 (by simp [m39bDep])
      have l11 : L 11 = true := hdep 11 (by simp [m39bDep])
      have hw := wanted_of (ops := m39bOps) (b := b) h3 (d := 142) (by kernel_rfl) (show Act.at b 142 = .bool true from hc.v 10 l10 _ rfl)
      rw [hw]
      refine ⟨fun _ => ?_, fun hq => absurd hq (by decide)⟩
      refine wp_loadG _ _ h2 _ _ (show Act.at b 143 = .pointer (some ⟨gf, 0, none⟩) from hc.v 11 l11 _ rfl) (load_eF (Blk.at (show Blk w gf 29 [.int .i64 r1, .int .i64 s1] from (hbw.block gf hK16.lt).trans hK16) 0)) ?_
      rw [h1]
      exact hK _ _ (FlatC.step m39b_nd (m39b_ks kSX kSA) rfl hc 12 (by decide) (Below.refl _ _) (fun u hu => by injection hu with hu; injection hu) (trivial))
    · have h1 : (m39bOps[13]?).map (·.dst) = some (some 145) := by kernel_rfl
      have h2 : (m39bOps[13]?).map (·.op) = some (Op.binOp BinOp.neq 27 (Operand.tmp 144) (Operand.const (Value.int IntKind.i64 0)) 27) := by kernel_rfl
      have h3 : (m39bOps[13]?).map (·.guard) = some (some (10, true)) := by kernel_rfl
      rw [ho] at h1 h2 h3
      replace h1 := Option.some.inj h1
      replace h2 := Option.some.inj h2
      replace h3 := Option.some.inj h3
      simp only at h1 h2 h3
      rw [h1] at hK
      have l10 : L 10 = true := hdep 10 (by simp [m39bDep])
      have l12 : L 12 = true := hdep 12 (by simp [m39bDep])
      have hw := wanted_of (ops := m39bOps) (b := b) h3 (d := 142) (by kernel_rfl) (show Act.at b 142 = .bool true from hc.v 10 l10 _ rfl)
      rw [hw]
      refine ⟨fun _ => ?_, fun hq => absurd hq (by decide)⟩
      refine wp_binG _ _ _ _ _ h2 _ _ (.bool false) (show Act.at b 144 = .int .i64 r1 from hc.v 12 l12 _ rfl) rfl (by kernel_rfl) (HN1 w) ?_
      rw [h1]
      exact hK _ _ (FlatC.step m39b_nd (m39b_ks kSX kSA) rfl hc 13 (by decide) (Below.refl _ _) (fun u hu => by injection hu with hu; injection hu) (trivial))
    · have h1 : (m39bOps[14]?).map (·.dst) = some (some 146) := by kernel_rfl
      have h2 : (m39bOps[14]?).map (·.op) = some (Op.move (Operand.tmp 145)) := by kernel_rfl
      have h3 : (m39bOps[14]?).map (·.guard) = some (some (10, true)) := by kernel_rfl
      rw [ho] at h1 h2 h3
      replace h1 := Option.some.inj h1
      replace h2 := Option.some.inj h2
      replace h3 := Option.some.inj h3
      simp only at h1 h2 h3
      rw [h1] at hK
      have l10 : L 10 = true := hdep 10 (by simp [m39bDep])
      have l13 : L 13 = true := hdep 13 (by simp [m39bDep])
      have hw := wanted_of (ops := m39bOps) (b := b) h3 (d := 142) (by kernel_rfl) (show Act.at b 142 = .bool true from hc.v 10 l10 _ rfl)
      rw [hw]
      refine ⟨fun _ => ?_, fun hq => absurd hq (by decide)⟩
      refine wp_moveG _ h2 _ (show Act.at b 145 = .bool false from hc.v 13 l13 _ rfl) ?_
      rw [h1]
      exact hK _ _ (FlatC.step m39b_nd (m39b_ks kSX kSA) rfl hc 14 (by decide) (Below.refl _ _) (fun u hu => by injection hu with hu; injection hu) (trivial))
    · have h1 : (m39bOps[15]?).map (·.dst) = some (some 147) := by kernel_rfl
      have h2 : (m39bOps[15]?).map (·.op) = some (Op.load 24 (Operand.tmp 15)) := by kernel_rfl
      have h3 : (m39bOps[15]?).map (·.guard) = some (some (14, false)) := by kernel_rfl
      rw [ho] at h1 h2 h3
      replace h1 := Option.some.inj h1
      replace h2 := Option.some.inj h2
      replace h3 := Option.some.inj h3
      simp only at h1 h2 h3
      rw [h1] at hK
      have l14 : L 14 = true := hdep 14 (by simp [m39bDep])
      have hw := wanted_of (ops := m39bOps) (b := b) h3 (d := 146) (by kernel_rfl) (show Act.at b 146 = .bool false from hc.v 14 l14 _ rfl)
      rw [hw]
      refine ⟨fun _ => ?_, fun hq => absurd hq (by decide)⟩
      refine wp_load_row 24 (.tmp 15) h2 gx ((hf 15 (by decide)).trans a15) 24 tx.cells.toArray (0, 0) _ ((hbw.block gx hK15.lt).trans hK15) Tryd.underlying24 rfl rfl ?_
      rw [h1]
      exact hK _ _ (FlatC.step m39b_nd (m39b_ks kSX kSA) rfl hc 15 (by decide) (Below.refl _ _) (fun u hu => by injection hu with hu; injection hu) (trivial))
    · have h1 : (m39bOps[16]?).map (·.dst) = some (some 148) := by kernel_rfl
      have h2 : (m39bOps[16]?).map (·.op) = some (Op.call { callee := Callee.value (Operand.func 18), args := #[Operand.tmp 147], argTypes := #[24] }) := by kernel_rfl
      have h3 : (m39bOps[16]?).map (·.guard) = some (some (14, false)) := by kernel_rfl
      rw [ho] at h1 h2 h3
      replace h1 := Option.some.inj h1
      replace h2 := Option.some.inj h2
      replace h3 := Option.some.inj h3
      simp only at h1 h2 h3
      rw [h1] at hK
      have l14 : L 14 = true := hdep 14 (by simp [m39bDep])
      have l15 : L 15 = true := hdep 15 (by simp [m39bDep])
      have hw := wanted_of (ops := m39bOps) (b := b) h3 (d := 146) (by kernel_rfl) (show Act.at b 146 = .bool false from hc.v 14 l14 _ rfl)
      rw [hw]
      refine ⟨fun _ => ?_, fun hq => absurd hq (by decide)⟩
      refine wp_callG 18 _ _ h2 (enters_of Tryd.func18 (by kernel_rfl) rfl) #[.agg tx.cells.toArray] (by simp [show b.eval (.tmp 147) = _ from (show Act.at b 147 = .agg tx.cells.toArray from hc.v 15 l15 _ rfl)]) _ (HLx w hbw) ?_
      rintro v w2 ⟨hp2, hb2⟩
      rw [h1]
      exact hK _ _ (FlatC.step m39b_nd (m39b_ks kSX kSA) rfl hc 16 (by decide) (hb2) (fun u hu => by cases hu) (hp2))
    · have h1 : (m39bOps[17]?).map (·.dst) = some (some 149) := by kernel_rfl
      have h2 : (m39bOps[17]?).map (·.op) = some (Op.call { callee := Callee.value (Operand.func 17), args := #[Operand.tmp 148, Operand.const (Value.string { data := #[44] })], argTypes := #[43, 9] }) := by kernel_rfl
      have h3 : (m39bOps[17]?).map (·.guard) = some (some (14, false)) := by kernel_rfl
      rw [ho] at h1 h2 h3
      replace h1 := Option.some.inj h1
      replace h2 := Option.some.inj h2
      replace h3 := Option.some.inj h3
      simp only at h1 h2 h3
      rw [h1] at hK
      have l14 : L 14 = true := hdep 14 (by simp [m39bDep])
      have hw := wanted_of (ops := m39bOps) (b := b) h3 (d := 146) (by kernel_rfl) (show Act.at b 146 = .bool false from hc.v 14 l14 _ rfl)
      rw [hw]
      refine ⟨fun _ => ?_, fun hq => absurd hq (by decide)⟩
      have l16 : L 16 = true := hdep 16 (by simp [m39bDep])
      have hp := hc.s 16 l16 (by decide)
      refine wp_callG 17 _ _ h2 (enters_of Tryd.func17 (by kernel_rfl) rfl) #[Act.at b 148, Value.string { data := #[44] }] (by simp [show b.eval (.tmp 148) = Act.at b 148 from rfl, show b.eval (Operand.const (Value.string { data := #[44] })) = Value.string { data := #[44] } from rfl]) _ (HJx _ w hp hbw) ?_
      rintro v w2 ⟨rfl, hb2⟩
      rw [h1]
      exact hK _ _ (FlatC.step m39b_nd (m39b_ks kSX kSA) rfl hc 17 (by decide) (hb2) (fun u hu => by injection hu with hu; injection hu) (trivial))
    · have h1 : (m39bOps[18]?).map (·.dst) = some (some 150) := by kernel_rfl
      have h2 : (m39bOps[18]?).map (·.op) = some (Op.load 24 (Operand.tmp 13)) := by kernel_rfl
      have h3 : (m39bOps[18]?).map (·.guard) = some (some (14, false)) := by kernel_rfl
      rw [ho] at h1 h2 h3
      replace h1 := Option.some.inj h1
      replace h2 := Option.some.inj h2
      replace h3 := Option.some.inj h3
      simp only at h1 h2 h3
      rw [h1] at hK
      have l14 : L 14 = true := hdep 14 (by simp [m39bDep])
      have hw := wanted_of (ops := m39bOps) (b := b) h3 (d := 146) (by kernel_rfl) (show Act.at b 146 = .bool false from hc.v 14 l14 _ rfl)
      rw [hw]
      refine ⟨fun _ => ?_, fun hq => absurd hq (by decide)⟩
      refine wp_load_row 24 (.tmp 13) h2 gA ((hf 13 (by decide)).trans a13) 24 ta.cells.toArray (0, 0) _ ((hbw.block gA hK13.lt).trans hK13) Tryd.underlying24 rfl rfl ?_
      rw [h1]
      exact hK _ _ (FlatC.step m39b_nd (m39b_ks kSX kSA) rfl hc 18 (by decide) (Below.refl _ _) (fun u hu => by injection hu with hu; injection hu) (trivial))
    · have h1 : (m39bOps[19]?).map (·.dst) = some (some 151) := by kernel_rfl
      have h2 : (m39bOps[19]?).map (·.op) = some (Op.call { callee := Callee.value (Operand.func 18), args := #[Operand.tmp 150], argTypes := #[24] }) := by kernel_rfl
      have h3 : (m39bOps[19]?).map (·.guard) = some (some (14, false)) := by kernel_rfl
      rw [ho] at h1 h2 h3
      replace h1 := Option.some.inj h1
      replace h2 := Option.some.inj h2
      replace h3 := Option.some.inj h3
      simp only at h1 h2 h3
      rw [h1] at hK
      have l14 : L 14 = true := hdep 14 (by simp [m39bDep])
      have l18 : L 18 = true := hdep 18 (by simp [m39bDep])
      have hw := wanted_of (ops := m39bOps) (b := b) h3 (d := 146) (by kernel_rfl) (show Act.at b 146 = .bool false from hc.v 14 l14 _ rfl)
      rw [hw]
      refine ⟨fun _ => ?_, fun hq => absurd hq (by decide)⟩
      refine wp_callG 18 _ _ h2 (enters_of Tryd.func18 (by kernel_rfl) rfl) #[.agg ta.cells.toArray] (by simp [show b.eval (.tmp 150) = _ from (show Act.at b 150 = .agg ta.cells.toArray from hc.v 18 l18 _ rfl)]) _ (HLa w hbw) ?_
      rintro v w2 ⟨hp2, hb2⟩
      rw [h1]
      exact hK _ _ (FlatC.step m39b_nd (m39b_ks kSX kSA) rfl hc 19 (by decide) (hb2) (fun u hu => by cases hu) (hp2))
    · have h1 : (m39bOps[20]?).map (·.dst) = some (some 152) := by kernel_rfl
      have h2 : (m39bOps[20]?).map (·.op) = some (Op.call { callee := Callee.value (Operand.func 17), args := #[Operand.tmp 151, Operand.const (Value.string { data := #[44] })], argTypes := #[43, 9] }) := by kernel_rfl
      have h3 : (m39bOps[20]?).map (·.guard) = some (some (14, false)) := by kernel_rfl
      rw [ho] at h1 h2 h3
      replace h1 := Option.some.inj h1
      replace h2 := Option.some.inj h2
      replace h3 := Option.some.inj h3
      simp only at h1 h2 h3
      rw [h1] at hK
      have l14 : L 14 = true := hdep 14 (by simp [m39bDep])
      have hw := wanted_of (ops := m39bOps) (b := b) h3 (d := 146) (by kernel_rfl) (show Act.at b 146 = .bool false from hc.v 14 l14 _ rfl)
      rw [hw]
      refine ⟨fun _ => ?_, fun hq => absurd hq (by decide)⟩
      have l19 : L 19 = true := hdep 19 (by simp [m39bDep])
      have hp := hc.s 19 l19 (by decide)
      refine wp_callG 17 _ _ h2 (enters_of Tryd.func17 (by kernel_rfl) rfl) #[Act.at b 151, Value.string { data := #[44] }] (by simp [show b.eval (.tmp 151) = Act.at b 151 from rfl, show b.eval (Operand.const (Value.string { data := #[44] })) = Value.string { data := #[44] } from rfl]) _ (HJa _ w hp hbw) ?_
      rintro v w2 ⟨rfl, hb2⟩
      rw [h1]
      exact hK _ _ (FlatC.step m39b_nd (m39b_ks kSX kSA) rfl hc 20 (by decide) (hb2) (fun u hu => by injection hu with hu; injection hu) (trivial))
    · have h1 : (m39bOps[21]?).map (·.dst) = some (some 153) := by kernel_rfl
      have h2 : (m39bOps[21]?).map (·.op) = some (Op.binOp BinOp.eql 9 (Operand.tmp 149) (Operand.tmp 152) 9) := by kernel_rfl
      have h3 : (m39bOps[21]?).map (·.guard) = some (some (14, false)) := by kernel_rfl
      rw [ho] at h1 h2 h3
      replace h1 := Option.some.inj h1
      replace h2 := Option.some.inj h2
      replace h3 := Option.some.inj h3
      simp only at h1 h2 h3
      rw [h1] at hK
      have l14 : L 14 = true := hdep 14 (by simp [m39bDep])
      have l17 : L 17 = true := hdep 17 (by simp [m39bDep])
      have l20 : L 20 = true := hdep 20 (by simp [m39bDep])
      have hw := wanted_of (ops := m39bOps) (b := b) h3 (d := 146) (by kernel_rfl) (show Act.at b 146 = .bool false from hc.v 14 l14 _ rfl)
      rw [hw]
      refine ⟨fun _ => ?_, fun hq => absurd hq (by decide)⟩
      refine wp_binG _ _ _ _ _ h2 _ _ (.bool true) (show Act.at b 149 = Value.string JX from hc.v 17 l17 _ rfl) (show Act.at b 152 = Value.string JX from hc.v 20 l20 _ rfl) (by kernel_rfl) (eql_strs JX w) ?_
      rw [h1]
      exact hK _ _ (FlatC.step m39b_nd (m39b_ks kSX kSA) rfl hc 21 (by decide) (Below.refl _ _) (fun u hu => by injection hu with hu; injection hu) (trivial))
    · have h1 : (m39bOps[22]?).map (·.dst) = some (some 154) := by kernel_rfl
      have h2 : (m39bOps[22]?).map (·.op) = some (Op.pick (Operand.tmp 146) (Operand.const (Value.bool true)) (Operand.tmp 153)) := by kernel_rfl
      have h3 : (m39bOps[22]?).map (·.guard) = some (some (10, true)) := by kernel_rfl
      rw [ho] at h1 h2 h3
      replace h1 := Option.some.inj h1
      replace h2 := Option.some.inj h2
      replace h3 := Option.some.inj h3
      simp only at h1 h2 h3
      rw [h1] at hK
      have l10 : L 10 = true := hdep 10 (by simp [m39bDep])
      have l14 : L 14 = true := hdep 14 (by simp [m39bDep])
      have l21 : L 21 = true := hdep 21 (by simp [m39bDep])
      have hw := wanted_of (ops := m39bOps) (b := b) h3 (d := 142) (by kernel_rfl) (show Act.at b 142 = .bool true from hc.v 10 l10 _ rfl)
      rw [hw]
      refine ⟨fun _ => ?_, fun hq => absurd hq (by decide)⟩
      refine wp_pickG _ _ _ h2 false (show Act.at b 146 = .bool false from hc.v 14 l14 _ rfl) _ (if_neg (by decide) |>.trans (show Act.at b 153 = .bool true from hc.v 21 l21 _ rfl)) ?_
      rw [h1]
      exact hK _ _ (FlatC.step m39b_nd (m39b_ks kSX kSA) rfl hc 22 (by decide) (Below.refl _ _) (fun u hu => by injection hu with hu; injection hu) (trivial))
    · have h1 : (m39bOps[23]?).map (·.dst) = some (some 155) := by kernel_rfl
      have h2 : (m39bOps[23]?).map (·.op) = some (Op.pick (Operand.tmp 142) (Operand.tmp 154) (Operand.const (Value.bool false))) := by kernel_rfl
      have h3 : (m39bOps[23]?).map (·.guard) = some none := by kernel_rfl
      rw [ho] at h1 h2 h3
      replace h1 := Option.some.inj h1
      replace h2 := Option.some.inj h2
      replace h3 := Option.some.inj h3
      simp only at h1 h2 h3
      rw [h1] at hK
      have l10 : L 10 = true := hdep 10 (by simp [m39bDep])
      have l22 : L 22 = true := hdep 22 (by simp [m39bDep])
      refine ⟨fun _ => ?_, fun hw => by rw [wanted_none h3] at hw; cases hw⟩
      refine wp_pickG _ _ _ h2 true (show Act.at b 142 = .bool true from hc.v 10 l10 _ rfl) _ (if_pos rfl |>.trans (show Act.at b 154 = .bool true from hc.v 22 l22 _ rfl)) ?_
      rw [h1]
      exact hK _ _ (FlatC.step m39b_nd (m39b_ks kSX kSA) rfl hc 23 (by decide) (Below.refl _ _) (fun u hu => by injection hu with hu; injection hu) (trivial))
    · have h1 : (m39bOps[24]?).map (·.dst) = some (some 156) := by kernel_rfl
      have h2 : (m39bOps[24]?).map (·.op) = some (Op.move (Operand.tmp 155)) := by kernel_rfl
      have h3 : (m39bOps[24]?).map (·.guard) = some none := by kernel_rfl
      rw [ho] at h1 h2 h3
      replace h1 := Option.some.inj h1
      replace h2 := Option.some.inj h2
      replace h3 := Option.some.inj h3
      simp only at h1 h2 h3
      rw [h1] at hK
      have l23 : L 23 = true := hdep 23 (by simp [m39bDep])
      refine ⟨fun _ => ?_, fun hw => by rw [wanted_none h3] at hw; cases hw⟩
      refine wp_moveG _ h2 _ (show Act.at b 155 = .bool true from hc.v 23 l23 _ rfl) ?_
      rw [h1]
      exact hK _ _ (FlatC.step m39b_nd (m39b_ks kSX kSA) rfl hc 24 (by decide) (Below.refl _ _) (fun u hu => by injection hu with hu; injection hu) (trivial))
    · have h1 : (m39bOps[25]?).map (·.dst) = some (some 157) := by kernel_rfl
      have h2 : (m39bOps[25]?).map (·.op) = some (Op.fieldAddr 29 (Operand.tmp 18) 0) := by kernel_rfl
      have h3 : (m39bOps[25]?).map (·.guard) = some (some (24, true)) := by kernel_rfl
      rw [ho] at h1 h2 h3
      replace h1 := Option.some.inj h1
      replace h2 := Option.some.inj h2
      replace h3 := Option.some.inj h3
      simp only at h1 h2 h3
      rw [h1] at hK
      have l24 : L 24 = true := hdep 24 (by simp [m39bDep])
      have hw := wanted_of (ops := m39bOps) (b := b) h3 (d := 156) (by kernel_rfl) (show Act.at b 156 = .bool true from hc.v 24 l24 _ rfl)
      rw [hw]
      refine ⟨fun _ => ?_, fun hq => absurd hq (by decide)⟩
      refine wp_fieldG _ _ _ h2 _ _ ((hf 18 (by decide)).trans a18) (field_0F gh w) ?_
      rw [h1]
      exact hK _ _ (FlatC.step m39b_nd (m39b_ks kSX kSA) rfl hc 25 (by decide) (Below.refl _ _) (fun u hu => by injection hu with hu; injection hu) (trivial))
    · have h1 : (m39bOps[26]?).map (·.dst) = some (some 158) := by kernel_rfl
      have h2 : (m39bOps[26]?).map (·.op) = some (Op.load 27 (Operand.tmp 157)) := by kernel_rfl
      have h3 : (m39bOps[26]?).map (·.guard) = some (some (24, true)) := by kernel_rfl
      rw [ho] at h1 h2 h3
      replace h1 := Option.some.inj h1
      replace h2 := Option.some.inj h2
      replace h3 := Option.some.inj h3
      simp only at h1 h2 h3
      rw [h1] at hK
      have l24 : L 24 = true := hdep 24 (by simp [m39bDep])
      have l25 : L 25 = true := hdep 25 (by simp [m39bDep])
      have hw := wanted_of (ops := m39bOps) (b := b) h3 (d := 156) (by kernel_rfl) (show Act.at b 156 = .bool true from hc.v 24 l24 _ rfl)
      rw [hw]
      refine ⟨fun _ => ?_, fun hq => absurd hq (by decide)⟩
      refine wp_loadG _ _ h2 _ _ (show Act.at b 157 = .pointer (some ⟨gh, 0, none⟩) from hc.v 25 l25 _ rfl) (load_eF (Blk.at (show Blk w gh 29 [.int .i64 r2, .int .i64 s2] from (hbw.block gh hK18.lt).trans hK18) 0)) ?_
      rw [h1]
      exact hK _ _ (FlatC.step m39b_nd (m39b_ks kSX kSA) rfl hc 26 (by decide) (Below.refl _ _) (fun u hu => by injection hu with hu; injection hu) (trivial))
    · have h1 : (m39bOps[27]?).map (·.dst) = some (some 159) := by kernel_rfl
      have h2 : (m39bOps[27]?).map (·.op) = some (Op.binOp BinOp.neq 27 (Operand.tmp 158) (Operand.const (Value.int IntKind.i64 0)) 27) := by kernel_rfl
      have h3 : (m39bOps[27]?).map (·.guard) = some (some (24, true)) := by kernel_rfl
      rw [ho] at h1 h2 h3
      replace h1 := Option.some.inj h1
      replace h2 := Option.some.inj h2
      replace h3 := Option.some.inj h3
      simp only at h1 h2 h3
      rw [h1] at hK
      have l24 : L 24 = true := hdep 24 (by simp [m39bDep])
      have l26 : L 26 = true := hdep 26 (by simp [m39bDep])
      have hw := wanted_of (ops := m39bOps) (b := b) h3 (d := 156) (by kernel_rfl) (show Act.at b 156 = .bool true from hc.v 24 l24 _ rfl)
      rw [hw]
      refine ⟨fun _ => ?_, fun hq => absurd hq (by decide)⟩
      refine wp_binG _ _ _ _ _ h2 _ _ (.bool true) (show Act.at b 158 = .int .i64 r2 from hc.v 26 l26 _ rfl) rfl (by kernel_rfl) (HN2 w) ?_
      rw [h1]
      exact hK _ _ (FlatC.step m39b_nd (m39b_ks kSX kSA) rfl hc 27 (by decide) (Below.refl _ _) (fun u hu => by injection hu with hu; injection hu) (trivial))
    · have h1 : (m39bOps[28]?).map (·.dst) = some (some 160) := by kernel_rfl
      have h2 : (m39bOps[28]?).map (·.op) = some (Op.move (Operand.tmp 159)) := by kernel_rfl
      have h3 : (m39bOps[28]?).map (·.guard) = some (some (24, true)) := by kernel_rfl
      rw [ho] at h1 h2 h3
      replace h1 := Option.some.inj h1
      replace h2 := Option.some.inj h2
      replace h3 := Option.some.inj h3
      simp only at h1 h2 h3
      rw [h1] at hK
      have l24 : L 24 = true := hdep 24 (by simp [m39bDep])
      have l27 : L 27 = true := hdep 27 (by simp [m39bDep])
      have hw := wanted_of (ops := m39bOps) (b := b) h3 (d := 156) (by kernel_rfl) (show Act.at b 156 = .bool true from hc.v 24 l24 _ rfl)
      rw [hw]
      refine ⟨fun _ => ?_, fun hq => absurd hq (by decide)⟩
      refine wp_moveG _ h2 _ (show Act.at b 159 = .bool true from hc.v 27 l27 _ rfl) ?_
      rw [h1]
      exact hK _ _ (FlatC.step m39b_nd (m39b_ks kSX kSA) rfl hc 28 (by decide) (Below.refl _ _) (fun u hu => by injection hu with hu; injection hu) (trivial))
    · have h1 : (m39bOps[29]?).map (·.dst) = some (some 161) := by kernel_rfl
      have h2 : (m39bOps[29]?).map (·.op) = some (Op.load 24 (Operand.tmp 17)) := by kernel_rfl
      have h3 : (m39bOps[29]?).map (·.guard) = some (some (28, false)) := by kernel_rfl
      rw [ho] at h1 h2 h3
      replace h1 := Option.some.inj h1
      replace h2 := Option.some.inj h2
      replace h3 := Option.some.inj h3
      simp only at h1 h2 h3
      rw [h1] at hK
      have l28 : L 28 = true := hdep 28 (by simp [m39bDep])
      have hw := wanted_of (ops := m39bOps) (b := b) h3 (d := 160) (by kernel_rfl) (show Act.at b 160 = .bool true from hc.v 28 l28 _ rfl)
      rw [hw]
      refine ⟨fun hq => absurd hq (by decide), fun _ => ?_⟩
      rw [h1]
      exact hK _ _ (FlatC.step m39b_nd (m39b_ks kSX kSA) rfl hc 29 (by decide) (Below.refl _ _) (fun u hu => by injection hu with hu; injection hu) trivial)
    · have h1 : (m39bOps[30]?).map (·.dst) = some (some 162) := by kernel_rfl
      have h2 : (m39bOps[30]?).map (·.op) = some (Op.call { callee := Callee.value (Operand.func 18), args := #[Operand.tmp 161], argTypes := #[24] }) := by kernel_rfl
      have h3 : (m39bOps[30]?).map (·.guard) = some (some (28, false)) := by kernel_rfl
      rw [ho] at h1 h2 h3
      replace h1 := Option.some.inj h1
      replace h2 := Option.some.inj h2
      replace h3 := Option.some.inj h3
      simp only at h1 h2 h3
      rw [h1] at hK
      have l28 : L 28 = true := hdep 28 (by simp [m39bDep])
      have hw := wanted_of (ops := m39bOps) (b := b) h3 (d := 160) (by kernel_rfl) (show Act.at b 160 = .bool true from hc.v 28 l28 _ rfl)
      rw [hw]
      refine ⟨fun hq => absurd hq (by decide), fun _ => ?_⟩
      rw [h1]
      exact hK _ _ (FlatC.step m39b_nd (m39b_ks kSX kSA) rfl hc 30 (by decide) (Below.refl _ _) (fun u hu => by injection hu with hu; injection hu) trivial)
    · have h1 : (m39bOps[31]?).map (·.dst) = some (some 163) := by kernel_rfl
      have h2 : (m39bOps[31]?).map (·.op) = some (Op.call { callee := Callee.value (Operand.func 17), args := #[Operand.tmp 162, Operand.const (Value.string { data := #[44] })], argTypes := #[43, 9] }) := by kernel_rfl
      have h3 : (m39bOps[31]?).map (·.guard) = some (some (28, false)) := by kernel_rfl
      rw [ho] at h1 h2 h3
      replace h1 := Option.some.inj h1
      replace h2 := Option.some.inj h2
      replace h3 := Option.some.inj h3
      simp only at h1 h2 h3
      rw [h1] at hK
      have l28 : L 28 = true := hdep 28 (by simp [m39bDep])
      have hw := wanted_of (ops := m39bOps) (b := b) h3 (d := 160) (by kernel_rfl) (show Act.at b 160 = .bool true from hc.v 28 l28 _ rfl)
      rw [hw]
      refine ⟨fun hq => absurd hq (by decide), fun _ => ?_⟩
      rw [h1]
      exact hK _ _ (FlatC.step m39b_nd (m39b_ks kSX kSA) rfl hc 31 (by decide) (Below.refl _ _) (fun u hu => by injection hu with hu; injection hu) trivial)
    · have h1 : (m39bOps[32]?).map (·.dst) = some (some 164) := by kernel_rfl
      have h2 : (m39bOps[32]?).map (·.op) = some (Op.load 24 (Operand.tmp 14)) := by kernel_rfl
      have h3 : (m39bOps[32]?).map (·.guard) = some (some (28, false)) := by kernel_rfl
      rw [ho] at h1 h2 h3
      replace h1 := Option.some.inj h1
      replace h2 := Option.some.inj h2
      replace h3 := Option.some.inj h3
      simp only at h1 h2 h3
      rw [h1] at hK
      have l28 : L 28 = true := hdep 28 (by simp [m39bDep])
      have hw := wanted_of (ops := m39bOps) (b := b) h3 (d := 160) (by kernel_rfl) (show Act.at b 160 = .bool true from hc.v 28 l28 _ rfl)
      rw [hw]
      refine ⟨fun hq => absurd hq (by decide), fun _ => ?_⟩
      rw [h1]
      exact hK _ _ (FlatC.step m39b_nd (m39b_ks kSX kSA) rfl hc 32 (by decide) (Below.refl _ _) (fun u hu => by injection hu with hu; injection hu) trivial)
    · have h1 : (m39bOps[33]?).map (·.dst) = some (some 165) := by kernel_rfl
      have h2 : (m39bOps[33]?).map (·.op) = some (Op.call { callee := Callee.value (Operand.func 18), args := #[Operand.tmp 164], argTypes := #[24] }) := by kernel_rfl
      have h3 : (m39bOps[33]?).map (·.guard) = some (some (28, false)) := by kernel_rfl
      rw [ho] at h1 h2 h3
      replace h1 := Option.some.inj h1
      replace h2 := Option.some.inj h2
      replace h3 := Option.some.inj h3
      simp only at h1 h2 h3
      rw [h1] at hK
      have l28 : L 28 = true := hdep 28 (by simp [m39bDep])
      have hw := wanted_of (ops := m39bOps) (b := b) h3 (d := 160) (by kernel_rfl) (show Act.at b 160 = .bool true from hc.v 28 l28 _ rfl)
      rw [hw]
      refine ⟨fun hq => absurd hq (by decide), fun _ => ?_⟩
      rw [h1]
      exact hK _ _ (FlatC.step m39b_nd (m39b_ks kSX kSA) rfl hc 33 (by decide) (Below.refl _ _) (fun u hu => by injection hu with hu; injection hu) trivial)
    · have h1 : (m39bOps[34]?).map (·.dst) = some (some 166) := by kernel_rfl
      have h2 : (m39bOps[34]?).map (·.op) = some (Op.call { callee := Callee.value (Operand.func 17), args := #[Operand.tmp 165, Operand.const (Value.string { data := #[44] })], argTypes := #[43, 9] }) := by kernel_rfl
      have h3 : (m39bOps[34]?).map (·.guard) = some (some (28, false)) := by kernel_rfl
      rw [ho] at h1 h2 h3
      replace h1 := Option.some.inj h1
      replace h2 := Option.some.inj h2
      replace h3 := Option.some.inj h3
      simp only at h1 h2 h3
      rw [h1] at hK
      have l28 : L 28 = true := hdep 28 (by simp [m39bDep])
      have hw := wanted_of (ops := m39bOps) (b := b) h3 (d := 160) (by kernel_rfl) (show Act.at b 160 = .bool true from hc.v 28 l28 _ rfl)
      rw [hw]
      refine ⟨fun hq => absurd hq (by decide), fun _ => ?_⟩
      rw [h1]
      exact hK _ _ (FlatC.step m39b_nd (m39b_ks kSX kSA) rfl hc 34 (by decide) (Below.refl _ _) (fun u hu => by injection hu with hu; injection hu) trivial)
    · have h1 : (m39bOps[35]?).map (·.dst) = some (some 167) := by kernel_rfl
      have h2 : (m39bOps[35]?).map (·.op) = some (Op.binOp BinOp.eql 9 (Operand.tmp 163) (Operand.tmp 166) 9) := by kernel_rfl
      have h3 : (m39bOps[35]?).map (·.guard) = some (some (28, false)) := by kernel_rfl
      rw [ho] at h1 h2 h3
      replace h1 := Option.some.inj h1
      replace h2 := Option.some.inj h2
      replace h3 := Option.some.inj h3
      simp only at h1 h2 h3
      rw [h1] at hK
      have l28 : L 28 = true := hdep 28 (by simp [m39bDep])
      have hw := wanted_of (ops := m39bOps) (b := b) h3 (d := 160) (by kernel_rfl) (show Act.at b 160 = .bool true from hc.v 28 l28 _ rfl)
      rw [hw]
      refine ⟨fun hq => absurd hq (by decide), fun _ => ?_⟩
      rw [h1]
      exact hK _ _ (FlatC.step m39b_nd (m39b_ks kSX kSA) rfl hc 35 (by decide) (Below.refl _ _) (fun u hu => by injection hu with hu; injection hu) trivial)
    · have h1 : (m39bOps[36]?).map (·.dst) = some (some 168) := by kernel_rfl
      have h2 : (m39bOps[36]?).map (·.op) = some (Op.pick (Operand.tmp 160) (Operand.const (Value.bool true)) (Operand.tmp 167)) := by kernel_rfl
      have h3 : (m39bOps[36]?).map (·.guard) = some (some (24, true)) := by kernel_rfl
      rw [ho] at h1 h2 h3
      replace h1 := Option.some.inj h1
      replace h2 := Option.some.inj h2
      replace h3 := Option.some.inj h3
      simp only at h1 h2 h3
      rw [h1] at hK
      have l24 : L 24 = true := hdep 24 (by simp [m39bDep])
      have l28 : L 28 = true := hdep 28 (by simp [m39bDep])
      have hw := wanted_of (ops := m39bOps) (b := b) h3 (d := 156) (by kernel_rfl) (show Act.at b 156 = .bool true from hc.v 24 l24 _ rfl)
      rw [hw]
      refine ⟨fun _ => ?_, fun hq => absurd hq (by decide)⟩
      refine wp_pickG _ _ _ h2 true (show Act.at b 160 = .bool true from hc.v 28 l28 _ rfl) _ (if_pos rfl |>.trans rfl) ?_
      rw [h1]
      exact hK _ _ (FlatC.step m39b_nd (m39b_ks kSX kSA) rfl hc 36 (by decide) (Below.refl _ _) (fun u hu => by injection hu with hu; injection hu) (trivial))
    · have h1 : (m39bOps[37]?).map (·.dst) = some (some 169) := by kernel_rfl
      have h2 : (m39bOps[37]?).map (·.op) = some (Op.pick (Operand.tmp 156) (Operand.tmp 168) (Operand.const (Value.bool false))) := by kernel_rfl
      have h3 : (m39bOps[37]?).map (·.guard) = some none := by kernel_rfl
      rw [ho] at h1 h2 h3
      replace h1 := Option.some.inj h1
      replace h2 := Option.some.inj h2
      replace h3 := Option.some.inj h3
      simp only at h1 h2 h3
      rw [h1] at hK
      have l24 : L 24 = true := hdep 24 (by simp [m39bDep])
      have l36 : L 36 = true := hdep 36 (by simp [m39bDep])
      refine ⟨fun _ => ?_, fun hw => by rw [wanted_none h3] at hw; cases hw⟩
      refine wp_pickG _ _ _ h2 true (show Act.at b 156 = .bool true from hc.v 24 l24 _ rfl) _ (if_pos rfl |>.trans (show Act.at b 168 = .bool true from hc.v 36 l36 _ rfl)) ?_
      rw [h1]
      exact hK _ _ (FlatC.step m39b_nd (m39b_ks kSX kSA) rfl hc 37 (by decide) (Below.refl _ _) (fun u hu => by injection hu with hu; injection hu) (trivial))
    · have h1 : (m39bOps[38]?).map (·.dst) = some (some 6) := by kernel_rfl
      have h2 : (m39bOps[38]?).map (·.op) = some (Op.assign (Operand.tmp 169)) := by kernel_rfl
      have h3 : (m39bOps[38]?).map (·.guard) = some none := by kernel_rfl
      rw [ho] at h1 h2 h3
      replace h1 := Option.some.inj h1
      replace h2 := Option.some.inj h2
      replace h3 := Option.some.inj h3
      simp only at h1 h2 h3
      rw [h1] at hK
      have l37 : L 37 = true := hdep 37 (by simp [m39bDep])
      refine ⟨fun _ => ?_, fun hw => by rw [wanted_none h3] at hw; cases hw⟩
      refine wp_assignG _ h2 _ (show Act.at b 169 = .bool true from hc.v 37 l37 _ rfl) ?_
      rw [h1]
      exact hK _ _ (FlatC.step m39b_nd (m39b_ks kSX kSA) rfl hc 38 (by decide) (Below.refl _ _) (fun u hu => by injection hu with hu; injection hu) (trivial))
  · rintro L b w hL hd hs hf hc
    have hsz2 : m39bOps.size = 39 := rfl
    rw [hsz2] at hL
    have e := act_eq (a := A0) (b := b) (m39bUs (Act.at b)) hd hs hf (by
      intro p hp
      simp only [m39bUs, List.mem_cons, List.not_mem_nil, or_false] at hp
      rcases hp with rfl | rfl | rfl | rfl | rfl | rfl | rfl | rfl | rfl | rfl | rfl | rfl | rfl | rfl | rfl | rfl | rfl | rfl | rfl | rfl | rfl | rfl | rfl | rfl | rfl | rfl | rfl | rfl | rfl | rfl | rfl | rfl | rfl | rfl | rfl | rfl | rfl | rfl | rfl <;> rfl) (by rw [show (m39bUs (Act.at b)).map (·.1) = [132, 133, 134, 135, 136, 137, 138, 139, 140, 141, 142, 143, 144, 145, 146, 147, 148, 149, 150, 151, 152, 153, 154, 155, 156, 157, 158, 159, 160, 161, 162, 163, 164, 165, 166, 167, 168, 169, 6] from rfl]; decide)
    rw [e]
    exact hk (Act.at b) w (hc.v 38 (hL 38 (by omega)) _ rfl) ⟨hc.bel.os, hc.bel.tape, hc.bel.output, hc.bel.size, hc.bel.block⟩
def m39cOps : Array Oper := #[{ dst := some 132, op := Op.load 29 (Operand.tmp 16), type := 29, pos := "law.go:182", after := #[], guard := none }, { dst := some 133, op := Op.load 24 (Operand.tmp 13), type := 24, pos := "law.go:182", after := #[], guard := none }, { dst := some 134, op := Op.call { callee := Callee.value (Operand.func 10), args := #[Operand.tmp 133], argTypes := #[24] }, type := 29, pos := "law.go:182", after := #[{ on := 1, ground := Ground.data }], guard := none }, { dst := some 135, op := Op.binOp BinOp.eql 29 (Operand.tmp 132) (Operand.tmp 134) 29, type := 4, pos := "law.go:182", after := #[{ on := 0, ground := Ground.data }, { on := 2, ground := Ground.data }], guard := none }, { dst := some 136, op := Op.move (Operand.tmp 135), type := 4, pos := "law.go:182", after := #[{ on := 3, ground := Ground.data }, { on := 2, ground := Ground.chain }], guard := none }, { dst := some 137, op := Op.load 29 (Operand.tmp 18), type := 29, pos := "law.go:182", after := #[{ on := 4, ground := Ground.guard }], guard := some (4, true) }, { dst := some 138, op := Op.load 24 (Operand.tmp 14), type := 24, pos := "law.go:182", after := #[{ on := 4, ground := Ground.guard }], guard := some (4, true) }, { dst := some 139, op := Op.call { callee := Callee.value (Operand.func 10), args := #[Operand.tmp 138], argTypes := #[24] }, type := 29, pos := "law.go:182", after := #[{ on := 6, ground := Ground.data }, { on := 4, ground := Ground.chain }, { on := 4, ground := Ground.guard }], guard := some (4, true) }, { dst := some 140, op := Op.binOp BinOp.eql 29 (Operand.tmp 137) (Operand.tmp 139) 29, type := 4, pos := "law.go:182", after := #[{ on := 5, ground := Ground.data }, { on := 7, ground := Ground.data }, { on := 4, ground := Ground.guard }], guard := some (4, true) }, { dst := some 141, op := Op.pick (Operand.tmp 136) (Operand.tmp 140) (Operand.const (Value.bool false)), type := 4, pos := "law.go:182", after := #[{ on := 4, ground := Ground.data }, { on := 8, ground := Ground.data }], guard := none }, { dst := some 142, op := Op.move (Operand.tmp 141), type := 4, pos := "law.go:182", after := #[{ on := 9, ground := Ground.data }, { on := 7, ground := Ground.chain }], guard := none }, { dst := some 143, op := Op.fieldAddr 29 (Operand.tmp 16) 0, type := 0, pos := "law.go:182", after := #[{ on := 10, ground := Ground.guard }], guard := some (10, true) }, { dst := some 144, op := Op.load 27 (Operand.tmp 143), type := 27, pos := "law.go:182", after := #[{ on := 11, ground := Ground.data }, { on := 10, ground := Ground.guard }], guard := some (10, true) }, { dst := some 145, op := Op.binOp BinOp.neq 27 (Operand.tmp 144) (Operand.const (Value.int IntKind.i64 0)) 27, type := 4, pos := "law.go:182", after := #[{ on := 12, ground := Ground.data }, { on := 10, ground := Ground.guard }], guard := some (10, true) }, { dst := some 146, op := Op.move (Operand.tmp 145), type := 4, pos := "law.go:182", after := #[{ on := 13, ground := Ground.data }, { on := 10, ground := Ground.chain }, { on := 10, ground := Ground.guard }], guard := some (10, true) }, { dst := some 147, op := Op.load 24 (Operand.tmp 15), type := 24, pos := "law.go:182", after := #[{ on := 14, ground := Ground.guard }], guard := some (14, false) }, { dst := some 148, op := Op.call { callee := Callee.value (Operand.func 18), args := #[Operand.tmp 147], argTypes := #[24] }, type := 43, pos := "law.go:182", after := #[{ on := 15, ground := Ground.data }, { on := 14, ground := Ground.chain }, { on := 14, ground := Ground.guard }], guard := some (14, false) }, { dst := some 149, op := Op.call { callee := Callee.value (Operand.func 17), args := #[Operand.tmp 148, Operand.const (Value.string { data := #[44] })], argTypes := #[43, 9] }, type := 9, pos := "law.go:182", after := #[{ on := 16, ground := Ground.data }, { on := 16, ground := Ground.chain }, { on := 14, ground := Ground.guard }], guard := some (14, false) }, { dst := some 150, op := Op.load 24 (Operand.tmp 13), type := 24, pos := "law.go:182", after := #[{ on := 14, ground := Ground.guard }], guard := some (14, false) }, { dst := some 151, op := Op.call { callee := Callee.value (Operand.func 18), args := #[Operand.tmp 150], argTypes := #[24] }, type := 43, pos := "law.go:182", after := #[{ on := 18, ground := Ground.data }, { on := 17, ground := Ground.chain }, { on := 14, ground := Ground.guard }], guard := some (14, false) }, { dst := some 152, op := Op.call { callee := Callee.value (Operand.func 17), args := #[Operand.tmp 151, Operand.const (Value.string { data := #[44] })], argTypes := #[43, 9] }, type := 9, pos := "law.go:182", after := #[{ on := 19, ground := Ground.data }, { on := 19, ground := Ground.chain }, { on := 14, ground := Ground.guard }], guard := some (14, false) }, { dst := some 153, op := Op.binOp BinOp.eql 9 (Operand.tmp 149) (Operand.tmp 152) 9, type := 4, pos := "law.go:182", after := #[{ on := 17, ground := Ground.data }, { on := 20, ground := Ground.data }, { on := 14, ground := Ground.guard }], guard := some (14, false) }, { dst := some 154, op := Op.pick (Operand.tmp 146) (Operand.const (Value.bool true)) (Operand.tmp 153), type := 4, pos := "law.go:182", after := #[{ on := 14, ground := Ground.data }, { on := 21, ground := Ground.data }, { on := 10, ground := Ground.guard }], guard := some (10, true) }, { dst := some 155, op := Op.pick (Operand.tmp 142) (Operand.tmp 154) (Operand.const (Value.bool false)), type := 4, pos := "law.go:182", after := #[{ on := 10, ground := Ground.data }, { on := 22, ground := Ground.data }], guard := none }, { dst := some 156, op := Op.move (Operand.tmp 155), type := 4, pos := "law.go:182", after := #[{ on := 23, ground := Ground.data }, { on := 20, ground := Ground.chain }], guard := none }, { dst := some 157, op := Op.fieldAddr 29 (Operand.tmp 18) 0, type := 0, pos := "law.go:182", after := #[{ on := 24, ground := Ground.guard }], guard := some (24, true) }, { dst := some 158, op := Op.load 27 (Operand.tmp 157), type := 27, pos := "law.go:182", after := #[{ on := 25, ground := Ground.data }, { on := 24, ground := Ground.guard }], guard := some (24, true) }, { dst := some 159, op := Op.binOp BinOp.neq 27 (Operand.tmp 158) (Operand.const (Value.int IntKind.i64 0)) 27, type := 4, pos := "law.go:182", after := #[{ on := 26, ground := Ground.data }, { on := 24, ground := Ground.guard }], guard := some (24, true) }, { dst := some 160, op := Op.move (Operand.tmp 159), type := 4, pos := "law.go:182", after := #[{ on := 27, ground := Ground.data }, { on := 24, ground := Ground.chain }, { on := 24, ground := Ground.guard }], guard := some (24, true) }, { dst := some 161, op := Op.load 24 (Operand.tmp 17), type := 24, pos := "law.go:182", after := #[{ on := 28, ground := Ground.guard }], guard := some (28, false) }, { dst := some 162, op := Op.call { callee := Callee.value (Operand.func 18), args := #[Operand.tmp 161], argTypes := #[24] }, type := 43, pos := "law.go:182", after := #[{ on := 29, ground := Ground.data }, { on := 28, ground := Ground.chain }, { on := 28, ground := Ground.guard }], guard := some (28, false) }, { dst := some 163, op := Op.call { callee := Callee.value (Operand.func 17), args := #[Operand.tmp 162, Operand.const (Value.string { data := #[44] })], argTypes := #[43, 9] }, type := 9, pos := "law.go:182", after := #[{ on := 30, ground := Ground.data }, { on := 30, ground := Ground.chain }, { on := 28, ground := Ground.guard }], guard := some (28, false) }, { dst := some 164, op := Op.load 24 (Operand.tmp 14), type := 24, pos := "law.go:182", after := #[{ on := 28, ground := Ground.guard }], guard := some (28, false) }, { dst := some 165, op := Op.call { callee := Callee.value (Operand.func 18), args := #[Operand.tmp 164], argTypes := #[24] }, type := 43, pos := "law.go:182", after := #[{ on := 32, ground := Ground.data }, { on := 31, ground := Ground.chain }, { on := 28, ground := Ground.guard }], guard := some (28, false) }, { dst := some 166, op := Op.call { callee := Callee.value (Operand.func 17), args := #[Operand.tmp 165, Operand.const (Value.string { data := #[44] })], argTypes := #[43, 9] }, type := 9, pos := "law.go:182", after := #[{ on := 33, ground := Ground.data }, { on := 33, ground := Ground.chain }, { on := 28, ground := Ground.guard }], guard := some (28, false) }, { dst := some 167, op := Op.binOp BinOp.eql 9 (Operand.tmp 163) (Operand.tmp 166) 9, type := 4, pos := "law.go:182", after := #[{ on := 31, ground := Ground.data }, { on := 34, ground := Ground.data }, { on := 28, ground := Ground.guard }], guard := some (28, false) }, { dst := some 168, op := Op.pick (Operand.tmp 160) (Operand.const (Value.bool true)) (Operand.tmp 167), type := 4, pos := "law.go:182", after := #[{ on := 28, ground := Ground.data }, { on := 35, ground := Ground.data }, { on := 24, ground := Ground.guard }], guard := some (24, true) }, { dst := some 169, op := Op.pick (Operand.tmp 156) (Operand.tmp 168) (Operand.const (Value.bool false)), type := 4, pos := "law.go:182", after := #[{ on := 24, ground := Ground.data }, { on := 36, ground := Ground.data }], guard := none }, { dst := some 6, op := Op.assign (Operand.tmp 169), type := 4, pos := "law.go:182", after := #[{ on := 37, ground := Ground.data }, { on := 34, ground := Ground.chain }, { on := 0, ground := Ground.phase }, { on := 1, ground := Ground.phase }, { on := 2, ground := Ground.phase }, { on := 3, ground := Ground.phase }, { on := 4, ground := Ground.phase }, { on := 5, ground := Ground.phase }, { on := 6, ground := Ground.phase }, { on := 7, ground := Ground.phase }, { on := 8, ground := Ground.phase }, { on := 9, ground := Ground.phase }, { on := 10, ground := Ground.phase }, { on := 11, ground := Ground.phase }, { on := 12, ground := Ground.phase }, { on := 13, ground := Ground.phase }, { on := 14, ground := Ground.phase }, { on := 15, ground := Ground.phase }, { on := 16, ground := Ground.phase }, { on := 17, ground := Ground.phase }, { on := 18, ground := Ground.phase }, { on := 19, ground := Ground.phase }, { on := 20, ground := Ground.phase }, { on := 21, ground := Ground.phase }, { on := 22, ground := Ground.phase }, { on := 23, ground := Ground.phase }, { on := 24, ground := Ground.phase }, { on := 25, ground := Ground.phase }, { on := 26, ground := Ground.phase }, { on := 27, ground := Ground.phase }, { on := 28, ground := Ground.phase }, { on := 29, ground := Ground.phase }, { on := 30, ground := Ground.phase }, { on := 31, ground := Ground.phase }, { on := 32, ground := Ground.phase }, { on := 33, ground := Ground.phase }, { on := 34, ground := Ground.phase }, { on := 35, ground := Ground.phase }, { on := 36, ground := Ground.phase }, { on := 37, ground := Ground.phase }], guard := none }]
def m39cDep : Nat → List Nat := fun i => match i with | 2 => [1] | 3 => [0, 2] | 4 => [3] | 5 => [4] | 6 => [4] | 7 => [4, 6] | 8 => [4, 5, 7] | 9 => [4, 8] | 10 => [9] | 11 => [10] | 12 => [10, 11] | 13 => [10, 12] | 14 => [10, 13] | 15 => [14] | 16 => [14] | 17 => [14, 16] | 18 => [14] | 19 => [14] | 20 => [14, 19] | 21 => [14] | 22 => [10, 14] | 23 => [10, 22] | 24 => [23] | 25 => [24] | 26 => [24, 25] | 27 => [24, 26] | 28 => [24, 27] | 29 => [28] | 30 => [28, 29] | 31 => [28, 30] | 32 => [28] | 33 => [28, 32] | 34 => [28, 33] | 35 => [28, 31, 34] | 36 => [24, 28, 35] | 37 => [24, 36] | 38 => [37] | _ => []
def m39cSl : List Nat := [132, 133, 134, 135, 136, 137, 138, 139, 140, 141, 142, 143, 144, 145, 146, 147, 148, 149, 150, 151, 152, 153, 154, 155, 156, 157, 158, 159, 160, 161, 162, 163, 164, 165, 166, 167, 168, 169, 6]
def m39cVs (gA : Nat) (gB : Nat) (gx : Nat) (gf : Nat) (gy : Nat) (gh : Nat) (ta : PT) (tb : PT) (tx : PT) (ty : PT) (r1 : Int) (s1 : Int) (r2 : Int) (s2 : Int) (JX : ByteArray) (JY : ByteArray) : List (Option Value) := [some (.agg #[.int .i64 r1, .int .i64 s1]), some (.agg ta.cells.toArray), some (.agg #[.int .i64 r1, .int .i64 s1]), some (.bool true), some (.bool true), some (.agg #[.int .i64 r2, .int .i64 s2]), some (.agg tb.cells.toArray), some (.agg #[.int .i64 r2, .int .i64 s2]), some (.bool true), some (.bool true), some (.bool true), some (.pointer (some ⟨gf, 0, none⟩)), some (.int .i64 r1), some (.bool true), some (.bool true), some (undef), some (undef), some (undef), some (undef), some (undef), some (undef), some (undef), some (.bool true), some (.bool true), some (.bool true), some (.pointer (some ⟨gh, 0, none⟩)), some (.int .i64 r2), some (.bool false), some (.bool false), some (.agg ty.cells.toArray), none, some (Value.string JY), some (.agg tb.cells.toArray), none, some (Value.string JY), some (.bool true), some (.bool true), some (.bool true), some (.bool true)]
def m39cSp (SY : Value → World → Prop) (SB : Value → World → Prop) (i : Nat) : Value → World → Prop := match i with | 30 => SY | 33 => SB | _ => fun _ _ => True
theorem m39c_ks {SY : Value → World → Prop} {SB : Value → World → Prop} (kSY : ∀ v w w', SY v w → Below w.heap.size w w' → SY v w') (kSB : ∀ v w w', SB v w → Below w.heap.size w w' → SB v w') : ∀ i v w w', m39cSp SY SB i v w → Below w.heap.size w w' → m39cSp SY SB i v w' := by
  intro i v w w' h hb
  unfold m39cSp at h ⊢
  split <;> first | trivial | exact kSY _ _ _ h hb | exact kSB _ _ _ h hb
theorem m39c_nd : m39cSl.Nodup := by decide
def m39cUs (f : Nat → Value) : List (Nat × Value) := [(132, f 132), (133, f 133), (134, f 134), (135, f 135), (136, f 136), (137, f 137), (138, f 138), (139, f 139), (140, f 140), (141, f 141), (142, f 142), (143, f 143), (144, f 144), (145, f 145), (146, f 146), (147, f 147), (148, f 148), (149, f 149), (150, f 150), (151, f 151), (152, f 152), (153, f 153), (154, f 154), (155, f 155), (156, f 156), (157, f 157), (158, f 158), (159, f 159), (160, f 160), (161, f 161), (162, f 162), (163, f 163), (164, f 164), (165, f 165), (166, f 166), (167, f 167), (168, f 168), (169, f 169), (6, f 6)]
set_option maxRecDepth 20000 in
set_option maxHeartbeats 4000000 in
theorem m39c_reg {gA : Nat} {gB : Nat} {gx : Nat} {gf : Nat} {gy : Nat} {gh : Nat} {ta : PT} {tb : PT} {tx : PT} {ty : PT} {r1 : Int} {s1 : Int} {r2 : Int} {s2 : Int} {JX : ByteArray} {JY : ByteArray} {SY : Value → World → Prop} {SB : Value → World → Prop} {W : World} {A0 : Act} {Q : Exit → Act → World → Prop} {id : Nat} (a13 : Act.at A0 13 = .pointer (some ⟨gA, 0, none⟩)) (a14 : Act.at A0 14 = .pointer (some ⟨gB, 0, none⟩)) (a15 : Act.at A0 15 = .pointer (some ⟨gx, 0, none⟩)) (a16 : Act.at A0 16 = .pointer (some ⟨gf, 0, none⟩)) (a17 : Act.at A0 17 = .pointer (some ⟨gy, 0, none⟩)) (a18 : Act.at A0 18 = .pointer (some ⟨gh, 0, none⟩)) (hsz : 170 ≤ A0.tmps.size) (kSY : ∀ v w w', SY v w → Below w.heap.size w w' → SY v w') (kSB : ∀ v w w', SB v w → Below w.heap.size w w' → SB v w') (hK13 : BoxP W gA ta)
    (hK14 : BoxP W gB tb)
    (hK15 : BoxP W gx tx)
    (hK16 : Blk W gf 29 [.int .i64 r1, .int .i64 s1])
    (hK17 : BoxP W gy ty)
    (hK18 : Blk W gh 29 [.int .i64 r2, .int .i64 s2])
    (HWa : ∀ w, Below W.heap.size W w → Calls Tryd.prog 10 #[.agg ta.cells.toArray] w fun e w' => ∃ v, e = .returned v ∧ v = .agg #[.int .i64 r1, .int .i64 s1] ∧ Below w.heap.size w w')
    (HWb : ∀ w, Below W.heap.size W w → Calls Tryd.prog 10 #[.agg tb.cells.toArray] w fun e w' => ∃ v, e = .returned v ∧ v = .agg #[.int .i64 r2, .int .i64 s2] ∧ Below w.heap.size w w')
    (HN1 : ∀ w, (binOp .neq 27 (.int .i64 r1) (.int .i64 0)).run Tryd.prog w = .ok (.bool true) w)
    (HN2 : ∀ w, (binOp .neq 27 (.int .i64 r2) (.int .i64 0)).run Tryd.prog w = .ok (.bool false) w)
    (HLy : ∀ w, Below W.heap.size W w → Calls Tryd.prog 18 #[.agg ty.cells.toArray] w fun e w' => ∃ v, e = .returned v ∧ SY v w' ∧ Below w.heap.size w w')
    (HJy : ∀ u w, SY u w → Below W.heap.size W w → Calls Tryd.prog 17 #[u, Value.string { data := #[44] }] w fun e w' => ∃ v, e = .returned v ∧ v = Value.string JY ∧ Below w.heap.size w w')
    (HLb : ∀ w, Below W.heap.size W w → Calls Tryd.prog 18 #[.agg tb.cells.toArray] w fun e w' => ∃ v, e = .returned v ∧ SB v w' ∧ Below w.heap.size w w')
    (HJb : ∀ u w, SB u w → Below W.heap.size W w → Calls Tryd.prog 17 #[u, Value.string { data := #[44] }] w fun e w' => ∃ v, e = .returned v ∧ v = Value.string JY ∧ Below w.heap.size w w')
    (hk : ∀ (f : Nat → Value) w', f 6 = .bool true → Below W.heap.size W w' → Q .normal ⟨(m39cUs f).foldl (fun A p => A.setIfInBounds p.1 p.2) A0.tmps, A0.defers⟩ w') :
    (Code.region id m39cOps true).wp Tryd.prog Q A0 W := by
  refine wp_region_fun3 (by kernel_rfl) (fun L f w => FlatC W.drew m39cSl (m39cVs gA gB gx gf gy gh ta tb tx ty r1 s1 r2 s2 JX JY) (m39cSp SY SB) L f w) [132, 133, 134, 135, 136, 137, 138, 139, 140, 141, 142, 143, 144, 145, 146, 147, 148, 149, 150, 151, 152, 153, 154, 155, 156, 157, 158, 159, 160, 161, 162, 163, 164, 165, 166, 167, 168, 169, 6] (fun i o ho => (wf_ops3 (ops := m39cOps) (by kernel_rfl)) i o ho) (fun i o ho u hu => ?_) ?_ ?_ ?_
  · have := ops_dst [132, 133, 134, 135, 136, 137, 138, 139, 140, 141, 142, 143, 144, 145, 146, 147, 148, 149, 150, 151, 152, 153, 154, 155, 156, 157, 158, 159, 160, 161, 162, 163, 164, 165, 166, 167, 168, 169, 6] 170 (by kernel_rfl) i o ho u hu
    exact ⟨this.1, Nat.lt_of_lt_of_le this.2 hsz⟩
  · have hs : m39cOps.size = 39 := rfl
    rw [hs]
    exact FlatC.start rfl rfl
  · rintro L i o ho hLi haf b w hf hc K hK
    have hdep := ops_deps m39cDep (by kernel_rfl) ho haf
    clear haf
    have hbw : Below W.heap.size W w := ⟨hc.bel.os, hc.bel.tape, hc.bel.output, hc.bel.size, hc.bel.block⟩
    have hs : m39cOps.size = 39 := rfl
    have hlt : i < 39 := hs ▸ (Array.getElem?_eq_some_iff.1 ho).1
    have hcases : i = 0 ∨ i = 1 ∨ i = 2 ∨ i = 3 ∨ i = 4 ∨ i = 5 ∨ i = 6 ∨ i = 7 ∨ i = 8 ∨ i = 9 ∨ i = 10 ∨ i = 11 ∨ i = 12 ∨ i = 13 ∨ i = 14 ∨ i = 15 ∨ i = 16 ∨ i = 17 ∨ i = 18 ∨ i = 19 ∨ i = 20 ∨ i = 21 ∨ i = 22 ∨ i = 23 ∨ i = 24 ∨ i = 25 ∨ i = 26 ∨ i = 27 ∨ i = 28 ∨ i = 29 ∨ i = 30 ∨ i = 31 ∨ i = 32 ∨ i = 33 ∨ i = 34 ∨ i = 35 ∨ i = 36 ∨ i = 37 ∨ i = 38 := by omega
    clear hlt
    rcases hcases with rfl | rfl | rfl | rfl | rfl | rfl | rfl | rfl | rfl | rfl | rfl | rfl | rfl | rfl | rfl | rfl | rfl | rfl | rfl | rfl | rfl | rfl | rfl | rfl | rfl | rfl | rfl | rfl | rfl | rfl | rfl | rfl | rfl | rfl | rfl | rfl | rfl | rfl | rfl
    · have h1 : (m39cOps[0]?).map (·.dst) = some (some 132) := by kernel_rfl
      have h2 : (m39cOps[0]?).map (·.op) = some (Op.load 29 (Operand.tmp 16)) := by kernel_rfl
      have h3 : (m39cOps[0]?).map (·.guard) = some none := by kernel_rfl
      rw [ho] at h1 h2 h3
      replace h1 := Option.some.inj h1
      replace h2 := Option.some.inj h2
      replace h3 := Option.some.inj h3
      simp only at h1 h2 h3
      rw [h1] at hK
      refine ⟨fun _ => ?_, fun hw => by rw [wanted_none h3] at hw; cases hw⟩
      refine wp_load_row 29 (.tmp 16) h2 gf ((hf 16 (by decide)).trans a16) 29 #[.int .i64 r1, .int .i64 s1] (0, 0) _ ((hbw.block gf hK16.lt).trans hK16) Tryd.underlying29 rfl rfl ?_
      rw [h1]
      exact hK _ _ (FlatC.step m39c_nd (m39c_ks kSY kSB) rfl hc 0 (by decide) (Below.refl _ _) (fun u hu => by injection hu with hu; injection hu) (trivial))
    · have h1 : (m39cOps[1]?).map (·.dst) = some (some 133) := by kernel_rfl
      have h2 : (m39cOps[1]?).map (·.op) = some (Op.load 24 (Operand.tmp 13)) := by kernel_rfl
      have h3 : (m39cOps[1]?).map (·.guard) = some none := by kernel_rfl
      rw [ho] at h1 h2 h3
      replace h1 := Option.some.inj h1
      replace h2 := Option.some.inj h2
      replace h3 := Option.some.inj h3
      simp only at h1 h2 h3
      rw [h1] at hK
      refine ⟨fun _ => ?_, fun hw => by rw [wanted_none h3] at hw; cases hw⟩
      refine wp_load_row 24 (.tmp 13) h2 gA ((hf 13 (by decide)).trans a13) 24 ta.cells.toArray (0, 0) _ ((hbw.block gA hK13.lt).trans hK13) Tryd.underlying24 rfl rfl ?_
      rw [h1]
      exact hK _ _ (FlatC.step m39c_nd (m39c_ks kSY kSB) rfl hc 1 (by decide) (Below.refl _ _) (fun u hu => by injection hu with hu; injection hu) (trivial))
    · have h1 : (m39cOps[2]?).map (·.dst) = some (some 134) := by kernel_rfl
      have h2 : (m39cOps[2]?).map (·.op) = some (Op.call { callee := Callee.value (Operand.func 10), args := #[Operand.tmp 133], argTypes := #[24] }) := by kernel_rfl
      have h3 : (m39cOps[2]?).map (·.guard) = some none := by kernel_rfl
      rw [ho] at h1 h2 h3
      replace h1 := Option.some.inj h1
      replace h2 := Option.some.inj h2
      replace h3 := Option.some.inj h3
      simp only at h1 h2 h3
      rw [h1] at hK
      have l1 : L 1 = true := hdep 1 (by simp [m39cDep])
      refine ⟨fun _ => ?_, fun hw => by rw [wanted_none h3] at hw; cases hw⟩
      refine wp_callG 10 _ _ h2 (enters_of Tryd.func10 (by kernel_rfl) rfl) #[.agg ta.cells.toArray] (by simp [show b.eval (.tmp 133) = _ from (show Act.at b 133 = .agg ta.cells.toArray from hc.v 1 l1 _ rfl)]) _ (HWa w hbw) ?_
      rintro v w2 ⟨rfl, hb2⟩
      rw [h1]
      exact hK _ _ (FlatC.step m39c_nd (m39c_ks kSY kSB) rfl hc 2 (by decide) (hb2) (fun u hu => by injection hu with hu; injection hu) (trivial))
    · have h1 : (m39cOps[3]?).map (·.dst) = some (some 135) := by kernel_rfl
      have h2 : (m39cOps[3]?).map (·.op) = some (Op.binOp BinOp.eql 29 (Operand.tmp 132) (Operand.tmp 134) 29) := by kernel_rfl
      have h3 : (m39cOps[3]?).map (·.guard) = some none := by kernel_rfl
      rw [ho] at h1 h2 h3
      replace h1 := Option.some.inj h1
      replace h2 := Option.some.inj h2
      replace h3 := Option.some.inj h3
      simp only at h1 h2 h3
      rw [h1] at hK
      have l0 : L 0 = true := hdep 0 (by simp [m39cDep])
      have l2 : L 2 = true := hdep 2 (by simp [m39cDep])
      refine ⟨fun _ => ?_, fun hw => by rw [wanted_none h3] at hw; cases hw⟩
      refine wp_binG _ _ _ _ _ h2 _ _ (.bool true) (show Act.at b 132 = .agg #[.int .i64 r1, .int .i64 s1] from hc.v 0 l0 _ rfl) (show Act.at b 134 = .agg #[.int .i64 r1, .int .i64 s1] from hc.v 2 l2 _ rfl) (by kernel_rfl) (eql_flt r1 s1 w) ?_
      rw [h1]
      exact hK _ _ (FlatC.step m39c_nd (m39c_ks kSY kSB) rfl hc 3 (by decide) (Below.refl _ _) (fun u hu => by injection hu with hu; injection hu) (trivial))
    · have h1 : (m39cOps[4]?).map (·.dst) = some (some 136) := by kernel_rfl
      have h2 : (m39cOps[4]?).map (·.op) = some (Op.move (Operand.tmp 135)) := by kernel_rfl
      have h3 : (m39cOps[4]?).map (·.guard) = some none := by kernel_rfl
      rw [ho] at h1 h2 h3
      replace h1 := Option.some.inj h1
      replace h2 := Option.some.inj h2
      replace h3 := Option.some.inj h3
      simp only at h1 h2 h3
      rw [h1] at hK
      have l3 : L 3 = true := hdep 3 (by simp [m39cDep])
      refine ⟨fun _ => ?_, fun hw => by rw [wanted_none h3] at hw; cases hw⟩
      refine wp_moveG _ h2 _ (show Act.at b 135 = .bool true from hc.v 3 l3 _ rfl) ?_
      rw [h1]
      exact hK _ _ (FlatC.step m39c_nd (m39c_ks kSY kSB) rfl hc 4 (by decide) (Below.refl _ _) (fun u hu => by injection hu with hu; injection hu) (trivial))
    · have h1 : (m39cOps[5]?).map (·.dst) = some (some 137) := by kernel_rfl
      have h2 : (m39cOps[5]?).map (·.op) = some (Op.load 29 (Operand.tmp 18)) := by kernel_rfl
      have h3 : (m39cOps[5]?).map (·.guard) = some (some (4, true)) := by kernel_rfl
      rw [ho] at h1 h2 h3
      replace h1 := Option.some.inj h1
      replace h2 := Option.some.inj h2
      replace h3 := Option.some.inj h3
      simp only at h1 h2 h3
      rw [h1] at hK
      have l4 : L 4 = true := hdep 4 (by simp [m39cDep])
      have hw := wanted_of (ops := m39cOps) (b := b) h3 (d := 136) (by kernel_rfl) (show Act.at b 136 = .bool true from hc.v 4 l4 _ rfl)
      rw [hw]
      refine ⟨fun _ => ?_, fun hq => absurd hq (by decide)⟩
      refine wp_load_row 29 (.tmp 18) h2 gh ((hf 18 (by decide)).trans a18) 29 #[.int .i64 r2, .int .i64 s2] (0, 0) _ ((hbw.block gh hK18.lt).trans hK18) Tryd.underlying29 rfl rfl ?_
      rw [h1]
      exact hK _ _ (FlatC.step m39c_nd (m39c_ks kSY kSB) rfl hc 5 (by decide) (Below.refl _ _) (fun u hu => by injection hu with hu; injection hu) (trivial))
    · have h1 : (m39cOps[6]?).map (·.dst) = some (some 138) := by kernel_rfl
      have h2 : (m39cOps[6]?).map (·.op) = some (Op.load 24 (Operand.tmp 14)) := by kernel_rfl
      have h3 : (m39cOps[6]?).map (·.guard) = some (some (4, true)) := by kernel_rfl
      rw [ho] at h1 h2 h3
      replace h1 := Option.some.inj h1
      replace h2 := Option.some.inj h2
      replace h3 := Option.some.inj h3
      simp only at h1 h2 h3
      rw [h1] at hK
      have l4 : L 4 = true := hdep 4 (by simp [m39cDep])
      have hw := wanted_of (ops := m39cOps) (b := b) h3 (d := 136) (by kernel_rfl) (show Act.at b 136 = .bool true from hc.v 4 l4 _ rfl)
      rw [hw]
      refine ⟨fun _ => ?_, fun hq => absurd hq (by decide)⟩
      refine wp_load_row 24 (.tmp 14) h2 gB ((hf 14 (by decide)).trans a14) 24 tb.cells.toArray (0, 0) _ ((hbw.block gB hK14.lt).trans hK14) Tryd.underlying24 rfl rfl ?_
      rw [h1]
      exact hK _ _ (FlatC.step m39c_nd (m39c_ks kSY kSB) rfl hc 6 (by decide) (Below.refl _ _) (fun u hu => by injection hu with hu; injection hu) (trivial))
    · have h1 : (m39cOps[7]?).map (·.dst) = some (some 139) := by kernel_rfl
      have h2 : (m39cOps[7]?).map (·.op) = some (Op.call { callee := Callee.value (Operand.func 10), args := #[Operand.tmp 138], argTypes := #[24] }) := by kernel_rfl
      have h3 : (m39cOps[7]?).map (·.guard) = some (some (4, true)) := by kernel_rfl
      rw [ho] at h1 h2 h3
      replace h1 := Option.some.inj h1
      replace h2 := Option.some.inj h2
      replace h3 := Option.some.inj h3
      simp only at h1 h2 h3
      rw [h1] at hK
      have l4 : L 4 = true := hdep 4 (by simp [m39cDep])
      have l6 : L 6 = true := hdep 6 (by simp [m39cDep])
      have hw := wanted_of (ops := m39cOps) (b := b) h3 (d := 136) (by kernel_rfl) (show Act.at b 136 = .bool true from hc.v 4 l4 _ rfl)
      rw [hw]
      refine ⟨fun _ => ?_, fun hq => absurd hq (by decide)⟩
      refine wp_callG 10 _ _ h2 (enters_of Tryd.func10 (by kernel_rfl) rfl) #[.agg tb.cells.toArray] (by simp [show b.eval (.tmp 138) = _ from (show Act.at b 138 = .agg tb.cells.toArray from hc.v 6 l6 _ rfl)]) _ (HWb w hbw) ?_
      rintro v w2 ⟨rfl, hb2⟩
      rw [h1]
      exact hK _ _ (FlatC.step m39c_nd (m39c_ks kSY kSB) rfl hc 7 (by decide) (hb2) (fun u hu => by injection hu with hu; injection hu) (trivial))
    · have h1 : (m39cOps[8]?).map (·.dst) = some (some 140) := by kernel_rfl
      have h2 : (m39cOps[8]?).map (·.op) = some (Op.binOp BinOp.eql 29 (Operand.tmp 137) (Operand.tmp 139) 29) := by kernel_rfl
      have h3 : (m39cOps[8]?).map (·.guard) = some (some (4, true)) := by kernel_rfl
      rw [ho] at h1 h2 h3
      replace h1 := Option.some.inj h1
      replace h2 := Option.some.inj h2
      replace h3 := Option.some.inj h3
      simp only at h1 h2 h3
      rw [h1] at hK
      have l4 : L 4 = true := hdep 4 (by simp [m39cDep])
      have l5 : L 5 = true := hdep 5 (by simp [m39cDep])
      have l7 : L 7 = true := hdep 7 (by simp [m39cDep])
      have hw := wanted_of (ops := m39cOps) (b := b) h3 (d := 136) (by kernel_rfl) (show Act.at b 136 = .bool true from hc.v 4 l4 _ rfl)
      rw [hw]
      refine ⟨fun _ => ?_, fun hq => absurd hq (by decide)⟩
      refine wp_binG _ _ _ _ _ h2 _ _ (.bool true) (show Act.at b 137 = .agg #[.int .i64 r2, .int .i64 s2] from hc.v 5 l5 _ rfl) (show Act.at b 139 = .agg #[.int .i64 r2, .int .i64 s2] from hc.v 7 l7 _ rfl) (by kernel_rfl) (eql_flt r2 s2 w) ?_
      rw [h1]
      exact hK _ _ (FlatC.step m39c_nd (m39c_ks kSY kSB) rfl hc 8 (by decide) (Below.refl _ _) (fun u hu => by injection hu with hu; injection hu) (trivial))
    · have h1 : (m39cOps[9]?).map (·.dst) = some (some 141) := by kernel_rfl
      have h2 : (m39cOps[9]?).map (·.op) = some (Op.pick (Operand.tmp 136) (Operand.tmp 140) (Operand.const (Value.bool false))) := by kernel_rfl
      have h3 : (m39cOps[9]?).map (·.guard) = some none := by kernel_rfl
      rw [ho] at h1 h2 h3
      replace h1 := Option.some.inj h1
      replace h2 := Option.some.inj h2
      replace h3 := Option.some.inj h3
      simp only at h1 h2 h3
      rw [h1] at hK
      have l4 : L 4 = true := hdep 4 (by simp [m39cDep])
      have l8 : L 8 = true := hdep 8 (by simp [m39cDep])
      refine ⟨fun _ => ?_, fun hw => by rw [wanted_none h3] at hw; cases hw⟩
      refine wp_pickG _ _ _ h2 true (show Act.at b 136 = .bool true from hc.v 4 l4 _ rfl) _ (if_pos rfl |>.trans (show Act.at b 140 = .bool true from hc.v 8 l8 _ rfl)) ?_
      rw [h1]
      exact hK _ _ (FlatC.step m39c_nd (m39c_ks kSY kSB) rfl hc 9 (by decide) (Below.refl _ _) (fun u hu => by injection hu with hu; injection hu) (trivial))
    · have h1 : (m39cOps[10]?).map (·.dst) = some (some 142) := by kernel_rfl
      have h2 : (m39cOps[10]?).map (·.op) = some (Op.move (Operand.tmp 141)) := by kernel_rfl
      have h3 : (m39cOps[10]?).map (·.guard) = some none := by kernel_rfl
      rw [ho] at h1 h2 h3
      replace h1 := Option.some.inj h1
      replace h2 := Option.some.inj h2
      replace h3 := Option.some.inj h3
      simp only at h1 h2 h3
      rw [h1] at hK
      have l9 : L 9 = true := hdep 9 (by simp [m39cDep])
      refine ⟨fun _ => ?_, fun hw => by rw [wanted_none h3] at hw; cases hw⟩
      refine wp_moveG _ h2 _ (show Act.at b 141 = .bool true from hc.v 9 l9 _ rfl) ?_
      rw [h1]
      exact hK _ _ (FlatC.step m39c_nd (m39c_ks kSY kSB) rfl hc 10 (by decide) (Below.refl _ _) (fun u hu => by injection hu with hu; injection hu) (trivial))
    · have h1 : (m39cOps[11]?).map (·.dst) = some (some 143) := by kernel_rfl
      have h2 : (m39cOps[11]?).map (·.op) = some (Op.fieldAddr 29 (Operand.tmp 16) 0) := by kernel_rfl
      have h3 : (m39cOps[11]?).map (·.guard) = some (some (10, true)) := by kernel_rfl
      rw [ho] at h1 h2 h3
      replace h1 := Option.some.inj h1
      replace h2 := Option.some.inj h2
      replace h3 := Option.some.inj h3
      simp only at h1 h2 h3
      rw [h1] at hK
      have l10 : L 10 = true := hdep 10 (by simp [m39cDep])
      have hw := wanted_of (ops := m39cOps) (b := b) h3 (d := 142) (by kernel_rfl) (show Act.at b 142 = .bool true from hc.v 10 l10 _ rfl)
      rw [hw]
      refine ⟨fun _ => ?_, fun hq => absurd hq (by decide)⟩
      refine wp_fieldG _ _ _ h2 _ _ ((hf 16 (by decide)).trans a16) (field_0F gf w) ?_
      rw [h1]
      exact hK _ _ (FlatC.step m39c_nd (m39c_ks kSY kSB) rfl hc 11 (by decide) (Below.refl _ _) (fun u hu => by injection hu with hu; injection hu) (trivial))
    · have h1 : (m39cOps[12]?).map (·.dst) = some (some 144) := by kernel_rfl
      have h2 : (m39cOps[12]?).map (·.op) = some (Op.load 27 (Operand.tmp 143)) := by kernel_rfl
      have h3 : (m39cOps[12]?).map (·.guard) = some (some (10, true)) := by kernel_rfl
      rw [ho] at h1 h2 h3
      replace h1 := Option.some.inj h1
      replace h2 := Option.some.inj h2
      replace h3 := Option.some.inj h3
      simp only at h1 h2 h3
      rw [h1] at hK
      have l10 : L 10 = true := hdep 10 (by simp [m39cDep])
      have l11 : L 11 = true := hdep 11 (by simp [m39cDep])
      have hw := wanted_of (ops := m39cOps) (b := b) h3 (d := 142) (by kernel_rfl) (show Act.at b 142 = .bool true from hc.v 10 l10 _ rfl)
      rw [hw]
      refine ⟨fun _ => ?_, fun hq => absurd hq (by decide)⟩
      refine wp_loadG _ _ h2 _ _ (show Act.at b 143 = .pointer (some ⟨gf, 0, none⟩) from hc.v 11 l11 _ rfl) (load_eF (Blk.at (show Blk w gf 29 [.int .i64 r1, .int .i64 s1] from (hbw.block gf hK16.lt).trans hK16) 0)) ?_
      rw [h1]
      exact hK _ _ (FlatC.step m39c_nd (m39c_ks kSY kSB) rfl hc 12 (by decide) (Below.refl _ _) (fun u hu => by injection hu with hu; injection hu) (trivial))
    · have h1 : (m39cOps[13]?).map (·.dst) = some (some 145) := by kernel_rfl
      have h2 : (m39cOps[13]?).map (·.op) = some (Op.binOp BinOp.neq 27 (Operand.tmp 144) (Operand.const (Value.int IntKind.i64 0)) 27) := by kernel_rfl
      have h3 : (m39cOps[13]?).map (·.guard) = some (some (10, true)) := by kernel_rfl
      rw [ho] at h1 h2 h3
      replace h1 := Option.some.inj h1
      replace h2 := Option.some.inj h2
      replace h3 := Option.some.inj h3
      simp only at h1 h2 h3
      rw [h1] at hK
      have l10 : L 10 = true := hdep 10 (by simp [m39cDep])
      have l12 : L 12 = true := hdep 12 (by simp [m39cDep])
      have hw := wanted_of (ops := m39cOps) (b := b) h3 (d := 142) (by kernel_rfl) (show Act.at b 142 = .bool true from hc.v 10 l10 _ rfl)
      rw [hw]
      refine ⟨fun _ => ?_, fun hq => absurd hq (by decide)⟩
      refine wp_binG _ _ _ _ _ h2 _ _ (.bool true) (show Act.at b 144 = .int .i64 r1 from hc.v 12 l12 _ rfl) rfl (by kernel_rfl) (HN1 w) ?_
      rw [h1]
      exact hK _ _ (FlatC.step m39c_nd (m39c_ks kSY kSB) rfl hc 13 (by decide) (Below.refl _ _) (fun u hu => by injection hu with hu; injection hu) (trivial))
    · have h1 : (m39cOps[14]?).map (·.dst) = some (some 146) := by kernel_rfl
      have h2 : (m39cOps[14]?).map (·.op) = some (Op.move (Operand.tmp 145)) := by kernel_rfl
      have h3 : (m39cOps[14]?).map (·.guard) = some (some (10, true)) := by kernel_rfl
      rw [ho] at h1 h2 h3
      replace h1 := Option.some.inj h1
      replace h2 := Option.some.inj h2
      replace h3 := Option.some.inj h3
      simp only at h1 h2 h3
      rw [h1] at hK
      have l10 : L 10 = true := hdep 10 (by simp [m39cDep])
      have l13 : L 13 = true := hdep 13 (by simp [m39cDep])
      have hw := wanted_of (ops := m39cOps) (b := b) h3 (d := 142) (by kernel_rfl) (show Act.at b 142 = .bool true from hc.v 10 l10 _ rfl)
      rw [hw]
      refine ⟨fun _ => ?_, fun hq => absurd hq (by decide)⟩
      refine wp_moveG _ h2 _ (show Act.at b 145 = .bool true from hc.v 13 l13 _ rfl) ?_
      rw [h1]
      exact hK _ _ (FlatC.step m39c_nd (m39c_ks kSY kSB) rfl hc 14 (by decide) (Below.refl _ _) (fun u hu => by injection hu with hu; injection hu) (trivial))
    · have h1 : (m39cOps[15]?).map (·.dst) = some (some 147) := by kernel_rfl
      have h2 : (m39cOps[15]?).map (·.op) = some (Op.load 24 (Operand.tmp 15)) := by kernel_rfl
      have h3 : (m39cOps[15]?).map (·.guard) = some (some (14, false)) := by kernel_rfl
      rw [ho] at h1 h2 h3
      replace h1 := Option.some.inj h1
      replace h2 := Option.some.inj h2
      replace h3 := Option.some.inj h3
      simp only at h1 h2 h3
      rw [h1] at hK
      have l14 : L 14 = true := hdep 14 (by simp [m39cDep])
      have hw := wanted_of (ops := m39cOps) (b := b) h3 (d := 146) (by kernel_rfl) (show Act.at b 146 = .bool true from hc.v 14 l14 _ rfl)
      rw [hw]
      refine ⟨fun hq => absurd hq (by decide), fun _ => ?_⟩
      rw [h1]
      exact hK _ _ (FlatC.step m39c_nd (m39c_ks kSY kSB) rfl hc 15 (by decide) (Below.refl _ _) (fun u hu => by injection hu with hu; injection hu) trivial)
    · have h1 : (m39cOps[16]?).map (·.dst) = some (some 148) := by kernel_rfl
      have h2 : (m39cOps[16]?).map (·.op) = some (Op.call { callee := Callee.value (Operand.func 18), args := #[Operand.tmp 147], argTypes := #[24] }) := by kernel_rfl
      have h3 : (m39cOps[16]?).map (·.guard) = some (some (14, false)) := by kernel_rfl
      rw [ho] at h1 h2 h3
      replace h1 := Option.some.inj h1
      replace h2 := Option.some.inj h2
      replace h3 := Option.some.inj h3
      simp only at h1 h2 h3
      rw [h1] at hK
      have l14 : L 14 = true := hdep 14 (by simp [m39cDep])
      have hw := wanted_of (ops := m39cOps) (b := b) h3 (d := 146) (by kernel_rfl) (show Act.at b 146 = .bool true from hc.v 14 l14 _ rfl)
      rw [hw]
      refine ⟨fun hq => absurd hq (by decide), fun _ => ?_⟩
      rw [h1]
      exact hK _ _ (FlatC.step m39c_nd (m39c_ks kSY kSB) rfl hc 16 (by decide) (Below.refl _ _) (fun u hu => by injection hu with hu; injection hu) trivial)
    · have h1 : (m39cOps[17]?).map (·.dst) = some (some 149) := by kernel_rfl
      have h2 : (m39cOps[17]?).map (·.op) = some (Op.call { callee := Callee.value (Operand.func 17), args := #[Operand.tmp 148, Operand.const (Value.string { data := #[44] })], argTypes := #[43, 9] }) := by kernel_rfl
      have h3 : (m39cOps[17]?).map (·.guard) = some (some (14, false)) := by kernel_rfl
      rw [ho] at h1 h2 h3
      replace h1 := Option.some.inj h1
      replace h2 := Option.some.inj h2
      replace h3 := Option.some.inj h3
      simp only at h1 h2 h3
      rw [h1] at hK
      have l14 : L 14 = true := hdep 14 (by simp [m39cDep])
      have hw := wanted_of (ops := m39cOps) (b := b) h3 (d := 146) (by kernel_rfl) (show Act.at b 146 = .bool true from hc.v 14 l14 _ rfl)
      rw [hw]
      refine ⟨fun hq => absurd hq (by decide), fun _ => ?_⟩
      rw [h1]
      exact hK _ _ (FlatC.step m39c_nd (m39c_ks kSY kSB) rfl hc 17 (by decide) (Below.refl _ _) (fun u hu => by injection hu with hu; injection hu) trivial)
    · have h1 : (m39cOps[18]?).map (·.dst) = some (some 150) := by kernel_rfl
      have h2 : (m39cOps[18]?).map (·.op) = some (Op.load 24 (Operand.tmp 13)) := by kernel_rfl
      have h3 : (m39cOps[18]?).map (·.guard) = some (some (14, false)) := by kernel_rfl
      rw [ho] at h1 h2 h3
      replace h1 := Option.some.inj h1
      replace h2 := Option.some.inj h2
      replace h3 := Option.some.inj h3
      simp only at h1 h2 h3
      rw [h1] at hK
      have l14 : L 14 = true := hdep 14 (by simp [m39cDep])
      have hw := wanted_of (ops := m39cOps) (b := b) h3 (d := 146) (by kernel_rfl) (show Act.at b 146 = .bool true from hc.v 14 l14 _ rfl)
      rw [hw]
      refine ⟨fun hq => absurd hq (by decide), fun _ => ?_⟩
      rw [h1]
      exact hK _ _ (FlatC.step m39c_nd (m39c_ks kSY kSB) rfl hc 18 (by decide) (Below.refl _ _) (fun u hu => by injection hu with hu; injection hu) trivial)
    · have h1 : (m39cOps[19]?).map (·.dst) = some (some 151) := by kernel_rfl
      have h2 : (m39cOps[19]?).map (·.op) = some (Op.call { callee := Callee.value (Operand.func 18), args := #[Operand.tmp 150], argTypes := #[24] }) := by kernel_rfl
      have h3 : (m39cOps[19]?).map (·.guard) = some (some (14, false)) := by kernel_rfl
      rw [ho] at h1 h2 h3
      replace h1 := Option.some.inj h1
      replace h2 := Option.some.inj h2
      replace h3 := Option.some.inj h3
      simp only at h1 h2 h3
      rw [h1] at hK
      have l14 : L 14 = true := hdep 14 (by simp [m39cDep])
      have hw := wanted_of (ops := m39cOps) (b := b) h3 (d := 146) (by kernel_rfl) (show Act.at b 146 = .bool true from hc.v 14 l14 _ rfl)
      rw [hw]
      refine ⟨fun hq => absurd hq (by decide), fun _ => ?_⟩
      rw [h1]
      exact hK _ _ (FlatC.step m39c_nd (m39c_ks kSY kSB) rfl hc 19 (by decide) (Below.refl _ _) (fun u hu => by injection hu with hu; injection hu) trivial)
    · have h1 : (m39cOps[20]?).map (·.dst) = some (some 152) := by kernel_rfl
      have h2 : (m39cOps[20]?).map (·.op) = some (Op.call { callee := Callee.value (Operand.func 17), args := #[Operand.tmp 151, Operand.const (Value.string { data := #[44] })], argTypes := #[43, 9] }) := by kernel_rfl
      have h3 : (m39cOps[20]?).map (·.guard) = some (some (14, false)) := by kernel_rfl
      rw [ho] at h1 h2 h3
      replace h1 := Option.some.inj h1
      replace h2 := Option.some.inj h2
      replace h3 := Option.some.inj h3
      simp only at h1 h2 h3
      rw [h1] at hK
      have l14 : L 14 = true := hdep 14 (by simp [m39cDep])
      have hw := wanted_of (ops := m39cOps) (b := b) h3 (d := 146) (by kernel_rfl) (show Act.at b 146 = .bool true from hc.v 14 l14 _ rfl)
      rw [hw]
      refine ⟨fun hq => absurd hq (by decide), fun _ => ?_⟩
      rw [h1]
      exact hK _ _ (FlatC.step m39c_nd (m39c_ks kSY kSB) rfl hc 20 (by decide) (Below.refl _ _) (fun u hu => by injection hu with hu; injection hu) trivial)
    · have h1 : (m39cOps[21]?).map (·.dst) = some (some 153) := by kernel_rfl
      have h2 : (m39cOps[21]?).map (·.op) = some (Op.binOp BinOp.eql 9 (Operand.tmp 149) (Operand.tmp 152) 9) := by kernel_rfl
      have h3 : (m39cOps[21]?).map (·.guard) = some (some (14, false)) := by kernel_rfl
      rw [ho] at h1 h2 h3
      replace h1 := Option.some.inj h1
      replace h2 := Option.some.inj h2
      replace h3 := Option.some.inj h3
      simp only at h1 h2 h3
      rw [h1] at hK
      have l14 : L 14 = true := hdep 14 (by simp [m39cDep])
      have hw := wanted_of (ops := m39cOps) (b := b) h3 (d := 146) (by kernel_rfl) (show Act.at b 146 = .bool true from hc.v 14 l14 _ rfl)
      rw [hw]
      refine ⟨fun hq => absurd hq (by decide), fun _ => ?_⟩
      rw [h1]
      exact hK _ _ (FlatC.step m39c_nd (m39c_ks kSY kSB) rfl hc 21 (by decide) (Below.refl _ _) (fun u hu => by injection hu with hu; injection hu) trivial)
    · have h1 : (m39cOps[22]?).map (·.dst) = some (some 154) := by kernel_rfl
      have h2 : (m39cOps[22]?).map (·.op) = some (Op.pick (Operand.tmp 146) (Operand.const (Value.bool true)) (Operand.tmp 153)) := by kernel_rfl
      have h3 : (m39cOps[22]?).map (·.guard) = some (some (10, true)) := by kernel_rfl
      rw [ho] at h1 h2 h3
      replace h1 := Option.some.inj h1
      replace h2 := Option.some.inj h2
      replace h3 := Option.some.inj h3
      simp only at h1 h2 h3
      rw [h1] at hK
      have l10 : L 10 = true := hdep 10 (by simp [m39cDep])
      have l14 : L 14 = true := hdep 14 (by simp [m39cDep])
      have hw := wanted_of (ops := m39cOps) (b := b) h3 (d := 142) (by kernel_rfl) (show Act.at b 142 = .bool true from hc.v 10 l10 _ rfl)
      rw [hw]
      refine ⟨fun _ => ?_, fun hq => absurd hq (by decide)⟩
      refine wp_pickG _ _ _ h2 true (show Act.at b 146 = .bool true from hc.v 14 l14 _ rfl) _ (if_pos rfl |>.trans rfl) ?_
      rw [h1]
      exact hK _ _ (FlatC.step m39c_nd (m39c_ks kSY kSB) rfl hc 22 (by decide) (Below.refl _ _) (fun u hu => by injection hu with hu; injection hu) (trivial))
    · have h1 : (m39cOps[23]?).map (·.dst) = some (some 155) := by kernel_rfl
      have h2 : (m39cOps[23]?).map (·.op) = some (Op.pick (Operand.tmp 142) (Operand.tmp 154) (Operand.const (Value.bool false))) := by kernel_rfl
      have h3 : (m39cOps[23]?).map (·.guard) = some none := by kernel_rfl
      rw [ho] at h1 h2 h3
      replace h1 := Option.some.inj h1
      replace h2 := Option.some.inj h2
      replace h3 := Option.some.inj h3
      simp only at h1 h2 h3
      rw [h1] at hK
      have l10 : L 10 = true := hdep 10 (by simp [m39cDep])
      have l22 : L 22 = true := hdep 22 (by simp [m39cDep])
      refine ⟨fun _ => ?_, fun hw => by rw [wanted_none h3] at hw; cases hw⟩
      refine wp_pickG _ _ _ h2 true (show Act.at b 142 = .bool true from hc.v 10 l10 _ rfl) _ (if_pos rfl |>.trans (show Act.at b 154 = .bool true from hc.v 22 l22 _ rfl)) ?_
      rw [h1]
      exact hK _ _ (FlatC.step m39c_nd (m39c_ks kSY kSB) rfl hc 23 (by decide) (Below.refl _ _) (fun u hu => by injection hu with hu; injection hu) (trivial))
    · have h1 : (m39cOps[24]?).map (·.dst) = some (some 156) := by kernel_rfl
      have h2 : (m39cOps[24]?).map (·.op) = some (Op.move (Operand.tmp 155)) := by kernel_rfl
      have h3 : (m39cOps[24]?).map (·.guard) = some none := by kernel_rfl
      rw [ho] at h1 h2 h3
      replace h1 := Option.some.inj h1
      replace h2 := Option.some.inj h2
      replace h3 := Option.some.inj h3
      simp only at h1 h2 h3
      rw [h1] at hK
      have l23 : L 23 = true := hdep 23 (by simp [m39cDep])
      refine ⟨fun _ => ?_, fun hw => by rw [wanted_none h3] at hw; cases hw⟩
      refine wp_moveG _ h2 _ (show Act.at b 155 = .bool true from hc.v 23 l23 _ rfl) ?_
      rw [h1]
      exact hK _ _ (FlatC.step m39c_nd (m39c_ks kSY kSB) rfl hc 24 (by decide) (Below.refl _ _) (fun u hu => by injection hu with hu; injection hu) (trivial))
    · have h1 : (m39cOps[25]?).map (·.dst) = some (some 157) := by kernel_rfl
      have h2 : (m39cOps[25]?).map (·.op) = some (Op.fieldAddr 29 (Operand.tmp 18) 0) := by kernel_rfl
      have h3 : (m39cOps[25]?).map (·.guard) = some (some (24, true)) := by kernel_rfl
      rw [ho] at h1 h2 h3
      replace h1 := Option.some.inj h1
      replace h2 := Option.some.inj h2
      replace h3 := Option.some.inj h3
      simp only at h1 h2 h3
      rw [h1] at hK
      have l24 : L 24 = true := hdep 24 (by simp [m39cDep])
      have hw := wanted_of (ops := m39cOps) (b := b) h3 (d := 156) (by kernel_rfl) (show Act.at b 156 = .bool true from hc.v 24 l24 _ rfl)
      rw [hw]
      refine ⟨fun _ => ?_, fun hq => absurd hq (by decide)⟩
      refine wp_fieldG _ _ _ h2 _ _ ((hf 18 (by decide)).trans a18) (field_0F gh w) ?_
      rw [h1]
      exact hK _ _ (FlatC.step m39c_nd (m39c_ks kSY kSB) rfl hc 25 (by decide) (Below.refl _ _) (fun u hu => by injection hu with hu; injection hu) (trivial))
    · have h1 : (m39cOps[26]?).map (·.dst) = some (some 158) := by kernel_rfl
      have h2 : (m39cOps[26]?).map (·.op) = some (Op.load 27 (Operand.tmp 157)) := by kernel_rfl
      have h3 : (m39cOps[26]?).map (·.guard) = some (some (24, true)) := by kernel_rfl
      rw [ho] at h1 h2 h3
      replace h1 := Option.some.inj h1
      replace h2 := Option.some.inj h2
      replace h3 := Option.some.inj h3
      simp only at h1 h2 h3
      rw [h1] at hK
      have l24 : L 24 = true := hdep 24 (by simp [m39cDep])
      have l25 : L 25 = true := hdep 25 (by simp [m39cDep])
      have hw := wanted_of (ops := m39cOps) (b := b) h3 (d := 156) (by kernel_rfl) (show Act.at b 156 = .bool true from hc.v 24 l24 _ rfl)
      rw [hw]
      refine ⟨fun _ => ?_, fun hq => absurd hq (by decide)⟩
      refine wp_loadG _ _ h2 _ _ (show Act.at b 157 = .pointer (some ⟨gh, 0, none⟩) from hc.v 25 l25 _ rfl) (load_eF (Blk.at (show Blk w gh 29 [.int .i64 r2, .int .i64 s2] from (hbw.block gh hK18.lt).trans hK18) 0)) ?_
      rw [h1]
      exact hK _ _ (FlatC.step m39c_nd (m39c_ks kSY kSB) rfl hc 26 (by decide) (Below.refl _ _) (fun u hu => by injection hu with hu; injection hu) (trivial))
    · have h1 : (m39cOps[27]?).map (·.dst) = some (some 159) := by kernel_rfl
      have h2 : (m39cOps[27]?).map (·.op) = some (Op.binOp BinOp.neq 27 (Operand.tmp 158) (Operand.const (Value.int IntKind.i64 0)) 27) := by kernel_rfl
      have h3 : (m39cOps[27]?).map (·.guard) = some (some (24, true)) := by kernel_rfl
      rw [ho] at h1 h2 h3
      replace h1 := Option.some.inj h1
      replace h2 := Option.some.inj h2
      replace h3 := Option.some.inj h3
      simp only at h1 h2 h3
      rw [h1] at hK
      have l24 : L 24 = true := hdep 24 (by simp [m39cDep])
      have l26 : L 26 = true := hdep 26 (by simp [m39cDep])
      have hw := wanted_of (ops := m39cOps) (b := b) h3 (d := 156) (by kernel_rfl) (show Act.at b 156 = .bool true from hc.v 24 l24 _ rfl)
      rw [hw]
      refine ⟨fun _ => ?_, fun hq => absurd hq (by decide)⟩
      refine wp_binG _ _ _ _ _ h2 _ _ (.bool false) (show Act.at b 158 = .int .i64 r2 from hc.v 26 l26 _ rfl) rfl (by kernel_rfl) (HN2 w) ?_
      rw [h1]
      exact hK _ _ (FlatC.step m39c_nd (m39c_ks kSY kSB) rfl hc 27 (by decide) (Below.refl _ _) (fun u hu => by injection hu with hu; injection hu) (trivial))
    · have h1 : (m39cOps[28]?).map (·.dst) = some (some 160) := by kernel_rfl
      have h2 : (m39cOps[28]?).map (·.op) = some (Op.move (Operand.tmp 159)) := by kernel_rfl
      have h3 : (m39cOps[28]?).map (·.guard) = some (some (24, true)) := by kernel_rfl
      rw [ho] at h1 h2 h3
      replace h1 := Option.some.inj h1
      replace h2 := Option.some.inj h2
      replace h3 := Option.some.inj h3
      simp only at h1 h2 h3
      rw [h1] at hK
      have l24 : L 24 = true := hdep 24 (by simp [m39cDep])
      have l27 : L 27 = true := hdep 27 (by simp [m39cDep])
      have hw := wanted_of (ops := m39cOps) (b := b) h3 (d := 156) (by kernel_rfl) (show Act.at b 156 = .bool true from hc.v 24 l24 _ rfl)
      rw [hw]
      refine ⟨fun _ => ?_, fun hq => absurd hq (by decide)⟩
      refine wp_moveG _ h2 _ (show Act.at b 159 = .bool false from hc.v 27 l27 _ rfl) ?_
      rw [h1]
      exact hK _ _ (FlatC.step m39c_nd (m39c_ks kSY kSB) rfl hc 28 (by decide) (Below.refl _ _) (fun u hu => by injection hu with hu; injection hu) (trivial))
    · have h1 : (m39cOps[29]?).map (·.dst) = some (some 161) := by kernel_rfl
      have h2 : (m39cOps[29]?).map (·.op) = some (Op.load 24 (Operand.tmp 17)) := by kernel_rfl
      have h3 : (m39cOps[29]?).map (·.guard) = some (some (28, false)) := by kernel_rfl
      rw [ho] at h1 h2 h3
      replace h1 := Option.some.inj h1
      replace h2 := Option.some.inj h2
      replace h3 := Option.some.inj h3
      simp only at h1 h2 h3
      rw [h1] at hK
      have l28 : L 28 = true := hdep 28 (by simp [m39cDep])
      have hw := wanted_of (ops := m39cOps) (b := b) h3 (d := 160) (by kernel_rfl) (show Act.at b 160 = .bool false from hc.v 28 l28 _ rfl)
      rw [hw]
      refine ⟨fun _ => ?_, fun hq => absurd hq (by decide)⟩
      refine wp_load_row 24 (.tmp 17) h2 gy ((hf 17 (by decide)).trans a17) 24 ty.cells.toArray (0, 0) _ ((hbw.block gy hK17.lt).trans hK17) Tryd.underlying24 rfl rfl ?_
      rw [h1]
      exact hK _ _ (FlatC.step m39c_nd (m39c_ks kSY kSB) rfl hc 29 (by decide) (Below.refl _ _) (fun u hu => by injection hu with hu; injection hu) (trivial))
    · have h1 : (m39cOps[30]?).map (·.dst) = some (some 162) := by kernel_rfl
      have h2 : (m39cOps[30]?).map (·.op) = some (Op.call { callee := Callee.value (Operand.func 18), args := #[Operand.tmp 161], argTypes := #[24] }) := by kernel_rfl
      have h3 : (m39cOps[30]?).map (·.guard) = some (some (28, false)) := by kernel_rfl
      rw [ho] at h1 h2 h3
      replace h1 := Option.some.inj h1
      replace h2 := Option.some.inj h2
      replace h3 := Option.some.inj h3
      simp only at h1 h2 h3
      rw [h1] at hK
      have l28 : L 28 = true := hdep 28 (by simp [m39cDep])
      have l29 : L 29 = true := hdep 29 (by simp [m39cDep])
      have hw := wanted_of (ops := m39cOps) (b := b) h3 (d := 160) (by kernel_rfl) (show Act.at b 160 = .bool false from hc.v 28 l28 _ rfl)
      rw [hw]
      refine ⟨fun _ => ?_, fun hq => absurd hq (by decide)⟩
      refine wp_callG 18 _ _ h2 (enters_of Tryd.func18 (by kernel_rfl) rfl) #[.agg ty.cells.toArray] (by simp [show b.eval (.tmp 161) = _ from (show Act.at b 161 = .agg ty.cells.toArray from hc.v 29 l29 _ rfl)]) _ (HLy w hbw) ?_
      rintro v w2 ⟨hp2, hb2⟩
      rw [h1]
      exact hK _ _ (FlatC.step m39c_nd (m39c_ks kSY kSB) rfl hc 30 (by decide) (hb2) (fun u hu => by cases hu) (hp2))
    · have h1 : (m39cOps[31]?).map (·.dst) = some (some 163) := by kernel_rfl
      have h2 : (m39cOps[31]?).map (·.op) = some (Op.call { callee := Callee.value (Operand.func 17), args := #[Operand.tmp 162, Operand.const (Value.string { data := #[44] })], argTypes := #[43, 9] }) := by kernel_rfl
      have h3 : (m39cOps[31]?).map (·.guard) = some (some (28, false)) := by kernel_rfl
      rw [ho] at h1 h2 h3
      replace h1 := Option.some.inj h1
      replace h2 := Option.some.inj h2
      replace h3 := Option.some.inj h3
      simp only at h1 h2 h3
      rw [h1] at hK
      have l28 : L 28 = true := hdep 28 (by simp [m39cDep])
      have hw := wanted_of (ops := m39cOps) (b := b) h3 (d := 160) (by kernel_rfl) (show Act.at b 160 = .bool false from hc.v 28 l28 _ rfl)
      rw [hw]
      refine ⟨fun _ => ?_, fun hq => absurd hq (by decide)⟩
      have l30 : L 30 = true := hdep 30 (by simp [m39cDep])
      have hp := hc.s 30 l30 (by decide)
      refine wp_callG 17 _ _ h2 (enters_of Tryd.func17 (by kernel_rfl) rfl) #[Act.at b 162, Value.string { data := #[44] }] (by simp [show b.eval (.tmp 162) = Act.at b 162 from rfl, show b.eval (Operand.const (Value.string { data := #[44] })) = Value.string { data := #[44] } from rfl]) _ (HJy _ w hp hbw) ?_
      rintro v w2 ⟨rfl, hb2⟩
      rw [h1]
      exact hK _ _ (FlatC.step m39c_nd (m39c_ks kSY kSB) rfl hc 31 (by decide) (hb2) (fun u hu => by injection hu with hu; injection hu) (trivial))
    · have h1 : (m39cOps[32]?).map (·.dst) = some (some 164) := by kernel_rfl
      have h2 : (m39cOps[32]?).map (·.op) = some (Op.load 24 (Operand.tmp 14)) := by kernel_rfl
      have h3 : (m39cOps[32]?).map (·.guard) = some (some (28, false)) := by kernel_rfl
      rw [ho] at h1 h2 h3
      replace h1 := Option.some.inj h1
      replace h2 := Option.some.inj h2
      replace h3 := Option.some.inj h3
      simp only at h1 h2 h3
      rw [h1] at hK
      have l28 : L 28 = true := hdep 28 (by simp [m39cDep])
      have hw := wanted_of (ops := m39cOps) (b := b) h3 (d := 160) (by kernel_rfl) (show Act.at b 160 = .bool false from hc.v 28 l28 _ rfl)
      rw [hw]
      refine ⟨fun _ => ?_, fun hq => absurd hq (by decide)⟩
      refine wp_load_row 24 (.tmp 14) h2 gB ((hf 14 (by decide)).trans a14) 24 tb.cells.toArray (0, 0) _ ((hbw.block gB hK14.lt).trans hK14) Tryd.underlying24 rfl rfl ?_
      rw [h1]
      exact hK _ _ (FlatC.step m39c_nd (m39c_ks kSY kSB) rfl hc 32 (by decide) (Below.refl _ _) (fun u hu => by injection hu with hu; injection hu) (trivial))
    · have h1 : (m39cOps[33]?).map (·.dst) = some (some 165) := by kernel_rfl
      have h2 : (m39cOps[33]?).map (·.op) = some (Op.call { callee := Callee.value (Operand.func 18), args := #[Operand.tmp 164], argTypes := #[24] }) := by kernel_rfl
      have h3 : (m39cOps[33]?).map (·.guard) = some (some (28, false)) := by kernel_rfl
      rw [ho] at h1 h2 h3
      replace h1 := Option.some.inj h1
      replace h2 := Option.some.inj h2
      replace h3 := Option.some.inj h3
      simp only at h1 h2 h3
      rw [h1] at hK
      have l28 : L 28 = true := hdep 28 (by simp [m39cDep])
      have l32 : L 32 = true := hdep 32 (by simp [m39cDep])
      have hw := wanted_of (ops := m39cOps) (b := b) h3 (d := 160) (by kernel_rfl) (show Act.at b 160 = .bool false from hc.v 28 l28 _ rfl)
      rw [hw]
      refine ⟨fun _ => ?_, fun hq => absurd hq (by decide)⟩
      refine wp_callG 18 _ _ h2 (enters_of Tryd.func18 (by kernel_rfl) rfl) #[.agg tb.cells.toArray] (by simp [show b.eval (.tmp 164) = _ from (show Act.at b 164 = .agg tb.cells.toArray from hc.v 32 l32 _ rfl)]) _ (HLb w hbw) ?_
      rintro v w2 ⟨hp2, hb2⟩
      rw [h1]
      exact hK _ _ (FlatC.step m39c_nd (m39c_ks kSY kSB) rfl hc 33 (by decide) (hb2) (fun u hu => by cases hu) (hp2))
    · have h1 : (m39cOps[34]?).map (·.dst) = some (some 166) := by kernel_rfl
      have h2 : (m39cOps[34]?).map (·.op) = some (Op.call { callee := Callee.value (Operand.func 17), args := #[Operand.tmp 165, Operand.const (Value.string { data := #[44] })], argTypes := #[43, 9] }) := by kernel_rfl
      have h3 : (m39cOps[34]?).map (·.guard) = some (some (28, false)) := by kernel_rfl
      rw [ho] at h1 h2 h3
      replace h1 := Option.some.inj h1
      replace h2 := Option.some.inj h2
      replace h3 := Option.some.inj h3
      simp only at h1 h2 h3
      rw [h1] at hK
      have l28 : L 28 = true := hdep 28 (by simp [m39cDep])
      have hw := wanted_of (ops := m39cOps) (b := b) h3 (d := 160) (by kernel_rfl) (show Act.at b 160 = .bool false from hc.v 28 l28 _ rfl)
      rw [hw]
      refine ⟨fun _ => ?_, fun hq => absurd hq (by decide)⟩
      have l33 : L 33 = true := hdep 33 (by simp [m39cDep])
      have hp := hc.s 33 l33 (by decide)
      refine wp_callG 17 _ _ h2 (enters_of Tryd.func17 (by kernel_rfl) rfl) #[Act.at b 165, Value.string { data := #[44] }] (by simp [show b.eval (.tmp 165) = Act.at b 165 from rfl, show b.eval (Operand.const (Value.string { data := #[44] })) = Value.string { data := #[44] } from rfl]) _ (HJb _ w hp hbw) ?_
      rintro v w2 ⟨rfl, hb2⟩
      rw [h1]
      exact hK _ _ (FlatC.step m39c_nd (m39c_ks kSY kSB) rfl hc 34 (by decide) (hb2) (fun u hu => by injection hu with hu; injection hu) (trivial))
    · have h1 : (m39cOps[35]?).map (·.dst) = some (some 167) := by kernel_rfl
      have h2 : (m39cOps[35]?).map (·.op) = some (Op.binOp BinOp.eql 9 (Operand.tmp 163) (Operand.tmp 166) 9) := by kernel_rfl
      have h3 : (m39cOps[35]?).map (·.guard) = some (some (28, false)) := by kernel_rfl
      rw [ho] at h1 h2 h3
      replace h1 := Option.some.inj h1
      replace h2 := Option.some.inj h2
      replace h3 := Option.some.inj h3
      simp only at h1 h2 h3
      rw [h1] at hK
      have l28 : L 28 = true := hdep 28 (by simp [m39cDep])
      have l31 : L 31 = true := hdep 31 (by simp [m39cDep])
      have l34 : L 34 = true := hdep 34 (by simp [m39cDep])
      have hw := wanted_of (ops := m39cOps) (b := b) h3 (d := 160) (by kernel_rfl) (show Act.at b 160 = .bool false from hc.v 28 l28 _ rfl)
      rw [hw]
      refine ⟨fun _ => ?_, fun hq => absurd hq (by decide)⟩
      refine wp_binG _ _ _ _ _ h2 _ _ (.bool true) (show Act.at b 163 = Value.string JY from hc.v 31 l31 _ rfl) (show Act.at b 166 = Value.string JY from hc.v 34 l34 _ rfl) (by kernel_rfl) (eql_strs JY w) ?_
      rw [h1]
      exact hK _ _ (FlatC.step m39c_nd (m39c_ks kSY kSB) rfl hc 35 (by decide) (Below.refl _ _) (fun u hu => by injection hu with hu; injection hu) (trivial))
    · have h1 : (m39cOps[36]?).map (·.dst) = some (some 168) := by kernel_rfl
      have h2 : (m39cOps[36]?).map (·.op) = some (Op.pick (Operand.tmp 160) (Operand.const (Value.bool true)) (Operand.tmp 167)) := by kernel_rfl
      have h3 : (m39cOps[36]?).map (·.guard) = some (some (24, true)) := by kernel_rfl
      rw [ho] at h1 h2 h3
      replace h1 := Option.some.inj h1
      replace h2 := Option.some.inj h2
      replace h3 := Option.some.inj h3
      simp only at h1 h2 h3
      rw [h1] at hK
      have l24 : L 24 = true := hdep 24 (by simp [m39cDep])
      have l28 : L 28 = true := hdep 28 (by simp [m39cDep])
      have l35 : L 35 = true := hdep 35 (by simp [m39cDep])
      have hw := wanted_of (ops := m39cOps) (b := b) h3 (d := 156) (by kernel_rfl) (show Act.at b 156 = .bool true from hc.v 24 l24 _ rfl)
      rw [hw]
      refine ⟨fun _ => ?_, fun hq => absurd hq (by decide)⟩
      refine wp_pickG _ _ _ h2 false (show Act.at b 160 = .bool false from hc.v 28 l28 _ rfl) _ (if_neg (by decide) |>.trans (show Act.at b 167 = .bool true from hc.v 35 l35 _ rfl)) ?_
      rw [h1]
      exact hK _ _ (FlatC.step m39c_nd (m39c_ks kSY kSB) rfl hc 36 (by decide) (Below.refl _ _) (fun u hu => by injection hu with hu; injection hu) (trivial))
    · have h1 : (m39cOps[37]?).map (·.dst) = some (some 169) := by kernel_rfl
      have h2 : (m39cOps[37]?).map (·.op) = some (Op.pick (Operand.tmp 156) (Operand.tmp 168) (Operand.const (Value.bool false))) := by kernel_rfl
      have h3 : (m39cOps[37]?).map (·.guard) = some none := by kernel_rfl
      rw [ho] at h1 h2 h3
      replace h1 := Option.some.inj h1
      replace h2 := Option.some.inj h2
      replace h3 := Option.some.inj h3
      simp only at h1 h2 h3
      rw [h1] at hK
      have l24 : L 24 = true := hdep 24 (by simp [m39cDep])
      have l36 : L 36 = true := hdep 36 (by simp [m39cDep])
      refine ⟨fun _ => ?_, fun hw => by rw [wanted_none h3] at hw; cases hw⟩
      refine wp_pickG _ _ _ h2 true (show Act.at b 156 = .bool true from hc.v 24 l24 _ rfl) _ (if_pos rfl |>.trans (show Act.at b 168 = .bool true from hc.v 36 l36 _ rfl)) ?_
      rw [h1]
      exact hK _ _ (FlatC.step m39c_nd (m39c_ks kSY kSB) rfl hc 37 (by decide) (Below.refl _ _) (fun u hu => by injection hu with hu; injection hu) (trivial))
    · have h1 : (m39cOps[38]?).map (·.dst) = some (some 6) := by kernel_rfl
      have h2 : (m39cOps[38]?).map (·.op) = some (Op.assign (Operand.tmp 169)) := by kernel_rfl
      have h3 : (m39cOps[38]?).map (·.guard) = some none := by kernel_rfl
      rw [ho] at h1 h2 h3
      replace h1 := Option.some.inj h1
      replace h2 := Option.some.inj h2
      replace h3 := Option.some.inj h3
      simp only at h1 h2 h3
      rw [h1] at hK
      have l37 : L 37 = true := hdep 37 (by simp [m39cDep])
      refine ⟨fun _ => ?_, fun hw => by rw [wanted_none h3] at hw; cases hw⟩
      refine wp_assignG _ h2 _ (show Act.at b 169 = .bool true from hc.v 37 l37 _ rfl) ?_
      rw [h1]
      exact hK _ _ (FlatC.step m39c_nd (m39c_ks kSY kSB) rfl hc 38 (by decide) (Below.refl _ _) (fun u hu => by injection hu with hu; injection hu) (trivial))
  · rintro L b w hL hd hs hf hc
    have hsz2 : m39cOps.size = 39 := rfl
    rw [hsz2] at hL
    have e := act_eq (a := A0) (b := b) (m39cUs (Act.at b)) hd hs hf (by
      intro p hp
      simp only [m39cUs, List.mem_cons, List.not_mem_nil, or_false] at hp
      rcases hp with rfl | rfl | rfl | rfl | rfl | rfl | rfl | rfl | rfl | rfl | rfl | rfl | rfl | rfl | rfl | rfl | rfl | rfl | rfl | rfl | rfl | rfl | rfl | rfl | rfl | rfl | rfl | rfl | rfl | rfl | rfl | rfl | rfl | rfl | rfl | rfl | rfl | rfl | rfl <;> rfl) (by rw [show (m39cUs (Act.at b)).map (·.1) = [132, 133, 134, 135, 136, 137, 138, 139, 140, 141, 142, 143, 144, 145, 146, 147, 148, 149, 150, 151, 152, 153, 154, 155, 156, 157, 158, 159, 160, 161, 162, 163, 164, 165, 166, 167, 168, 169, 6] from rfl]; decide)
    rw [e]
    exact hk (Act.at b) w (hc.v 38 (hL 38 (by omega)) _ rfl) ⟨hc.bel.os, hc.bel.tape, hc.bel.output, hc.bel.size, hc.bel.block⟩
def m39dOps : Array Oper := #[{ dst := some 132, op := Op.load 29 (Operand.tmp 16), type := 29, pos := "law.go:182", after := #[], guard := none }, { dst := some 133, op := Op.load 24 (Operand.tmp 13), type := 24, pos := "law.go:182", after := #[], guard := none }, { dst := some 134, op := Op.call { callee := Callee.value (Operand.func 10), args := #[Operand.tmp 133], argTypes := #[24] }, type := 29, pos := "law.go:182", after := #[{ on := 1, ground := Ground.data }], guard := none }, { dst := some 135, op := Op.binOp BinOp.eql 29 (Operand.tmp 132) (Operand.tmp 134) 29, type := 4, pos := "law.go:182", after := #[{ on := 0, ground := Ground.data }, { on := 2, ground := Ground.data }], guard := none }, { dst := some 136, op := Op.move (Operand.tmp 135), type := 4, pos := "law.go:182", after := #[{ on := 3, ground := Ground.data }, { on := 2, ground := Ground.chain }], guard := none }, { dst := some 137, op := Op.load 29 (Operand.tmp 18), type := 29, pos := "law.go:182", after := #[{ on := 4, ground := Ground.guard }], guard := some (4, true) }, { dst := some 138, op := Op.load 24 (Operand.tmp 14), type := 24, pos := "law.go:182", after := #[{ on := 4, ground := Ground.guard }], guard := some (4, true) }, { dst := some 139, op := Op.call { callee := Callee.value (Operand.func 10), args := #[Operand.tmp 138], argTypes := #[24] }, type := 29, pos := "law.go:182", after := #[{ on := 6, ground := Ground.data }, { on := 4, ground := Ground.chain }, { on := 4, ground := Ground.guard }], guard := some (4, true) }, { dst := some 140, op := Op.binOp BinOp.eql 29 (Operand.tmp 137) (Operand.tmp 139) 29, type := 4, pos := "law.go:182", after := #[{ on := 5, ground := Ground.data }, { on := 7, ground := Ground.data }, { on := 4, ground := Ground.guard }], guard := some (4, true) }, { dst := some 141, op := Op.pick (Operand.tmp 136) (Operand.tmp 140) (Operand.const (Value.bool false)), type := 4, pos := "law.go:182", after := #[{ on := 4, ground := Ground.data }, { on := 8, ground := Ground.data }], guard := none }, { dst := some 142, op := Op.move (Operand.tmp 141), type := 4, pos := "law.go:182", after := #[{ on := 9, ground := Ground.data }, { on := 7, ground := Ground.chain }], guard := none }, { dst := some 143, op := Op.fieldAddr 29 (Operand.tmp 16) 0, type := 0, pos := "law.go:182", after := #[{ on := 10, ground := Ground.guard }], guard := some (10, true) }, { dst := some 144, op := Op.load 27 (Operand.tmp 143), type := 27, pos := "law.go:182", after := #[{ on := 11, ground := Ground.data }, { on := 10, ground := Ground.guard }], guard := some (10, true) }, { dst := some 145, op := Op.binOp BinOp.neq 27 (Operand.tmp 144) (Operand.const (Value.int IntKind.i64 0)) 27, type := 4, pos := "law.go:182", after := #[{ on := 12, ground := Ground.data }, { on := 10, ground := Ground.guard }], guard := some (10, true) }, { dst := some 146, op := Op.move (Operand.tmp 145), type := 4, pos := "law.go:182", after := #[{ on := 13, ground := Ground.data }, { on := 10, ground := Ground.chain }, { on := 10, ground := Ground.guard }], guard := some (10, true) }, { dst := some 147, op := Op.load 24 (Operand.tmp 15), type := 24, pos := "law.go:182", after := #[{ on := 14, ground := Ground.guard }], guard := some (14, false) }, { dst := some 148, op := Op.call { callee := Callee.value (Operand.func 18), args := #[Operand.tmp 147], argTypes := #[24] }, type := 43, pos := "law.go:182", after := #[{ on := 15, ground := Ground.data }, { on := 14, ground := Ground.chain }, { on := 14, ground := Ground.guard }], guard := some (14, false) }, { dst := some 149, op := Op.call { callee := Callee.value (Operand.func 17), args := #[Operand.tmp 148, Operand.const (Value.string { data := #[44] })], argTypes := #[43, 9] }, type := 9, pos := "law.go:182", after := #[{ on := 16, ground := Ground.data }, { on := 16, ground := Ground.chain }, { on := 14, ground := Ground.guard }], guard := some (14, false) }, { dst := some 150, op := Op.load 24 (Operand.tmp 13), type := 24, pos := "law.go:182", after := #[{ on := 14, ground := Ground.guard }], guard := some (14, false) }, { dst := some 151, op := Op.call { callee := Callee.value (Operand.func 18), args := #[Operand.tmp 150], argTypes := #[24] }, type := 43, pos := "law.go:182", after := #[{ on := 18, ground := Ground.data }, { on := 17, ground := Ground.chain }, { on := 14, ground := Ground.guard }], guard := some (14, false) }, { dst := some 152, op := Op.call { callee := Callee.value (Operand.func 17), args := #[Operand.tmp 151, Operand.const (Value.string { data := #[44] })], argTypes := #[43, 9] }, type := 9, pos := "law.go:182", after := #[{ on := 19, ground := Ground.data }, { on := 19, ground := Ground.chain }, { on := 14, ground := Ground.guard }], guard := some (14, false) }, { dst := some 153, op := Op.binOp BinOp.eql 9 (Operand.tmp 149) (Operand.tmp 152) 9, type := 4, pos := "law.go:182", after := #[{ on := 17, ground := Ground.data }, { on := 20, ground := Ground.data }, { on := 14, ground := Ground.guard }], guard := some (14, false) }, { dst := some 154, op := Op.pick (Operand.tmp 146) (Operand.const (Value.bool true)) (Operand.tmp 153), type := 4, pos := "law.go:182", after := #[{ on := 14, ground := Ground.data }, { on := 21, ground := Ground.data }, { on := 10, ground := Ground.guard }], guard := some (10, true) }, { dst := some 155, op := Op.pick (Operand.tmp 142) (Operand.tmp 154) (Operand.const (Value.bool false)), type := 4, pos := "law.go:182", after := #[{ on := 10, ground := Ground.data }, { on := 22, ground := Ground.data }], guard := none }, { dst := some 156, op := Op.move (Operand.tmp 155), type := 4, pos := "law.go:182", after := #[{ on := 23, ground := Ground.data }, { on := 20, ground := Ground.chain }], guard := none }, { dst := some 157, op := Op.fieldAddr 29 (Operand.tmp 18) 0, type := 0, pos := "law.go:182", after := #[{ on := 24, ground := Ground.guard }], guard := some (24, true) }, { dst := some 158, op := Op.load 27 (Operand.tmp 157), type := 27, pos := "law.go:182", after := #[{ on := 25, ground := Ground.data }, { on := 24, ground := Ground.guard }], guard := some (24, true) }, { dst := some 159, op := Op.binOp BinOp.neq 27 (Operand.tmp 158) (Operand.const (Value.int IntKind.i64 0)) 27, type := 4, pos := "law.go:182", after := #[{ on := 26, ground := Ground.data }, { on := 24, ground := Ground.guard }], guard := some (24, true) }, { dst := some 160, op := Op.move (Operand.tmp 159), type := 4, pos := "law.go:182", after := #[{ on := 27, ground := Ground.data }, { on := 24, ground := Ground.chain }, { on := 24, ground := Ground.guard }], guard := some (24, true) }, { dst := some 161, op := Op.load 24 (Operand.tmp 17), type := 24, pos := "law.go:182", after := #[{ on := 28, ground := Ground.guard }], guard := some (28, false) }, { dst := some 162, op := Op.call { callee := Callee.value (Operand.func 18), args := #[Operand.tmp 161], argTypes := #[24] }, type := 43, pos := "law.go:182", after := #[{ on := 29, ground := Ground.data }, { on := 28, ground := Ground.chain }, { on := 28, ground := Ground.guard }], guard := some (28, false) }, { dst := some 163, op := Op.call { callee := Callee.value (Operand.func 17), args := #[Operand.tmp 162, Operand.const (Value.string { data := #[44] })], argTypes := #[43, 9] }, type := 9, pos := "law.go:182", after := #[{ on := 30, ground := Ground.data }, { on := 30, ground := Ground.chain }, { on := 28, ground := Ground.guard }], guard := some (28, false) }, { dst := some 164, op := Op.load 24 (Operand.tmp 14), type := 24, pos := "law.go:182", after := #[{ on := 28, ground := Ground.guard }], guard := some (28, false) }, { dst := some 165, op := Op.call { callee := Callee.value (Operand.func 18), args := #[Operand.tmp 164], argTypes := #[24] }, type := 43, pos := "law.go:182", after := #[{ on := 32, ground := Ground.data }, { on := 31, ground := Ground.chain }, { on := 28, ground := Ground.guard }], guard := some (28, false) }, { dst := some 166, op := Op.call { callee := Callee.value (Operand.func 17), args := #[Operand.tmp 165, Operand.const (Value.string { data := #[44] })], argTypes := #[43, 9] }, type := 9, pos := "law.go:182", after := #[{ on := 33, ground := Ground.data }, { on := 33, ground := Ground.chain }, { on := 28, ground := Ground.guard }], guard := some (28, false) }, { dst := some 167, op := Op.binOp BinOp.eql 9 (Operand.tmp 163) (Operand.tmp 166) 9, type := 4, pos := "law.go:182", after := #[{ on := 31, ground := Ground.data }, { on := 34, ground := Ground.data }, { on := 28, ground := Ground.guard }], guard := some (28, false) }, { dst := some 168, op := Op.pick (Operand.tmp 160) (Operand.const (Value.bool true)) (Operand.tmp 167), type := 4, pos := "law.go:182", after := #[{ on := 28, ground := Ground.data }, { on := 35, ground := Ground.data }, { on := 24, ground := Ground.guard }], guard := some (24, true) }, { dst := some 169, op := Op.pick (Operand.tmp 156) (Operand.tmp 168) (Operand.const (Value.bool false)), type := 4, pos := "law.go:182", after := #[{ on := 24, ground := Ground.data }, { on := 36, ground := Ground.data }], guard := none }, { dst := some 6, op := Op.assign (Operand.tmp 169), type := 4, pos := "law.go:182", after := #[{ on := 37, ground := Ground.data }, { on := 34, ground := Ground.chain }, { on := 0, ground := Ground.phase }, { on := 1, ground := Ground.phase }, { on := 2, ground := Ground.phase }, { on := 3, ground := Ground.phase }, { on := 4, ground := Ground.phase }, { on := 5, ground := Ground.phase }, { on := 6, ground := Ground.phase }, { on := 7, ground := Ground.phase }, { on := 8, ground := Ground.phase }, { on := 9, ground := Ground.phase }, { on := 10, ground := Ground.phase }, { on := 11, ground := Ground.phase }, { on := 12, ground := Ground.phase }, { on := 13, ground := Ground.phase }, { on := 14, ground := Ground.phase }, { on := 15, ground := Ground.phase }, { on := 16, ground := Ground.phase }, { on := 17, ground := Ground.phase }, { on := 18, ground := Ground.phase }, { on := 19, ground := Ground.phase }, { on := 20, ground := Ground.phase }, { on := 21, ground := Ground.phase }, { on := 22, ground := Ground.phase }, { on := 23, ground := Ground.phase }, { on := 24, ground := Ground.phase }, { on := 25, ground := Ground.phase }, { on := 26, ground := Ground.phase }, { on := 27, ground := Ground.phase }, { on := 28, ground := Ground.phase }, { on := 29, ground := Ground.phase }, { on := 30, ground := Ground.phase }, { on := 31, ground := Ground.phase }, { on := 32, ground := Ground.phase }, { on := 33, ground := Ground.phase }, { on := 34, ground := Ground.phase }, { on := 35, ground := Ground.phase }, { on := 36, ground := Ground.phase }, { on := 37, ground := Ground.phase }], guard := none }]
def m39dDep : Nat → List Nat := fun i => match i with | 2 => [1] | 3 => [0, 2] | 4 => [3] | 5 => [4] | 6 => [4] | 7 => [4, 6] | 8 => [4, 5, 7] | 9 => [4, 8] | 10 => [9] | 11 => [10] | 12 => [10, 11] | 13 => [10, 12] | 14 => [10, 13] | 15 => [14] | 16 => [14] | 17 => [14, 16] | 18 => [14] | 19 => [14] | 20 => [14, 19] | 21 => [14] | 22 => [10, 14] | 23 => [10, 22] | 24 => [23] | 25 => [24] | 26 => [24, 25] | 27 => [24, 26] | 28 => [24, 27] | 29 => [28] | 30 => [28] | 31 => [28, 30] | 32 => [28] | 33 => [28] | 34 => [28, 33] | 35 => [28] | 36 => [24, 28] | 37 => [24, 36] | 38 => [37] | _ => []
def m39dSl : List Nat := [132, 133, 134, 135, 136, 137, 138, 139, 140, 141, 142, 143, 144, 145, 146, 147, 148, 149, 150, 151, 152, 153, 154, 155, 156, 157, 158, 159, 160, 161, 162, 163, 164, 165, 166, 167, 168, 169, 6]
def m39dVs (gA : Nat) (gB : Nat) (gx : Nat) (gf : Nat) (gy : Nat) (gh : Nat) (ta : PT) (tb : PT) (tx : PT) (ty : PT) (r1 : Int) (s1 : Int) (r2 : Int) (s2 : Int) (JX : ByteArray) (JY : ByteArray) : List (Option Value) := [some (.agg #[.int .i64 r1, .int .i64 s1]), some (.agg ta.cells.toArray), some (.agg #[.int .i64 r1, .int .i64 s1]), some (.bool true), some (.bool true), some (.agg #[.int .i64 r2, .int .i64 s2]), some (.agg tb.cells.toArray), some (.agg #[.int .i64 r2, .int .i64 s2]), some (.bool true), some (.bool true), some (.bool true), some (.pointer (some ⟨gf, 0, none⟩)), some (.int .i64 r1), some (.bool true), some (.bool true), some (undef), some (undef), some (undef), some (undef), some (undef), some (undef), some (undef), some (.bool true), some (.bool true), some (.bool true), some (.pointer (some ⟨gh, 0, none⟩)), some (.int .i64 r2), some (.bool true), some (.bool true), some (undef), some (undef), some (undef), some (undef), some (undef), some (undef), some (undef), some (.bool true), some (.bool true), some (.bool true)]
def m39dSp  (i : Nat) : Value → World → Prop := match i with  | _ => fun _ _ => True
theorem m39d_ks   : ∀ i v w w', m39dSp  i v w → Below w.heap.size w w' → m39dSp  i v w' := by
  intro i v w w' h hb
  unfold m39dSp at h ⊢
  split <;> first | trivial
theorem m39d_nd : m39dSl.Nodup := by decide
def m39dUs (f : Nat → Value) : List (Nat × Value) := [(132, f 132), (133, f 133), (134, f 134), (135, f 135), (136, f 136), (137, f 137), (138, f 138), (139, f 139), (140, f 140), (141, f 141), (142, f 142), (143, f 143), (144, f 144), (145, f 145), (146, f 146), (147, f 147), (148, f 148), (149, f 149), (150, f 150), (151, f 151), (152, f 152), (153, f 153), (154, f 154), (155, f 155), (156, f 156), (157, f 157), (158, f 158), (159, f 159), (160, f 160), (161, f 161), (162, f 162), (163, f 163), (164, f 164), (165, f 165), (166, f 166), (167, f 167), (168, f 168), (169, f 169), (6, f 6)]
set_option maxRecDepth 20000 in
set_option maxHeartbeats 4000000 in
theorem m39d_reg {gA : Nat} {gB : Nat} {gx : Nat} {gf : Nat} {gy : Nat} {gh : Nat} {ta : PT} {tb : PT} {tx : PT} {ty : PT} {r1 : Int} {s1 : Int} {r2 : Int} {s2 : Int} {JX : ByteArray} {JY : ByteArray}  {W : World} {A0 : Act} {Q : Exit → Act → World → Prop} {id : Nat} (a13 : Act.at A0 13 = .pointer (some ⟨gA, 0, none⟩)) (a14 : Act.at A0 14 = .pointer (some ⟨gB, 0, none⟩)) (a15 : Act.at A0 15 = .pointer (some ⟨gx, 0, none⟩)) (a16 : Act.at A0 16 = .pointer (some ⟨gf, 0, none⟩)) (a17 : Act.at A0 17 = .pointer (some ⟨gy, 0, none⟩)) (a18 : Act.at A0 18 = .pointer (some ⟨gh, 0, none⟩)) (hsz : 170 ≤ A0.tmps.size)  (hK13 : BoxP W gA ta)
    (hK14 : BoxP W gB tb)
    (hK15 : BoxP W gx tx)
    (hK16 : Blk W gf 29 [.int .i64 r1, .int .i64 s1])
    (hK17 : BoxP W gy ty)
    (hK18 : Blk W gh 29 [.int .i64 r2, .int .i64 s2])
    (HWa : ∀ w, Below W.heap.size W w → Calls Tryd.prog 10 #[.agg ta.cells.toArray] w fun e w' => ∃ v, e = .returned v ∧ v = .agg #[.int .i64 r1, .int .i64 s1] ∧ Below w.heap.size w w')
    (HWb : ∀ w, Below W.heap.size W w → Calls Tryd.prog 10 #[.agg tb.cells.toArray] w fun e w' => ∃ v, e = .returned v ∧ v = .agg #[.int .i64 r2, .int .i64 s2] ∧ Below w.heap.size w w')
    (HN1 : ∀ w, (binOp .neq 27 (.int .i64 r1) (.int .i64 0)).run Tryd.prog w = .ok (.bool true) w)
    (HN2 : ∀ w, (binOp .neq 27 (.int .i64 r2) (.int .i64 0)).run Tryd.prog w = .ok (.bool true) w)
    (hk : ∀ (f : Nat → Value) w', f 6 = .bool true → Below W.heap.size W w' → Q .normal ⟨(m39dUs f).foldl (fun A p => A.setIfInBounds p.1 p.2) A0.tmps, A0.defers⟩ w') :
    (Code.region id m39dOps true).wp Tryd.prog Q A0 W := by
  refine wp_region_fun3 (by kernel_rfl) (fun L f w => FlatC W.drew m39dSl (m39dVs gA gB gx gf gy gh ta tb tx ty r1 s1 r2 s2 JX JY) (m39dSp ) L f w) [132, 133, 134, 135, 136, 137, 138, 139, 140, 141, 142, 143, 144, 145, 146, 147, 148, 149, 150, 151, 152, 153, 154, 155, 156, 157, 158, 159, 160, 161, 162, 163, 164, 165, 166, 167, 168, 169, 6] (fun i o ho => (wf_ops3 (ops := m39dOps) (by kernel_rfl)) i o ho) (fun i o ho u hu => ?_) ?_ ?_ ?_
  · have := ops_dst [132, 133, 134, 135, 136, 137, 138, 139, 140, 141, 142, 143, 144, 145, 146, 147, 148, 149, 150, 151, 152, 153, 154, 155, 156, 157, 158, 159, 160, 161, 162, 163, 164, 165, 166, 167, 168, 169, 6] 170 (by kernel_rfl) i o ho u hu
    exact ⟨this.1, Nat.lt_of_lt_of_le this.2 hsz⟩
  · have hs : m39dOps.size = 39 := rfl
    rw [hs]
    exact FlatC.start rfl rfl
  · rintro L i o ho hLi haf b w hf hc K hK
    have hdep := ops_deps m39dDep (by kernel_rfl) ho haf
    clear haf
    have hbw : Below W.heap.size W w := ⟨hc.bel.os, hc.bel.tape, hc.bel.output, hc.bel.size, hc.bel.block⟩
    have hs : m39dOps.size = 39 := rfl
    have hlt : i < 39 := hs ▸ (Array.getElem?_eq_some_iff.1 ho).1
    have hcases : i = 0 ∨ i = 1 ∨ i = 2 ∨ i = 3 ∨ i = 4 ∨ i = 5 ∨ i = 6 ∨ i = 7 ∨ i = 8 ∨ i = 9 ∨ i = 10 ∨ i = 11 ∨ i = 12 ∨ i = 13 ∨ i = 14 ∨ i = 15 ∨ i = 16 ∨ i = 17 ∨ i = 18 ∨ i = 19 ∨ i = 20 ∨ i = 21 ∨ i = 22 ∨ i = 23 ∨ i = 24 ∨ i = 25 ∨ i = 26 ∨ i = 27 ∨ i = 28 ∨ i = 29 ∨ i = 30 ∨ i = 31 ∨ i = 32 ∨ i = 33 ∨ i = 34 ∨ i = 35 ∨ i = 36 ∨ i = 37 ∨ i = 38 := by omega
    clear hlt
    rcases hcases with rfl | rfl | rfl | rfl | rfl | rfl | rfl | rfl | rfl | rfl | rfl | rfl | rfl | rfl | rfl | rfl | rfl | rfl | rfl | rfl | rfl | rfl | rfl | rfl | rfl | rfl | rfl | rfl | rfl | rfl | rfl | rfl | rfl | rfl | rfl | rfl | rfl | rfl | rfl
    · have h1 : (m39dOps[0]?).map (·.dst) = some (some 132) := by kernel_rfl
      have h2 : (m39dOps[0]?).map (·.op) = some (Op.load 29 (Operand.tmp 16)) := by kernel_rfl
      have h3 : (m39dOps[0]?).map (·.guard) = some none := by kernel_rfl
      rw [ho] at h1 h2 h3
      replace h1 := Option.some.inj h1
      replace h2 := Option.some.inj h2
      replace h3 := Option.some.inj h3
      simp only at h1 h2 h3
      rw [h1] at hK
      refine ⟨fun _ => ?_, fun hw => by rw [wanted_none h3] at hw; cases hw⟩
      refine wp_load_row 29 (.tmp 16) h2 gf ((hf 16 (by decide)).trans a16) 29 #[.int .i64 r1, .int .i64 s1] (0, 0) _ ((hbw.block gf hK16.lt).trans hK16) Tryd.underlying29 rfl rfl ?_
      rw [h1]
      exact hK _ _ (FlatC.step m39d_nd (m39d_ks ) rfl hc 0 (by decide) (Below.refl _ _) (fun u hu => by injection hu with hu; injection hu) (trivial))
    · have h1 : (m39dOps[1]?).map (·.dst) = some (some 133) := by kernel_rfl
      have h2 : (m39dOps[1]?).map (·.op) = some (Op.load 24 (Operand.tmp 13)) := by kernel_rfl
      have h3 : (m39dOps[1]?).map (·.guard) = some none := by kernel_rfl
      rw [ho] at h1 h2 h3
      replace h1 := Option.some.inj h1
      replace h2 := Option.some.inj h2
      replace h3 := Option.some.inj h3
      simp only at h1 h2 h3
      rw [h1] at hK
      refine ⟨fun _ => ?_, fun hw => by rw [wanted_none h3] at hw; cases hw⟩
      refine wp_load_row 24 (.tmp 13) h2 gA ((hf 13 (by decide)).trans a13) 24 ta.cells.toArray (0, 0) _ ((hbw.block gA hK13.lt).trans hK13) Tryd.underlying24 rfl rfl ?_
      rw [h1]
      exact hK _ _ (FlatC.step m39d_nd (m39d_ks ) rfl hc 1 (by decide) (Below.refl _ _) (fun u hu => by injection hu with hu; injection hu) (trivial))
    · have h1 : (m39dOps[2]?).map (·.dst) = some (some 134) := by kernel_rfl
      have h2 : (m39dOps[2]?).map (·.op) = some (Op.call { callee := Callee.value (Operand.func 10), args := #[Operand.tmp 133], argTypes := #[24] }) := by kernel_rfl
      have h3 : (m39dOps[2]?).map (·.guard) = some none := by kernel_rfl
      rw [ho] at h1 h2 h3
      replace h1 := Option.some.inj h1
      replace h2 := Option.some.inj h2
      replace h3 := Option.some.inj h3
      simp only at h1 h2 h3
      rw [h1] at hK
      have l1 : L 1 = true := hdep 1 (by simp [m39dDep])
      refine ⟨fun _ => ?_, fun hw => by rw [wanted_none h3] at hw; cases hw⟩
      refine wp_callG 10 _ _ h2 (enters_of Tryd.func10 (by kernel_rfl) rfl) #[.agg ta.cells.toArray] (by simp [show b.eval (.tmp 133) = _ from (show Act.at b 133 = .agg ta.cells.toArray from hc.v 1 l1 _ rfl)]) _ (HWa w hbw) ?_
      rintro v w2 ⟨rfl, hb2⟩
      rw [h1]
      exact hK _ _ (FlatC.step m39d_nd (m39d_ks ) rfl hc 2 (by decide) (hb2) (fun u hu => by injection hu with hu; injection hu) (trivial))
    · have h1 : (m39dOps[3]?).map (·.dst) = some (some 135) := by kernel_rfl
      have h2 : (m39dOps[3]?).map (·.op) = some (Op.binOp BinOp.eql 29 (Operand.tmp 132) (Operand.tmp 134) 29) := by kernel_rfl
      have h3 : (m39dOps[3]?).map (·.guard) = some none := by kernel_rfl
      rw [ho] at h1 h2 h3
      replace h1 := Option.some.inj h1
      replace h2 := Option.some.inj h2
      replace h3 := Option.some.inj h3
      simp only at h1 h2 h3
      rw [h1] at hK
      have l0 : L 0 = true := hdep 0 (by simp [m39dDep])
      have l2 : L 2 = true := hdep 2 (by simp [m39dDep])
      refine ⟨fun _ => ?_, fun hw => by rw [wanted_none h3] at hw; cases hw⟩
      refine wp_binG _ _ _ _ _ h2 _ _ (.bool true) (show Act.at b 132 = .agg #[.int .i64 r1, .int .i64 s1] from hc.v 0 l0 _ rfl) (show Act.at b 134 = .agg #[.int .i64 r1, .int .i64 s1] from hc.v 2 l2 _ rfl) (by kernel_rfl) (eql_flt r1 s1 w) ?_
      rw [h1]
      exact hK _ _ (FlatC.step m39d_nd (m39d_ks ) rfl hc 3 (by decide) (Below.refl _ _) (fun u hu => by injection hu with hu; injection hu) (trivial))
    · have h1 : (m39dOps[4]?).map (·.dst) = some (some 136) := by kernel_rfl
      have h2 : (m39dOps[4]?).map (·.op) = some (Op.move (Operand.tmp 135)) := by kernel_rfl
      have h3 : (m39dOps[4]?).map (·.guard) = some none := by kernel_rfl
      rw [ho] at h1 h2 h3
      replace h1 := Option.some.inj h1
      replace h2 := Option.some.inj h2
      replace h3 := Option.some.inj h3
      simp only at h1 h2 h3
      rw [h1] at hK
      have l3 : L 3 = true := hdep 3 (by simp [m39dDep])
      refine ⟨fun _ => ?_, fun hw => by rw [wanted_none h3] at hw; cases hw⟩
      refine wp_moveG _ h2 _ (show Act.at b 135 = .bool true from hc.v 3 l3 _ rfl) ?_
      rw [h1]
      exact hK _ _ (FlatC.step m39d_nd (m39d_ks ) rfl hc 4 (by decide) (Below.refl _ _) (fun u hu => by injection hu with hu; injection hu) (trivial))
    · have h1 : (m39dOps[5]?).map (·.dst) = some (some 137) := by kernel_rfl
      have h2 : (m39dOps[5]?).map (·.op) = some (Op.load 29 (Operand.tmp 18)) := by kernel_rfl
      have h3 : (m39dOps[5]?).map (·.guard) = some (some (4, true)) := by kernel_rfl
      rw [ho] at h1 h2 h3
      replace h1 := Option.some.inj h1
      replace h2 := Option.some.inj h2
      replace h3 := Option.some.inj h3
      simp only at h1 h2 h3
      rw [h1] at hK
      have l4 : L 4 = true := hdep 4 (by simp [m39dDep])
      have hw := wanted_of (ops := m39dOps) (b := b) h3 (d := 136) (by kernel_rfl) (show Act.at b 136 = .bool true from hc.v 4 l4 _ rfl)
      rw [hw]
      refine ⟨fun _ => ?_, fun hq => absurd hq (by decide)⟩
      refine wp_load_row 29 (.tmp 18) h2 gh ((hf 18 (by decide)).trans a18) 29 #[.int .i64 r2, .int .i64 s2] (0, 0) _ ((hbw.block gh hK18.lt).trans hK18) Tryd.underlying29 rfl rfl ?_
      rw [h1]
      exact hK _ _ (FlatC.step m39d_nd (m39d_ks ) rfl hc 5 (by decide) (Below.refl _ _) (fun u hu => by injection hu with hu; injection hu) (trivial))
    · have h1 : (m39dOps[6]?).map (·.dst) = some (some 138) := by kernel_rfl
      have h2 : (m39dOps[6]?).map (·.op) = some (Op.load 24 (Operand.tmp 14)) := by kernel_rfl
      have h3 : (m39dOps[6]?).map (·.guard) = some (some (4, true)) := by kernel_rfl
      rw [ho] at h1 h2 h3
      replace h1 := Option.some.inj h1
      replace h2 := Option.some.inj h2
      replace h3 := Option.some.inj h3
      simp only at h1 h2 h3
      rw [h1] at hK
      have l4 : L 4 = true := hdep 4 (by simp [m39dDep])
      have hw := wanted_of (ops := m39dOps) (b := b) h3 (d := 136) (by kernel_rfl) (show Act.at b 136 = .bool true from hc.v 4 l4 _ rfl)
      rw [hw]
      refine ⟨fun _ => ?_, fun hq => absurd hq (by decide)⟩
      refine wp_load_row 24 (.tmp 14) h2 gB ((hf 14 (by decide)).trans a14) 24 tb.cells.toArray (0, 0) _ ((hbw.block gB hK14.lt).trans hK14) Tryd.underlying24 rfl rfl ?_
      rw [h1]
      exact hK _ _ (FlatC.step m39d_nd (m39d_ks ) rfl hc 6 (by decide) (Below.refl _ _) (fun u hu => by injection hu with hu; injection hu) (trivial))
    · have h1 : (m39dOps[7]?).map (·.dst) = some (some 139) := by kernel_rfl
      have h2 : (m39dOps[7]?).map (·.op) = some (Op.call { callee := Callee.value (Operand.func 10), args := #[Operand.tmp 138], argTypes := #[24] }) := by kernel_rfl
      have h3 : (m39dOps[7]?).map (·.guard) = some (some (4, true)) := by kernel_rfl
      rw [ho] at h1 h2 h3
      replace h1 := Option.some.inj h1
      replace h2 := Option.some.inj h2
      replace h3 := Option.some.inj h3
      simp only at h1 h2 h3
      rw [h1] at hK
      have l4 : L 4 = true := hdep 4 (by simp [m39dDep])
      have l6 : L 6 = true := hdep 6 (by simp [m39dDep])
      have hw := wanted_of (ops := m39dOps) (b := b) h3 (d := 136) (by kernel_rfl) (show Act.at b 136 = .bool true from hc.v 4 l4 _ rfl)
      rw [hw]
      refine ⟨fun _ => ?_, fun hq => absurd hq (by decide)⟩
      refine wp_callG 10 _ _ h2 (enters_of Tryd.func10 (by kernel_rfl) rfl) #[.agg tb.cells.toArray] (by simp [show b.eval (.tmp 138) = _ from (show Act.at b 138 = .agg tb.cells.toArray from hc.v 6 l6 _ rfl)]) _ (HWb w hbw) ?_
      rintro v w2 ⟨rfl, hb2⟩
      rw [h1]
      exact hK _ _ (FlatC.step m39d_nd (m39d_ks ) rfl hc 7 (by decide) (hb2) (fun u hu => by injection hu with hu; injection hu) (trivial))
    · have h1 : (m39dOps[8]?).map (·.dst) = some (some 140) := by kernel_rfl
      have h2 : (m39dOps[8]?).map (·.op) = some (Op.binOp BinOp.eql 29 (Operand.tmp 137) (Operand.tmp 139) 29) := by kernel_rfl
      have h3 : (m39dOps[8]?).map (·.guard) = some (some (4, true)) := by kernel_rfl
      rw [ho] at h1 h2 h3
      replace h1 := Option.some.inj h1
      replace h2 := Option.some.inj h2
      replace h3 := Option.some.inj h3
      simp only at h1 h2 h3
      rw [h1] at hK
      have l4 : L 4 = true := hdep 4 (by simp [m39dDep])
      have l5 : L 5 = true := hdep 5 (by simp [m39dDep])
      have l7 : L 7 = true := hdep 7 (by simp [m39dDep])
      have hw := wanted_of (ops := m39dOps) (b := b) h3 (d := 136) (by kernel_rfl) (show Act.at b 136 = .bool true from hc.v 4 l4 _ rfl)
      rw [hw]
      refine ⟨fun _ => ?_, fun hq => absurd hq (by decide)⟩
      refine wp_binG _ _ _ _ _ h2 _ _ (.bool true) (show Act.at b 137 = .agg #[.int .i64 r2, .int .i64 s2] from hc.v 5 l5 _ rfl) (show Act.at b 139 = .agg #[.int .i64 r2, .int .i64 s2] from hc.v 7 l7 _ rfl) (by kernel_rfl) (eql_flt r2 s2 w) ?_
      rw [h1]
      exact hK _ _ (FlatC.step m39d_nd (m39d_ks ) rfl hc 8 (by decide) (Below.refl _ _) (fun u hu => by injection hu with hu; injection hu) (trivial))
    · have h1 : (m39dOps[9]?).map (·.dst) = some (some 141) := by kernel_rfl
      have h2 : (m39dOps[9]?).map (·.op) = some (Op.pick (Operand.tmp 136) (Operand.tmp 140) (Operand.const (Value.bool false))) := by kernel_rfl
      have h3 : (m39dOps[9]?).map (·.guard) = some none := by kernel_rfl
      rw [ho] at h1 h2 h3
      replace h1 := Option.some.inj h1
      replace h2 := Option.some.inj h2
      replace h3 := Option.some.inj h3
      simp only at h1 h2 h3
      rw [h1] at hK
      have l4 : L 4 = true := hdep 4 (by simp [m39dDep])
      have l8 : L 8 = true := hdep 8 (by simp [m39dDep])
      refine ⟨fun _ => ?_, fun hw => by rw [wanted_none h3] at hw; cases hw⟩
      refine wp_pickG _ _ _ h2 true (show Act.at b 136 = .bool true from hc.v 4 l4 _ rfl) _ (if_pos rfl |>.trans (show Act.at b 140 = .bool true from hc.v 8 l8 _ rfl)) ?_
      rw [h1]
      exact hK _ _ (FlatC.step m39d_nd (m39d_ks ) rfl hc 9 (by decide) (Below.refl _ _) (fun u hu => by injection hu with hu; injection hu) (trivial))
    · have h1 : (m39dOps[10]?).map (·.dst) = some (some 142) := by kernel_rfl
      have h2 : (m39dOps[10]?).map (·.op) = some (Op.move (Operand.tmp 141)) := by kernel_rfl
      have h3 : (m39dOps[10]?).map (·.guard) = some none := by kernel_rfl
      rw [ho] at h1 h2 h3
      replace h1 := Option.some.inj h1
      replace h2 := Option.some.inj h2
      replace h3 := Option.some.inj h3
      simp only at h1 h2 h3
      rw [h1] at hK
      have l9 : L 9 = true := hdep 9 (by simp [m39dDep])
      refine ⟨fun _ => ?_, fun hw => by rw [wanted_none h3] at hw; cases hw⟩
      refine wp_moveG _ h2 _ (show Act.at b 141 = .bool true from hc.v 9 l9 _ rfl) ?_
      rw [h1]
      exact hK _ _ (FlatC.step m39d_nd (m39d_ks ) rfl hc 10 (by decide) (Below.refl _ _) (fun u hu => by injection hu with hu; injection hu) (trivial))
    · have h1 : (m39dOps[11]?).map (·.dst) = some (some 143) := by kernel_rfl
      have h2 : (m39dOps[11]?).map (·.op) = some (Op.fieldAddr 29 (Operand.tmp 16) 0) := by kernel_rfl
      have h3 : (m39dOps[11]?).map (·.guard) = some (some (10, true)) := by kernel_rfl
      rw [ho] at h1 h2 h3
      replace h1 := Option.some.inj h1
      replace h2 := Option.some.inj h2
      replace h3 := Option.some.inj h3
      simp only at h1 h2 h3
      rw [h1] at hK
      have l10 : L 10 = true := hdep 10 (by simp [m39dDep])
      have hw := wanted_of (ops := m39dOps) (b := b) h3 (d := 142) (by kernel_rfl) (show Act.at b 142 = .bool true from hc.v 10 l10 _ rfl)
      rw [hw]
      refine ⟨fun _ => ?_, fun hq => absurd hq (by decide)⟩
      refine wp_fieldG _ _ _ h2 _ _ ((hf 16 (by decide)).trans a16) (field_0F gf w) ?_
      rw [h1]
      exact hK _ _ (FlatC.step m39d_nd (m39d_ks ) rfl hc 11 (by decide) (Below.refl _ _) (fun u hu => by injection hu with hu; injection hu) (trivial))
    · have h1 : (m39dOps[12]?).map (·.dst) = some (some 144) := by kernel_rfl
      have h2 : (m39dOps[12]?).map (·.op) = some (Op.load 27 (Operand.tmp 143)) := by kernel_rfl
      have h3 : (m39dOps[12]?).map (·.guard) = some (some (10, true)) := by kernel_rfl
      rw [ho] at h1 h2 h3
      replace h1 := Option.some.inj h1
      replace h2 := Option.some.inj h2
      replace h3 := Option.some.inj h3
      simp only at h1 h2 h3
      rw [h1] at hK
      have l10 : L 10 = true := hdep 10 (by simp [m39dDep])
      have l11 : L 11 = true := hdep 11 (by simp [m39dDep])
      have hw := wanted_of (ops := m39dOps) (b := b) h3 (d := 142) (by kernel_rfl) (show Act.at b 142 = .bool true from hc.v 10 l10 _ rfl)
      rw [hw]
      refine ⟨fun _ => ?_, fun hq => absurd hq (by decide)⟩
      refine wp_loadG _ _ h2 _ _ (show Act.at b 143 = .pointer (some ⟨gf, 0, none⟩) from hc.v 11 l11 _ rfl) (load_eF (Blk.at (show Blk w gf 29 [.int .i64 r1, .int .i64 s1] from (hbw.block gf hK16.lt).trans hK16) 0)) ?_
      rw [h1]
      exact hK _ _ (FlatC.step m39d_nd (m39d_ks ) rfl hc 12 (by decide) (Below.refl _ _) (fun u hu => by injection hu with hu; injection hu) (trivial))
    · have h1 : (m39dOps[13]?).map (·.dst) = some (some 145) := by kernel_rfl
      have h2 : (m39dOps[13]?).map (·.op) = some (Op.binOp BinOp.neq 27 (Operand.tmp 144) (Operand.const (Value.int IntKind.i64 0)) 27) := by kernel_rfl
      have h3 : (m39dOps[13]?).map (·.guard) = some (some (10, true)) := by kernel_rfl
      rw [ho] at h1 h2 h3
      replace h1 := Option.some.inj h1
      replace h2 := Option.some.inj h2
      replace h3 := Option.some.inj h3
      simp only at h1 h2 h3
      rw [h1] at hK
      have l10 : L 10 = true := hdep 10 (by simp [m39dDep])
      have l12 : L 12 = true := hdep 12 (by simp [m39dDep])
      have hw := wanted_of (ops := m39dOps) (b := b) h3 (d := 142) (by kernel_rfl) (show Act.at b 142 = .bool true from hc.v 10 l10 _ rfl)
      rw [hw]
      refine ⟨fun _ => ?_, fun hq => absurd hq (by decide)⟩
      refine wp_binG _ _ _ _ _ h2 _ _ (.bool true) (show Act.at b 144 = .int .i64 r1 from hc.v 12 l12 _ rfl) rfl (by kernel_rfl) (HN1 w) ?_
      rw [h1]
      exact hK _ _ (FlatC.step m39d_nd (m39d_ks ) rfl hc 13 (by decide) (Below.refl _ _) (fun u hu => by injection hu with hu; injection hu) (trivial))
    · have h1 : (m39dOps[14]?).map (·.dst) = some (some 146) := by kernel_rfl
      have h2 : (m39dOps[14]?).map (·.op) = some (Op.move (Operand.tmp 145)) := by kernel_rfl
      have h3 : (m39dOps[14]?).map (·.guard) = some (some (10, true)) := by kernel_rfl
      rw [ho] at h1 h2 h3
      replace h1 := Option.some.inj h1
      replace h2 := Option.some.inj h2
      replace h3 := Option.some.inj h3
      simp only at h1 h2 h3
      rw [h1] at hK
      have l10 : L 10 = true := hdep 10 (by simp [m39dDep])
      have l13 : L 13 = true := hdep 13 (by simp [m39dDep])
      have hw := wanted_of (ops := m39dOps) (b := b) h3 (d := 142) (by kernel_rfl) (show Act.at b 142 = .bool true from hc.v 10 l10 _ rfl)
      rw [hw]
      refine ⟨fun _ => ?_, fun hq => absurd hq (by decide)⟩
      refine wp_moveG _ h2 _ (show Act.at b 145 = .bool true from hc.v 13 l13 _ rfl) ?_
      rw [h1]
      exact hK _ _ (FlatC.step m39d_nd (m39d_ks ) rfl hc 14 (by decide) (Below.refl _ _) (fun u hu => by injection hu with hu; injection hu) (trivial))
    · have h1 : (m39dOps[15]?).map (·.dst) = some (some 147) := by kernel_rfl
      have h2 : (m39dOps[15]?).map (·.op) = some (Op.load 24 (Operand.tmp 15)) := by kernel_rfl
      have h3 : (m39dOps[15]?).map (·.guard) = some (some (14, false)) := by kernel_rfl
      rw [ho] at h1 h2 h3
      replace h1 := Option.some.inj h1
      replace h2 := Option.some.inj h2
      replace h3 := Option.some.inj h3
      simp only at h1 h2 h3
      rw [h1] at hK
      have l14 : L 14 = true := hdep 14 (by simp [m39dDep])
      have hw := wanted_of (ops := m39dOps) (b := b) h3 (d := 146) (by kernel_rfl) (show Act.at b 146 = .bool true from hc.v 14 l14 _ rfl)
      rw [hw]
      refine ⟨fun hq => absurd hq (by decide), fun _ => ?_⟩
      rw [h1]
      exact hK _ _ (FlatC.step m39d_nd (m39d_ks ) rfl hc 15 (by decide) (Below.refl _ _) (fun u hu => by injection hu with hu; injection hu) trivial)
    · have h1 : (m39dOps[16]?).map (·.dst) = some (some 148) := by kernel_rfl
      have h2 : (m39dOps[16]?).map (·.op) = some (Op.call { callee := Callee.value (Operand.func 18), args := #[Operand.tmp 147], argTypes := #[24] }) := by kernel_rfl
      have h3 : (m39dOps[16]?).map (·.guard) = some (some (14, false)) := by kernel_rfl
      rw [ho] at h1 h2 h3
      replace h1 := Option.some.inj h1
      replace h2 := Option.some.inj h2
      replace h3 := Option.some.inj h3
      simp only at h1 h2 h3
      rw [h1] at hK
      have l14 : L 14 = true := hdep 14 (by simp [m39dDep])
      have hw := wanted_of (ops := m39dOps) (b := b) h3 (d := 146) (by kernel_rfl) (show Act.at b 146 = .bool true from hc.v 14 l14 _ rfl)
      rw [hw]
      refine ⟨fun hq => absurd hq (by decide), fun _ => ?_⟩
      rw [h1]
      exact hK _ _ (FlatC.step m39d_nd (m39d_ks ) rfl hc 16 (by decide) (Below.refl _ _) (fun u hu => by injection hu with hu; injection hu) trivial)
    · have h1 : (m39dOps[17]?).map (·.dst) = some (some 149) := by kernel_rfl
      have h2 : (m39dOps[17]?).map (·.op) = some (Op.call { callee := Callee.value (Operand.func 17), args := #[Operand.tmp 148, Operand.const (Value.string { data := #[44] })], argTypes := #[43, 9] }) := by kernel_rfl
      have h3 : (m39dOps[17]?).map (·.guard) = some (some (14, false)) := by kernel_rfl
      rw [ho] at h1 h2 h3
      replace h1 := Option.some.inj h1
      replace h2 := Option.some.inj h2
      replace h3 := Option.some.inj h3
      simp only at h1 h2 h3
      rw [h1] at hK
      have l14 : L 14 = true := hdep 14 (by simp [m39dDep])
      have hw := wanted_of (ops := m39dOps) (b := b) h3 (d := 146) (by kernel_rfl) (show Act.at b 146 = .bool true from hc.v 14 l14 _ rfl)
      rw [hw]
      refine ⟨fun hq => absurd hq (by decide), fun _ => ?_⟩
      rw [h1]
      exact hK _ _ (FlatC.step m39d_nd (m39d_ks ) rfl hc 17 (by decide) (Below.refl _ _) (fun u hu => by injection hu with hu; injection hu) trivial)
    · have h1 : (m39dOps[18]?).map (·.dst) = some (some 150) := by kernel_rfl
      have h2 : (m39dOps[18]?).map (·.op) = some (Op.load 24 (Operand.tmp 13)) := by kernel_rfl
      have h3 : (m39dOps[18]?).map (·.guard) = some (some (14, false)) := by kernel_rfl
      rw [ho] at h1 h2 h3
      replace h1 := Option.some.inj h1
      replace h2 := Option.some.inj h2
      replace h3 := Option.some.inj h3
      simp only at h1 h2 h3
      rw [h1] at hK
      have l14 : L 14 = true := hdep 14 (by simp [m39dDep])
      have hw := wanted_of (ops := m39dOps) (b := b) h3 (d := 146) (by kernel_rfl) (show Act.at b 146 = .bool true from hc.v 14 l14 _ rfl)
      rw [hw]
      refine ⟨fun hq => absurd hq (by decide), fun _ => ?_⟩
      rw [h1]
      exact hK _ _ (FlatC.step m39d_nd (m39d_ks ) rfl hc 18 (by decide) (Below.refl _ _) (fun u hu => by injection hu with hu; injection hu) trivial)
    · have h1 : (m39dOps[19]?).map (·.dst) = some (some 151) := by kernel_rfl
      have h2 : (m39dOps[19]?).map (·.op) = some (Op.call { callee := Callee.value (Operand.func 18), args := #[Operand.tmp 150], argTypes := #[24] }) := by kernel_rfl
      have h3 : (m39dOps[19]?).map (·.guard) = some (some (14, false)) := by kernel_rfl
      rw [ho] at h1 h2 h3
      replace h1 := Option.some.inj h1
      replace h2 := Option.some.inj h2
      replace h3 := Option.some.inj h3
      simp only at h1 h2 h3
      rw [h1] at hK
      have l14 : L 14 = true := hdep 14 (by simp [m39dDep])
      have hw := wanted_of (ops := m39dOps) (b := b) h3 (d := 146) (by kernel_rfl) (show Act.at b 146 = .bool true from hc.v 14 l14 _ rfl)
      rw [hw]
      refine ⟨fun hq => absurd hq (by decide), fun _ => ?_⟩
      rw [h1]
      exact hK _ _ (FlatC.step m39d_nd (m39d_ks ) rfl hc 19 (by decide) (Below.refl _ _) (fun u hu => by injection hu with hu; injection hu) trivial)
    · have h1 : (m39dOps[20]?).map (·.dst) = some (some 152) := by kernel_rfl
      have h2 : (m39dOps[20]?).map (·.op) = some (Op.call { callee := Callee.value (Operand.func 17), args := #[Operand.tmp 151, Operand.const (Value.string { data := #[44] })], argTypes := #[43, 9] }) := by kernel_rfl
      have h3 : (m39dOps[20]?).map (·.guard) = some (some (14, false)) := by kernel_rfl
      rw [ho] at h1 h2 h3
      replace h1 := Option.some.inj h1
      replace h2 := Option.some.inj h2
      replace h3 := Option.some.inj h3
      simp only at h1 h2 h3
      rw [h1] at hK
      have l14 : L 14 = true := hdep 14 (by simp [m39dDep])
      have hw := wanted_of (ops := m39dOps) (b := b) h3 (d := 146) (by kernel_rfl) (show Act.at b 146 = .bool true from hc.v 14 l14 _ rfl)
      rw [hw]
      refine ⟨fun hq => absurd hq (by decide), fun _ => ?_⟩
      rw [h1]
      exact hK _ _ (FlatC.step m39d_nd (m39d_ks ) rfl hc 20 (by decide) (Below.refl _ _) (fun u hu => by injection hu with hu; injection hu) trivial)
    · have h1 : (m39dOps[21]?).map (·.dst) = some (some 153) := by kernel_rfl
      have h2 : (m39dOps[21]?).map (·.op) = some (Op.binOp BinOp.eql 9 (Operand.tmp 149) (Operand.tmp 152) 9) := by kernel_rfl
      have h3 : (m39dOps[21]?).map (·.guard) = some (some (14, false)) := by kernel_rfl
      rw [ho] at h1 h2 h3
      replace h1 := Option.some.inj h1
      replace h2 := Option.some.inj h2
      replace h3 := Option.some.inj h3
      simp only at h1 h2 h3
      rw [h1] at hK
      have l14 : L 14 = true := hdep 14 (by simp [m39dDep])
      have hw := wanted_of (ops := m39dOps) (b := b) h3 (d := 146) (by kernel_rfl) (show Act.at b 146 = .bool true from hc.v 14 l14 _ rfl)
      rw [hw]
      refine ⟨fun hq => absurd hq (by decide), fun _ => ?_⟩
      rw [h1]
      exact hK _ _ (FlatC.step m39d_nd (m39d_ks ) rfl hc 21 (by decide) (Below.refl _ _) (fun u hu => by injection hu with hu; injection hu) trivial)
    · have h1 : (m39dOps[22]?).map (·.dst) = some (some 154) := by kernel_rfl
      have h2 : (m39dOps[22]?).map (·.op) = some (Op.pick (Operand.tmp 146) (Operand.const (Value.bool true)) (Operand.tmp 153)) := by kernel_rfl
      have h3 : (m39dOps[22]?).map (·.guard) = some (some (10, true)) := by kernel_rfl
      rw [ho] at h1 h2 h3
      replace h1 := Option.some.inj h1
      replace h2 := Option.some.inj h2
      replace h3 := Option.some.inj h3
      simp only at h1 h2 h3
      rw [h1] at hK
      have l10 : L 10 = true := hdep 10 (by simp [m39dDep])
      have l14 : L 14 = true := hdep 14 (by simp [m39dDep])
      have hw := wanted_of (ops := m39dOps) (b := b) h3 (d := 142) (by kernel_rfl) (show Act.at b 142 = .bool true from hc.v 10 l10 _ rfl)
      rw [hw]
      refine ⟨fun _ => ?_, fun hq => absurd hq (by decide)⟩
      refine wp_pickG _ _ _ h2 true (show Act.at b 146 = .bool true from hc.v 14 l14 _ rfl) _ (if_pos rfl |>.trans rfl) ?_
      rw [h1]
      exact hK _ _ (FlatC.step m39d_nd (m39d_ks ) rfl hc 22 (by decide) (Below.refl _ _) (fun u hu => by injection hu with hu; injection hu) (trivial))
    · have h1 : (m39dOps[23]?).map (·.dst) = some (some 155) := by kernel_rfl
      have h2 : (m39dOps[23]?).map (·.op) = some (Op.pick (Operand.tmp 142) (Operand.tmp 154) (Operand.const (Value.bool false))) := by kernel_rfl
      have h3 : (m39dOps[23]?).map (·.guard) = some none := by kernel_rfl
      rw [ho] at h1 h2 h3
      replace h1 := Option.some.inj h1
      replace h2 := Option.some.inj h2
      replace h3 := Option.some.inj h3
      simp only at h1 h2 h3
      rw [h1] at hK
      have l10 : L 10 = true := hdep 10 (by simp [m39dDep])
      have l22 : L 22 = true := hdep 22 (by simp [m39dDep])
      refine ⟨fun _ => ?_, fun hw => by rw [wanted_none h3] at hw; cases hw⟩
      refine wp_pickG _ _ _ h2 true (show Act.at b 142 = .bool true from hc.v 10 l10 _ rfl) _ (if_pos rfl |>.trans (show Act.at b 154 = .bool true from hc.v 22 l22 _ rfl)) ?_
      rw [h1]
      exact hK _ _ (FlatC.step m39d_nd (m39d_ks ) rfl hc 23 (by decide) (Below.refl _ _) (fun u hu => by injection hu with hu; injection hu) (trivial))
    · have h1 : (m39dOps[24]?).map (·.dst) = some (some 156) := by kernel_rfl
      have h2 : (m39dOps[24]?).map (·.op) = some (Op.move (Operand.tmp 155)) := by kernel_rfl
      have h3 : (m39dOps[24]?).map (·.guard) = some none := by kernel_rfl
      rw [ho] at h1 h2 h3
      replace h1 := Option.some.inj h1
      replace h2 := Option.some.inj h2
      replace h3 := Option.some.inj h3
      simp only at h1 h2 h3
      rw [h1] at hK
      have l23 : L 23 = true := hdep 23 (by simp [m39dDep])
      refine ⟨fun _ => ?_, fun hw => by rw [wanted_none h3] at hw; cases hw⟩
      refine wp_moveG _ h2 _ (show Act.at b 155 = .bool true from hc.v 23 l23 _ rfl) ?_
      rw [h1]
      exact hK _ _ (FlatC.step m39d_nd (m39d_ks ) rfl hc 24 (by decide) (Below.refl _ _) (fun u hu => by injection hu with hu; injection hu) (trivial))
    · have h1 : (m39dOps[25]?).map (·.dst) = some (some 157) := by kernel_rfl
      have h2 : (m39dOps[25]?).map (·.op) = some (Op.fieldAddr 29 (Operand.tmp 18) 0) := by kernel_rfl
      have h3 : (m39dOps[25]?).map (·.guard) = some (some (24, true)) := by kernel_rfl
      rw [ho] at h1 h2 h3
      replace h1 := Option.some.inj h1
      replace h2 := Option.some.inj h2
      replace h3 := Option.some.inj h3
      simp only at h1 h2 h3
      rw [h1] at hK
      have l24 : L 24 = true := hdep 24 (by simp [m39dDep])
      have hw := wanted_of (ops := m39dOps) (b := b) h3 (d := 156) (by kernel_rfl) (show Act.at b 156 = .bool true from hc.v 24 l24 _ rfl)
      rw [hw]
      refine ⟨fun _ => ?_, fun hq => absurd hq (by decide)⟩
      refine wp_fieldG _ _ _ h2 _ _ ((hf 18 (by decide)).trans a18) (field_0F gh w) ?_
      rw [h1]
      exact hK _ _ (FlatC.step m39d_nd (m39d_ks ) rfl hc 25 (by decide) (Below.refl _ _) (fun u hu => by injection hu with hu; injection hu) (trivial))
    · have h1 : (m39dOps[26]?).map (·.dst) = some (some 158) := by kernel_rfl
      have h2 : (m39dOps[26]?).map (·.op) = some (Op.load 27 (Operand.tmp 157)) := by kernel_rfl
      have h3 : (m39dOps[26]?).map (·.guard) = some (some (24, true)) := by kernel_rfl
      rw [ho] at h1 h2 h3
      replace h1 := Option.some.inj h1
      replace h2 := Option.some.inj h2
      replace h3 := Option.some.inj h3
      simp only at h1 h2 h3
      rw [h1] at hK
      have l24 : L 24 = true := hdep 24 (by simp [m39dDep])
      have l25 : L 25 = true := hdep 25 (by simp [m39dDep])
      have hw := wanted_of (ops := m39dOps) (b := b) h3 (d := 156) (by kernel_rfl) (show Act.at b 156 = .bool true from hc.v 24 l24 _ rfl)
      rw [hw]
      refine ⟨fun _ => ?_, fun hq => absurd hq (by decide)⟩
      refine wp_loadG _ _ h2 _ _ (show Act.at b 157 = .pointer (some ⟨gh, 0, none⟩) from hc.v 25 l25 _ rfl) (load_eF (Blk.at (show Blk w gh 29 [.int .i64 r2, .int .i64 s2] from (hbw.block gh hK18.lt).trans hK18) 0)) ?_
      rw [h1]
      exact hK _ _ (FlatC.step m39d_nd (m39d_ks ) rfl hc 26 (by decide) (Below.refl _ _) (fun u hu => by injection hu with hu; injection hu) (trivial))
    · have h1 : (m39dOps[27]?).map (·.dst) = some (some 159) := by kernel_rfl
      have h2 : (m39dOps[27]?).map (·.op) = some (Op.binOp BinOp.neq 27 (Operand.tmp 158) (Operand.const (Value.int IntKind.i64 0)) 27) := by kernel_rfl
      have h3 : (m39dOps[27]?).map (·.guard) = some (some (24, true)) := by kernel_rfl
      rw [ho] at h1 h2 h3
      replace h1 := Option.some.inj h1
      replace h2 := Option.some.inj h2
      replace h3 := Option.some.inj h3
      simp only at h1 h2 h3
      rw [h1] at hK
      have l24 : L 24 = true := hdep 24 (by simp [m39dDep])
      have l26 : L 26 = true := hdep 26 (by simp [m39dDep])
      have hw := wanted_of (ops := m39dOps) (b := b) h3 (d := 156) (by kernel_rfl) (show Act.at b 156 = .bool true from hc.v 24 l24 _ rfl)
      rw [hw]
      refine ⟨fun _ => ?_, fun hq => absurd hq (by decide)⟩
      refine wp_binG _ _ _ _ _ h2 _ _ (.bool true) (show Act.at b 158 = .int .i64 r2 from hc.v 26 l26 _ rfl) rfl (by kernel_rfl) (HN2 w) ?_
      rw [h1]
      exact hK _ _ (FlatC.step m39d_nd (m39d_ks ) rfl hc 27 (by decide) (Below.refl _ _) (fun u hu => by injection hu with hu; injection hu) (trivial))
    · have h1 : (m39dOps[28]?).map (·.dst) = some (some 160) := by kernel_rfl
      have h2 : (m39dOps[28]?).map (·.op) = some (Op.move (Operand.tmp 159)) := by kernel_rfl
      have h3 : (m39dOps[28]?).map (·.guard) = some (some (24, true)) := by kernel_rfl
      rw [ho] at h1 h2 h3
      replace h1 := Option.some.inj h1
      replace h2 := Option.some.inj h2
      replace h3 := Option.some.inj h3
      simp only at h1 h2 h3
      rw [h1] at hK
      have l24 : L 24 = true := hdep 24 (by simp [m39dDep])
      have l27 : L 27 = true := hdep 27 (by simp [m39dDep])
      have hw := wanted_of (ops := m39dOps) (b := b) h3 (d := 156) (by kernel_rfl) (show Act.at b 156 = .bool true from hc.v 24 l24 _ rfl)
      rw [hw]
      refine ⟨fun _ => ?_, fun hq => absurd hq (by decide)⟩
      refine wp_moveG _ h2 _ (show Act.at b 159 = .bool true from hc.v 27 l27 _ rfl) ?_
      rw [h1]
      exact hK _ _ (FlatC.step m39d_nd (m39d_ks ) rfl hc 28 (by decide) (Below.refl _ _) (fun u hu => by injection hu with hu; injection hu) (trivial))
    · have h1 : (m39dOps[29]?).map (·.dst) = some (some 161) := by kernel_rfl
      have h2 : (m39dOps[29]?).map (·.op) = some (Op.load 24 (Operand.tmp 17)) := by kernel_rfl
      have h3 : (m39dOps[29]?).map (·.guard) = some (some (28, false)) := by kernel_rfl
      rw [ho] at h1 h2 h3
      replace h1 := Option.some.inj h1
      replace h2 := Option.some.inj h2
      replace h3 := Option.some.inj h3
      simp only at h1 h2 h3
      rw [h1] at hK
      have l28 : L 28 = true := hdep 28 (by simp [m39dDep])
      have hw := wanted_of (ops := m39dOps) (b := b) h3 (d := 160) (by kernel_rfl) (show Act.at b 160 = .bool true from hc.v 28 l28 _ rfl)
      rw [hw]
      refine ⟨fun hq => absurd hq (by decide), fun _ => ?_⟩
      rw [h1]
      exact hK _ _ (FlatC.step m39d_nd (m39d_ks ) rfl hc 29 (by decide) (Below.refl _ _) (fun u hu => by injection hu with hu; injection hu) trivial)
    · have h1 : (m39dOps[30]?).map (·.dst) = some (some 162) := by kernel_rfl
      have h2 : (m39dOps[30]?).map (·.op) = some (Op.call { callee := Callee.value (Operand.func 18), args := #[Operand.tmp 161], argTypes := #[24] }) := by kernel_rfl
      have h3 : (m39dOps[30]?).map (·.guard) = some (some (28, false)) := by kernel_rfl
      rw [ho] at h1 h2 h3
      replace h1 := Option.some.inj h1
      replace h2 := Option.some.inj h2
      replace h3 := Option.some.inj h3
      simp only at h1 h2 h3
      rw [h1] at hK
      have l28 : L 28 = true := hdep 28 (by simp [m39dDep])
      have hw := wanted_of (ops := m39dOps) (b := b) h3 (d := 160) (by kernel_rfl) (show Act.at b 160 = .bool true from hc.v 28 l28 _ rfl)
      rw [hw]
      refine ⟨fun hq => absurd hq (by decide), fun _ => ?_⟩
      rw [h1]
      exact hK _ _ (FlatC.step m39d_nd (m39d_ks ) rfl hc 30 (by decide) (Below.refl _ _) (fun u hu => by injection hu with hu; injection hu) trivial)
    · have h1 : (m39dOps[31]?).map (·.dst) = some (some 163) := by kernel_rfl
      have h2 : (m39dOps[31]?).map (·.op) = some (Op.call { callee := Callee.value (Operand.func 17), args := #[Operand.tmp 162, Operand.const (Value.string { data := #[44] })], argTypes := #[43, 9] }) := by kernel_rfl
      have h3 : (m39dOps[31]?).map (·.guard) = some (some (28, false)) := by kernel_rfl
      rw [ho] at h1 h2 h3
      replace h1 := Option.some.inj h1
      replace h2 := Option.some.inj h2
      replace h3 := Option.some.inj h3
      simp only at h1 h2 h3
      rw [h1] at hK
      have l28 : L 28 = true := hdep 28 (by simp [m39dDep])
      have hw := wanted_of (ops := m39dOps) (b := b) h3 (d := 160) (by kernel_rfl) (show Act.at b 160 = .bool true from hc.v 28 l28 _ rfl)
      rw [hw]
      refine ⟨fun hq => absurd hq (by decide), fun _ => ?_⟩
      rw [h1]
      exact hK _ _ (FlatC.step m39d_nd (m39d_ks ) rfl hc 31 (by decide) (Below.refl _ _) (fun u hu => by injection hu with hu; injection hu) trivial)
    · have h1 : (m39dOps[32]?).map (·.dst) = some (some 164) := by kernel_rfl
      have h2 : (m39dOps[32]?).map (·.op) = some (Op.load 24 (Operand.tmp 14)) := by kernel_rfl
      have h3 : (m39dOps[32]?).map (·.guard) = some (some (28, false)) := by kernel_rfl
      rw [ho] at h1 h2 h3
      replace h1 := Option.some.inj h1
      replace h2 := Option.some.inj h2
      replace h3 := Option.some.inj h3
      simp only at h1 h2 h3
      rw [h1] at hK
      have l28 : L 28 = true := hdep 28 (by simp [m39dDep])
      have hw := wanted_of (ops := m39dOps) (b := b) h3 (d := 160) (by kernel_rfl) (show Act.at b 160 = .bool true from hc.v 28 l28 _ rfl)
      rw [hw]
      refine ⟨fun hq => absurd hq (by decide), fun _ => ?_⟩
      rw [h1]
      exact hK _ _ (FlatC.step m39d_nd (m39d_ks ) rfl hc 32 (by decide) (Below.refl _ _) (fun u hu => by injection hu with hu; injection hu) trivial)
    · have h1 : (m39dOps[33]?).map (·.dst) = some (some 165) := by kernel_rfl
      have h2 : (m39dOps[33]?).map (·.op) = some (Op.call { callee := Callee.value (Operand.func 18), args := #[Operand.tmp 164], argTypes := #[24] }) := by kernel_rfl
      have h3 : (m39dOps[33]?).map (·.guard) = some (some (28, false)) := by kernel_rfl
      rw [ho] at h1 h2 h3
      replace h1 := Option.some.inj h1
      replace h2 := Option.some.inj h2
      replace h3 := Option.some.inj h3
      simp only at h1 h2 h3
      rw [h1] at hK
      have l28 : L 28 = true := hdep 28 (by simp [m39dDep])
      have hw := wanted_of (ops := m39dOps) (b := b) h3 (d := 160) (by kernel_rfl) (show Act.at b 160 = .bool true from hc.v 28 l28 _ rfl)
      rw [hw]
      refine ⟨fun hq => absurd hq (by decide), fun _ => ?_⟩
      rw [h1]
      exact hK _ _ (FlatC.step m39d_nd (m39d_ks ) rfl hc 33 (by decide) (Below.refl _ _) (fun u hu => by injection hu with hu; injection hu) trivial)
    · have h1 : (m39dOps[34]?).map (·.dst) = some (some 166) := by kernel_rfl
      have h2 : (m39dOps[34]?).map (·.op) = some (Op.call { callee := Callee.value (Operand.func 17), args := #[Operand.tmp 165, Operand.const (Value.string { data := #[44] })], argTypes := #[43, 9] }) := by kernel_rfl
      have h3 : (m39dOps[34]?).map (·.guard) = some (some (28, false)) := by kernel_rfl
      rw [ho] at h1 h2 h3
      replace h1 := Option.some.inj h1
      replace h2 := Option.some.inj h2
      replace h3 := Option.some.inj h3
      simp only at h1 h2 h3
      rw [h1] at hK
      have l28 : L 28 = true := hdep 28 (by simp [m39dDep])
      have hw := wanted_of (ops := m39dOps) (b := b) h3 (d := 160) (by kernel_rfl) (show Act.at b 160 = .bool true from hc.v 28 l28 _ rfl)
      rw [hw]
      refine ⟨fun hq => absurd hq (by decide), fun _ => ?_⟩
      rw [h1]
      exact hK _ _ (FlatC.step m39d_nd (m39d_ks ) rfl hc 34 (by decide) (Below.refl _ _) (fun u hu => by injection hu with hu; injection hu) trivial)
    · have h1 : (m39dOps[35]?).map (·.dst) = some (some 167) := by kernel_rfl
      have h2 : (m39dOps[35]?).map (·.op) = some (Op.binOp BinOp.eql 9 (Operand.tmp 163) (Operand.tmp 166) 9) := by kernel_rfl
      have h3 : (m39dOps[35]?).map (·.guard) = some (some (28, false)) := by kernel_rfl
      rw [ho] at h1 h2 h3
      replace h1 := Option.some.inj h1
      replace h2 := Option.some.inj h2
      replace h3 := Option.some.inj h3
      simp only at h1 h2 h3
      rw [h1] at hK
      have l28 : L 28 = true := hdep 28 (by simp [m39dDep])
      have hw := wanted_of (ops := m39dOps) (b := b) h3 (d := 160) (by kernel_rfl) (show Act.at b 160 = .bool true from hc.v 28 l28 _ rfl)
      rw [hw]
      refine ⟨fun hq => absurd hq (by decide), fun _ => ?_⟩
      rw [h1]
      exact hK _ _ (FlatC.step m39d_nd (m39d_ks ) rfl hc 35 (by decide) (Below.refl _ _) (fun u hu => by injection hu with hu; injection hu) trivial)
    · have h1 : (m39dOps[36]?).map (·.dst) = some (some 168) := by kernel_rfl
      have h2 : (m39dOps[36]?).map (·.op) = some (Op.pick (Operand.tmp 160) (Operand.const (Value.bool true)) (Operand.tmp 167)) := by kernel_rfl
      have h3 : (m39dOps[36]?).map (·.guard) = some (some (24, true)) := by kernel_rfl
      rw [ho] at h1 h2 h3
      replace h1 := Option.some.inj h1
      replace h2 := Option.some.inj h2
      replace h3 := Option.some.inj h3
      simp only at h1 h2 h3
      rw [h1] at hK
      have l24 : L 24 = true := hdep 24 (by simp [m39dDep])
      have l28 : L 28 = true := hdep 28 (by simp [m39dDep])
      have hw := wanted_of (ops := m39dOps) (b := b) h3 (d := 156) (by kernel_rfl) (show Act.at b 156 = .bool true from hc.v 24 l24 _ rfl)
      rw [hw]
      refine ⟨fun _ => ?_, fun hq => absurd hq (by decide)⟩
      refine wp_pickG _ _ _ h2 true (show Act.at b 160 = .bool true from hc.v 28 l28 _ rfl) _ (if_pos rfl |>.trans rfl) ?_
      rw [h1]
      exact hK _ _ (FlatC.step m39d_nd (m39d_ks ) rfl hc 36 (by decide) (Below.refl _ _) (fun u hu => by injection hu with hu; injection hu) (trivial))
    · have h1 : (m39dOps[37]?).map (·.dst) = some (some 169) := by kernel_rfl
      have h2 : (m39dOps[37]?).map (·.op) = some (Op.pick (Operand.tmp 156) (Operand.tmp 168) (Operand.const (Value.bool false))) := by kernel_rfl
      have h3 : (m39dOps[37]?).map (·.guard) = some none := by kernel_rfl
      rw [ho] at h1 h2 h3
      replace h1 := Option.some.inj h1
      replace h2 := Option.some.inj h2
      replace h3 := Option.some.inj h3
      simp only at h1 h2 h3
      rw [h1] at hK
      have l24 : L 24 = true := hdep 24 (by simp [m39dDep])
      have l36 : L 36 = true := hdep 36 (by simp [m39dDep])
      refine ⟨fun _ => ?_, fun hw => by rw [wanted_none h3] at hw; cases hw⟩
      refine wp_pickG _ _ _ h2 true (show Act.at b 156 = .bool true from hc.v 24 l24 _ rfl) _ (if_pos rfl |>.trans (show Act.at b 168 = .bool true from hc.v 36 l36 _ rfl)) ?_
      rw [h1]
      exact hK _ _ (FlatC.step m39d_nd (m39d_ks ) rfl hc 37 (by decide) (Below.refl _ _) (fun u hu => by injection hu with hu; injection hu) (trivial))
    · have h1 : (m39dOps[38]?).map (·.dst) = some (some 6) := by kernel_rfl
      have h2 : (m39dOps[38]?).map (·.op) = some (Op.assign (Operand.tmp 169)) := by kernel_rfl
      have h3 : (m39dOps[38]?).map (·.guard) = some none := by kernel_rfl
      rw [ho] at h1 h2 h3
      replace h1 := Option.some.inj h1
      replace h2 := Option.some.inj h2
      replace h3 := Option.some.inj h3
      simp only at h1 h2 h3
      rw [h1] at hK
      have l37 : L 37 = true := hdep 37 (by simp [m39dDep])
      refine ⟨fun _ => ?_, fun hw => by rw [wanted_none h3] at hw; cases hw⟩
      refine wp_assignG _ h2 _ (show Act.at b 169 = .bool true from hc.v 37 l37 _ rfl) ?_
      rw [h1]
      exact hK _ _ (FlatC.step m39d_nd (m39d_ks ) rfl hc 38 (by decide) (Below.refl _ _) (fun u hu => by injection hu with hu; injection hu) (trivial))
  · rintro L b w hL hd hs hf hc
    have hsz2 : m39dOps.size = 39 := rfl
    rw [hsz2] at hL
    have e := act_eq (a := A0) (b := b) (m39dUs (Act.at b)) hd hs hf (by
      intro p hp
      simp only [m39dUs, List.mem_cons, List.not_mem_nil, or_false] at hp
      rcases hp with rfl | rfl | rfl | rfl | rfl | rfl | rfl | rfl | rfl | rfl | rfl | rfl | rfl | rfl | rfl | rfl | rfl | rfl | rfl | rfl | rfl | rfl | rfl | rfl | rfl | rfl | rfl | rfl | rfl | rfl | rfl | rfl | rfl | rfl | rfl | rfl | rfl | rfl | rfl <;> rfl) (by rw [show (m39dUs (Act.at b)).map (·.1) = [132, 133, 134, 135, 136, 137, 138, 139, 140, 141, 142, 143, 144, 145, 146, 147, 148, 149, 150, 151, 152, 153, 154, 155, 156, 157, 158, 159, 160, 161, 162, 163, 164, 165, 166, 167, 168, 169, 6] from rfl]; decide)
    rw [e]
    exact hk (Act.at b) w (hc.v 38 (hL 38 (by omega)) _ rfl) ⟨hc.bel.os, hc.bel.tape, hc.bel.output, hc.bel.size, hc.bel.block⟩
end Go.Proofs.YtpbkdokhlimpfaaDoor
