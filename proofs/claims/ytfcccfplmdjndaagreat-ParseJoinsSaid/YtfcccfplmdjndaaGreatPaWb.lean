/- spec: Add's statement, whose steps stand in open order. -/
import Derived.Test.YtfcccfplmdjndaaGreatPaU
namespace Go.Proofs.YtfcccfplmdjndaaGreat
set_option linter.unusedSimpArgs false
set_option linter.unusedVariables false
open Go.RowKit

def aopOps : Array Oper := #[{ dst := some 15, op := Op.move (Operand.tmp 0), type := 87, pos := "builder.go:14", after := #[], guard := none }, { dst := some 16, op := Op.move (Operand.tmp 0), type := 87, pos := "builder.go:14", after := #[], guard := none }, { dst := some 17, op := Op.nilCheck (Operand.tmp 16), type := 0, pos := "builder.go:14", after := #[{ on := 1, ground := Ground.data }], guard := none }, { dst := some 18, op := Op.fieldAddr 41 (Operand.tmp 17) 0, type := 0, pos := "builder.go:14", after := #[{ on := 2, ground := Ground.data }], guard := none }, { dst := some 19, op := Op.fieldAddr 32 (Operand.tmp 18) 0, type := 0, pos := "builder.go:14", after := #[{ on := 3, ground := Ground.data }], guard := none }, { dst := some 20, op := Op.load 29 (Operand.tmp 19), type := 29, pos := "builder.go:14", after := #[{ on := 4, ground := Ground.data }], guard := none }, { dst := some 21, op := Op.load 54 (Operand.tmp 3), type := 54, pos := "builder.go:14", after := #[], guard := none }, { dst := some 22, op := Op.call { callee := Callee.value (Operand.func 35), args := #[Operand.tmp 21], argTypes := #[54] }, type := 54, pos := "builder.go:14", after := #[{ on := 6, ground := Ground.data }], guard := none }, { dst := some 23, op := Op.buildSlice 29 1 #[(0, Operand.tmp 22)], type := 29, pos := "builder.go:14", after := #[{ on := 7, ground := Ground.data }], guard := none }, { dst := some 24, op := Op.call { callee := Callee.builtin Builtin.append, args := #[Operand.tmp 20, Operand.tmp 23], argTypes := #[29, 29] }, type := 29, pos := "builder.go:14", after := #[{ on := 5, ground := Ground.data }, { on := 8, ground := Ground.data }, { on := 7, ground := Ground.chain }], guard := none }, { dst := some 25, op := Op.nilCheck (Operand.tmp 15), type := 0, pos := "builder.go:14", after := #[{ on := 0, ground := Ground.data }, { on := 0, ground := Ground.phase }, { on := 1, ground := Ground.phase }, { on := 2, ground := Ground.phase }, { on := 3, ground := Ground.phase }, { on := 4, ground := Ground.phase }, { on := 5, ground := Ground.phase }, { on := 6, ground := Ground.phase }, { on := 7, ground := Ground.phase }, { on := 8, ground := Ground.phase }, { on := 9, ground := Ground.phase }], guard := none }, { dst := some 26, op := Op.fieldAddr 41 (Operand.tmp 25) 0, type := 0, pos := "builder.go:14", after := #[{ on := 10, ground := Ground.data }, { on := 0, ground := Ground.phase }, { on := 1, ground := Ground.phase }, { on := 2, ground := Ground.phase }, { on := 3, ground := Ground.phase }, { on := 4, ground := Ground.phase }, { on := 5, ground := Ground.phase }, { on := 6, ground := Ground.phase }, { on := 7, ground := Ground.phase }, { on := 8, ground := Ground.phase }, { on := 9, ground := Ground.phase }], guard := none }, { dst := some 27, op := Op.fieldAddr 32 (Operand.tmp 26) 0, type := 0, pos := "builder.go:14", after := #[{ on := 11, ground := Ground.data }, { on := 0, ground := Ground.phase }, { on := 1, ground := Ground.phase }, { on := 2, ground := Ground.phase }, { on := 3, ground := Ground.phase }, { on := 4, ground := Ground.phase }, { on := 5, ground := Ground.phase }, { on := 6, ground := Ground.phase }, { on := 7, ground := Ground.phase }, { on := 8, ground := Ground.phase }, { on := 9, ground := Ground.phase }], guard := none }, { dst := none, op := Op.store 29 (Operand.tmp 27) (Operand.tmp 24), type := 0, pos := "builder.go:14", after := #[{ on := 12, ground := Ground.data }, { on := 9, ground := Ground.data }, { on := 9, ground := Ground.chain }, { on := 0, ground := Ground.phase }, { on := 1, ground := Ground.phase }, { on := 2, ground := Ground.phase }, { on := 3, ground := Ground.phase }, { on := 4, ground := Ground.phase }, { on := 5, ground := Ground.phase }, { on := 6, ground := Ground.phase }, { on := 7, ground := Ground.phase }, { on := 8, ground := Ground.phase }, { on := 9, ground := Ground.phase }], guard := none }]
def aopDep : Nat → List Nat := fun i => match i with | 2 => [1] | 3 => [2] | 4 => [3] | 5 => [4] | 7 => [6] | 8 => [7] | 9 => [5, 8] | 10 => [0] | 11 => [10] | 12 => [11] | 13 => [12, 9] | _ => []
structure aopC (pb po n cc : Nat) (A : Option Addr) (cs : Array Value) (W1 : World) (R7 R8 R9 : Value → World → Prop) (R13 : World → Prop) (L : Nat → Bool) (f : Nat → Value) (w : World) : Prop where
 v0 : L 0 = true → f 15 = .pointer (some ⟨pb, po, none⟩)
 v1 : L 1 = true → f 16 = .pointer (some ⟨pb, po, none⟩)
 v2 : L 2 = true → f 17 = .pointer (some ⟨pb, po, none⟩)
 v3 : L 3 = true → f 18 = .pointer (some ⟨pb, po, none⟩)
 v4 : L 4 = true → f 19 = .pointer (some ⟨pb, po, none⟩)
 v5 : L 5 = true → f 20 = .slice A n cc
 v6 : L 6 = true → f 21 = .agg cs
 v10 : L 10 = true → f 25 = .pointer (some ⟨pb, po, none⟩)
 v11 : L 11 = true → f 26 = .pointer (some ⟨pb, po, none⟩)
 v12 : L 12 = true → f 27 = .pointer (some ⟨pb, po, none⟩)
 w0 : L 7 = false → w = W1
 w7 : L 7 = true → L 8 = false → R7 (f 22) w
 w8 : L 8 = true → L 9 = false → R8 (f 23) w
 w9 : L 9 = true → L 13 = false → R9 (f 24) w
 w13 : L 13 = true → R13 w
 d7 : L 8 = true → L 7 = true
 d8 : L 9 = true → L 8 = true
 d9 : L 13 = true → L 9 = true
 d5 : L 9 = true → L 5 = true
 d6 : L 7 = true → L 6 = true
theorem aop_0 {pb po n cc : Nat} {A : Option Addr} {cs : Array Value} {W1 : World} {R7 R8 R9 : Value → World → Prop} {R13 : World → Prop} {L : Nat → Bool} {f : Nat → Value} {w : World} (h : aopC pb po n cc A cs W1 R7 R8 R9 R13 L f w) : aopC pb po n cc A cs W1 R7 R8 R9 R13 (fun k => if k = 0 then true else L k) (fun t => if (some 15 : Option Nat) = some t then (.pointer (some ⟨pb, po, none⟩)) else f t) w where
 v0 := fun _ => by simp
 v1 := by simpa using h.v1
 v2 := by simpa using h.v2
 v3 := by simpa using h.v3
 v4 := by simpa using h.v4
 v5 := by simpa using h.v5
 v6 := by simpa using h.v6
 v10 := by simpa using h.v10
 v11 := by simpa using h.v11
 v12 := by simpa using h.v12
 w0 := by simpa using h.w0
 w7 := by simpa using h.w7
 w8 := by simpa using h.w8
 w9 := by simpa using h.w9
 w13 := by simpa using h.w13
 d7 := by simpa using h.d7
 d8 := by simpa using h.d8
 d9 := by simpa using h.d9
 d5 := by simpa using h.d5
 d6 := by simpa using h.d6
theorem aop_1 {pb po n cc : Nat} {A : Option Addr} {cs : Array Value} {W1 : World} {R7 R8 R9 : Value → World → Prop} {R13 : World → Prop} {L : Nat → Bool} {f : Nat → Value} {w : World} (h : aopC pb po n cc A cs W1 R7 R8 R9 R13 L f w) : aopC pb po n cc A cs W1 R7 R8 R9 R13 (fun k => if k = 1 then true else L k) (fun t => if (some 16 : Option Nat) = some t then (.pointer (some ⟨pb, po, none⟩)) else f t) w where
 v0 := by simpa using h.v0
 v1 := fun _ => by simp
 v2 := by simpa using h.v2
 v3 := by simpa using h.v3
 v4 := by simpa using h.v4
 v5 := by simpa using h.v5
 v6 := by simpa using h.v6
 v10 := by simpa using h.v10
 v11 := by simpa using h.v11
 v12 := by simpa using h.v12
 w0 := by simpa using h.w0
 w7 := by simpa using h.w7
 w8 := by simpa using h.w8
 w9 := by simpa using h.w9
 w13 := by simpa using h.w13
 d7 := by simpa using h.d7
 d8 := by simpa using h.d8
 d9 := by simpa using h.d9
 d5 := by simpa using h.d5
 d6 := by simpa using h.d6
theorem aop_2 {pb po n cc : Nat} {A : Option Addr} {cs : Array Value} {W1 : World} {R7 R8 R9 : Value → World → Prop} {R13 : World → Prop} {L : Nat → Bool} {f : Nat → Value} {w : World} (h : aopC pb po n cc A cs W1 R7 R8 R9 R13 L f w) : aopC pb po n cc A cs W1 R7 R8 R9 R13 (fun k => if k = 2 then true else L k) (fun t => if (some 17 : Option Nat) = some t then (.pointer (some ⟨pb, po, none⟩)) else f t) w where
 v0 := by simpa using h.v0
 v1 := by simpa using h.v1
 v2 := fun _ => by simp
 v3 := by simpa using h.v3
 v4 := by simpa using h.v4
 v5 := by simpa using h.v5
 v6 := by simpa using h.v6
 v10 := by simpa using h.v10
 v11 := by simpa using h.v11
 v12 := by simpa using h.v12
 w0 := by simpa using h.w0
 w7 := by simpa using h.w7
 w8 := by simpa using h.w8
 w9 := by simpa using h.w9
 w13 := by simpa using h.w13
 d7 := by simpa using h.d7
 d8 := by simpa using h.d8
 d9 := by simpa using h.d9
 d5 := by simpa using h.d5
 d6 := by simpa using h.d6
theorem aop_3 {pb po n cc : Nat} {A : Option Addr} {cs : Array Value} {W1 : World} {R7 R8 R9 : Value → World → Prop} {R13 : World → Prop} {L : Nat → Bool} {f : Nat → Value} {w : World} (h : aopC pb po n cc A cs W1 R7 R8 R9 R13 L f w) : aopC pb po n cc A cs W1 R7 R8 R9 R13 (fun k => if k = 3 then true else L k) (fun t => if (some 18 : Option Nat) = some t then (.pointer (some ⟨pb, po, none⟩)) else f t) w where
 v0 := by simpa using h.v0
 v1 := by simpa using h.v1
 v2 := by simpa using h.v2
 v3 := fun _ => by simp
 v4 := by simpa using h.v4
 v5 := by simpa using h.v5
 v6 := by simpa using h.v6
 v10 := by simpa using h.v10
 v11 := by simpa using h.v11
 v12 := by simpa using h.v12
 w0 := by simpa using h.w0
 w7 := by simpa using h.w7
 w8 := by simpa using h.w8
 w9 := by simpa using h.w9
 w13 := by simpa using h.w13
 d7 := by simpa using h.d7
 d8 := by simpa using h.d8
 d9 := by simpa using h.d9
 d5 := by simpa using h.d5
 d6 := by simpa using h.d6
theorem aop_4 {pb po n cc : Nat} {A : Option Addr} {cs : Array Value} {W1 : World} {R7 R8 R9 : Value → World → Prop} {R13 : World → Prop} {L : Nat → Bool} {f : Nat → Value} {w : World} (h : aopC pb po n cc A cs W1 R7 R8 R9 R13 L f w) : aopC pb po n cc A cs W1 R7 R8 R9 R13 (fun k => if k = 4 then true else L k) (fun t => if (some 19 : Option Nat) = some t then (.pointer (some ⟨pb, po, none⟩)) else f t) w where
 v0 := by simpa using h.v0
 v1 := by simpa using h.v1
 v2 := by simpa using h.v2
 v3 := by simpa using h.v3
 v4 := fun _ => by simp
 v5 := by simpa using h.v5
 v6 := by simpa using h.v6
 v10 := by simpa using h.v10
 v11 := by simpa using h.v11
 v12 := by simpa using h.v12
 w0 := by simpa using h.w0
 w7 := by simpa using h.w7
 w8 := by simpa using h.w8
 w9 := by simpa using h.w9
 w13 := by simpa using h.w13
 d7 := by simpa using h.d7
 d8 := by simpa using h.d8
 d9 := by simpa using h.d9
 d5 := by simpa using h.d5
 d6 := by simpa using h.d6
theorem aop_5 {pb po n cc : Nat} {A : Option Addr} {cs : Array Value} {W1 : World} {R7 R8 R9 : Value → World → Prop} {R13 : World → Prop} {L : Nat → Bool} {f : Nat → Value} {w : World} (h : aopC pb po n cc A cs W1 R7 R8 R9 R13 L f w) : aopC pb po n cc A cs W1 R7 R8 R9 R13 (fun k => if k = 5 then true else L k) (fun t => if (some 20 : Option Nat) = some t then (.slice A n cc) else f t) w where
 v0 := by simpa using h.v0
 v1 := by simpa using h.v1
 v2 := by simpa using h.v2
 v3 := by simpa using h.v3
 v4 := by simpa using h.v4
 v5 := fun _ => by simp
 v6 := by simpa using h.v6
 v10 := by simpa using h.v10
 v11 := by simpa using h.v11
 v12 := by simpa using h.v12
 w0 := by simpa using h.w0
 w7 := by simpa using h.w7
 w8 := by simpa using h.w8
 w9 := by simpa using h.w9
 w13 := by simpa using h.w13
 d7 := by simpa using h.d7
 d8 := by simpa using h.d8
 d9 := by simpa using h.d9
 d5 := fun _ => by simp
 d6 := by simpa using h.d6
theorem aop_6 {pb po n cc : Nat} {A : Option Addr} {cs : Array Value} {W1 : World} {R7 R8 R9 : Value → World → Prop} {R13 : World → Prop} {L : Nat → Bool} {f : Nat → Value} {w : World} (h : aopC pb po n cc A cs W1 R7 R8 R9 R13 L f w) : aopC pb po n cc A cs W1 R7 R8 R9 R13 (fun k => if k = 6 then true else L k) (fun t => if (some 21 : Option Nat) = some t then (.agg cs) else f t) w where
 v0 := by simpa using h.v0
 v1 := by simpa using h.v1
 v2 := by simpa using h.v2
 v3 := by simpa using h.v3
 v4 := by simpa using h.v4
 v5 := by simpa using h.v5
 v6 := fun _ => by simp
 v10 := by simpa using h.v10
 v11 := by simpa using h.v11
 v12 := by simpa using h.v12
 w0 := by simpa using h.w0
 w7 := by simpa using h.w7
 w8 := by simpa using h.w8
 w9 := by simpa using h.w9
 w13 := by simpa using h.w13
 d7 := by simpa using h.d7
 d8 := by simpa using h.d8
 d9 := by simpa using h.d9
 d5 := by simpa using h.d5
 d6 := fun _ => by simp
theorem aop_7 {pb po n cc : Nat} {A : Option Addr} {cs : Array Value} {W1 : World} {R7 R8 R9 : Value → World → Prop} {R13 : World → Prop} {L : Nat → Bool} {f : Nat → Value} {w : World} {v : Value} {w2 : World} (h : aopC pb po n cc A cs W1 R7 R8 R9 R13 L f w) (h7 : L 7 = false) (h6 : L 6 = true) (hp : R7 v w2) : aopC pb po n cc A cs W1 R7 R8 R9 R13 (fun k => if k = 7 then true else L k) (fun t => if (some 22 : Option Nat) = some t then v else f t) w2 := by
 have h8 : L 8 = false := by cases hh : L 8 with | false => rfl | true => exact absurd (h.d7 hh) (by rw [h7]; decide)
 have h9 : L 9 = false := by cases hh : L 9 with | false => rfl | true => exact absurd (h.d8 hh) (by rw [h8]; decide)
 have h13 : L 13 = false := by cases hh : L 13 with | false => rfl | true => exact absurd (h.d9 hh) (by rw [h9]; decide)
 constructor
 ·simpa using h.v0
 ·simpa using h.v1
 ·simpa using h.v2
 ·simpa using h.v3
 ·simpa using h.v4
 ·simpa using h.v5
 ·simpa using h.v6
 ·simpa using h.v10
 ·simpa using h.v11
 ·simpa using h.v12
 ·intro hh; simp at hh
 ·intro _ _; simpa using hp
 ·intro hh _; simp [h8] at hh
 ·intro hh _; simp [h9] at hh
 ·intro hh; simp [h13] at hh
 ·intro _; simp
 ·simpa using h.d8
 ·simpa using h.d9
 ·simpa using h.d5
 ·intro _; simpa using h6
theorem aop_8 {pb po n cc : Nat} {A : Option Addr} {cs : Array Value} {W1 : World} {R7 R8 R9 : Value → World → Prop} {R13 : World → Prop} {L : Nat → Bool} {f : Nat → Value} {w : World} {v : Value} {w2 : World} (h : aopC pb po n cc A cs W1 R7 R8 R9 R13 L f w) (h7 : L 7 = true) (h8 : L 8 = false) (hp : R8 v w2) : aopC pb po n cc A cs W1 R7 R8 R9 R13 (fun k => if k = 8 then true else L k) (fun t => if (some 23 : Option Nat) = some t then v else f t) w2 := by
 have h9 : L 9 = false := by cases hh : L 9 with | false => rfl | true => exact absurd (h.d8 hh) (by rw [h8]; decide)
 have h13 : L 13 = false := by cases hh : L 13 with | false => rfl | true => exact absurd (h.d9 hh) (by rw [h9]; decide)
 constructor
 ·simpa using h.v0
 ·simpa using h.v1
 ·simpa using h.v2
 ·simpa using h.v3
 ·simpa using h.v4
 ·simpa using h.v5
 ·simpa using h.v6
 ·simpa using h.v10
 ·simpa using h.v11
 ·simpa using h.v12
 ·intro hh; simp [h7] at hh
 ·intro _ hh; simp at hh
 ·intro _ _; simpa using hp
 ·intro hh _; simp [h9] at hh
 ·intro hh; simp [h13] at hh
 ·intro _; simpa using h7
 ·intro _; simp
 ·simpa using h.d9
 ·simpa using h.d5
 ·simpa using h.d6
theorem aop_9 {pb po n cc : Nat} {A : Option Addr} {cs : Array Value} {W1 : World} {R7 R8 R9 : Value → World → Prop} {R13 : World → Prop} {L : Nat → Bool} {f : Nat → Value} {w : World} {v : Value} {w2 : World} (h : aopC pb po n cc A cs W1 R7 R8 R9 R13 L f w) (h7 : L 7 = true) (h8 : L 8 = true) (h9 : L 9 = false) (h5 : L 5 = true) (hp : R9 v w2) : aopC pb po n cc A cs W1 R7 R8 R9 R13 (fun k => if k = 9 then true else L k) (fun t => if (some 24 : Option Nat) = some t then v else f t) w2 := by
 have h13 : L 13 = false := by cases hh : L 13 with | false => rfl | true => exact absurd (h.d9 hh) (by rw [h9]; decide)
 constructor
 ·simpa using h.v0
 ·simpa using h.v1
 ·simpa using h.v2
 ·simpa using h.v3
 ·simpa using h.v4
 ·simpa using h.v5
 ·simpa using h.v6
 ·simpa using h.v10
 ·simpa using h.v11
 ·simpa using h.v12
 ·intro hh; simp [h7] at hh
 ·intro _ hh; simp [h8] at hh
 ·intro _ hh; simp at hh
 ·intro _ _; simpa using hp
 ·intro hh; simp [h13] at hh
 ·simpa using h.d7
 ·intro _; simpa using h8
 ·intro _; simp
 ·intro _; simpa using h5
 ·simpa using h.d6
theorem aop_10 {pb po n cc : Nat} {A : Option Addr} {cs : Array Value} {W1 : World} {R7 R8 R9 : Value → World → Prop} {R13 : World → Prop} {L : Nat → Bool} {f : Nat → Value} {w : World} (h : aopC pb po n cc A cs W1 R7 R8 R9 R13 L f w) : aopC pb po n cc A cs W1 R7 R8 R9 R13 (fun k => if k = 10 then true else L k) (fun t => if (some 25 : Option Nat) = some t then (.pointer (some ⟨pb, po, none⟩)) else f t) w where
 v0 := by simpa using h.v0
 v1 := by simpa using h.v1
 v2 := by simpa using h.v2
 v3 := by simpa using h.v3
 v4 := by simpa using h.v4
 v5 := by simpa using h.v5
 v6 := by simpa using h.v6
 v10 := fun _ => by simp
 v11 := by simpa using h.v11
 v12 := by simpa using h.v12
 w0 := by simpa using h.w0
 w7 := by simpa using h.w7
 w8 := by simpa using h.w8
 w9 := by simpa using h.w9
 w13 := by simpa using h.w13
 d7 := by simpa using h.d7
 d8 := by simpa using h.d8
 d9 := by simpa using h.d9
 d5 := by simpa using h.d5
 d6 := by simpa using h.d6
theorem aop_11 {pb po n cc : Nat} {A : Option Addr} {cs : Array Value} {W1 : World} {R7 R8 R9 : Value → World → Prop} {R13 : World → Prop} {L : Nat → Bool} {f : Nat → Value} {w : World} (h : aopC pb po n cc A cs W1 R7 R8 R9 R13 L f w) : aopC pb po n cc A cs W1 R7 R8 R9 R13 (fun k => if k = 11 then true else L k) (fun t => if (some 26 : Option Nat) = some t then (.pointer (some ⟨pb, po, none⟩)) else f t) w where
 v0 := by simpa using h.v0
 v1 := by simpa using h.v1
 v2 := by simpa using h.v2
 v3 := by simpa using h.v3
 v4 := by simpa using h.v4
 v5 := by simpa using h.v5
 v6 := by simpa using h.v6
 v10 := by simpa using h.v10
 v11 := fun _ => by simp
 v12 := by simpa using h.v12
 w0 := by simpa using h.w0
 w7 := by simpa using h.w7
 w8 := by simpa using h.w8
 w9 := by simpa using h.w9
 w13 := by simpa using h.w13
 d7 := by simpa using h.d7
 d8 := by simpa using h.d8
 d9 := by simpa using h.d9
 d5 := by simpa using h.d5
 d6 := by simpa using h.d6
theorem aop_12 {pb po n cc : Nat} {A : Option Addr} {cs : Array Value} {W1 : World} {R7 R8 R9 : Value → World → Prop} {R13 : World → Prop} {L : Nat → Bool} {f : Nat → Value} {w : World} (h : aopC pb po n cc A cs W1 R7 R8 R9 R13 L f w) : aopC pb po n cc A cs W1 R7 R8 R9 R13 (fun k => if k = 12 then true else L k) (fun t => if (some 27 : Option Nat) = some t then (.pointer (some ⟨pb, po, none⟩)) else f t) w where
 v0 := by simpa using h.v0
 v1 := by simpa using h.v1
 v2 := by simpa using h.v2
 v3 := by simpa using h.v3
 v4 := by simpa using h.v4
 v5 := by simpa using h.v5
 v6 := by simpa using h.v6
 v10 := by simpa using h.v10
 v11 := by simpa using h.v11
 v12 := fun _ => by simp
 w0 := by simpa using h.w0
 w7 := by simpa using h.w7
 w8 := by simpa using h.w8
 w9 := by simpa using h.w9
 w13 := by simpa using h.w13
 d7 := by simpa using h.d7
 d8 := by simpa using h.d8
 d9 := by simpa using h.d9
 d5 := by simpa using h.d5
 d6 := by simpa using h.d6
theorem aop_13 {pb po n cc : Nat} {A : Option Addr} {cs : Array Value} {W1 : World} {R7 R8 R9 : Value → World → Prop} {R13 : World → Prop} {L : Nat → Bool} {f : Nat → Value} {w : World} {v : Value} {w2 : World} (h : aopC pb po n cc A cs W1 R7 R8 R9 R13 L f w) (h7 : L 7 = true) (h8 : L 8 = true) (h9 : L 9 = true) (h13 : L 13 = false) (hp : R13 w2) : aopC pb po n cc A cs W1 R7 R8 R9 R13 (fun k => if k = 13 then true else L k) (fun t => if (none : Option Nat) = some t then v else f t) w2 := by
 constructor
 ·simpa using h.v0
 ·simpa using h.v1
 ·simpa using h.v2
 ·simpa using h.v3
 ·simpa using h.v4
 ·simpa using h.v5
 ·simpa using h.v6
 ·simpa using h.v10
 ·simpa using h.v11
 ·simpa using h.v12
 ·intro hh; simp [h7] at hh
 ·intro _ hh; simp [h8] at hh
 ·intro _ hh; simp [h9] at hh
 ·intro _ hh; simp at hh
 ·intro _; exact hp
 ·simpa using h.d7
 ·simpa using h.d8
 ·intro _; simpa using h9
 ·simpa using h.d5
 ·simpa using h.d6
theorem enters_ownP : ∀ args w, (callFunc 35 args).run Tryz.prog w = .ok (.enter 35 args) w := enters_of Tryz.func35 (by kernel_rfl) rfl
def aopUs (f : Nat → Value) : List (Nat × Value) := [(15, f 15), (16, f 16), (17, f 17), (18, f 18), (19, f 19), (20, f 20), (21, f 21), (22, f 22), (23, f 23), (24, f 24), (25, f 25), (26, f 26), (27, f 27)]
theorem field_0BP (pb po : Nat) (w : World) : (Instr.fieldAt 41 (.pointer (some ⟨pb, po, none⟩)) 0).run Tryz.prog w = .ok (.pointer (some ⟨pb, po, none⟩)) w := by kernel_rfl
theorem field_0SP (pb po : Nat) (w : World) : (Instr.fieldAt 32 (.pointer (some ⟨pb, po, none⟩)) 0).run Tryz.prog w = .ok (.pointer (some ⟨pb, po, none⟩)) w := by kernel_rfl
theorem load_slNP {w : World} {p : Addr} {A : Option Addr} {n c : Nat} (h : w.cell? p = some (.slice A n c)) : (Instr.loadAt 29 (.pointer (some p))).run Tryz.prog w = .ok (.slice A n c) w := by
 simp [Instr.loadAt, h]
 go_simp
 trace_state
set_option maxRecDepth 10000 in
set_option maxHeartbeats 1000000 in
theorem aop_reg {pb po n cc pn base : Nat} {A : Option Addr} {x : NV} {W : World} {R7 : NV → World → Prop} {xs : List Value} {R9 : Value → World → Prop} {R13 : World → Prop} {A0 : Act} {Q : Exit → Act → World → Prop} {id : Nat} (a0 : Act.at A0 0 = .pointer (some ⟨pb, po, none⟩)) (a3 : Act.at A0 3 = .pointer (some ⟨pn, 0, none⟩)) (hsz : 28 ≤ A0.tmps.size) (hN : Blk W pn 54 x.cells) (hB : W.cell? ⟨pb, po, none⟩ = some (.slice A n cc)) (hn : n ≤ 1048576)
  (HC : Calls Tryz.prog 35 #[.agg x.cells.toArray] W.drew fun e w' => ∃ v, e = .returned v ∧ (fun u w => ∃ y : NV, u = .agg y.cells.toArray ∧ R7 y w) v w')
  (hR7 : ∀ y w, R7 y w → w.cell? ⟨pb, po, none⟩ = some (.slice A n cc) ∧ w.frozen? ⟨pb, po, none⟩ = false ∧ w.ownsRow base 54 18 (.slice A n cc) n xs ∧ base ≤ w.heap.size ∧ pb < w.heap.size)
  (hR9 : ∀ y w, R7 y w → ∀ v' w', w'.ownsRow base 54 18 v' (n + 1) (xs ++ y.cells) → (w.alloc (.cells y.cells.toArray 54)).grownBy w' (Value.slice A n cc).ownBlock → (v'.ownBlock = (Value.slice A n cc).ownBlock ∨ v'.ownBlock = some (w.heap.size + 1)) → R9 v' w')
  (hR13 : ∀ v w, R9 v w → (∃ A' c', v = .slice A' (n + 1) c') ∧ (∃ u, w.cell? ⟨pb, po, none⟩ = some u) ∧ w.frozen? ⟨pb, po, none⟩ = false ∧ R13 (w.setCell ⟨pb, po, none⟩ v))
  (hk : ∀ (f : Nat → Value) w', R13 w' → Q .normal ⟨(aopUs f).foldl (fun A p => A.setIfInBounds p.1 p.2) A0.tmps, A0.defers⟩ w') :
  (Code.region id aopOps true).wp Tryz.prog Q A0 W := by
 obtain ⟨R8, hR8⟩ : ∃ R8 : Value → World → Prop, R8 = fun u w => ∃ y w1, R7 y w1 ∧ u = .slice (some ⟨w1.heap.size, 0, none⟩) 1 1 ∧ w = w1.alloc (.cells y.cells.toArray 54) := ⟨_, rfl⟩
 refine wp_region_fun (by kernel_rfl) (fun L f w => aopC pb po n cc A x.cells.toArray W.drew (fun u w => ∃ y : NV, u = .agg y.cells.toArray ∧ R7 y w) R8 R9 R13 L f w) [15, 16, 17, 18, 19, 20, 21, 22, 23, 24, 25, 26, 27] (wf_ops2 (by kernel_rfl)) (fun i o ho u hu => ?_) ?_ ?_ ?_
 ·have := ops_dst [15, 16, 17, 18, 19, 20, 21, 22, 23, 24, 25, 26, 27] 28 (by kernel_rfl) i o ho u hu
  exact ⟨this.1, Nat.lt_of_lt_of_le this.2 hsz⟩
 ·have hs : aopOps.size = 14 := rfl
  rw [hs]
  constructor <;> first | exact (fun _ => rfl) | (intro h; simp at h) | (intro h h2; simp at h)
 ·rintro L i o ho hLi haf b w hf hc K hK
  have hdep := ops_deps aopDep (by kernel_rfl) ho haf
  clear haf
  have hs : aopOps.size = 14 := rfl
  have hlt : i < 14 := hs ▸ (Array.getElem?_eq_some_iff.1 ho).1
  have hcases : i = 0 ∨ i = 1 ∨ i = 2 ∨ i = 3 ∨ i = 4 ∨ i = 5 ∨ i = 6 ∨ i = 7 ∨ i = 8 ∨ i = 9 ∨ i = 10 ∨ i = 11 ∨ i = 12 ∨ i = 13 := by omega
  rcases hcases with rfl | rfl | rfl | rfl | rfl | rfl | rfl | rfl | rfl | rfl | rfl | rfl | rfl | rfl
  ·obtain ⟨h1, h2⟩ := op_at2 ho (show (aopOps[0]?).map (fun o => (o.dst, o.op)) = some ((some 15), (.move (.tmp 0))) by kernel_rfl)
   rw [h1] at hK
   refine wp_moveG _ h2 _ ((hf 0 (by decide)).trans a0) ?_
   rw [h1]
   exact hK _ _ (aop_0 hc)
  ·obtain ⟨h1, h2⟩ := op_at2 ho (show (aopOps[1]?).map (fun o => (o.dst, o.op)) = some ((some 16), (.move (.tmp 0))) by kernel_rfl)
   rw [h1] at hK
   refine wp_moveG _ h2 _ ((hf 0 (by decide)).trans a0) ?_
   rw [h1]
   exact hK _ _ (aop_1 hc)
  ·obtain ⟨h1, h2⟩ := op_at2 ho (show (aopOps[2]?).map (fun o => (o.dst, o.op)) = some ((some 17), (.nilCheck (.tmp 16))) by kernel_rfl)
   rw [h1] at hK
   have l1 : L 1 = true := hdep 1 (by simp [aopDep])
   refine wp_nilG _ h2 _ (hc.v1 l1) ?_
   rw [h1]
   exact hK _ _ (aop_2 hc)
  ·obtain ⟨h1, h2⟩ := op_at2 ho (show (aopOps[3]?).map (fun o => (o.dst, o.op)) = some ((some 18), (.fieldAddr 41 (.tmp 17) 0)) by kernel_rfl)
   rw [h1] at hK
   have l2 : L 2 = true := hdep 2 (by simp [aopDep])
   refine wp_fieldG _ _ _ h2 _ _ (hc.v2 l2) (field_0BP pb po w) ?_
   rw [h1]
   exact hK _ _ (aop_3 hc)
  ·obtain ⟨h1, h2⟩ := op_at2 ho (show (aopOps[4]?).map (fun o => (o.dst, o.op)) = some ((some 19), (.fieldAddr 32 (.tmp 18) 0)) by kernel_rfl)
   rw [h1] at hK
   have l3 : L 3 = true := hdep 3 (by simp [aopDep])
   refine wp_fieldG _ _ _ h2 _ _ (hc.v3 l3) (field_0SP pb po w) ?_
   rw [h1]
   exact hK _ _ (aop_4 hc)
  ·obtain ⟨h1, h2⟩ := op_at2 ho (show (aopOps[5]?).map (fun o => (o.dst, o.op)) = some ((some 20), (.load 29 (.tmp 19))) by kernel_rfl)
   rw [h1] at hK
   have l4 : L 4 = true := hdep 4 (by simp [aopDep])
   have hcell : w.cell? ⟨pb, po, none⟩ = some (.slice A n cc) := by
    cases h7 : L 7 with
    | false => rw [hc.w0 h7]; exact hB
    | true =>
     cases h8 : L 8 with
     | false => obtain ⟨y, _, hy⟩ := hc.w7 h7 h8; exact (hR7 y w hy).1
     | true =>
      cases h9 : L 9 with
      | true => exact absurd (hc.d5 h9) (by rw [hLi]; decide)
      | false =>
       have h88 := hc.w8 h8 h9
       rw [hR8] at h88
       obtain ⟨y, w1, hy, _, rfl⟩ := h88
       have h1c := (hR7 y w1 hy).1
       have hal : Below w1.heap.size w1 (w1.alloc (.cells y.cells.toArray 54)) := (Below.refl _ _).alloc (Nat.le_refl _) _
       exact (World.cell?_of_block (w := w1) (a := ⟨pb, po, none⟩) (hal.block pb (hR7 y w1 hy).2.2.2.2)).trans h1c
   refine wp_loadG _ _ h2 _ _ (hc.v4 l4) (load_slNP hcell) ?_
   rw [h1]
   exact hK _ _ (aop_5 hc)
  ·obtain ⟨h1, h2⟩ := op_at2 ho (show (aopOps[6]?).map (fun o => (o.dst, o.op)) = some ((some 21), (.load 54 (.tmp 3))) by kernel_rfl)
   rw [h1] at hK
   cases h7 : L 7 with
   | true => exact absurd (hc.d6 h7) (by rw [hLi]; decide)
   | false =>
   obtain rfl := hc.w0 h7
   refine wp_load_row 54 (.tmp 3) h2 pn ((hf 3 (by decide)).trans a3) 54 x.cells.toArray (0, 0) _ hN Tryz.underlying54 rfl (nv_size x) ?_
   rw [h1]
   exact hK _ _ (aop_6 hc)
  ·obtain ⟨h1, h2⟩ := op_at2 ho (show (aopOps[7]?).map (fun o => (o.dst, o.op)) = some ((some 22), (.call { callee := .value (.func 35), args := #[.tmp 21], argTypes := #[54] })) by kernel_rfl)
   rw [h1] at hK
   have l6 : L 6 = true := hdep 6 (by simp [aopDep])
   obtain rfl := hc.w0 hLi
   refine wp_callG 35 _ _ h2 enters_ownP #[.agg x.cells.toArray] (by simp [show b.eval (.tmp 21) = _ from hc.v6 l6]) _ HC ?_
   intro v w2 hp
   rw [h1]
   exact hK _ _ (aop_7 hc hLi l6 hp)
  ·obtain ⟨h1, h2⟩ := op_at2 ho (show (aopOps[8]?).map (fun o => (o.dst, o.op)) = some ((some 23), (.buildSlice 29 1 #[(0, .tmp 22)])) by kernel_rfl)
   rw [h1] at hK
   have l7 : L 7 = true := hdep 7 (by simp [aopDep])
   have l8 : L 8 = false := hLi
   obtain ⟨y, hy0, hy⟩ := hc.w7 l7 l8
   refine wp_build1N 22 h2 y hy0 ?_
   rw [h1]
   exact hK _ _ (aop_8 hc l7 hLi (by rw [hR8]; exact ⟨y, _, hy, rfl, rfl⟩))
  ·have h1 : (aopOps[9]?).map (·.dst) = some (some 24) := by kernel_rfl
   have h2 : (aopOps[9]?).map (·.op) = some (.call { callee := .builtin .append, args := #[.tmp 20, .tmp 23], argTypes := #[29, 29] }) := by kernel_rfl
   have h4 : (aopOps[9]?).map (·.type) = some 29 := by kernel_rfl
   rw [ho] at h1 h2 h4
   replace h1 := Option.some.inj h1
   replace h2 := Option.some.inj h2
   replace h4 := Option.some.inj h4
   simp only at h1 h2 h4
   rw [h1] at hK
   have l5 : L 5 = true := hdep 5 (by simp [aopDep])
   have l8 : L 8 = true := hdep 8 (by simp [aopDep])
   have l7 := hc.d7 l8
   have h88 := hc.w8 l8 hLi
   rw [hR8] at h88
   obtain ⟨y, w1, hy, hu, rfl⟩ := h88
   obtain ⟨hq1, hq2, hq3, hq4, _⟩ := hR7 y w1 hy
   have hal : Below w1.heap.size w1 (w1.alloc (.cells y.cells.toArray 54)) := (Below.refl _ _).alloc (Nat.le_refl _) _
   refine wp_appN _ _ h2 h4 base (.slice A n cc) n xs (hc.v5 l5) (owns_chg hq3 (Chg.of_below hal (fun _ => False)) (fun _ _ h => h)) w1.heap.size y hu (heap_alloc_new w1 _) hn (Nat.le_trans hq4 hal.size) ?_
   intro v w2 hown hgr hat
   rw [h1]
   exact hK _ _ (aop_9 hc l7 l8 hLi l5 (hR9 y w1 hy v w2 hown hgr (by rw [World.size_alloc] at hat; exact hat)))
  ·obtain ⟨h1, h2⟩ := op_at2 ho (show (aopOps[10]?).map (fun o => (o.dst, o.op)) = some ((some 25), (.nilCheck (.tmp 15))) by kernel_rfl)
   rw [h1] at hK
   have l0 : L 0 = true := hdep 0 (by simp [aopDep])
   refine wp_nilG _ h2 _ (hc.v0 l0) ?_
   rw [h1]
   exact hK _ _ (aop_10 hc)
  ·obtain ⟨h1, h2⟩ := op_at2 ho (show (aopOps[11]?).map (fun o => (o.dst, o.op)) = some ((some 26), (.fieldAddr 41 (.tmp 25) 0)) by kernel_rfl)
   rw [h1] at hK
   have l10 : L 10 = true := hdep 10 (by simp [aopDep])
   refine wp_fieldG _ _ _ h2 _ _ (hc.v10 l10) (field_0BP pb po w) ?_
   rw [h1]
   exact hK _ _ (aop_11 hc)
  ·obtain ⟨h1, h2⟩ := op_at2 ho (show (aopOps[12]?).map (fun o => (o.dst, o.op)) = some ((some 27), (.fieldAddr 32 (.tmp 26) 0)) by kernel_rfl)
   rw [h1] at hK
   have l11 : L 11 = true := hdep 11 (by simp [aopDep])
   refine wp_fieldG _ _ _ h2 _ _ (hc.v11 l11) (field_0SP pb po w) ?_
   rw [h1]
   exact hK _ _ (aop_12 hc)
  ·obtain ⟨h1, h2⟩ := op_at2 ho (show (aopOps[13]?).map (fun o => (o.dst, o.op)) = some (none, (.store 29 (.tmp 27) (.tmp 24))) by kernel_rfl)
   rw [h1] at hK
   have l12 : L 12 = true := hdep 12 (by simp [aopDep])
   have l9 : L 9 = true := hdep 9 (by simp [aopDep])
   have l8 := hc.d8 l9
   have l7 := hc.d7 l8
   have h9 := hc.w9 l9 hLi
   obtain ⟨⟨A', c', hv⟩, ⟨u, hu⟩, hfz, h13⟩ := hR13 _ _ h9
   rw [hv] at h13
   refine wp_storeN _ _ h2 ⟨pb, po, none⟩ (hc.v12 l12) A' (n + 1) c' hv u hu hfz ?_
   rw [h1]
   exact hK _ _ (aop_13 hc l7 l8 l9 hLi h13)
 ·rintro L b w hL hd hs hf hc
  have hsz2 : aopOps.size = 14 := rfl
  rw [hsz2] at hL
  have e := act_eq (a := A0) (b := b) (aopUs (Act.at b)) hd hs hf (by
   intro p hp
   simp only [aopUs, List.mem_cons, List.not_mem_nil, or_false] at hp
   rcases hp with rfl | rfl | rfl | rfl | rfl | rfl | rfl | rfl | rfl | rfl | rfl | rfl | rfl <;> rfl) (by rw [show (aopUs (Act.at b)).map (·.1) = [15, 16, 17, 18, 19, 20, 21, 22, 23, 24, 25, 26, 27] from rfl]; decide)
  rw [e]
  exact hk (Act.at b) w (hc.w13 (hL 13 (by omega)))
end Go.Proofs.YtfcccfplmdjndaaGreat
