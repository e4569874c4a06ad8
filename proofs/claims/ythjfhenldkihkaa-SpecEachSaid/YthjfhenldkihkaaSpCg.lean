/- spec: pair's same's last statement, in open order. -/
import Derived.Test.YthjfhenldkihkaaSpCf
namespace Go.Proofs.Ythjfhenldkihkaa
set_option linter.unusedSimpArgs false
set_option linter.unusedVariables false
open Go.RowKit

def sm5Ops : Array Oper := #[{ dst := some 56, op := Op.load 49 (Operand.tmp 7), type := 49, pos := "spec.go:135", after := #[], guard := none }, { dst := some 57, op := Op.load 49 (Operand.tmp 8), type := 49, pos := "spec.go:135", after := #[], guard := none }, { dst := some 58, op := Op.call { callee := Callee.value (Operand.func 59), args := #[Operand.tmp 56, Operand.tmp 57], argTypes := #[49, 49] }, type := 4, pos := "spec.go:135", after := #[{ on := 0, ground := Ground.data }, { on := 1, ground := Ground.data }], guard := none }, { dst := some 59, op := Op.move (Operand.tmp 58), type := 4, pos := "spec.go:135", after := #[{ on := 2, ground := Ground.data }, { on := 2, ground := Ground.chain }], guard := none }, { dst := some 60, op := Op.load 49 (Operand.tmp 7), type := 49, pos := "spec.go:135", after := #[{ on := 3, ground := Ground.guard }], guard := some (3, true) }, { dst := some 61, op := Op.call { callee := Callee.value (Operand.func 20), args := #[Operand.tmp 60], argTypes := #[49] }, type := 30, pos := "spec.go:135", after := #[{ on := 4, ground := Ground.data }, { on := 3, ground := Ground.chain }, { on := 3, ground := Ground.guard }], guard := some (3, true) }, { dst := some 62, op := Op.load 49 (Operand.tmp 8), type := 49, pos := "spec.go:135", after := #[{ on := 3, ground := Ground.guard }], guard := some (3, true) }, { dst := some 63, op := Op.call { callee := Callee.value (Operand.func 20), args := #[Operand.tmp 62], argTypes := #[49] }, type := 30, pos := "spec.go:135", after := #[{ on := 6, ground := Ground.data }, { on := 5, ground := Ground.chain }, { on := 3, ground := Ground.guard }], guard := some (3, true) }, { dst := some 64, op := Op.move (Operand.tmp 0), type := 97, pos := "spec.go:135", after := #[{ on := 3, ground := Ground.guard }], guard := some (3, true) }, { dst := some 65, op := Op.makeFunc (Fn.func 33) #[Operand.tmp 64] #[], type := 74, pos := "spec.go:135", after := #[{ on := 8, ground := Ground.data }, { on := 3, ground := Ground.guard }], guard := some (3, true) }, { dst := some 66, op := Op.call { callee := Callee.value (Operand.func 60), args := #[Operand.tmp 61, Operand.tmp 63, Operand.tmp 65], argTypes := #[30, 30, 74] }, type := 4, pos := "spec.go:135", after := #[{ on := 5, ground := Ground.data }, { on := 7, ground := Ground.data }, { on := 9, ground := Ground.data }, { on := 7, ground := Ground.chain }, { on := 3, ground := Ground.guard }], guard := some (3, true) }, { dst := some 67, op := Op.pick (Operand.tmp 59) (Operand.tmp 66) (Operand.const (Value.bool false)), type := 4, pos := "spec.go:135", after := #[{ on := 3, ground := Ground.data }, { on := 10, ground := Ground.data }], guard := none }, { dst := some 6, op := Op.assign (Operand.tmp 67), type := 4, pos := "spec.go:135", after := #[{ on := 11, ground := Ground.data }, { on := 10, ground := Ground.chain }, { on := 0, ground := Ground.phase }, { on := 1, ground := Ground.phase }, { on := 2, ground := Ground.phase }, { on := 3, ground := Ground.phase }, { on := 4, ground := Ground.phase }, { on := 5, ground := Ground.phase }, { on := 6, ground := Ground.phase }, { on := 7, ground := Ground.phase }, { on := 8, ground := Ground.phase }, { on := 9, ground := Ground.phase }, { on := 10, ground := Ground.phase }, { on := 11, ground := Ground.phase }], guard := none }]
def sm5Dep : Nat → List Nat := fun i => match i with | 2 => [0, 1] | 3 => [2] | 4 => [3] | 5 => [4, 3] | 6 => [3] | 7 => [6, 5, 3] | 8 => [3] | 9 => [8, 3] | 10 => [5, 7, 9, 3] | 11 => [3, 10] | 12 => [11] | _ => []
structure sm5C (gp : Nat) (g7 : Nat) (g8 : Nat) (cs : Array Value) (ds : Array Value) (W1 : World) (R2 : Value → World → Prop) (R5 : Value → World → Prop) (R7 : Value → Value → World → Prop) (R10 : Value → World → Prop) (L : Nat → Bool) (f : Nat → Value) (w : World) : Prop where
  v0 : L 0 = true → f 56 = .agg cs
  v1 : L 1 = true → f 57 = .agg ds
  v3 : L 3 = true → f 59 = .bool true
  v4 : L 4 = true → f 60 = .agg cs
  v6 : L 6 = true → f 62 = .agg ds
  v8 : L 8 = true → f 64 = .pointer (some ⟨gp, 0, none⟩)
  v9 : L 9 = true → f 65 = .func (.func 33) #[.pointer (some ⟨gp, 0, none⟩)] #[]
  v11 : L 11 = true → f 67 = .bool true
  v12 : L 12 = true → f 6 = .bool true
  wz : L 2 = false → w = W1
  w2 : L 2 = true → L 5 = false → R2 (f 58) w
  w5 : L 5 = true → L 7 = false → R5 (f 61) w
  w7 : L 7 = true → L 10 = false → R7 (f 61) (f 63) w
  w10 : L 10 = true → R10 (f 66) w
  d5_2 : L 5 = true → L 2 = true
  d7_5 : L 7 = true → L 5 = true
  d10_7 : L 10 = true → L 7 = true
  d2_0 : L 2 = true → L 0 = true
  d2_1 : L 2 = true → L 1 = true
  d5_3 : L 5 = true → L 3 = true
  d5_4 : L 5 = true → L 4 = true
  d7_6 : L 7 = true → L 6 = true
  d10_9 : L 10 = true → L 9 = true
  d3_2 : L 3 = true → L 2 = true
theorem sm5_0 {gp : Nat} {g7 : Nat} {g8 : Nat} {cs : Array Value} {ds : Array Value} {W1 : World} {R2 : Value → World → Prop} {R5 : Value → World → Prop} {R7 : Value → Value → World → Prop} {R10 : Value → World → Prop} {L : Nat → Bool} {f : Nat → Value} {w : World} (h : sm5C gp g7 g8 cs ds W1 R2 R5 R7 R10 L f w) : sm5C gp g7 g8 cs ds W1 R2 R5 R7 R10 (fun k => if k = 0 then true else L k) (fun t => if (some 56 : Option Nat) = some t then (.agg cs) else f t) w where
  v0 := fun _ => by simp
  v1 := by simpa using h.v1
  v3 := by simpa using h.v3
  v4 := by simpa using h.v4
  v6 := by simpa using h.v6
  v8 := by simpa using h.v8
  v9 := by simpa using h.v9
  v11 := by simpa using h.v11
  v12 := by simpa using h.v12
  wz := by simpa using h.wz
  w2 := by simpa using h.w2
  w5 := by simpa using h.w5
  w7 := by simpa using h.w7
  w10 := by simpa using h.w10
  d5_2 := by simpa using h.d5_2
  d7_5 := by simpa using h.d7_5
  d10_7 := by simpa using h.d10_7
  d2_0 := fun _ => by simp
  d2_1 := by simpa using h.d2_1
  d5_3 := by simpa using h.d5_3
  d5_4 := by simpa using h.d5_4
  d7_6 := by simpa using h.d7_6
  d10_9 := by simpa using h.d10_9
  d3_2 := by simpa using h.d3_2
theorem sm5_1 {gp : Nat} {g7 : Nat} {g8 : Nat} {cs : Array Value} {ds : Array Value} {W1 : World} {R2 : Value → World → Prop} {R5 : Value → World → Prop} {R7 : Value → Value → World → Prop} {R10 : Value → World → Prop} {L : Nat → Bool} {f : Nat → Value} {w : World} (h : sm5C gp g7 g8 cs ds W1 R2 R5 R7 R10 L f w) : sm5C gp g7 g8 cs ds W1 R2 R5 R7 R10 (fun k => if k = 1 then true else L k) (fun t => if (some 57 : Option Nat) = some t then (.agg ds) else f t) w where
  v0 := by simpa using h.v0
  v1 := fun _ => by simp
  v3 := by simpa using h.v3
  v4 := by simpa using h.v4
  v6 := by simpa using h.v6
  v8 := by simpa using h.v8
  v9 := by simpa using h.v9
  v11 := by simpa using h.v11
  v12 := by simpa using h.v12
  wz := by simpa using h.wz
  w2 := by simpa using h.w2
  w5 := by simpa using h.w5
  w7 := by simpa using h.w7
  w10 := by simpa using h.w10
  d5_2 := by simpa using h.d5_2
  d7_5 := by simpa using h.d7_5
  d10_7 := by simpa using h.d10_7
  d2_0 := by simpa using h.d2_0
  d2_1 := fun _ => by simp
  d5_3 := by simpa using h.d5_3
  d5_4 := by simpa using h.d5_4
  d7_6 := by simpa using h.d7_6
  d10_9 := by simpa using h.d10_9
  d3_2 := by simpa using h.d3_2
theorem sm5_2 {gp : Nat} {g7 : Nat} {g8 : Nat} {cs : Array Value} {ds : Array Value} {W1 : World} {R2 : Value → World → Prop} {R5 : Value → World → Prop} {R7 : Value → Value → World → Prop} {R10 : Value → World → Prop} {L : Nat → Bool} {f : Nat → Value} {w : World} {v : Value} {w2 : World} (h : sm5C gp g7 g8 cs ds W1 R2 R5 R7 R10 L f w) (h2 : L 2 = false) (h0 : L 0 = true) (h1 : L 1 = true) (hp : R2 v w2) : sm5C gp g7 g8 cs ds W1 R2 R5 R7 R10 (fun k => if k = 2 then true else L k) (fun t => if (some 58 : Option Nat) = some t then v else f t) w2 := by
  have h5 : L 5 = false := by cases hh : L 5 with | false => rfl | true => exact absurd (h.d5_2 hh) (by rw [h2]; decide)
  have h7 : L 7 = false := by cases hh : L 7 with | false => rfl | true => exact absurd (h.d7_5 hh) (by rw [h5]; decide)
  have h10 : L 10 = false := by cases hh : L 10 with | false => rfl | true => exact absurd (h.d10_7 hh) (by rw [h7]; decide)
  constructor
  · simpa using h.v0
  · simpa using h.v1
  · simpa using h.v3
  · simpa using h.v4
  · simpa using h.v6
  · simpa using h.v8
  · simpa using h.v9
  · simpa using h.v11
  · simpa using h.v12
  · intro hh; simp at hh
  · intro _ _; simpa using hp
  · intro hh _; simp [h5] at hh
  · intro hh _; simp [h7] at hh
  · intro hh; simp [h10] at hh
  · intro _; simp
  · simpa using h.d7_5
  · simpa using h.d10_7
  · intro _; simpa using h0
  · intro _; simpa using h1
  · simpa using h.d5_3
  · simpa using h.d5_4
  · simpa using h.d7_6
  · simpa using h.d10_9
  · intro _; simp
theorem sm5_3 {gp : Nat} {g7 : Nat} {g8 : Nat} {cs : Array Value} {ds : Array Value} {W1 : World} {R2 : Value → World → Prop} {R5 : Value → World → Prop} {R7 : Value → Value → World → Prop} {R10 : Value → World → Prop} {L : Nat → Bool} {f : Nat → Value} {w : World} (h : sm5C gp g7 g8 cs ds W1 R2 R5 R7 R10 L f w) (h2 : L 2 = true) : sm5C gp g7 g8 cs ds W1 R2 R5 R7 R10 (fun k => if k = 3 then true else L k) (fun t => if (some 59 : Option Nat) = some t then (.bool true) else f t) w where
  v0 := by simpa using h.v0
  v1 := by simpa using h.v1
  v3 := fun _ => by simp
  v4 := by simpa using h.v4
  v6 := by simpa using h.v6
  v8 := by simpa using h.v8
  v9 := by simpa using h.v9
  v11 := by simpa using h.v11
  v12 := by simpa using h.v12
  wz := by simpa using h.wz
  w2 := by simpa using h.w2
  w5 := by simpa using h.w5
  w7 := by simpa using h.w7
  w10 := by simpa using h.w10
  d5_2 := by simpa using h.d5_2
  d7_5 := by simpa using h.d7_5
  d10_7 := by simpa using h.d10_7
  d2_0 := by simpa using h.d2_0
  d2_1 := by simpa using h.d2_1
  d5_3 := fun _ => by simp
  d5_4 := by simpa using h.d5_4
  d7_6 := by simpa using h.d7_6
  d10_9 := by simpa using h.d10_9
  d3_2 := fun _ => by simpa using h2
theorem sm5_4 {gp : Nat} {g7 : Nat} {g8 : Nat} {cs : Array Value} {ds : Array Value} {W1 : World} {R2 : Value → World → Prop} {R5 : Value → World → Prop} {R7 : Value → Value → World → Prop} {R10 : Value → World → Prop} {L : Nat → Bool} {f : Nat → Value} {w : World} (h : sm5C gp g7 g8 cs ds W1 R2 R5 R7 R10 L f w) : sm5C gp g7 g8 cs ds W1 R2 R5 R7 R10 (fun k => if k = 4 then true else L k) (fun t => if (some 60 : Option Nat) = some t then (.agg cs) else f t) w where
  v0 := by simpa using h.v0
  v1 := by simpa using h.v1
  v3 := by simpa using h.v3
  v4 := fun _ => by simp
  v6 := by simpa using h.v6
  v8 := by simpa using h.v8
  v9 := by simpa using h.v9
  v11 := by simpa using h.v11
  v12 := by simpa using h.v12
  wz := by simpa using h.wz
  w2 := by simpa using h.w2
  w5 := by simpa using h.w5
  w7 := by simpa using h.w7
  w10 := by simpa using h.w10
  d5_2 := by simpa using h.d5_2
  d7_5 := by simpa using h.d7_5
  d10_7 := by simpa using h.d10_7
  d2_0 := by simpa using h.d2_0
  d2_1 := by simpa using h.d2_1
  d5_3 := by simpa using h.d5_3
  d5_4 := fun _ => by simp
  d7_6 := by simpa using h.d7_6
  d10_9 := by simpa using h.d10_9
  d3_2 := by simpa using h.d3_2
theorem sm5_5 {gp : Nat} {g7 : Nat} {g8 : Nat} {cs : Array Value} {ds : Array Value} {W1 : World} {R2 : Value → World → Prop} {R5 : Value → World → Prop} {R7 : Value → Value → World → Prop} {R10 : Value → World → Prop} {L : Nat → Bool} {f : Nat → Value} {w : World} {v : Value} {w2 : World} (h : sm5C gp g7 g8 cs ds W1 R2 R5 R7 R10 L f w) (h2 : L 2 = true) (h5 : L 5 = false) (h3 : L 3 = true) (h4 : L 4 = true) (hp : R5 v w2) : sm5C gp g7 g8 cs ds W1 R2 R5 R7 R10 (fun k => if k = 5 then true else L k) (fun t => if (some 61 : Option Nat) = some t then v else f t) w2 := by
  have h7 : L 7 = false := by cases hh : L 7 with | false => rfl | true => exact absurd (h.d7_5 hh) (by rw [h5]; decide)
  have h10 : L 10 = false := by cases hh : L 10 with | false => rfl | true => exact absurd (h.d10_7 hh) (by rw [h7]; decide)
  constructor
  · simpa using h.v0
  · simpa using h.v1
  · simpa using h.v3
  · simpa using h.v4
  · simpa using h.v6
  · simpa using h.v8
  · simpa using h.v9
  · simpa using h.v11
  · simpa using h.v12
  · intro hh; simp [h2] at hh
  · intro _ hh; simp at hh
  · intro _ _; simpa using hp
  · intro hh _; simp [h7] at hh
  · intro hh; simp [h10] at hh
  · intro _; simpa using h2
  · intro _; simp
  · simpa using h.d10_7
  · simpa using h.d2_0
  · simpa using h.d2_1
  · intro _; simpa using h3
  · intro _; simpa using h4
  · simpa using h.d7_6
  · simpa using h.d10_9
  · simpa using h.d3_2
theorem sm5_6 {gp : Nat} {g7 : Nat} {g8 : Nat} {cs : Array Value} {ds : Array Value} {W1 : World} {R2 : Value → World → Prop} {R5 : Value → World → Prop} {R7 : Value → Value → World → Prop} {R10 : Value → World → Prop} {L : Nat → Bool} {f : Nat → Value} {w : World} (h : sm5C gp g7 g8 cs ds W1 R2 R5 R7 R10 L f w) : sm5C gp g7 g8 cs ds W1 R2 R5 R7 R10 (fun k => if k = 6 then true else L k) (fun t => if (some 62 : Option Nat) = some t then (.agg ds) else f t) w where
  v0 := by simpa using h.v0
  v1 := by simpa using h.v1
  v3 := by simpa using h.v3
  v4 := by simpa using h.v4
  v6 := fun _ => by simp
  v8 := by simpa using h.v8
  v9 := by simpa using h.v9
  v11 := by simpa using h.v11
  v12 := by simpa using h.v12
  wz := by simpa using h.wz
  w2 := by simpa using h.w2
  w5 := by simpa using h.w5
  w7 := by simpa using h.w7
  w10 := by simpa using h.w10
  d5_2 := by simpa using h.d5_2
  d7_5 := by simpa using h.d7_5
  d10_7 := by simpa using h.d10_7
  d2_0 := by simpa using h.d2_0
  d2_1 := by simpa using h.d2_1
  d5_3 := by simpa using h.d5_3
  d5_4 := by simpa using h.d5_4
  d7_6 := fun _ => by simp
  d10_9 := by simpa using h.d10_9
  d3_2 := by simpa using h.d3_2
theorem sm5_7 {gp : Nat} {g7 : Nat} {g8 : Nat} {cs : Array Value} {ds : Array Value} {W1 : World} {R2 : Value → World → Prop} {R5 : Value → World → Prop} {R7 : Value → Value → World → Prop} {R10 : Value → World → Prop} {L : Nat → Bool} {f : Nat → Value} {w : World} {v : Value} {w2 : World} (h : sm5C gp g7 g8 cs ds W1 R2 R5 R7 R10 L f w) (h2 : L 2 = true) (h5 : L 5 = true) (h7 : L 7 = false) (h6 : L 6 = true) (hp : R7 (f 61) v w2) : sm5C gp g7 g8 cs ds W1 R2 R5 R7 R10 (fun k => if k = 7 then true else L k) (fun t => if (some 63 : Option Nat) = some t then v else f t) w2 := by
  have h10 : L 10 = false := by cases hh : L 10 with | false => rfl | true => exact absurd (h.d10_7 hh) (by rw [h7]; decide)
  constructor
  · simpa using h.v0
  · simpa using h.v1
  · simpa using h.v3
  · simpa using h.v4
  · simpa using h.v6
  · simpa using h.v8
  · simpa using h.v9
  · simpa using h.v11
  · simpa using h.v12
  · intro hh; simp [h2] at hh
  · intro _ hh; simp [h5] at hh
  · intro _ hh; simp at hh
  · intro _ _; simpa using hp
  · intro hh; simp [h10] at hh
  · simpa using h.d5_2
  · intro _; simpa using h5
  · intro _; simp
  · simpa using h.d2_0
  · simpa using h.d2_1
  · simpa using h.d5_3
  · simpa using h.d5_4
  · intro _; simpa using h6
  · simpa using h.d10_9
  · simpa using h.d3_2
theorem sm5_8 {gp : Nat} {g7 : Nat} {g8 : Nat} {cs : Array Value} {ds : Array Value} {W1 : World} {R2 : Value → World → Prop} {R5 : Value → World → Prop} {R7 : Value → Value → World → Prop} {R10 : Value → World → Prop} {L : Nat → Bool} {f : Nat → Value} {w : World} (h : sm5C gp g7 g8 cs ds W1 R2 R5 R7 R10 L f w) : sm5C gp g7 g8 cs ds W1 R2 R5 R7 R10 (fun k => if k = 8 then true else L k) (fun t => if (some 64 : Option Nat) = some t then (.pointer (some ⟨gp, 0, none⟩)) else f t) w where
  v0 := by simpa using h.v0
  v1 := by simpa using h.v1
  v3 := by simpa using h.v3
  v4 := by simpa using h.v4
  v6 := by simpa using h.v6
  v8 := fun _ => by simp
  v9 := by simpa using h.v9
  v11 := by simpa using h.v11
  v12 := by simpa using h.v12
  wz := by simpa using h.wz
  w2 := by simpa using h.w2
  w5 := by simpa using h.w5
  w7 := by simpa using h.w7
  w10 := by simpa using h.w10
  d5_2 := by simpa using h.d5_2
  d7_5 := by simpa using h.d7_5
  d10_7 := by simpa using h.d10_7
  d2_0 := by simpa using h.d2_0
  d2_1 := by simpa using h.d2_1
  d5_3 := by simpa using h.d5_3
  d5_4 := by simpa using h.d5_4
  d7_6 := by simpa using h.d7_6
  d10_9 := by simpa using h.d10_9
  d3_2 := by simpa using h.d3_2
theorem sm5_9 {gp : Nat} {g7 : Nat} {g8 : Nat} {cs : Array Value} {ds : Array Value} {W1 : World} {R2 : Value → World → Prop} {R5 : Value → World → Prop} {R7 : Value → Value → World → Prop} {R10 : Value → World → Prop} {L : Nat → Bool} {f : Nat → Value} {w : World} (h : sm5C gp g7 g8 cs ds W1 R2 R5 R7 R10 L f w) : sm5C gp g7 g8 cs ds W1 R2 R5 R7 R10 (fun k => if k = 9 then true else L k) (fun t => if (some 65 : Option Nat) = some t then (.func (.func 33) #[.pointer (some ⟨gp, 0, none⟩)] #[]) else f t) w where
  v0 := by simpa using h.v0
  v1 := by simpa using h.v1
  v3 := by simpa using h.v3
  v4 := by simpa using h.v4
  v6 := by simpa using h.v6
  v8 := by simpa using h.v8
  v9 := fun _ => by simp
  v11 := by simpa using h.v11
  v12 := by simpa using h.v12
  wz := by simpa using h.wz
  w2 := by simpa using h.w2
  w5 := by simpa using h.w5
  w7 := by simpa using h.w7
  w10 := by simpa using h.w10
  d5_2 := by simpa using h.d5_2
  d7_5 := by simpa using h.d7_5
  d10_7 := by simpa using h.d10_7
  d2_0 := by simpa using h.d2_0
  d2_1 := by simpa using h.d2_1
  d5_3 := by simpa using h.d5_3
  d5_4 := by simpa using h.d5_4
  d7_6 := by simpa using h.d7_6
  d10_9 := fun _ => by simp
  d3_2 := by simpa using h.d3_2
theorem sm5_10 {gp : Nat} {g7 : Nat} {g8 : Nat} {cs : Array Value} {ds : Array Value} {W1 : World} {R2 : Value → World → Prop} {R5 : Value → World → Prop} {R7 : Value → Value → World → Prop} {R10 : Value → World → Prop} {L : Nat → Bool} {f : Nat → Value} {w : World} {v : Value} {w2 : World} (h : sm5C gp g7 g8 cs ds W1 R2 R5 R7 R10 L f w) (h2 : L 2 = true) (h5 : L 5 = true) (h7 : L 7 = true) (h10 : L 10 = false) (h9 : L 9 = true) (hp : R10 v w2) : sm5C gp g7 g8 cs ds W1 R2 R5 R7 R10 (fun k => if k = 10 then true else L k) (fun t => if (some 66 : Option Nat) = some t then v else f t) w2 := by
  constructor
  · simpa using h.v0
  · simpa using h.v1
  · simpa using h.v3
  · simpa using h.v4
  · simpa using h.v6
  · simpa using h.v8
  · simpa using h.v9
  · simpa using h.v11
  · simpa using h.v12
  · intro hh; simp [h2] at hh
  · intro _ hh; simp [h5] at hh
  · intro _ hh; simp [h7] at hh
  · intro _ hh; simp at hh
  · intro _; simpa using hp
  · simpa using h.d5_2
  · simpa using h.d7_5
  · intro _; simpa using h7
  · simpa using h.d2_0
  · simpa using h.d2_1
  · simpa using h.d5_3
  · simpa using h.d5_4
  · simpa using h.d7_6
  · intro _; simpa using h9
  · simpa using h.d3_2
theorem sm5_11 {gp : Nat} {g7 : Nat} {g8 : Nat} {cs : Array Value} {ds : Array Value} {W1 : World} {R2 : Value → World → Prop} {R5 : Value → World → Prop} {R7 : Value → Value → World → Prop} {R10 : Value → World → Prop} {L : Nat → Bool} {f : Nat → Value} {w : World} (h : sm5C gp g7 g8 cs ds W1 R2 R5 R7 R10 L f w) : sm5C gp g7 g8 cs ds W1 R2 R5 R7 R10 (fun k => if k = 11 then true else L k) (fun t => if (some 67 : Option Nat) = some t then (.bool true) else f t) w where
  v0 := by simpa using h.v0
  v1 := by simpa using h.v1
  v3 := by simpa using h.v3
  v4 := by simpa using h.v4
  v6 := by simpa using h.v6
  v8 := by simpa using h.v8
  v9 := by simpa using h.v9
  v11 := fun _ => by simp
  v12 := by simpa using h.v12
  wz := by simpa using h.wz
  w2 := by simpa using h.w2
  w5 := by simpa using h.w5
  w7 := by simpa using h.w7
  w10 := by simpa using h.w10
  d5_2 := by simpa using h.d5_2
  d7_5 := by simpa using h.d7_5
  d10_7 := by simpa using h.d10_7
  d2_0 := by simpa using h.d2_0
  d2_1 := by simpa using h.d2_1
  d5_3 := by simpa using h.d5_3
  d5_4 := by simpa using h.d5_4
  d7_6 := by simpa using h.d7_6
  d10_9 := by simpa using h.d10_9
  d3_2 := by simpa using h.d3_2
theorem sm5_12 {gp : Nat} {g7 : Nat} {g8 : Nat} {cs : Array Value} {ds : Array Value} {W1 : World} {R2 : Value → World → Prop} {R5 : Value → World → Prop} {R7 : Value → Value → World → Prop} {R10 : Value → World → Prop} {L : Nat → Bool} {f : Nat → Value} {w : World} (h : sm5C gp g7 g8 cs ds W1 R2 R5 R7 R10 L f w) : sm5C gp g7 g8 cs ds W1 R2 R5 R7 R10 (fun k => if k = 12 then true else L k) (fun t => if (some 6 : Option Nat) = some t then (.bool true) else f t) w where
  v0 := by simpa using h.v0
  v1 := by simpa using h.v1
  v3 := by simpa using h.v3
  v4 := by simpa using h.v4
  v6 := by simpa using h.v6
  v8 := by simpa using h.v8
  v9 := by simpa using h.v9
  v11 := by simpa using h.v11
  v12 := fun _ => by simp
  wz := by simpa using h.wz
  w2 := by simpa using h.w2
  w5 := by simpa using h.w5
  w7 := by simpa using h.w7
  w10 := by simpa using h.w10
  d5_2 := by simpa using h.d5_2
  d7_5 := by simpa using h.d7_5
  d10_7 := by simpa using h.d10_7
  d2_0 := by simpa using h.d2_0
  d2_1 := by simpa using h.d2_1
  d5_3 := by simpa using h.d5_3
  d5_4 := by simpa using h.d5_4
  d7_6 := by simpa using h.d7_6
  d10_9 := by simpa using h.d10_9
  d3_2 := by simpa using h.d3_2
def sm5Us (f : Nat → Value) : List (Nat × Value) := [(56, f 56), (57, f 57), (58, f 58), (59, f 59), (60, f 60), (61, f 61), (62, f 62), (63, f 63), (64, f 64), (65, f 65), (66, f 66), (67, f 67), (6, f 6)]
theorem enters_alike : ∀ args w, (callFunc 59 args).run Try.prog w = .ok (.enter 59 args) w := enters_of Try.func59 (by kernel_rfl) rfl
theorem enters_Kids : ∀ args w, (callFunc 20 args).run Try.prog w = .ok (.enter 20 args) w := enters_of Try.func20 (by kernel_rfl) rfl
theorem enters_eqI : ∀ args w, (callFunc 60 args).run Try.prog w = .ok (.enter 60 args) w := enters_of Try.func60 (by kernel_rfl) rfl
theorem wp_mkfunG {P : Program} {o : Oper} {a : Act} {w : World} {K : Act → World → Prop} {Q : Exit → Act → World → Prop} (F : Nat) (x : Operand) (ho : o.op = .makeFunc (.func F) #[x] #[]) (v : Value) (hx : a.eval x = v) (h : K (a.put o.dst (.func (.func F) #[v] #[])) w) : o.wp P a w K Q := by
  unfold Oper.wp
  have e : (execOp a.eval o).run P w = .ok (.value (.func (.func F) #[v] #[])) w := by
    unfold execOp
    simp only [ho]
    simp [hx]
    rfl
  rw [e]
  exact h
set_option maxRecDepth 10000 in
set_option maxHeartbeats 2000000 in
theorem sm5_reg {gp g7 g8 : Nat} {cs ds : Array Value} {W : World} {R2 : Value → World → Prop} {R5 : Value → World → Prop} {R7 : Value → Value → World → Prop} {R10 : Value → World → Prop} {A0 : Act} {Q : Exit → Act → World → Prop} {id : Nat} (a0 : Act.at A0 0 = .pointer (some ⟨gp, 0, none⟩)) (a7 : Act.at A0 7 = .pointer (some ⟨g7, 0, none⟩)) (a8 : Act.at A0 8 = .pointer (some ⟨g8, 0, none⟩)) (hsz : 68 ≤ A0.tmps.size)
    (hA : W.heap[g7]? = some (.cells cs 49)) (hB : W.heap[g8]? = some (.cells ds 49)) (hsA : (Try.prog.info? 49).map (·.size) = some cs.size) (hsB : (Try.prog.info? 49).map (·.size) = some ds.size)
    (HC2 : Calls Try.prog 59 #[.agg cs, .agg ds] W.drew fun e w' => ∃ v, e = .returned v ∧ R2 v w')
    (hR2 : ∀ u w, R2 u w → u = .bool true ∧ w.heap[g7]? = some (.cells cs 49) ∧ w.heap[g8]? = some (.cells ds 49))
    (HC5 : ∀ u w, R2 u w → Calls Try.prog 20 #[.agg cs] w fun e w' => ∃ v, e = .returned v ∧ R5 v w')
    (hR5 : ∀ u w, R5 u w → w.heap[g8]? = some (.cells ds 49))
    (HC7 : ∀ u w, R5 u w → Calls Try.prog 20 #[.agg ds] w fun e w' => ∃ v, e = .returned v ∧ R7 u v w')
    (HC10 : ∀ u v w, R7 u v w → Calls Try.prog 60 #[u, v, .func (.func 33) #[.pointer (some ⟨gp, 0, none⟩)] #[]] w fun e w' => ∃ z, e = .returned z ∧ R10 z w')
    (hR10 : ∀ u w, R10 u w → u = .bool true)
    (hk : ∀ (f : Nat → Value) w', f 6 = .bool true → R10 (.bool true) w' → Q .normal ⟨(sm5Us f).foldl (fun A p => A.setIfInBounds p.1 p.2) A0.tmps, A0.defers⟩ w') :
    (Code.region id sm5Ops true).wp Try.prog Q A0 W := by
  refine wp_region_fun3 (by kernel_rfl) (fun L f w => sm5C gp g7 g8 cs ds W.drew R2 R5 R7 R10 L f w) [56, 57, 58, 59, 60, 61, 62, 63, 64, 65, 66, 67, 6] (wf_ops3 (by kernel_rfl)) (fun i o ho u hu => ?_) ?_ ?_ ?_
  · have := ops_dst [56, 57, 58, 59, 60, 61, 62, 63, 64, 65, 66, 67, 6] 68 (by kernel_rfl) i o ho u hu
    exact ⟨this.1, Nat.lt_of_lt_of_le this.2 hsz⟩
  · have hs : sm5Ops.size = 13 := rfl
    rw [hs]
    constructor <;> first | exact (fun _ => rfl) | (intro h; simp at h) | (intro h h2; simp at h)
  · rintro L i o ho hLi haf b w hf hc K hK
    have hdep := ops_deps sm5Dep (by kernel_rfl) ho haf
    clear haf
    have hs : sm5Ops.size = 13 := rfl
    have hlt : i < 13 := hs ▸ (Array.getElem?_eq_some_iff.1 ho).1
    have hcases : i = 0 ∨ i = 1 ∨ i = 2 ∨ i = 3 ∨ i = 4 ∨ i = 5 ∨ i = 6 ∨ i = 7 ∨ i = 8 ∨ i = 9 ∨ i = 10 ∨ i = 11 ∨ i = 12 := by omega
    rcases hcases with rfl | rfl | rfl | rfl | rfl | rfl | rfl | rfl | rfl | rfl | rfl | rfl | rfl
    · have h1 : (sm5Ops[0]?).map (·.dst) = some (some 56) := by kernel_rfl
      have h2 : (sm5Ops[0]?).map (·.op) = some (.load 49 (.tmp 7)) := by kernel_rfl
      have h3 : (sm5Ops[0]?).map (·.guard) = some none := by kernel_rfl
      rw [ho] at h1 h2 h3
      replace h1 := Option.some.inj h1
      replace h2 := Option.some.inj h2
      replace h3 := Option.some.inj h3
      simp only at h1 h2 h3
      rw [h1] at hK
      refine ⟨fun _ => ?_, fun hw => by rw [wanted_none h3] at hw; cases hw⟩
      have hw : w = W.drew := by
        cases h2' : L 2 with
        | true => exact absurd (hc.d2_0 h2') (by rw [hLi]; decide)
        | false => exact hc.wz h2'
      subst hw
      have hcell : W.drew.heap[g7]? = some (.cells cs 49) := hA
      refine wp_load_row 49 (.tmp 7) h2 g7 ((hf 7 (by decide)).trans a7) 49 _ (0, 0) _ hcell Try.underlying49 rfl hsA ?_
      rw [h1]
      exact hK _ _ (sm5_0 hc)
    · have h1 : (sm5Ops[1]?).map (·.dst) = some (some 57) := by kernel_rfl
      have h2 : (sm5Ops[1]?).map (·.op) = some (.load 49 (.tmp 8)) := by kernel_rfl
      have h3 : (sm5Ops[1]?).map (·.guard) = some none := by kernel_rfl
      rw [ho] at h1 h2 h3
      replace h1 := Option.some.inj h1
      replace h2 := Option.some.inj h2
      replace h3 := Option.some.inj h3
      simp only at h1 h2 h3
      rw [h1] at hK
      refine ⟨fun _ => ?_, fun hw => by rw [wanted_none h3] at hw; cases hw⟩
      have hw : w = W.drew := by
        cases h2' : L 2 with
        | true => exact absurd (hc.d2_1 h2') (by rw [hLi]; decide)
        | false => exact hc.wz h2'
      subst hw
      have hcell : W.drew.heap[g8]? = some (.cells ds 49) := hB
      refine wp_load_row 49 (.tmp 8) h2 g8 ((hf 8 (by decide)).trans a8) 49 _ (0, 0) _ hcell Try.underlying49 rfl hsB ?_
      rw [h1]
      exact hK _ _ (sm5_1 hc)
    · have h1 : (sm5Ops[2]?).map (·.dst) = some (some 58) := by kernel_rfl
      have h2 : (sm5Ops[2]?).map (·.op) = some (.call { callee := .value (.func 59), args := #[.tmp 56, .tmp 57], argTypes := #[49, 49] }) := by kernel_rfl
      have h3 : (sm5Ops[2]?).map (·.guard) = some none := by kernel_rfl
      rw [ho] at h1 h2 h3
      replace h1 := Option.some.inj h1
      replace h2 := Option.some.inj h2
      replace h3 := Option.some.inj h3
      simp only at h1 h2 h3
      rw [h1] at hK
      have l0 : L 0 = true := hdep 0 (by simp [sm5Dep])
      have l1 : L 1 = true := hdep 1 (by simp [sm5Dep])
      refine ⟨fun _ => ?_, fun hw => by rw [wanted_none h3] at hw; cases hw⟩
      obtain rfl := hc.wz hLi
      refine wp_callG 59 _ _ h2 enters_alike #[.agg cs, .agg ds] (by simp [show b.eval (.tmp 56) = _ from hc.v0 l0, show b.eval (.tmp 57) = _ from hc.v1 l1]) _ HC2 ?_
      intro v w2 hp
      rw [h1]
      exact hK _ _ (sm5_2 hc hLi l0 l1 hp)
    · have h1 : (sm5Ops[3]?).map (·.dst) = some (some 59) := by kernel_rfl
      have h2 : (sm5Ops[3]?).map (·.op) = some (.move (.tmp 58)) := by kernel_rfl
      have h3 : (sm5Ops[3]?).map (·.guard) = some none := by kernel_rfl
      rw [ho] at h1 h2 h3
      replace h1 := Option.some.inj h1
      replace h2 := Option.some.inj h2
      replace h3 := Option.some.inj h3
      simp only at h1 h2 h3
      rw [h1] at hK
      have l2 : L 2 = true := hdep 2 (by simp [sm5Dep])
      refine ⟨fun _ => ?_, fun hw => by rw [wanted_none h3] at hw; cases hw⟩
      have h58 : Act.at b 58 = .bool true := by
        cases h5' : L 5 with
        | true => exact absurd (hc.d5_3 h5') (by rw [hLi]; decide)
        | false => exact (hR2 _ _ (hc.w2 l2 h5')).1
      refine wp_moveG _ h2 _ h58 ?_
      rw [h1]
      exact hK _ _ (sm5_3 hc l2)
    · have h1 : (sm5Ops[4]?).map (·.dst) = some (some 60) := by kernel_rfl
      have h2 : (sm5Ops[4]?).map (·.op) = some (.load 49 (.tmp 7)) := by kernel_rfl
      have h3 : (sm5Ops[4]?).map (·.guard) = some (some (3, true)) := by kernel_rfl
      rw [ho] at h1 h2 h3
      replace h1 := Option.some.inj h1
      replace h2 := Option.some.inj h2
      replace h3 := Option.some.inj h3
      simp only at h1 h2 h3
      rw [h1] at hK
      have l3 : L 3 = true := hdep 3 (by simp [sm5Dep])
      have hw := wanted_of (ops := sm5Ops) (b := b) h3 (d := 59) (by kernel_rfl) (hc.v3 l3)
      rw [hw]
      refine ⟨fun _ => ?_, fun hq => by cases hq⟩
      have hcell : w.heap[g7]? = some (.cells cs 49) := by
        cases h2' : L 2 with
        | false => rw [hc.wz h2']; exact hA
        | true =>
          cases h5' : L 5 with
          | false => exact (hR2 _ _ (hc.w2 h2' h5')).2.1
          | true =>
            cases h7' : L 7 with
            | false => exact absurd (hc.d5_4 h5') (by rw [hLi]; decide)
            | true => exact absurd (hc.d5_4 h5') (by rw [hLi]; decide)
      refine wp_load_row 49 (.tmp 7) h2 g7 ((hf 7 (by decide)).trans a7) 49 _ (0, 0) _ hcell Try.underlying49 rfl hsA ?_
      rw [h1]
      exact hK _ _ (sm5_4 hc)
    · have h1 : (sm5Ops[5]?).map (·.dst) = some (some 61) := by kernel_rfl
      have h2 : (sm5Ops[5]?).map (·.op) = some (.call { callee := .value (.func 20), args := #[.tmp 60], argTypes := #[49] }) := by kernel_rfl
      have h3 : (sm5Ops[5]?).map (·.guard) = some (some (3, true)) := by kernel_rfl
      rw [ho] at h1 h2 h3
      replace h1 := Option.some.inj h1
      replace h2 := Option.some.inj h2
      replace h3 := Option.some.inj h3
      simp only at h1 h2 h3
      rw [h1] at hK
      have l4 : L 4 = true := hdep 4 (by simp [sm5Dep])
      have l3 : L 3 = true := hdep 3 (by simp [sm5Dep])
      have hw := wanted_of (ops := sm5Ops) (b := b) h3 (d := 59) (by kernel_rfl) (hc.v3 l3)
      rw [hw]
      refine ⟨fun _ => ?_, fun hq => by cases hq⟩
      have l2 : L 2 = true := hc.d3_2 l3
      have h22 := hc.w2 l2 hLi
      refine wp_callG 20 _ _ h2 enters_Kids #[.agg cs] (by simp [show b.eval (.tmp 60) = _ from hc.v4 l4]) _ (HC5 _ _ h22) ?_
      intro v w2 hp
      rw [h1]
      exact hK _ _ (sm5_5 hc l2 hLi l3 l4 hp)
    · have h1 : (sm5Ops[6]?).map (·.dst) = some (some 62) := by kernel_rfl
      have h2 : (sm5Ops[6]?).map (·.op) = some (.load 49 (.tmp 8)) := by kernel_rfl
      have h3 : (sm5Ops[6]?).map (·.guard) = some (some (3, true)) := by kernel_rfl
      rw [ho] at h1 h2 h3
      replace h1 := Option.some.inj h1
      replace h2 := Option.some.inj h2
      replace h3 := Option.some.inj h3
      simp only at h1 h2 h3
      rw [h1] at hK
      have l3 : L 3 = true := hdep 3 (by simp [sm5Dep])
      have hw := wanted_of (ops := sm5Ops) (b := b) h3 (d := 59) (by kernel_rfl) (hc.v3 l3)
      rw [hw]
      refine ⟨fun _ => ?_, fun hq => by cases hq⟩
      have hcell : w.heap[g8]? = some (.cells ds 49) := by
        cases h2' : L 2 with
        | false => rw [hc.wz h2']; exact hB
        | true =>
          cases h5' : L 5 with
          | false => exact (hR2 _ _ (hc.w2 h2' h5')).2.2
          | true =>
            cases h7' : L 7 with
            | false => exact hR5 _ _ (hc.w5 h5' h7')
            | true => exact absurd (hc.d7_6 h7') (by rw [hLi]; decide)
      refine wp_load_row 49 (.tmp 8) h2 g8 ((hf 8 (by decide)).trans a8) 49 _ (0, 0) _ hcell Try.underlying49 rfl hsB ?_
      rw [h1]
      exact hK _ _ (sm5_6 hc)
    · have h1 : (sm5Ops[7]?).map (·.dst) = some (some 63) := by kernel_rfl
      have h2 : (sm5Ops[7]?).map (·.op) = some (.call { callee := .value (.func 20), args := #[.tmp 62], argTypes := #[49] }) := by kernel_rfl
      have h3 : (sm5Ops[7]?).map (·.guard) = some (some (3, true)) := by kernel_rfl
      rw [ho] at h1 h2 h3
      replace h1 := Option.some.inj h1
      replace h2 := Option.some.inj h2
      replace h3 := Option.some.inj h3
      simp only at h1 h2 h3
      rw [h1] at hK
      have l6 : L 6 = true := hdep 6 (by simp [sm5Dep])
      have l5 : L 5 = true := hdep 5 (by simp [sm5Dep])
      have l3 : L 3 = true := hdep 3 (by simp [sm5Dep])
      have hw := wanted_of (ops := sm5Ops) (b := b) h3 (d := 59) (by kernel_rfl) (hc.v3 l3)
      rw [hw]
      refine ⟨fun _ => ?_, fun hq => by cases hq⟩
      have l2 : L 2 = true := hc.d3_2 l3
      have h55 := hc.w5 l5 hLi
      refine wp_callG 20 _ _ h2 enters_Kids #[.agg ds] (by simp [show b.eval (.tmp 62) = _ from hc.v6 l6]) _ (HC7 _ _ h55) ?_
      intro v w2 hp
      rw [h1]
      exact hK _ _ (sm5_7 hc l2 l5 hLi l6 hp)
    · have h1 : (sm5Ops[8]?).map (·.dst) = some (some 64) := by kernel_rfl
      have h2 : (sm5Ops[8]?).map (·.op) = some (.move (.tmp 0)) := by kernel_rfl
      have h3 : (sm5Ops[8]?).map (·.guard) = some (some (3, true)) := by kernel_rfl
      rw [ho] at h1 h2 h3
      replace h1 := Option.some.inj h1
      replace h2 := Option.some.inj h2
      replace h3 := Option.some.inj h3
      simp only at h1 h2 h3
      rw [h1] at hK
      have l3 : L 3 = true := hdep 3 (by simp [sm5Dep])
      have hw := wanted_of (ops := sm5Ops) (b := b) h3 (d := 59) (by kernel_rfl) (hc.v3 l3)
      rw [hw]
      refine ⟨fun _ => ?_, fun hq => by cases hq⟩
      refine wp_moveG _ h2 _ ((hf 0 (by decide)).trans a0) ?_
      rw [h1]
      exact hK _ _ (sm5_8 hc)
    · have h1 : (sm5Ops[9]?).map (·.dst) = some (some 65) := by kernel_rfl
      have h2 : (sm5Ops[9]?).map (·.op) = some (.makeFunc (.func 33) #[.tmp 64] #[]) := by kernel_rfl
      have h3 : (sm5Ops[9]?).map (·.guard) = some (some (3, true)) := by kernel_rfl
      rw [ho] at h1 h2 h3
      replace h1 := Option.some.inj h1
      replace h2 := Option.some.inj h2
      replace h3 := Option.some.inj h3
      simp only at h1 h2 h3
      rw [h1] at hK
      have l8 : L 8 = true := hdep 8 (by simp [sm5Dep])
      have l3 : L 3 = true := hdep 3 (by simp [sm5Dep])
      have hw := wanted_of (ops := sm5Ops) (b := b) h3 (d := 59) (by kernel_rfl) (hc.v3 l3)
      rw [hw]
      refine ⟨fun _ => ?_, fun hq => by cases hq⟩
      refine wp_mkfunG _ _ h2 _ (hc.v8 l8) ?_
      rw [h1]
      exact hK _ _ (sm5_9 hc)
    · have h1 : (sm5Ops[10]?).map (·.dst) = some (some 66) := by kernel_rfl
      have h2 : (sm5Ops[10]?).map (·.op) = some (.call { callee := .value (.func 60), args := #[.tmp 61, .tmp 63, .tmp 65], argTypes := #[30, 30, 74] }) := by kernel_rfl
      have h3 : (sm5Ops[10]?).map (·.guard) = some (some (3, true)) := by kernel_rfl
      rw [ho] at h1 h2 h3
      replace h1 := Option.some.inj h1
      replace h2 := Option.some.inj h2
      replace h3 := Option.some.inj h3
      simp only at h1 h2 h3
      rw [h1] at hK
      have l5 : L 5 = true := hdep 5 (by simp [sm5Dep])
      have l7 : L 7 = true := hdep 7 (by simp [sm5Dep])
      have l9 : L 9 = true := hdep 9 (by simp [sm5Dep])
      have l3 : L 3 = true := hdep 3 (by simp [sm5Dep])
      have hw := wanted_of (ops := sm5Ops) (b := b) h3 (d := 59) (by kernel_rfl) (hc.v3 l3)
      rw [hw]
      refine ⟨fun _ => ?_, fun hq => by cases hq⟩
      have l2 : L 2 = true := hc.d3_2 l3
      have h77 := hc.w7 l7 hLi
      refine wp_callG 60 _ _ h2 enters_eqI #[Act.at b 61, Act.at b 63, .func (.func 33) #[.pointer (some ⟨gp, 0, none⟩)] #[]] (by simp [show b.eval (.tmp 61) = Act.at b 61 from rfl, show b.eval (.tmp 63) = Act.at b 63 from rfl, show b.eval (.tmp 65) = _ from hc.v9 l9]) _ (HC10 _ _ _ h77) ?_
      intro v w2 hp
      rw [h1]
      exact hK _ _ (sm5_10 hc l2 l5 l7 hLi l9 hp)
    · have h1 : (sm5Ops[11]?).map (·.dst) = some (some 67) := by kernel_rfl
      have h2 : (sm5Ops[11]?).map (·.op) = some (.pick (.tmp 59) (.tmp 66) (.const (.bool false))) := by kernel_rfl
      have h3 : (sm5Ops[11]?).map (·.guard) = some none := by kernel_rfl
      rw [ho] at h1 h2 h3
      replace h1 := Option.some.inj h1
      replace h2 := Option.some.inj h2
      replace h3 := Option.some.inj h3
      simp only at h1 h2 h3
      rw [h1] at hK
      have l3 : L 3 = true := hdep 3 (by simp [sm5Dep])
      have l10 : L 10 = true := hdep 10 (by simp [sm5Dep])
      refine ⟨fun _ => ?_, fun hw => by rw [wanted_none h3] at hw; cases hw⟩
      refine wp_pickG _ _ _ h2 true (hc.v3 l3) _ ((if_pos rfl).trans (hR10 _ _ (hc.w10 l10))) ?_
      rw [h1]
      exact hK _ _ (sm5_11 hc)
    · have h1 : (sm5Ops[12]?).map (·.dst) = some (some 6) := by kernel_rfl
      have h2 : (sm5Ops[12]?).map (·.op) = some (.assign (.tmp 67)) := by kernel_rfl
      have h3 : (sm5Ops[12]?).map (·.guard) = some none := by kernel_rfl
      rw [ho] at h1 h2 h3
      replace h1 := Option.some.inj h1
      replace h2 := Option.some.inj h2
      replace h3 := Option.some.inj h3
      simp only at h1 h2 h3
      rw [h1] at hK
      have l11 : L 11 = true := hdep 11 (by simp [sm5Dep])
      refine ⟨fun _ => ?_, fun hw => by rw [wanted_none h3] at hw; cases hw⟩
      refine wp_assignG _ h2 _ (hc.v11 l11) ?_
      rw [h1]
      exact hK _ _ (sm5_12 hc)
  · rintro L b w hL hd hs hf hc
    have hsz2 : sm5Ops.size = 13 := rfl
    rw [hsz2] at hL
    have e := act_eq (a := A0) (b := b) (sm5Us (Act.at b)) hd hs hf (by
      intro p hp
      simp only [sm5Us, List.mem_cons, List.not_mem_nil, or_false] at hp
      rcases hp with rfl | rfl | rfl | rfl | rfl | rfl | rfl | rfl | rfl | rfl | rfl | rfl | rfl <;> rfl) (by rw [show (sm5Us (Act.at b)).map (·.1) = [56, 57, 58, 59, 60, 61, 62, 63, 64, 65, 66, 67, 6] from rfl]; decide)
    rw [e]
    have h10 := hc.w10 (hL 10 (by omega))
    have hv := hR10 _ _ h10
    rw [hv] at h10
    exact hk (Act.at b) w (hc.v12 (hL 12 (by omega))) h10
end Go.Proofs.Ythjfhenldkihkaa
