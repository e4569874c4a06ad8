/- spec: checkNode's question whether a number's range may be, whose steps stand in open order. -/
import Derived.Test.YtfcccfplmdjndaaGreatSpC
import Derived.Test.YtfcccfplmdjndaaGreatInv
namespace Go.Proofs.YtfcccfplmdjndaaGreat
set_option linter.unusedSimpArgs false
set_option linter.unusedVariables false
open Go.RowKit

theorem enters_num : ∀ args w, (callFunc 66 args).run Tryz.prog w = .ok (.enter 66 args) w := enters_of Tryz.func66 (by kernel_rfl) rfl
theorem enters_most : ∀ args w, (callFunc 67 args).run Tryz.prog w = .ok (.enter 67 args) w := enters_of Tryz.func67 (by kernel_rfl) rfl
def ck9Ops : Array Oper := #[{ dst := some 34, op := Op.load 54 (Operand.tmp 1), type := 54, pos := "node.go:63", after := #[], guard := none }, { dst := some 35, op := Op.call { callee := Callee.value (Operand.func 66), args := #[Operand.tmp 34], argTypes := #[54] }, type := 4, pos := "node.go:63", after := #[{ on := 0, ground := Ground.data }], guard := none }, { dst := some 36, op := Op.move (Operand.tmp 35), type := 4, pos := "node.go:63", after := #[{ on := 1, ground := Ground.data }, { on := 1, ground := Ground.chain }], guard := none }, { dst := some 37, op := Op.fieldAddr 54 (Operand.tmp 1) 5, type := 0, pos := "node.go:63", after := #[{ on := 2, ground := Ground.guard }], guard := some (2, true) }, { dst := some 38, op := Op.load 46 (Operand.tmp 37), type := 46, pos := "node.go:63", after := #[{ on := 3, ground := Ground.data }, { on := 2, ground := Ground.guard }], guard := some (2, true) }, { dst := some 39, op := Op.fieldAddr 54 (Operand.tmp 1) 6, type := 0, pos := "node.go:63", after := #[{ on := 2, ground := Ground.guard }], guard := some (2, true) }, { dst := some 40, op := Op.load 46 (Operand.tmp 39), type := 46, pos := "node.go:63", after := #[{ on := 5, ground := Ground.data }, { on := 2, ground := Ground.guard }], guard := some (2, true) }, { dst := some 41, op := Op.binOp BinOp.gtr 46 (Operand.tmp 38) (Operand.tmp 40) 46, type := 4, pos := "node.go:63", after := #[{ on := 4, ground := Ground.data }, { on := 6, ground := Ground.data }, { on := 2, ground := Ground.guard }], guard := some (2, true) }, { dst := some 42, op := Op.move (Operand.tmp 41), type := 4, pos := "node.go:63", after := #[{ on := 7, ground := Ground.data }, { on := 2, ground := Ground.chain }, { on := 2, ground := Ground.guard }], guard := some (2, true) }, { dst := some 43, op := Op.fieldAddr 54 (Operand.tmp 1) 6, type := 0, pos := "node.go:63", after := #[{ on := 8, ground := Ground.guard }], guard := some (8, false) }, { dst := some 44, op := Op.load 46 (Operand.tmp 43), type := 46, pos := "node.go:63", after := #[{ on := 9, ground := Ground.data }, { on := 8, ground := Ground.guard }], guard := some (8, false) }, { dst := some 45, op := Op.load 54 (Operand.tmp 1), type := 54, pos := "node.go:63", after := #[{ on := 8, ground := Ground.guard }], guard := some (8, false) }, { dst := some 46, op := Op.call { callee := Callee.value (Operand.func 67), args := #[Operand.tmp 45], argTypes := #[54] }, type := 46, pos := "node.go:63", after := #[{ on := 11, ground := Ground.data }, { on := 8, ground := Ground.chain }, { on := 8, ground := Ground.guard }], guard := some (8, false) }, { dst := some 47, op := Op.binOp BinOp.gtr 46 (Operand.tmp 44) (Operand.tmp 46) 46, type := 4, pos := "node.go:63", after := #[{ on := 10, ground := Ground.data }, { on := 12, ground := Ground.data }, { on := 8, ground := Ground.guard }], guard := some (8, false) }, { dst := some 48, op := Op.pick (Operand.tmp 42) (Operand.const (Value.bool true)) (Operand.tmp 47), type := 4, pos := "node.go:63", after := #[{ on := 8, ground := Ground.data }, { on := 13, ground := Ground.data }, { on := 2, ground := Ground.guard }], guard := some (2, true) }, { dst := some 49, op := Op.pick (Operand.tmp 36) (Operand.tmp 48) (Operand.const (Value.bool false)), type := 4, pos := "node.go:63", after := #[{ on := 2, ground := Ground.data }, { on := 14, ground := Ground.data }], guard := none }, { dst := some 33, op := Op.assign (Operand.tmp 49), type := 4, pos := "node.go:63", after := #[{ on := 15, ground := Ground.data }, { on := 12, ground := Ground.chain }], guard := none }]
structure ck9C (g : Nat) (cs : Array Value) (x : NV) (nb r1 r2 : Bool) (W1 : World) (L : Nat → Bool) (f : Nat → Value) (w : World) : Prop where
 bel : Below W1.heap.size W1 w
 v0 : L 0 = true → f 34 = .agg cs
 v1 : L 1 = true → f 35 = .bool nb
 v2 : L 2 = true → f 36 = .bool nb
 v3 : L 3 = true → f 37 = cond (true && (nb == true)) (.pointer (some ⟨g, 5, none⟩)) undef
 v4 : L 4 = true → f 38 = cond (true && (nb == true)) (.int .u64 (x.t.mn : Int)) undef
 v5 : L 5 = true → f 39 = cond (true && (nb == true)) (.pointer (some ⟨g, 6, none⟩)) undef
 v6 : L 6 = true → f 40 = cond (true && (nb == true)) (.int .u64 (x.t.mx : Int)) undef
 v7 : L 7 = true → f 41 = cond (true && (nb == true)) (.bool r1) undef
 v8 : L 8 = true → f 42 = cond (true && (nb == true)) (.bool r1) undef
 v9 : L 9 = true → f 43 = cond ((true && (nb == true)) && (r1 == false)) (.pointer (some ⟨g, 6, none⟩)) undef
 v10 : L 10 = true → f 44 = cond ((true && (nb == true)) && (r1 == false)) (.int .u64 (x.t.mx : Int)) undef
 v11 : L 11 = true → f 45 = cond ((true && (nb == true)) && (r1 == false)) (.agg cs) undef
 v12 : L 12 = true → f 46 = cond ((true && (nb == true)) && (r1 == false)) (.int .u64 ((mostV x.t.k x.t.wd : Nat) : Int)) undef
 v13 : L 13 = true → f 47 = cond ((true && (nb == true)) && (r1 == false)) (.bool r2) undef
 v14 : L 14 = true → f 48 = cond (true && (nb == true)) (.bool (r1 || r2)) undef
 v15 : L 15 = true → f 49 = .bool (nb && (r1 || r2))
 v16 : L 16 = true → f 33 = .bool (nb && (r1 || r2))
theorem ck9_0 {g : Nat} {cs : Array Value} {x : NV} {nb r1 r2 : Bool} {W1 : World} {L : Nat → Bool} {f : Nat → Value} {w w' : World} (h : ck9C g cs x nb r1 r2 W1 L f w) (hb : Below w.heap.size w w') {v : Value} (hv : v = .agg cs) : ck9C g cs x nb r1 r2 W1 (fun j => if j = 0 then true else L j) (fun t => if (some 34 : Option Nat) = some t then v else f t) w' where
  bel := h.bel.trans (hb.mono h.bel.size)
  v0 := fun _ => by rw [hv]; simp
  v1 := by simpa using h.v1
  v2 := by simpa using h.v2
  v3 := by simpa using h.v3
  v4 := by simpa using h.v4
  v5 := by simpa using h.v5
  v6 := by simpa using h.v6
  v7 := by simpa using h.v7
  v8 := by simpa using h.v8
  v9 := by simpa using h.v9
  v10 := by simpa using h.v10
  v11 := by simpa using h.v11
  v12 := by simpa using h.v12
  v13 := by simpa using h.v13
  v14 := by simpa using h.v14
  v15 := by simpa using h.v15
  v16 := by simpa using h.v16
theorem ck9_1 {g : Nat} {cs : Array Value} {x : NV} {nb r1 r2 : Bool} {W1 : World} {L : Nat → Bool} {f : Nat → Value} {w w' : World} (h : ck9C g cs x nb r1 r2 W1 L f w) (hb : Below w.heap.size w w') {v : Value} (hv : v = .bool nb) : ck9C g cs x nb r1 r2 W1 (fun j => if j = 1 then true else L j) (fun t => if (some 35 : Option Nat) = some t then v else f t) w' where
  bel := h.bel.trans (hb.mono h.bel.size)
  v0 := by simpa using h.v0
  v1 := fun _ => by rw [hv]; simp
  v2 := by simpa using h.v2
  v3 := by simpa using h.v3
  v4 := by simpa using h.v4
  v5 := by simpa using h.v5
  v6 := by simpa using h.v6
  v7 := by simpa using h.v7
  v8 := by simpa using h.v8
  v9 := by simpa using h.v9
  v10 := by simpa using h.v10
  v11 := by simpa using h.v11
  v12 := by simpa using h.v12
  v13 := by simpa using h.v13
  v14 := by simpa using h.v14
  v15 := by simpa using h.v15
  v16 := by simpa using h.v16
theorem ck9_2 {g : Nat} {cs : Array Value} {x : NV} {nb r1 r2 : Bool} {W1 : World} {L : Nat → Bool} {f : Nat → Value} {w w' : World} (h : ck9C g cs x nb r1 r2 W1 L f w) (hb : Below w.heap.size w w') {v : Value} (hv : v = .bool nb) : ck9C g cs x nb r1 r2 W1 (fun j => if j = 2 then true else L j) (fun t => if (some 36 : Option Nat) = some t then v else f t) w' where
  bel := h.bel.trans (hb.mono h.bel.size)
  v0 := by simpa using h.v0
  v1 := by simpa using h.v1
  v2 := fun _ => by rw [hv]; simp
  v3 := by simpa using h.v3
  v4 := by simpa using h.v4
  v5 := by simpa using h.v5
  v6 := by simpa using h.v6
  v7 := by simpa using h.v7
  v8 := by simpa using h.v8
  v9 := by simpa using h.v9
  v10 := by simpa using h.v10
  v11 := by simpa using h.v11
  v12 := by simpa using h.v12
  v13 := by simpa using h.v13
  v14 := by simpa using h.v14
  v15 := by simpa using h.v15
  v16 := by simpa using h.v16
theorem ck9_3 {g : Nat} {cs : Array Value} {x : NV} {nb r1 r2 : Bool} {W1 : World} {L : Nat → Bool} {f : Nat → Value} {w w' : World} (h : ck9C g cs x nb r1 r2 W1 L f w) (hb : Below w.heap.size w w') {v : Value} (hv : v = cond (true && (nb == true)) (.pointer (some ⟨g, 5, none⟩)) undef) : ck9C g cs x nb r1 r2 W1 (fun j => if j = 3 then true else L j) (fun t => if (some 37 : Option Nat) = some t then v else f t) w' where
  bel := h.bel.trans (hb.mono h.bel.size)
  v0 := by simpa using h.v0
  v1 := by simpa using h.v1
  v2 := by simpa using h.v2
  v3 := fun _ => by rw [hv]; simp
  v4 := by simpa using h.v4
  v5 := by simpa using h.v5
  v6 := by simpa using h.v6
  v7 := by simpa using h.v7
  v8 := by simpa using h.v8
  v9 := by simpa using h.v9
  v10 := by simpa using h.v10
  v11 := by simpa using h.v11
  v12 := by simpa using h.v12
  v13 := by simpa using h.v13
  v14 := by simpa using h.v14
  v15 := by simpa using h.v15
  v16 := by simpa using h.v16
theorem ck9_4 {g : Nat} {cs : Array Value} {x : NV} {nb r1 r2 : Bool} {W1 : World} {L : Nat → Bool} {f : Nat → Value} {w w' : World} (h : ck9C g cs x nb r1 r2 W1 L f w) (hb : Below w.heap.size w w') {v : Value} (hv : v = cond (true && (nb == true)) (.int .u64 (x.t.mn : Int)) undef) : ck9C g cs x nb r1 r2 W1 (fun j => if j = 4 then true else L j) (fun t => if (some 38 : Option Nat) = some t then v else f t) w' where
  bel := h.bel.trans (hb.mono h.bel.size)
  v0 := by simpa using h.v0
  v1 := by simpa using h.v1
  v2 := by simpa using h.v2
  v3 := by simpa using h.v3
  v4 := fun _ => by rw [hv]; simp
  v5 := by simpa using h.v5
  v6 := by simpa using h.v6
  v7 := by simpa using h.v7
  v8 := by simpa using h.v8
  v9 := by simpa using h.v9
  v10 := by simpa using h.v10
  v11 := by simpa using h.v11
  v12 := by simpa using h.v12
  v13 := by simpa using h.v13
  v14 := by simpa using h.v14
  v15 := by simpa using h.v15
  v16 := by simpa using h.v16
theorem ck9_5 {g : Nat} {cs : Array Value} {x : NV} {nb r1 r2 : Bool} {W1 : World} {L : Nat → Bool} {f : Nat → Value} {w w' : World} (h : ck9C g cs x nb r1 r2 W1 L f w) (hb : Below w.heap.size w w') {v : Value} (hv : v = cond (true && (nb == true)) (.pointer (some ⟨g, 6, none⟩)) undef) : ck9C g cs x nb r1 r2 W1 (fun j => if j = 5 then true else L j) (fun t => if (some 39 : Option Nat) = some t then v else f t) w' where
  bel := h.bel.trans (hb.mono h.bel.size)
  v0 := by simpa using h.v0
  v1 := by simpa using h.v1
  v2 := by simpa using h.v2
  v3 := by simpa using h.v3
  v4 := by simpa using h.v4
  v5 := fun _ => by rw [hv]; simp
  v6 := by simpa using h.v6
  v7 := by simpa using h.v7
  v8 := by simpa using h.v8
  v9 := by simpa using h.v9
  v10 := by simpa using h.v10
  v11 := by simpa using h.v11
  v12 := by simpa using h.v12
  v13 := by simpa using h.v13
  v14 := by simpa using h.v14
  v15 := by simpa using h.v15
  v16 := by simpa using h.v16
theorem ck9_6 {g : Nat} {cs : Array Value} {x : NV} {nb r1 r2 : Bool} {W1 : World} {L : Nat → Bool} {f : Nat → Value} {w w' : World} (h : ck9C g cs x nb r1 r2 W1 L f w) (hb : Below w.heap.size w w') {v : Value} (hv : v = cond (true && (nb == true)) (.int .u64 (x.t.mx : Int)) undef) : ck9C g cs x nb r1 r2 W1 (fun j => if j = 6 then true else L j) (fun t => if (some 40 : Option Nat) = some t then v else f t) w' where
  bel := h.bel.trans (hb.mono h.bel.size)
  v0 := by simpa using h.v0
  v1 := by simpa using h.v1
  v2 := by simpa using h.v2
  v3 := by simpa using h.v3
  v4 := by simpa using h.v4
  v5 := by simpa using h.v5
  v6 := fun _ => by rw [hv]; simp
  v7 := by simpa using h.v7
  v8 := by simpa using h.v8
  v9 := by simpa using h.v9
  v10 := by simpa using h.v10
  v11 := by simpa using h.v11
  v12 := by simpa using h.v12
  v13 := by simpa using h.v13
  v14 := by simpa using h.v14
  v15 := by simpa using h.v15
  v16 := by simpa using h.v16
theorem ck9_7 {g : Nat} {cs : Array Value} {x : NV} {nb r1 r2 : Bool} {W1 : World} {L : Nat → Bool} {f : Nat → Value} {w w' : World} (h : ck9C g cs x nb r1 r2 W1 L f w) (hb : Below w.heap.size w w') {v : Value} (hv : v = cond (true && (nb == true)) (.bool r1) undef) : ck9C g cs x nb r1 r2 W1 (fun j => if j = 7 then true else L j) (fun t => if (some 41 : Option Nat) = some t then v else f t) w' where
  bel := h.bel.trans (hb.mono h.bel.size)
  v0 := by simpa using h.v0
  v1 := by simpa using h.v1
  v2 := by simpa using h.v2
  v3 := by simpa using h.v3
  v4 := by simpa using h.v4
  v5 := by simpa using h.v5
  v6 := by simpa using h.v6
  v7 := fun _ => by rw [hv]; simp
  v8 := by simpa using h.v8
  v9 := by simpa using h.v9
  v10 := by simpa using h.v10
  v11 := by simpa using h.v11
  v12 := by simpa using h.v12
  v13 := by simpa using h.v13
  v14 := by simpa using h.v14
  v15 := by simpa using h.v15
  v16 := by simpa using h.v16
theorem ck9_8 {g : Nat} {cs : Array Value} {x : NV} {nb r1 r2 : Bool} {W1 : World} {L : Nat → Bool} {f : Nat → Value} {w w' : World} (h : ck9C g cs x nb r1 r2 W1 L f w) (hb : Below w.heap.size w w') {v : Value} (hv : v = cond (true && (nb == true)) (.bool r1) undef) : ck9C g cs x nb r1 r2 W1 (fun j => if j = 8 then true else L j) (fun t => if (some 42 : Option Nat) = some t then v else f t) w' where
  bel := h.bel.trans (hb.mono h.bel.size)
  v0 := by simpa using h.v0
  v1 := by simpa using h.v1
  v2 := by simpa using h.v2
  v3 := by simpa using h.v3
  v4 := by simpa using h.v4
  v5 := by simpa using h.v5
  v6 := by simpa using h.v6
  v7 := by simpa using h.v7
  v8 := fun _ => by rw [hv]; simp
  v9 := by simpa using h.v9
  v10 := by simpa using h.v10
  v11 := by simpa using h.v11
  v12 := by simpa using h.v12
  v13 := by simpa using h.v13
  v14 := by simpa using h.v14
  v15 := by simpa using h.v15
  v16 := by simpa using h.v16
theorem ck9_9 {g : Nat} {cs : Array Value} {x : NV} {nb r1 r2 : Bool} {W1 : World} {L : Nat → Bool} {f : Nat → Value} {w w' : World} (h : ck9C g cs x nb r1 r2 W1 L f w) (hb : Below w.heap.size w w') {v : Value} (hv : v = cond ((true && (nb == true)) && (r1 == false)) (.pointer (some ⟨g, 6, none⟩)) undef) : ck9C g cs x nb r1 r2 W1 (fun j => if j = 9 then true else L j) (fun t => if (some 43 : Option Nat) = some t then v else f t) w' where
  bel := h.bel.trans (hb.mono h.bel.size)
  v0 := by simpa using h.v0
  v1 := by simpa using h.v1
  v2 := by simpa using h.v2
  v3 := by simpa using h.v3
  v4 := by simpa using h.v4
  v5 := by simpa using h.v5
  v6 := by simpa using h.v6
  v7 := by simpa using h.v7
  v8 := by simpa using h.v8
  v9 := fun _ => by rw [hv]; simp
  v10 := by simpa using h.v10
  v11 := by simpa using h.v11
  v12 := by simpa using h.v12
  v13 := by simpa using h.v13
  v14 := by simpa using h.v14
  v15 := by simpa using h.v15
  v16 := by simpa using h.v16
theorem ck9_10 {g : Nat} {cs : Array Value} {x : NV} {nb r1 r2 : Bool} {W1 : World} {L : Nat → Bool} {f : Nat → Value} {w w' : World} (h : ck9C g cs x nb r1 r2 W1 L f w) (hb : Below w.heap.size w w') {v : Value} (hv : v = cond ((true && (nb == true)) && (r1 == false)) (.int .u64 (x.t.mx : Int)) undef) : ck9C g cs x nb r1 r2 W1 (fun j => if j = 10 then true else L j) (fun t => if (some 44 : Option Nat) = some t then v else f t) w' where
  bel := h.bel.trans (hb.mono h.bel.size)
  v0 := by simpa using h.v0
  v1 := by simpa using h.v1
  v2 := by simpa using h.v2
  v3 := by simpa using h.v3
  v4 := by simpa using h.v4
  v5 := by simpa using h.v5
  v6 := by simpa using h.v6
  v7 := by simpa using h.v7
  v8 := by simpa using h.v8
  v9 := by simpa using h.v9
  v10 := fun _ => by rw [hv]; simp
  v11 := by simpa using h.v11
  v12 := by simpa using h.v12
  v13 := by simpa using h.v13
  v14 := by simpa using h.v14
  v15 := by simpa using h.v15
  v16 := by simpa using h.v16
theorem ck9_11 {g : Nat} {cs : Array Value} {x : NV} {nb r1 r2 : Bool} {W1 : World} {L : Nat → Bool} {f : Nat → Value} {w w' : World} (h : ck9C g cs x nb r1 r2 W1 L f w) (hb : Below w.heap.size w w') {v : Value} (hv : v = cond ((true && (nb == true)) && (r1 == false)) (.agg cs) undef) : ck9C g cs x nb r1 r2 W1 (fun j => if j = 11 then true else L j) (fun t => if (some 45 : Option Nat) = some t then v else f t) w' where
  bel := h.bel.trans (hb.mono h.bel.size)
  v0 := by simpa using h.v0
  v1 := by simpa using h.v1
  v2 := by simpa using h.v2
  v3 := by simpa using h.v3
  v4 := by simpa using h.v4
  v5 := by simpa using h.v5
  v6 := by simpa using h.v6
  v7 := by simpa using h.v7
  v8 := by simpa using h.v8
  v9 := by simpa using h.v9
  v10 := by simpa using h.v10
  v11 := fun _ => by rw [hv]; simp
  v12 := by simpa using h.v12
  v13 := by simpa using h.v13
  v14 := by simpa using h.v14
  v15 := by simpa using h.v15
  v16 := by simpa using h.v16
theorem ck9_12 {g : Nat} {cs : Array Value} {x : NV} {nb r1 r2 : Bool} {W1 : World} {L : Nat → Bool} {f : Nat → Value} {w w' : World} (h : ck9C g cs x nb r1 r2 W1 L f w) (hb : Below w.heap.size w w') {v : Value} (hv : v = cond ((true && (nb == true)) && (r1 == false)) (.int .u64 ((mostV x.t.k x.t.wd : Nat) : Int)) undef) : ck9C g cs x nb r1 r2 W1 (fun j => if j = 12 then true else L j) (fun t => if (some 46 : Option Nat) = some t then v else f t) w' where
  bel := h.bel.trans (hb.mono h.bel.size)
  v0 := by simpa using h.v0
  v1 := by simpa using h.v1
  v2 := by simpa using h.v2
  v3 := by simpa using h.v3
  v4 := by simpa using h.v4
  v5 := by simpa using h.v5
  v6 := by simpa using h.v6
  v7 := by simpa using h.v7
  v8 := by simpa using h.v8
  v9 := by simpa using h.v9
  v10 := by simpa using h.v10
  v11 := by simpa using h.v11
  v12 := fun _ => by rw [hv]; simp
  v13 := by simpa using h.v13
  v14 := by simpa using h.v14
  v15 := by simpa using h.v15
  v16 := by simpa using h.v16
theorem ck9_13 {g : Nat} {cs : Array Value} {x : NV} {nb r1 r2 : Bool} {W1 : World} {L : Nat → Bool} {f : Nat → Value} {w w' : World} (h : ck9C g cs x nb r1 r2 W1 L f w) (hb : Below w.heap.size w w') {v : Value} (hv : v = cond ((true && (nb == true)) && (r1 == false)) (.bool r2) undef) : ck9C g cs x nb r1 r2 W1 (fun j => if j = 13 then true else L j) (fun t => if (some 47 : Option Nat) = some t then v else f t) w' where
  bel := h.bel.trans (hb.mono h.bel.size)
  v0 := by simpa using h.v0
  v1 := by simpa using h.v1
  v2 := by simpa using h.v2
  v3 := by simpa using h.v3
  v4 := by simpa using h.v4
  v5 := by simpa using h.v5
  v6 := by simpa using h.v6
  v7 := by simpa using h.v7
  v8 := by simpa using h.v8
  v9 := by simpa using h.v9
  v10 := by simpa using h.v10
  v11 := by simpa using h.v11
  v12 := by simpa using h.v12
  v13 := fun _ => by rw [hv]; simp
  v14 := by simpa using h.v14
  v15 := by simpa using h.v15
  v16 := by simpa using h.v16
theorem ck9_14 {g : Nat} {cs : Array Value} {x : NV} {nb r1 r2 : Bool} {W1 : World} {L : Nat → Bool} {f : Nat → Value} {w w' : World} (h : ck9C g cs x nb r1 r2 W1 L f w) (hb : Below w.heap.size w w') {v : Value} (hv : v = cond (true && (nb == true)) (.bool (r1 || r2)) undef) : ck9C g cs x nb r1 r2 W1 (fun j => if j = 14 then true else L j) (fun t => if (some 48 : Option Nat) = some t then v else f t) w' where
  bel := h.bel.trans (hb.mono h.bel.size)
  v0 := by simpa using h.v0
  v1 := by simpa using h.v1
  v2 := by simpa using h.v2
  v3 := by simpa using h.v3
  v4 := by simpa using h.v4
  v5 := by simpa using h.v5
  v6 := by simpa using h.v6
  v7 := by simpa using h.v7
  v8 := by simpa using h.v8
  v9 := by simpa using h.v9
  v10 := by simpa using h.v10
  v11 := by simpa using h.v11
  v12 := by simpa using h.v12
  v13 := by simpa using h.v13
  v14 := fun _ => by rw [hv]; simp
  v15 := by simpa using h.v15
  v16 := by simpa using h.v16
theorem ck9_15 {g : Nat} {cs : Array Value} {x : NV} {nb r1 r2 : Bool} {W1 : World} {L : Nat → Bool} {f : Nat → Value} {w w' : World} (h : ck9C g cs x nb r1 r2 W1 L f w) (hb : Below w.heap.size w w') {v : Value} (hv : v = .bool (nb && (r1 || r2))) : ck9C g cs x nb r1 r2 W1 (fun j => if j = 15 then true else L j) (fun t => if (some 49 : Option Nat) = some t then v else f t) w' where
  bel := h.bel.trans (hb.mono h.bel.size)
  v0 := by simpa using h.v0
  v1 := by simpa using h.v1
  v2 := by simpa using h.v2
  v3 := by simpa using h.v3
  v4 := by simpa using h.v4
  v5 := by simpa using h.v5
  v6 := by simpa using h.v6
  v7 := by simpa using h.v7
  v8 := by simpa using h.v8
  v9 := by simpa using h.v9
  v10 := by simpa using h.v10
  v11 := by simpa using h.v11
  v12 := by simpa using h.v12
  v13 := by simpa using h.v13
  v14 := by simpa using h.v14
  v15 := fun _ => by rw [hv]; simp
  v16 := by simpa using h.v16
theorem ck9_16 {g : Nat} {cs : Array Value} {x : NV} {nb r1 r2 : Bool} {W1 : World} {L : Nat → Bool} {f : Nat → Value} {w w' : World} (h : ck9C g cs x nb r1 r2 W1 L f w) (hb : Below w.heap.size w w') {v : Value} (hv : v = .bool (nb && (r1 || r2))) : ck9C g cs x nb r1 r2 W1 (fun j => if j = 16 then true else L j) (fun t => if (some 33 : Option Nat) = some t then v else f t) w' where
  bel := h.bel.trans (hb.mono h.bel.size)
  v0 := by simpa using h.v0
  v1 := by simpa using h.v1
  v2 := by simpa using h.v2
  v3 := by simpa using h.v3
  v4 := by simpa using h.v4
  v5 := by simpa using h.v5
  v6 := by simpa using h.v6
  v7 := by simpa using h.v7
  v8 := by simpa using h.v8
  v9 := by simpa using h.v9
  v10 := by simpa using h.v10
  v11 := by simpa using h.v11
  v12 := by simpa using h.v12
  v13 := by simpa using h.v13
  v14 := by simpa using h.v14
  v15 := by simpa using h.v15
  v16 := fun _ => by rw [hv]; simp
def ck9Dep : Nat → List Nat := fun i => match i with | 1 => [0] | 2 => [1] | 3 => [2] | 4 => [3, 2] | 5 => [2] | 6 => [5, 2] | 7 => [4, 6, 2] | 8 => [7, 2] | 9 => [8] | 10 => [9, 8] | 11 => [8] | 12 => [11, 8] | 13 => [10, 12, 8] | 14 => [8, 13, 2] | 15 => [2, 14] | 16 => [15] | _ => []
def ck9Us (f : Nat → Value) : List (Nat × Value) := [(34, f 34), (35, f 35), (36, f 36), (37, f 37), (38, f 38), (39, f 39), (40, f 40), (41, f 41), (42, f 42), (43, f 43), (44, f 44), (45, f 45), (46, f 46), (47, f 47), (48, f 48), (49, f 49), (33, f 33)]
set_option maxRecDepth 10000 in
theorem ck9_reg {g : Nat} {cs : Array Value} {x : NV} {nb r1 r2 : Bool} {W : World} {A0 : Act} {Q : Exit → Act → World → Prop} {id : Nat} (hbox : Act.at A0 1 = .pointer (some ⟨g, 0, none⟩)) (hN : NBox W g cs x) (hsz : 50 ≤ A0.tmps.size) (HNu : ∀ w, Calls Tryz.prog 66 #[.agg cs] w fun e w' => e = .returned (.bool nb) ∧ Below w.heap.size w w') (HM : ∀ w, Calls Tryz.prog 67 #[.agg cs] w fun e w' => e = .returned (.int .u64 ((mostV x.t.k x.t.wd : Nat) : Int)) ∧ Below w.heap.size w w') (hr1 : r1 = decide ((x.t.mx : Int) < (x.t.mn : Int))) (hr2 : r2 = decide (((mostV x.t.k x.t.wd : Nat) : Int) < (x.t.mx : Int)))
  (hk : ∀ (f : Nat → Value) w', f 33 = .bool (nb && (r1 || r2)) → Below W.heap.size W w' → Q .normal ⟨(ck9Us f).foldl (fun A p => A.setIfInBounds p.1 p.2) A0.tmps, A0.defers⟩ w') :
  (Code.region id ck9Ops true).wp Tryz.prog Q A0 W := by
 refine wp_region_fun3 (by kernel_rfl) (fun L f w => ck9C g cs x nb r1 r2 W.drew L f w) [34, 35, 36, 37, 38, 39, 40, 41, 42, 43, 44, 45, 46, 47, 48, 49, 33] (fun i o ho => (wf_ops3 (ops := ck9Ops) (by kernel_rfl)) i o ho) (fun i o ho u hu => ?_) ?_ ?_ ?_
 ·have := ops_dst [34, 35, 36, 37, 38, 39, 40, 41, 42, 43, 44, 45, 46, 47, 48, 49, 33] 50 (by kernel_rfl) i o ho u hu
  exact ⟨this.1, Nat.lt_of_lt_of_le this.2 hsz⟩
 ·have hs : ck9Ops.size = 17 := rfl
  rw [hs]
  constructor <;> first | exact Below.refl _ _ | (intro h; simp at h)
 ·rintro L i o ho hLi haf b w hf hc K hK
  have hdep := ops_deps ck9Dep (by kernel_rfl) ho haf
  clear haf
  have hb1 : Act.at b 1 = .pointer (some ⟨g, 0, none⟩) := (hf 1 (by decide)).trans hbox
  have hNw : NBox w g cs x := NBox.keep (w := W.drew) hN hc.bel
  have x5 := hNw.cells.2.2.2.2.2.1
  have x6 := hNw.cells.2.2.2.2.2.2.1
  have hs : ck9Ops.size = 17 := rfl
  have hlt : i < 17 := hs ▸ (Array.getElem?_eq_some_iff.1 ho).1
  have hcases : i = 0 ∨ i = 1 ∨ i = 2 ∨ i = 3 ∨ i = 4 ∨ i = 5 ∨ i = 6 ∨ i = 7 ∨ i = 8 ∨ i = 9 ∨ i = 10 ∨ i = 11 ∨ i = 12 ∨ i = 13 ∨ i = 14 ∨ i = 15 ∨ i = 16 := by omega
  rcases hcases with rfl | rfl | rfl | rfl | rfl | rfl | rfl | rfl | rfl | rfl | rfl | rfl | rfl | rfl | rfl | rfl | rfl
  ·obtain ⟨h1, h2, h3⟩ := op_at3 ho (show (ck9Ops[0]?).map (fun o => (o.dst, o.op, o.guard)) = some ((some 34), (.load 54 (.tmp 1)), none) by kernel_rfl)
   rw [h1] at hK
   refine want_none h3 ?_
   refine wp_load_row 54 (.tmp 1) h2 g hb1 54 cs (0, 0) _ hNw.1 Tryz.underlying54 rfl hNw.size ?_
   rw [h1]
   exact hK _ _ (ck9_0 hc (Below.refl _ _) (rfl))
  ·obtain ⟨h1, h2, h3⟩ := op_at3 ho (show (ck9Ops[1]?).map (fun o => (o.dst, o.op, o.guard)) = some ((some 35), (.call { callee := .value (.func 66), args := #[.tmp 34], argTypes := #[54] }), none) by kernel_rfl)
   rw [h1] at hK
   have l0 : L 0 = true := hdep 0 (by simp [ck9Dep])
   refine want_none h3 ?_
   refine wp_callG 66 _ _ h2 enters_num #[.agg cs] (by simp [show b.eval (.tmp 34) = _ from hc.v0 l0]) (fun v w' => v = .bool nb ∧ Below w.heap.size w w') ((HNu w).mono fun e w' h => ⟨_, h.1, rfl, h.2⟩) ?_
   rintro v w' ⟨rfl, hb⟩
   rw [h1]
   exact hK _ _ (ck9_1 hc (hb) (rfl))
  ·obtain ⟨h1, h2, h3⟩ := op_at3 ho (show (ck9Ops[2]?).map (fun o => (o.dst, o.op, o.guard)) = some ((some 36), (.move (.tmp 35)), none) by kernel_rfl)
   rw [h1] at hK
   have l1 : L 1 = true := hdep 1 (by simp [ck9Dep])
   refine want_none h3 ?_
   refine wp_moveG _ h2 _ (hc.v1 l1) ?_
   rw [h1]
   exact hK _ _ (ck9_2 hc (Below.refl _ _) (rfl))
  ·obtain ⟨h1, h2, h3⟩ := op_at3 ho (show (ck9Ops[3]?).map (fun o => (o.dst, o.op, o.guard)) = some ((some 37), (.fieldAddr 54 (.tmp 1) 5), (some (2, true))) by kernel_rfl)
   rw [h1] at hK
   have l2 : L 2 = true := hdep 2 (by simp [ck9Dep])
   have hw := wanted_cond (ops := ck9Ops) (b := b) (W := true) (v := nb) h3 (d := 36) (by kernel_rfl) (hc.v2 l2)
   rw [hw]
   refine ⟨fun hq => ?_, fun hq => (by rw [h1]; exact hK _ _ (ck9_3 hc (Below.refl _ _) (by rw [hq] <;> rfl)))⟩
   refine wp_fieldG _ _ _ h2 _ (.pointer (some ⟨g, 5, none⟩)) hb1 (by go_simp) ?_
   rw [h1]
   exact hK _ _ (ck9_3 hc (Below.refl _ _) (by rw [hq] <;> rfl))
  ·obtain ⟨h1, h2, h3⟩ := op_at3 ho (show (ck9Ops[4]?).map (fun o => (o.dst, o.op, o.guard)) = some ((some 38), (.load 46 (.tmp 37)), (some (2, true))) by kernel_rfl)
   rw [h1] at hK
   have l3 : L 3 = true := hdep 3 (by simp [ck9Dep])
   have l2 : L 2 = true := hdep 2 (by simp [ck9Dep])
   have hw := wanted_cond (ops := ck9Ops) (b := b) (W := true) (v := nb) h3 (d := 36) (by kernel_rfl) (hc.v2 l2)
   rw [hw]
   refine ⟨fun hq => ?_, fun hq => (by rw [h1]; exact hK _ _ (ck9_4 hc (Below.refl _ _) (by rw [hq] <;> rfl)))⟩
   refine wp_loadG _ _ h2 _ (.int .u64 (x.t.mn : Int)) ((hc.v3 l3).trans (by rw [hq] <;> rfl)) (by go_simp) ?_
   rw [h1]
   exact hK _ _ (ck9_4 hc (Below.refl _ _) (by rw [hq] <;> rfl))
  ·obtain ⟨h1, h2, h3⟩ := op_at3 ho (show (ck9Ops[5]?).map (fun o => (o.dst, o.op, o.guard)) = some ((some 39), (.fieldAddr 54 (.tmp 1) 6), (some (2, true))) by kernel_rfl)
   rw [h1] at hK
   have l2 : L 2 = true := hdep 2 (by simp [ck9Dep])
   have hw := wanted_cond (ops := ck9Ops) (b := b) (W := true) (v := nb) h3 (d := 36) (by kernel_rfl) (hc.v2 l2)
   rw [hw]
   refine ⟨fun hq => ?_, fun hq => (by rw [h1]; exact hK _ _ (ck9_5 hc (Below.refl _ _) (by rw [hq] <;> rfl)))⟩
   refine wp_fieldG _ _ _ h2 _ (.pointer (some ⟨g, 6, none⟩)) hb1 (by go_simp) ?_
   rw [h1]
   exact hK _ _ (ck9_5 hc (Below.refl _ _) (by rw [hq] <;> rfl))
  ·obtain ⟨h1, h2, h3⟩ := op_at3 ho (show (ck9Ops[6]?).map (fun o => (o.dst, o.op, o.guard)) = some ((some 40), (.load 46 (.tmp 39)), (some (2, true))) by kernel_rfl)
   rw [h1] at hK
   have l5 : L 5 = true := hdep 5 (by simp [ck9Dep])
   have l2 : L 2 = true := hdep 2 (by simp [ck9Dep])
   have hw := wanted_cond (ops := ck9Ops) (b := b) (W := true) (v := nb) h3 (d := 36) (by kernel_rfl) (hc.v2 l2)
   rw [hw]
   refine ⟨fun hq => ?_, fun hq => (by rw [h1]; exact hK _ _ (ck9_6 hc (Below.refl _ _) (by rw [hq] <;> rfl)))⟩
   refine wp_loadG _ _ h2 _ (.int .u64 (x.t.mx : Int)) ((hc.v5 l5).trans (by rw [hq] <;> rfl)) (by go_simp) ?_
   rw [h1]
   exact hK _ _ (ck9_6 hc (Below.refl _ _) (by rw [hq] <;> rfl))
  ·obtain ⟨h1, h2, h3⟩ := op_at3 ho (show (ck9Ops[7]?).map (fun o => (o.dst, o.op, o.guard)) = some ((some 41), (.binOp .gtr 46 (.tmp 38) (.tmp 40) 46), (some (2, true))) by kernel_rfl)
   rw [h1] at hK
   have l4 : L 4 = true := hdep 4 (by simp [ck9Dep])
   have l6 : L 6 = true := hdep 6 (by simp [ck9Dep])
   have l2 : L 2 = true := hdep 2 (by simp [ck9Dep])
   have hw := wanted_cond (ops := ck9Ops) (b := b) (W := true) (v := nb) h3 (d := 36) (by kernel_rfl) (hc.v2 l2)
   rw [hw]
   refine ⟨fun hq => ?_, fun hq => (by rw [h1]; exact hK _ _ (ck9_7 hc (Below.refl _ _) (by rw [hq] <;> rfl)))⟩
   refine wp_binG .gtr _ _ _ _ h2 (.int .u64 (x.t.mn : Int)) (.int .u64 (x.t.mx : Int)) (.bool r1) ((hc.v4 l4).trans (by rw [hq] <;> rfl)) ((hc.v6 l6).trans (by rw [hq] <;> rfl)) rfl (by rw [hr1]; rfl) ?_
   rw [h1]
   exact hK _ _ (ck9_7 hc (Below.refl _ _) (by rw [hq] <;> rfl))
  ·obtain ⟨h1, h2, h3⟩ := op_at3 ho (show (ck9Ops[8]?).map (fun o => (o.dst, o.op, o.guard)) = some ((some 42), (.move (.tmp 41)), (some (2, true))) by kernel_rfl)
   rw [h1] at hK
   have l7 : L 7 = true := hdep 7 (by simp [ck9Dep])
   have l2 : L 2 = true := hdep 2 (by simp [ck9Dep])
   have hw := wanted_cond (ops := ck9Ops) (b := b) (W := true) (v := nb) h3 (d := 36) (by kernel_rfl) (hc.v2 l2)
   rw [hw]
   refine ⟨fun hq => ?_, fun hq => (by rw [h1]; exact hK _ _ (ck9_8 hc (Below.refl _ _) (by rw [hq] <;> rfl)))⟩
   refine wp_moveG _ h2 _ ((hc.v7 l7).trans (by rw [hq] <;> rfl)) ?_
   rw [h1]
   exact hK _ _ (ck9_8 hc (Below.refl _ _) (by rw [hq] <;> rfl))
  ·obtain ⟨h1, h2, h3⟩ := op_at3 ho (show (ck9Ops[9]?).map (fun o => (o.dst, o.op, o.guard)) = some ((some 43), (.fieldAddr 54 (.tmp 1) 6), (some (8, false))) by kernel_rfl)
   rw [h1] at hK
   have l8 : L 8 = true := hdep 8 (by simp [ck9Dep])
   have hw := wanted_cond (ops := ck9Ops) (b := b) (W := (true && (nb == true))) (v := r1) h3 (d := 42) (by kernel_rfl) (hc.v8 l8)
   rw [hw]
   refine ⟨fun hq => ?_, fun hq => (by rw [h1]; exact hK _ _ (ck9_9 hc (Below.refl _ _) (by rw [hq] <;> rfl)))⟩
   refine wp_fieldG _ _ _ h2 _ (.pointer (some ⟨g, 6, none⟩)) hb1 (by go_simp) ?_
   rw [h1]
   exact hK _ _ (ck9_9 hc (Below.refl _ _) (by rw [hq] <;> rfl))
  ·obtain ⟨h1, h2, h3⟩ := op_at3 ho (show (ck9Ops[10]?).map (fun o => (o.dst, o.op, o.guard)) = some ((some 44), (.load 46 (.tmp 43)), (some (8, false))) by kernel_rfl)
   rw [h1] at hK
   have l9 : L 9 = true := hdep 9 (by simp [ck9Dep])
   have l8 : L 8 = true := hdep 8 (by simp [ck9Dep])
   have hw := wanted_cond (ops := ck9Ops) (b := b) (W := (true && (nb == true))) (v := r1) h3 (d := 42) (by kernel_rfl) (hc.v8 l8)
   rw [hw]
   refine ⟨fun hq => ?_, fun hq => (by rw [h1]; exact hK _ _ (ck9_10 hc (Below.refl _ _) (by rw [hq] <;> rfl)))⟩
   refine wp_loadG _ _ h2 _ (.int .u64 (x.t.mx : Int)) ((hc.v9 l9).trans (by rw [hq] <;> rfl)) (by go_simp) ?_
   rw [h1]
   exact hK _ _ (ck9_10 hc (Below.refl _ _) (by rw [hq] <;> rfl))
  ·obtain ⟨h1, h2, h3⟩ := op_at3 ho (show (ck9Ops[11]?).map (fun o => (o.dst, o.op, o.guard)) = some ((some 45), (.load 54 (.tmp 1)), (some (8, false))) by kernel_rfl)
   rw [h1] at hK
   have l8 : L 8 = true := hdep 8 (by simp [ck9Dep])
   have hw := wanted_cond (ops := ck9Ops) (b := b) (W := (true && (nb == true))) (v := r1) h3 (d := 42) (by kernel_rfl) (hc.v8 l8)
   rw [hw]
   refine ⟨fun hq => ?_, fun hq => (by rw [h1]; exact hK _ _ (ck9_11 hc (Below.refl _ _) (by rw [hq] <;> rfl)))⟩
   refine wp_load_row 54 (.tmp 1) h2 g hb1 54 cs (0, 0) _ hNw.1 Tryz.underlying54 rfl hNw.size ?_
   rw [h1]
   exact hK _ _ (ck9_11 hc (Below.refl _ _) (by rw [hq] <;> rfl))
  ·obtain ⟨h1, h2, h3⟩ := op_at3 ho (show (ck9Ops[12]?).map (fun o => (o.dst, o.op, o.guard)) = some ((some 46), (.call { callee := .value (.func 67), args := #[.tmp 45], argTypes := #[54] }), (some (8, false))) by kernel_rfl)
   rw [h1] at hK
   have l11 : L 11 = true := hdep 11 (by simp [ck9Dep])
   have l8 : L 8 = true := hdep 8 (by simp [ck9Dep])
   have hw := wanted_cond (ops := ck9Ops) (b := b) (W := (true && (nb == true))) (v := r1) h3 (d := 42) (by kernel_rfl) (hc.v8 l8)
   rw [hw]
   refine ⟨fun hq => ?_, fun hq => (by rw [h1]; exact hK _ _ (ck9_12 hc (Below.refl _ _) (by rw [hq] <;> rfl)))⟩
   refine wp_callG 67 _ _ h2 enters_most #[.agg cs] (by simp [show b.eval (.tmp 45) = _ from (hc.v11 l11).trans (by rw [hq] <;> rfl)]) (fun v w' => v = .int .u64 ((mostV x.t.k x.t.wd : Nat) : Int) ∧ Below w.heap.size w w') ((HM w).mono fun e w' h => ⟨_, h.1, rfl, h.2⟩) ?_
   rintro v w' ⟨rfl, hb⟩
   rw [h1]
   exact hK _ _ (ck9_12 hc (hb) (by rw [hq] <;> rfl))
  ·obtain ⟨h1, h2, h3⟩ := op_at3 ho (show (ck9Ops[13]?).map (fun o => (o.dst, o.op, o.guard)) = some ((some 47), (.binOp .gtr 46 (.tmp 44) (.tmp 46) 46), (some (8, false))) by kernel_rfl)
   rw [h1] at hK
   have l10 : L 10 = true := hdep 10 (by simp [ck9Dep])
   have l12 : L 12 = true := hdep 12 (by simp [ck9Dep])
   have l8 : L 8 = true := hdep 8 (by simp [ck9Dep])
   have hw := wanted_cond (ops := ck9Ops) (b := b) (W := (true && (nb == true))) (v := r1) h3 (d := 42) (by kernel_rfl) (hc.v8 l8)
   rw [hw]
   refine ⟨fun hq => ?_, fun hq => (by rw [h1]; exact hK _ _ (ck9_13 hc (Below.refl _ _) (by rw [hq] <;> rfl)))⟩
   refine wp_binG .gtr _ _ _ _ h2 (.int .u64 (x.t.mx : Int)) (.int .u64 ((mostV x.t.k x.t.wd : Nat) : Int)) (.bool r2) ((hc.v10 l10).trans (by rw [hq] <;> rfl)) ((hc.v12 l12).trans (by rw [hq] <;> rfl)) rfl (by rw [hr2]; rfl) ?_
   rw [h1]
   exact hK _ _ (ck9_13 hc (Below.refl _ _) (by rw [hq] <;> rfl))
  ·obtain ⟨h1, h2, h3⟩ := op_at3 ho (show (ck9Ops[14]?).map (fun o => (o.dst, o.op, o.guard)) = some ((some 48), (.pick (.tmp 42) (.const (.bool true)) (.tmp 47)), (some (2, true))) by kernel_rfl)
   rw [h1] at hK
   have l8 : L 8 = true := hdep 8 (by simp [ck9Dep])
   have l13 : L 13 = true := hdep 13 (by simp [ck9Dep])
   have l2 : L 2 = true := hdep 2 (by simp [ck9Dep])
   have hw := wanted_cond (ops := ck9Ops) (b := b) (W := true) (v := nb) h3 (d := 36) (by kernel_rfl) (hc.v2 l2)
   rw [hw]
   refine ⟨fun hq => ?_, fun hq => (by rw [h1]; exact hK _ _ (ck9_14 hc (Below.refl _ _) (by rw [hq] <;> rfl)))⟩
   refine wp_pickG _ _ _ h2 r1 ((hc.v8 l8).trans (by rw [hq] <;> rfl)) (.bool (r1 || r2)) (by rw [show b.eval (.tmp 47) = _ from hc.v13 l13]; revert hq; cases nb <;> cases r1 <;> intro hq <;> first | rfl | cases hq) ?_
   rw [h1]
   exact hK _ _ (ck9_14 hc (Below.refl _ _) (by rw [hq] <;> rfl))
  ·obtain ⟨h1, h2, h3⟩ := op_at3 ho (show (ck9Ops[15]?).map (fun o => (o.dst, o.op, o.guard)) = some ((some 49), (.pick (.tmp 36) (.tmp 48) (.const (.bool false))), none) by kernel_rfl)
   rw [h1] at hK
   have l2 : L 2 = true := hdep 2 (by simp [ck9Dep])
   have l14 : L 14 = true := hdep 14 (by simp [ck9Dep])
   refine want_none h3 ?_
   refine wp_pickG _ _ _ h2 nb (hc.v2 l2) (.bool (nb && (r1 || r2))) (by rw [show b.eval (.tmp 48) = _ from hc.v14 l14]; cases nb <;> rfl) ?_
   rw [h1]
   exact hK _ _ (ck9_15 hc (Below.refl _ _) (rfl))
  ·obtain ⟨h1, h2, h3⟩ := op_at3 ho (show (ck9Ops[16]?).map (fun o => (o.dst, o.op, o.guard)) = some ((some 33), (.assign (.tmp 49)), none) by kernel_rfl)
   rw [h1] at hK
   have l15 : L 15 = true := hdep 15 (by simp [ck9Dep])
   refine want_none h3 ?_
   refine wp_assignG _ h2 _ (hc.v15 l15) ?_
   rw [h1]
   exact hK _ _ (ck9_16 hc (Below.refl _ _) (rfl))
 ·rintro L b w hL hd hs hf hc
  have hsz2 : ck9Ops.size = 17 := rfl
  rw [hsz2] at hL
  have e := act_eq (a := A0) (b := b) (ck9Us (Act.at b)) hd hs hf (by
   intro p hp
   simp only [ck9Us, List.mem_cons, List.not_mem_nil, or_false] at hp
   rcases hp with rfl | rfl | rfl | rfl | rfl | rfl | rfl | rfl | rfl | rfl | rfl | rfl | rfl | rfl | rfl | rfl | rfl <;> rfl) (by rw [show (ck9Us (Act.at b)).map (·.1) = [34, 35, 36, 37, 38, 39, 40, 41, 42, 43, 44, 45, 46, 47, 48, 49, 33] from rfl]; decide)
  rw [e]
  exact hk (Act.at b) w (hc.v16 (hL 16 (by omega))) ⟨hc.bel.os, hc.bel.tape, hc.bel.output, hc.bel.size, hc.bel.block⟩
end Go.Proofs.YtfcccfplmdjndaaGreat
