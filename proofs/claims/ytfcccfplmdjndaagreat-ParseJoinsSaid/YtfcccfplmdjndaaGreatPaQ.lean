/- parse: a type, with its number. -/
import Derived.Test.YtfcccfplmdjndaaGreatPaP
import Derived.Test.YtfcccfplmdjndaaGreatSpXb
namespace Go.Proofs.YtfcccfplmdjndaaGreat
set_option linter.unusedSimpArgs false
set_option linter.unusedVariables false
open Go.RowKit

theorem wp_nilP {P : Program} {o : Oper} {a : Act} {w : World} {K : Act → World → Prop} {Q : Exit → Act → World → Prop} (x : Operand) (ho : o.op = .nilCheck x) (p : Addr) (hx : a.eval x = .pointer (some p)) (h : K (a.put o.dst (.pointer (some p))) w) : o.wp P a w K Q := by
 unfold Oper.wp
 have e : (execOp a.eval o).run P w = .ok (.value (.pointer (some p))) w := by
  unfold execOp
  simp only [ho, hx]
  go_simp
 rw [e]
 exact h
def kd3Ops : Array Oper := #[{ dst := some 12, op := Op.move (Operand.tmp 0), type := 99, pos := "kind.go:17", after := #[], guard := none }, { dst := some 13, op := Op.nilCheck (Operand.tmp 12), type := 0, pos := "kind.go:17", after := #[{ on := 0, ground := Ground.data }], guard := none }, { dst := some 14, op := Op.fieldAddr 72 (Operand.tmp 13) 1, type := 0, pos := "kind.go:17", after := #[{ on := 1, ground := Ground.data }], guard := none }, { dst := some 15, op := Op.move (Operand.tmp 0), type := 99, pos := "kind.go:17", after := #[], guard := none }, { dst := some 16, op := Op.move (Operand.tmp 1), type := 3, pos := "kind.go:17", after := #[], guard := none }, { dst := some 17, op := Op.call { callee := Callee.value (Operand.func 87), args := #[Operand.tmp 15, Operand.tmp 16], argTypes := #[99, 3] }, type := 54, pos := "kind.go:17", after := #[{ on := 3, ground := Ground.data }, { on := 4, ground := Ground.data }], guard := none }, { dst := some 18, op := Op.call { callee := Callee.value (Operand.func 15), args := #[Operand.tmp 14, Operand.tmp 17], argTypes := #[41, 54] }, type := 55, pos := "kind.go:17", after := #[{ on := 2, ground := Ground.data }, { on := 5, ground := Ground.data }, { on := 5, ground := Ground.chain }], guard := none }, { dst := some 11, op := Op.move (Operand.tmp 18), type := 55, pos := "kind.go:17", after := #[{ on := 6, ground := Ground.data }], guard := none }, { dst := some 19, op := Op.extract (Operand.tmp 11) 0, type := 3, pos := "kind.go:17", after := #[{ on := 7, ground := Ground.data }], guard := none }, { dst := some 20, op := Op.extract (Operand.tmp 11) 1, type := 24, pos := "kind.go:17", after := #[{ on := 7, ground := Ground.data }, { on := 10, ground := Ground.gcOnly Departure.lateStores }], guard := none }, { dst := some 5, op := Op.assign (Operand.tmp 19), type := 3, pos := "kind.go:17", after := #[{ on := 8, ground := Ground.data }, { on := 6, ground := Ground.chain }, { on := 0, ground := Ground.phase }, { on := 1, ground := Ground.phase }, { on := 2, ground := Ground.phase }, { on := 3, ground := Ground.phase }, { on := 4, ground := Ground.phase }, { on := 5, ground := Ground.phase }, { on := 6, ground := Ground.phase }, { on := 7, ground := Ground.phase }, { on := 8, ground := Ground.phase }, { on := 9, ground := Ground.textOnly Departure.lateStores }], guard := none }, { dst := some 6, op := Op.assign (Operand.tmp 20), type := 24, pos := "kind.go:17", after := #[{ on := 9, ground := Ground.data }, { on := 10, ground := Ground.chain }, { on := 0, ground := Ground.phase }, { on := 1, ground := Ground.phase }, { on := 2, ground := Ground.phase }, { on := 3, ground := Ground.phase }, { on := 4, ground := Ground.phase }, { on := 5, ground := Ground.phase }, { on := 6, ground := Ground.phase }, { on := 7, ground := Ground.phase }, { on := 8, ground := Ground.phase }, { on := 9, ground := Ground.phase }, { on := 10, ground := Ground.phase }], guard := none }]
def kd3Dep : Nat → List Nat := fun i => match i with | 1 => [0] | 2 => [1] | 5 => [3, 4] | 6 => [2, 5] | 7 => [6] | 8 => [7] | 9 => [7] | 10 => [8] | 11 => [9] | _ => []
structure kd3C (g : Nat) (dp : Int) (r1 : Int) (r2 : Int) (W1 : World) (R5 : Value → World → Prop) (R6 : Value → World → Prop) (L : Nat → Bool) (f : Nat → Value) (w : World) : Prop where
 v0 : L 0 = true → f 12 = .pointer (some ⟨g, 0, none⟩)
 v1 : L 1 = true → f 13 = .pointer (some ⟨g, 0, none⟩)
 v2 : L 2 = true → f 14 = .pointer (some ⟨g, 1, none⟩)
 v3 : L 3 = true → f 15 = .pointer (some ⟨g, 0, none⟩)
 v4 : L 4 = true → f 16 = .int .i64 dp
 v7 : L 7 = true → f 11 = .tuple #[.int .i64 r1, .int .i64 r2]
 v8 : L 8 = true → f 19 = .int .i64 r1
 v9 : L 9 = true → f 20 = .int .i64 r2
 v10 : L 10 = true → f 5 = .int .i64 r1
 v11 : L 11 = true → f 6 = .int .i64 r2
 wz : L 5 = false → w = W1
 w5 : L 5 = true → L 6 = false → R5 (f 17) w
 w6 : L 6 = true → R6 (f 18) w
 d6_5 : L 6 = true → L 5 = true
 d5_3 : L 5 = true → L 3 = true
 d5_4 : L 5 = true → L 4 = true
 d6_2 : L 6 = true → L 2 = true
theorem kd3_0 {g : Nat} {dp : Int} {r1 : Int} {r2 : Int} {W1 : World} {R5 : Value → World → Prop} {R6 : Value → World → Prop} {L : Nat → Bool} {f : Nat → Value} {w : World} (h : kd3C g dp r1 r2 W1 R5 R6 L f w) : kd3C g dp r1 r2 W1 R5 R6 (fun k => if k = 0 then true else L k) (fun t => if (some 12 : Option Nat) = some t then (.pointer (some ⟨g, 0, none⟩)) else f t) w where
 v0 := fun _ => by simp
 v1 := by simpa using h.v1
 v2 := by simpa using h.v2
 v3 := by simpa using h.v3
 v4 := by simpa using h.v4
 v7 := by simpa using h.v7
 v8 := by simpa using h.v8
 v9 := by simpa using h.v9
 v10 := by simpa using h.v10
 v11 := by simpa using h.v11
 wz := by simpa using h.wz
 w5 := by simpa using h.w5
 w6 := by simpa using h.w6
 d6_5 := by simpa using h.d6_5
 d5_3 := by simpa using h.d5_3
 d5_4 := by simpa using h.d5_4
 d6_2 := by simpa using h.d6_2
theorem kd3_1 {g : Nat} {dp : Int} {r1 : Int} {r2 : Int} {W1 : World} {R5 : Value → World → Prop} {R6 : Value → World → Prop} {L : Nat → Bool} {f : Nat → Value} {w : World} (h : kd3C g dp r1 r2 W1 R5 R6 L f w) : kd3C g dp r1 r2 W1 R5 R6 (fun k => if k = 1 then true else L k) (fun t => if (some 13 : Option Nat) = some t then (.pointer (some ⟨g, 0, none⟩)) else f t) w where
 v0 := by simpa using h.v0
 v1 := fun _ => by simp
 v2 := by simpa using h.v2
 v3 := by simpa using h.v3
 v4 := by simpa using h.v4
 v7 := by simpa using h.v7
 v8 := by simpa using h.v8
 v9 := by simpa using h.v9
 v10 := by simpa using h.v10
 v11 := by simpa using h.v11
 wz := by simpa using h.wz
 w5 := by simpa using h.w5
 w6 := by simpa using h.w6
 d6_5 := by simpa using h.d6_5
 d5_3 := by simpa using h.d5_3
 d5_4 := by simpa using h.d5_4
 d6_2 := by simpa using h.d6_2
theorem kd3_2 {g : Nat} {dp : Int} {r1 : Int} {r2 : Int} {W1 : World} {R5 : Value → World → Prop} {R6 : Value → World → Prop} {L : Nat → Bool} {f : Nat → Value} {w : World} (h : kd3C g dp r1 r2 W1 R5 R6 L f w) : kd3C g dp r1 r2 W1 R5 R6 (fun k => if k = 2 then true else L k) (fun t => if (some 14 : Option Nat) = some t then (.pointer (some ⟨g, 1, none⟩)) else f t) w where
 v0 := by simpa using h.v0
 v1 := by simpa using h.v1
 v2 := fun _ => by simp
 v3 := by simpa using h.v3
 v4 := by simpa using h.v4
 v7 := by simpa using h.v7
 v8 := by simpa using h.v8
 v9 := by simpa using h.v9
 v10 := by simpa using h.v10
 v11 := by simpa using h.v11
 wz := by simpa using h.wz
 w5 := by simpa using h.w5
 w6 := by simpa using h.w6
 d6_5 := by simpa using h.d6_5
 d5_3 := by simpa using h.d5_3
 d5_4 := by simpa using h.d5_4
 d6_2 := fun _ => by simp
theorem kd3_3 {g : Nat} {dp : Int} {r1 : Int} {r2 : Int} {W1 : World} {R5 : Value → World → Prop} {R6 : Value → World → Prop} {L : Nat → Bool} {f : Nat → Value} {w : World} (h : kd3C g dp r1 r2 W1 R5 R6 L f w) : kd3C g dp r1 r2 W1 R5 R6 (fun k => if k = 3 then true else L k) (fun t => if (some 15 : Option Nat) = some t then (.pointer (some ⟨g, 0, none⟩)) else f t) w where
 v0 := by simpa using h.v0
 v1 := by simpa using h.v1
 v2 := by simpa using h.v2
 v3 := fun _ => by simp
 v4 := by simpa using h.v4
 v7 := by simpa using h.v7
 v8 := by simpa using h.v8
 v9 := by simpa using h.v9
 v10 := by simpa using h.v10
 v11 := by simpa using h.v11
 wz := by simpa using h.wz
 w5 := by simpa using h.w5
 w6 := by simpa using h.w6
 d6_5 := by simpa using h.d6_5
 d5_3 := fun _ => by simp
 d5_4 := by simpa using h.d5_4
 d6_2 := by simpa using h.d6_2
theorem kd3_4 {g : Nat} {dp : Int} {r1 : Int} {r2 : Int} {W1 : World} {R5 : Value → World → Prop} {R6 : Value → World → Prop} {L : Nat → Bool} {f : Nat → Value} {w : World} (h : kd3C g dp r1 r2 W1 R5 R6 L f w) : kd3C g dp r1 r2 W1 R5 R6 (fun k => if k = 4 then true else L k) (fun t => if (some 16 : Option Nat) = some t then (.int .i64 dp) else f t) w where
 v0 := by simpa using h.v0
 v1 := by simpa using h.v1
 v2 := by simpa using h.v2
 v3 := by simpa using h.v3
 v4 := fun _ => by simp
 v7 := by simpa using h.v7
 v8 := by simpa using h.v8
 v9 := by simpa using h.v9
 v10 := by simpa using h.v10
 v11 := by simpa using h.v11
 wz := by simpa using h.wz
 w5 := by simpa using h.w5
 w6 := by simpa using h.w6
 d6_5 := by simpa using h.d6_5
 d5_3 := by simpa using h.d5_3
 d5_4 := fun _ => by simp
 d6_2 := by simpa using h.d6_2
theorem kd3_5 {g : Nat} {dp : Int} {r1 : Int} {r2 : Int} {W1 : World} {R5 : Value → World → Prop} {R6 : Value → World → Prop} {L : Nat → Bool} {f : Nat → Value} {w : World} {v : Value} {w2 : World} (h : kd3C g dp r1 r2 W1 R5 R6 L f w) (h5 : L 5 = false) (h3 : L 3 = true) (h4 : L 4 = true) (hp : R5 v w2) : kd3C g dp r1 r2 W1 R5 R6 (fun k => if k = 5 then true else L k) (fun t => if (some 17 : Option Nat) = some t then v else f t) w2 := by
 have h6 : L 6 = false := by cases hh : L 6 with | false => rfl | true => exact absurd (h.d6_5 hh) (by rw [h5]; decide)
 constructor
 ·simpa using h.v0
 ·simpa using h.v1
 ·simpa using h.v2
 ·simpa using h.v3
 ·simpa using h.v4
 ·simpa using h.v7
 ·simpa using h.v8
 ·simpa using h.v9
 ·simpa using h.v10
 ·simpa using h.v11
 ·intro hh; simp at hh
 ·intro _ _; simpa using hp
 ·intro hh; simp [h6] at hh
 ·intro _; simp
 ·intro _; simpa using h3
 ·intro _; simpa using h4
 ·simpa using h.d6_2
theorem kd3_6 {g : Nat} {dp : Int} {r1 : Int} {r2 : Int} {W1 : World} {R5 : Value → World → Prop} {R6 : Value → World → Prop} {L : Nat → Bool} {f : Nat → Value} {w : World} {v : Value} {w2 : World} (h : kd3C g dp r1 r2 W1 R5 R6 L f w) (h5 : L 5 = true) (h6 : L 6 = false) (h2 : L 2 = true) (hp : R6 v w2) : kd3C g dp r1 r2 W1 R5 R6 (fun k => if k = 6 then true else L k) (fun t => if (some 18 : Option Nat) = some t then v else f t) w2 := by
 constructor
 ·simpa using h.v0
 ·simpa using h.v1
 ·simpa using h.v2
 ·simpa using h.v3
 ·simpa using h.v4
 ·simpa using h.v7
 ·simpa using h.v8
 ·simpa using h.v9
 ·simpa using h.v10
 ·simpa using h.v11
 ·intro hh; simp [h5] at hh
 ·intro _ hh; simp at hh
 ·intro _; simpa using hp
 ·intro _; simpa using h5
 ·simpa using h.d5_3
 ·simpa using h.d5_4
 ·intro _; simpa using h2
theorem kd3_7 {g : Nat} {dp : Int} {r1 : Int} {r2 : Int} {W1 : World} {R5 : Value → World → Prop} {R6 : Value → World → Prop} {L : Nat → Bool} {f : Nat → Value} {w : World} (h : kd3C g dp r1 r2 W1 R5 R6 L f w) : kd3C g dp r1 r2 W1 R5 R6 (fun k => if k = 7 then true else L k) (fun t => if (some 11 : Option Nat) = some t then (.tuple #[.int .i64 r1, .int .i64 r2]) else f t) w where
 v0 := by simpa using h.v0
 v1 := by simpa using h.v1
 v2 := by simpa using h.v2
 v3 := by simpa using h.v3
 v4 := by simpa using h.v4
 v7 := fun _ => by simp
 v8 := by simpa using h.v8
 v9 := by simpa using h.v9
 v10 := by simpa using h.v10
 v11 := by simpa using h.v11
 wz := by simpa using h.wz
 w5 := by simpa using h.w5
 w6 := by simpa using h.w6
 d6_5 := by simpa using h.d6_5
 d5_3 := by simpa using h.d5_3
 d5_4 := by simpa using h.d5_4
 d6_2 := by simpa using h.d6_2
theorem kd3_8 {g : Nat} {dp : Int} {r1 : Int} {r2 : Int} {W1 : World} {R5 : Value → World → Prop} {R6 : Value → World → Prop} {L : Nat → Bool} {f : Nat → Value} {w : World} (h : kd3C g dp r1 r2 W1 R5 R6 L f w) : kd3C g dp r1 r2 W1 R5 R6 (fun k => if k = 8 then true else L k) (fun t => if (some 19 : Option Nat) = some t then (.int .i64 r1) else f t) w where
 v0 := by simpa using h.v0
 v1 := by simpa using h.v1
 v2 := by simpa using h.v2
 v3 := by simpa using h.v3
 v4 := by simpa using h.v4
 v7 := by simpa using h.v7
 v8 := fun _ => by simp
 v9 := by simpa using h.v9
 v10 := by simpa using h.v10
 v11 := by simpa using h.v11
 wz := by simpa using h.wz
 w5 := by simpa using h.w5
 w6 := by simpa using h.w6
 d6_5 := by simpa using h.d6_5
 d5_3 := by simpa using h.d5_3
 d5_4 := by simpa using h.d5_4
 d6_2 := by simpa using h.d6_2
theorem kd3_9 {g : Nat} {dp : Int} {r1 : Int} {r2 : Int} {W1 : World} {R5 : Value → World → Prop} {R6 : Value → World → Prop} {L : Nat → Bool} {f : Nat → Value} {w : World} (h : kd3C g dp r1 r2 W1 R5 R6 L f w) : kd3C g dp r1 r2 W1 R5 R6 (fun k => if k = 9 then true else L k) (fun t => if (some 20 : Option Nat) = some t then (.int .i64 r2) else f t) w where
 v0 := by simpa using h.v0
 v1 := by simpa using h.v1
 v2 := by simpa using h.v2
 v3 := by simpa using h.v3
 v4 := by simpa using h.v4
 v7 := by simpa using h.v7
 v8 := by simpa using h.v8
 v9 := fun _ => by simp
 v10 := by simpa using h.v10
 v11 := by simpa using h.v11
 wz := by simpa using h.wz
 w5 := by simpa using h.w5
 w6 := by simpa using h.w6
 d6_5 := by simpa using h.d6_5
 d5_3 := by simpa using h.d5_3
 d5_4 := by simpa using h.d5_4
 d6_2 := by simpa using h.d6_2
theorem kd3_10 {g : Nat} {dp : Int} {r1 : Int} {r2 : Int} {W1 : World} {R5 : Value → World → Prop} {R6 : Value → World → Prop} {L : Nat → Bool} {f : Nat → Value} {w : World} (h : kd3C g dp r1 r2 W1 R5 R6 L f w) : kd3C g dp r1 r2 W1 R5 R6 (fun k => if k = 10 then true else L k) (fun t => if (some 5 : Option Nat) = some t then (.int .i64 r1) else f t) w where
 v0 := by simpa using h.v0
 v1 := by simpa using h.v1
 v2 := by simpa using h.v2
 v3 := by simpa using h.v3
 v4 := by simpa using h.v4
 v7 := by simpa using h.v7
 v8 := by simpa using h.v8
 v9 := by simpa using h.v9
 v10 := fun _ => by simp
 v11 := by simpa using h.v11
 wz := by simpa using h.wz
 w5 := by simpa using h.w5
 w6 := by simpa using h.w6
 d6_5 := by simpa using h.d6_5
 d5_3 := by simpa using h.d5_3
 d5_4 := by simpa using h.d5_4
 d6_2 := by simpa using h.d6_2
theorem kd3_11 {g : Nat} {dp : Int} {r1 : Int} {r2 : Int} {W1 : World} {R5 : Value → World → Prop} {R6 : Value → World → Prop} {L : Nat → Bool} {f : Nat → Value} {w : World} (h : kd3C g dp r1 r2 W1 R5 R6 L f w) : kd3C g dp r1 r2 W1 R5 R6 (fun k => if k = 11 then true else L k) (fun t => if (some 6 : Option Nat) = some t then (.int .i64 r2) else f t) w where
 v0 := by simpa using h.v0
 v1 := by simpa using h.v1
 v2 := by simpa using h.v2
 v3 := by simpa using h.v3
 v4 := by simpa using h.v4
 v7 := by simpa using h.v7
 v8 := by simpa using h.v8
 v9 := by simpa using h.v9
 v10 := by simpa using h.v10
 v11 := fun _ => by simp
 wz := by simpa using h.wz
 w5 := by simpa using h.w5
 w6 := by simpa using h.w6
 d6_5 := by simpa using h.d6_5
 d5_3 := by simpa using h.d5_3
 d5_4 := by simpa using h.d5_4
 d6_2 := by simpa using h.d6_2
def kd3Us (f : Nat → Value) : List (Nat × Value) := [(12, f 12), (13, f 13), (14, f 14), (15, f 15), (16, f 16), (17, f 17), (18, f 18), (11, f 11), (19, f 19), (20, f 20), (5, f 5), (6, f 6)]
set_option maxRecDepth 10000 in
set_option maxHeartbeats 1000000 in
theorem kd3_reg {g : Nat} {dp r1 r2 : Int} {W : World} {R1 : NV → World → Prop} {R2 : World → Prop} {A0 : Act} {Q : Exit → Act → World → Prop} {id : Nat} (a0 : Act.at A0 0 = .pointer (some ⟨g, 0, none⟩)) (a1 : Act.at A0 1 = .int .i64 dp) (hsz : 21 ≤ A0.tmps.size)
  (HC : Calls Tryz.prog 87 #[.pointer (some ⟨g, 0, none⟩), .int .i64 dp] W.drew fun e w' => ∃ v, e = .returned v ∧ (fun u w => ∃ x : NV, u = .agg x.cells.toArray ∧ R1 x w) v w')
  (HAd : ∀ x w, R1 x w → Calls Tryz.prog 15 #[.pointer (some ⟨g, 1, none⟩), .agg x.cells.toArray] w fun e w' => ∃ v, e = .returned v ∧ (fun u w => u = .tuple #[.int .i64 r1, .int .i64 r2] ∧ R2 w) v w')
  (hk : ∀ (f : Nat → Value) w', f 5 = .int .i64 r1 → f 6 = .int .i64 r2 → R2 w' → Q .normal ⟨(kd3Us f).foldl (fun A p => A.setIfInBounds p.1 p.2) A0.tmps, A0.defers⟩ w') :
  (Code.region id kd3Ops true).wp Tryz.prog Q A0 W := by
 refine wp_region_fun (by kernel_rfl) (fun L f w => kd3C g dp r1 r2 W.drew (fun u w => ∃ x : NV, u = .agg x.cells.toArray ∧ R1 x w) (fun u w => u = .tuple #[.int .i64 r1, .int .i64 r2] ∧ R2 w) L f w) [12, 13, 14, 15, 16, 17, 18, 11, 19, 20, 5, 6] (wf_ops2 (by kernel_rfl)) (fun i o ho u hu => ?_) ?_ ?_ ?_
 ·have := ops_dst [12, 13, 14, 15, 16, 17, 18, 11, 19, 20, 5, 6] 21 (by kernel_rfl) i o ho u hu
  exact ⟨this.1, Nat.lt_of_lt_of_le this.2 hsz⟩
 ·have hs : kd3Ops.size = 12 := rfl
  rw [hs]
  constructor <;> first | exact (fun _ => rfl) | (intro h; simp at h) | (intro h h2; simp at h)
 ·rintro L i o ho hLi haf b w hf hc K hK
  have hdep := ops_deps kd3Dep (by kernel_rfl) ho haf
  clear haf
  have hs : kd3Ops.size = 12 := rfl
  have hlt : i < 12 := hs ▸ (Array.getElem?_eq_some_iff.1 ho).1
  have hcases : i = 0 ∨ i = 1 ∨ i = 2 ∨ i = 3 ∨ i = 4 ∨ i = 5 ∨ i = 6 ∨ i = 7 ∨ i = 8 ∨ i = 9 ∨ i = 10 ∨ i = 11 := by omega
  rcases hcases with rfl | rfl | rfl | rfl | rfl | rfl | rfl | rfl | rfl | rfl | rfl | rfl
  ·obtain ⟨h1, h2⟩ := op_at2 ho (show (kd3Ops[0]?).map (fun o => (o.dst, o.op)) = some ((some 12), (Op.move (Operand.tmp 0))) by kernel_rfl)
   rw [h1] at hK
   refine wp_moveG _ h2 _ ((hf 0 (by decide)).trans a0) ?_
   rw [h1]
   exact hK _ _ (kd3_0 hc)
  ·obtain ⟨h1, h2⟩ := op_at2 ho (show (kd3Ops[1]?).map (fun o => (o.dst, o.op)) = some ((some 13), (Op.nilCheck (Operand.tmp 12))) by kernel_rfl)
   rw [h1] at hK
   have l0 : L 0 = true := hdep 0 (by simp [kd3Dep])
   refine wp_nilP _ h2 ⟨g, 0, none⟩ (hc.v0 l0) ?_
   rw [h1]
   exact hK _ _ (kd3_1 hc)
  ·obtain ⟨h1, h2⟩ := op_at2 ho (show (kd3Ops[2]?).map (fun o => (o.dst, o.op)) = some ((some 14), (Op.fieldAddr 72 (Operand.tmp 13) 1)) by kernel_rfl)
   rw [h1] at hK
   have l1 : L 1 = true := hdep 1 (by simp [kd3Dep])
   refine wp_fieldG _ _ _ h2 _ _ (hc.v1 l1) (show (Instr.fieldAt 72 (.pointer (some ⟨g, 0, none⟩)) 1).run Tryz.prog w = .ok (.pointer (some ⟨g, 1, none⟩)) w from by kernel_rfl) ?_
   rw [h1]
   exact hK _ _ (kd3_2 hc)
  ·obtain ⟨h1, h2⟩ := op_at2 ho (show (kd3Ops[3]?).map (fun o => (o.dst, o.op)) = some ((some 15), (Op.move (Operand.tmp 0))) by kernel_rfl)
   rw [h1] at hK
   refine wp_moveG _ h2 _ ((hf 0 (by decide)).trans a0) ?_
   rw [h1]
   exact hK _ _ (kd3_3 hc)
  ·obtain ⟨h1, h2⟩ := op_at2 ho (show (kd3Ops[4]?).map (fun o => (o.dst, o.op)) = some ((some 16), (Op.move (Operand.tmp 1))) by kernel_rfl)
   rw [h1] at hK
   refine wp_moveG _ h2 _ ((hf 1 (by decide)).trans a1) ?_
   rw [h1]
   exact hK _ _ (kd3_4 hc)
  ·obtain ⟨h1, h2⟩ := op_at2 ho (show (kd3Ops[5]?).map (fun o => (o.dst, o.op)) = some ((some 17), (Op.call { callee := Callee.value (Operand.func 87), args := #[Operand.tmp 15, Operand.tmp 16], argTypes := #[99, 3] })) by kernel_rfl)
   rw [h1] at hK
   have l3 : L 3 = true := hdep 3 (by simp [kd3Dep])
   have l4 : L 4 = true := hdep 4 (by simp [kd3Dep])
   obtain rfl := hc.wz hLi
   refine wp_callG 87 _ _ h2 (enters_of Tryz.func87 (by kernel_rfl) rfl) #[.pointer (some ⟨g, 0, none⟩), .int .i64 dp] (by simp [show b.eval (.tmp 15) = _ from hc.v3 l3, show b.eval (.tmp 16) = _ from hc.v4 l4]) _ HC ?_
   intro v w2 hp
   rw [h1]
   exact hK _ _ (kd3_5 hc hLi l3 l4 hp)
  ·obtain ⟨h1, h2⟩ := op_at2 ho (show (kd3Ops[6]?).map (fun o => (o.dst, o.op)) = some ((some 18), (Op.call { callee := Callee.value (Operand.func 15), args := #[Operand.tmp 14, Operand.tmp 17], argTypes := #[41, 54] })) by kernel_rfl)
   rw [h1] at hK
   have l2 : L 2 = true := hdep 2 (by simp [kd3Dep])
   have l5 : L 5 = true := hdep 5 (by simp [kd3Dep])
   obtain ⟨x, hu, h9⟩ := hc.w5 l5 hLi
   refine wp_callG 15 _ _ h2 (enters_of Tryz.func15 (by kernel_rfl) rfl) #[.pointer (some ⟨g, 1, none⟩), .agg x.cells.toArray] (by simp [show b.eval (.tmp 14) = _ from hc.v2 l2, show b.eval (.tmp 17) = _ from hu]) _ (HAd x w h9) ?_
   intro v w2 hp
   rw [h1]
   exact hK _ _ (kd3_6 hc l5 hLi l2 hp)
  ·obtain ⟨h1, h2⟩ := op_at2 ho (show (kd3Ops[7]?).map (fun o => (o.dst, o.op)) = some ((some 11), (Op.move (Operand.tmp 18))) by kernel_rfl)
   rw [h1] at hK
   have l6 : L 6 = true := hdep 6 (by simp [kd3Dep])
   obtain ⟨hu, _⟩ := hc.w6 l6
   refine wp_moveG _ h2 _ hu ?_
   rw [h1]
   exact hK _ _ (kd3_7 hc)
  ·obtain ⟨h1, h2⟩ := op_at2 ho (show (kd3Ops[8]?).map (fun o => (o.dst, o.op)) = some ((some 19), (Op.extract (Operand.tmp 11) 0)) by kernel_rfl)
   rw [h1] at hK
   have l7 : L 7 = true := hdep 7 (by simp [kd3Dep])
   refine wp_extractG _ 0 h2 _ (hc.v7 l7) (.int .i64 r1) rfl ?_
   rw [h1]
   exact hK _ _ (kd3_8 hc)
  ·obtain ⟨h1, h2⟩ := op_at2 ho (show (kd3Ops[9]?).map (fun o => (o.dst, o.op)) = some ((some 20), (Op.extract (Operand.tmp 11) 1)) by kernel_rfl)
   rw [h1] at hK
   have l7 : L 7 = true := hdep 7 (by simp [kd3Dep])
   refine wp_extractG _ 1 h2 _ (hc.v7 l7) (.int .i64 r2) rfl ?_
   rw [h1]
   exact hK _ _ (kd3_9 hc)
  ·obtain ⟨h1, h2⟩ := op_at2 ho (show (kd3Ops[10]?).map (fun o => (o.dst, o.op)) = some ((some 5), (Op.assign (Operand.tmp 19))) by kernel_rfl)
   rw [h1] at hK
   have l8 : L 8 = true := hdep 8 (by simp [kd3Dep])
   refine wp_assignG _ h2 _ (hc.v8 l8) ?_
   rw [h1]
   exact hK _ _ (kd3_10 hc)
  ·obtain ⟨h1, h2⟩ := op_at2 ho (show (kd3Ops[11]?).map (fun o => (o.dst, o.op)) = some ((some 6), (Op.assign (Operand.tmp 20))) by kernel_rfl)
   rw [h1] at hK
   have l9 : L 9 = true := hdep 9 (by simp [kd3Dep])
   refine wp_assignG _ h2 _ (hc.v9 l9) ?_
   rw [h1]
   exact hK _ _ (kd3_11 hc)
 ·rintro L b w hL hd hs hf hc
  have hsz2 : kd3Ops.size = 12 := rfl
  rw [hsz2] at hL
  have e := act_eq (a := A0) (b := b) (kd3Us (Act.at b)) hd hs hf (by
   intro p hp
   simp only [kd3Us, List.mem_cons, List.not_mem_nil, or_false] at hp
   rcases hp with rfl | rfl | rfl | rfl | rfl | rfl | rfl | rfl | rfl | rfl | rfl | rfl <;> rfl) (by rw [show (kd3Us (Act.at b)).map (·.1) = [12, 13, 14, 15, 16, 17, 18, 11, 19, 20, 5, 6] from rfl]; decide)
  rw [e]
  exact hk (Act.at b) w (hc.v10 (hL 10 (by omega))) (hc.v11 (hL 11 (by omega))) (hc.w6 (hL 6 (by omega))).2

variable {w w' w0 : World} {O O0 O' : Nat → Prop} {g : Nat} {L : List Tk} {s s' : RS}
def keptP (n : NT) (s : RS) : RS := ⟨s.ts, s.ns ++ [n], s.ds, s.du, s.fc, s.fi⟩
theorem owe0 (s : RS) : oweP 0 s = s := by
 obtain ⟨a, b, c, d, e, f⟩ := s
 by_cases h : d = 0
 ·subst h
  rfl
 ·unfold oweP
  simp only [if_neg h]
theorem add_g {P : Nat → Prop} (h : At w0 O0 g L w O s) (x : NV) (hx : NodeOk w P x) (hf : Fits x) : Calls Tryz.prog 15 #[.pointer (some ⟨g, 1, none⟩), .agg x.cells.toArray] w fun e w' => e = .returned (.tuple #[.int .i64 (if s.ns.length = 2048 then 0 else (s.ns.length : Int)), .int .i64 (if s.ns.length = 2048 then 2 else 0)]) ∧ ∃ O', At w0 O0 g L w' O' (if s.ns.length = 2048 then s else keptP x.t s) := by
 obtain ⟨A, c, vs, nv, dv, hr⟩ := h.rd
 have hl : vs.length = s.ns.length := by rw [← hr.ns, List.length_map]
 rw [← NV.val_eq]
 by_cases h1 : s.ns.length = 2048
 ·simp only [if_pos h1]
  refine (Add_no_ hr.bo x (by omega)).mono ?_
  rintro e w' ⟨rfl, hb⟩
  exact ⟨rfl, O, h.below hb⟩
 ·simp only [if_neg h1]
  have hn := hr.nn
  refine (Add_yes_ hr.bo x hx hf (by omega)).mono ?_
  rintro e w' ⟨rfl, y, nv', hy, hb, hc⟩
  rw [hl]
  refine ⟨rfl, grownO O w w', ?_, ?_, ?_⟩
  ·have hS : ∀ a, A = some a → ¬ (a.block = g ∨ nv.ownBlock = some a.block) := by
    intro a e
    rintro (e2 | e2)
    ·exact hr.tok_ne e e2
    ·obtain ⟨cs, hB⟩ := hr.ty a e
     exact own_neN hr.bo.rn hB (by decide) e2
   refine ⟨A, c, vs ++ [y], nv', dv, hb, ?_, ?_, hr.tk.chg hc hS, fun a e => .inl (hr.ob a e), fun a e => ?_, hr.ts, hr.pos, hr.le, hr.cap, hr.big, hr.txt, ?_, hr.dn⟩
   ·rw [List.map_append, hr.ns, ← hy]
    rfl
   ·intro v hv
    rcases List.mem_append.1 hv with hv | hv
    ·exact hr.fit v hv
    ·have e : v = y := by simpa using hv
     subst e
     have k := hb.each v (by simp)
     refine ⟨?_, ?_, ?_, ?_⟩
     ·rw [k.kn, hy, ← hx.kn]; exact hf.k
     ·rw [k.ln, hy, ← hx.ln]; exact hf.l
     ·rw [k.fn, hy, ← hx.fn]; exact hf.f
     ·rw [k.cn, hy, ← hx.cn]; exact hf.c
   ·obtain ⟨cs, hB⟩ := hr.ty a e
    exact ⟨cs, hB.chg hc (hS a e)⟩
   ·rw [List.length_append, List.length_singleton]
    omega
  ·have k1 : Chg w w' (fun k => O0 k ∨ w0.heap.size ≤ k) := hc.more (fun k hk hs => by
    rcases hs with e | e
    ·rw [e]; exact h.gr _ hr.bo.og
    ·exact h.gr _ (hr.bo.on _ e))
   have k2 : Chg w0 w (fun k => O0 k ∨ w0.heap.size ≤ k) := h.ch.more (fun k _ hk => .inl hk)
   refine (k2.trans k1).more (fun k hk ho => ?_)
   rcases ho with ho | ho
   ·exact ho
   ·omega
  ·intro b hb2
   rcases hb2 with hb2 | hb2
   ·exact h.gr b hb2
   ·exact .inr (Nat.le_trans h.ch.size hb2.1)
set_option maxRecDepth 100000 in
set_option maxHeartbeats 8000000 in
theorem kind_any {M deep : Nat} {K : RS → Int × RS} (hK : KOk M ((deep : Int) + 1) K L) (hS : ∀ s : RS, 0 < s.ts.length → Suf s (K s).2) (hd : deep ≤ 10000000) (h : RdX w O g L s) (he : EndS s) (hN : s.ts.length ≤ M + 1) : Calls Tryz.prog 54 #[.pointer (some ⟨g, 0, none⟩), .int .i64 (deep : Int)] w fun e w' => e = .returned (.int .i64 (kindG K deep s).1) ∧ StG w O g L (kindG K deep s).2 w' := by
 have HA := hid (At.start h)
 obtain ⟨P, hP⟩ : ∃ P, P = kindG K deep s := ⟨_, rfl⟩
 have HQ := hid hP
 rw [← hP]
 have HK := hid hK
 have HS0 := hid hS
 have HS := HS0
 obtain ⟨s0, hs0⟩ : ∃ u, u = (if 24 < deep then oweP 6 s else s) := ⟨_, rfl⟩
 have HT := hid (show s0.ts = s.ts from by rw [hs0]; split <;> rfl)
 have HEd := hid (show EndS s0 from by obtain ⟨l, t, e, h5⟩ := he; exact ⟨l, t, by rw [HT.out]; exact e, h5⟩)
 have HNl := hid (show s0.ts.length ≤ M + 1 from by rw [HT.out]; exact hN)
 have HS1 := hid hs0
 clear hP h hK he hN HS0 hS hs0
 obtain ⟨u1, hu1⟩ : ∃ u, u = nodeP K s0 := ⟨_, rfl⟩
 have HU1 := hid hu1
 clear hu1
 go_enter Tryz.func54, Tryz.ntmps54
 go_upto_if 8 with fail
 go_cut [] from 8 to 10 (fun wx => ∃ O3 : Nat → Prop, Hid (At w O g L wx O3 s0))
 case first =>
  by_cases hdp : 24 < deep
  ·have hkb : (24 : Int) < (deep : Int) := by omega
   have HDp := hid hdp
   clear hdp
   have HC := hid (show Calls Tryz.prog 55 #[.pointer (some ⟨g, 0, none⟩), .int .i64 6] _ (fun e w' => e = .returned (.tuple #[]) ∧ StG _ _ g L (oweP 6 s) w') from owe_g HA.out.rd 6)
   go_wp2_with (go_at_call 55; (with_reducible refine HC.out.mono ?_); rintro e wk ⟨rfl, hk⟩; obtain ⟨Ok, ha, hc, hn⟩ := At.call2 HA.out hk; replace HA := hid ha; clear hk ha hc hn; clear HC)
   go_meet
   refine ⟨Ok, hid ?_⟩
   rw [HS1.out, if_pos HDp.out]
   exact HA.out
  ·have hkb : (deep : Int) ≤ 24 := by omega
   have HDp := hid hdp
   clear hdp
   go_wp2_with fail
   go_meet
   refine ⟨O, hid ?_⟩
   rw [HS1.out, if_neg HDp.out]
   exact HA.out
 case rest =>
  obtain ⟨O3, HA3⟩ := hcut
  clear HA
  go_upto_region 3 with fail
  refine kd3_reg (g := g) (dp := (deep : Int)) (r1 := if u1.2.ns.length = 2048 then 0 else (u1.2.ns.length : Int)) (r2 := if u1.2.ns.length = 2048 then 2 else 0)
   (R1 := fun x wf => ∃ Of b1, x.t = u1.1 ∧ NodeOk wf (b1 ≤ ·) x ∧ Fits x ∧ At w O g L wf Of u1.2)
   (R2 := fun wf => ∃ Of, At w O g L wf Of (if u1.2.ns.length = 2048 then u1.2 else keptP u1.1 u1.2))
   rfl rfl (by simp) ?_ ?_ ?_
  ·have h := node_any HK.out HS.out hd HA3.out.drew.rd HEd.out HNl.out
   rw [← HU1.out] at h
   refine h.mono ?_
   rintro e wf ⟨⟨x, rfl, hxt, hxn, hxf⟩, hk⟩
   obtain ⟨Of, ha, hc, hn⟩ := At.call2 HA3.out.drew hk
   exact ⟨_, rfl, x, NV.val_eq x, Of, _, hxt, hxn, hxf, ha⟩
  ·rintro x wf ⟨Of, b1, hxt, hxn, hxf, ha⟩
   refine (add_g ha x hxn hxf).mono ?_
   rintro e w2 ⟨rfl, Og, hg⟩
   exact ⟨_, rfl, rfl, Og, by rw [← hxt]; exact hg⟩
  ·rintro f wx e5 e6 ⟨Of, ha⟩
   simp only [kd3Us, List.foldl_cons, List.foldl_nil, List.setIfInBounds_toArray, List.set_cons_zero, List.set_cons_succ]
   rw [e5, e6]
   clear e5 e6 HA3
   have HA := hid ha
   clear ha
   have HRE := hid (show P = ((if u1.2.ns.length = 2048 then 0 else (u1.2.ns.length : Int)), (if u1.2.ns.length = 2048 then oweP 2 u1.2 else oweP 0 (keptP u1.1 u1.2))) from by
    rw [HQ.out]
    unfold kindG
    simp only [← HS1.out, ← HU1.out]
    split
    ·rfl
    ·rw [owe0]
     rfl)
   by_cases h8 : u1.2.ns.length = 2048
   ·simp only [if_pos h8] at *
    have HC := hid (show Calls Tryz.prog 55 #[.pointer (some ⟨g, 0, none⟩), .int .i64 2] _ (fun e w' => e = .returned (.tuple #[]) ∧ StG _ _ g L (oweP 2 (u1.2)) w') from owe_g HA.out.rd 2)
    go_wp2_with (go_at_call 55; (with_reducible refine HC.out.mono ?_); rintro e wk ⟨rfl, hk⟩; obtain ⟨Ok, ha, hc, hn⟩ := At.call2 HA.out hk; replace HA := hid ha; clear hk ha hc hn; clear HC)
    go_ret
    rw [HRE.out]
    exact ⟨rfl, HA.out.stg⟩
   ·simp only [if_neg h8] at *
    have HC := hid (show Calls Tryz.prog 55 #[.pointer (some ⟨g, 0, none⟩), .int .i64 0] _ (fun e w' => e = .returned (.tuple #[]) ∧ StG _ _ g L (oweP 0 (keptP u1.1 u1.2)) w') from owe_g HA.out.rd 0)
    obtain ⟨ln, hln⟩ : ∃ x : Int, x = (u1.2.ns.length : Int) := ⟨_, rfl⟩
    rw [← hln] at HRE
    simp only [← hln]
    clear hln h8
    go_wp2_with (go_at_call 55; (with_reducible refine HC.out.mono ?_); rintro e wk ⟨rfl, hk⟩; obtain ⟨Ok, ha, hc, hn⟩ := At.call2 HA.out hk; replace HA := hid ha; clear hk ha hc hn; clear HC)
    go_ret
    rw [HRE.out]
    exact ⟨rfl, HA.out.stg⟩
theorem kind_ok : ∀ (N n deep : Nat), N ≤ n → deep + N ≤ 10000000 → KOk N (deep : Int) (kindP n deep) L
 | 0, n, deep, _, _ => fun w O g s h he hN => absurd h.pos (by omega)
 | N + 1, n, deep, h1, h2 => by
  obtain ⟨n', rfl⟩ : ∃ k, n = k + 1 := ⟨n - 1, by omega⟩
  have hi : KOk N ((deep + 1 : Nat) : Int) (kindP n' (deep + 1)) L := kind_ok N n' (deep + 1) (by omega) (by omega)
  rw [Int.natCast_add] at hi
  intro w O g s h he hN
  exact kind_any hi (fun s h => suf_kind n' (deep + 1) s h) (by omega) h he hN
end Go.Proofs.YtfcccfplmdjndaaGreat
