/- spec: Clone's first statement, in open order. -/
import Derived.Test.YtfcccfplmdjndaaGreatSpW
import Derived.Test.YtfcccfplmdjndaaGreatSpT
namespace Go.Proofs.YtfcccfplmdjndaaGreat
set_option linter.unusedSimpArgs false
set_option linter.unusedVariables false
open Go.RowKit

def cl1Ops : Array Oper := #[{ dst := some 5, op := Op.fieldAddr 32 (Operand.tmp 1) 0, type := 0, pos := "spec.go:90", after := #[], guard := none }, { dst := some 6, op := Op.load 29 (Operand.tmp 5), type := 29, pos := "spec.go:90", after := #[{ on := 0, ground := Ground.data }], guard := none }, { dst := some 7, op := Op.call { callee := Callee.value (Operand.func 75), args := #[Operand.tmp 6], argTypes := #[29] }, type := 29, pos := "spec.go:90", after := #[{ on := 1, ground := Ground.data }], guard := none }, { dst := some 8, op := Op.fieldAddr 32 (Operand.tmp 1) 1, type := 0, pos := "spec.go:90", after := #[], guard := none }, { dst := some 9, op := Op.load 30 (Operand.tmp 8), type := 30, pos := "spec.go:90", after := #[{ on := 3, ground := Ground.data }], guard := none }, { dst := some 10, op := Op.call { callee := Callee.value (Operand.func 76), args := #[Operand.tmp 9], argTypes := #[30] }, type := 30, pos := "spec.go:90", after := #[{ on := 4, ground := Ground.data }, { on := 2, ground := Ground.chain }], guard := none }, { dst := some 11, op := Op.fieldAddr 32 (Operand.tmp 1) 0, type := 0, pos := "spec.go:90", after := #[{ on := 0, ground := Ground.phase }, { on := 1, ground := Ground.phase }, { on := 2, ground := Ground.phase }, { on := 3, ground := Ground.phase }, { on := 4, ground := Ground.phase }, { on := 5, ground := Ground.textOnly Departure.lateStoresUnsure }], guard := none }, { dst := none, op := Op.store 29 (Operand.tmp 11) (Operand.tmp 7), type := 0, pos := "spec.go:90", after := #[{ on := 6, ground := Ground.data }, { on := 2, ground := Ground.data }, { on := 5, ground := Ground.chain }, { on := 0, ground := Ground.phase }, { on := 1, ground := Ground.phase }, { on := 2, ground := Ground.phase }, { on := 3, ground := Ground.phase }, { on := 4, ground := Ground.phase }, { on := 5, ground := Ground.textOnly Departure.lateStoresUnsure }], guard := none }, { dst := some 12, op := Op.fieldAddr 32 (Operand.tmp 1) 1, type := 0, pos := "spec.go:90", after := #[{ on := 0, ground := Ground.phase }, { on := 1, ground := Ground.phase }, { on := 2, ground := Ground.phase }, { on := 3, ground := Ground.phase }, { on := 4, ground := Ground.phase }, { on := 5, ground := Ground.phase }, { on := 6, ground := Ground.phase }, { on := 7, ground := Ground.phase }], guard := none }, { dst := none, op := Op.store 30 (Operand.tmp 12) (Operand.tmp 10), type := 0, pos := "spec.go:90", after := #[{ on := 8, ground := Ground.data }, { on := 5, ground := Ground.data }, { on := 7, ground := Ground.chain }, { on := 0, ground := Ground.phase }, { on := 1, ground := Ground.phase }, { on := 2, ground := Ground.phase }, { on := 3, ground := Ground.phase }, { on := 4, ground := Ground.phase }, { on := 5, ground := Ground.phase }, { on := 6, ground := Ground.phase }, { on := 7, ground := Ground.phase }], guard := none }]
def cl1Dep : Nat → List Nat := fun i => match i with | 1 => [0] | 2 => [1] | 4 => [3] | 5 => [4, 2] | 7 => [6, 2, 5] | 9 => [8, 2, 5, 7] | _ => []
structure cl1C (g : Nat) (NA : Option Addr) (Nn : Nat) (Nc : Nat) (DA : Option Addr) (Dn : Nat) (Dc : Nat) (W1 : World) (R2 : Value → World → Prop) (R5 : Value → Value → World → Prop) (R7 : Value → World → Prop) (R9 : World → Prop) (L : Nat → Bool) (f : Nat → Value) (w : World) : Prop where
 v0 : L 0 = true → f 5 = .pointer (some ⟨g, 0, none⟩)
 v1 : L 1 = true → f 6 = .slice NA Nn Nc
 v3 : L 3 = true → f 8 = .pointer (some ⟨g, 1, none⟩)
 v4 : L 4 = true → f 9 = .slice DA Dn Dc
 v6 : L 6 = true → f 11 = .pointer (some ⟨g, 0, none⟩)
 v8 : L 8 = true → f 12 = .pointer (some ⟨g, 1, none⟩)
 wz : L 2 = false → w = W1
 w2 : L 2 = true → L 5 = false → R2 (f 7) w
 w5 : L 5 = true → L 7 = false → R5 (f 7) (f 10) w
 w7 : L 7 = true → L 9 = false → R7 (f 10) w
 w9 : L 9 = true → R9 w
 d5_2 : L 5 = true → L 2 = true
 d7_5 : L 7 = true → L 5 = true
 d9_7 : L 9 = true → L 7 = true
 d2_1 : L 2 = true → L 1 = true
 d5_4 : L 5 = true → L 4 = true
theorem cl1_0 {g : Nat} {NA : Option Addr} {Nn : Nat} {Nc : Nat} {DA : Option Addr} {Dn : Nat} {Dc : Nat} {W1 : World} {R2 : Value → World → Prop} {R5 : Value → Value → World → Prop} {R7 : Value → World → Prop} {R9 : World → Prop} {L : Nat → Bool} {f : Nat → Value} {w : World} (h : cl1C g NA Nn Nc DA Dn Dc W1 R2 R5 R7 R9 L f w) : cl1C g NA Nn Nc DA Dn Dc W1 R2 R5 R7 R9 (fun k => if k = 0 then true else L k) (fun t => if (some 5 : Option Nat) = some t then (.pointer (some ⟨g, 0, none⟩)) else f t) w where
 v0 := fun _ => by simp
 v1 := by simpa using h.v1
 v3 := by simpa using h.v3
 v4 := by simpa using h.v4
 v6 := by simpa using h.v6
 v8 := by simpa using h.v8
 wz := by simpa using h.wz
 w2 := by simpa using h.w2
 w5 := by simpa using h.w5
 w7 := by simpa using h.w7
 w9 := by simpa using h.w9
 d5_2 := by simpa using h.d5_2
 d7_5 := by simpa using h.d7_5
 d9_7 := by simpa using h.d9_7
 d2_1 := by simpa using h.d2_1
 d5_4 := by simpa using h.d5_4
theorem cl1_1 {g : Nat} {NA : Option Addr} {Nn : Nat} {Nc : Nat} {DA : Option Addr} {Dn : Nat} {Dc : Nat} {W1 : World} {R2 : Value → World → Prop} {R5 : Value → Value → World → Prop} {R7 : Value → World → Prop} {R9 : World → Prop} {L : Nat → Bool} {f : Nat → Value} {w : World} (h : cl1C g NA Nn Nc DA Dn Dc W1 R2 R5 R7 R9 L f w) : cl1C g NA Nn Nc DA Dn Dc W1 R2 R5 R7 R9 (fun k => if k = 1 then true else L k) (fun t => if (some 6 : Option Nat) = some t then (.slice NA Nn Nc) else f t) w where
 v0 := by simpa using h.v0
 v1 := fun _ => by simp
 v3 := by simpa using h.v3
 v4 := by simpa using h.v4
 v6 := by simpa using h.v6
 v8 := by simpa using h.v8
 wz := by simpa using h.wz
 w2 := by simpa using h.w2
 w5 := by simpa using h.w5
 w7 := by simpa using h.w7
 w9 := by simpa using h.w9
 d5_2 := by simpa using h.d5_2
 d7_5 := by simpa using h.d7_5
 d9_7 := by simpa using h.d9_7
 d2_1 := fun _ => by simp
 d5_4 := by simpa using h.d5_4
theorem cl1_2 {g : Nat} {NA : Option Addr} {Nn : Nat} {Nc : Nat} {DA : Option Addr} {Dn : Nat} {Dc : Nat} {W1 : World} {R2 : Value → World → Prop} {R5 : Value → Value → World → Prop} {R7 : Value → World → Prop} {R9 : World → Prop} {L : Nat → Bool} {f : Nat → Value} {w : World} {v : Value} {w2 : World} (h : cl1C g NA Nn Nc DA Dn Dc W1 R2 R5 R7 R9 L f w) (h2 : L 2 = false) (h1 : L 1 = true) (hp : R2 v w2) : cl1C g NA Nn Nc DA Dn Dc W1 R2 R5 R7 R9 (fun k => if k = 2 then true else L k) (fun t => if (some 7 : Option Nat) = some t then v else f t) w2 := by
 have h5 : L 5 = false := by cases hh : L 5 with | false => rfl | true => exact absurd (h.d5_2 hh) (by rw [h2]; decide)
 have h7 : L 7 = false := by cases hh : L 7 with | false => rfl | true => exact absurd (h.d7_5 hh) (by rw [h5]; decide)
 have h9 : L 9 = false := by cases hh : L 9 with | false => rfl | true => exact absurd (h.d9_7 hh) (by rw [h7]; decide)
 constructor
 ·simpa using h.v0
 ·simpa using h.v1
 ·simpa using h.v3
 ·simpa using h.v4
 ·simpa using h.v6
 ·simpa using h.v8
 ·intro hh; simp at hh
 ·intro _ _; simpa using hp
 ·intro hh _; simp [h5] at hh
 ·intro hh _; simp [h7] at hh
 ·intro hh; simp [h9] at hh
 ·intro _; simp
 ·simpa using h.d7_5
 ·simpa using h.d9_7
 ·intro _; simpa using h1
 ·simpa using h.d5_4
theorem cl1_3 {g : Nat} {NA : Option Addr} {Nn : Nat} {Nc : Nat} {DA : Option Addr} {Dn : Nat} {Dc : Nat} {W1 : World} {R2 : Value → World → Prop} {R5 : Value → Value → World → Prop} {R7 : Value → World → Prop} {R9 : World → Prop} {L : Nat → Bool} {f : Nat → Value} {w : World} (h : cl1C g NA Nn Nc DA Dn Dc W1 R2 R5 R7 R9 L f w) : cl1C g NA Nn Nc DA Dn Dc W1 R2 R5 R7 R9 (fun k => if k = 3 then true else L k) (fun t => if (some 8 : Option Nat) = some t then (.pointer (some ⟨g, 1, none⟩)) else f t) w where
 v0 := by simpa using h.v0
 v1 := by simpa using h.v1
 v3 := fun _ => by simp
 v4 := by simpa using h.v4
 v6 := by simpa using h.v6
 v8 := by simpa using h.v8
 wz := by simpa using h.wz
 w2 := by simpa using h.w2
 w5 := by simpa using h.w5
 w7 := by simpa using h.w7
 w9 := by simpa using h.w9
 d5_2 := by simpa using h.d5_2
 d7_5 := by simpa using h.d7_5
 d9_7 := by simpa using h.d9_7
 d2_1 := by simpa using h.d2_1
 d5_4 := by simpa using h.d5_4
theorem cl1_4 {g : Nat} {NA : Option Addr} {Nn : Nat} {Nc : Nat} {DA : Option Addr} {Dn : Nat} {Dc : Nat} {W1 : World} {R2 : Value → World → Prop} {R5 : Value → Value → World → Prop} {R7 : Value → World → Prop} {R9 : World → Prop} {L : Nat → Bool} {f : Nat → Value} {w : World} (h : cl1C g NA Nn Nc DA Dn Dc W1 R2 R5 R7 R9 L f w) : cl1C g NA Nn Nc DA Dn Dc W1 R2 R5 R7 R9 (fun k => if k = 4 then true else L k) (fun t => if (some 9 : Option Nat) = some t then (.slice DA Dn Dc) else f t) w where
 v0 := by simpa using h.v0
 v1 := by simpa using h.v1
 v3 := by simpa using h.v3
 v4 := fun _ => by simp
 v6 := by simpa using h.v6
 v8 := by simpa using h.v8
 wz := by simpa using h.wz
 w2 := by simpa using h.w2
 w5 := by simpa using h.w5
 w7 := by simpa using h.w7
 w9 := by simpa using h.w9
 d5_2 := by simpa using h.d5_2
 d7_5 := by simpa using h.d7_5
 d9_7 := by simpa using h.d9_7
 d2_1 := by simpa using h.d2_1
 d5_4 := fun _ => by simp
theorem cl1_5 {g : Nat} {NA : Option Addr} {Nn : Nat} {Nc : Nat} {DA : Option Addr} {Dn : Nat} {Dc : Nat} {W1 : World} {R2 : Value → World → Prop} {R5 : Value → Value → World → Prop} {R7 : Value → World → Prop} {R9 : World → Prop} {L : Nat → Bool} {f : Nat → Value} {w : World} {v : Value} {w2 : World} (h : cl1C g NA Nn Nc DA Dn Dc W1 R2 R5 R7 R9 L f w) (h2 : L 2 = true) (h5 : L 5 = false) (h4 : L 4 = true) (hp : R5 (f 7) v w2) : cl1C g NA Nn Nc DA Dn Dc W1 R2 R5 R7 R9 (fun k => if k = 5 then true else L k) (fun t => if (some 10 : Option Nat) = some t then v else f t) w2 := by
 have h7 : L 7 = false := by cases hh : L 7 with | false => rfl | true => exact absurd (h.d7_5 hh) (by rw [h5]; decide)
 have h9 : L 9 = false := by cases hh : L 9 with | false => rfl | true => exact absurd (h.d9_7 hh) (by rw [h7]; decide)
 constructor
 ·simpa using h.v0
 ·simpa using h.v1
 ·simpa using h.v3
 ·simpa using h.v4
 ·simpa using h.v6
 ·simpa using h.v8
 ·intro hh; simp [h2] at hh
 ·intro _ hh; simp at hh
 ·intro _ _; simpa using hp
 ·intro hh _; simp [h7] at hh
 ·intro hh; simp [h9] at hh
 ·intro _; simpa using h2
 ·intro _; simp
 ·simpa using h.d9_7
 ·simpa using h.d2_1
 ·intro _; simpa using h4
theorem cl1_6 {g : Nat} {NA : Option Addr} {Nn : Nat} {Nc : Nat} {DA : Option Addr} {Dn : Nat} {Dc : Nat} {W1 : World} {R2 : Value → World → Prop} {R5 : Value → Value → World → Prop} {R7 : Value → World → Prop} {R9 : World → Prop} {L : Nat → Bool} {f : Nat → Value} {w : World} (h : cl1C g NA Nn Nc DA Dn Dc W1 R2 R5 R7 R9 L f w) : cl1C g NA Nn Nc DA Dn Dc W1 R2 R5 R7 R9 (fun k => if k = 6 then true else L k) (fun t => if (some 11 : Option Nat) = some t then (.pointer (some ⟨g, 0, none⟩)) else f t) w where
 v0 := by simpa using h.v0
 v1 := by simpa using h.v1
 v3 := by simpa using h.v3
 v4 := by simpa using h.v4
 v6 := fun _ => by simp
 v8 := by simpa using h.v8
 wz := by simpa using h.wz
 w2 := by simpa using h.w2
 w5 := by simpa using h.w5
 w7 := by simpa using h.w7
 w9 := by simpa using h.w9
 d5_2 := by simpa using h.d5_2
 d7_5 := by simpa using h.d7_5
 d9_7 := by simpa using h.d9_7
 d2_1 := by simpa using h.d2_1
 d5_4 := by simpa using h.d5_4
theorem cl1_7 {g : Nat} {NA : Option Addr} {Nn : Nat} {Nc : Nat} {DA : Option Addr} {Dn : Nat} {Dc : Nat} {W1 : World} {R2 : Value → World → Prop} {R5 : Value → Value → World → Prop} {R7 : Value → World → Prop} {R9 : World → Prop} {L : Nat → Bool} {f : Nat → Value} {w : World} {v : Value} {w2 : World} (h : cl1C g NA Nn Nc DA Dn Dc W1 R2 R5 R7 R9 L f w) (h2 : L 2 = true) (h5 : L 5 = true) (h7 : L 7 = false) (hp : R7 (f 10) w2) : cl1C g NA Nn Nc DA Dn Dc W1 R2 R5 R7 R9 (fun k => if k = 7 then true else L k) (fun t => if (none : Option Nat) = some t then v else f t) w2 := by
 have h9 : L 9 = false := by cases hh : L 9 with | false => rfl | true => exact absurd (h.d9_7 hh) (by rw [h7]; decide)
 constructor
 ·simpa using h.v0
 ·simpa using h.v1
 ·simpa using h.v3
 ·simpa using h.v4
 ·simpa using h.v6
 ·simpa using h.v8
 ·intro hh; simp [h2] at hh
 ·intro _ hh; simp [h5] at hh
 ·intro _ hh; simp at hh
 ·intro _ _; simpa using hp
 ·intro hh; simp [h9] at hh
 ·simpa using h.d5_2
 ·intro _; simpa using h5
 ·intro _; simp
 ·simpa using h.d2_1
 ·simpa using h.d5_4
theorem cl1_8 {g : Nat} {NA : Option Addr} {Nn : Nat} {Nc : Nat} {DA : Option Addr} {Dn : Nat} {Dc : Nat} {W1 : World} {R2 : Value → World → Prop} {R5 : Value → Value → World → Prop} {R7 : Value → World → Prop} {R9 : World → Prop} {L : Nat → Bool} {f : Nat → Value} {w : World} (h : cl1C g NA Nn Nc DA Dn Dc W1 R2 R5 R7 R9 L f w) : cl1C g NA Nn Nc DA Dn Dc W1 R2 R5 R7 R9 (fun k => if k = 8 then true else L k) (fun t => if (some 12 : Option Nat) = some t then (.pointer (some ⟨g, 1, none⟩)) else f t) w where
 v0 := by simpa using h.v0
 v1 := by simpa using h.v1
 v3 := by simpa using h.v3
 v4 := by simpa using h.v4
 v6 := by simpa using h.v6
 v8 := fun _ => by simp
 wz := by simpa using h.wz
 w2 := by simpa using h.w2
 w5 := by simpa using h.w5
 w7 := by simpa using h.w7
 w9 := by simpa using h.w9
 d5_2 := by simpa using h.d5_2
 d7_5 := by simpa using h.d7_5
 d9_7 := by simpa using h.d9_7
 d2_1 := by simpa using h.d2_1
 d5_4 := by simpa using h.d5_4
theorem cl1_9 {g : Nat} {NA : Option Addr} {Nn : Nat} {Nc : Nat} {DA : Option Addr} {Dn : Nat} {Dc : Nat} {W1 : World} {R2 : Value → World → Prop} {R5 : Value → Value → World → Prop} {R7 : Value → World → Prop} {R9 : World → Prop} {L : Nat → Bool} {f : Nat → Value} {w : World} {v : Value} {w2 : World} (h : cl1C g NA Nn Nc DA Dn Dc W1 R2 R5 R7 R9 L f w) (h2 : L 2 = true) (h5 : L 5 = true) (h7 : L 7 = true) (h9 : L 9 = false) (hp : R9 w2) : cl1C g NA Nn Nc DA Dn Dc W1 R2 R5 R7 R9 (fun k => if k = 9 then true else L k) (fun t => if (none : Option Nat) = some t then v else f t) w2 := by
 constructor
 ·simpa using h.v0
 ·simpa using h.v1
 ·simpa using h.v3
 ·simpa using h.v4
 ·simpa using h.v6
 ·simpa using h.v8
 ·intro hh; simp [h2] at hh
 ·intro _ hh; simp [h5] at hh
 ·intro _ hh; simp [h7] at hh
 ·intro _ hh; simp at hh
 ·intro _; simpa using hp
 ·simpa using h.d5_2
 ·simpa using h.d7_5
 ·intro _; simpa using h7
 ·simpa using h.d2_1
 ·simpa using h.d5_4
def cl1Us (f : Nat → Value) : List (Nat × Value) := [(5, f 5), (6, f 6), (7, f 7), (8, f 8), (9, f 9), (10, f 10), (11, f 11), (12, f 12)]
theorem field_1S (g : Nat) (w : World) : (Instr.fieldAt 32 (.pointer (some ⟨g, 0, none⟩)) 1).run Tryz.prog w = .ok (.pointer (some ⟨g, 1, none⟩)) w := by kernel_rfl
theorem load_slD {w : World} {p : Addr} {A : Option Addr} {n c : Nat} (h : w.cell? p = some (.slice A n c)) : (Instr.loadAt 30 (.pointer (some p))).run Tryz.prog w = .ok (.slice A n c) w := by
 simp [Instr.loadAt, h]
 go_simp
set_option maxRecDepth 10000 in
theorem wp_storeD {o : Oper} {a : Act} {w : World} {K : Act → World → Prop} {Q : Exit → Act → World → Prop} (x y : Operand) (ho : o.op = .store 30 x y) (p : Addr) (hx : a.eval x = .pointer (some p)) (A : Option Addr) (n c : Nat) (hy : a.eval y = .slice A n c) (u : Value) (hc : w.cell? p = some u) (hf : w.frozen? p = false) (h : K (a.put o.dst undef) (w.setCell p (.slice A n c))) : o.wp Tryz.prog a w K Q := by
 unfold Oper.wp
 have e : (execOp a.eval o).run Tryz.prog w = .ok .skip (w.setCell p (.slice A n c)) := by
  unfold execOp
  simp only [ho, hx, hy]
  go_simp
 rw [e, Oper.upon_skip]
 exact h
theorem enters_ownN : ∀ args w, (callFunc 75 args).run Tryz.prog w = .ok (.enter 75 args) w := enters_of Tryz.func75 (by kernel_rfl) rfl
theorem enters_ownD : ∀ args w, (callFunc 76 args).run Tryz.prog w = .ok (.enter 76 args) w := enters_of Tryz.func76 (by kernel_rfl) rfl
set_option maxRecDepth 10000 in
set_option maxHeartbeats 1000000 in
theorem cl1_reg {g Nn Nc Dn Dc : Nat} {NA DA : Option Addr} {W : World} {R2 : Value → World → Prop} {R5 : Value → Value → World → Prop} {R7 : Value → World → Prop} {R9 : World → Prop} {A0 : Act} {Q : Exit → Act → World → Prop} {id : Nat} (a1 : Act.at A0 1 = .pointer (some ⟨g, 0, none⟩)) (hsz : 13 ≤ A0.tmps.size) (hN : W.cell? ⟨g, 0, none⟩ = some (.slice NA Nn Nc)) (hD : W.cell? ⟨g, 1, none⟩ = some (.slice DA Dn Dc))
  (HC2 : Calls Tryz.prog 75 #[.slice NA Nn Nc] W.drew fun e w' => ∃ v, e = .returned v ∧ R2 v w')
  (hR2 : ∀ u w, R2 u w → w.cell? ⟨g, 1, none⟩ = some (.slice DA Dn Dc))
  (HC5 : ∀ u w, R2 u w → Calls Tryz.prog 76 #[.slice DA Dn Dc] w fun e w' => ∃ v, e = .returned v ∧ R5 u v w')
  (hR5 : ∀ u v w, R5 u v w → (∃ A2 n2 c2, u = .slice A2 n2 c2) ∧ (∃ z, w.cell? ⟨g, 0, none⟩ = some z) ∧ w.frozen? ⟨g, 0, none⟩ = false ∧ R7 v (w.setCell ⟨g, 0, none⟩ u))
  (hR7 : ∀ v w, R7 v w → (∃ A2 n2 c2, v = .slice A2 n2 c2) ∧ (∃ z, w.cell? ⟨g, 1, none⟩ = some z) ∧ w.frozen? ⟨g, 1, none⟩ = false ∧ R9 (w.setCell ⟨g, 1, none⟩ v))
  (hk : ∀ (f : Nat → Value) w', R9 w' → Q .normal ⟨(cl1Us f).foldl (fun A p => A.setIfInBounds p.1 p.2) A0.tmps, A0.defers⟩ w') :
  (Code.region id cl1Ops true).wp Tryz.prog Q A0 W := by
 refine wp_region_fun (by kernel_rfl) (fun L f w => cl1C g NA Nn Nc DA Dn Dc W.drew R2 R5 R7 R9 L f w) [5, 6, 7, 8, 9, 10, 11, 12] (wf_ops2 (by kernel_rfl)) (fun i o ho u hu => ?_) ?_ ?_ ?_
 ·have := ops_dst [5, 6, 7, 8, 9, 10, 11, 12] 13 (by kernel_rfl) i o ho u hu
  exact ⟨this.1, Nat.lt_of_lt_of_le this.2 hsz⟩
 ·have hs : cl1Ops.size = 10 := rfl
  rw [hs]
  constructor <;> first | exact (fun _ => rfl) | (intro h; simp at h) | (intro h h2; simp at h)
 ·rintro L i o ho hLi haf b w hf hc K hK
  have hdep := ops_deps cl1Dep (by kernel_rfl) ho haf
  clear haf
  have hs : cl1Ops.size = 10 := rfl
  have hlt : i < 10 := hs ▸ (Array.getElem?_eq_some_iff.1 ho).1
  have hcases : i = 0 ∨ i = 1 ∨ i = 2 ∨ i = 3 ∨ i = 4 ∨ i = 5 ∨ i = 6 ∨ i = 7 ∨ i = 8 ∨ i = 9 := by omega
  rcases hcases with rfl | rfl | rfl | rfl | rfl | rfl | rfl | rfl | rfl | rfl
  ·obtain ⟨h1, h2⟩ := op_at2 ho (show (cl1Ops[0]?).map (fun o => (o.dst, o.op)) = some ((some 5), (.fieldAddr 32 (.tmp 1) 0)) by kernel_rfl)
   rw [h1] at hK
   refine wp_fieldG _ _ _ h2 _ _ ((hf 1 (by decide)).trans a1) (field_0S g w) ?_
   rw [h1]
   exact hK _ _ (cl1_0 hc)
  ·obtain ⟨h1, h2⟩ := op_at2 ho (show (cl1Ops[1]?).map (fun o => (o.dst, o.op)) = some ((some 6), (.load 29 (.tmp 5))) by kernel_rfl)
   rw [h1] at hK
   have l0 : L 0 = true := hdep 0 (by simp [cl1Dep])
   have hw : w = W.drew := by
    cases h2' : L 2 with
    | true => exact absurd (hc.d2_1 h2') (by rw [hLi]; decide)
    | false => exact hc.wz h2'
   subst hw
   refine wp_loadG _ _ h2 _ _ (hc.v0 l0) (load_slN hN) ?_
   rw [h1]
   exact hK _ _ (cl1_1 hc)
  ·obtain ⟨h1, h2⟩ := op_at2 ho (show (cl1Ops[2]?).map (fun o => (o.dst, o.op)) = some ((some 7), (.call { callee := .value (.func 75), args := #[.tmp 6], argTypes := #[29] })) by kernel_rfl)
   rw [h1] at hK
   have l1 : L 1 = true := hdep 1 (by simp [cl1Dep])
   obtain rfl := hc.wz hLi
   refine wp_callG 75 _ _ h2 enters_ownN #[.slice NA Nn Nc] (by simp [show b.eval (.tmp 6) = _ from hc.v1 l1]) _ HC2 ?_
   intro v w2 hp
   rw [h1]
   exact hK _ _ (cl1_2 hc hLi l1 hp)
  ·obtain ⟨h1, h2⟩ := op_at2 ho (show (cl1Ops[3]?).map (fun o => (o.dst, o.op)) = some ((some 8), (.fieldAddr 32 (.tmp 1) 1)) by kernel_rfl)
   rw [h1] at hK
   refine wp_fieldG _ _ _ h2 _ _ ((hf 1 (by decide)).trans a1) (field_1S g w) ?_
   rw [h1]
   exact hK _ _ (cl1_3 hc)
  ·obtain ⟨h1, h2⟩ := op_at2 ho (show (cl1Ops[4]?).map (fun o => (o.dst, o.op)) = some ((some 9), (.load 30 (.tmp 8))) by kernel_rfl)
   rw [h1] at hK
   have l3 : L 3 = true := hdep 3 (by simp [cl1Dep])
   have hcell : w.cell? ⟨g, 1, none⟩ = some (.slice DA Dn Dc) := by
    cases h2' : L 2 with
    | false => rw [hc.wz h2']; exact hD
    | true =>
     cases h5 : L 5 with
     | true => exact absurd (hc.d5_4 h5) (by rw [hLi]; decide)
     | false => exact hR2 _ _ (hc.w2 h2' h5)
   refine wp_loadG _ _ h2 _ _ (hc.v3 l3) (load_slD hcell) ?_
   rw [h1]
   exact hK _ _ (cl1_4 hc)
  ·obtain ⟨h1, h2⟩ := op_at2 ho (show (cl1Ops[5]?).map (fun o => (o.dst, o.op)) = some ((some 10), (.call { callee := .value (.func 76), args := #[.tmp 9], argTypes := #[30] })) by kernel_rfl)
   rw [h1] at hK
   have l4 : L 4 = true := hdep 4 (by simp [cl1Dep])
   have l2 : L 2 = true := hdep 2 (by simp [cl1Dep])
   have h22 := hc.w2 l2 hLi
   refine wp_callG 76 _ _ h2 enters_ownD #[.slice DA Dn Dc] (by simp [show b.eval (.tmp 9) = _ from hc.v4 l4]) _ (HC5 _ _ h22) ?_
   intro v w2 hp
   rw [h1]
   exact hK _ _ (cl1_5 hc l2 hLi l4 hp)
  ·obtain ⟨h1, h2⟩ := op_at2 ho (show (cl1Ops[6]?).map (fun o => (o.dst, o.op)) = some ((some 11), (.fieldAddr 32 (.tmp 1) 0)) by kernel_rfl)
   rw [h1] at hK
   refine wp_fieldG _ _ _ h2 _ _ ((hf 1 (by decide)).trans a1) (field_0S g w) ?_
   rw [h1]
   exact hK _ _ (cl1_6 hc)
  ·obtain ⟨h1, h2⟩ := op_at2 ho (show (cl1Ops[7]?).map (fun o => (o.dst, o.op)) = some (none, (.store 29 (.tmp 11) (.tmp 7))) by kernel_rfl)
   rw [h1] at hK
   have l6 : L 6 = true := hdep 6 (by simp [cl1Dep])
   have l2 : L 2 = true := hdep 2 (by simp [cl1Dep])
   have l5 : L 5 = true := hdep 5 (by simp [cl1Dep])
   have h55 := hc.w5 l5 hLi
   obtain ⟨A2, n2, c2, hv⟩ := (hR5 _ _ _ h55).1
   obtain ⟨u, hu⟩ := (hR5 _ _ _ h55).2.1
   have h77 := (hR5 _ _ _ h55).2.2.2
   rw [hv] at h77
   refine wp_storeN _ _ h2 ⟨g, 0, none⟩ (hc.v6 l6) A2 n2 c2 hv u hu (hR5 _ _ _ h55).2.2.1 ?_
   rw [h1]
   exact hK _ _ (cl1_7 hc l2 l5 hLi h77)
  ·obtain ⟨h1, h2⟩ := op_at2 ho (show (cl1Ops[8]?).map (fun o => (o.dst, o.op)) = some ((some 12), (.fieldAddr 32 (.tmp 1) 1)) by kernel_rfl)
   rw [h1] at hK
   refine wp_fieldG _ _ _ h2 _ _ ((hf 1 (by decide)).trans a1) (field_1S g w) ?_
   rw [h1]
   exact hK _ _ (cl1_8 hc)
  ·obtain ⟨h1, h2⟩ := op_at2 ho (show (cl1Ops[9]?).map (fun o => (o.dst, o.op)) = some (none, (.store 30 (.tmp 12) (.tmp 10))) by kernel_rfl)
   rw [h1] at hK
   have l8 : L 8 = true := hdep 8 (by simp [cl1Dep])
   have l2 : L 2 = true := hdep 2 (by simp [cl1Dep])
   have l5 : L 5 = true := hdep 5 (by simp [cl1Dep])
   have l7 : L 7 = true := hdep 7 (by simp [cl1Dep])
   have h77 := hc.w7 l7 hLi
   obtain ⟨A2, n2, c2, hv⟩ := (hR7 _ _ h77).1
   obtain ⟨u, hu⟩ := (hR7 _ _ h77).2.1
   have h99 := (hR7 _ _ h77).2.2.2
   rw [hv] at h99
   refine wp_storeD _ _ h2 ⟨g, 1, none⟩ (hc.v8 l8) A2 n2 c2 hv u hu (hR7 _ _ h77).2.2.1 ?_
   rw [h1]
   exact hK _ _ (cl1_9 hc l2 l5 l7 hLi h99)
 ·rintro L b w hL hd hs hf hc
  have hsz2 : cl1Ops.size = 10 := rfl
  rw [hsz2] at hL
  have e := act_eq (a := A0) (b := b) (cl1Us (Act.at b)) hd hs hf (by
   intro p hp
   simp only [cl1Us, List.mem_cons, List.not_mem_nil, or_false] at hp
   rcases hp with rfl | rfl | rfl | rfl | rfl | rfl | rfl | rfl <;> rfl) (by rw [show (cl1Us (Act.at b)).map (·.1) = [5, 6, 7, 8, 9, 10, 11, 12] from rfl]; decide)
  rw [e]
  exact hk (Act.at b) w (hc.w9 (hL 9 (by omega)))
end Go.Proofs.YtfcccfplmdjndaaGreat

/- spec: Clone's loop's statement, in open order. -/
namespace Go.Proofs.YtfcccfplmdjndaaGreat
set_option linter.unusedSimpArgs false
set_option linter.unusedVariables false
open Go.RowKit

def cl5Ops : Array Oper := #[{ dst := some 21, op := Op.fieldAddr 32 (Operand.tmp 1) 0, type := 0, pos := "spec.go:92", after := #[], guard := none }, { dst := some 22, op := Op.load 29 (Operand.tmp 21), type := 29, pos := "spec.go:92", after := #[{ on := 0, ground := Ground.data }], guard := none }, { dst := some 23, op := Op.move (Operand.tmp 3), type := 3, pos := "spec.go:92", after := #[], guard := none }, { dst := some 24, op := Op.load 54 (Operand.tmp 4), type := 54, pos := "spec.go:92", after := #[], guard := none }, { dst := some 25, op := Op.call { callee := Callee.value (Operand.func 35), args := #[Operand.tmp 24], argTypes := #[54] }, type := 54, pos := "spec.go:92", after := #[{ on := 3, ground := Ground.data }], guard := none }, { dst := some 26, op := Op.indexAddr 29 (Operand.tmp 22) (Operand.tmp 23), type := 0, pos := "spec.go:92", after := #[{ on := 1, ground := Ground.data }, { on := 2, ground := Ground.data }, { on := 0, ground := Ground.phase }, { on := 1, ground := Ground.phase }, { on := 2, ground := Ground.phase }, { on := 3, ground := Ground.phase }, { on := 4, ground := Ground.phase }], guard := none }, { dst := none, op := Op.store 54 (Operand.tmp 26) (Operand.tmp 25), type := 0, pos := "spec.go:92", after := #[{ on := 5, ground := Ground.data }, { on := 4, ground := Ground.data }, { on := 4, ground := Ground.chain }, { on := 0, ground := Ground.phase }, { on := 1, ground := Ground.phase }, { on := 2, ground := Ground.phase }, { on := 3, ground := Ground.phase }, { on := 4, ground := Ground.phase }], guard := none }]
def cl5Dep : Nat → List Nat := fun i => match i with | 1 => [0] | 4 => [3] | 5 => [1, 2, 4] | 6 => [1, 4, 5] | _ => []
structure cl5C (g : Nat) (gn : Nat) (n : Nat) (c : Nat) (j : Nat) (cs : Array Value) (W1 : World) (R4 : Value → World → Prop) (R6 : World → Prop) (L : Nat → Bool) (f : Nat → Value) (w : World) : Prop where
 v0 : L 0 = true → f 21 = .pointer (some ⟨g, 0, none⟩)
 v1 : L 1 = true → f 22 = .slice (some ⟨gn, 0, none⟩) n c
 v2 : L 2 = true → f 23 = .int .i64 (j : Int)
 v3 : L 3 = true → f 24 = .agg cs
 v5 : L 5 = true → f 26 = .pointer (some ⟨gn, j * 18, none⟩)
 wz : L 4 = false → w = W1
 w4 : L 4 = true → L 6 = false → R4 (f 25) w
 w6 : L 6 = true → R6 w
 d6_4 : L 6 = true → L 4 = true
 d4_3 : L 4 = true → L 3 = true
 d6_1 : L 6 = true → L 1 = true
theorem cl5_0 {g : Nat} {gn : Nat} {n : Nat} {c : Nat} {j : Nat} {cs : Array Value} {W1 : World} {R4 : Value → World → Prop} {R6 : World → Prop} {L : Nat → Bool} {f : Nat → Value} {w : World} (h : cl5C g gn n c j cs W1 R4 R6 L f w) : cl5C g gn n c j cs W1 R4 R6 (fun k => if k = 0 then true else L k) (fun t => if (some 21 : Option Nat) = some t then (.pointer (some ⟨g, 0, none⟩)) else f t) w where
 v0 := fun _ => by simp
 v1 := by simpa using h.v1
 v2 := by simpa using h.v2
 v3 := by simpa using h.v3
 v5 := by simpa using h.v5
 wz := by simpa using h.wz
 w4 := by simpa using h.w4
 w6 := by simpa using h.w6
 d6_4 := by simpa using h.d6_4
 d4_3 := by simpa using h.d4_3
 d6_1 := by simpa using h.d6_1
theorem cl5_1 {g : Nat} {gn : Nat} {n : Nat} {c : Nat} {j : Nat} {cs : Array Value} {W1 : World} {R4 : Value → World → Prop} {R6 : World → Prop} {L : Nat → Bool} {f : Nat → Value} {w : World} (h : cl5C g gn n c j cs W1 R4 R6 L f w) : cl5C g gn n c j cs W1 R4 R6 (fun k => if k = 1 then true else L k) (fun t => if (some 22 : Option Nat) = some t then (.slice (some ⟨gn, 0, none⟩) n c) else f t) w where
 v0 := by simpa using h.v0
 v1 := fun _ => by simp
 v2 := by simpa using h.v2
 v3 := by simpa using h.v3
 v5 := by simpa using h.v5
 wz := by simpa using h.wz
 w4 := by simpa using h.w4
 w6 := by simpa using h.w6
 d6_4 := by simpa using h.d6_4
 d4_3 := by simpa using h.d4_3
 d6_1 := fun _ => by simp
theorem cl5_2 {g : Nat} {gn : Nat} {n : Nat} {c : Nat} {j : Nat} {cs : Array Value} {W1 : World} {R4 : Value → World → Prop} {R6 : World → Prop} {L : Nat → Bool} {f : Nat → Value} {w : World} (h : cl5C g gn n c j cs W1 R4 R6 L f w) : cl5C g gn n c j cs W1 R4 R6 (fun k => if k = 2 then true else L k) (fun t => if (some 23 : Option Nat) = some t then (.int .i64 (j : Int)) else f t) w where
 v0 := by simpa using h.v0
 v1 := by simpa using h.v1
 v2 := fun _ => by simp
 v3 := by simpa using h.v3
 v5 := by simpa using h.v5
 wz := by simpa using h.wz
 w4 := by simpa using h.w4
 w6 := by simpa using h.w6
 d6_4 := by simpa using h.d6_4
 d4_3 := by simpa using h.d4_3
 d6_1 := by simpa using h.d6_1
theorem cl5_3 {g : Nat} {gn : Nat} {n : Nat} {c : Nat} {j : Nat} {cs : Array Value} {W1 : World} {R4 : Value → World → Prop} {R6 : World → Prop} {L : Nat → Bool} {f : Nat → Value} {w : World} (h : cl5C g gn n c j cs W1 R4 R6 L f w) : cl5C g gn n c j cs W1 R4 R6 (fun k => if k = 3 then true else L k) (fun t => if (some 24 : Option Nat) = some t then (.agg cs) else f t) w where
 v0 := by simpa using h.v0
 v1 := by simpa using h.v1
 v2 := by simpa using h.v2
 v3 := fun _ => by simp
 v5 := by simpa using h.v5
 wz := by simpa using h.wz
 w4 := by simpa using h.w4
 w6 := by simpa using h.w6
 d6_4 := by simpa using h.d6_4
 d4_3 := fun _ => by simp
 d6_1 := by simpa using h.d6_1
theorem cl5_4 {g : Nat} {gn : Nat} {n : Nat} {c : Nat} {j : Nat} {cs : Array Value} {W1 : World} {R4 : Value → World → Prop} {R6 : World → Prop} {L : Nat → Bool} {f : Nat → Value} {w : World} {v : Value} {w2 : World} (h : cl5C g gn n c j cs W1 R4 R6 L f w) (h4 : L 4 = false) (h3 : L 3 = true) (hp : R4 v w2) : cl5C g gn n c j cs W1 R4 R6 (fun k => if k = 4 then true else L k) (fun t => if (some 25 : Option Nat) = some t then v else f t) w2 := by
 have h6 : L 6 = false := by cases hh : L 6 with | false => rfl | true => exact absurd (h.d6_4 hh) (by rw [h4]; decide)
 constructor
 ·simpa using h.v0
 ·simpa using h.v1
 ·simpa using h.v2
 ·simpa using h.v3
 ·simpa using h.v5
 ·intro hh; simp at hh
 ·intro _ _; simpa using hp
 ·intro hh; simp [h6] at hh
 ·intro _; simp
 ·intro _; simpa using h3
 ·simpa using h.d6_1
theorem cl5_5 {g : Nat} {gn : Nat} {n : Nat} {c : Nat} {j : Nat} {cs : Array Value} {W1 : World} {R4 : Value → World → Prop} {R6 : World → Prop} {L : Nat → Bool} {f : Nat → Value} {w : World} (h : cl5C g gn n c j cs W1 R4 R6 L f w) : cl5C g gn n c j cs W1 R4 R6 (fun k => if k = 5 then true else L k) (fun t => if (some 26 : Option Nat) = some t then (.pointer (some ⟨gn, j * 18, none⟩)) else f t) w where
 v0 := by simpa using h.v0
 v1 := by simpa using h.v1
 v2 := by simpa using h.v2
 v3 := by simpa using h.v3
 v5 := fun _ => by simp
 wz := by simpa using h.wz
 w4 := by simpa using h.w4
 w6 := by simpa using h.w6
 d6_4 := by simpa using h.d6_4
 d4_3 := by simpa using h.d4_3
 d6_1 := by simpa using h.d6_1
theorem cl5_6 {g : Nat} {gn : Nat} {n : Nat} {c : Nat} {j : Nat} {cs : Array Value} {W1 : World} {R4 : Value → World → Prop} {R6 : World → Prop} {L : Nat → Bool} {f : Nat → Value} {w : World} {v : Value} {w2 : World} (h : cl5C g gn n c j cs W1 R4 R6 L f w) (h4 : L 4 = true) (h6 : L 6 = false) (h1 : L 1 = true) (hp : R6 w2) : cl5C g gn n c j cs W1 R4 R6 (fun k => if k = 6 then true else L k) (fun t => if (none : Option Nat) = some t then v else f t) w2 := by
 constructor
 ·simpa using h.v0
 ·simpa using h.v1
 ·simpa using h.v2
 ·simpa using h.v3
 ·simpa using h.v5
 ·intro hh; simp [h4] at hh
 ·intro _ hh; simp at hh
 ·intro _; simpa using hp
 ·intro _; simpa using h4
 ·simpa using h.d4_3
 ·intro _; simpa using h1
def cl5Us (f : Nat → Value) : List (Nat × Value) := [(21, f 21), (22, f 22), (23, f 23), (24, f 24), (25, f 25), (26, f 26)]
theorem wp_indexN {o : Oper} {a : Act} {w : World} {K : Act → World → Prop} {Q : Exit → Act → World → Prop} (x y : Operand) (ho : o.op = .indexAddr 29 x y) (gn n c j : Nat) (hx : a.eval x = .slice (some ⟨gn, 0, none⟩) n c) (hy : a.eval y = .int .i64 (j : Int)) (hj : j < n) (h : K (a.put o.dst (.pointer (some ⟨gn, j * 18, none⟩))) w) : o.wp Tryz.prog a w K Q := by
 unfold Oper.wp
 have hj' : (j : Int) < (n : Int) := by omega
 have e : (execOp a.eval o).run Tryz.prog w = .ok (.value (.pointer (some ⟨gn, j * 18, none⟩))) w := by
  unfold execOp
  simp only [ho, hx, hy]
  go_simp
 rw [e]
 exact h
set_option maxRecDepth 10000 in
set_option maxHeartbeats 1000000 in
theorem cl5_reg {g gn n c j g5 : Nat} {cs : Array Value} {W : World} {R4 : NV → World → Prop} {R6 : World → Prop} {A0 : Act} {Q : Exit → Act → World → Prop} {id : Nat} (a1 : Act.at A0 1 = .pointer (some ⟨g, 0, none⟩)) (a3 : Act.at A0 3 = .int .i64 (j : Int)) (a4 : Act.at A0 4 = .pointer (some ⟨g5, 0, none⟩)) (hsz : 27 ≤ A0.tmps.size) (hj : j < n) (hB : W.cell? ⟨g, 0, none⟩ = some (.slice (some ⟨gn, 0, none⟩) n c)) (hN : W.heap[g5]? = some (.cells cs 54)) (hsz5 : (Tryz.prog.info? 54).map (·.size) = some cs.size)
  (HC : Calls Tryz.prog 35 #[.agg cs] W.drew fun e w' => ∃ v, e = .returned v ∧ (fun u w => ∃ y : NV, u = .agg y.cells.toArray ∧ R4 y w) v w')
  (hR4 : ∀ y w, R4 y w → w.cell? ⟨g, 0, none⟩ = some (.slice (some ⟨gn, 0, none⟩) n c) ∧ w.there gn (j * 18) y.cells.toArray.size ∧ R6 (w.setCells gn (j * 18) y.cells.toArray.toList))
  (hk : ∀ (f : Nat → Value) w', R6 w' → Q .normal ⟨(cl5Us f).foldl (fun A p => A.setIfInBounds p.1 p.2) A0.tmps, A0.defers⟩ w') :
  (Code.region id cl5Ops true).wp Tryz.prog Q A0 W := by
 refine wp_region_fun (by kernel_rfl) (fun L f w => cl5C g gn n c j cs W.drew (fun u w => ∃ y : NV, u = .agg y.cells.toArray ∧ R4 y w) R6 L f w) [21, 22, 23, 24, 25, 26] (wf_ops2 (by kernel_rfl)) (fun i o ho u hu => ?_) ?_ ?_ ?_
 ·have := ops_dst [21, 22, 23, 24, 25, 26] 27 (by kernel_rfl) i o ho u hu
  exact ⟨this.1, Nat.lt_of_lt_of_le this.2 hsz⟩
 ·have hs : cl5Ops.size = 7 := rfl
  rw [hs]
  constructor <;> first | exact (fun _ => rfl) | (intro h; simp at h) | (intro h h2; simp at h)
 ·rintro L i o ho hLi haf b w hf hc K hK
  have hdep := ops_deps cl5Dep (by kernel_rfl) ho haf
  clear haf
  have hs : cl5Ops.size = 7 := rfl
  have hlt : i < 7 := hs ▸ (Array.getElem?_eq_some_iff.1 ho).1
  have hcases : i = 0 ∨ i = 1 ∨ i = 2 ∨ i = 3 ∨ i = 4 ∨ i = 5 ∨ i = 6 := by omega
  rcases hcases with rfl | rfl | rfl | rfl | rfl | rfl | rfl
  ·obtain ⟨h1, h2⟩ := op_at2 ho (show (cl5Ops[0]?).map (fun o => (o.dst, o.op)) = some ((some 21), (.fieldAddr 32 (.tmp 1) 0)) by kernel_rfl)
   rw [h1] at hK
   refine wp_fieldG _ _ _ h2 _ _ ((hf 1 (by decide)).trans a1) (field_0S g w) ?_
   rw [h1]
   exact hK _ _ (cl5_0 hc)
  ·obtain ⟨h1, h2⟩ := op_at2 ho (show (cl5Ops[1]?).map (fun o => (o.dst, o.op)) = some ((some 22), (.load 29 (.tmp 21))) by kernel_rfl)
   rw [h1] at hK
   have l0 : L 0 = true := hdep 0 (by simp [cl5Dep])
   have hcell : w.cell? ⟨g, 0, none⟩ = some (.slice (some ⟨gn, 0, none⟩) n c) := by
    cases h4' : L 4 with
    | false => rw [hc.wz h4']; exact hB
    | true =>
     cases h6 : L 6 with
     | true => exact absurd (hc.d6_1 h6) (by rw [hLi]; decide)
     | false => obtain ⟨y, _, hy⟩ := hc.w4 h4' h6; exact (hR4 y w hy).1
   refine wp_loadG _ _ h2 _ _ (hc.v0 l0) (load_slN hcell) ?_
   rw [h1]
   exact hK _ _ (cl5_1 hc)
  ·obtain ⟨h1, h2⟩ := op_at2 ho (show (cl5Ops[2]?).map (fun o => (o.dst, o.op)) = some ((some 23), (.move (.tmp 3))) by kernel_rfl)
   rw [h1] at hK
   refine wp_moveG _ h2 _ ((hf 3 (by decide)).trans a3) ?_
   rw [h1]
   exact hK _ _ (cl5_2 hc)
  ·obtain ⟨h1, h2⟩ := op_at2 ho (show (cl5Ops[3]?).map (fun o => (o.dst, o.op)) = some ((some 24), (.load 54 (.tmp 4))) by kernel_rfl)
   rw [h1] at hK
   have hw : w = W.drew := by
    cases h4' : L 4 with
    | true => exact absurd (hc.d4_3 h4') (by rw [hLi]; decide)
    | false => exact hc.wz h4'
   subst hw
   refine wp_load_row 54 (.tmp 4) h2 g5 ((hf 4 (by decide)).trans a4) 54 cs (0, 0) _ hN Tryz.underlying54 rfl hsz5 ?_
   rw [h1]
   exact hK _ _ (cl5_3 hc)
  ·obtain ⟨h1, h2⟩ := op_at2 ho (show (cl5Ops[4]?).map (fun o => (o.dst, o.op)) = some ((some 25), (.call { callee := .value (.func 35), args := #[.tmp 24], argTypes := #[54] })) by kernel_rfl)
   rw [h1] at hK
   have l3 : L 3 = true := hdep 3 (by simp [cl5Dep])
   obtain rfl := hc.wz hLi
   refine wp_callG 35 _ _ h2 enters_own #[.agg cs] (by simp [show b.eval (.tmp 24) = _ from hc.v3 l3]) _ HC ?_
   intro v w2 hp
   rw [h1]
   exact hK _ _ (cl5_4 hc hLi l3 hp)
  ·obtain ⟨h1, h2⟩ := op_at2 ho (show (cl5Ops[5]?).map (fun o => (o.dst, o.op)) = some ((some 26), (.indexAddr 29 (.tmp 22) (.tmp 23))) by kernel_rfl)
   rw [h1] at hK
   have l1 : L 1 = true := hdep 1 (by simp [cl5Dep])
   have l2 : L 2 = true := hdep 2 (by simp [cl5Dep])
   have l4 : L 4 = true := hdep 4 (by simp [cl5Dep])
   refine wp_indexN _ _ h2 gn n c j (hc.v1 l1) (hc.v2 l2) hj ?_
   rw [h1]
   exact hK _ _ (cl5_5 hc)
  ·obtain ⟨h1, h2⟩ := op_at2 ho (show (cl5Ops[6]?).map (fun o => (o.dst, o.op)) = some (none, (.store 54 (.tmp 26) (.tmp 25))) by kernel_rfl)
   rw [h1] at hK
   have l1 : L 1 = true := hdep 1 (by simp [cl5Dep])
   have l4 : L 4 = true := hdep 4 (by simp [cl5Dep])
   have l5 : L 5 = true := hdep 5 (by simp [cl5Dep])
   obtain ⟨y, hu, hy⟩ := hc.w4 l4 hLi
   refine wp_store_mid 54 _ _ h2 gn (j * 18) y.cells.toArray (hc.v5 l5) hu (hR4 y w hy).2.1 (nv_size y) (nv_one y) ?_
   rw [h1]
   exact hK _ _ (cl5_6 hc l4 hLi l1 (hR4 y w hy).2.2)
 ·rintro L b w hL hd hs hf hc
  have hsz2 : cl5Ops.size = 7 := rfl
  rw [hsz2] at hL
  have e := act_eq (a := A0) (b := b) (cl5Us (Act.at b)) hd hs hf (by
   intro p hp
   simp only [cl5Us, List.mem_cons, List.not_mem_nil, or_false] at hp
   rcases hp with rfl | rfl | rfl | rfl | rfl | rfl <;> rfl) (by rw [show (cl5Us (Act.at b)).map (·.1) = [21, 22, 23, 24, 25, 26] from rfl]; decide)
  rw [e]
  exact hk (Act.at b) w (hc.w6 (hL 6 (by omega)))
end Go.Proofs.YtfcccfplmdjndaaGreat
