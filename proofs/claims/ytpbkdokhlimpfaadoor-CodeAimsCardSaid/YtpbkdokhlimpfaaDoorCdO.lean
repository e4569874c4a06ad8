/- code: Add's statement, whose steps stand in open order. -/
import Derived.Test.YtpbkdokhlimpfaaDoorCdN
import Derived.Test.YtpbkdokhlimpfaaDoorInv
import Derived.Great.BuildSlice
namespace Go.Proofs.YtpbkdokhlimpfaaDoor
set_option linter.unusedSimpArgs false
set_option linter.unusedVariables false
open Go.RowKit

section
variable {P : Program} {o : Oper} {a : Act} {w : World} {K : Act → World → Prop} {Q : Exit → Act → World → Prop}
theorem wp_nilG2 (x : Operand) (ho : o.op = .nilCheck x) (p : Addr) (hx : a.eval x = .pointer (some p)) (h : K (a.put o.dst (.pointer (some p))) w) : o.wp P a w K Q := by
  unfold Oper.wp
  have e : (execOp a.eval o).run P w = .ok (.value (.pointer (some p))) w := by
    unfold execOp
    simp only [ho, hx]
    go_simp
  rw [e]
  exact h
end
section
variable {o : Oper} {a : Act} {w : World} {K : Act → World → Prop} {Q : Exit → Act → World → Prop}
theorem wp_build1S (i : Nat) (ho : o.op = .buildSlice 22 1 #[(0, .tmp i)]) (X : Array Value) (hX : X.size = 265) (hx : a.eval (.tmp i) = .agg X) (h : K (a.put o.dst (.slice (some ⟨w.heap.size, 0, none⟩) 1 1)) (w.alloc (.cells X 37))) : o.wp Tryd.prog a w K Q := by
  obtain ⟨i0, hi0, hz0, hz1, hz2⟩ := info_parts info_step
  refine wp_buildSlice 22 37 1 #[(0, .tmp i)] ho X i0 _ Tryd.underlying22 hi0 hz0 (by rw [hz1]; decide) (by rw [hz1]; decide) ?_ h
  rw [hz1]
  have e : (#[(0, Operand.tmp i)].map fun ((i, x) : Nat × Operand) => (i, a.eval x)).toList = (([Value.agg X] : List Value).zipIdx 0).map fun x => (x.2, x.1) := by simp [hx]
  rw [e, Great.fill_whole (s := 265) (by decide) [.agg X] _ (fun v hv => by rw [List.mem_singleton] at hv; subst hv; exact hX) (by simp)]
  simp [Value.cells]
set_option maxRecDepth 10000 in
theorem wp_storeS (x y : Operand) (ho : o.op = .store 22 x y) (p : Addr) (hx : a.eval x = .pointer (some p)) (A : Option Addr) (n c : Nat) (hy : a.eval y = .slice A n c) (u : Value) (hc : w.cell? p = some u) (hf : w.frozen? p = false) (h : K (a.put o.dst undef) (w.setCell p (.slice A n c))) : o.wp Tryd.prog a w K Q := by
  unfold Oper.wp
  have e : (execOp a.eval o).run Tryd.prog w = .ok .skip (w.setCell p (.slice A n c)) := by
    unfold execOp
    simp only [ho, hx, hy]
    go_simp
  rw [e, Oper.upon_skip]
  exact h
theorem wp_appS (s x : Operand) (ho : o.op = .call { callee := .builtin .append, args := #[s, x], argTypes := #[22, 22] }) (hty : o.type = 22)
    (base : Nat) (v : Value) (n : Nat) (xs : List Value) (hs : a.eval s = v) (hown : w.ownsRow base 37 265 v n xs) (g : Nat) (V : List Value) (hV : V.length = 265) (hV1 : ∀ u ∈ V, u.oneCell' = true) (hx : a.eval x = .slice (some ⟨g, 0, none⟩) 1 1) (hr : Blk w g 37 V) (hb : n ≤ 1048576) (hbase : base ≤ w.heap.size)
    (h : ∀ v' w', w'.ownsRow base 37 265 v' (n + 1) (xs ++ V) → w.grownBy w' v.ownBlock → (v'.ownBlock = v.ownBlock ∨ v'.ownBlock = some w.heap.size) → K (a.put o.dst v') w') : o.wp Tryd.prog a w K Q := by
  obtain ⟨i0, hi0, hz0, hz1, hz2⟩ := info_parts info_step
  obtain ⟨v', w', h1, h2, h3, _, h5⟩ := run_append_own_at (P := Tryd.prog) w base 22 22 37 i0 _ 265 344 Tryd.underlying22 hi0 hz0 hz1 hz2 zsS (by decide) v n xs hown ⟨g, 0, none⟩ 1 1 V (by rw [hV]) (fun j u hj => by rw [addr_add, Nat.zero_add, Blk.at hr j]; exact hj) hV1 (by unfold maxLen; omega) (by omega) hbase
  unfold Oper.wp execOp
  simp only [ho, hty, resolve, invoke, builtin, Sem.run_bind, Sem.run_pure, Result.andThen_ok, List.map_toArray, List.map_cons, List.map_nil, hs, hx, h1]
  exact h _ _ h2 h3 h5
end
def addOps : Array Oper := #[{ dst := some 17, op := Op.move (Operand.tmp 0), type := 59, pos := "maker.go:23", after := #[], guard := none }, { dst := some 18, op := Op.move (Operand.tmp 0), type := 59, pos := "maker.go:23", after := #[], guard := none }, { dst := some 19, op := Op.nilCheck (Operand.tmp 18), type := 0, pos := "maker.go:23", after := #[{ on := 1, ground := Ground.data }], guard := none }, { dst := some 20, op := Op.fieldAddr 32 (Operand.tmp 19) 0, type := 0, pos := "maker.go:23", after := #[{ on := 2, ground := Ground.data }], guard := none }, { dst := some 21, op := Op.fieldAddr 24 (Operand.tmp 20) 0, type := 0, pos := "maker.go:23", after := #[{ on := 3, ground := Ground.data }], guard := none }, { dst := some 22, op := Op.load 22 (Operand.tmp 21), type := 22, pos := "maker.go:23", after := #[{ on := 4, ground := Ground.data }], guard := none }, { dst := some 23, op := Op.load 37 (Operand.tmp 3), type := 37, pos := "maker.go:23", after := #[], guard := none }, { dst := some 24, op := Op.buildSlice 22 1 #[(0, Operand.tmp 23)], type := 22, pos := "maker.go:23", after := #[{ on := 6, ground := Ground.data }], guard := none }, { dst := some 25, op := Op.call { callee := Callee.builtin Builtin.append, args := #[Operand.tmp 22, Operand.tmp 24], argTypes := #[22, 22] }, type := 22, pos := "maker.go:23", after := #[{ on := 5, ground := Ground.data }, { on := 7, ground := Ground.data }], guard := none }, { dst := some 26, op := Op.nilCheck (Operand.tmp 17), type := 0, pos := "maker.go:23", after := #[{ on := 0, ground := Ground.data }, { on := 0, ground := Ground.phase }, { on := 1, ground := Ground.phase }, { on := 2, ground := Ground.phase }, { on := 3, ground := Ground.phase }, { on := 4, ground := Ground.phase }, { on := 5, ground := Ground.phase }, { on := 6, ground := Ground.phase }, { on := 7, ground := Ground.phase }, { on := 8, ground := Ground.phase }], guard := none }, { dst := some 27, op := Op.fieldAddr 32 (Operand.tmp 26) 0, type := 0, pos := "maker.go:23", after := #[{ on := 9, ground := Ground.data }, { on := 0, ground := Ground.phase }, { on := 1, ground := Ground.phase }, { on := 2, ground := Ground.phase }, { on := 3, ground := Ground.phase }, { on := 4, ground := Ground.phase }, { on := 5, ground := Ground.phase }, { on := 6, ground := Ground.phase }, { on := 7, ground := Ground.phase }, { on := 8, ground := Ground.phase }], guard := none }, { dst := some 28, op := Op.fieldAddr 24 (Operand.tmp 27) 0, type := 0, pos := "maker.go:23", after := #[{ on := 10, ground := Ground.data }, { on := 0, ground := Ground.phase }, { on := 1, ground := Ground.phase }, { on := 2, ground := Ground.phase }, { on := 3, ground := Ground.phase }, { on := 4, ground := Ground.phase }, { on := 5, ground := Ground.phase }, { on := 6, ground := Ground.phase }, { on := 7, ground := Ground.phase }, { on := 8, ground := Ground.phase }], guard := none }, { dst := none, op := Op.store 22 (Operand.tmp 28) (Operand.tmp 25), type := 0, pos := "maker.go:23", after := #[{ on := 11, ground := Ground.data }, { on := 8, ground := Ground.data }, { on := 8, ground := Ground.chain }, { on := 0, ground := Ground.phase }, { on := 1, ground := Ground.phase }, { on := 2, ground := Ground.phase }, { on := 3, ground := Ground.phase }, { on := 4, ground := Ground.phase }, { on := 5, ground := Ground.phase }, { on := 6, ground := Ground.phase }, { on := 7, ground := Ground.phase }, { on := 8, ground := Ground.phase }], guard := none }]
def addDep : Nat → List Nat := fun i => match i with | 2 => [1] | 3 => [2] | 4 => [3] | 5 => [4] | 7 => [6] | 8 => [5, 7] | 9 => [0] | 10 => [9] | 11 => [10] | 12 => [11, 8] | _ => []
structure addC (pb n cc : Nat) (A : Option Addr) (X : Array Value) (W1 : World) (R8 : Value → World → Prop) (R12 : World → Prop) (L : Nat → Bool) (f : Nat → Value) (w : World) : Prop where
  v0 : L 0 = true → f 17 = .pointer (some ⟨pb, 0, none⟩)
  v1 : L 1 = true → f 18 = .pointer (some ⟨pb, 0, none⟩)
  v2 : L 2 = true → f 19 = .pointer (some ⟨pb, 0, none⟩)
  v3 : L 3 = true → f 20 = .pointer (some ⟨pb, 0, none⟩)
  v4 : L 4 = true → f 21 = .pointer (some ⟨pb, 0, none⟩)
  v5 : L 5 = true → f 22 = .slice A n cc
  v6 : L 6 = true → f 23 = .agg X
  v9 : L 9 = true → f 26 = .pointer (some ⟨pb, 0, none⟩)
  v10 : L 10 = true → f 27 = .pointer (some ⟨pb, 0, none⟩)
  v11 : L 11 = true → f 28 = .pointer (some ⟨pb, 0, none⟩)
  v7 : L 7 = true → f 24 = .slice (some ⟨W1.heap.size, 0, none⟩) 1 1
  w0 : L 7 = false → w = W1
  w7 : L 7 = true → L 8 = false → w = (W1.alloc (.cells X 37))
  w8 : L 8 = true → L 12 = false → R8 (f 25) w
  w12 : L 12 = true → R12 w
  d7 : L 8 = true → L 7 = true
  d8 : L 12 = true → L 8 = true
  d5 : L 8 = true → L 5 = true
  d6 : L 7 = true → L 6 = true
theorem add_0 {pb n cc : Nat} {A : Option Addr} {X : Array Value} {W1 : World} {R8 : Value → World → Prop} {R12 : World → Prop} {L : Nat → Bool} {f : Nat → Value} {w : World} (h : addC pb n cc A X W1 R8 R12 L f w) : addC pb n cc A X W1 R8 R12 (fun k => if k = 0 then true else L k) (fun t => if (some 17 : Option Nat) = some t then (.pointer (some ⟨pb, 0, none⟩)) else f t) w where
  v0 := fun _ => by simp
  v1 := by simpa using h.v1
  v2 := by simpa using h.v2
  v3 := by simpa using h.v3
  v4 := by simpa using h.v4
  v5 := by simpa using h.v5
  v6 := by simpa using h.v6
  v9 := by simpa using h.v9
  v10 := by simpa using h.v10
  v11 := by simpa using h.v11
  v7 := by simpa using h.v7
  w0 := by simpa using h.w0
  w7 := by simpa using h.w7
  w8 := by simpa using h.w8
  w12 := by simpa using h.w12
  d7 := by simpa using h.d7
  d8 := by simpa using h.d8
  d5 := by simpa using h.d5
  d6 := by simpa using h.d6
theorem add_1 {pb n cc : Nat} {A : Option Addr} {X : Array Value} {W1 : World} {R8 : Value → World → Prop} {R12 : World → Prop} {L : Nat → Bool} {f : Nat → Value} {w : World} (h : addC pb n cc A X W1 R8 R12 L f w) : addC pb n cc A X W1 R8 R12 (fun k => if k = 1 then true else L k) (fun t => if (some 18 : Option Nat) = some t then (.pointer (some ⟨pb, 0, none⟩)) else f t) w where
  v0 := by simpa using h.v0
  v1 := fun _ => by simp
  v2 := by simpa using h.v2
  v3 := by simpa using h.v3
  v4 := by simpa using h.v4
  v5 := by simpa using h.v5
  v6 := by simpa using h.v6
  v9 := by simpa using h.v9
  v10 := by simpa using h.v10
  v11 := by simpa using h.v11
  v7 := by simpa using h.v7
  w0 := by simpa using h.w0
  w7 := by simpa using h.w7
  w8 := by simpa using h.w8
  w12 := by simpa using h.w12
  d7 := by simpa using h.d7
  d8 := by simpa using h.d8
  d5 := by simpa using h.d5
  d6 := by simpa using h.d6
theorem add_2 {pb n cc : Nat} {A : Option Addr} {X : Array Value} {W1 : World} {R8 : Value → World → Prop} {R12 : World → Prop} {L : Nat → Bool} {f : Nat → Value} {w : World} (h : addC pb n cc A X W1 R8 R12 L f w) : addC pb n cc A X W1 R8 R12 (fun k => if k = 2 then true else L k) (fun t => if (some 19 : Option Nat) = some t then (.pointer (some ⟨pb, 0, none⟩)) else f t) w where
  v0 := by simpa using h.v0
  v1 := by simpa using h.v1
  v2 := fun _ => by simp
  v3 := by simpa using h.v3
  v4 := by simpa using h.v4
  v5 := by simpa using h.v5
  v6 := by simpa using h.v6
  v9 := by simpa using h.v9
  v10 := by simpa using h.v10
  v11 := by simpa using h.v11
  v7 := by simpa using h.v7
  w0 := by simpa using h.w0
  w7 := by simpa using h.w7
  w8 := by simpa using h.w8
  w12 := by simpa using h.w12
  d7 := by simpa using h.d7
  d8 := by simpa using h.d8
  d5 := by simpa using h.d5
  d6 := by simpa using h.d6
theorem add_3 {pb n cc : Nat} {A : Option Addr} {X : Array Value} {W1 : World} {R8 : Value → World → Prop} {R12 : World → Prop} {L : Nat → Bool} {f : Nat → Value} {w : World} (h : addC pb n cc A X W1 R8 R12 L f w) : addC pb n cc A X W1 R8 R12 (fun k => if k = 3 then true else L k) (fun t => if (some 20 : Option Nat) = some t then (.pointer (some ⟨pb, 0, none⟩)) else f t) w where
  v0 := by simpa using h.v0
  v1 := by simpa using h.v1
  v2 := by simpa using h.v2
  v3 := fun _ => by simp
  v4 := by simpa using h.v4
  v5 := by simpa using h.v5
  v6 := by simpa using h.v6
  v9 := by simpa using h.v9
  v10 := by simpa using h.v10
  v11 := by simpa using h.v11
  v7 := by simpa using h.v7
  w0 := by simpa using h.w0
  w7 := by simpa using h.w7
  w8 := by simpa using h.w8
  w12 := by simpa using h.w12
  d7 := by simpa using h.d7
  d8 := by simpa using h.d8
  d5 := by simpa using h.d5
  d6 := by simpa using h.d6
theorem add_4 {pb n cc : Nat} {A : Option Addr} {X : Array Value} {W1 : World} {R8 : Value → World → Prop} {R12 : World → Prop} {L : Nat → Bool} {f : Nat → Value} {w : World} (h : addC pb n cc A X W1 R8 R12 L f w) : addC pb n cc A X W1 R8 R12 (fun k => if k = 4 then true else L k) (fun t => if (some 21 : Option Nat) = some t then (.pointer (some ⟨pb, 0, none⟩)) else f t) w where
  v0 := by simpa using h.v0
  v1 := by simpa using h.v1
  v2 := by simpa using h.v2
  v3 := by simpa using h.v3
  v4 := fun _ => by simp
  v5 := by simpa using h.v5
  v6 := by simpa using h.v6
  v9 := by simpa using h.v9
  v10 := by simpa using h.v10
  v11 := by simpa using h.v11
  v7 := by simpa using h.v7
  w0 := by simpa using h.w0
  w7 := by simpa using h.w7
  w8 := by simpa using h.w8
  w12 := by simpa using h.w12
  d7 := by simpa using h.d7
  d8 := by simpa using h.d8
  d5 := by simpa using h.d5
  d6 := by simpa using h.d6
theorem add_5 {pb n cc : Nat} {A : Option Addr} {X : Array Value} {W1 : World} {R8 : Value → World → Prop} {R12 : World → Prop} {L : Nat → Bool} {f : Nat → Value} {w : World} (h : addC pb n cc A X W1 R8 R12 L f w) : addC pb n cc A X W1 R8 R12 (fun k => if k = 5 then true else L k) (fun t => if (some 22 : Option Nat) = some t then (.slice A n cc) else f t) w where
  v0 := by simpa using h.v0
  v1 := by simpa using h.v1
  v2 := by simpa using h.v2
  v3 := by simpa using h.v3
  v4 := by simpa using h.v4
  v5 := fun _ => by simp
  v6 := by simpa using h.v6
  v9 := by simpa using h.v9
  v10 := by simpa using h.v10
  v11 := by simpa using h.v11
  v7 := by simpa using h.v7
  w0 := by simpa using h.w0
  w7 := by simpa using h.w7
  w8 := by simpa using h.w8
  w12 := by simpa using h.w12
  d7 := by simpa using h.d7
  d8 := by simpa using h.d8
  d5 := fun _ => by simp
  d6 := by simpa using h.d6
theorem add_6 {pb n cc : Nat} {A : Option Addr} {X : Array Value} {W1 : World} {R8 : Value → World → Prop} {R12 : World → Prop} {L : Nat → Bool} {f : Nat → Value} {w : World} (h : addC pb n cc A X W1 R8 R12 L f w) : addC pb n cc A X W1 R8 R12 (fun k => if k = 6 then true else L k) (fun t => if (some 23 : Option Nat) = some t then (.agg X) else f t) w where
  v0 := by simpa using h.v0
  v1 := by simpa using h.v1
  v2 := by simpa using h.v2
  v3 := by simpa using h.v3
  v4 := by simpa using h.v4
  v5 := by simpa using h.v5
  v6 := fun _ => by simp
  v9 := by simpa using h.v9
  v10 := by simpa using h.v10
  v11 := by simpa using h.v11
  v7 := by simpa using h.v7
  w0 := by simpa using h.w0
  w7 := by simpa using h.w7
  w8 := by simpa using h.w8
  w12 := by simpa using h.w12
  d7 := by simpa using h.d7
  d8 := by simpa using h.d8
  d5 := by simpa using h.d5
  d6 := fun _ => by simp
theorem add_7 {pb n cc : Nat} {A : Option Addr} {X : Array Value} {W1 : World} {R8 : Value → World → Prop} {R12 : World → Prop} {L : Nat → Bool} {f : Nat → Value} {w : World} (h : addC pb n cc A X W1 R8 R12 L f w) (h7 : L 7 = false) (h6 : L 6 = true) : addC pb n cc A X W1 R8 R12 (fun k => if k = 7 then true else L k) (fun t => if (some 24 : Option Nat) = some t then (.slice (some ⟨W1.heap.size, 0, none⟩) 1 1) else f t) (W1.alloc (.cells X 37)) := by
  have h8 : L 8 = false := by cases hh : L 8 with | false => rfl | true => exact absurd (h.d7 hh) (by rw [h7]; decide)
  have h12 : L 12 = false := by cases hh : L 12 with | false => rfl | true => exact absurd (h.d8 hh) (by rw [h8]; decide)
  constructor
  · simpa using h.v0
  · simpa using h.v1
  · simpa using h.v2
  · simpa using h.v3
  · simpa using h.v4
  · simpa using h.v5
  · simpa using h.v6
  · simpa using h.v9
  · simpa using h.v10
  · simpa using h.v11
  · intro _; simp
  · intro hh; simp at hh
  · intro _ _; rfl
  · intro hh _; simp [h8] at hh
  · intro hh; simp [h12] at hh
  · intro _; simp
  · simpa using h.d8
  · simpa using h.d5
  · intro _; simpa using h6
theorem add_8 {pb n cc : Nat} {A : Option Addr} {X : Array Value} {W1 : World} {R8 : Value → World → Prop} {R12 : World → Prop} {L : Nat → Bool} {f : Nat → Value} {w : World} {v : Value} {w2 : World} (h : addC pb n cc A X W1 R8 R12 L f w) (h7 : L 7 = true) (h5 : L 5 = true) (h8 : L 8 = false) (hp : R8 v w2) : addC pb n cc A X W1 R8 R12 (fun k => if k = 8 then true else L k) (fun t => if (some 25 : Option Nat) = some t then v else f t) w2 := by
  have h12 : L 12 = false := by cases hh : L 12 with | false => rfl | true => exact absurd (h.d8 hh) (by rw [h8]; decide)
  constructor
  · simpa using h.v0
  · simpa using h.v1
  · simpa using h.v2
  · simpa using h.v3
  · simpa using h.v4
  · simpa using h.v5
  · simpa using h.v6
  · simpa using h.v9
  · simpa using h.v10
  · simpa using h.v11
  · simpa using h.v7
  · intro hh; simp [h7] at hh
  · intro _ hh; simp at hh
  · intro _ _; simpa using hp
  · intro hh; simp [h12] at hh
  · intro _; simpa using h7
  · intro _; simp
  · intro _; simpa using h5
  · simpa using h.d6
theorem add_9 {pb n cc : Nat} {A : Option Addr} {X : Array Value} {W1 : World} {R8 : Value → World → Prop} {R12 : World → Prop} {L : Nat → Bool} {f : Nat → Value} {w : World} (h : addC pb n cc A X W1 R8 R12 L f w) : addC pb n cc A X W1 R8 R12 (fun k => if k = 9 then true else L k) (fun t => if (some 26 : Option Nat) = some t then (.pointer (some ⟨pb, 0, none⟩)) else f t) w where
  v0 := by simpa using h.v0
  v1 := by simpa using h.v1
  v2 := by simpa using h.v2
  v3 := by simpa using h.v3
  v4 := by simpa using h.v4
  v5 := by simpa using h.v5
  v6 := by simpa using h.v6
  v9 := fun _ => by simp
  v10 := by simpa using h.v10
  v11 := by simpa using h.v11
  v7 := by simpa using h.v7
  w0 := by simpa using h.w0
  w7 := by simpa using h.w7
  w8 := by simpa using h.w8
  w12 := by simpa using h.w12
  d7 := by simpa using h.d7
  d8 := by simpa using h.d8
  d5 := by simpa using h.d5
  d6 := by simpa using h.d6
theorem add_10 {pb n cc : Nat} {A : Option Addr} {X : Array Value} {W1 : World} {R8 : Value → World → Prop} {R12 : World → Prop} {L : Nat → Bool} {f : Nat → Value} {w : World} (h : addC pb n cc A X W1 R8 R12 L f w) : addC pb n cc A X W1 R8 R12 (fun k => if k = 10 then true else L k) (fun t => if (some 27 : Option Nat) = some t then (.pointer (some ⟨pb, 0, none⟩)) else f t) w where
  v0 := by simpa using h.v0
  v1 := by simpa using h.v1
  v2 := by simpa using h.v2
  v3 := by simpa using h.v3
  v4 := by simpa using h.v4
  v5 := by simpa using h.v5
  v6 := by simpa using h.v6
  v9 := by simpa using h.v9
  v10 := fun _ => by simp
  v11 := by simpa using h.v11
  v7 := by simpa using h.v7
  w0 := by simpa using h.w0
  w7 := by simpa using h.w7
  w8 := by simpa using h.w8
  w12 := by simpa using h.w12
  d7 := by simpa using h.d7
  d8 := by simpa using h.d8
  d5 := by simpa using h.d5
  d6 := by simpa using h.d6
theorem add_11 {pb n cc : Nat} {A : Option Addr} {X : Array Value} {W1 : World} {R8 : Value → World → Prop} {R12 : World → Prop} {L : Nat → Bool} {f : Nat → Value} {w : World} (h : addC pb n cc A X W1 R8 R12 L f w) : addC pb n cc A X W1 R8 R12 (fun k => if k = 11 then true else L k) (fun t => if (some 28 : Option Nat) = some t then (.pointer (some ⟨pb, 0, none⟩)) else f t) w where
  v0 := by simpa using h.v0
  v1 := by simpa using h.v1
  v2 := by simpa using h.v2
  v3 := by simpa using h.v3
  v4 := by simpa using h.v4
  v5 := by simpa using h.v5
  v6 := by simpa using h.v6
  v9 := by simpa using h.v9
  v10 := by simpa using h.v10
  v11 := fun _ => by simp
  v7 := by simpa using h.v7
  w0 := by simpa using h.w0
  w7 := by simpa using h.w7
  w8 := by simpa using h.w8
  w12 := by simpa using h.w12
  d7 := by simpa using h.d7
  d8 := by simpa using h.d8
  d5 := by simpa using h.d5
  d6 := by simpa using h.d6
theorem add_12 {pb n cc : Nat} {A : Option Addr} {X : Array Value} {W1 : World} {R8 : Value → World → Prop} {R12 : World → Prop} {L : Nat → Bool} {f : Nat → Value} {w : World} {v : Value} {w2 : World} (h : addC pb n cc A X W1 R8 R12 L f w) (h7 : L 7 = true) (h8 : L 8 = true) (hp : R12 w2) : addC pb n cc A X W1 R8 R12 (fun k => if k = 12 then true else L k) (fun t => if (none : Option Nat) = some t then v else f t) w2 := by
  constructor
  · simpa using h.v0
  · simpa using h.v1
  · simpa using h.v2
  · simpa using h.v3
  · simpa using h.v4
  · simpa using h.v5
  · simpa using h.v6
  · simpa using h.v9
  · simpa using h.v10
  · simpa using h.v11
  · simpa using h.v7
  · intro hh; simp [h7] at hh
  · intro _ hh; simp [h8] at hh
  · intro _ hh; simp at hh
  · intro _; exact hp
  · simpa using h.d7
  · intro _; simpa using h8
  · simpa using h.d5
  · simpa using h.d6
def addUs (f : Nat → Value) : List (Nat × Value) := [(17, f 17), (18, f 18), (19, f 19), (20, f 20), (21, f 21), (22, f 22), (23, f 23), (24, f 24), (25, f 25), (26, f 26), (27, f 27), (28, f 28)]
theorem field_0M (pb : Nat) (w : World) : (Instr.fieldAt 32 (.pointer (some ⟨pb, 0, none⟩)) 0).run Tryd.prog w = .ok (.pointer (some ⟨pb, 0, none⟩)) w := by kernel_rfl
theorem field_0P (pb : Nat) (w : World) : (Instr.fieldAt 24 (.pointer (some ⟨pb, 0, none⟩)) 0).run Tryd.prog w = .ok (.pointer (some ⟨pb, 0, none⟩)) w := by kernel_rfl
theorem load_slS {w : World} {p : Addr} {A : Option Addr} {n c : Nat} (h : w.cell? p = some (.slice A n c)) : (Instr.loadAt 22 (.pointer (some p))).run Tryd.prog w = .ok (.slice A n c) w := by
  simp [Instr.loadAt, h]
  go_simp
set_option maxRecDepth 10000 in
set_option maxHeartbeats 1000000 in
theorem add_reg {pb n cc pn base : Nat} {A : Option Addr} {X : Array Value} {W : World} {xs : List Value} {R8 : Value → World → Prop} {R12 : World → Prop} {A0 : Act} {Q : Exit → Act → World → Prop} {id : Nat} (a0 : Act.at A0 0 = .pointer (some ⟨pb, 0, none⟩)) (a3 : Act.at A0 3 = .pointer (some ⟨pn, 0, none⟩)) (hsz : 29 ≤ A0.tmps.size) (hX : X.size = 265) (hX1 : ∀ u ∈ X.toList, u.oneCell' = true) (hN : Blk W pn 37 X.toList) (hB : W.cell? ⟨pb, 0, none⟩ = some (.slice A n cc)) (hn : n ≤ 1048576)
    (hown : W.ownsRow base 37 265 (.slice A n cc) n xs) (hbase : base ≤ W.heap.size) (hpb : pb < W.heap.size)
    (hR8 : ∀ v' w', w'.ownsRow base 37 265 v' (n + 1) (xs ++ X.toList) → (W.drew.alloc (.cells X 37)).grownBy w' (Value.slice A n cc).ownBlock → (v'.ownBlock = (Value.slice A n cc).ownBlock ∨ v'.ownBlock = some (W.heap.size + 1)) → R8 v' w')
    (hR12 : ∀ v w, R8 v w → (∃ A' c', v = .slice A' (n + 1) c') ∧ (∃ u, w.cell? ⟨pb, 0, none⟩ = some u) ∧ w.frozen? ⟨pb, 0, none⟩ = false ∧ R12 (w.setCell ⟨pb, 0, none⟩ v))
    (hk : ∀ (f : Nat → Value) w', R12 w' → Q .normal ⟨(addUs f).foldl (fun A p => A.setIfInBounds p.1 p.2) A0.tmps, A0.defers⟩ w') :
    (Code.region id addOps true).wp Tryd.prog Q A0 W := by
  have hal : Below W.drew.heap.size W.drew (W.drew.alloc (.cells X 37)) := (Below.refl _ _).alloc (Nat.le_refl _) _
  refine wp_region_fun (by kernel_rfl) (fun L f w => addC pb n cc A X W.drew R8 R12 L f w) [17, 18, 19, 20, 21, 22, 23, 24, 25, 26, 27, 28] (wf_ops2 (by kernel_rfl)) (fun i o ho u hu => ?_) ?_ ?_ ?_
  · have := ops_dst [17, 18, 19, 20, 21, 22, 23, 24, 25, 26, 27, 28] 29 (by kernel_rfl) i o ho u hu
    exact ⟨this.1, Nat.lt_of_lt_of_le this.2 hsz⟩
  · have hs : addOps.size = 13 := rfl
    rw [hs]
    constructor <;> first | exact (fun _ => rfl) | (intro h; simp at h) | (intro h h2; simp at h)
  · rintro L i o ho hLi haf b w hf hc K hK
    have hdep := ops_deps addDep (by kernel_rfl) ho haf
    clear haf
    have hs : addOps.size = 13 := rfl
    have hlt : i < 13 := hs ▸ (Array.getElem?_eq_some_iff.1 ho).1
    have hcases : i = 0 ∨ i = 1 ∨ i = 2 ∨ i = 3 ∨ i = 4 ∨ i = 5 ∨ i = 6 ∨ i = 7 ∨ i = 8 ∨ i = 9 ∨ i = 10 ∨ i = 11 ∨ i = 12 := by omega
    rcases hcases with rfl | rfl | rfl | rfl | rfl | rfl | rfl | rfl | rfl | rfl | rfl | rfl | rfl
    · have h1 : (addOps[0]?).map (·.dst) = some (some 17) := by kernel_rfl
      have h2 : (addOps[0]?).map (·.op) = some (.move (.tmp 0)) := by kernel_rfl
      rw [ho] at h1 h2
      replace h1 := Option.some.inj h1
      replace h2 := Option.some.inj h2
      simp only at h1 h2
      rw [h1] at hK
      refine wp_moveG _ h2 _ ((hf 0 (by decide)).trans a0) ?_
      rw [h1]
      exact hK _ _ (add_0 hc)
    · have h1 : (addOps[1]?).map (·.dst) = some (some 18) := by kernel_rfl
      have h2 : (addOps[1]?).map (·.op) = some (.move (.tmp 0)) := by kernel_rfl
      rw [ho] at h1 h2
      replace h1 := Option.some.inj h1
      replace h2 := Option.some.inj h2
      simp only at h1 h2
      rw [h1] at hK
      refine wp_moveG _ h2 _ ((hf 0 (by decide)).trans a0) ?_
      rw [h1]
      exact hK _ _ (add_1 hc)
    · have h1 : (addOps[2]?).map (·.dst) = some (some 19) := by kernel_rfl
      have h2 : (addOps[2]?).map (·.op) = some (.nilCheck (.tmp 18)) := by kernel_rfl
      rw [ho] at h1 h2
      replace h1 := Option.some.inj h1
      replace h2 := Option.some.inj h2
      simp only at h1 h2
      rw [h1] at hK
      have l1 : L 1 = true := hdep 1 (by simp [addDep])
      refine wp_nilG2 _ h2 _ (hc.v1 l1) ?_
      rw [h1]
      exact hK _ _ (add_2 hc)
    · have h1 : (addOps[3]?).map (·.dst) = some (some 20) := by kernel_rfl
      have h2 : (addOps[3]?).map (·.op) = some (.fieldAddr 32 (.tmp 19) 0) := by kernel_rfl
      rw [ho] at h1 h2
      replace h1 := Option.some.inj h1
      replace h2 := Option.some.inj h2
      simp only at h1 h2
      rw [h1] at hK
      have l2 : L 2 = true := hdep 2 (by simp [addDep])
      refine wp_fieldG _ _ _ h2 _ _ (hc.v2 l2) (field_0M pb w) ?_
      rw [h1]
      exact hK _ _ (add_3 hc)
    · have h1 : (addOps[4]?).map (·.dst) = some (some 21) := by kernel_rfl
      have h2 : (addOps[4]?).map (·.op) = some (.fieldAddr 24 (.tmp 20) 0) := by kernel_rfl
      rw [ho] at h1 h2
      replace h1 := Option.some.inj h1
      replace h2 := Option.some.inj h2
      simp only at h1 h2
      rw [h1] at hK
      have l3 : L 3 = true := hdep 3 (by simp [addDep])
      refine wp_fieldG _ _ _ h2 _ _ (hc.v3 l3) (field_0P pb w) ?_
      rw [h1]
      exact hK _ _ (add_4 hc)
    · have h1 : (addOps[5]?).map (·.dst) = some (some 22) := by kernel_rfl
      have h2 : (addOps[5]?).map (·.op) = some (.load 22 (.tmp 21)) := by kernel_rfl
      rw [ho] at h1 h2
      replace h1 := Option.some.inj h1
      replace h2 := Option.some.inj h2
      simp only at h1 h2
      rw [h1] at hK
      have l4 : L 4 = true := hdep 4 (by simp [addDep])
      have hcell : w.cell? ⟨pb, 0, none⟩ = some (.slice A n cc) := by
        cases h7 : L 7 with
        | false => rw [hc.w0 h7]; exact hB
        | true =>
          cases h8 : L 8 with
          | false => rw [hc.w7 h7 h8]; exact (World.cell?_of_block (w := W.drew) (a := ⟨pb, 0, none⟩) (hal.block pb hpb)).trans hB
          | true => exact absurd (hc.d5 h8) (by rw [hLi]; decide)
      refine wp_loadG _ _ h2 _ _ (hc.v4 l4) (load_slS hcell) ?_
      rw [h1]
      exact hK _ _ (add_5 hc)
    · have h1 : (addOps[6]?).map (·.dst) = some (some 23) := by kernel_rfl
      have h2 : (addOps[6]?).map (·.op) = some (.load 37 (.tmp 3)) := by kernel_rfl
      rw [ho] at h1 h2
      replace h1 := Option.some.inj h1
      replace h2 := Option.some.inj h2
      simp only at h1 h2
      rw [h1] at hK
      cases h7 : L 7 with
      | true => exact absurd (hc.d6 h7) (by rw [hLi]; decide)
      | false =>
      obtain rfl := hc.w0 h7
      refine wp_load_row 37 (.tmp 3) h2 pn ((hf 3 (by decide)).trans a3) 37 X (0, 0) _ (show W.heap[pn]? = _ by have := hN; unfold Blk at this; simpa using this) Tryd.underlying37 rfl (by rw [hX]; kernel_rfl) ?_
      rw [h1]
      exact hK _ _ (add_6 hc)
    · have h1 : (addOps[7]?).map (·.dst) = some (some 24) := by kernel_rfl
      have h2 : (addOps[7]?).map (·.op) = some (.buildSlice 22 1 #[(0, .tmp 23)]) := by kernel_rfl
      rw [ho] at h1 h2
      replace h1 := Option.some.inj h1
      replace h2 := Option.some.inj h2
      simp only at h1 h2
      rw [h1] at hK
      have l6 : L 6 = true := hdep 6 (by simp [addDep])
      obtain rfl := hc.w0 hLi
      refine wp_build1S 23 h2 X hX (hc.v6 l6) ?_
      rw [h1]
      exact hK _ _ (add_7 hc hLi l6)
    · have h1 : (addOps[8]?).map (·.dst) = some (some 25) := by kernel_rfl
      have h2 : (addOps[8]?).map (·.op) = some (.call { callee := .builtin .append, args := #[.tmp 22, .tmp 24], argTypes := #[22, 22] }) := by kernel_rfl
      have h4 : (addOps[8]?).map (·.type) = some 22 := by kernel_rfl
      rw [ho] at h1 h2 h4
      replace h1 := Option.some.inj h1
      replace h2 := Option.some.inj h2
      replace h4 := Option.some.inj h4
      simp only at h1 h2 h4
      rw [h1] at hK
      have l5 : L 5 = true := hdep 5 (by simp [addDep])
      have l7 : L 7 = true := hdep 7 (by simp [addDep])
      have hw7 := hc.w7 l7 hLi
      subst hw7
      refine wp_appS _ _ h2 h4 base (.slice A n cc) n xs (hc.v5 l5) (owns_chg (a := W.drew) hown (Chg.of_below hal (fun _ => False)) (fun _ _ h => h)) W.drew.heap.size X.toList (by simpa using hX) hX1 (hc.v7 l7) (by unfold Blk; simpa using heap_alloc_new W.drew _) hn (Nat.le_trans hbase hal.size) ?_
      intro v w2 hown2 hgr hat
      rw [h1]
      exact hK _ _ (add_8 hc l7 l5 hLi (hR8 v w2 hown2 hgr (by rw [World.size_alloc] at hat; exact hat)))
    · have h1 : (addOps[9]?).map (·.dst) = some (some 26) := by kernel_rfl
      have h2 : (addOps[9]?).map (·.op) = some (.nilCheck (.tmp 17)) := by kernel_rfl
      rw [ho] at h1 h2
      replace h1 := Option.some.inj h1
      replace h2 := Option.some.inj h2
      simp only at h1 h2
      rw [h1] at hK
      have l0 : L 0 = true := hdep 0 (by simp [addDep])
      refine wp_nilG2 _ h2 _ (hc.v0 l0) ?_
      rw [h1]
      exact hK _ _ (add_9 hc)
    · have h1 : (addOps[10]?).map (·.dst) = some (some 27) := by kernel_rfl
      have h2 : (addOps[10]?).map (·.op) = some (.fieldAddr 32 (.tmp 26) 0) := by kernel_rfl
      rw [ho] at h1 h2
      replace h1 := Option.some.inj h1
      replace h2 := Option.some.inj h2
      simp only at h1 h2
      rw [h1] at hK
      have l9 : L 9 = true := hdep 9 (by simp [addDep])
      refine wp_fieldG _ _ _ h2 _ _ (hc.v9 l9) (field_0M pb w) ?_
      rw [h1]
      exact hK _ _ (add_10 hc)
    · have h1 : (addOps[11]?).map (·.dst) = some (some 28) := by kernel_rfl
      have h2 : (addOps[11]?).map (·.op) = some (.fieldAddr 24 (.tmp 27) 0) := by kernel_rfl
      rw [ho] at h1 h2
      replace h1 := Option.some.inj h1
      replace h2 := Option.some.inj h2
      simp only at h1 h2
      rw [h1] at hK
      have l10 : L 10 = true := hdep 10 (by simp [addDep])
      refine wp_fieldG _ _ _ h2 _ _ (hc.v10 l10) (field_0P pb w) ?_
      rw [h1]
      exact hK _ _ (add_11 hc)
    · have h1 : (addOps[12]?).map (·.dst) = some none := by kernel_rfl
      have h2 : (addOps[12]?).map (·.op) = some (.store 22 (.tmp 28) (.tmp 25)) := by kernel_rfl
      rw [ho] at h1 h2
      replace h1 := Option.some.inj h1
      replace h2 := Option.some.inj h2
      simp only at h1 h2
      rw [h1] at hK
      have l11 : L 11 = true := hdep 11 (by simp [addDep])
      have l8 : L 8 = true := hdep 8 (by simp [addDep])
      have l7 := hc.d7 l8
      have h9 := hc.w8 l8 hLi
      obtain ⟨⟨A', c', hv⟩, ⟨u, hu⟩, hfz, h13⟩ := hR12 _ _ h9
      rw [hv] at h13
      refine wp_storeS _ _ h2 ⟨pb, 0, none⟩ (hc.v11 l11) A' (n + 1) c' hv u hu hfz ?_
      rw [h1]
      exact hK _ _ (add_12 hc l7 l8 h13)
  · rintro L b w hL hd hs hf hc
    have hsz2 : addOps.size = 13 := rfl
    rw [hsz2] at hL
    have e := act_eq (a := A0) (b := b) (addUs (Act.at b)) hd hs hf (by
      intro p hp
      simp only [addUs, List.mem_cons, List.not_mem_nil, or_false] at hp
      rcases hp with rfl | rfl | rfl | rfl | rfl | rfl | rfl | rfl | rfl | rfl | rfl | rfl <;> rfl) (by rw [show (addUs (Act.at b)).map (·.1) = [17, 18, 19, 20, 21, 22, 23, 24, 25, 26, 27, 28] from rfl]; decide)
    rw [e]
    exact hk (Act.at b) w (hc.w12 (hL 12 (by omega)))
end Go.Proofs.YtpbkdokhlimpfaaDoor
