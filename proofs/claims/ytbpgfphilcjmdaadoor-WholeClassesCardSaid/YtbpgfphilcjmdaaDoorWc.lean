/- WholeClasses: its steps in open order: what is read of the first text, and the question whether a set's text is small. -/
import Derived.Test.YtbpgfphilcjmdaaDoorFun
import Derived.Test.YtbpgfphilcjmdaaDoorRl
import Derived.Test.YtbpgfphilcjmdaaDoorRB6
import Derived.Test.YtbpgfphilcjmdaaDoorText2
namespace Go.Proofs.YtbpgfphilcjmdaaDoor
open Go.RowKit

def wcOps : Array Oper := #[{ dst := some 40, op := Op.load 40 (Operand.tmp 2), type := 40, pos := "top03.go:17", after := #[], guard := none }, { dst := some 41, op := Op.call { callee := Callee.value (Operand.func 15), args := #[Operand.tmp 40], argTypes := #[40] }, type := 9, pos := "top03.go:17", after := #[{ on := 0, ground := Ground.data }], guard := none }, { dst := some 42, op := Op.binOp BinOp.add 9 (Operand.tmp 41) (Operand.const (Value.string { data := #[124] })) 9, type := 9, pos := "top03.go:17", after := #[{ on := 1, ground := Ground.data }], guard := none }, { dst := some 43, op := Op.load 40 (Operand.tmp 2), type := 40, pos := "top03.go:17", after := #[], guard := none }, { dst := some 44, op := Op.call { callee := Callee.value (Operand.func 17), args := #[Operand.tmp 43], argTypes := #[40] }, type := 40, pos := "top03.go:17", after := #[{ on := 3, ground := Ground.data }, { on := 1, ground := Ground.chain }], guard := none }, { dst := some 45, op := Op.call { callee := Callee.value (Operand.func 15), args := #[Operand.tmp 44], argTypes := #[40] }, type := 9, pos := "top03.go:17", after := #[{ on := 4, ground := Ground.data }, { on := 4, ground := Ground.chain }], guard := none }, { dst := some 46, op := Op.binOp BinOp.add 9 (Operand.tmp 42) (Operand.tmp 45) 9, type := 9, pos := "top03.go:17", after := #[{ on := 2, ground := Ground.data }, { on := 5, ground := Ground.data }], guard := none }, { dst := some 47, op := Op.call { callee := Callee.value (Operand.func 8), args := #[Operand.tmp 46], argTypes := #[9] }, type := 31, pos := "top03.go:17", after := #[{ on := 6, ground := Ground.data }, { on := 5, ground := Ground.chain }], guard := none }, { dst := some 39, op := Op.move (Operand.tmp 47), type := 31, pos := "top03.go:17", after := #[{ on := 7, ground := Ground.data }], guard := none }, { dst := some 48, op := Op.extract (Operand.tmp 39) 0, type := 27, pos := "top03.go:17", after := #[{ on := 8, ground := Ground.data }], guard := none }, { dst := some 49, op := Op.extract (Operand.tmp 39) 1, type := 30, pos := "top03.go:17", after := #[{ on := 8, ground := Ground.data }, { on := 13, ground := Ground.gcOnly Departure.lateStores }], guard := none }, { dst := some 5, op := Op.alloc 27, type := 0, pos := "top03.go:17", after := #[], guard := none }, { dst := some 6, op := Op.alloc 30, type := 0, pos := "top03.go:17", after := #[], guard := none }, { dst := none, op := Op.store 27 (Operand.tmp 5) (Operand.tmp 48), type := 0, pos := "top03.go:17", after := #[{ on := 11, ground := Ground.data }, { on := 9, ground := Ground.data }, { on := 7, ground := Ground.chain }, { on := 0, ground := Ground.phase }, { on := 1, ground := Ground.phase }, { on := 2, ground := Ground.phase }, { on := 3, ground := Ground.phase }, { on := 4, ground := Ground.phase }, { on := 5, ground := Ground.phase }, { on := 6, ground := Ground.phase }, { on := 7, ground := Ground.phase }, { on := 8, ground := Ground.phase }, { on := 9, ground := Ground.phase }, { on := 10, ground := Ground.textOnly Departure.lateStores }, { on := 11, ground := Ground.phase }, { on := 12, ground := Ground.phase }], guard := none }, { dst := none, op := Op.store 30 (Operand.tmp 6) (Operand.tmp 49), type := 0, pos := "top03.go:17", after := #[{ on := 12, ground := Ground.data }, { on := 10, ground := Ground.data }, { on := 13, ground := Ground.chain }, { on := 0, ground := Ground.phase }, { on := 1, ground := Ground.phase }, { on := 2, ground := Ground.phase }, { on := 3, ground := Ground.phase }, { on := 4, ground := Ground.phase }, { on := 5, ground := Ground.phase }, { on := 6, ground := Ground.phase }, { on := 7, ground := Ground.phase }, { on := 8, ground := Ground.phase }, { on := 9, ground := Ground.phase }, { on := 10, ground := Ground.phase }, { on := 11, ground := Ground.phase }, { on := 12, ground := Ground.phase }, { on := 13, ground := Ground.phase }], guard := none }]
def rpP (W1 : World) (l11 l12 : Bool) (v5 v6 : Value) (b : Nat) : Prop := W1.heap.size ≤ b ∧ (l11 = true → v5 ≠ .pointer (some ⟨b, 0, none⟩)) ∧ (l12 = true → v6 ≠ .pointer (some ⟨b, 0, none⟩))
structure C5 (a : BS) (t : RT) (W1 : World) (x : RV) (L : Nat → Bool) (f : Nat → Value) (w : World) : Prop where
  bel : Below W1.heap.size W1 w
  v0 : L 0 = true → f 40 = setV a
  v1 : L 1 = true → f 41 = .string ⟨(textL a).toArray⟩
  v2 : L 2 = true → f 42 = .string ⟨(textL a ++ [124]).toArray⟩
  v3 : L 3 = true → f 43 = setV a
  v4 : L 4 = true → f 44 = setV (~~~a)
  v5 : L 5 = true → f 45 = .string ⟨(textL (~~~a)).toArray⟩
  v6 : L 6 = true → f 46 = .string ⟨(textL a ++ 124 :: textL (~~~a)).toArray⟩
  v7 : L 7 = true → f 47 = .tuple #[x.val, .agg (faultC 0 0)]
  rep : L 7 = true → Rep w (rpP W1 (L 11) (L 12) (f 5) (f 6)) x t
  v8 : L 8 = true → f 39 = .tuple #[x.val, .agg (faultC 0 0)]
  v9 : L 9 = true → f 48 = .agg x.cells.toArray
  v10 : L 10 = true → f 49 = .agg (faultC 0 0)
  bA : L 11 = true → ∃ A cs, f 5 = .pointer (some ⟨A, 0, none⟩) ∧ W1.heap.size ≤ A ∧ cs.length = 8 ∧ Blk w A 27 cs ∧ (L 13 = true → cs = x.cells)
  bB : L 12 = true → ∃ B cs, f 6 = .pointer (some ⟨B, 0, none⟩) ∧ W1.heap.size ≤ B ∧ cs.length = 2 ∧ Blk w B 30 cs ∧ (L 14 = true → cs = (faultC 0 0).toList)
  d8 : L 8 = true → L 7 = true
  d9 : L 9 = true → L 7 = true
  d10 : L 10 = true → L 7 = true
  d13 : L 13 = true → L 11 = true ∧ L 7 = true
  d14 : L 14 = true → L 12 = true ∧ L 7 = true
theorem c5_0 {a : BS} {t : RT} {W1 : World} {x : RV} {L : Nat → Bool} {f : Nat → Value} {w w' : World} (h : C5 a t W1 x L f w) (hb : Below w.heap.size w w') : C5 a t W1 x (fun j => if j = 0 then true else L j) (fun t => if (some 40 : Option Nat) = some t then setV a else f t) w' where
    bel := h.bel.trans (hb.mono h.bel.size)
    v0 := fun _ => by simp
    v1 := by simpa using h.v1
    v2 := by simpa using h.v2
    v3 := by simpa using h.v3
    v4 := by simpa using h.v4
    v5 := by simpa using h.v5
    v6 := by simpa using h.v6
    v7 := by simpa using h.v7
    rep := fun hl => by simpa using (h.rep (by simpa using hl)).keep hb
    v8 := by simpa using h.v8
    v9 := by simpa using h.v9
    v10 := by simpa using h.v10
    bA := fun hl => by obtain ⟨A, cs, e, hA, h8, hB, hs⟩ := h.bA (by simpa using hl); exact ⟨A, cs, by simpa using e, hA, h8, hB.keep hb, by simpa using hs⟩
    bB := fun hl => by obtain ⟨A, cs, e, hA, h8, hB, hs⟩ := h.bB (by simpa using hl); exact ⟨A, cs, by simpa using e, hA, h8, hB.keep hb, by simpa using hs⟩
    d8 := by simpa using h.d8
    d9 := by simpa using h.d9
    d10 := by simpa using h.d10
    d13 := by simpa using h.d13
    d14 := by simpa using h.d14
theorem c5_1 {a : BS} {t : RT} {W1 : World} {x : RV} {L : Nat → Bool} {f : Nat → Value} {w w' : World} (h : C5 a t W1 x L f w) (hb : Below w.heap.size w w') : C5 a t W1 x (fun j => if j = 1 then true else L j) (fun t => if (some 41 : Option Nat) = some t then .string ⟨(textL a).toArray⟩ else f t) w' where
    bel := h.bel.trans (hb.mono h.bel.size)
    v0 := by simpa using h.v0
    v1 := fun _ => by simp
    v2 := by simpa using h.v2
    v3 := by simpa using h.v3
    v4 := by simpa using h.v4
    v5 := by simpa using h.v5
    v6 := by simpa using h.v6
    v7 := by simpa using h.v7
    rep := fun hl => by simpa using (h.rep (by simpa using hl)).keep hb
    v8 := by simpa using h.v8
    v9 := by simpa using h.v9
    v10 := by simpa using h.v10
    bA := fun hl => by obtain ⟨A, cs, e, hA, h8, hB, hs⟩ := h.bA (by simpa using hl); exact ⟨A, cs, by simpa using e, hA, h8, hB.keep hb, by simpa using hs⟩
    bB := fun hl => by obtain ⟨A, cs, e, hA, h8, hB, hs⟩ := h.bB (by simpa using hl); exact ⟨A, cs, by simpa using e, hA, h8, hB.keep hb, by simpa using hs⟩
    d8 := by simpa using h.d8
    d9 := by simpa using h.d9
    d10 := by simpa using h.d10
    d13 := by simpa using h.d13
    d14 := by simpa using h.d14
theorem c5_2 {a : BS} {t : RT} {W1 : World} {x : RV} {L : Nat → Bool} {f : Nat → Value} {w w' : World} (h : C5 a t W1 x L f w) (hb : Below w.heap.size w w') : C5 a t W1 x (fun j => if j = 2 then true else L j) (fun t => if (some 42 : Option Nat) = some t then .string ⟨(textL a ++ [124]).toArray⟩ else f t) w' where
    bel := h.bel.trans (hb.mono h.bel.size)
    v0 := by simpa using h.v0
    v1 := by simpa using h.v1
    v2 := fun _ => by simp
    v3 := by simpa using h.v3
    v4 := by simpa using h.v4
    v5 := by simpa using h.v5
    v6 := by simpa using h.v6
    v7 := by simpa using h.v7
    rep := fun hl => by simpa using (h.rep (by simpa using hl)).keep hb
    v8 := by simpa using h.v8
    v9 := by simpa using h.v9
    v10 := by simpa using h.v10
    bA := fun hl => by obtain ⟨A, cs, e, hA, h8, hB, hs⟩ := h.bA (by simpa using hl); exact ⟨A, cs, by simpa using e, hA, h8, hB.keep hb, by simpa using hs⟩
    bB := fun hl => by obtain ⟨A, cs, e, hA, h8, hB, hs⟩ := h.bB (by simpa using hl); exact ⟨A, cs, by simpa using e, hA, h8, hB.keep hb, by simpa using hs⟩
    d8 := by simpa using h.d8
    d9 := by simpa using h.d9
    d10 := by simpa using h.d10
    d13 := by simpa using h.d13
    d14 := by simpa using h.d14
theorem c5_3 {a : BS} {t : RT} {W1 : World} {x : RV} {L : Nat → Bool} {f : Nat → Value} {w w' : World} (h : C5 a t W1 x L f w) (hb : Below w.heap.size w w') : C5 a t W1 x (fun j => if j = 3 then true else L j) (fun t => if (some 43 : Option Nat) = some t then setV a else f t) w' where
    bel := h.bel.trans (hb.mono h.bel.size)
    v0 := by simpa using h.v0
    v1 := by simpa using h.v1
    v2 := by simpa using h.v2
    v3 := fun _ => by simp
    v4 := by simpa using h.v4
    v5 := by simpa using h.v5
    v6 := by simpa using h.v6
    v7 := by simpa using h.v7
    rep := fun hl => by simpa using (h.rep (by simpa using hl)).keep hb
    v8 := by simpa using h.v8
    v9 := by simpa using h.v9
    v10 := by simpa using h.v10
    bA := fun hl => by obtain ⟨A, cs, e, hA, h8, hB, hs⟩ := h.bA (by simpa using hl); exact ⟨A, cs, by simpa using e, hA, h8, hB.keep hb, by simpa using hs⟩
    bB := fun hl => by obtain ⟨A, cs, e, hA, h8, hB, hs⟩ := h.bB (by simpa using hl); exact ⟨A, cs, by simpa using e, hA, h8, hB.keep hb, by simpa using hs⟩
    d8 := by simpa using h.d8
    d9 := by simpa using h.d9
    d10 := by simpa using h.d10
    d13 := by simpa using h.d13
    d14 := by simpa using h.d14
theorem c5_4 {a : BS} {t : RT} {W1 : World} {x : RV} {L : Nat → Bool} {f : Nat → Value} {w w' : World} (h : C5 a t W1 x L f w) (hb : Below w.heap.size w w') : C5 a t W1 x (fun j => if j = 4 then true else L j) (fun t => if (some 44 : Option Nat) = some t then setV (~~~a) else f t) w' where
    bel := h.bel.trans (hb.mono h.bel.size)
    v0 := by simpa using h.v0
    v1 := by simpa using h.v1
    v2 := by simpa using h.v2
    v3 := by simpa using h.v3
    v4 := fun _ => by simp
    v5 := by simpa using h.v5
    v6 := by simpa using h.v6
    v7 := by simpa using h.v7
    rep := fun hl => by simpa using (h.rep (by simpa using hl)).keep hb
    v8 := by simpa using h.v8
    v9 := by simpa using h.v9
    v10 := by simpa using h.v10
    bA := fun hl => by obtain ⟨A, cs, e, hA, h8, hB, hs⟩ := h.bA (by simpa using hl); exact ⟨A, cs, by simpa using e, hA, h8, hB.keep hb, by simpa using hs⟩
    bB := fun hl => by obtain ⟨A, cs, e, hA, h8, hB, hs⟩ := h.bB (by simpa using hl); exact ⟨A, cs, by simpa using e, hA, h8, hB.keep hb, by simpa using hs⟩
    d8 := by simpa using h.d8
    d9 := by simpa using h.d9
    d10 := by simpa using h.d10
    d13 := by simpa using h.d13
    d14 := by simpa using h.d14
theorem c5_5 {a : BS} {t : RT} {W1 : World} {x : RV} {L : Nat → Bool} {f : Nat → Value} {w w' : World} (h : C5 a t W1 x L f w) (hb : Below w.heap.size w w') : C5 a t W1 x (fun j => if j = 5 then true else L j) (fun t => if (some 45 : Option Nat) = some t then .string ⟨(textL (~~~a)).toArray⟩ else f t) w' where
    bel := h.bel.trans (hb.mono h.bel.size)
    v0 := by simpa using h.v0
    v1 := by simpa using h.v1
    v2 := by simpa using h.v2
    v3 := by simpa using h.v3
    v4 := by simpa using h.v4
    v5 := fun _ => by simp
    v6 := by simpa using h.v6
    v7 := by simpa using h.v7
    rep := fun hl => by simpa using (h.rep (by simpa using hl)).keep hb
    v8 := by simpa using h.v8
    v9 := by simpa using h.v9
    v10 := by simpa using h.v10
    bA := fun hl => by obtain ⟨A, cs, e, hA, h8, hB, hs⟩ := h.bA (by simpa using hl); exact ⟨A, cs, by simpa using e, hA, h8, hB.keep hb, by simpa using hs⟩
    bB := fun hl => by obtain ⟨A, cs, e, hA, h8, hB, hs⟩ := h.bB (by simpa using hl); exact ⟨A, cs, by simpa using e, hA, h8, hB.keep hb, by simpa using hs⟩
    d8 := by simpa using h.d8
    d9 := by simpa using h.d9
    d10 := by simpa using h.d10
    d13 := by simpa using h.d13
    d14 := by simpa using h.d14
theorem c5_6 {a : BS} {t : RT} {W1 : World} {x : RV} {L : Nat → Bool} {f : Nat → Value} {w w' : World} (h : C5 a t W1 x L f w) (hb : Below w.heap.size w w') : C5 a t W1 x (fun j => if j = 6 then true else L j) (fun t => if (some 46 : Option Nat) = some t then .string ⟨(textL a ++ 124 :: textL (~~~a)).toArray⟩ else f t) w' where
    bel := h.bel.trans (hb.mono h.bel.size)
    v0 := by simpa using h.v0
    v1 := by simpa using h.v1
    v2 := by simpa using h.v2
    v3 := by simpa using h.v3
    v4 := by simpa using h.v4
    v5 := by simpa using h.v5
    v6 := fun _ => by simp
    v7 := by simpa using h.v7
    rep := fun hl => by simpa using (h.rep (by simpa using hl)).keep hb
    v8 := by simpa using h.v8
    v9 := by simpa using h.v9
    v10 := by simpa using h.v10
    bA := fun hl => by obtain ⟨A, cs, e, hA, h8, hB, hs⟩ := h.bA (by simpa using hl); exact ⟨A, cs, by simpa using e, hA, h8, hB.keep hb, by simpa using hs⟩
    bB := fun hl => by obtain ⟨A, cs, e, hA, h8, hB, hs⟩ := h.bB (by simpa using hl); exact ⟨A, cs, by simpa using e, hA, h8, hB.keep hb, by simpa using hs⟩
    d8 := by simpa using h.d8
    d9 := by simpa using h.d9
    d10 := by simpa using h.d10
    d13 := by simpa using h.d13
    d14 := by simpa using h.d14
theorem c5_7 {a : BS} {t : RT} {W1 : World} {x : RV} {L : Nat → Bool} {f : Nat → Value} {w w' : World} {y : RV} (h : C5 a t W1 y L f w) (h7 : L 7 = false) (hb : Below w.heap.size w w') (hr : Rep w' (w.heap.size ≤ ·) x t) : C5 a t W1 x (fun j => if j = 7 then true else L j) (fun t => if (some 47 : Option Nat) = some t then (.tuple #[x.val, .agg (faultC 0 0)]) else f t) w' := by
  have e8 : L 8 = false := by cases hh : L 8 with | false => rfl | true => rw [h.d8 hh] at h7; cases h7
  have e9 : L 9 = false := by cases hh : L 9 with | false => rfl | true => rw [h.d9 hh] at h7; cases h7
  have e10 : L 10 = false := by cases hh : L 10 with | false => rfl | true => rw [h.d10 hh] at h7; cases h7
  have e13 : L 13 = false := by cases hh : L 13 with | false => rfl | true => rw [(h.d13 hh).2] at h7; cases h7
  have e14 : L 14 = false := by cases hh : L 14 with | false => rfl | true => rw [(h.d14 hh).2] at h7; cases h7
  exact {
    bel := h.bel.trans (hb.mono h.bel.size)
    v0 := by simpa using h.v0
    v1 := by simpa using h.v1
    v2 := by simpa using h.v2
    v3 := by simpa using h.v3
    v4 := by simpa using h.v4
    v5 := by simpa using h.v5
    v6 := by simpa using h.v6
    v7 := fun _ => by simp
    rep := fun _ => by
      refine hr.mono (Nat.le_refl _) (fun _ _ _ => rfl) (fun b hbb _ => ?_)
      refine ⟨Nat.le_trans h.bel.size hbb, fun hl he => ?_, fun hl he => ?_⟩
      · obtain ⟨A, cs, e, hA, h8, hB, hs⟩ := h.bA (by simpa using hl)
        have := hB.lt
        simp [e] at he
        try omega
      · obtain ⟨A, cs, e, hA, h8, hB, hs⟩ := h.bB (by simpa using hl)
        have := hB.lt
        simp [e] at he
        try omega
    v8 := by simp [e8]
    v9 := by simp [e9]
    v10 := by simp [e10]
    bA := fun hl => by obtain ⟨A, cs, e, hA, h8, hB, hs⟩ := h.bA (by simpa using hl); exact ⟨A, cs, by simpa using e, hA, h8, hB.keep hb, by simp [e13]⟩
    bB := fun hl => by obtain ⟨A, cs, e, hA, h8, hB, hs⟩ := h.bB (by simpa using hl); exact ⟨A, cs, by simpa using e, hA, h8, hB.keep hb, by simp [e14]⟩
    d8 := by simp
    d9 := by simp
    d10 := by simp
    d13 := by simp [e13]
    d14 := by simp [e14] }
theorem c5_8 {a : BS} {t : RT} {W1 : World} {x : RV} {L : Nat → Bool} {f : Nat → Value} {w w' : World} (h : C5 a t W1 x L f w) (h7 : L 7 = true) (hb : Below w.heap.size w w') : C5 a t W1 x (fun j => if j = 8 then true else L j) (fun t => if (some 39 : Option Nat) = some t then (.tuple #[x.val, .agg (faultC 0 0)]) else f t) w' where
    bel := h.bel.trans (hb.mono h.bel.size)
    v0 := by simpa using h.v0
    v1 := by simpa using h.v1
    v2 := by simpa using h.v2
    v3 := by simpa using h.v3
    v4 := by simpa using h.v4
    v5 := by simpa using h.v5
    v6 := by simpa using h.v6
    v7 := by simpa using h.v7
    rep := fun hl => by simpa using (h.rep (by simpa using hl)).keep hb
    v8 := fun _ => by simp
    v9 := by simpa using h.v9
    v10 := by simpa using h.v10
    bA := fun hl => by obtain ⟨A, cs, e, hA, h8, hB, hs⟩ := h.bA (by simpa using hl); exact ⟨A, cs, by simpa using e, hA, h8, hB.keep hb, by simpa using hs⟩
    bB := fun hl => by obtain ⟨A, cs, e, hA, h8, hB, hs⟩ := h.bB (by simpa using hl); exact ⟨A, cs, by simpa using e, hA, h8, hB.keep hb, by simpa using hs⟩
    d8 := fun _ => by simpa using h7
    d9 := by simpa using h.d9
    d10 := by simpa using h.d10
    d13 := by simpa using h.d13
    d14 := by simpa using h.d14
theorem c5_9 {a : BS} {t : RT} {W1 : World} {x : RV} {L : Nat → Bool} {f : Nat → Value} {w w' : World} (h : C5 a t W1 x L f w) (h7 : L 7 = true) (hb : Below w.heap.size w w') : C5 a t W1 x (fun j => if j = 9 then true else L j) (fun t => if (some 48 : Option Nat) = some t then (.agg x.cells.toArray) else f t) w' where
    bel := h.bel.trans (hb.mono h.bel.size)
    v0 := by simpa using h.v0
    v1 := by simpa using h.v1
    v2 := by simpa using h.v2
    v3 := by simpa using h.v3
    v4 := by simpa using h.v4
    v5 := by simpa using h.v5
    v6 := by simpa using h.v6
    v7 := by simpa using h.v7
    rep := fun hl => by simpa using (h.rep (by simpa using hl)).keep hb
    v8 := by simpa using h.v8
    v9 := fun _ => by simp
    v10 := by simpa using h.v10
    bA := fun hl => by obtain ⟨A, cs, e, hA, h8, hB, hs⟩ := h.bA (by simpa using hl); exact ⟨A, cs, by simpa using e, hA, h8, hB.keep hb, by simpa using hs⟩
    bB := fun hl => by obtain ⟨A, cs, e, hA, h8, hB, hs⟩ := h.bB (by simpa using hl); exact ⟨A, cs, by simpa using e, hA, h8, hB.keep hb, by simpa using hs⟩
    d8 := by simpa using h.d8
    d9 := fun _ => by simpa using h7
    d10 := by simpa using h.d10
    d13 := by simpa using h.d13
    d14 := by simpa using h.d14
theorem c5_10 {a : BS} {t : RT} {W1 : World} {x : RV} {L : Nat → Bool} {f : Nat → Value} {w w' : World} (h : C5 a t W1 x L f w) (h7 : L 7 = true) (hb : Below w.heap.size w w') : C5 a t W1 x (fun j => if j = 10 then true else L j) (fun t => if (some 49 : Option Nat) = some t then (.agg (faultC 0 0)) else f t) w' where
    bel := h.bel.trans (hb.mono h.bel.size)
    v0 := by simpa using h.v0
    v1 := by simpa using h.v1
    v2 := by simpa using h.v2
    v3 := by simpa using h.v3
    v4 := by simpa using h.v4
    v5 := by simpa using h.v5
    v6 := by simpa using h.v6
    v7 := by simpa using h.v7
    rep := fun hl => by simpa using (h.rep (by simpa using hl)).keep hb
    v8 := by simpa using h.v8
    v9 := by simpa using h.v9
    v10 := fun _ => by simp
    bA := fun hl => by obtain ⟨A, cs, e, hA, h8, hB, hs⟩ := h.bA (by simpa using hl); exact ⟨A, cs, by simpa using e, hA, h8, hB.keep hb, by simpa using hs⟩
    bB := fun hl => by obtain ⟨A, cs, e, hA, h8, hB, hs⟩ := h.bB (by simpa using hl); exact ⟨A, cs, by simpa using e, hA, h8, hB.keep hb, by simpa using hs⟩
    d8 := by simpa using h.d8
    d9 := by simpa using h.d9
    d10 := fun _ => by simpa using h7
    d13 := by simpa using h.d13
    d14 := by simpa using h.d14
theorem c5_11 {a : BS} {t : RT} {W1 : World} {x : RV} {L : Nat → Bool} {f : Nat → Value} {w : World} (h : C5 a t W1 x L f w) (hl : L 11 = false) : C5 a t W1 x (fun j => if j = 11 then true else L j) (fun t => if (some 5 : Option Nat) = some t then (.pointer (some ⟨w.heap.size, 0, none⟩)) else f t) (w.alloc (.cells (zeroR.toList).toArray 27)) := by
  have e13 : L 13 = false := by cases hh : L 13 with | false => rfl | true => rw [(h.d13 hh).1] at hl; cases hl
  have hb := (Below.refl w.heap.size w).alloc (Nat.le_refl _) (.cells (zeroR.toList).toArray 27)
  exact {
    bel := h.bel.trans (hb.mono h.bel.size)
    v0 := by simpa using h.v0
    v1 := by simpa using h.v1
    v2 := by simpa using h.v2
    v3 := by simpa using h.v3
    v4 := by simpa using h.v4
    v5 := by simpa using h.v5
    v6 := by simpa using h.v6
    v7 := by simpa using h.v7
    rep := fun hl7 => by
      refine (h.rep (by simpa using hl7)).mono hb.size (fun b _ hlt => hb.block b hlt) (fun b hbb hlt => ?_)
      obtain ⟨q1, q2, q3⟩ := hbb
      refine ⟨q1, ?_, ?_⟩
      · intro _ he
        simp at he
        try omega
      · simpa using q3
    v8 := by simpa using h.v8
    v9 := by simpa using h.v9
    v10 := by simpa using h.v10
    bA := fun _ => ⟨w.heap.size, zeroR.toList, by simp, h.bel.size, rfl, Blk.fresh w 27 _, by simp [e13]⟩
    bB := fun hl => by obtain ⟨A, cs, e, hA, h8, hB, hs⟩ := h.bB (by simpa using hl); exact ⟨A, cs, by simpa using e, hA, h8, hB.keep hb, by simpa using hs⟩
    d8 := by simpa using h.d8
    d9 := by simpa using h.d9
    d10 := by simpa using h.d10
    d13 := by simp [e13]
    d14 := by simpa using h.d14 }
theorem c5_12 {a : BS} {t : RT} {W1 : World} {x : RV} {L : Nat → Bool} {f : Nat → Value} {w : World} (h : C5 a t W1 x L f w) (hl : L 12 = false) : C5 a t W1 x (fun j => if j = 12 then true else L j) (fun t => if (some 6 : Option Nat) = some t then (.pointer (some ⟨w.heap.size, 0, none⟩)) else f t) (w.alloc (.cells ((faultC 0 0).toList).toArray 30)) := by
  have e13 : L 14 = false := by cases hh : L 14 with | false => rfl | true => rw [(h.d14 hh).1] at hl; cases hl
  have hb := (Below.refl w.heap.size w).alloc (Nat.le_refl _) (.cells ((faultC 0 0).toList).toArray 30)
  exact {
    bel := h.bel.trans (hb.mono h.bel.size)
    v0 := by simpa using h.v0
    v1 := by simpa using h.v1
    v2 := by simpa using h.v2
    v3 := by simpa using h.v3
    v4 := by simpa using h.v4
    v5 := by simpa using h.v5
    v6 := by simpa using h.v6
    v7 := by simpa using h.v7
    rep := fun hl7 => by
      refine (h.rep (by simpa using hl7)).mono hb.size (fun b _ hlt => hb.block b hlt) (fun b hbb hlt => ?_)
      obtain ⟨q1, q2, q3⟩ := hbb
      refine ⟨q1, ?_, ?_⟩
      · simpa using q2
      · intro _ he
        simp at he
        try omega
    v8 := by simpa using h.v8
    v9 := by simpa using h.v9
    v10 := by simpa using h.v10
    bA := fun hl => by obtain ⟨A, cs, e, hA, h8, hB, hs⟩ := h.bA (by simpa using hl); exact ⟨A, cs, by simpa using e, hA, h8, hB.keep hb, by simpa using hs⟩
    bB := fun _ => ⟨w.heap.size, (faultC 0 0).toList, by simp, h.bel.size, rfl, Blk.fresh w 30 _, by simp [e13]⟩
    d8 := by simpa using h.d8
    d9 := by simpa using h.d9
    d10 := by simpa using h.d10
    d13 := by simpa using h.d13
    d14 := by simp [e13] }
theorem c5_13 {a : BS} {t : RT} {W1 : World} {x : RV} {L : Nat → Bool} {f : Nat → Value} {w : World} {A : Nat} {ds : List Value} {v : Value} (h : C5 a t W1 x L f w) (hL : L 11 = true) (h7 : L 7 = true) (eA : f 5 = .pointer (some ⟨A, 0, none⟩)) (hA : W1.heap.size ≤ A) (hBk : Blk w A 27 ds) : C5 a t W1 x (fun j => if j = 13 then true else L j) (fun t => if (none : Option Nat) = some t then v else f t) (w.setRow A (x.cells).toArray) := by
  exact {
    bel := below_row h.bel hA _
    v0 := by simpa using h.v0
    v1 := by simpa using h.v1
    v2 := by simpa using h.v2
    v3 := by simpa using h.v3
    v4 := by simpa using h.v4
    v5 := by simpa using h.v5
    v6 := by simpa using h.v6
    v7 := by simpa using h.v7
    rep := fun hl7 => by
      have := (h.rep (by simpa using hl7)).mono (w' := w.setRow A (x.cells).toArray) (Q := rpP W1 (L 11) (L 12) (f 5) (f 6)) (by simp [World.setRow]) (fun b hbb _ => setRow_other w A b _ (by rintro rfl; exact hbb.2.1 hL eA)) (fun _ h _ => h)
      simpa using this
    v8 := by simpa using h.v8
    v9 := by simpa using h.v9
    v10 := by simpa using h.v10
    bA := fun _ => ⟨A, x.cells, by simpa using eA, hA, rfl, blk_row hBk (x.cells), by simp⟩
    bB := fun hl => by obtain ⟨B, cs, e, hB, h8, hk, hs⟩ := h.bB (by simpa using hl); exact ⟨B, cs, by simpa using e, hB, h8, (setRow_other w A B _ (by rintro rfl; unfold Blk at hk hBk; rw [hk] at hBk; injection hBk with hBk; injection hBk with _ h2; revert h2; decide)).trans hk, by simpa using hs⟩
    d8 := by simpa using h.d8
    d9 := by simpa using h.d9
    d10 := by simpa using h.d10
    d13 := fun _ => by simpa using ⟨hL, h7⟩
    d14 := by simpa using h.d14 }
theorem c5_14 {a : BS} {t : RT} {W1 : World} {x : RV} {L : Nat → Bool} {f : Nat → Value} {w : World} {A : Nat} {ds : List Value} {v : Value} (h : C5 a t W1 x L f w) (hL : L 12 = true) (h7 : L 7 = true) (eA : f 6 = .pointer (some ⟨A, 0, none⟩)) (hA : W1.heap.size ≤ A) (hBk : Blk w A 30 ds) : C5 a t W1 x (fun j => if j = 14 then true else L j) (fun t => if (none : Option Nat) = some t then v else f t) (w.setRow A ((faultC 0 0).toList).toArray) := by
  exact {
    bel := below_row h.bel hA _
    v0 := by simpa using h.v0
    v1 := by simpa using h.v1
    v2 := by simpa using h.v2
    v3 := by simpa using h.v3
    v4 := by simpa using h.v4
    v5 := by simpa using h.v5
    v6 := by simpa using h.v6
    v7 := by simpa using h.v7
    rep := fun hl7 => by
      have := (h.rep (by simpa using hl7)).mono (w' := w.setRow A ((faultC 0 0).toList).toArray) (Q := rpP W1 (L 11) (L 12) (f 5) (f 6)) (by simp [World.setRow]) (fun b hbb _ => setRow_other w A b _ (by rintro rfl; exact hbb.2.2 hL eA)) (fun _ h _ => h)
      simpa using this
    v8 := by simpa using h.v8
    v9 := by simpa using h.v9
    v10 := by simpa using h.v10
    bA := fun hl => by obtain ⟨B, cs, e, hB, h8, hk, hs⟩ := h.bA (by simpa using hl); exact ⟨B, cs, by simpa using e, hB, h8, (setRow_other w A B _ (by rintro rfl; unfold Blk at hk hBk; rw [hk] at hBk; injection hBk with hBk; injection hBk with _ h2; revert h2; decide)).trans hk, by simpa using hs⟩
    bB := fun _ => ⟨A, (faultC 0 0).toList, by simpa using eA, hA, rfl, blk_row hBk ((faultC 0 0).toList), by simp⟩
    d8 := by simpa using h.d8
    d9 := by simpa using h.d9
    d10 := by simpa using h.d10
    d13 := by simpa using h.d13
    d14 := fun _ => by simpa using ⟨hL, h7⟩ }
end Go.Proofs.YtbpgfphilcjmdaaDoor

namespace Go.Proofs.YtbpgfphilcjmdaaDoor
open Go.RowKit

section
variable {P : Program} {o : Oper} {a : Act} {w : World} {K : Act → World → Prop} {Q : Exit → Act → World → Prop}
theorem wp_callG (f : FuncId) (args : Array Operand) (tys : Array TypeId) (ho : o.op = .call { callee := .value (.func f), args := args, argTypes := tys })
    (he : ∀ args w, (callFunc f args).run P w = .ok (.enter f args) w) (vs : Array Value) (hvs : args.map a.eval = vs) (R : Value → World → Prop) (h : Calls P f vs w fun e w' => ∃ v, e = .returned v ∧ R v w') (hk : ∀ v w', R v w' → K (a.put o.dst v) w') : o.wp P a w K Q := by
  unfold Oper.wp
  have e : (execOp a.eval o).run P w = .ok (.enter f (args.map a.eval)) w := by
    unfold execOp
    simp only [ho]
    go_simp
  rw [e, Oper.upon_enter, hvs]
  refine h.mono ?_
  rintro _ w' ⟨v, rfl, hr⟩
  exact hk v w' hr
theorem wp_moveG (x : Operand) (ho : o.op = .move x) (v : Value) (hx : a.eval x = v) (h : K (a.put o.dst v) w) : o.wp P a w K Q := by
  unfold Oper.wp
  have e : (execOp a.eval o).run P w = .ok (.value v) w := by
    unfold execOp
    simp only [ho, hx]
    go_simp
  rw [e]
  exact h
theorem wp_extractG (x : Operand) (n : Nat) (ho : o.op = .extract x n) (vs : Array Value) (hx : a.eval x = .tuple vs) (v : Value) (hv : vs[n]? = some v) (h : K (a.put o.dst v) w) : o.wp P a w K Q := by
  unfold Oper.wp
  have e : (execOp a.eval o).run P w = .ok (.value v) w := by
    unfold execOp
    simp only [ho, hx]
    simp [Instr.extract, hv]
  rw [e]
  exact h
theorem wp_binG (op : BinOp) (t1 t2 : TypeId) (x y : Operand) (ho : o.op = .binOp op t1 x y t2) (u v r : Value) (hx : a.eval x = u) (hy : a.eval y = v) (hg : (eqGuard op t1 x y u v).run P w = .ok () w) (hr : (binOp op t1 u v).run P w = .ok r w) (h : K (a.put o.dst r) w) : o.wp P a w K Q := by
  unfold Oper.wp
  have e : (execOp a.eval o).run P w = .ok (.value r) w := by
    unfold execOp
    simp only [ho, hx, hy]
    simp [hg, hr]
  rw [e]
  exact h
end
theorem wp_allocR {o : Oper} {a : Act} {w : World} {K : Act → World → Prop} {Q : Exit → Act → World → Prop} (ho : o.op = .alloc 27)
    (h : K (a.put o.dst (.pointer (some ⟨w.heap.size, 0, none⟩))) (w.alloc (.cells (zeroR.toList).toArray 27))) : o.wp Tryd.prog a w K Q := by
  unfold Oper.wp
  have e : (execOp a.eval o).run Tryd.prog w = .ok (.value (.pointer (some ⟨w.heap.size, 0, none⟩))) (w.alloc (.cells (zeroR.toList).toArray 27)) := by
    unfold execOp
    simp only [ho]
    go_simp
    rfl
  rw [e]
  exact h
theorem wp_allocFt {o : Oper} {a : Act} {w : World} {K : Act → World → Prop} {Q : Exit → Act → World → Prop} (ho : o.op = .alloc 30)
    (h : K (a.put o.dst (.pointer (some ⟨w.heap.size, 0, none⟩))) (w.alloc (.cells ((faultC 0 0).toList).toArray 30))) : o.wp Tryd.prog a w K Q := by
  unfold Oper.wp
  have e : (execOp a.eval o).run Tryd.prog w = .ok (.value (.pointer (some ⟨w.heap.size, 0, none⟩))) (w.alloc (.cells ((faultC 0 0).toList).toArray 30)) := by
    unfold execOp
    simp only [ho]
    go_simp
    rfl
  rw [e]
  exact h
theorem wf_ops2 {ops : Array Oper} (h : ((List.range ops.size).all fun i => match ops[i]? with | some o => o.guard.isNone && o.after.all (fun e => !Region.binds .any e || decide (e.on < i)) | none => true) = true) :
    ∀ (i : Nat) (o : Oper), ops[i]? = some o → o.guard = none ∧ ∀ e ∈ o.after, Region.binds .any e = true → e.on < i := by
  intro i o ho
  have hlt := (Array.getElem?_eq_some_iff.1 ho).1
  have := List.all_eq_true.1 h i (List.mem_range.2 hlt)
  rw [ho] at this
  simp only [Bool.and_eq_true, Option.isNone_iff_eq_none, Array.all_eq_true_iff_forall_mem] at this
  refine ⟨this.1, fun e he hb => ?_⟩
  have h2 := this.2 e he
  rw [hb] at h2
  simpa using h2
theorem ops_deps {ops : Array Oper} (dep : Nat → List Nat) (h : ((List.range ops.size).all fun i => match ops[i]? with | some o => (dep i).all fun d => o.after.any fun e => decide (e.on = d) && Region.binds .any e | none => true) = true) {i : Nat} {o : Oper} (ho : ops[i]? = some o)
    {L : Nat → Bool} (haf : ∀ e ∈ o.after, Region.binds .any e = true → L e.on = true) : ∀ d ∈ dep i, L d = true := by
  intro d hd
  have h1 := List.all_eq_true.1 h i (List.mem_range.2 (Array.getElem?_eq_some_iff.1 ho).1)
  rw [ho] at h1
  have h2 := List.all_eq_true.1 h1 d hd
  obtain ⟨e, he, hb⟩ : ∃ e, e ∈ o.after ∧ (e.on = d ∧ Region.binds .any e = true) := by
    obtain ⟨n, hn, hb⟩ := Array.any_eq_true.1 h2
    simp only [Bool.and_eq_true, decide_eq_true_eq] at hb
    exact ⟨_, Array.getElem_mem hn, hb⟩
  rw [← hb.1]
  exact haf e he hb.2
theorem ops_dst {ops : Array Oper} (slots : List Nat) (n : Nat) (h : ((List.range ops.size).all fun i => match ops[i]? with | some o => (match o.dst with | some t => slots.contains t && decide (t < n) | none => true) | none => true) = true) : ∀ (i : Nat) (o : Oper), ops[i]? = some o → ∀ t, o.dst = some t → t ∈ slots ∧ t < n := by
  intro i o ho t ht
  have h1 := List.all_eq_true.1 h i (List.mem_range.2 (Array.getElem?_eq_some_iff.1 ho).1)
  rw [ho] at h1
  simp only [ht, Bool.and_eq_true, List.contains_iff_mem, decide_eq_true_eq] at h1
  exact h1
def wcDep : Nat → List Nat := fun i => match i with | 1 => [0] | 2 => [1] | 4 => [3] | 5 => [4] | 6 => [2, 5] | 7 => [6] | 8 => [7] | 9 => [8] | 10 => [8] | 13 => [11, 9] | 14 => [12, 10] | _ => []
theorem enters_text5 : ∀ args w, (callFunc 15 args).run Tryd.prog w = .ok (.enter 15 args) w := enters_of Tryd.func15 (by kernel_rfl) rfl
theorem enters_not5 : ∀ args w, (callFunc 17 args).run Tryd.prog w = .ok (.enter 17 args) w := enters_of Tryd.func17 (by kernel_rfl) rfl
theorem enters_parse5 : ∀ args w, (callFunc 8 args).run Tryd.prog w = .ok (.enter 8 args) w := enters_of Tryd.func8 (by kernel_rfl) rfl
def wcUs (a : BS) (x : RV) (A B : Nat) : List (Nat × Value) := [(5, .pointer (some ⟨A, 0, none⟩)), (6, .pointer (some ⟨B, 0, none⟩)), (39, .tuple #[x.val, .agg (faultC 0 0)]), (40, setV a), (41, .string ⟨(textL a).toArray⟩), (42, .string ⟨(textL a ++ [124]).toArray⟩), (43, setV a), (44, setV (~~~a)), (45, .string ⟨(textL (~~~a)).toArray⟩), (46, .string ⟨(textL a ++ 124 :: textL (~~~a)).toArray⟩), (47, .tuple #[x.val, .agg (faultC 0 0)]), (48, .agg x.cells.toArray), (49, .agg (faultC 0 0))]
set_option maxRecDepth 10000 in
theorem reg5 {a : BS} {t : RT} {W : World} {bx : Nat} {A0 : Act} {Q : Exit → Act → World → Prop} {id : Nat} (hbox : Act.at A0 2 = .pointer (some ⟨bx, 0, none⟩)) (hsz : 50 ≤ A0.tmps.size) (hT : TabAt W) (hB : Blk W bx 40 (setL a))
    (hp : pParse (textL a ++ 124 :: textL (~~~a)) = .ok t) (hl : (textL a).length + (textL (~~~a)).length ≤ 1000000)
    (hk : ∀ (x : RV) A B w', Below W.heap.size W w' → W.heap.size ≤ A → W.heap.size ≤ B → Blk w' A 27 x.cells → Blk w' B 30 (faultC 0 0).toList → Rep w' (fun b => W.heap.size ≤ b ∧ b ≠ A ∧ b ≠ B) x t → Q .normal ⟨(wcUs a x A B).foldl (fun A p => A.setIfInBounds p.1 p.2) A0.tmps, A0.defers⟩ w') :
    (Code.region id wcOps true).wp Tryd.prog Q A0 W := by
  have HP := hid hp
  have HL := hid hl
  clear hp hl
  refine wp_region_fun (by kernel_rfl) (fun L f w => ∃ x, C5 a t W.drew x L f w) [5, 6, 39, 40, 41, 42, 43, 44, 45, 46, 47, 48, 49] (wf_ops2 (by kernel_rfl)) (fun i o ho u hu => ?_) ?_ ?_ ?_
  · have := ops_dst [5, 6, 39, 40, 41, 42, 43, 44, 45, 46, 47, 48, 49] 50 (by kernel_rfl) i o ho u hu
    exact ⟨this.1, Nat.lt_of_lt_of_le this.2 hsz⟩
  · refine ⟨RV.zero, ?_⟩
    have hs : wcOps.size = 15 := rfl
    rw [hs]
    constructor <;> first | exact Below.refl _ _ | (intro h; simp at h)
  · rintro L i o ho hLi haf b w hf ⟨x, hc⟩ K hK
    have hdep := ops_deps wcDep (by kernel_rfl) ho haf
    clear haf
    have hb2 : Act.at b 2 = .pointer (some ⟨bx, 0, none⟩) := (hf 2 (by decide)).trans hbox
    have hBw : Blk w bx 40 (setL a) := hc.bel.block bx hB.lt |>.trans hB
    have hTw : TabAt w := TabAt.keep (w := W.drew) hT hc.bel
    have hs : wcOps.size = 15 := rfl
    have hlt : i < 15 := hs ▸ (Array.getElem?_eq_some_iff.1 ho).1
    have hcases : i = 0 ∨ i = 1 ∨ i = 2 ∨ i = 3 ∨ i = 4 ∨ i = 5 ∨ i = 6 ∨ i = 7 ∨ i = 8 ∨ i = 9 ∨ i = 10 ∨ i = 11 ∨ i = 12 ∨ i = 13 ∨ i = 14 := by omega
    rcases hcases with rfl | rfl | rfl | rfl | rfl | rfl | rfl | rfl | rfl | rfl | rfl | rfl | rfl | rfl | rfl
    · have h1 : (wcOps[0]?).map (·.dst) = some ((some 40)) := by kernel_rfl
      have h2 : (wcOps[0]?).map (·.op) = some (.load 40 (.tmp 2)) := by kernel_rfl
      rw [ho] at h1 h2
      replace h1 := Option.some.inj h1
      replace h2 := Option.some.inj h2
      simp only at h1 h2
      rw [h1] at hK
      refine wp_load_row 40 (.tmp 2) h2 bx hb2 40 (setL a).toArray (0, 0) (.array 4 23) hBw (by kernel_rfl) rfl (set_info _) ?_
      rw [h1]
      exact hK _ _ ⟨x, c5_0 hc (Below.refl _ _)⟩
    · have h1 : (wcOps[1]?).map (·.dst) = some ((some 41)) := by kernel_rfl
      have h2 : (wcOps[1]?).map (·.op) = some (.call { callee := .value (.func 15), args := #[.tmp 40], argTypes := #[40] }) := by kernel_rfl
      rw [ho] at h1 h2
      replace h1 := Option.some.inj h1
      replace h2 := Option.some.inj h2
      simp only at h1 h2
      rw [h1] at hK
      have l0 : L 0 = true := hdep 0 (by simp [wcDep])
      refine wp_callG 15 _ _ h2 enters_text5 #[setV a] (by simp [show b.eval (.tmp 40) = _ from hc.v0 l0]) (fun v w' => v = .string ⟨(textL a).toArray⟩ ∧ Below w.heap.size w w') ((text_any a hTw).mono fun e w' h => ⟨_, h.1, rfl, h.2⟩) ?_
      rintro v w' ⟨rfl, hb⟩
      rw [h1]
      exact hK _ _ ⟨x, c5_1 hc hb⟩
    · have h1 : (wcOps[2]?).map (·.dst) = some ((some 42)) := by kernel_rfl
      have h2 : (wcOps[2]?).map (·.op) = some (.binOp .add 9 (.tmp 41) (.const (.string { data := #[124] })) 9) := by kernel_rfl
      rw [ho] at h1 h2
      replace h1 := Option.some.inj h1
      replace h2 := Option.some.inj h2
      simp only at h1 h2
      rw [h1] at hK
      have l1 : L 1 = true := hdep 1 (by simp [wcDep])
      refine wp_binG .add _ _ _ _ h2 (.string ⟨(textL a).toArray⟩) (.string ⟨([124] : List UInt8).toArray⟩) (.string ⟨(textL a ++ [124]).toArray⟩) (hc.v1 l1) rfl rfl (run_strAdd _ _ (by have := HL.out; simp; omega) w) ?_
      rw [h1]
      exact hK _ _ ⟨x, c5_2 hc (Below.refl _ _)⟩
    · have h1 : (wcOps[3]?).map (·.dst) = some ((some 43)) := by kernel_rfl
      have h2 : (wcOps[3]?).map (·.op) = some (.load 40 (.tmp 2)) := by kernel_rfl
      rw [ho] at h1 h2
      replace h1 := Option.some.inj h1
      replace h2 := Option.some.inj h2
      simp only at h1 h2
      rw [h1] at hK
      refine wp_load_row 40 (.tmp 2) h2 bx hb2 40 (setL a).toArray (0, 0) (.array 4 23) hBw (by kernel_rfl) rfl (set_info _) ?_
      rw [h1]
      exact hK _ _ ⟨x, c5_3 hc (Below.refl _ _)⟩
    · have h1 : (wcOps[4]?).map (·.dst) = some ((some 44)) := by kernel_rfl
      have h2 : (wcOps[4]?).map (·.op) = some (.call { callee := .value (.func 17), args := #[.tmp 43], argTypes := #[40] }) := by kernel_rfl
      rw [ho] at h1 h2
      replace h1 := Option.some.inj h1
      replace h2 := Option.some.inj h2
      simp only at h1 h2
      rw [h1] at hK
      have l3 : L 3 = true := hdep 3 (by simp [wcDep])
      refine wp_callG 17 _ _ h2 enters_not5 #[setV a] (by simp [show b.eval (.tmp 43) = _ from hc.v3 l3]) (fun v w' => v = setV (~~~a) ∧ Below w.heap.size w w') ((not_any a w).mono fun e w' h => ⟨_, h.1, rfl, h.2⟩) ?_
      rintro v w' ⟨rfl, hb⟩
      rw [h1]
      exact hK _ _ ⟨x, c5_4 hc hb⟩
    · have h1 : (wcOps[5]?).map (·.dst) = some ((some 45)) := by kernel_rfl
      have h2 : (wcOps[5]?).map (·.op) = some (.call { callee := .value (.func 15), args := #[.tmp 44], argTypes := #[40] }) := by kernel_rfl
      rw [ho] at h1 h2
      replace h1 := Option.some.inj h1
      replace h2 := Option.some.inj h2
      simp only at h1 h2
      rw [h1] at hK
      have l4 : L 4 = true := hdep 4 (by simp [wcDep])
      refine wp_callG 15 _ _ h2 enters_text5 #[setV (~~~a)] (by simp [show b.eval (.tmp 44) = _ from hc.v4 l4]) (fun v w' => v = .string ⟨(textL (~~~a)).toArray⟩ ∧ Below w.heap.size w w') ((text_any (~~~a) hTw).mono fun e w' h => ⟨_, h.1, rfl, h.2⟩) ?_
      rintro v w' ⟨rfl, hb⟩
      rw [h1]
      exact hK _ _ ⟨x, c5_5 hc hb⟩
    · have h1 : (wcOps[6]?).map (·.dst) = some ((some 46)) := by kernel_rfl
      have h2 : (wcOps[6]?).map (·.op) = some (.binOp .add 9 (.tmp 42) (.tmp 45) 9) := by kernel_rfl
      rw [ho] at h1 h2
      replace h1 := Option.some.inj h1
      replace h2 := Option.some.inj h2
      simp only at h1 h2
      rw [h1] at hK
      have l2 : L 2 = true := hdep 2 (by simp [wcDep])
      have l5 : L 5 = true := hdep 5 (by simp [wcDep])
      have e6 : (textL a ++ [124]) ++ textL (~~~a) = textL a ++ 124 :: textL (~~~a) := by simp
      refine wp_binG .add _ _ _ _ h2 (.string ⟨(textL a ++ ([124] : List UInt8)).toArray⟩) (.string ⟨(textL (~~~a)).toArray⟩) (.string ⟨(textL a ++ 124 :: textL (~~~a)).toArray⟩) (hc.v2 l2) (hc.v5 l5) rfl (by rw [← e6]; exact run_strAdd _ _ (by have := HL.out; simp; omega) w) ?_
      rw [h1]
      exact hK _ _ ⟨x, c5_6 hc (Below.refl _ _)⟩
    · have h1 : (wcOps[7]?).map (·.dst) = some ((some 47)) := by kernel_rfl
      have h2 : (wcOps[7]?).map (·.op) = some (.call { callee := .value (.func 8), args := #[.tmp 46], argTypes := #[9] }) := by kernel_rfl
      rw [ho] at h1 h2
      replace h1 := Option.some.inj h1
      replace h2 := Option.some.inj h2
      simp only at h1 h2
      rw [h1] at hK
      have l6 : L 6 = true := hdep 6 (by simp [wcDep])
      refine wp_callG 8 _ _ h2 enters_parse5 #[.string ⟨(textL a ++ 124 :: textL (~~~a)).toArray⟩] (by simp [show b.eval (.tmp 46) = _ from hc.v6 l6]) (fun v w' => ∃ y : RV, v = .tuple #[y.val, .agg (faultC 0 0)] ∧ Rep w' (w.heap.size ≤ ·) y t ∧ Below w.heap.size w w') ((parse_any _ w).mono fun e w' h => ?_) ?_
      · obtain ⟨hb, hr⟩ := h
        rw [show pParse (ByteArray.mk (textL a ++ 124 :: textL (~~~a)).toArray).data.toList = .ok t from HP.out] at hr
        obtain ⟨y, he, hr⟩ := hr
        exact ⟨_, he, y, rfl, hr, hb⟩
      rintro v w' ⟨y, rfl, hr, hb⟩
      rw [h1]
      exact hK _ _ ⟨y, c5_7 hc hLi hb hr⟩
    · have h1 : (wcOps[8]?).map (·.dst) = some ((some 39)) := by kernel_rfl
      have h2 : (wcOps[8]?).map (·.op) = some (.move (.tmp 47)) := by kernel_rfl
      rw [ho] at h1 h2
      replace h1 := Option.some.inj h1
      replace h2 := Option.some.inj h2
      simp only at h1 h2
      rw [h1] at hK
      have l7 : L 7 = true := hdep 7 (by simp [wcDep])
      refine wp_moveG _ h2 _ (hc.v7 l7) ?_
      rw [h1]
      exact hK _ _ ⟨x, c5_8 hc l7 (Below.refl _ _)⟩
    · have h1 : (wcOps[9]?).map (·.dst) = some ((some 48)) := by kernel_rfl
      have h2 : (wcOps[9]?).map (·.op) = some (.extract (.tmp 39) 0) := by kernel_rfl
      rw [ho] at h1 h2
      replace h1 := Option.some.inj h1
      replace h2 := Option.some.inj h2
      simp only at h1 h2
      rw [h1] at hK
      have l8 : L 8 = true := hdep 8 (by simp [wcDep])
      refine wp_extractG _ 0 h2 _ (hc.v8 l8) (.agg x.cells.toArray) rfl ?_
      rw [h1]
      exact hK _ _ ⟨x, c5_9 hc (hc.d8 l8) (Below.refl _ _)⟩
    · have h1 : (wcOps[10]?).map (·.dst) = some ((some 49)) := by kernel_rfl
      have h2 : (wcOps[10]?).map (·.op) = some (.extract (.tmp 39) 1) := by kernel_rfl
      rw [ho] at h1 h2
      replace h1 := Option.some.inj h1
      replace h2 := Option.some.inj h2
      simp only at h1 h2
      rw [h1] at hK
      have l8 : L 8 = true := hdep 8 (by simp [wcDep])
      refine wp_extractG _ 1 h2 _ (hc.v8 l8) (.agg (faultC 0 0)) rfl ?_
      rw [h1]
      exact hK _ _ ⟨x, c5_10 hc (hc.d8 l8) (Below.refl _ _)⟩
    · have h1 : (wcOps[11]?).map (·.dst) = some ((some 5)) := by kernel_rfl
      have h2 : (wcOps[11]?).map (·.op) = some (.alloc 27) := by kernel_rfl
      rw [ho] at h1 h2
      replace h1 := Option.some.inj h1
      replace h2 := Option.some.inj h2
      simp only at h1 h2
      rw [h1] at hK
      refine wp_allocR h2 ?_
      rw [h1]
      exact hK _ _ ⟨x, c5_11 hc hLi⟩
    · have h1 : (wcOps[12]?).map (·.dst) = some ((some 6)) := by kernel_rfl
      have h2 : (wcOps[12]?).map (·.op) = some (.alloc 30) := by kernel_rfl
      rw [ho] at h1 h2
      replace h1 := Option.some.inj h1
      replace h2 := Option.some.inj h2
      simp only at h1 h2
      rw [h1] at hK
      refine wp_allocFt h2 ?_
      rw [h1]
      exact hK _ _ ⟨x, c5_12 hc hLi⟩
    · have h1 : (wcOps[13]?).map (·.dst) = some (none) := by kernel_rfl
      have h2 : (wcOps[13]?).map (·.op) = some (.store 27 (.tmp 5) (.tmp 48)) := by kernel_rfl
      rw [ho] at h1 h2
      replace h1 := Option.some.inj h1
      replace h2 := Option.some.inj h2
      simp only at h1 h2
      rw [h1] at hK
      have l11 : L 11 = true := hdep 11 (by simp [wcDep])
      have l9 : L 9 = true := hdep 9 (by simp [wcDep])
      obtain ⟨A, cs, eA, hA, h8, hBk, _⟩ := hc.bA l11
      refine wp_store_row 27 (.tmp 5) (.tmp 48) h2 A x.cells.toArray eA (hc.v9 l9) 27 cs.toArray hBk (rx_size x) (show cs.toArray.size = x.cells.toArray.size by rw [List.size_toArray, h8]; rfl) (rx_one x) ?_
      rw [h1]
      exact hK _ _ ⟨x, c5_13 hc l11 (hc.d9 l9) eA hA hBk⟩
    · have h1 : (wcOps[14]?).map (·.dst) = some (none) := by kernel_rfl
      have h2 : (wcOps[14]?).map (·.op) = some (.store 30 (.tmp 6) (.tmp 49)) := by kernel_rfl
      rw [ho] at h1 h2
      replace h1 := Option.some.inj h1
      replace h2 := Option.some.inj h2
      simp only at h1 h2
      rw [h1] at hK
      have l12 : L 12 = true := hdep 12 (by simp [wcDep])
      have l10 : L 10 = true := hdep 10 (by simp [wcDep])
      obtain ⟨A, cs, eA, hA, h8, hBk, _⟩ := hc.bB l12
      refine wp_store_row 30 (.tmp 6) (.tmp 49) h2 A (faultC 0 0) eA (hc.v10 l10) 30 cs.toArray hBk (fault_size 0 0) (show cs.toArray.size = 2 by rw [List.size_toArray, h8]) (fault_one 0 0) ?_
      rw [h1]
      exact hK _ _ ⟨x, c5_14 hc l12 (hc.d10 l10) eA hA hBk⟩
  · rintro L b w hL hd hs hf ⟨x, hc⟩
    have hsz2 : wcOps.size = 15 := rfl
    rw [hsz2] at hL
    obtain ⟨A, cs, eA, hA, _, hkA, e1⟩ := hc.bA (hL 11 (by omega))
    obtain ⟨B, ds, eB, hB2, _, hkB, e2⟩ := hc.bB (hL 12 (by omega))
    obtain rfl := e1 (hL 13 (by omega))
    obtain rfl := e2 (hL 14 (by omega))
    have hr := (hc.rep (hL 7 (by omega))).mono (Nat.le_refl _) (fun _ _ _ => rfl) (Q := fun b => W.heap.size ≤ b ∧ b ≠ A ∧ b ≠ B) (fun b hb _ => ⟨hb.1, fun e => hb.2.1 (hL 11 (by omega)) (by rw [eA, e]), fun e => hb.2.2 (hL 12 (by omega)) (by rw [eB, e])⟩)
    have e := act_eq (a := A0) (b := b) (wcUs a x A B) hd hs hf (by
      intro p hp
      simp only [wcUs, List.mem_cons, List.not_mem_nil, or_false] at hp
      rcases hp with rfl | rfl | rfl | rfl | rfl | rfl | rfl | rfl | rfl | rfl | rfl | rfl | rfl
      · exact eA
      · exact eB
      · exact hc.v8 (hL 8 (by omega))
      · exact hc.v0 (hL 0 (by omega))
      · exact hc.v1 (hL 1 (by omega))
      · exact hc.v2 (hL 2 (by omega))
      · exact hc.v3 (hL 3 (by omega))
      · exact hc.v4 (hL 4 (by omega))
      · exact hc.v5 (hL 5 (by omega))
      · exact hc.v6 (hL 6 (by omega))
      · exact hc.v7 (hL 7 (by omega))
      · exact hc.v9 (hL 9 (by omega))
      · exact hc.v10 (hL 10 (by omega))) (by rw [show (wcUs a x A B).map (·.1) = [5, 6, 39, 40, 41, 42, 43, 44, 45, 46, 47, 48, 49] from rfl]; decide)
    rw [e]
    exact hk x A B w ⟨hc.bel.os, hc.bel.tape, hc.bel.output, hc.bel.size, hc.bel.block⟩ hA hB2 hkA hkB hr
end Go.Proofs.YtbpgfphilcjmdaaDoor

namespace Go.Proofs.YtbpgfphilcjmdaaDoor
open Go.RowKit

def wc3Ops : Array Oper := #[{ dst := some 19, op := Op.load 40 (Operand.tmp 2), type := 40, pos := "top03.go:14", after := #[], guard := none }, { dst := some 20, op := Op.call { callee := Callee.value (Operand.func 16), args := #[Operand.tmp 19], argTypes := #[40] }, type := 4, pos := "top03.go:14", after := #[{ on := 0, ground := Ground.data }], guard := none }, { dst := some 21, op := Op.move (Operand.tmp 20), type := 4, pos := "top03.go:14", after := #[{ on := 1, ground := Ground.data }, { on := 1, ground := Ground.chain }], guard := none }, { dst := some 22, op := Op.load 40 (Operand.tmp 2), type := 40, pos := "top03.go:14", after := #[{ on := 2, ground := Ground.guard }], guard := some (2, false) }, { dst := some 23, op := Op.call { callee := Callee.value (Operand.func 20), args := #[], argTypes := #[] }, type := 40, pos := "top03.go:14", after := #[{ on := 2, ground := Ground.chain }, { on := 2, ground := Ground.guard }], guard := some (2, false) }, { dst := some 24, op := Op.binOp BinOp.eql 40 (Operand.tmp 22) (Operand.tmp 23) 40, type := 4, pos := "top03.go:14", after := #[{ on := 3, ground := Ground.data }, { on := 4, ground := Ground.data }, { on := 2, ground := Ground.guard }], guard := some (2, false) }, { dst := some 25, op := Op.pick (Operand.tmp 21) (Operand.const (Value.bool true)) (Operand.tmp 24), type := 4, pos := "top03.go:14", after := #[{ on := 2, ground := Ground.data }, { on := 5, ground := Ground.data }], guard := none }, { dst := some 26, op := Op.move (Operand.tmp 25), type := 4, pos := "top03.go:14", after := #[{ on := 6, ground := Ground.data }, { on := 4, ground := Ground.chain }], guard := none }, { dst := some 27, op := Op.load 40 (Operand.tmp 2), type := 40, pos := "top03.go:14", after := #[{ on := 7, ground := Ground.guard }], guard := some (7, false) }, { dst := some 28, op := Op.call { callee := Callee.value (Operand.func 15), args := #[Operand.tmp 27], argTypes := #[40] }, type := 9, pos := "top03.go:14", after := #[{ on := 8, ground := Ground.data }, { on := 7, ground := Ground.chain }, { on := 7, ground := Ground.guard }], guard := some (7, false) }, { dst := some 29, op := Op.call { callee := Callee.builtin Builtin.len, args := #[Operand.tmp 28], argTypes := #[9] }, type := 3, pos := "top03.go:14", after := #[{ on := 9, ground := Ground.data }, { on := 7, ground := Ground.guard }], guard := some (7, false) }, { dst := some 30, op := Op.binOp BinOp.gtr 3 (Operand.tmp 29) (Operand.const (Value.int IntKind.i64 200)) 3, type := 4, pos := "top03.go:14", after := #[{ on := 10, ground := Ground.data }, { on := 7, ground := Ground.guard }], guard := some (7, false) }, { dst := some 31, op := Op.pick (Operand.tmp 26) (Operand.const (Value.bool true)) (Operand.tmp 30), type := 4, pos := "top03.go:14", after := #[{ on := 7, ground := Ground.data }, { on := 11, ground := Ground.data }], guard := none }, { dst := some 32, op := Op.move (Operand.tmp 31), type := 4, pos := "top03.go:14", after := #[{ on := 12, ground := Ground.data }, { on := 9, ground := Ground.chain }], guard := none }, { dst := some 33, op := Op.load 40 (Operand.tmp 2), type := 40, pos := "top03.go:14", after := #[{ on := 13, ground := Ground.guard }], guard := some (13, false) }, { dst := some 34, op := Op.call { callee := Callee.value (Operand.func 17), args := #[Operand.tmp 33], argTypes := #[40] }, type := 40, pos := "top03.go:14", after := #[{ on := 14, ground := Ground.data }, { on := 13, ground := Ground.chain }, { on := 13, ground := Ground.guard }], guard := some (13, false) }, { dst := some 35, op := Op.call { callee := Callee.value (Operand.func 15), args := #[Operand.tmp 34], argTypes := #[40] }, type := 9, pos := "top03.go:14", after := #[{ on := 15, ground := Ground.data }, { on := 15, ground := Ground.chain }, { on := 13, ground := Ground.guard }], guard := some (13, false) }, { dst := some 36, op := Op.call { callee := Callee.builtin Builtin.len, args := #[Operand.tmp 35], argTypes := #[9] }, type := 3, pos := "top03.go:14", after := #[{ on := 16, ground := Ground.data }, { on := 13, ground := Ground.guard }], guard := some (13, false) }, { dst := some 37, op := Op.binOp BinOp.gtr 3 (Operand.tmp 36) (Operand.const (Value.int IntKind.i64 200)) 3, type := 4, pos := "top03.go:14", after := #[{ on := 17, ground := Ground.data }, { on := 13, ground := Ground.guard }], guard := some (13, false) }, { dst := some 38, op := Op.pick (Operand.tmp 32) (Operand.const (Value.bool true)) (Operand.tmp 37), type := 4, pos := "top03.go:14", after := #[{ on := 13, ground := Ground.data }, { on := 18, ground := Ground.data }], guard := none }]
structure C3 (a : BS) (e0 e1 g1 g2 : Bool) (W1 : World) (L : Nat → Bool) (f : Nat → Value) (w : World) : Prop where
  bel : Below W1.heap.size W1 w
  v0 : L 0 = true → f 19 = setV a
  v1 : L 1 = true → f 20 = .bool e0
  v2 : L 2 = true → f 21 = .bool e0
  v3 : L 3 = true → f 22 = cond (!e0) (setV a) undef
  v4 : L 4 = true → f 23 = cond (!e0) (setV (~~~(0#256))) undef
  v5 : L 5 = true → f 24 = cond (!e0) (.bool e1) undef
  v6 : L 6 = true → f 25 = .bool (e0 || e1)
  v7 : L 7 = true → f 26 = .bool (e0 || e1)
  v8 : L 8 = true → f 27 = cond (!(e0 || e1)) (setV a) undef
  v9 : L 9 = true → f 28 = cond (!(e0 || e1)) (.string ⟨(textL a).toArray⟩) undef
  v10 : L 10 = true → f 29 = cond (!(e0 || e1)) (.int .i64 ((textL a).length : Int)) undef
  v11 : L 11 = true → f 30 = cond (!(e0 || e1)) (.bool (g1)) undef
  v12 : L 12 = true → f 31 = .bool (e0 || e1 || g1)
  v13 : L 13 = true → f 32 = .bool (e0 || e1 || g1)
  v14 : L 14 = true → f 33 = cond (!(e0 || e1 || g1)) (setV a) undef
  v15 : L 15 = true → f 34 = cond (!(e0 || e1 || g1)) (setV (~~~a)) undef
  v16 : L 16 = true → f 35 = cond (!(e0 || e1 || g1)) (.string ⟨(textL (~~~a)).toArray⟩) undef
  v17 : L 17 = true → f 36 = cond (!(e0 || e1 || g1)) (.int .i64 ((textL (~~~a)).length : Int)) undef
  v18 : L 18 = true → f 37 = cond (!(e0 || e1 || g1)) (.bool (g2)) undef
  v19 : L 19 = true → f 38 = .bool (e0 || e1 || g1 || g2)
theorem c3_0 {a : BS} {e0 e1 g1 g2 : Bool} {W1 : World} {L : Nat → Bool} {f : Nat → Value} {w w' : World} (h : C3 a e0 e1 g1 g2 W1 L f w) (hb : Below w.heap.size w w') {v : Value} (hv : v = setV a) : C3 a e0 e1 g1 g2 W1 (fun j => if j = 0 then true else L j) (fun t => if (some 19 : Option Nat) = some t then v else f t) w' where
    bel := h.bel.trans (hb.mono h.bel.size)
    v0 := fun _ => by rw [hv]; simp
    v1 := by simpa using h.v1
    v2 := by simpa using h.v2
    v3 := by simpa using h.v3
    v4 := by simpa using h.v4
    v5 := by simpa using h.v5
    v6 := by simpa using h.v6
    v7 := by simpa using h.v7
    v8 := by simpa using h.v8
    v9 := by simpa using h.v9
    v10 := by simpa using h.v10
    v11 := by simpa using h.v11
    v12 := by simpa using h.v12
    v13 := by simpa using h.v13
    v14 := by simpa using h.v14
    v15 := by simpa using h.v15
    v16 := by simpa using h.v16
    v17 := by simpa using h.v17
    v18 := by simpa using h.v18
    v19 := by simpa using h.v19
theorem c3_1 {a : BS} {e0 e1 g1 g2 : Bool} {W1 : World} {L : Nat → Bool} {f : Nat → Value} {w w' : World} (h : C3 a e0 e1 g1 g2 W1 L f w) (hb : Below w.heap.size w w') {v : Value} (hv : v = .bool e0) : C3 a e0 e1 g1 g2 W1 (fun j => if j = 1 then true else L j) (fun t => if (some 20 : Option Nat) = some t then v else f t) w' where
    bel := h.bel.trans (hb.mono h.bel.size)
    v0 := by simpa using h.v0
    v1 := fun _ => by rw [hv]; simp
    v2 := by simpa using h.v2
    v3 := by simpa using h.v3
    v4 := by simpa using h.v4
    v5 := by simpa using h.v5
    v6 := by simpa using h.v6
    v7 := by simpa using h.v7
    v8 := by simpa using h.v8
    v9 := by simpa using h.v9
    v10 := by simpa using h.v10
    v11 := by simpa using h.v11
    v12 := by simpa using h.v12
    v13 := by simpa using h.v13
    v14 := by simpa using h.v14
    v15 := by simpa using h.v15
    v16 := by simpa using h.v16
    v17 := by simpa using h.v17
    v18 := by simpa using h.v18
    v19 := by simpa using h.v19
theorem c3_2 {a : BS} {e0 e1 g1 g2 : Bool} {W1 : World} {L : Nat → Bool} {f : Nat → Value} {w w' : World} (h : C3 a e0 e1 g1 g2 W1 L f w) (hb : Below w.heap.size w w') {v : Value} (hv : v = .bool e0) : C3 a e0 e1 g1 g2 W1 (fun j => if j = 2 then true else L j) (fun t => if (some 21 : Option Nat) = some t then v else f t) w' where
    bel := h.bel.trans (hb.mono h.bel.size)
    v0 := by simpa using h.v0
    v1 := by simpa using h.v1
    v2 := fun _ => by rw [hv]; simp
    v3 := by simpa using h.v3
    v4 := by simpa using h.v4
    v5 := by simpa using h.v5
    v6 := by simpa using h.v6
    v7 := by simpa using h.v7
    v8 := by simpa using h.v8
    v9 := by simpa using h.v9
    v10 := by simpa using h.v10
    v11 := by simpa using h.v11
    v12 := by simpa using h.v12
    v13 := by simpa using h.v13
    v14 := by simpa using h.v14
    v15 := by simpa using h.v15
    v16 := by simpa using h.v16
    v17 := by simpa using h.v17
    v18 := by simpa using h.v18
    v19 := by simpa using h.v19
theorem c3_3 {a : BS} {e0 e1 g1 g2 : Bool} {W1 : World} {L : Nat → Bool} {f : Nat → Value} {w w' : World} (h : C3 a e0 e1 g1 g2 W1 L f w) (hb : Below w.heap.size w w') {v : Value} (hv : v = cond (!e0) (setV a) undef) : C3 a e0 e1 g1 g2 W1 (fun j => if j = 3 then true else L j) (fun t => if (some 22 : Option Nat) = some t then v else f t) w' where
    bel := h.bel.trans (hb.mono h.bel.size)
    v0 := by simpa using h.v0
    v1 := by simpa using h.v1
    v2 := by simpa using h.v2
    v3 := fun _ => by rw [hv]; simp
    v4 := by simpa using h.v4
    v5 := by simpa using h.v5
    v6 := by simpa using h.v6
    v7 := by simpa using h.v7
    v8 := by simpa using h.v8
    v9 := by simpa using h.v9
    v10 := by simpa using h.v10
    v11 := by simpa using h.v11
    v12 := by simpa using h.v12
    v13 := by simpa using h.v13
    v14 := by simpa using h.v14
    v15 := by simpa using h.v15
    v16 := by simpa using h.v16
    v17 := by simpa using h.v17
    v18 := by simpa using h.v18
    v19 := by simpa using h.v19
theorem c3_4 {a : BS} {e0 e1 g1 g2 : Bool} {W1 : World} {L : Nat → Bool} {f : Nat → Value} {w w' : World} (h : C3 a e0 e1 g1 g2 W1 L f w) (hb : Below w.heap.size w w') {v : Value} (hv : v = cond (!e0) (setV (~~~(0#256))) undef) : C3 a e0 e1 g1 g2 W1 (fun j => if j = 4 then true else L j) (fun t => if (some 23 : Option Nat) = some t then v else f t) w' where
    bel := h.bel.trans (hb.mono h.bel.size)
    v0 := by simpa using h.v0
    v1 := by simpa using h.v1
    v2 := by simpa using h.v2
    v3 := by simpa using h.v3
    v4 := fun _ => by rw [hv]; simp
    v5 := by simpa using h.v5
    v6 := by simpa using h.v6
    v7 := by simpa using h.v7
    v8 := by simpa using h.v8
    v9 := by simpa using h.v9
    v10 := by simpa using h.v10
    v11 := by simpa using h.v11
    v12 := by simpa using h.v12
    v13 := by simpa using h.v13
    v14 := by simpa using h.v14
    v15 := by simpa using h.v15
    v16 := by simpa using h.v16
    v17 := by simpa using h.v17
    v18 := by simpa using h.v18
    v19 := by simpa using h.v19
theorem c3_5 {a : BS} {e0 e1 g1 g2 : Bool} {W1 : World} {L : Nat → Bool} {f : Nat → Value} {w w' : World} (h : C3 a e0 e1 g1 g2 W1 L f w) (hb : Below w.heap.size w w') {v : Value} (hv : v = cond (!e0) (.bool e1) undef) : C3 a e0 e1 g1 g2 W1 (fun j => if j = 5 then true else L j) (fun t => if (some 24 : Option Nat) = some t then v else f t) w' where
    bel := h.bel.trans (hb.mono h.bel.size)
    v0 := by simpa using h.v0
    v1 := by simpa using h.v1
    v2 := by simpa using h.v2
    v3 := by simpa using h.v3
    v4 := by simpa using h.v4
    v5 := fun _ => by rw [hv]; simp
    v6 := by simpa using h.v6
    v7 := by simpa using h.v7
    v8 := by simpa using h.v8
    v9 := by simpa using h.v9
    v10 := by simpa using h.v10
    v11 := by simpa using h.v11
    v12 := by simpa using h.v12
    v13 := by simpa using h.v13
    v14 := by simpa using h.v14
    v15 := by simpa using h.v15
    v16 := by simpa using h.v16
    v17 := by simpa using h.v17
    v18 := by simpa using h.v18
    v19 := by simpa using h.v19
theorem c3_6 {a : BS} {e0 e1 g1 g2 : Bool} {W1 : World} {L : Nat → Bool} {f : Nat → Value} {w w' : World} (h : C3 a e0 e1 g1 g2 W1 L f w) (hb : Below w.heap.size w w') {v : Value} (hv : v = .bool (e0 || e1)) : C3 a e0 e1 g1 g2 W1 (fun j => if j = 6 then true else L j) (fun t => if (some 25 : Option Nat) = some t then v else f t) w' where
    bel := h.bel.trans (hb.mono h.bel.size)
    v0 := by simpa using h.v0
    v1 := by simpa using h.v1
    v2 := by simpa using h.v2
    v3 := by simpa using h.v3
    v4 := by simpa using h.v4
    v5 := by simpa using h.v5
    v6 := fun _ => by rw [hv]; simp
    v7 := by simpa using h.v7
    v8 := by simpa using h.v8
    v9 := by simpa using h.v9
    v10 := by simpa using h.v10
    v11 := by simpa using h.v11
    v12 := by simpa using h.v12
    v13 := by simpa using h.v13
    v14 := by simpa using h.v14
    v15 := by simpa using h.v15
    v16 := by simpa using h.v16
    v17 := by simpa using h.v17
    v18 := by simpa using h.v18
    v19 := by simpa using h.v19
theorem c3_7 {a : BS} {e0 e1 g1 g2 : Bool} {W1 : World} {L : Nat → Bool} {f : Nat → Value} {w w' : World} (h : C3 a e0 e1 g1 g2 W1 L f w) (hb : Below w.heap.size w w') {v : Value} (hv : v = .bool (e0 || e1)) : C3 a e0 e1 g1 g2 W1 (fun j => if j = 7 then true else L j) (fun t => if (some 26 : Option Nat) = some t then v else f t) w' where
    bel := h.bel.trans (hb.mono h.bel.size)
    v0 := by simpa using h.v0
    v1 := by simpa using h.v1
    v2 := by simpa using h.v2
    v3 := by simpa using h.v3
    v4 := by simpa using h.v4
    v5 := by simpa using h.v5
    v6 := by simpa using h.v6
    v7 := fun _ => by rw [hv]; simp
    v8 := by simpa using h.v8
    v9 := by simpa using h.v9
    v10 := by simpa using h.v10
    v11 := by simpa using h.v11
    v12 := by simpa using h.v12
    v13 := by simpa using h.v13
    v14 := by simpa using h.v14
    v15 := by simpa using h.v15
    v16 := by simpa using h.v16
    v17 := by simpa using h.v17
    v18 := by simpa using h.v18
    v19 := by simpa using h.v19
theorem c3_8 {a : BS} {e0 e1 g1 g2 : Bool} {W1 : World} {L : Nat → Bool} {f : Nat → Value} {w w' : World} (h : C3 a e0 e1 g1 g2 W1 L f w) (hb : Below w.heap.size w w') {v : Value} (hv : v = cond (!(e0 || e1)) (setV a) undef) : C3 a e0 e1 g1 g2 W1 (fun j => if j = 8 then true else L j) (fun t => if (some 27 : Option Nat) = some t then v else f t) w' where
    bel := h.bel.trans (hb.mono h.bel.size)
    v0 := by simpa using h.v0
    v1 := by simpa using h.v1
    v2 := by simpa using h.v2
    v3 := by simpa using h.v3
    v4 := by simpa using h.v4
    v5 := by simpa using h.v5
    v6 := by simpa using h.v6
    v7 := by simpa using h.v7
    v8 := fun _ => by rw [hv]; simp
    v9 := by simpa using h.v9
    v10 := by simpa using h.v10
    v11 := by simpa using h.v11
    v12 := by simpa using h.v12
    v13 := by simpa using h.v13
    v14 := by simpa using h.v14
    v15 := by simpa using h.v15
    v16 := by simpa using h.v16
    v17 := by simpa using h.v17
    v18 := by simpa using h.v18
    v19 := by simpa using h.v19
theorem c3_9 {a : BS} {e0 e1 g1 g2 : Bool} {W1 : World} {L : Nat → Bool} {f : Nat → Value} {w w' : World} (h : C3 a e0 e1 g1 g2 W1 L f w) (hb : Below w.heap.size w w') {v : Value} (hv : v = cond (!(e0 || e1)) (.string ⟨(textL a).toArray⟩) undef) : C3 a e0 e1 g1 g2 W1 (fun j => if j = 9 then true else L j) (fun t => if (some 28 : Option Nat) = some t then v else f t) w' where
    bel := h.bel.trans (hb.mono h.bel.size)
    v0 := by simpa using h.v0
    v1 := by simpa using h.v1
    v2 := by simpa using h.v2
    v3 := by simpa using h.v3
    v4 := by simpa using h.v4
    v5 := by simpa using h.v5
    v6 := by simpa using h.v6
    v7 := by simpa using h.v7
    v8 := by simpa using h.v8
    v9 := fun _ => by rw [hv]; simp
    v10 := by simpa using h.v10
    v11 := by simpa using h.v11
    v12 := by simpa using h.v12
    v13 := by simpa using h.v13
    v14 := by simpa using h.v14
    v15 := by simpa using h.v15
    v16 := by simpa using h.v16
    v17 := by simpa using h.v17
    v18 := by simpa using h.v18
    v19 := by simpa using h.v19
theorem c3_10 {a : BS} {e0 e1 g1 g2 : Bool} {W1 : World} {L : Nat → Bool} {f : Nat → Value} {w w' : World} (h : C3 a e0 e1 g1 g2 W1 L f w) (hb : Below w.heap.size w w') {v : Value} (hv : v = cond (!(e0 || e1)) (.int .i64 ((textL a).length : Int)) undef) : C3 a e0 e1 g1 g2 W1 (fun j => if j = 10 then true else L j) (fun t => if (some 29 : Option Nat) = some t then v else f t) w' where
    bel := h.bel.trans (hb.mono h.bel.size)
    v0 := by simpa using h.v0
    v1 := by simpa using h.v1
    v2 := by simpa using h.v2
    v3 := by simpa using h.v3
    v4 := by simpa using h.v4
    v5 := by simpa using h.v5
    v6 := by simpa using h.v6
    v7 := by simpa using h.v7
    v8 := by simpa using h.v8
    v9 := by simpa using h.v9
    v10 := fun _ => by rw [hv]; simp
    v11 := by simpa using h.v11
    v12 := by simpa using h.v12
    v13 := by simpa using h.v13
    v14 := by simpa using h.v14
    v15 := by simpa using h.v15
    v16 := by simpa using h.v16
    v17 := by simpa using h.v17
    v18 := by simpa using h.v18
    v19 := by simpa using h.v19
theorem c3_11 {a : BS} {e0 e1 g1 g2 : Bool} {W1 : World} {L : Nat → Bool} {f : Nat → Value} {w w' : World} (h : C3 a e0 e1 g1 g2 W1 L f w) (hb : Below w.heap.size w w') {v : Value} (hv : v = cond (!(e0 || e1)) (.bool (g1)) undef) : C3 a e0 e1 g1 g2 W1 (fun j => if j = 11 then true else L j) (fun t => if (some 30 : Option Nat) = some t then v else f t) w' where
    bel := h.bel.trans (hb.mono h.bel.size)
    v0 := by simpa using h.v0
    v1 := by simpa using h.v1
    v2 := by simpa using h.v2
    v3 := by simpa using h.v3
    v4 := by simpa using h.v4
    v5 := by simpa using h.v5
    v6 := by simpa using h.v6
    v7 := by simpa using h.v7
    v8 := by simpa using h.v8
    v9 := by simpa using h.v9
    v10 := by simpa using h.v10
    v11 := fun _ => by rw [hv]; simp
    v12 := by simpa using h.v12
    v13 := by simpa using h.v13
    v14 := by simpa using h.v14
    v15 := by simpa using h.v15
    v16 := by simpa using h.v16
    v17 := by simpa using h.v17
    v18 := by simpa using h.v18
    v19 := by simpa using h.v19
theorem c3_12 {a : BS} {e0 e1 g1 g2 : Bool} {W1 : World} {L : Nat → Bool} {f : Nat → Value} {w w' : World} (h : C3 a e0 e1 g1 g2 W1 L f w) (hb : Below w.heap.size w w') {v : Value} (hv : v = .bool (e0 || e1 || g1)) : C3 a e0 e1 g1 g2 W1 (fun j => if j = 12 then true else L j) (fun t => if (some 31 : Option Nat) = some t then v else f t) w' where
    bel := h.bel.trans (hb.mono h.bel.size)
    v0 := by simpa using h.v0
    v1 := by simpa using h.v1
    v2 := by simpa using h.v2
    v3 := by simpa using h.v3
    v4 := by simpa using h.v4
    v5 := by simpa using h.v5
    v6 := by simpa using h.v6
    v7 := by simpa using h.v7
    v8 := by simpa using h.v8
    v9 := by simpa using h.v9
    v10 := by simpa using h.v10
    v11 := by simpa using h.v11
    v12 := fun _ => by rw [hv]; simp
    v13 := by simpa using h.v13
    v14 := by simpa using h.v14
    v15 := by simpa using h.v15
    v16 := by simpa using h.v16
    v17 := by simpa using h.v17
    v18 := by simpa using h.v18
    v19 := by simpa using h.v19
theorem c3_13 {a : BS} {e0 e1 g1 g2 : Bool} {W1 : World} {L : Nat → Bool} {f : Nat → Value} {w w' : World} (h : C3 a e0 e1 g1 g2 W1 L f w) (hb : Below w.heap.size w w') {v : Value} (hv : v = .bool (e0 || e1 || g1)) : C3 a e0 e1 g1 g2 W1 (fun j => if j = 13 then true else L j) (fun t => if (some 32 : Option Nat) = some t then v else f t) w' where
    bel := h.bel.trans (hb.mono h.bel.size)
    v0 := by simpa using h.v0
    v1 := by simpa using h.v1
    v2 := by simpa using h.v2
    v3 := by simpa using h.v3
    v4 := by simpa using h.v4
    v5 := by simpa using h.v5
    v6 := by simpa using h.v6
    v7 := by simpa using h.v7
    v8 := by simpa using h.v8
    v9 := by simpa using h.v9
    v10 := by simpa using h.v10
    v11 := by simpa using h.v11
    v12 := by simpa using h.v12
    v13 := fun _ => by rw [hv]; simp
    v14 := by simpa using h.v14
    v15 := by simpa using h.v15
    v16 := by simpa using h.v16
    v17 := by simpa using h.v17
    v18 := by simpa using h.v18
    v19 := by simpa using h.v19
theorem c3_14 {a : BS} {e0 e1 g1 g2 : Bool} {W1 : World} {L : Nat → Bool} {f : Nat → Value} {w w' : World} (h : C3 a e0 e1 g1 g2 W1 L f w) (hb : Below w.heap.size w w') {v : Value} (hv : v = cond (!(e0 || e1 || g1)) (setV a) undef) : C3 a e0 e1 g1 g2 W1 (fun j => if j = 14 then true else L j) (fun t => if (some 33 : Option Nat) = some t then v else f t) w' where
    bel := h.bel.trans (hb.mono h.bel.size)
    v0 := by simpa using h.v0
    v1 := by simpa using h.v1
    v2 := by simpa using h.v2
    v3 := by simpa using h.v3
    v4 := by simpa using h.v4
    v5 := by simpa using h.v5
    v6 := by simpa using h.v6
    v7 := by simpa using h.v7
    v8 := by simpa using h.v8
    v9 := by simpa using h.v9
    v10 := by simpa using h.v10
    v11 := by simpa using h.v11
    v12 := by simpa using h.v12
    v13 := by simpa using h.v13
    v14 := fun _ => by rw [hv]; simp
    v15 := by simpa using h.v15
    v16 := by simpa using h.v16
    v17 := by simpa using h.v17
    v18 := by simpa using h.v18
    v19 := by simpa using h.v19
theorem c3_15 {a : BS} {e0 e1 g1 g2 : Bool} {W1 : World} {L : Nat → Bool} {f : Nat → Value} {w w' : World} (h : C3 a e0 e1 g1 g2 W1 L f w) (hb : Below w.heap.size w w') {v : Value} (hv : v = cond (!(e0 || e1 || g1)) (setV (~~~a)) undef) : C3 a e0 e1 g1 g2 W1 (fun j => if j = 15 then true else L j) (fun t => if (some 34 : Option Nat) = some t then v else f t) w' where
    bel := h.bel.trans (hb.mono h.bel.size)
    v0 := by simpa using h.v0
    v1 := by simpa using h.v1
    v2 := by simpa using h.v2
    v3 := by simpa using h.v3
    v4 := by simpa using h.v4
    v5 := by simpa using h.v5
    v6 := by simpa using h.v6
    v7 := by simpa using h.v7
    v8 := by simpa using h.v8
    v9 := by simpa using h.v9
    v10 := by simpa using h.v10
    v11 := by simpa using h.v11
    v12 := by simpa using h.v12
    v13 := by simpa using h.v13
    v14 := by simpa using h.v14
    v15 := fun _ => by rw [hv]; simp
    v16 := by simpa using h.v16
    v17 := by simpa using h.v17
    v18 := by simpa using h.v18
    v19 := by simpa using h.v19
theorem c3_16 {a : BS} {e0 e1 g1 g2 : Bool} {W1 : World} {L : Nat → Bool} {f : Nat → Value} {w w' : World} (h : C3 a e0 e1 g1 g2 W1 L f w) (hb : Below w.heap.size w w') {v : Value} (hv : v = cond (!(e0 || e1 || g1)) (.string ⟨(textL (~~~a)).toArray⟩) undef) : C3 a e0 e1 g1 g2 W1 (fun j => if j = 16 then true else L j) (fun t => if (some 35 : Option Nat) = some t then v else f t) w' where
    bel := h.bel.trans (hb.mono h.bel.size)
    v0 := by simpa using h.v0
    v1 := by simpa using h.v1
    v2 := by simpa using h.v2
    v3 := by simpa using h.v3
    v4 := by simpa using h.v4
    v5 := by simpa using h.v5
    v6 := by simpa using h.v6
    v7 := by simpa using h.v7
    v8 := by simpa using h.v8
    v9 := by simpa using h.v9
    v10 := by simpa using h.v10
    v11 := by simpa using h.v11
    v12 := by simpa using h.v12
    v13 := by simpa using h.v13
    v14 := by simpa using h.v14
    v15 := by simpa using h.v15
    v16 := fun _ => by rw [hv]; simp
    v17 := by simpa using h.v17
    v18 := by simpa using h.v18
    v19 := by simpa using h.v19
theorem c3_17 {a : BS} {e0 e1 g1 g2 : Bool} {W1 : World} {L : Nat → Bool} {f : Nat → Value} {w w' : World} (h : C3 a e0 e1 g1 g2 W1 L f w) (hb : Below w.heap.size w w') {v : Value} (hv : v = cond (!(e0 || e1 || g1)) (.int .i64 ((textL (~~~a)).length : Int)) undef) : C3 a e0 e1 g1 g2 W1 (fun j => if j = 17 then true else L j) (fun t => if (some 36 : Option Nat) = some t then v else f t) w' where
    bel := h.bel.trans (hb.mono h.bel.size)
    v0 := by simpa using h.v0
    v1 := by simpa using h.v1
    v2 := by simpa using h.v2
    v3 := by simpa using h.v3
    v4 := by simpa using h.v4
    v5 := by simpa using h.v5
    v6 := by simpa using h.v6
    v7 := by simpa using h.v7
    v8 := by simpa using h.v8
    v9 := by simpa using h.v9
    v10 := by simpa using h.v10
    v11 := by simpa using h.v11
    v12 := by simpa using h.v12
    v13 := by simpa using h.v13
    v14 := by simpa using h.v14
    v15 := by simpa using h.v15
    v16 := by simpa using h.v16
    v17 := fun _ => by rw [hv]; simp
    v18 := by simpa using h.v18
    v19 := by simpa using h.v19
theorem c3_18 {a : BS} {e0 e1 g1 g2 : Bool} {W1 : World} {L : Nat → Bool} {f : Nat → Value} {w w' : World} (h : C3 a e0 e1 g1 g2 W1 L f w) (hb : Below w.heap.size w w') {v : Value} (hv : v = cond (!(e0 || e1 || g1)) (.bool (g2)) undef) : C3 a e0 e1 g1 g2 W1 (fun j => if j = 18 then true else L j) (fun t => if (some 37 : Option Nat) = some t then v else f t) w' where
    bel := h.bel.trans (hb.mono h.bel.size)
    v0 := by simpa using h.v0
    v1 := by simpa using h.v1
    v2 := by simpa using h.v2
    v3 := by simpa using h.v3
    v4 := by simpa using h.v4
    v5 := by simpa using h.v5
    v6 := by simpa using h.v6
    v7 := by simpa using h.v7
    v8 := by simpa using h.v8
    v9 := by simpa using h.v9
    v10 := by simpa using h.v10
    v11 := by simpa using h.v11
    v12 := by simpa using h.v12
    v13 := by simpa using h.v13
    v14 := by simpa using h.v14
    v15 := by simpa using h.v15
    v16 := by simpa using h.v16
    v17 := by simpa using h.v17
    v18 := fun _ => by rw [hv]; simp
    v19 := by simpa using h.v19
theorem c3_19 {a : BS} {e0 e1 g1 g2 : Bool} {W1 : World} {L : Nat → Bool} {f : Nat → Value} {w w' : World} (h : C3 a e0 e1 g1 g2 W1 L f w) (hb : Below w.heap.size w w') {v : Value} (hv : v = .bool (e0 || e1 || g1 || g2)) : C3 a e0 e1 g1 g2 W1 (fun j => if j = 19 then true else L j) (fun t => if (some 38 : Option Nat) = some t then v else f t) w' where
    bel := h.bel.trans (hb.mono h.bel.size)
    v0 := by simpa using h.v0
    v1 := by simpa using h.v1
    v2 := by simpa using h.v2
    v3 := by simpa using h.v3
    v4 := by simpa using h.v4
    v5 := by simpa using h.v5
    v6 := by simpa using h.v6
    v7 := by simpa using h.v7
    v8 := by simpa using h.v8
    v9 := by simpa using h.v9
    v10 := by simpa using h.v10
    v11 := by simpa using h.v11
    v12 := by simpa using h.v12
    v13 := by simpa using h.v13
    v14 := by simpa using h.v14
    v15 := by simpa using h.v15
    v16 := by simpa using h.v16
    v17 := by simpa using h.v17
    v18 := by simpa using h.v18
    v19 := fun _ => by rw [hv]; simp
theorem eqg_set (x y : Operand) (a b : BS) (w : World) : (eqGuard .eql 40 x y (setV a) (setV b)).run Tryd.prog w = .ok () w := by
  unfold eqGuard setV
  simp [show Tryd.prog.eqGuardType Tryd.prog.depth 40 = false from by kernel_rfl]
theorem wf_ops3 {ops : Array Oper} (h : ((List.range ops.size).all fun i => match ops[i]? with | some o => o.after.all (fun e => !Region.binds .any e || decide (e.on < i)) | none => true) = true) :
    ∀ (i : Nat) (o : Oper), ops[i]? = some o → ∀ e ∈ o.after, Region.binds .any e = true → e.on < i := by
  intro i o ho e he hb
  have hlt := (Array.getElem?_eq_some_iff.1 ho).1
  have := List.all_eq_true.1 h i (List.mem_range.2 hlt)
  rw [ho] at this
  simp only [Array.all_eq_true_iff_forall_mem] at this
  have h2 := this e he
  rw [hb] at h2
  simpa using h2
section
variable {P : Program} {o : Oper} {a : Act} {w : World} {K : Act → World → Prop} {Q : Exit → Act → World → Prop}
theorem wp_pickG (c x y : Operand) (ho : o.op = .pick c x y) (b : Bool) (hc : a.eval c = .bool b) (v : Value) (hv : (if b then a.eval x else a.eval y) = v) (h : K (a.put o.dst v) w) : o.wp P a w K Q := by
  unfold Oper.wp
  have e : (execOp a.eval o).run P w = .ok (.value v) w := by
    unfold execOp
    simp only [ho, hc]
    cases b <;> simpa [asBool] using hv
  rw [e]
  exact h
theorem wp_lenG (x : Operand) (ty : TypeId) (ho : o.op = .call { callee := .builtin .len, args := #[x], argTypes := #[ty] }) (hu : P.underlying ty = some .string) (l : List UInt8) (hx : a.eval x = .string ⟨l.toArray⟩) (h : K (a.put o.dst (.int .i64 (l.length : Int))) w) : o.wp P a w K Q := by
  unfold Oper.wp
  have e : (execOp a.eval o).run P w = .ok (.value (.int .i64 (l.length : Int))) w := by
    unfold execOp
    simp only [ho, resolve, invoke, builtin, Sem.run_bind, Sem.run_pure, Result.andThen_ok, List.map_toArray, List.map_cons, List.map_nil, hx]
    simp only [Builtin.len_]
    simp [run_underlying hu]
    rfl
  rw [e]
  exact h
end
def wc3Dep : Nat → List Nat := fun i => match i with | 1 => [0] | 2 => [1] | 3 => [2] | 4 => [2] | 5 => [3, 4, 2] | 6 => [2, 5] | 7 => [6] | 8 => [7] | 9 => [8, 7] | 10 => [9, 7] | 11 => [10, 7] | 12 => [7, 11] | 13 => [12] | 14 => [13] | 15 => [14, 13] | 16 => [15, 13] | 17 => [16, 13] | 18 => [17, 13] | 19 => [13, 18] | _ => []
theorem enters_empty3 : ∀ args w, (callFunc 16 args).run Tryd.prog w = .ok (.enter 16 args) w := enters_of Tryd.func16 (by kernel_rfl) rfl
theorem enters_all3 : ∀ args w, (callFunc 20 args).run Tryd.prog w = .ok (.enter 20 args) w := enters_of Tryd.func20 (by kernel_rfl) rfl
def wc3Us (f : Nat → Value) : List (Nat × Value) := [(19, f 19), (20, f 20), (21, f 21), (22, f 22), (23, f 23), (24, f 24), (25, f 25), (26, f 26), (27, f 27), (28, f 28), (29, f 29), (30, f 30), (31, f 31), (32, f 32), (33, f 33), (34, f 34), (35, f 35), (36, f 36), (37, f 37), (38, f 38)]
set_option maxRecDepth 10000 in
theorem reg3 {a : BS} {e0 e1 g1 g2 : Bool} {W : World} {bx : Nat} {A0 : Act} {Q : Exit → Act → World → Prop} {id : Nat} (hbox : Act.at A0 2 = .pointer (some ⟨bx, 0, none⟩)) (hsz : 39 ≤ A0.tmps.size) (hT : TabAt W) (hB : Blk W bx 40 (setL a))
    (he0 : e0 = decide (a = 0#256)) (he1 : e1 = decide (a = ~~~(0#256))) (hg1 : g1 = decide (200 < (textL a).length)) (hg2 : g2 = decide (200 < (textL (~~~a)).length)) (hl : (textL a).length + (textL (~~~a)).length ≤ 1000000)
    (hk : ∀ (f : Nat → Value) w', f 38 = .bool (e0 || e1 || g1 || g2) → Below W.heap.size W w' → Q .normal ⟨(wc3Us f).foldl (fun A p => A.setIfInBounds p.1 p.2) A0.tmps, A0.defers⟩ w') :
    (Code.region id wc3Ops true).wp Tryd.prog Q A0 W := by
  have HL := hid hl
  have HG1 := hid hg1
  have HG2 := hid hg2
  have hE : ∀ w, Calls Tryd.prog 16 #[setV a] w fun e w' => e = .returned (.bool e0) ∧ Below w.heap.size w w' := fun w => by rw [he0]; exact empty_any a w
  have hQ : ∀ w, (binOp .eql 40 (setV a) (setV (~~~(0#256)))).run Tryd.prog w = .ok (.bool e1) w := fun w => by rw [he1]; exact run_eqSet a _ w
  clear hl he0 he1 hg1 hg2
  refine wp_region_fun3 (by kernel_rfl) (fun L f w => C3 a e0 e1 g1 g2 W.drew L f w) [19, 20, 21, 22, 23, 24, 25, 26, 27, 28, 29, 30, 31, 32, 33, 34, 35, 36, 37, 38] (fun i o ho => (wf_ops3 (ops := wc3Ops) (by kernel_rfl)) i o ho) (fun i o ho u hu => ?_) ?_ ?_ ?_
  · have := ops_dst [19, 20, 21, 22, 23, 24, 25, 26, 27, 28, 29, 30, 31, 32, 33, 34, 35, 36, 37, 38] 39 (by kernel_rfl) i o ho u hu
    exact ⟨this.1, Nat.lt_of_lt_of_le this.2 hsz⟩
  · have hs : wc3Ops.size = 20 := rfl
    rw [hs]
    constructor <;> first | exact Below.refl _ _ | (intro h; simp at h)
  · rintro L i o ho hLi haf b w hf hc K hK
    have hdep := ops_deps wc3Dep (by kernel_rfl) ho haf
    clear haf
    have hb2 : Act.at b 2 = .pointer (some ⟨bx, 0, none⟩) := (hf 2 (by decide)).trans hbox
    have hBw : Blk w bx 40 (setL a) := hc.bel.block bx hB.lt |>.trans hB
    have hTw : TabAt w := TabAt.keep (w := W.drew) hT hc.bel
    have hs : wc3Ops.size = 20 := rfl
    have hlt : i < 20 := hs ▸ (Array.getElem?_eq_some_iff.1 ho).1
    have hcases : i = 0 ∨ i = 1 ∨ i = 2 ∨ i = 3 ∨ i = 4 ∨ i = 5 ∨ i = 6 ∨ i = 7 ∨ i = 8 ∨ i = 9 ∨ i = 10 ∨ i = 11 ∨ i = 12 ∨ i = 13 ∨ i = 14 ∨ i = 15 ∨ i = 16 ∨ i = 17 ∨ i = 18 ∨ i = 19 := by omega
    rcases hcases with rfl | rfl | rfl | rfl | rfl | rfl | rfl | rfl | rfl | rfl | rfl | rfl | rfl | rfl | rfl | rfl | rfl | rfl | rfl | rfl
    · have h1 : (wc3Ops[0]?).map (·.dst) = some (some 19) := by kernel_rfl
      have h2 : (wc3Ops[0]?).map (·.op) = some (.load 40 (.tmp 2)) := by kernel_rfl
      have h3 : (wc3Ops[0]?).map (·.guard) = some none := by kernel_rfl
      rw [ho] at h1 h2 h3
      replace h1 := Option.some.inj h1
      replace h2 := Option.some.inj h2
      replace h3 := Option.some.inj h3
      simp only at h1 h2 h3
      rw [h1] at hK
      refine ⟨fun _ => ?_, fun hw => by rw [wanted_none h3] at hw; cases hw⟩
      refine wp_load_row 40 (.tmp 2) h2 bx hb2 40 (setL a).toArray (0, 0) (.array 4 23) hBw (by kernel_rfl) rfl (set_info _) ?_
      rw [h1]
      exact hK _ _ (c3_0 hc (Below.refl _ _) (rfl))
    · have h1 : (wc3Ops[1]?).map (·.dst) = some (some 20) := by kernel_rfl
      have h2 : (wc3Ops[1]?).map (·.op) = some (.call { callee := .value (.func 16), args := #[.tmp 19], argTypes := #[40] }) := by kernel_rfl
      have h3 : (wc3Ops[1]?).map (·.guard) = some none := by kernel_rfl
      rw [ho] at h1 h2 h3
      replace h1 := Option.some.inj h1
      replace h2 := Option.some.inj h2
      replace h3 := Option.some.inj h3
      simp only at h1 h2 h3
      rw [h1] at hK
      have l0 : L 0 = true := hdep 0 (by simp [wc3Dep])
      refine ⟨fun _ => ?_, fun hw => by rw [wanted_none h3] at hw; cases hw⟩
      refine wp_callG 16 _ _ h2 enters_empty3 #[setV a] (by simp [show b.eval (.tmp 19) = _ from hc.v0 l0]) (fun v w' => v = .bool e0 ∧ Below w.heap.size w w') ((hE w).mono fun e w' h => ⟨_, h.1, rfl, h.2⟩) ?_
      rintro v w' ⟨rfl, hb⟩
      rw [h1]
      exact hK _ _ (c3_1 hc hb (rfl))
    · have h1 : (wc3Ops[2]?).map (·.dst) = some (some 21) := by kernel_rfl
      have h2 : (wc3Ops[2]?).map (·.op) = some (.move (.tmp 20)) := by kernel_rfl
      have h3 : (wc3Ops[2]?).map (·.guard) = some none := by kernel_rfl
      rw [ho] at h1 h2 h3
      replace h1 := Option.some.inj h1
      replace h2 := Option.some.inj h2
      replace h3 := Option.some.inj h3
      simp only at h1 h2 h3
      rw [h1] at hK
      have l1 : L 1 = true := hdep 1 (by simp [wc3Dep])
      refine ⟨fun _ => ?_, fun hw => by rw [wanted_none h3] at hw; cases hw⟩
      refine wp_moveG _ h2 _ (hc.v1 l1) ?_
      rw [h1]
      exact hK _ _ (c3_2 hc (Below.refl _ _) rfl)
    · have h1 : (wc3Ops[3]?).map (·.dst) = some (some 22) := by kernel_rfl
      have h2 : (wc3Ops[3]?).map (·.op) = some (.load 40 (.tmp 2)) := by kernel_rfl
      have h3 : (wc3Ops[3]?).map (·.guard) = some (some (2, false)) := by kernel_rfl
      rw [ho] at h1 h2 h3
      replace h1 := Option.some.inj h1
      replace h2 := Option.some.inj h2
      replace h3 := Option.some.inj h3
      simp only at h1 h2 h3
      rw [h1] at hK
      have l2 : L 2 = true := hdep 2 (by simp [wc3Dep])
      have hw := wanted_of (ops := wc3Ops) (b := b) (v := e0) h3 (d := 21) (by kernel_rfl) (hc.v2 l2)
      rw [hw]
      refine ⟨fun hq => ?_, fun hq => (by rw [h1]; exact hK _ _ (c3_3 hc (Below.refl _ _) (by rw [show (!e0) = false by simpa using hq] <;> rfl)))⟩
      have hq2 : (!e0) = true := by simpa using hq
      refine wp_load_row 40 (.tmp 2) h2 bx hb2 40 (setL a).toArray (0, 0) (.array 4 23) hBw (by kernel_rfl) rfl (set_info _) ?_
      rw [h1]
      exact hK _ _ (c3_3 hc (Below.refl _ _) (by rw [hq2] <;> rfl))
    · have h1 : (wc3Ops[4]?).map (·.dst) = some (some 23) := by kernel_rfl
      have h2 : (wc3Ops[4]?).map (·.op) = some (.call { callee := .value (.func 20), args := #[], argTypes := #[] }) := by kernel_rfl
      have h3 : (wc3Ops[4]?).map (·.guard) = some (some (2, false)) := by kernel_rfl
      rw [ho] at h1 h2 h3
      replace h1 := Option.some.inj h1
      replace h2 := Option.some.inj h2
      replace h3 := Option.some.inj h3
      simp only at h1 h2 h3
      rw [h1] at hK
      have l2 : L 2 = true := hdep 2 (by simp [wc3Dep])
      have hw := wanted_of (ops := wc3Ops) (b := b) (v := e0) h3 (d := 21) (by kernel_rfl) (hc.v2 l2)
      rw [hw]
      refine ⟨fun hq => ?_, fun hq => (by rw [h1]; exact hK _ _ (c3_4 hc (Below.refl _ _) (by rw [show (!e0) = false by simpa using hq] <;> rfl)))⟩
      have hq2 : (!e0) = true := by simpa using hq
      refine wp_callG 20 _ _ h2 enters_all3 #[] (by simp) (fun v w' => v = setV (~~~(0#256)) ∧ Below w.heap.size w w') ((all_any w).mono fun e w' h => ⟨_, h.1, rfl, h.2⟩) ?_
      rintro v w' ⟨rfl, hb⟩
      rw [h1]
      exact hK _ _ (c3_4 hc hb (by rw [hq2] <;> rfl))
    · have h1 : (wc3Ops[5]?).map (·.dst) = some (some 24) := by kernel_rfl
      have h2 : (wc3Ops[5]?).map (·.op) = some (.binOp .eql 40 (.tmp 22) (.tmp 23) 40) := by kernel_rfl
      have h3 : (wc3Ops[5]?).map (·.guard) = some (some (2, false)) := by kernel_rfl
      rw [ho] at h1 h2 h3
      replace h1 := Option.some.inj h1
      replace h2 := Option.some.inj h2
      replace h3 := Option.some.inj h3
      simp only at h1 h2 h3
      rw [h1] at hK
      have l3 : L 3 = true := hdep 3 (by simp [wc3Dep])
      have l4 : L 4 = true := hdep 4 (by simp [wc3Dep])
      have l2 : L 2 = true := hdep 2 (by simp [wc3Dep])
      have hw := wanted_of (ops := wc3Ops) (b := b) (v := e0) h3 (d := 21) (by kernel_rfl) (hc.v2 l2)
      rw [hw]
      refine ⟨fun hq => ?_, fun hq => (by rw [h1]; exact hK _ _ (c3_5 hc (Below.refl _ _) (by rw [show (!e0) = false by simpa using hq] <;> rfl)))⟩
      have hq2 : (!e0) = true := by simpa using hq
      refine wp_binG .eql _ _ _ _ h2 (setV a) (setV (~~~(0#256))) (.bool e1) ((hc.v3 l3).trans (by rw [hq2] <;> rfl)) ((hc.v4 l4).trans (by rw [hq2] <;> rfl)) (eqg_set _ _ a (~~~(0#256)) w) (hQ w) ?_
      rw [h1]
      exact hK _ _ (c3_5 hc (Below.refl _ _) (by rw [hq2] <;> rfl))
    · have h1 : (wc3Ops[6]?).map (·.dst) = some (some 25) := by kernel_rfl
      have h2 : (wc3Ops[6]?).map (·.op) = some (.pick (.tmp 21) (.const (.bool true)) (.tmp 24)) := by kernel_rfl
      have h3 : (wc3Ops[6]?).map (·.guard) = some none := by kernel_rfl
      rw [ho] at h1 h2 h3
      replace h1 := Option.some.inj h1
      replace h2 := Option.some.inj h2
      replace h3 := Option.some.inj h3
      simp only at h1 h2 h3
      rw [h1] at hK
      have l2 : L 2 = true := hdep 2 (by simp [wc3Dep])
      have l5 : L 5 = true := hdep 5 (by simp [wc3Dep])
      refine ⟨fun _ => ?_, fun hw => by rw [wanted_none h3] at hw; cases hw⟩
      refine wp_pickG _ _ _ h2 e0 (hc.v2 l2) (.bool (e0 || e1)) (by rw [show b.eval (.tmp 24) = _ from hc.v5 l5]; cases e0 <;> cases e1 <;> cases g1 <;> rfl) ?_
      rw [h1]
      exact hK _ _ (c3_6 hc (Below.refl _ _) rfl)
    · have h1 : (wc3Ops[7]?).map (·.dst) = some (some 26) := by kernel_rfl
      have h2 : (wc3Ops[7]?).map (·.op) = some (.move (.tmp 25)) := by kernel_rfl
      have h3 : (wc3Ops[7]?).map (·.guard) = some none := by kernel_rfl
      rw [ho] at h1 h2 h3
      replace h1 := Option.some.inj h1
      replace h2 := Option.some.inj h2
      replace h3 := Option.some.inj h3
      simp only at h1 h2 h3
      rw [h1] at hK
      have l6 : L 6 = true := hdep 6 (by simp [wc3Dep])
      refine ⟨fun _ => ?_, fun hw => by rw [wanted_none h3] at hw; cases hw⟩
      refine wp_moveG _ h2 _ (hc.v6 l6) ?_
      rw [h1]
      exact hK _ _ (c3_7 hc (Below.refl _ _) rfl)
    · have h1 : (wc3Ops[8]?).map (·.dst) = some (some 27) := by kernel_rfl
      have h2 : (wc3Ops[8]?).map (·.op) = some (.load 40 (.tmp 2)) := by kernel_rfl
      have h3 : (wc3Ops[8]?).map (·.guard) = some (some (7, false)) := by kernel_rfl
      rw [ho] at h1 h2 h3
      replace h1 := Option.some.inj h1
      replace h2 := Option.some.inj h2
      replace h3 := Option.some.inj h3
      simp only at h1 h2 h3
      rw [h1] at hK
      have l7 : L 7 = true := hdep 7 (by simp [wc3Dep])
      have hw := wanted_of (ops := wc3Ops) (b := b) (v := (e0 || e1)) h3 (d := 26) (by kernel_rfl) (hc.v7 l7)
      rw [hw]
      refine ⟨fun hq => ?_, fun hq => (by rw [h1]; exact hK _ _ (c3_8 hc (Below.refl _ _) (by rw [show (!(e0 || e1)) = false by simpa using hq] <;> rfl)))⟩
      have hq2 : (!(e0 || e1)) = true := by simpa using hq
      refine wp_load_row 40 (.tmp 2) h2 bx hb2 40 (setL a).toArray (0, 0) (.array 4 23) hBw (by kernel_rfl) rfl (set_info _) ?_
      rw [h1]
      exact hK _ _ (c3_8 hc (Below.refl _ _) (by rw [hq2] <;> rfl))
    · have h1 : (wc3Ops[9]?).map (·.dst) = some (some 28) := by kernel_rfl
      have h2 : (wc3Ops[9]?).map (·.op) = some (.call { callee := .value (.func 15), args := #[.tmp 27], argTypes := #[40] }) := by kernel_rfl
      have h3 : (wc3Ops[9]?).map (·.guard) = some (some (7, false)) := by kernel_rfl
      rw [ho] at h1 h2 h3
      replace h1 := Option.some.inj h1
      replace h2 := Option.some.inj h2
      replace h3 := Option.some.inj h3
      simp only at h1 h2 h3
      rw [h1] at hK
      have l8 : L 8 = true := hdep 8 (by simp [wc3Dep])
      have l7 : L 7 = true := hdep 7 (by simp [wc3Dep])
      have hw := wanted_of (ops := wc3Ops) (b := b) (v := (e0 || e1)) h3 (d := 26) (by kernel_rfl) (hc.v7 l7)
      rw [hw]
      refine ⟨fun hq => ?_, fun hq => (by rw [h1]; exact hK _ _ (c3_9 hc (Below.refl _ _) (by rw [show (!(e0 || e1)) = false by simpa using hq] <;> rfl)))⟩
      have hq2 : (!(e0 || e1)) = true := by simpa using hq
      refine wp_callG 15 _ _ h2 enters_text5 #[setV a] (by simp [show b.eval (.tmp 27) = _ from (hc.v8 l8).trans (by rw [hq2] <;> rfl)]) (fun v w' => v = .string ⟨(textL a).toArray⟩ ∧ Below w.heap.size w w') ((text_any a hTw).mono fun e w' h => ⟨_, h.1, rfl, h.2⟩) ?_
      rintro v w' ⟨rfl, hb⟩
      rw [h1]
      exact hK _ _ (c3_9 hc hb (by rw [hq2] <;> rfl))
    · have h1 : (wc3Ops[10]?).map (·.dst) = some (some 29) := by kernel_rfl
      have h2 : (wc3Ops[10]?).map (·.op) = some (.call { callee := .builtin .len, args := #[.tmp 28], argTypes := #[9] }) := by kernel_rfl
      have h3 : (wc3Ops[10]?).map (·.guard) = some (some (7, false)) := by kernel_rfl
      rw [ho] at h1 h2 h3
      replace h1 := Option.some.inj h1
      replace h2 := Option.some.inj h2
      replace h3 := Option.some.inj h3
      simp only at h1 h2 h3
      rw [h1] at hK
      have l9 : L 9 = true := hdep 9 (by simp [wc3Dep])
      have l7 : L 7 = true := hdep 7 (by simp [wc3Dep])
      have hw := wanted_of (ops := wc3Ops) (b := b) (v := (e0 || e1)) h3 (d := 26) (by kernel_rfl) (hc.v7 l7)
      rw [hw]
      refine ⟨fun hq => ?_, fun hq => (by rw [h1]; exact hK _ _ (c3_10 hc (Below.refl _ _) (by rw [show (!(e0 || e1)) = false by simpa using hq] <;> rfl)))⟩
      have hq2 : (!(e0 || e1)) = true := by simpa using hq
      refine wp_lenG _ _ h2 Tryd.underlying9 (textL a) ((hc.v9 l9).trans (by rw [hq2] <;> rfl)) ?_
      rw [h1]
      exact hK _ _ (c3_10 hc (Below.refl _ _) (by rw [hq2] <;> rfl))
    · have h1 : (wc3Ops[11]?).map (·.dst) = some (some 30) := by kernel_rfl
      have h2 : (wc3Ops[11]?).map (·.op) = some (.binOp .gtr 3 (.tmp 29) (.const (.int .i64 200)) 3) := by kernel_rfl
      have h3 : (wc3Ops[11]?).map (·.guard) = some (some (7, false)) := by kernel_rfl
      rw [ho] at h1 h2 h3
      replace h1 := Option.some.inj h1
      replace h2 := Option.some.inj h2
      replace h3 := Option.some.inj h3
      simp only at h1 h2 h3
      rw [h1] at hK
      have l10 : L 10 = true := hdep 10 (by simp [wc3Dep])
      have l7 : L 7 = true := hdep 7 (by simp [wc3Dep])
      have hw := wanted_of (ops := wc3Ops) (b := b) (v := (e0 || e1)) h3 (d := 26) (by kernel_rfl) (hc.v7 l7)
      rw [hw]
      refine ⟨fun hq => ?_, fun hq => (by rw [h1]; exact hK _ _ (c3_11 hc (Below.refl _ _) (by rw [show (!(e0 || e1)) = false by simpa using hq] <;> rfl)))⟩
      have hq2 : (!(e0 || e1)) = true := by simpa using hq
      refine wp_binG .gtr _ _ _ _ h2 (.int .i64 ((textL a).length : Int)) (.int .i64 200) (.bool (g1)) ((hc.v10 l10).trans (by rw [hq2] <;> rfl)) rfl rfl (by have hd : decide ((200 : Int) < (((textL a).length : Nat) : Int)) = decide (200 < (textL a).length) := (by rw [Bool.eq_iff_iff]; simp <;> omega); rw [HG1.out, ← hd]; rfl) ?_
      rw [h1]
      exact hK _ _ (c3_11 hc (Below.refl _ _) (by rw [hq2] <;> rfl))
    · have h1 : (wc3Ops[12]?).map (·.dst) = some (some 31) := by kernel_rfl
      have h2 : (wc3Ops[12]?).map (·.op) = some (.pick (.tmp 26) (.const (.bool true)) (.tmp 30)) := by kernel_rfl
      have h3 : (wc3Ops[12]?).map (·.guard) = some none := by kernel_rfl
      rw [ho] at h1 h2 h3
      replace h1 := Option.some.inj h1
      replace h2 := Option.some.inj h2
      replace h3 := Option.some.inj h3
      simp only at h1 h2 h3
      rw [h1] at hK
      have l7 : L 7 = true := hdep 7 (by simp [wc3Dep])
      have l11 : L 11 = true := hdep 11 (by simp [wc3Dep])
      refine ⟨fun _ => ?_, fun hw => by rw [wanted_none h3] at hw; cases hw⟩
      refine wp_pickG _ _ _ h2 (e0 || e1) (hc.v7 l7) (.bool (e0 || e1 || g1)) (by rw [show b.eval (.tmp 30) = _ from hc.v11 l11]; cases e0 <;> cases e1 <;> cases g1 <;> rfl) ?_
      rw [h1]
      exact hK _ _ (c3_12 hc (Below.refl _ _) rfl)
    · have h1 : (wc3Ops[13]?).map (·.dst) = some (some 32) := by kernel_rfl
      have h2 : (wc3Ops[13]?).map (·.op) = some (.move (.tmp 31)) := by kernel_rfl
      have h3 : (wc3Ops[13]?).map (·.guard) = some none := by kernel_rfl
      rw [ho] at h1 h2 h3
      replace h1 := Option.some.inj h1
      replace h2 := Option.some.inj h2
      replace h3 := Option.some.inj h3
      simp only at h1 h2 h3
      rw [h1] at hK
      have l12 : L 12 = true := hdep 12 (by simp [wc3Dep])
      refine ⟨fun _ => ?_, fun hw => by rw [wanted_none h3] at hw; cases hw⟩
      refine wp_moveG _ h2 _ (hc.v12 l12) ?_
      rw [h1]
      exact hK _ _ (c3_13 hc (Below.refl _ _) rfl)
    · have h1 : (wc3Ops[14]?).map (·.dst) = some (some 33) := by kernel_rfl
      have h2 : (wc3Ops[14]?).map (·.op) = some (.load 40 (.tmp 2)) := by kernel_rfl
      have h3 : (wc3Ops[14]?).map (·.guard) = some (some (13, false)) := by kernel_rfl
      rw [ho] at h1 h2 h3
      replace h1 := Option.some.inj h1
      replace h2 := Option.some.inj h2
      replace h3 := Option.some.inj h3
      simp only at h1 h2 h3
      rw [h1] at hK
      have l13 : L 13 = true := hdep 13 (by simp [wc3Dep])
      have hw := wanted_of (ops := wc3Ops) (b := b) (v := (e0 || e1 || g1)) h3 (d := 32) (by kernel_rfl) (hc.v13 l13)
      rw [hw]
      refine ⟨fun hq => ?_, fun hq => (by rw [h1]; exact hK _ _ (c3_14 hc (Below.refl _ _) (by rw [show (!(e0 || e1 || g1)) = false by simpa using hq] <;> rfl)))⟩
      have hq2 : (!(e0 || e1 || g1)) = true := by simpa using hq
      refine wp_load_row 40 (.tmp 2) h2 bx hb2 40 (setL a).toArray (0, 0) (.array 4 23) hBw (by kernel_rfl) rfl (set_info _) ?_
      rw [h1]
      exact hK _ _ (c3_14 hc (Below.refl _ _) (by rw [hq2] <;> rfl))
    · have h1 : (wc3Ops[15]?).map (·.dst) = some (some 34) := by kernel_rfl
      have h2 : (wc3Ops[15]?).map (·.op) = some (.call { callee := .value (.func 17), args := #[.tmp 33], argTypes := #[40] }) := by kernel_rfl
      have h3 : (wc3Ops[15]?).map (·.guard) = some (some (13, false)) := by kernel_rfl
      rw [ho] at h1 h2 h3
      replace h1 := Option.some.inj h1
      replace h2 := Option.some.inj h2
      replace h3 := Option.some.inj h3
      simp only at h1 h2 h3
      rw [h1] at hK
      have l14 : L 14 = true := hdep 14 (by simp [wc3Dep])
      have l13 : L 13 = true := hdep 13 (by simp [wc3Dep])
      have hw := wanted_of (ops := wc3Ops) (b := b) (v := (e0 || e1 || g1)) h3 (d := 32) (by kernel_rfl) (hc.v13 l13)
      rw [hw]
      refine ⟨fun hq => ?_, fun hq => (by rw [h1]; exact hK _ _ (c3_15 hc (Below.refl _ _) (by rw [show (!(e0 || e1 || g1)) = false by simpa using hq] <;> rfl)))⟩
      have hq2 : (!(e0 || e1 || g1)) = true := by simpa using hq
      refine wp_callG 17 _ _ h2 enters_not5 #[setV a] (by simp [show b.eval (.tmp 33) = _ from (hc.v14 l14).trans (by rw [hq2] <;> rfl)]) (fun v w' => v = setV (~~~a) ∧ Below w.heap.size w w') ((not_any a w).mono fun e w' h => ⟨_, h.1, rfl, h.2⟩) ?_
      rintro v w' ⟨rfl, hb⟩
      rw [h1]
      exact hK _ _ (c3_15 hc hb (by rw [hq2] <;> rfl))
    · have h1 : (wc3Ops[16]?).map (·.dst) = some (some 35) := by kernel_rfl
      have h2 : (wc3Ops[16]?).map (·.op) = some (.call { callee := .value (.func 15), args := #[.tmp 34], argTypes := #[40] }) := by kernel_rfl
      have h3 : (wc3Ops[16]?).map (·.guard) = some (some (13, false)) := by kernel_rfl
      rw [ho] at h1 h2 h3
      replace h1 := Option.some.inj h1
      replace h2 := Option.some.inj h2
      replace h3 := Option.some.inj h3
      simp only at h1 h2 h3
      rw [h1] at hK
      have l15 : L 15 = true := hdep 15 (by simp [wc3Dep])
      have l13 : L 13 = true := hdep 13 (by simp [wc3Dep])
      have hw := wanted_of (ops := wc3Ops) (b := b) (v := (e0 || e1 || g1)) h3 (d := 32) (by kernel_rfl) (hc.v13 l13)
      rw [hw]
      refine ⟨fun hq => ?_, fun hq => (by rw [h1]; exact hK _ _ (c3_16 hc (Below.refl _ _) (by rw [show (!(e0 || e1 || g1)) = false by simpa using hq] <;> rfl)))⟩
      have hq2 : (!(e0 || e1 || g1)) = true := by simpa using hq
      refine wp_callG 15 _ _ h2 enters_text5 #[setV (~~~a)] (by simp [show b.eval (.tmp 34) = _ from (hc.v15 l15).trans (by rw [hq2] <;> rfl)]) (fun v w' => v = .string ⟨(textL (~~~a)).toArray⟩ ∧ Below w.heap.size w w') ((text_any (~~~a) hTw).mono fun e w' h => ⟨_, h.1, rfl, h.2⟩) ?_
      rintro v w' ⟨rfl, hb⟩
      rw [h1]
      exact hK _ _ (c3_16 hc hb (by rw [hq2] <;> rfl))
    · have h1 : (wc3Ops[17]?).map (·.dst) = some (some 36) := by kernel_rfl
      have h2 : (wc3Ops[17]?).map (·.op) = some (.call { callee := .builtin .len, args := #[.tmp 35], argTypes := #[9] }) := by kernel_rfl
      have h3 : (wc3Ops[17]?).map (·.guard) = some (some (13, false)) := by kernel_rfl
      rw [ho] at h1 h2 h3
      replace h1 := Option.some.inj h1
      replace h2 := Option.some.inj h2
      replace h3 := Option.some.inj h3
      simp only at h1 h2 h3
      rw [h1] at hK
      have l16 : L 16 = true := hdep 16 (by simp [wc3Dep])
      have l13 : L 13 = true := hdep 13 (by simp [wc3Dep])
      have hw := wanted_of (ops := wc3Ops) (b := b) (v := (e0 || e1 || g1)) h3 (d := 32) (by kernel_rfl) (hc.v13 l13)
      rw [hw]
      refine ⟨fun hq => ?_, fun hq => (by rw [h1]; exact hK _ _ (c3_17 hc (Below.refl _ _) (by rw [show (!(e0 || e1 || g1)) = false by simpa using hq] <;> rfl)))⟩
      have hq2 : (!(e0 || e1 || g1)) = true := by simpa using hq
      refine wp_lenG _ _ h2 Tryd.underlying9 (textL (~~~a)) ((hc.v16 l16).trans (by rw [hq2] <;> rfl)) ?_
      rw [h1]
      exact hK _ _ (c3_17 hc (Below.refl _ _) (by rw [hq2] <;> rfl))
    · have h1 : (wc3Ops[18]?).map (·.dst) = some (some 37) := by kernel_rfl
      have h2 : (wc3Ops[18]?).map (·.op) = some (.binOp .gtr 3 (.tmp 36) (.const (.int .i64 200)) 3) := by kernel_rfl
      have h3 : (wc3Ops[18]?).map (·.guard) = some (some (13, false)) := by kernel_rfl
      rw [ho] at h1 h2 h3
      replace h1 := Option.some.inj h1
      replace h2 := Option.some.inj h2
      replace h3 := Option.some.inj h3
      simp only at h1 h2 h3
      rw [h1] at hK
      have l17 : L 17 = true := hdep 17 (by simp [wc3Dep])
      have l13 : L 13 = true := hdep 13 (by simp [wc3Dep])
      have hw := wanted_of (ops := wc3Ops) (b := b) (v := (e0 || e1 || g1)) h3 (d := 32) (by kernel_rfl) (hc.v13 l13)
      rw [hw]
      refine ⟨fun hq => ?_, fun hq => (by rw [h1]; exact hK _ _ (c3_18 hc (Below.refl _ _) (by rw [show (!(e0 || e1 || g1)) = false by simpa using hq] <;> rfl)))⟩
      have hq2 : (!(e0 || e1 || g1)) = true := by simpa using hq
      refine wp_binG .gtr _ _ _ _ h2 (.int .i64 ((textL (~~~a)).length : Int)) (.int .i64 200) (.bool (g2)) ((hc.v17 l17).trans (by rw [hq2] <;> rfl)) rfl rfl (by have hd : decide ((200 : Int) < (((textL (~~~a)).length : Nat) : Int)) = decide (200 < (textL (~~~a)).length) := (by rw [Bool.eq_iff_iff]; simp <;> omega); rw [HG2.out, ← hd]; rfl) ?_
      rw [h1]
      exact hK _ _ (c3_18 hc (Below.refl _ _) (by rw [hq2] <;> rfl))
    · have h1 : (wc3Ops[19]?).map (·.dst) = some (some 38) := by kernel_rfl
      have h2 : (wc3Ops[19]?).map (·.op) = some (.pick (.tmp 32) (.const (.bool true)) (.tmp 37)) := by kernel_rfl
      have h3 : (wc3Ops[19]?).map (·.guard) = some none := by kernel_rfl
      rw [ho] at h1 h2 h3
      replace h1 := Option.some.inj h1
      replace h2 := Option.some.inj h2
      replace h3 := Option.some.inj h3
      simp only at h1 h2 h3
      rw [h1] at hK
      have l13 : L 13 = true := hdep 13 (by simp [wc3Dep])
      have l18 : L 18 = true := hdep 18 (by simp [wc3Dep])
      refine ⟨fun _ => ?_, fun hw => by rw [wanted_none h3] at hw; cases hw⟩
      refine wp_pickG _ _ _ h2 (e0 || e1 || g1) (hc.v13 l13) (.bool (e0 || e1 || g1 || g2)) (by rw [show b.eval (.tmp 37) = _ from hc.v18 l18]; cases e0 <;> cases e1 <;> cases g1 <;> rfl) ?_
      rw [h1]
      exact hK _ _ (c3_19 hc (Below.refl _ _) rfl)
  · rintro L b w hL hd hs hf hc
    have hsz2 : wc3Ops.size = 20 := rfl
    rw [hsz2] at hL
    have e := act_eq (a := A0) (b := b) (wc3Us (Act.at b)) hd hs hf (by
      intro p hp
      simp only [wc3Us, List.mem_cons, List.not_mem_nil, or_false] at hp
      rcases hp with rfl | rfl | rfl | rfl | rfl | rfl | rfl | rfl | rfl | rfl | rfl | rfl | rfl | rfl | rfl | rfl | rfl | rfl | rfl | rfl <;> rfl) (by rw [show (wc3Us (Act.at b)).map (·.1) = [19, 20, 21, 22, 23, 24, 25, 26, 27, 28, 29, 30, 31, 32, 33, 34, 35, 36, 37, 38] from rfl]; decide)
    rw [e]
    exact hk (Act.at b) w (hc.v19 (hL 19 (by omega))) ⟨hc.bel.os, hc.bel.tape, hc.bel.output, hc.bel.size, hc.bel.block⟩
end Go.Proofs.YtbpgfphilcjmdaaDoor
