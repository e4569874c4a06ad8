/- class's laws: 'and, or, not := ..' as a region in open order. -/
import Derived.Test.YthafegignjhcnaaDoorSpl8
namespace Go.Proofs.YthafegignjhcnaaDoor
open Go.RowKit

theorem enters_or : ∀ args w, (callFunc 16 args).run Tryd.prog w = .ok (.enter 16 args) w := enters_of Tryd.func16 (by kernel_rfl) rfl
def csOps : Array Oper := #[{ dst := some 17, op := Op.load 24 (Operand.tmp 2), type := 24, pos := "law.go:21", after := #[], guard := none }, { dst := some 18, op := Op.load 24 (Operand.tmp 3), type := 24, pos := "law.go:21", after := #[], guard := none }, { dst := some 19, op := Op.call { callee := Callee.value (Operand.func 15), args := #[Operand.tmp 17, Operand.tmp 18], argTypes := #[24, 24] }, type := 24, pos := "law.go:21", after := #[{ on := 0, ground := Ground.data }, { on := 1, ground := Ground.data }], guard := none }, { dst := some 20, op := Op.load 24 (Operand.tmp 2), type := 24, pos := "law.go:21", after := #[], guard := none }, { dst := some 21, op := Op.load 24 (Operand.tmp 3), type := 24, pos := "law.go:21", after := #[], guard := none }, { dst := some 22, op := Op.call { callee := Callee.value (Operand.func 16), args := #[Operand.tmp 20, Operand.tmp 21], argTypes := #[24, 24] }, type := 24, pos := "law.go:21", after := #[{ on := 3, ground := Ground.data }, { on := 4, ground := Ground.data }, { on := 2, ground := Ground.chain }], guard := none }, { dst := some 23, op := Op.load 24 (Operand.tmp 2), type := 24, pos := "law.go:21", after := #[], guard := none }, { dst := some 24, op := Op.call { callee := Callee.value (Operand.func 17), args := #[Operand.tmp 23], argTypes := #[24] }, type := 24, pos := "law.go:21", after := #[{ on := 6, ground := Ground.data }, { on := 5, ground := Ground.chain }], guard := none }, { dst := some 5, op := Op.alloc 24, type := 0, pos := "law.go:21", after := #[], guard := none }, { dst := some 6, op := Op.alloc 24, type := 0, pos := "law.go:21", after := #[], guard := none }, { dst := some 7, op := Op.alloc 24, type := 0, pos := "law.go:21", after := #[], guard := none }, { dst := none, op := Op.store 24 (Operand.tmp 5) (Operand.tmp 19), type := 0, pos := "law.go:21", after := #[{ on := 8, ground := Ground.data }, { on := 2, ground := Ground.data }, { on := 7, ground := Ground.chain }, { on := 0, ground := Ground.phase }, { on := 1, ground := Ground.phase }, { on := 2, ground := Ground.phase }, { on := 3, ground := Ground.textOnly Departure.lateStores }, { on := 4, ground := Ground.textOnly Departure.lateStores }, { on := 5, ground := Ground.textOnly Departure.lateStoresUnsure }, { on := 6, ground := Ground.textOnly Departure.lateStores }, { on := 7, ground := Ground.textOnly Departure.lateStoresUnsure }, { on := 8, ground := Ground.phase }, { on := 9, ground := Ground.phase }, { on := 10, ground := Ground.phase }], guard := none }, { dst := none, op := Op.store 24 (Operand.tmp 6) (Operand.tmp 22), type := 0, pos := "law.go:21", after := #[{ on := 9, ground := Ground.data }, { on := 5, ground := Ground.data }, { on := 11, ground := Ground.chain }, { on := 0, ground := Ground.phase }, { on := 1, ground := Ground.phase }, { on := 2, ground := Ground.phase }, { on := 3, ground := Ground.phase }, { on := 4, ground := Ground.phase }, { on := 5, ground := Ground.phase }, { on := 6, ground := Ground.textOnly Departure.lateStores }, { on := 7, ground := Ground.textOnly Departure.lateStoresUnsure }, { on := 8, ground := Ground.phase }, { on := 9, ground := Ground.phase }, { on := 10, ground := Ground.phase }, { on := 11, ground := Ground.phase }], guard := none }, { dst := none, op := Op.store 24 (Operand.tmp 7) (Operand.tmp 24), type := 0, pos := "law.go:21", after := #[{ on := 10, ground := Ground.data }, { on := 7, ground := Ground.data }, { on := 12, ground := Ground.chain }, { on := 0, ground := Ground.phase }, { on := 1, ground := Ground.phase }, { on := 2, ground := Ground.phase }, { on := 3, ground := Ground.phase }, { on := 4, ground := Ground.phase }, { on := 5, ground := Ground.phase }, { on := 6, ground := Ground.phase }, { on := 7, ground := Ground.phase }, { on := 8, ground := Ground.phase }, { on := 9, ground := Ground.phase }, { on := 10, ground := Ground.phase }, { on := 11, ground := Ground.phase }, { on := 12, ground := Ground.phase }], guard := none }]
def csCond (a b : BS) (w0 : World) (L : Nat → Bool) (v5 v6 v7 v17 v18 v19 v20 v21 v22 v23 v24 : Value) (w : World) : Prop :=
  Below w0.heap.size w0 w ∧ (L 0 = true → v17 = setV (a)) ∧
    (L 1 = true → v18 = setV (b)) ∧
    (L 2 = true → v19 = setV (a &&& b)) ∧
    (L 3 = true → v20 = setV (a)) ∧
    (L 4 = true → v21 = setV (b)) ∧
    (L 5 = true → v22 = setV (a ||| b)) ∧
    (L 6 = true → v23 = setV (a)) ∧
    (L 7 = true → v24 = setV (~~~a)) ∧
    (L 8 = true → ∃ A, v5 = .pointer (some ⟨A, 0, none⟩) ∧ w0.heap.size ≤ A ∧ Blk w A 24 (if L 11 = true then setL (a &&& b) else four (fun _ => 0))) ∧
    (L 9 = true → ∃ A, v6 = .pointer (some ⟨A, 0, none⟩) ∧ w0.heap.size ≤ A ∧ Blk w A 24 (if L 12 = true then setL (a ||| b) else four (fun _ => 0))) ∧
    (L 10 = true → ∃ A, v7 = .pointer (some ⟨A, 0, none⟩) ∧ w0.heap.size ≤ A ∧ Blk w A 24 (if L 13 = true then setL (~~~a) else four (fun _ => 0))) ∧
    (L 8 = true → L 9 = true → v5 ≠ v6) ∧
    (L 8 = true → L 10 = true → v5 ≠ v7) ∧
    (L 9 = true → L 10 = true → v6 ≠ v7) ∧
    (L 11 = true → L 8 = true) ∧
    (L 12 = true → L 9 = true) ∧
    (L 13 = true → L 10 = true)
theorem ptr_ne {A B : Nat} (h : A ≠ B) : (Value.pointer (some ⟨A, 0, none⟩)) ≠ .pointer (some ⟨B, 0, none⟩) := by
  intro hc
  injection hc with hc
  injection hc with hc
  injection hc with hc
  exact h hc
theorem csc_0 {a b : BS} {w0 : World} {L : Nat → Bool} {v5 v6 v7 v17 v18 v19 v20 v21 v22 v23 v24 : Value} {w w' : World} (h : csCond a b w0 L v5 v6 v7 v17 v18 v19 v20 v21 v22 v23 v24 w) (hb : Below w.heap.size w w') : csCond a b w0 (fun j => if j = 0 then true else L j) v5 v6 v7 (setV (a)) v18 v19 v20 v21 v22 v23 v24 w' := by
  obtain ⟨hb0, c0, c1, c2, c3, c4, c5, c6, c7, c8, c9, c10, c11, c12, c13, c14, c15, c16⟩ := h
  refine ⟨hb0.trans (hb.mono hb0.size), fun _ => rfl, by simpa using c1, by simpa using c2, by simpa using c3, by simpa using c4, by simpa using c5, by simpa using c6, by simpa using c7, ?_, ?_, ?_, by simpa using c11, by simpa using c12, by simpa using c13, by simpa using c14, by simpa using c15, by simpa using c16⟩
  · intro h
    obtain ⟨A, e, hA, hk⟩ := c8 (by simpa using h)
    exact ⟨A, e, hA, by simpa using hk.keep hb⟩
  · intro h
    obtain ⟨A, e, hA, hk⟩ := c9 (by simpa using h)
    exact ⟨A, e, hA, by simpa using hk.keep hb⟩
  · intro h
    obtain ⟨A, e, hA, hk⟩ := c10 (by simpa using h)
    exact ⟨A, e, hA, by simpa using hk.keep hb⟩
theorem csc_1 {a b : BS} {w0 : World} {L : Nat → Bool} {v5 v6 v7 v17 v18 v19 v20 v21 v22 v23 v24 : Value} {w w' : World} (h : csCond a b w0 L v5 v6 v7 v17 v18 v19 v20 v21 v22 v23 v24 w) (hb : Below w.heap.size w w') : csCond a b w0 (fun j => if j = 1 then true else L j) v5 v6 v7 v17 (setV (b)) v19 v20 v21 v22 v23 v24 w' := by
  obtain ⟨hb0, c0, c1, c2, c3, c4, c5, c6, c7, c8, c9, c10, c11, c12, c13, c14, c15, c16⟩ := h
  refine ⟨hb0.trans (hb.mono hb0.size), by simpa using c0, fun _ => rfl, by simpa using c2, by simpa using c3, by simpa using c4, by simpa using c5, by simpa using c6, by simpa using c7, ?_, ?_, ?_, by simpa using c11, by simpa using c12, by simpa using c13, by simpa using c14, by simpa using c15, by simpa using c16⟩
  · intro h
    obtain ⟨A, e, hA, hk⟩ := c8 (by simpa using h)
    exact ⟨A, e, hA, by simpa using hk.keep hb⟩
  · intro h
    obtain ⟨A, e, hA, hk⟩ := c9 (by simpa using h)
    exact ⟨A, e, hA, by simpa using hk.keep hb⟩
  · intro h
    obtain ⟨A, e, hA, hk⟩ := c10 (by simpa using h)
    exact ⟨A, e, hA, by simpa using hk.keep hb⟩
theorem csc_2 {a b : BS} {w0 : World} {L : Nat → Bool} {v5 v6 v7 v17 v18 v19 v20 v21 v22 v23 v24 : Value} {w w' : World} (h : csCond a b w0 L v5 v6 v7 v17 v18 v19 v20 v21 v22 v23 v24 w) (hb : Below w.heap.size w w') : csCond a b w0 (fun j => if j = 2 then true else L j) v5 v6 v7 v17 v18 (setV (a &&& b)) v20 v21 v22 v23 v24 w' := by
  obtain ⟨hb0, c0, c1, c2, c3, c4, c5, c6, c7, c8, c9, c10, c11, c12, c13, c14, c15, c16⟩ := h
  refine ⟨hb0.trans (hb.mono hb0.size), by simpa using c0, by simpa using c1, fun _ => rfl, by simpa using c3, by simpa using c4, by simpa using c5, by simpa using c6, by simpa using c7, ?_, ?_, ?_, by simpa using c11, by simpa using c12, by simpa using c13, by simpa using c14, by simpa using c15, by simpa using c16⟩
  · intro h
    obtain ⟨A, e, hA, hk⟩ := c8 (by simpa using h)
    exact ⟨A, e, hA, by simpa using hk.keep hb⟩
  · intro h
    obtain ⟨A, e, hA, hk⟩ := c9 (by simpa using h)
    exact ⟨A, e, hA, by simpa using hk.keep hb⟩
  · intro h
    obtain ⟨A, e, hA, hk⟩ := c10 (by simpa using h)
    exact ⟨A, e, hA, by simpa using hk.keep hb⟩
theorem csc_3 {a b : BS} {w0 : World} {L : Nat → Bool} {v5 v6 v7 v17 v18 v19 v20 v21 v22 v23 v24 : Value} {w w' : World} (h : csCond a b w0 L v5 v6 v7 v17 v18 v19 v20 v21 v22 v23 v24 w) (hb : Below w.heap.size w w') : csCond a b w0 (fun j => if j = 3 then true else L j) v5 v6 v7 v17 v18 v19 (setV (a)) v21 v22 v23 v24 w' := by
  obtain ⟨hb0, c0, c1, c2, c3, c4, c5, c6, c7, c8, c9, c10, c11, c12, c13, c14, c15, c16⟩ := h
  refine ⟨hb0.trans (hb.mono hb0.size), by simpa using c0, by simpa using c1, by simpa using c2, fun _ => rfl, by simpa using c4, by simpa using c5, by simpa using c6, by simpa using c7, ?_, ?_, ?_, by simpa using c11, by simpa using c12, by simpa using c13, by simpa using c14, by simpa using c15, by simpa using c16⟩
  · intro h
    obtain ⟨A, e, hA, hk⟩ := c8 (by simpa using h)
    exact ⟨A, e, hA, by simpa using hk.keep hb⟩
  · intro h
    obtain ⟨A, e, hA, hk⟩ := c9 (by simpa using h)
    exact ⟨A, e, hA, by simpa using hk.keep hb⟩
  · intro h
    obtain ⟨A, e, hA, hk⟩ := c10 (by simpa using h)
    exact ⟨A, e, hA, by simpa using hk.keep hb⟩
theorem csc_4 {a b : BS} {w0 : World} {L : Nat → Bool} {v5 v6 v7 v17 v18 v19 v20 v21 v22 v23 v24 : Value} {w w' : World} (h : csCond a b w0 L v5 v6 v7 v17 v18 v19 v20 v21 v22 v23 v24 w) (hb : Below w.heap.size w w') : csCond a b w0 (fun j => if j = 4 then true else L j) v5 v6 v7 v17 v18 v19 v20 (setV (b)) v22 v23 v24 w' := by
  obtain ⟨hb0, c0, c1, c2, c3, c4, c5, c6, c7, c8, c9, c10, c11, c12, c13, c14, c15, c16⟩ := h
  refine ⟨hb0.trans (hb.mono hb0.size), by simpa using c0, by simpa using c1, by simpa using c2, by simpa using c3, fun _ => rfl, by simpa using c5, by simpa using c6, by simpa using c7, ?_, ?_, ?_, by simpa using c11, by simpa using c12, by simpa using c13, by simpa using c14, by simpa using c15, by simpa using c16⟩
  · intro h
    obtain ⟨A, e, hA, hk⟩ := c8 (by simpa using h)
    exact ⟨A, e, hA, by simpa using hk.keep hb⟩
  · intro h
    obtain ⟨A, e, hA, hk⟩ := c9 (by simpa using h)
    exact ⟨A, e, hA, by simpa using hk.keep hb⟩
  · intro h
    obtain ⟨A, e, hA, hk⟩ := c10 (by simpa using h)
    exact ⟨A, e, hA, by simpa using hk.keep hb⟩
theorem csc_5 {a b : BS} {w0 : World} {L : Nat → Bool} {v5 v6 v7 v17 v18 v19 v20 v21 v22 v23 v24 : Value} {w w' : World} (h : csCond a b w0 L v5 v6 v7 v17 v18 v19 v20 v21 v22 v23 v24 w) (hb : Below w.heap.size w w') : csCond a b w0 (fun j => if j = 5 then true else L j) v5 v6 v7 v17 v18 v19 v20 v21 (setV (a ||| b)) v23 v24 w' := by
  obtain ⟨hb0, c0, c1, c2, c3, c4, c5, c6, c7, c8, c9, c10, c11, c12, c13, c14, c15, c16⟩ := h
  refine ⟨hb0.trans (hb.mono hb0.size), by simpa using c0, by simpa using c1, by simpa using c2, by simpa using c3, by simpa using c4, fun _ => rfl, by simpa using c6, by simpa using c7, ?_, ?_, ?_, by simpa using c11, by simpa using c12, by simpa using c13, by simpa using c14, by simpa using c15, by simpa using c16⟩
  · intro h
    obtain ⟨A, e, hA, hk⟩ := c8 (by simpa using h)
    exact ⟨A, e, hA, by simpa using hk.keep hb⟩
  · intro h
    obtain ⟨A, e, hA, hk⟩ := c9 (by simpa using h)
    exact ⟨A, e, hA, by simpa using hk.keep hb⟩
  · intro h
    obtain ⟨A, e, hA, hk⟩ := c10 (by simpa using h)
    exact ⟨A, e, hA, by simpa using hk.keep hb⟩
theorem csc_6 {a b : BS} {w0 : World} {L : Nat → Bool} {v5 v6 v7 v17 v18 v19 v20 v21 v22 v23 v24 : Value} {w w' : World} (h : csCond a b w0 L v5 v6 v7 v17 v18 v19 v20 v21 v22 v23 v24 w) (hb : Below w.heap.size w w') : csCond a b w0 (fun j => if j = 6 then true else L j) v5 v6 v7 v17 v18 v19 v20 v21 v22 (setV (a)) v24 w' := by
  obtain ⟨hb0, c0, c1, c2, c3, c4, c5, c6, c7, c8, c9, c10, c11, c12, c13, c14, c15, c16⟩ := h
  refine ⟨hb0.trans (hb.mono hb0.size), by simpa using c0, by simpa using c1, by simpa using c2, by simpa using c3, by simpa using c4, by simpa using c5, fun _ => rfl, by simpa using c7, ?_, ?_, ?_, by simpa using c11, by simpa using c12, by simpa using c13, by simpa using c14, by simpa using c15, by simpa using c16⟩
  · intro h
    obtain ⟨A, e, hA, hk⟩ := c8 (by simpa using h)
    exact ⟨A, e, hA, by simpa using hk.keep hb⟩
  · intro h
    obtain ⟨A, e, hA, hk⟩ := c9 (by simpa using h)
    exact ⟨A, e, hA, by simpa using hk.keep hb⟩
  · intro h
    obtain ⟨A, e, hA, hk⟩ := c10 (by simpa using h)
    exact ⟨A, e, hA, by simpa using hk.keep hb⟩
theorem csc_7 {a b : BS} {w0 : World} {L : Nat → Bool} {v5 v6 v7 v17 v18 v19 v20 v21 v22 v23 v24 : Value} {w w' : World} (h : csCond a b w0 L v5 v6 v7 v17 v18 v19 v20 v21 v22 v23 v24 w) (hb : Below w.heap.size w w') : csCond a b w0 (fun j => if j = 7 then true else L j) v5 v6 v7 v17 v18 v19 v20 v21 v22 v23 (setV (~~~a)) w' := by
  obtain ⟨hb0, c0, c1, c2, c3, c4, c5, c6, c7, c8, c9, c10, c11, c12, c13, c14, c15, c16⟩ := h
  refine ⟨hb0.trans (hb.mono hb0.size), by simpa using c0, by simpa using c1, by simpa using c2, by simpa using c3, by simpa using c4, by simpa using c5, by simpa using c6, fun _ => rfl, ?_, ?_, ?_, by simpa using c11, by simpa using c12, by simpa using c13, by simpa using c14, by simpa using c15, by simpa using c16⟩
  · intro h
    obtain ⟨A, e, hA, hk⟩ := c8 (by simpa using h)
    exact ⟨A, e, hA, by simpa using hk.keep hb⟩
  · intro h
    obtain ⟨A, e, hA, hk⟩ := c9 (by simpa using h)
    exact ⟨A, e, hA, by simpa using hk.keep hb⟩
  · intro h
    obtain ⟨A, e, hA, hk⟩ := c10 (by simpa using h)
    exact ⟨A, e, hA, by simpa using hk.keep hb⟩
theorem csc_8 {a b : BS} {w0 : World} {L : Nat → Bool} {v5 v6 v7 v17 v18 v19 v20 v21 v22 v23 v24 : Value} {w : World} (hLi : L 8 = false) (h : csCond a b w0 L v5 v6 v7 v17 v18 v19 v20 v21 v22 v23 v24 w) : csCond a b w0 (fun j => if j = 8 then true else L j) (.pointer (some ⟨w.heap.size, 0, none⟩)) v6 v7 v17 v18 v19 v20 v21 v22 v23 v24 (w.alloc (.cells (four (fun _ => 0)).toArray 24)) := by
  obtain ⟨hb0, c0, c1, c2, c3, c4, c5, c6, c7, c8, c9, c10, c11, c12, c13, c14, c15, c16⟩ := h
  have hLs : L 11 = false := by cases hh : L 11 with | false => rfl | true => rw [c14 hh] at hLi; cases hLi
  refine ⟨hb0.alloc hb0.size _, by simpa using c0, by simpa using c1, by simpa using c2, by simpa using c3, by simpa using c4, by simpa using c5, by simpa using c6, by simpa using c7, ?_, ?_, ?_, ?_, ?_, by simpa using c13, ?_, by simpa using c15, by simpa using c16⟩
  · intro _
    exact ⟨w.heap.size, rfl, hb0.size, by simpa [hLs] using Blk.fresh w 24 (four (fun _ => 0))⟩
  · intro h
    obtain ⟨A, e, hA, hk⟩ := c9 (by simpa using h)
    exact ⟨A, e, hA, by simpa using hk.alloc _⟩
  · intro h
    obtain ⟨A, e, hA, hk⟩ := c10 (by simpa using h)
    exact ⟨A, e, hA, by simpa using hk.alloc _⟩
  · intro h1 h2
    obtain ⟨A, e, hA, hk⟩ := c9 (by simpa using h2)
    have := hk.lt
    rw [e]
    exact ptr_ne (by omega)
  · intro h1 h2
    obtain ⟨A, e, hA, hk⟩ := c10 (by simpa using h2)
    have := hk.lt
    rw [e]
    exact ptr_ne (by omega)
  · intro _
    simp
theorem csc_9 {a b : BS} {w0 : World} {L : Nat → Bool} {v5 v6 v7 v17 v18 v19 v20 v21 v22 v23 v24 : Value} {w : World} (hLi : L 9 = false) (h : csCond a b w0 L v5 v6 v7 v17 v18 v19 v20 v21 v22 v23 v24 w) : csCond a b w0 (fun j => if j = 9 then true else L j) v5 (.pointer (some ⟨w.heap.size, 0, none⟩)) v7 v17 v18 v19 v20 v21 v22 v23 v24 (w.alloc (.cells (four (fun _ => 0)).toArray 24)) := by
  obtain ⟨hb0, c0, c1, c2, c3, c4, c5, c6, c7, c8, c9, c10, c11, c12, c13, c14, c15, c16⟩ := h
  have hLs : L 12 = false := by cases hh : L 12 with | false => rfl | true => rw [c15 hh] at hLi; cases hLi
  refine ⟨hb0.alloc hb0.size _, by simpa using c0, by simpa using c1, by simpa using c2, by simpa using c3, by simpa using c4, by simpa using c5, by simpa using c6, by simpa using c7, ?_, ?_, ?_, ?_, by simpa using c12, ?_, by simpa using c14, ?_, by simpa using c16⟩
  · intro h
    obtain ⟨A, e, hA, hk⟩ := c8 (by simpa using h)
    exact ⟨A, e, hA, by simpa using hk.alloc _⟩
  · intro _
    exact ⟨w.heap.size, rfl, hb0.size, by simpa [hLs] using Blk.fresh w 24 (four (fun _ => 0))⟩
  · intro h
    obtain ⟨A, e, hA, hk⟩ := c10 (by simpa using h)
    exact ⟨A, e, hA, by simpa using hk.alloc _⟩
  · intro h1 h2
    obtain ⟨A, e, hA, hk⟩ := c8 (by simpa using h1)
    have := hk.lt
    rw [e]
    exact ptr_ne (by omega)
  · intro h1 h2
    obtain ⟨A, e, hA, hk⟩ := c10 (by simpa using h2)
    have := hk.lt
    rw [e]
    exact ptr_ne (by omega)
  · intro _
    simp
theorem csc_10 {a b : BS} {w0 : World} {L : Nat → Bool} {v5 v6 v7 v17 v18 v19 v20 v21 v22 v23 v24 : Value} {w : World} (hLi : L 10 = false) (h : csCond a b w0 L v5 v6 v7 v17 v18 v19 v20 v21 v22 v23 v24 w) : csCond a b w0 (fun j => if j = 10 then true else L j) v5 v6 (.pointer (some ⟨w.heap.size, 0, none⟩)) v17 v18 v19 v20 v21 v22 v23 v24 (w.alloc (.cells (four (fun _ => 0)).toArray 24)) := by
  obtain ⟨hb0, c0, c1, c2, c3, c4, c5, c6, c7, c8, c9, c10, c11, c12, c13, c14, c15, c16⟩ := h
  have hLs : L 13 = false := by cases hh : L 13 with | false => rfl | true => rw [c16 hh] at hLi; cases hLi
  refine ⟨hb0.alloc hb0.size _, by simpa using c0, by simpa using c1, by simpa using c2, by simpa using c3, by simpa using c4, by simpa using c5, by simpa using c6, by simpa using c7, ?_, ?_, ?_, by simpa using c11, ?_, ?_, by simpa using c14, by simpa using c15, ?_⟩
  · intro h
    obtain ⟨A, e, hA, hk⟩ := c8 (by simpa using h)
    exact ⟨A, e, hA, by simpa using hk.alloc _⟩
  · intro h
    obtain ⟨A, e, hA, hk⟩ := c9 (by simpa using h)
    exact ⟨A, e, hA, by simpa using hk.alloc _⟩
  · intro _
    exact ⟨w.heap.size, rfl, hb0.size, by simpa [hLs] using Blk.fresh w 24 (four (fun _ => 0))⟩
  · intro h1 h2
    obtain ⟨A, e, hA, hk⟩ := c8 (by simpa using h1)
    have := hk.lt
    rw [e]
    exact ptr_ne (by omega)
  · intro h1 h2
    obtain ⟨A, e, hA, hk⟩ := c9 (by simpa using h1)
    have := hk.lt
    rw [e]
    exact ptr_ne (by omega)
  · intro _
    simp
theorem csc_11 {a b : BS} {w0 : World} {L : Nat → Bool} {v5 v6 v7 v17 v18 v19 v20 v21 v22 v23 v24 : Value} {w : World} {A : Nat} (hLo : L 8 = true) (e : v5 = .pointer (some ⟨A, 0, none⟩)) (hA : w0.heap.size ≤ A) {cs : List Value} (hk : Blk w A 24 cs) (h : csCond a b w0 L v5 v6 v7 v17 v18 v19 v20 v21 v22 v23 v24 w) : csCond a b w0 (fun j => if j = 11 then true else L j) v5 v6 v7 v17 v18 v19 v20 v21 v22 v23 v24 (w.setRow A (setL (a &&& b)).toArray) := by
  obtain ⟨hb0, c0, c1, c2, c3, c4, c5, c6, c7, c8, c9, c10, c11, c12, c13, c14, c15, c16⟩ := h
  refine ⟨below_row hb0 hA _, by simpa using c0, by simpa using c1, by simpa using c2, by simpa using c3, by simpa using c4, by simpa using c5, by simpa using c6, by simpa using c7, ?_, ?_, ?_, by simpa using c11, by simpa using c12, by simpa using c13, fun _ => by simpa using hLo, by simpa using c15, by simpa using c16⟩
  · intro h
    exact ⟨A, e, hA, by simpa using blk_row hk (setL (a &&& b))⟩
  · intro h
    obtain ⟨B, e2, hB, hk2⟩ := c9 (by simpa using h)
    refine ⟨B, e2, hB, ?_⟩
    have hne : B ≠ A := by
      rintro rfl
      exact c11 hLo (by simpa using h) (by rw [e, e2])
    have hk3 : Blk (w.setRow A (setL (a &&& b)).toArray) B 24 _ := (setRow_other w A B (setL (a &&& b)).toArray hne).trans hk2
    simpa using hk3
  · intro h
    obtain ⟨B, e2, hB, hk2⟩ := c10 (by simpa using h)
    refine ⟨B, e2, hB, ?_⟩
    have hne : B ≠ A := by
      rintro rfl
      exact c12 hLo (by simpa using h) (by rw [e, e2])
    have hk3 : Blk (w.setRow A (setL (a &&& b)).toArray) B 24 _ := (setRow_other w A B (setL (a &&& b)).toArray hne).trans hk2
    simpa using hk3
theorem csc_12 {a b : BS} {w0 : World} {L : Nat → Bool} {v5 v6 v7 v17 v18 v19 v20 v21 v22 v23 v24 : Value} {w : World} {A : Nat} (hLo : L 9 = true) (e : v6 = .pointer (some ⟨A, 0, none⟩)) (hA : w0.heap.size ≤ A) {cs : List Value} (hk : Blk w A 24 cs) (h : csCond a b w0 L v5 v6 v7 v17 v18 v19 v20 v21 v22 v23 v24 w) : csCond a b w0 (fun j => if j = 12 then true else L j) v5 v6 v7 v17 v18 v19 v20 v21 v22 v23 v24 (w.setRow A (setL (a ||| b)).toArray) := by
  obtain ⟨hb0, c0, c1, c2, c3, c4, c5, c6, c7, c8, c9, c10, c11, c12, c13, c14, c15, c16⟩ := h
  refine ⟨below_row hb0 hA _, by simpa using c0, by simpa using c1, by simpa using c2, by simpa using c3, by simpa using c4, by simpa using c5, by simpa using c6, by simpa using c7, ?_, ?_, ?_, by simpa using c11, by simpa using c12, by simpa using c13, by simpa using c14, fun _ => by simpa using hLo, by simpa using c16⟩
  · intro h
    obtain ⟨B, e2, hB, hk2⟩ := c8 (by simpa using h)
    refine ⟨B, e2, hB, ?_⟩
    have hne : B ≠ A := by
      rintro rfl
      exact c11 (by simpa using h) hLo (by rw [e, e2])
    have hk3 : Blk (w.setRow A (setL (a ||| b)).toArray) B 24 _ := (setRow_other w A B (setL (a ||| b)).toArray hne).trans hk2
    simpa using hk3
  · intro h
    exact ⟨A, e, hA, by simpa using blk_row hk (setL (a ||| b))⟩
  · intro h
    obtain ⟨B, e2, hB, hk2⟩ := c10 (by simpa using h)
    refine ⟨B, e2, hB, ?_⟩
    have hne : B ≠ A := by
      rintro rfl
      exact c13 hLo (by simpa using h) (by rw [e, e2])
    have hk3 : Blk (w.setRow A (setL (a ||| b)).toArray) B 24 _ := (setRow_other w A B (setL (a ||| b)).toArray hne).trans hk2
    simpa using hk3
theorem csc_13 {a b : BS} {w0 : World} {L : Nat → Bool} {v5 v6 v7 v17 v18 v19 v20 v21 v22 v23 v24 : Value} {w : World} {A : Nat} (hLo : L 10 = true) (e : v7 = .pointer (some ⟨A, 0, none⟩)) (hA : w0.heap.size ≤ A) {cs : List Value} (hk : Blk w A 24 cs) (h : csCond a b w0 L v5 v6 v7 v17 v18 v19 v20 v21 v22 v23 v24 w) : csCond a b w0 (fun j => if j = 13 then true else L j) v5 v6 v7 v17 v18 v19 v20 v21 v22 v23 v24 (w.setRow A (setL (~~~a)).toArray) := by
  obtain ⟨hb0, c0, c1, c2, c3, c4, c5, c6, c7, c8, c9, c10, c11, c12, c13, c14, c15, c16⟩ := h
  refine ⟨below_row hb0 hA _, by simpa using c0, by simpa using c1, by simpa using c2, by simpa using c3, by simpa using c4, by simpa using c5, by simpa using c6, by simpa using c7, ?_, ?_, ?_, by simpa using c11, by simpa using c12, by simpa using c13, by simpa using c14, by simpa using c15, fun _ => by simpa using hLo⟩
  · intro h
    obtain ⟨B, e2, hB, hk2⟩ := c8 (by simpa using h)
    refine ⟨B, e2, hB, ?_⟩
    have hne : B ≠ A := by
      rintro rfl
      exact c12 (by simpa using h) hLo (by rw [e, e2])
    have hk3 : Blk (w.setRow A (setL (~~~a)).toArray) B 24 _ := (setRow_other w A B (setL (~~~a)).toArray hne).trans hk2
    simpa using hk3
  · intro h
    obtain ⟨B, e2, hB, hk2⟩ := c9 (by simpa using h)
    refine ⟨B, e2, hB, ?_⟩
    have hne : B ≠ A := by
      rintro rfl
      exact c13 (by simpa using h) hLo (by rw [e, e2])
    have hk3 : Blk (w.setRow A (setL (~~~a)).toArray) B 24 _ := (setRow_other w A B (setL (~~~a)).toArray hne).trans hk2
    simpa using hk3
  · intro h
    exact ⟨A, e, hA, by simpa using blk_row hk (setL (~~~a))⟩
def csFrame (p2 p3 : Nat) (x0 x1 x4 x8 x9 x10 x11 x12 x13 x14 x15 x16 x25 x26 x27 x28 x29 x30 x31 x32 x33 x34 x35 x36 x37 x38 x39 x40 x41 x42 x43 x44 x45 x46 x47 x48 x49 x50 x51 x52 x53 x54 x55 x56 x57 x58 x59 x60 x61 x62 x63 x64 x65 x66 x67 x68 x69 x70 x71 x72 x73 x74 x75 x76 x77 x78 x79 x80 x81 x82 x83 x84 x85 x86 x87 x88 x89 x90 x91 x92 x93 x94 x95 x96 x97 x98 x99 x100 x101 x102 x103 x104 x105 x106 x107 x108 x109 x110 x111 x112 x113 x114 x115 x116 x117 x118 x119 x120 x121 x122 x123 v5 v6 v7 v17 v18 v19 v20 v21 v22 v23 v24 : Value) : Array Value := #[x0, x1, .pointer (some ⟨p2, 0, none⟩), .pointer (some ⟨p3, 0, none⟩), x4, v5, v6, v7, x8, x9, x10, x11, x12, x13, x14, x15, x16, v17, v18, v19, v20, v21, v22, v23, v24, x25, x26, x27, x28, x29, x30, x31, x32, x33, x34, x35, x36, x37, x38, x39, x40, x41, x42, x43, x44, x45, x46, x47, x48, x49, x50, x51, x52, x53, x54, x55, x56, x57, x58, x59, x60, x61, x62, x63, x64, x65, x66, x67, x68, x69, x70, x71, x72, x73, x74, x75, x76, x77, x78, x79, x80, x81, x82, x83, x84, x85, x86, x87, x88, x89, x90, x91, x92, x93, x94, x95, x96, x97, x98, x99, x100, x101, x102, x103, x104, x105, x106, x107, x108, x109, x110, x111, x112, x113, x114, x115, x116, x117, x118, x119, x120, x121, x122, x123]
def csInv (a b : BS) (w0 : World) (p2 p3 : Nat) (x0 x1 x4 x8 x9 x10 x11 x12 x13 x14 x15 x16 x25 x26 x27 x28 x29 x30 x31 x32 x33 x34 x35 x36 x37 x38 x39 x40 x41 x42 x43 x44 x45 x46 x47 x48 x49 x50 x51 x52 x53 x54 x55 x56 x57 x58 x59 x60 x61 x62 x63 x64 x65 x66 x67 x68 x69 x70 x71 x72 x73 x74 x75 x76 x77 x78 x79 x80 x81 x82 x83 x84 x85 x86 x87 x88 x89 x90 x91 x92 x93 x94 x95 x96 x97 x98 x99 x100 x101 x102 x103 x104 x105 x106 x107 x108 x109 x110 x111 x112 x113 x114 x115 x116 x117 x118 x119 x120 x121 x122 x123 : Value) (L : Nat → Bool) (a_ : Act) (w : World) : Prop :=
  a_.defers = [] ∧ ∃ v5 v6 v7 v17 v18 v19 v20 v21 v22 v23 v24 : Value, a_.tmps = csFrame p2 p3 x0 x1 x4 x8 x9 x10 x11 x12 x13 x14 x15 x16 x25 x26 x27 x28 x29 x30 x31 x32 x33 x34 x35 x36 x37 x38 x39 x40 x41 x42 x43 x44 x45 x46 x47 x48 x49 x50 x51 x52 x53 x54 x55 x56 x57 x58 x59 x60 x61 x62 x63 x64 x65 x66 x67 x68 x69 x70 x71 x72 x73 x74 x75 x76 x77 x78 x79 x80 x81 x82 x83 x84 x85 x86 x87 x88 x89 x90 x91 x92 x93 x94 x95 x96 x97 x98 x99 x100 x101 x102 x103 x104 x105 x106 x107 x108 x109 x110 x111 x112 x113 x114 x115 x116 x117 x118 x119 x120 x121 x122 x123 v5 v6 v7 v17 v18 v19 v20 v21 v22 v23 v24 ∧ csCond a b w0 L v5 v6 v7 v17 v18 v19 v20 v21 v22 v23 v24 w
def csDep : Nat → List Nat := fun i => match i with | 2 => [0, 1] | 5 => [3, 4] | 7 => [6] | 11 => [8, 2] | 12 => [9, 5] | 13 => [10, 7] | _ => []
theorem csdeps_ok (dep : Nat → List Nat) (h : ((List.range csOps.size).all fun i => match csOps[i]? with | some o => (dep i).all fun d => o.after.any fun e => decide (e.on = d) && Region.binds .any e | none => true) = true) {i : Nat} {o : Oper} (ho : csOps[i]? = some o)
    {L : Nat → Bool} (haf : ∀ e ∈ o.after, Region.binds .any e = true → L e.on = true) : ∀ d ∈ dep i, L d = true := by
  intro d hd
  have h1 := List.all_eq_true.1 h i (List.mem_range.2 (Array.getElem?_eq_some_iff.1 ho).1)
  rw [ho] at h1
  have h2 := List.all_eq_true.1 h1 d hd
  obtain ⟨e, he, hb⟩ : ∃ e, e ∈ o.after ∧ (e.on = d ∧ Region.binds .any e = true) := by
    obtain ⟨n, hn, hb⟩ := Array.any_eq_true.1 h2
    simp only [Bool.and_eq_true, decide_eq_true_eq] at hb
    exact ⟨_, Array.getElem_mem hn, hb⟩
  rw [← hb.1]
  exact haf e he hb.2
theorem cs_step0 {a b : BS} {w0 w1 : World} {p2 p3 : Nat} {x0 x1 x4 x8 x9 x10 x11 x12 x13 x14 x15 x16 x25 x26 x27 x28 x29 x30 x31 x32 x33 x34 x35 x36 x37 x38 x39 x40 x41 x42 x43 x44 x45 x46 x47 x48 x49 x50 x51 x52 x53 x54 x55 x56 x57 x58 x59 x60 x61 x62 x63 x64 x65 x66 x67 x68 x69 x70 x71 x72 x73 x74 x75 x76 x77 x78 x79 x80 x81 x82 x83 x84 x85 x86 x87 x88 x89 x90 x91 x92 x93 x94 x95 x96 x97 x98 x99 x100 x101 x102 x103 x104 x105 x106 x107 x108 x109 x110 x111 x112 x113 x114 x115 x116 x117 x118 x119 x120 x121 x122 x123 v5 v6 v7 v17 v18 v19 v20 v21 v22 v23 v24 : Value} (g2 : Blk w1 p2 24 (setL a)) (g3 : Blk w1 p3 24 (setL b)) {L : Nat → Bool} (hc : csCond a b w0 L v5 v6 v7 v17 v18 v19 v20 v21 v22 v23 v24 w1) (hLi : L 0 = false) (hdep : ∀ d ∈ csDep 0, L d = true)
    {o : Oper} (hdst : o.dst = some 17) (hop : o.op = .load 24 (.tmp 2)) {K : Act → World → Prop} {Q : Exit → Act → World → Prop} (hk : ∀ a' w', csInv a b w0 p2 p3 x0 x1 x4 x8 x9 x10 x11 x12 x13 x14 x15 x16 x25 x26 x27 x28 x29 x30 x31 x32 x33 x34 x35 x36 x37 x38 x39 x40 x41 x42 x43 x44 x45 x46 x47 x48 x49 x50 x51 x52 x53 x54 x55 x56 x57 x58 x59 x60 x61 x62 x63 x64 x65 x66 x67 x68 x69 x70 x71 x72 x73 x74 x75 x76 x77 x78 x79 x80 x81 x82 x83 x84 x85 x86 x87 x88 x89 x90 x91 x92 x93 x94 x95 x96 x97 x98 x99 x100 x101 x102 x103 x104 x105 x106 x107 x108 x109 x110 x111 x112 x113 x114 x115 x116 x117 x118 x119 x120 x121 x122 x123 (fun j => if j = 0 then true else L j) a' w' → K a' w') :
    o.wp Tryd.prog ⟨csFrame p2 p3 x0 x1 x4 x8 x9 x10 x11 x12 x13 x14 x15 x16 x25 x26 x27 x28 x29 x30 x31 x32 x33 x34 x35 x36 x37 x38 x39 x40 x41 x42 x43 x44 x45 x46 x47 x48 x49 x50 x51 x52 x53 x54 x55 x56 x57 x58 x59 x60 x61 x62 x63 x64 x65 x66 x67 x68 x69 x70 x71 x72 x73 x74 x75 x76 x77 x78 x79 x80 x81 x82 x83 x84 x85 x86 x87 x88 x89 x90 x91 x92 x93 x94 x95 x96 x97 x98 x99 x100 x101 x102 x103 x104 x105 x106 x107 x108 x109 x110 x111 x112 x113 x114 x115 x116 x117 x118 x119 x120 x121 x122 x123 v5 v6 v7 v17 v18 v19 v20 v21 v22 v23 v24, []⟩ w1 K Q := by
  refine wp_load_row 24 (.tmp 2) hop p2 rfl 24 (setL a).toArray (0, 0) (.array 4 22) g2 (by kernel_rfl) rfl (set_info _) ?_
  rw [hdst]
  exact hk _ _ ⟨rfl, _, _, _, _, _, _, _, _, _, _, _, rfl, csc_0 hc (Below.refl _ _)⟩
theorem cs_step1 {a b : BS} {w0 w1 : World} {p2 p3 : Nat} {x0 x1 x4 x8 x9 x10 x11 x12 x13 x14 x15 x16 x25 x26 x27 x28 x29 x30 x31 x32 x33 x34 x35 x36 x37 x38 x39 x40 x41 x42 x43 x44 x45 x46 x47 x48 x49 x50 x51 x52 x53 x54 x55 x56 x57 x58 x59 x60 x61 x62 x63 x64 x65 x66 x67 x68 x69 x70 x71 x72 x73 x74 x75 x76 x77 x78 x79 x80 x81 x82 x83 x84 x85 x86 x87 x88 x89 x90 x91 x92 x93 x94 x95 x96 x97 x98 x99 x100 x101 x102 x103 x104 x105 x106 x107 x108 x109 x110 x111 x112 x113 x114 x115 x116 x117 x118 x119 x120 x121 x122 x123 v5 v6 v7 v17 v18 v19 v20 v21 v22 v23 v24 : Value} (g2 : Blk w1 p2 24 (setL a)) (g3 : Blk w1 p3 24 (setL b)) {L : Nat → Bool} (hc : csCond a b w0 L v5 v6 v7 v17 v18 v19 v20 v21 v22 v23 v24 w1) (hLi : L 1 = false) (hdep : ∀ d ∈ csDep 1, L d = true)
    {o : Oper} (hdst : o.dst = some 18) (hop : o.op = .load 24 (.tmp 3)) {K : Act → World → Prop} {Q : Exit → Act → World → Prop} (hk : ∀ a' w', csInv a b w0 p2 p3 x0 x1 x4 x8 x9 x10 x11 x12 x13 x14 x15 x16 x25 x26 x27 x28 x29 x30 x31 x32 x33 x34 x35 x36 x37 x38 x39 x40 x41 x42 x43 x44 x45 x46 x47 x48 x49 x50 x51 x52 x53 x54 x55 x56 x57 x58 x59 x60 x61 x62 x63 x64 x65 x66 x67 x68 x69 x70 x71 x72 x73 x74 x75 x76 x77 x78 x79 x80 x81 x82 x83 x84 x85 x86 x87 x88 x89 x90 x91 x92 x93 x94 x95 x96 x97 x98 x99 x100 x101 x102 x103 x104 x105 x106 x107 x108 x109 x110 x111 x112 x113 x114 x115 x116 x117 x118 x119 x120 x121 x122 x123 (fun j => if j = 1 then true else L j) a' w' → K a' w') :
    o.wp Tryd.prog ⟨csFrame p2 p3 x0 x1 x4 x8 x9 x10 x11 x12 x13 x14 x15 x16 x25 x26 x27 x28 x29 x30 x31 x32 x33 x34 x35 x36 x37 x38 x39 x40 x41 x42 x43 x44 x45 x46 x47 x48 x49 x50 x51 x52 x53 x54 x55 x56 x57 x58 x59 x60 x61 x62 x63 x64 x65 x66 x67 x68 x69 x70 x71 x72 x73 x74 x75 x76 x77 x78 x79 x80 x81 x82 x83 x84 x85 x86 x87 x88 x89 x90 x91 x92 x93 x94 x95 x96 x97 x98 x99 x100 x101 x102 x103 x104 x105 x106 x107 x108 x109 x110 x111 x112 x113 x114 x115 x116 x117 x118 x119 x120 x121 x122 x123 v5 v6 v7 v17 v18 v19 v20 v21 v22 v23 v24, []⟩ w1 K Q := by
  refine wp_load_row 24 (.tmp 3) hop p3 rfl 24 (setL b).toArray (0, 0) (.array 4 22) g3 (by kernel_rfl) rfl (set_info _) ?_
  rw [hdst]
  exact hk _ _ ⟨rfl, _, _, _, _, _, _, _, _, _, _, _, rfl, csc_1 hc (Below.refl _ _)⟩
theorem cs_step2 {a b : BS} {w0 w1 : World} {p2 p3 : Nat} {x0 x1 x4 x8 x9 x10 x11 x12 x13 x14 x15 x16 x25 x26 x27 x28 x29 x30 x31 x32 x33 x34 x35 x36 x37 x38 x39 x40 x41 x42 x43 x44 x45 x46 x47 x48 x49 x50 x51 x52 x53 x54 x55 x56 x57 x58 x59 x60 x61 x62 x63 x64 x65 x66 x67 x68 x69 x70 x71 x72 x73 x74 x75 x76 x77 x78 x79 x80 x81 x82 x83 x84 x85 x86 x87 x88 x89 x90 x91 x92 x93 x94 x95 x96 x97 x98 x99 x100 x101 x102 x103 x104 x105 x106 x107 x108 x109 x110 x111 x112 x113 x114 x115 x116 x117 x118 x119 x120 x121 x122 x123 v5 v6 v7 v17 v18 v19 v20 v21 v22 v23 v24 : Value} (g2 : Blk w1 p2 24 (setL a)) (g3 : Blk w1 p3 24 (setL b)) {L : Nat → Bool} (hc : csCond a b w0 L v5 v6 v7 v17 v18 v19 v20 v21 v22 v23 v24 w1) (hLi : L 2 = false) (hdep : ∀ d ∈ csDep 2, L d = true)
    {o : Oper} (hdst : o.dst = some 19) (hop : o.op = .call { callee := .value (.func 15), args := #[.tmp 17, .tmp 18], argTypes := #[24, 24] }) {K : Act → World → Prop} {Q : Exit → Act → World → Prop} (hk : ∀ a' w', csInv a b w0 p2 p3 x0 x1 x4 x8 x9 x10 x11 x12 x13 x14 x15 x16 x25 x26 x27 x28 x29 x30 x31 x32 x33 x34 x35 x36 x37 x38 x39 x40 x41 x42 x43 x44 x45 x46 x47 x48 x49 x50 x51 x52 x53 x54 x55 x56 x57 x58 x59 x60 x61 x62 x63 x64 x65 x66 x67 x68 x69 x70 x71 x72 x73 x74 x75 x76 x77 x78 x79 x80 x81 x82 x83 x84 x85 x86 x87 x88 x89 x90 x91 x92 x93 x94 x95 x96 x97 x98 x99 x100 x101 x102 x103 x104 x105 x106 x107 x108 x109 x110 x111 x112 x113 x114 x115 x116 x117 x118 x119 x120 x121 x122 x123 (fun j => if j = 2 then true else L j) a' w' → K a' w') :
    o.wp Tryd.prog ⟨csFrame p2 p3 x0 x1 x4 x8 x9 x10 x11 x12 x13 x14 x15 x16 x25 x26 x27 x28 x29 x30 x31 x32 x33 x34 x35 x36 x37 x38 x39 x40 x41 x42 x43 x44 x45 x46 x47 x48 x49 x50 x51 x52 x53 x54 x55 x56 x57 x58 x59 x60 x61 x62 x63 x64 x65 x66 x67 x68 x69 x70 x71 x72 x73 x74 x75 x76 x77 x78 x79 x80 x81 x82 x83 x84 x85 x86 x87 x88 x89 x90 x91 x92 x93 x94 x95 x96 x97 x98 x99 x100 x101 x102 x103 x104 x105 x106 x107 x108 x109 x110 x111 x112 x113 x114 x115 x116 x117 x118 x119 x120 x121 x122 x123 v5 v6 v7 v17 v18 v19 v20 v21 v22 v23 v24, []⟩ w1 K Q := by
  have hl0 : L 0 = true := hdep 0 (by simp [csDep])
  have e0 : v17 = setV (a) := hc.2.1 hl0
  have hl1 : L 1 = true := hdep 1 (by simp [csDep])
  have e1 : v18 = setV (b) := hc.2.2.1 hl1
  refine wp_callF 15 _ _ hop enters_and #[v17, v18] ?_ (setV (a &&& b)) (fun w' => Below w1.heap.size w1 w') ?_ ?_
  · simp [Act.eval, csFrame]
  · rw [e0, e1]
    exact and_any (a) (b) w1
  · intro w2 hb2
    rw [hdst]
    exact hk _ _ ⟨rfl, _, _, _, _, _, _, _, _, _, _, _, rfl, csc_2 hc hb2⟩
theorem cs_step3 {a b : BS} {w0 w1 : World} {p2 p3 : Nat} {x0 x1 x4 x8 x9 x10 x11 x12 x13 x14 x15 x16 x25 x26 x27 x28 x29 x30 x31 x32 x33 x34 x35 x36 x37 x38 x39 x40 x41 x42 x43 x44 x45 x46 x47 x48 x49 x50 x51 x52 x53 x54 x55 x56 x57 x58 x59 x60 x61 x62 x63 x64 x65 x66 x67 x68 x69 x70 x71 x72 x73 x74 x75 x76 x77 x78 x79 x80 x81 x82 x83 x84 x85 x86 x87 x88 x89 x90 x91 x92 x93 x94 x95 x96 x97 x98 x99 x100 x101 x102 x103 x104 x105 x106 x107 x108 x109 x110 x111 x112 x113 x114 x115 x116 x117 x118 x119 x120 x121 x122 x123 v5 v6 v7 v17 v18 v19 v20 v21 v22 v23 v24 : Value} (g2 : Blk w1 p2 24 (setL a)) (g3 : Blk w1 p3 24 (setL b)) {L : Nat → Bool} (hc : csCond a b w0 L v5 v6 v7 v17 v18 v19 v20 v21 v22 v23 v24 w1) (hLi : L 3 = false) (hdep : ∀ d ∈ csDep 3, L d = true)
    {o : Oper} (hdst : o.dst = some 20) (hop : o.op = .load 24 (.tmp 2)) {K : Act → World → Prop} {Q : Exit → Act → World → Prop} (hk : ∀ a' w', csInv a b w0 p2 p3 x0 x1 x4 x8 x9 x10 x11 x12 x13 x14 x15 x16 x25 x26 x27 x28 x29 x30 x31 x32 x33 x34 x35 x36 x37 x38 x39 x40 x41 x42 x43 x44 x45 x46 x47 x48 x49 x50 x51 x52 x53 x54 x55 x56 x57 x58 x59 x60 x61 x62 x63 x64 x65 x66 x67 x68 x69 x70 x71 x72 x73 x74 x75 x76 x77 x78 x79 x80 x81 x82 x83 x84 x85 x86 x87 x88 x89 x90 x91 x92 x93 x94 x95 x96 x97 x98 x99 x100 x101 x102 x103 x104 x105 x106 x107 x108 x109 x110 x111 x112 x113 x114 x115 x116 x117 x118 x119 x120 x121 x122 x123 (fun j => if j = 3 then true else L j) a' w' → K a' w') :
    o.wp Tryd.prog ⟨csFrame p2 p3 x0 x1 x4 x8 x9 x10 x11 x12 x13 x14 x15 x16 x25 x26 x27 x28 x29 x30 x31 x32 x33 x34 x35 x36 x37 x38 x39 x40 x41 x42 x43 x44 x45 x46 x47 x48 x49 x50 x51 x52 x53 x54 x55 x56 x57 x58 x59 x60 x61 x62 x63 x64 x65 x66 x67 x68 x69 x70 x71 x72 x73 x74 x75 x76 x77 x78 x79 x80 x81 x82 x83 x84 x85 x86 x87 x88 x89 x90 x91 x92 x93 x94 x95 x96 x97 x98 x99 x100 x101 x102 x103 x104 x105 x106 x107 x108 x109 x110 x111 x112 x113 x114 x115 x116 x117 x118 x119 x120 x121 x122 x123 v5 v6 v7 v17 v18 v19 v20 v21 v22 v23 v24, []⟩ w1 K Q := by
  refine wp_load_row 24 (.tmp 2) hop p2 rfl 24 (setL a).toArray (0, 0) (.array 4 22) g2 (by kernel_rfl) rfl (set_info _) ?_
  rw [hdst]
  exact hk _ _ ⟨rfl, _, _, _, _, _, _, _, _, _, _, _, rfl, csc_3 hc (Below.refl _ _)⟩
theorem cs_step4 {a b : BS} {w0 w1 : World} {p2 p3 : Nat} {x0 x1 x4 x8 x9 x10 x11 x12 x13 x14 x15 x16 x25 x26 x27 x28 x29 x30 x31 x32 x33 x34 x35 x36 x37 x38 x39 x40 x41 x42 x43 x44 x45 x46 x47 x48 x49 x50 x51 x52 x53 x54 x55 x56 x57 x58 x59 x60 x61 x62 x63 x64 x65 x66 x67 x68 x69 x70 x71 x72 x73 x74 x75 x76 x77 x78 x79 x80 x81 x82 x83 x84 x85 x86 x87 x88 x89 x90 x91 x92 x93 x94 x95 x96 x97 x98 x99 x100 x101 x102 x103 x104 x105 x106 x107 x108 x109 x110 x111 x112 x113 x114 x115 x116 x117 x118 x119 x120 x121 x122 x123 v5 v6 v7 v17 v18 v19 v20 v21 v22 v23 v24 : Value} (g2 : Blk w1 p2 24 (setL a)) (g3 : Blk w1 p3 24 (setL b)) {L : Nat → Bool} (hc : csCond a b w0 L v5 v6 v7 v17 v18 v19 v20 v21 v22 v23 v24 w1) (hLi : L 4 = false) (hdep : ∀ d ∈ csDep 4, L d = true)
    {o : Oper} (hdst : o.dst = some 21) (hop : o.op = .load 24 (.tmp 3)) {K : Act → World → Prop} {Q : Exit → Act → World → Prop} (hk : ∀ a' w', csInv a b w0 p2 p3 x0 x1 x4 x8 x9 x10 x11 x12 x13 x14 x15 x16 x25 x26 x27 x28 x29 x30 x31 x32 x33 x34 x35 x36 x37 x38 x39 x40 x41 x42 x43 x44 x45 x46 x47 x48 x49 x50 x51 x52 x53 x54 x55 x56 x57 x58 x59 x60 x61 x62 x63 x64 x65 x66 x67 x68 x69 x70 x71 x72 x73 x74 x75 x76 x77 x78 x79 x80 x81 x82 x83 x84 x85 x86 x87 x88 x89 x90 x91 x92 x93 x94 x95 x96 x97 x98 x99 x100 x101 x102 x103 x104 x105 x106 x107 x108 x109 x110 x111 x112 x113 x114 x115 x116 x117 x118 x119 x120 x121 x122 x123 (fun j => if j = 4 then true else L j) a' w' → K a' w') :
    o.wp Tryd.prog ⟨csFrame p2 p3 x0 x1 x4 x8 x9 x10 x11 x12 x13 x14 x15 x16 x25 x26 x27 x28 x29 x30 x31 x32 x33 x34 x35 x36 x37 x38 x39 x40 x41 x42 x43 x44 x45 x46 x47 x48 x49 x50 x51 x52 x53 x54 x55 x56 x57 x58 x59 x60 x61 x62 x63 x64 x65 x66 x67 x68 x69 x70 x71 x72 x73 x74 x75 x76 x77 x78 x79 x80 x81 x82 x83 x84 x85 x86 x87 x88 x89 x90 x91 x92 x93 x94 x95 x96 x97 x98 x99 x100 x101 x102 x103 x104 x105 x106 x107 x108 x109 x110 x111 x112 x113 x114 x115 x116 x117 x118 x119 x120 x121 x122 x123 v5 v6 v7 v17 v18 v19 v20 v21 v22 v23 v24, []⟩ w1 K Q := by
  refine wp_load_row 24 (.tmp 3) hop p3 rfl 24 (setL b).toArray (0, 0) (.array 4 22) g3 (by kernel_rfl) rfl (set_info _) ?_
  rw [hdst]
  exact hk _ _ ⟨rfl, _, _, _, _, _, _, _, _, _, _, _, rfl, csc_4 hc (Below.refl _ _)⟩
theorem cs_step5 {a b : BS} {w0 w1 : World} {p2 p3 : Nat} {x0 x1 x4 x8 x9 x10 x11 x12 x13 x14 x15 x16 x25 x26 x27 x28 x29 x30 x31 x32 x33 x34 x35 x36 x37 x38 x39 x40 x41 x42 x43 x44 x45 x46 x47 x48 x49 x50 x51 x52 x53 x54 x55 x56 x57 x58 x59 x60 x61 x62 x63 x64 x65 x66 x67 x68 x69 x70 x71 x72 x73 x74 x75 x76 x77 x78 x79 x80 x81 x82 x83 x84 x85 x86 x87 x88 x89 x90 x91 x92 x93 x94 x95 x96 x97 x98 x99 x100 x101 x102 x103 x104 x105 x106 x107 x108 x109 x110 x111 x112 x113 x114 x115 x116 x117 x118 x119 x120 x121 x122 x123 v5 v6 v7 v17 v18 v19 v20 v21 v22 v23 v24 : Value} (g2 : Blk w1 p2 24 (setL a)) (g3 : Blk w1 p3 24 (setL b)) {L : Nat → Bool} (hc : csCond a b w0 L v5 v6 v7 v17 v18 v19 v20 v21 v22 v23 v24 w1) (hLi : L 5 = false) (hdep : ∀ d ∈ csDep 5, L d = true)
    {o : Oper} (hdst : o.dst = some 22) (hop : o.op = .call { callee := .value (.func 16), args := #[.tmp 20, .tmp 21], argTypes := #[24, 24] }) {K : Act → World → Prop} {Q : Exit → Act → World → Prop} (hk : ∀ a' w', csInv a b w0 p2 p3 x0 x1 x4 x8 x9 x10 x11 x12 x13 x14 x15 x16 x25 x26 x27 x28 x29 x30 x31 x32 x33 x34 x35 x36 x37 x38 x39 x40 x41 x42 x43 x44 x45 x46 x47 x48 x49 x50 x51 x52 x53 x54 x55 x56 x57 x58 x59 x60 x61 x62 x63 x64 x65 x66 x67 x68 x69 x70 x71 x72 x73 x74 x75 x76 x77 x78 x79 x80 x81 x82 x83 x84 x85 x86 x87 x88 x89 x90 x91 x92 x93 x94 x95 x96 x97 x98 x99 x100 x101 x102 x103 x104 x105 x106 x107 x108 x109 x110 x111 x112 x113 x114 x115 x116 x117 x118 x119 x120 x121 x122 x123 (fun j => if j = 5 then true else L j) a' w' → K a' w') :
    o.wp Tryd.prog ⟨csFrame p2 p3 x0 x1 x4 x8 x9 x10 x11 x12 x13 x14 x15 x16 x25 x26 x27 x28 x29 x30 x31 x32 x33 x34 x35 x36 x37 x38 x39 x40 x41 x42 x43 x44 x45 x46 x47 x48 x49 x50 x51 x52 x53 x54 x55 x56 x57 x58 x59 x60 x61 x62 x63 x64 x65 x66 x67 x68 x69 x70 x71 x72 x73 x74 x75 x76 x77 x78 x79 x80 x81 x82 x83 x84 x85 x86 x87 x88 x89 x90 x91 x92 x93 x94 x95 x96 x97 x98 x99 x100 x101 x102 x103 x104 x105 x106 x107 x108 x109 x110 x111 x112 x113 x114 x115 x116 x117 x118 x119 x120 x121 x122 x123 v5 v6 v7 v17 v18 v19 v20 v21 v22 v23 v24, []⟩ w1 K Q := by
  have hl3 : L 3 = true := hdep 3 (by simp [csDep])
  have e3 : v20 = setV (a) := hc.2.2.2.2.1 hl3
  have hl4 : L 4 = true := hdep 4 (by simp [csDep])
  have e4 : v21 = setV (b) := hc.2.2.2.2.2.1 hl4
  refine wp_callF 16 _ _ hop enters_or #[v20, v21] ?_ (setV (a ||| b)) (fun w' => Below w1.heap.size w1 w') ?_ ?_
  · simp [Act.eval, csFrame]
  · rw [e3, e4]
    exact or_any (a) (b) w1
  · intro w2 hb2
    rw [hdst]
    exact hk _ _ ⟨rfl, _, _, _, _, _, _, _, _, _, _, _, rfl, csc_5 hc hb2⟩
theorem cs_step6 {a b : BS} {w0 w1 : World} {p2 p3 : Nat} {x0 x1 x4 x8 x9 x10 x11 x12 x13 x14 x15 x16 x25 x26 x27 x28 x29 x30 x31 x32 x33 x34 x35 x36 x37 x38 x39 x40 x41 x42 x43 x44 x45 x46 x47 x48 x49 x50 x51 x52 x53 x54 x55 x56 x57 x58 x59 x60 x61 x62 x63 x64 x65 x66 x67 x68 x69 x70 x71 x72 x73 x74 x75 x76 x77 x78 x79 x80 x81 x82 x83 x84 x85 x86 x87 x88 x89 x90 x91 x92 x93 x94 x95 x96 x97 x98 x99 x100 x101 x102 x103 x104 x105 x106 x107 x108 x109 x110 x111 x112 x113 x114 x115 x116 x117 x118 x119 x120 x121 x122 x123 v5 v6 v7 v17 v18 v19 v20 v21 v22 v23 v24 : Value} (g2 : Blk w1 p2 24 (setL a)) (g3 : Blk w1 p3 24 (setL b)) {L : Nat → Bool} (hc : csCond a b w0 L v5 v6 v7 v17 v18 v19 v20 v21 v22 v23 v24 w1) (hLi : L 6 = false) (hdep : ∀ d ∈ csDep 6, L d = true)
    {o : Oper} (hdst : o.dst = some 23) (hop : o.op = .load 24 (.tmp 2)) {K : Act → World → Prop} {Q : Exit → Act → World → Prop} (hk : ∀ a' w', csInv a b w0 p2 p3 x0 x1 x4 x8 x9 x10 x11 x12 x13 x14 x15 x16 x25 x26 x27 x28 x29 x30 x31 x32 x33 x34 x35 x36 x37 x38 x39 x40 x41 x42 x43 x44 x45 x46 x47 x48 x49 x50 x51 x52 x53 x54 x55 x56 x57 x58 x59 x60 x61 x62 x63 x64 x65 x66 x67 x68 x69 x70 x71 x72 x73 x74 x75 x76 x77 x78 x79 x80 x81 x82 x83 x84 x85 x86 x87 x88 x89 x90 x91 x92 x93 x94 x95 x96 x97 x98 x99 x100 x101 x102 x103 x104 x105 x106 x107 x108 x109 x110 x111 x112 x113 x114 x115 x116 x117 x118 x119 x120 x121 x122 x123 (fun j => if j = 6 then true else L j) a' w' → K a' w') :
    o.wp Tryd.prog ⟨csFrame p2 p3 x0 x1 x4 x8 x9 x10 x11 x12 x13 x14 x15 x16 x25 x26 x27 x28 x29 x30 x31 x32 x33 x34 x35 x36 x37 x38 x39 x40 x41 x42 x43 x44 x45 x46 x47 x48 x49 x50 x51 x52 x53 x54 x55 x56 x57 x58 x59 x60 x61 x62 x63 x64 x65 x66 x67 x68 x69 x70 x71 x72 x73 x74 x75 x76 x77 x78 x79 x80 x81 x82 x83 x84 x85 x86 x87 x88 x89 x90 x91 x92 x93 x94 x95 x96 x97 x98 x99 x100 x101 x102 x103 x104 x105 x106 x107 x108 x109 x110 x111 x112 x113 x114 x115 x116 x117 x118 x119 x120 x121 x122 x123 v5 v6 v7 v17 v18 v19 v20 v21 v22 v23 v24, []⟩ w1 K Q := by
  refine wp_load_row 24 (.tmp 2) hop p2 rfl 24 (setL a).toArray (0, 0) (.array 4 22) g2 (by kernel_rfl) rfl (set_info _) ?_
  rw [hdst]
  exact hk _ _ ⟨rfl, _, _, _, _, _, _, _, _, _, _, _, rfl, csc_6 hc (Below.refl _ _)⟩
theorem cs_step7 {a b : BS} {w0 w1 : World} {p2 p3 : Nat} {x0 x1 x4 x8 x9 x10 x11 x12 x13 x14 x15 x16 x25 x26 x27 x28 x29 x30 x31 x32 x33 x34 x35 x36 x37 x38 x39 x40 x41 x42 x43 x44 x45 x46 x47 x48 x49 x50 x51 x52 x53 x54 x55 x56 x57 x58 x59 x60 x61 x62 x63 x64 x65 x66 x67 x68 x69 x70 x71 x72 x73 x74 x75 x76 x77 x78 x79 x80 x81 x82 x83 x84 x85 x86 x87 x88 x89 x90 x91 x92 x93 x94 x95 x96 x97 x98 x99 x100 x101 x102 x103 x104 x105 x106 x107 x108 x109 x110 x111 x112 x113 x114 x115 x116 x117 x118 x119 x120 x121 x122 x123 v5 v6 v7 v17 v18 v19 v20 v21 v22 v23 v24 : Value} (g2 : Blk w1 p2 24 (setL a)) (g3 : Blk w1 p3 24 (setL b)) {L : Nat → Bool} (hc : csCond a b w0 L v5 v6 v7 v17 v18 v19 v20 v21 v22 v23 v24 w1) (hLi : L 7 = false) (hdep : ∀ d ∈ csDep 7, L d = true)
    {o : Oper} (hdst : o.dst = some 24) (hop : o.op = .call { callee := .value (.func 17), args := #[.tmp 23], argTypes := #[24] }) {K : Act → World → Prop} {Q : Exit → Act → World → Prop} (hk : ∀ a' w', csInv a b w0 p2 p3 x0 x1 x4 x8 x9 x10 x11 x12 x13 x14 x15 x16 x25 x26 x27 x28 x29 x30 x31 x32 x33 x34 x35 x36 x37 x38 x39 x40 x41 x42 x43 x44 x45 x46 x47 x48 x49 x50 x51 x52 x53 x54 x55 x56 x57 x58 x59 x60 x61 x62 x63 x64 x65 x66 x67 x68 x69 x70 x71 x72 x73 x74 x75 x76 x77 x78 x79 x80 x81 x82 x83 x84 x85 x86 x87 x88 x89 x90 x91 x92 x93 x94 x95 x96 x97 x98 x99 x100 x101 x102 x103 x104 x105 x106 x107 x108 x109 x110 x111 x112 x113 x114 x115 x116 x117 x118 x119 x120 x121 x122 x123 (fun j => if j = 7 then true else L j) a' w' → K a' w') :
    o.wp Tryd.prog ⟨csFrame p2 p3 x0 x1 x4 x8 x9 x10 x11 x12 x13 x14 x15 x16 x25 x26 x27 x28 x29 x30 x31 x32 x33 x34 x35 x36 x37 x38 x39 x40 x41 x42 x43 x44 x45 x46 x47 x48 x49 x50 x51 x52 x53 x54 x55 x56 x57 x58 x59 x60 x61 x62 x63 x64 x65 x66 x67 x68 x69 x70 x71 x72 x73 x74 x75 x76 x77 x78 x79 x80 x81 x82 x83 x84 x85 x86 x87 x88 x89 x90 x91 x92 x93 x94 x95 x96 x97 x98 x99 x100 x101 x102 x103 x104 x105 x106 x107 x108 x109 x110 x111 x112 x113 x114 x115 x116 x117 x118 x119 x120 x121 x122 x123 v5 v6 v7 v17 v18 v19 v20 v21 v22 v23 v24, []⟩ w1 K Q := by
  have hl6 : L 6 = true := hdep 6 (by simp [csDep])
  have e6 : v23 = setV (a) := hc.2.2.2.2.2.2.2.1 hl6
  refine wp_callF 17 _ _ hop enters_not #[v23] ?_ (setV (~~~a)) (fun w' => Below w1.heap.size w1 w') ?_ ?_
  · simp [Act.eval, csFrame]
  · rw [e6]
    exact not_any (a) w1
  · intro w2 hb2
    rw [hdst]
    exact hk _ _ ⟨rfl, _, _, _, _, _, _, _, _, _, _, _, rfl, csc_7 hc hb2⟩
theorem cs_step8 {a b : BS} {w0 w1 : World} {p2 p3 : Nat} {x0 x1 x4 x8 x9 x10 x11 x12 x13 x14 x15 x16 x25 x26 x27 x28 x29 x30 x31 x32 x33 x34 x35 x36 x37 x38 x39 x40 x41 x42 x43 x44 x45 x46 x47 x48 x49 x50 x51 x52 x53 x54 x55 x56 x57 x58 x59 x60 x61 x62 x63 x64 x65 x66 x67 x68 x69 x70 x71 x72 x73 x74 x75 x76 x77 x78 x79 x80 x81 x82 x83 x84 x85 x86 x87 x88 x89 x90 x91 x92 x93 x94 x95 x96 x97 x98 x99 x100 x101 x102 x103 x104 x105 x106 x107 x108 x109 x110 x111 x112 x113 x114 x115 x116 x117 x118 x119 x120 x121 x122 x123 v5 v6 v7 v17 v18 v19 v20 v21 v22 v23 v24 : Value} (g2 : Blk w1 p2 24 (setL a)) (g3 : Blk w1 p3 24 (setL b)) {L : Nat → Bool} (hc : csCond a b w0 L v5 v6 v7 v17 v18 v19 v20 v21 v22 v23 v24 w1) (hLi : L 8 = false) (hdep : ∀ d ∈ csDep 8, L d = true)
    {o : Oper} (hdst : o.dst = some 5) (hop : o.op = .alloc 24) {K : Act → World → Prop} {Q : Exit → Act → World → Prop} (hk : ∀ a' w', csInv a b w0 p2 p3 x0 x1 x4 x8 x9 x10 x11 x12 x13 x14 x15 x16 x25 x26 x27 x28 x29 x30 x31 x32 x33 x34 x35 x36 x37 x38 x39 x40 x41 x42 x43 x44 x45 x46 x47 x48 x49 x50 x51 x52 x53 x54 x55 x56 x57 x58 x59 x60 x61 x62 x63 x64 x65 x66 x67 x68 x69 x70 x71 x72 x73 x74 x75 x76 x77 x78 x79 x80 x81 x82 x83 x84 x85 x86 x87 x88 x89 x90 x91 x92 x93 x94 x95 x96 x97 x98 x99 x100 x101 x102 x103 x104 x105 x106 x107 x108 x109 x110 x111 x112 x113 x114 x115 x116 x117 x118 x119 x120 x121 x122 x123 (fun j => if j = 8 then true else L j) a' w' → K a' w') :
    o.wp Tryd.prog ⟨csFrame p2 p3 x0 x1 x4 x8 x9 x10 x11 x12 x13 x14 x15 x16 x25 x26 x27 x28 x29 x30 x31 x32 x33 x34 x35 x36 x37 x38 x39 x40 x41 x42 x43 x44 x45 x46 x47 x48 x49 x50 x51 x52 x53 x54 x55 x56 x57 x58 x59 x60 x61 x62 x63 x64 x65 x66 x67 x68 x69 x70 x71 x72 x73 x74 x75 x76 x77 x78 x79 x80 x81 x82 x83 x84 x85 x86 x87 x88 x89 x90 x91 x92 x93 x94 x95 x96 x97 x98 x99 x100 x101 x102 x103 x104 x105 x106 x107 x108 x109 x110 x111 x112 x113 x114 x115 x116 x117 x118 x119 x120 x121 x122 x123 v5 v6 v7 v17 v18 v19 v20 v21 v22 v23 v24, []⟩ w1 K Q := by
  refine wp_allocSet hop ?_
  rw [hdst]
  exact hk _ _ ⟨rfl, _, _, _, _, _, _, _, _, _, _, _, rfl, csc_8 hLi hc⟩
theorem cs_step9 {a b : BS} {w0 w1 : World} {p2 p3 : Nat} {x0 x1 x4 x8 x9 x10 x11 x12 x13 x14 x15 x16 x25 x26 x27 x28 x29 x30 x31 x32 x33 x34 x35 x36 x37 x38 x39 x40 x41 x42 x43 x44 x45 x46 x47 x48 x49 x50 x51 x52 x53 x54 x55 x56 x57 x58 x59 x60 x61 x62 x63 x64 x65 x66 x67 x68 x69 x70 x71 x72 x73 x74 x75 x76 x77 x78 x79 x80 x81 x82 x83 x84 x85 x86 x87 x88 x89 x90 x91 x92 x93 x94 x95 x96 x97 x98 x99 x100 x101 x102 x103 x104 x105 x106 x107 x108 x109 x110 x111 x112 x113 x114 x115 x116 x117 x118 x119 x120 x121 x122 x123 v5 v6 v7 v17 v18 v19 v20 v21 v22 v23 v24 : Value} (g2 : Blk w1 p2 24 (setL a)) (g3 : Blk w1 p3 24 (setL b)) {L : Nat → Bool} (hc : csCond a b w0 L v5 v6 v7 v17 v18 v19 v20 v21 v22 v23 v24 w1) (hLi : L 9 = false) (hdep : ∀ d ∈ csDep 9, L d = true)
    {o : Oper} (hdst : o.dst = some 6) (hop : o.op = .alloc 24) {K : Act → World → Prop} {Q : Exit → Act → World → Prop} (hk : ∀ a' w', csInv a b w0 p2 p3 x0 x1 x4 x8 x9 x10 x11 x12 x13 x14 x15 x16 x25 x26 x27 x28 x29 x30 x31 x32 x33 x34 x35 x36 x37 x38 x39 x40 x41 x42 x43 x44 x45 x46 x47 x48 x49 x50 x51 x52 x53 x54 x55 x56 x57 x58 x59 x60 x61 x62 x63 x64 x65 x66 x67 x68 x69 x70 x71 x72 x73 x74 x75 x76 x77 x78 x79 x80 x81 x82 x83 x84 x85 x86 x87 x88 x89 x90 x91 x92 x93 x94 x95 x96 x97 x98 x99 x100 x101 x102 x103 x104 x105 x106 x107 x108 x109 x110 x111 x112 x113 x114 x115 x116 x117 x118 x119 x120 x121 x122 x123 (fun j => if j = 9 then true else L j) a' w' → K a' w') :
    o.wp Tryd.prog ⟨csFrame p2 p3 x0 x1 x4 x8 x9 x10 x11 x12 x13 x14 x15 x16 x25 x26 x27 x28 x29 x30 x31 x32 x33 x34 x35 x36 x37 x38 x39 x40 x41 x42 x43 x44 x45 x46 x47 x48 x49 x50 x51 x52 x53 x54 x55 x56 x57 x58 x59 x60 x61 x62 x63 x64 x65 x66 x67 x68 x69 x70 x71 x72 x73 x74 x75 x76 x77 x78 x79 x80 x81 x82 x83 x84 x85 x86 x87 x88 x89 x90 x91 x92 x93 x94 x95 x96 x97 x98 x99 x100 x101 x102 x103 x104 x105 x106 x107 x108 x109 x110 x111 x112 x113 x114 x115 x116 x117 x118 x119 x120 x121 x122 x123 v5 v6 v7 v17 v18 v19 v20 v21 v22 v23 v24, []⟩ w1 K Q := by
  refine wp_allocSet hop ?_
  rw [hdst]
  exact hk _ _ ⟨rfl, _, _, _, _, _, _, _, _, _, _, _, rfl, csc_9 hLi hc⟩
theorem cs_step10 {a b : BS} {w0 w1 : World} {p2 p3 : Nat} {x0 x1 x4 x8 x9 x10 x11 x12 x13 x14 x15 x16 x25 x26 x27 x28 x29 x30 x31 x32 x33 x34 x35 x36 x37 x38 x39 x40 x41 x42 x43 x44 x45 x46 x47 x48 x49 x50 x51 x52 x53 x54 x55 x56 x57 x58 x59 x60 x61 x62 x63 x64 x65 x66 x67 x68 x69 x70 x71 x72 x73 x74 x75 x76 x77 x78 x79 x80 x81 x82 x83 x84 x85 x86 x87 x88 x89 x90 x91 x92 x93 x94 x95 x96 x97 x98 x99 x100 x101 x102 x103 x104 x105 x106 x107 x108 x109 x110 x111 x112 x113 x114 x115 x116 x117 x118 x119 x120 x121 x122 x123 v5 v6 v7 v17 v18 v19 v20 v21 v22 v23 v24 : Value} (g2 : Blk w1 p2 24 (setL a)) (g3 : Blk w1 p3 24 (setL b)) {L : Nat → Bool} (hc : csCond a b w0 L v5 v6 v7 v17 v18 v19 v20 v21 v22 v23 v24 w1) (hLi : L 10 = false) (hdep : ∀ d ∈ csDep 10, L d = true)
    {o : Oper} (hdst : o.dst = some 7) (hop : o.op = .alloc 24) {K : Act → World → Prop} {Q : Exit → Act → World → Prop} (hk : ∀ a' w', csInv a b w0 p2 p3 x0 x1 x4 x8 x9 x10 x11 x12 x13 x14 x15 x16 x25 x26 x27 x28 x29 x30 x31 x32 x33 x34 x35 x36 x37 x38 x39 x40 x41 x42 x43 x44 x45 x46 x47 x48 x49 x50 x51 x52 x53 x54 x55 x56 x57 x58 x59 x60 x61 x62 x63 x64 x65 x66 x67 x68 x69 x70 x71 x72 x73 x74 x75 x76 x77 x78 x79 x80 x81 x82 x83 x84 x85 x86 x87 x88 x89 x90 x91 x92 x93 x94 x95 x96 x97 x98 x99 x100 x101 x102 x103 x104 x105 x106 x107 x108 x109 x110 x111 x112 x113 x114 x115 x116 x117 x118 x119 x120 x121 x122 x123 (fun j => if j = 10 then true else L j) a' w' → K a' w') :
    o.wp Tryd.prog ⟨csFrame p2 p3 x0 x1 x4 x8 x9 x10 x11 x12 x13 x14 x15 x16 x25 x26 x27 x28 x29 x30 x31 x32 x33 x34 x35 x36 x37 x38 x39 x40 x41 x42 x43 x44 x45 x46 x47 x48 x49 x50 x51 x52 x53 x54 x55 x56 x57 x58 x59 x60 x61 x62 x63 x64 x65 x66 x67 x68 x69 x70 x71 x72 x73 x74 x75 x76 x77 x78 x79 x80 x81 x82 x83 x84 x85 x86 x87 x88 x89 x90 x91 x92 x93 x94 x95 x96 x97 x98 x99 x100 x101 x102 x103 x104 x105 x106 x107 x108 x109 x110 x111 x112 x113 x114 x115 x116 x117 x118 x119 x120 x121 x122 x123 v5 v6 v7 v17 v18 v19 v20 v21 v22 v23 v24, []⟩ w1 K Q := by
  refine wp_allocSet hop ?_
  rw [hdst]
  exact hk _ _ ⟨rfl, _, _, _, _, _, _, _, _, _, _, _, rfl, csc_10 hLi hc⟩
theorem cs_step11 {a b : BS} {w0 w1 : World} {p2 p3 : Nat} {x0 x1 x4 x8 x9 x10 x11 x12 x13 x14 x15 x16 x25 x26 x27 x28 x29 x30 x31 x32 x33 x34 x35 x36 x37 x38 x39 x40 x41 x42 x43 x44 x45 x46 x47 x48 x49 x50 x51 x52 x53 x54 x55 x56 x57 x58 x59 x60 x61 x62 x63 x64 x65 x66 x67 x68 x69 x70 x71 x72 x73 x74 x75 x76 x77 x78 x79 x80 x81 x82 x83 x84 x85 x86 x87 x88 x89 x90 x91 x92 x93 x94 x95 x96 x97 x98 x99 x100 x101 x102 x103 x104 x105 x106 x107 x108 x109 x110 x111 x112 x113 x114 x115 x116 x117 x118 x119 x120 x121 x122 x123 v5 v6 v7 v17 v18 v19 v20 v21 v22 v23 v24 : Value} (g2 : Blk w1 p2 24 (setL a)) (g3 : Blk w1 p3 24 (setL b)) {L : Nat → Bool} (hc : csCond a b w0 L v5 v6 v7 v17 v18 v19 v20 v21 v22 v23 v24 w1) (hLi : L 11 = false) (hdep : ∀ d ∈ csDep 11, L d = true)
    {o : Oper} (hdst : o.dst = none) (hop : o.op = .store 24 (.tmp 5) (.tmp 19)) {K : Act → World → Prop} {Q : Exit → Act → World → Prop} (hk : ∀ a' w', csInv a b w0 p2 p3 x0 x1 x4 x8 x9 x10 x11 x12 x13 x14 x15 x16 x25 x26 x27 x28 x29 x30 x31 x32 x33 x34 x35 x36 x37 x38 x39 x40 x41 x42 x43 x44 x45 x46 x47 x48 x49 x50 x51 x52 x53 x54 x55 x56 x57 x58 x59 x60 x61 x62 x63 x64 x65 x66 x67 x68 x69 x70 x71 x72 x73 x74 x75 x76 x77 x78 x79 x80 x81 x82 x83 x84 x85 x86 x87 x88 x89 x90 x91 x92 x93 x94 x95 x96 x97 x98 x99 x100 x101 x102 x103 x104 x105 x106 x107 x108 x109 x110 x111 x112 x113 x114 x115 x116 x117 x118 x119 x120 x121 x122 x123 (fun j => if j = 11 then true else L j) a' w' → K a' w') :
    o.wp Tryd.prog ⟨csFrame p2 p3 x0 x1 x4 x8 x9 x10 x11 x12 x13 x14 x15 x16 x25 x26 x27 x28 x29 x30 x31 x32 x33 x34 x35 x36 x37 x38 x39 x40 x41 x42 x43 x44 x45 x46 x47 x48 x49 x50 x51 x52 x53 x54 x55 x56 x57 x58 x59 x60 x61 x62 x63 x64 x65 x66 x67 x68 x69 x70 x71 x72 x73 x74 x75 x76 x77 x78 x79 x80 x81 x82 x83 x84 x85 x86 x87 x88 x89 x90 x91 x92 x93 x94 x95 x96 x97 x98 x99 x100 x101 x102 x103 x104 x105 x106 x107 x108 x109 x110 x111 x112 x113 x114 x115 x116 x117 x118 x119 x120 x121 x122 x123 v5 v6 v7 v17 v18 v19 v20 v21 v22 v23 v24, []⟩ w1 K Q := by
  have hlo : L 8 = true := hdep 8 (by simp [csDep])
  have hls : L 2 = true := hdep 2 (by simp [csDep])
  have es : v19 = setV (a &&& b) := hc.2.2.2.1 hls
  obtain ⟨A, eA, hA, hkA⟩ := hc.2.2.2.2.2.2.2.2.2.1 hlo
  have hkA2 : ∃ cs : List Value, cs.length = 4 ∧ Blk w1 A 24 cs := by
    refine ⟨_, ?_, hkA⟩
    split <;> rfl
  obtain ⟨cs, hcs, hkB⟩ := hkA2
  refine wp_store_row 24 (.tmp 5) (.tmp 19) hop A (setL (a &&& b)).toArray ?_ ?_ 24 cs.toArray hkB (set_info _) (by show cs.length = 4; exact hcs) (four_one _) ?_
  · show v5 = _
    exact eA
  · show v19 = _
    rw [es]; rfl
  · rw [hdst]
    exact hk _ _ ⟨rfl, _, _, _, _, _, _, _, _, _, _, _, rfl, csc_11 hlo eA hA hkB hc⟩
theorem cs_step12 {a b : BS} {w0 w1 : World} {p2 p3 : Nat} {x0 x1 x4 x8 x9 x10 x11 x12 x13 x14 x15 x16 x25 x26 x27 x28 x29 x30 x31 x32 x33 x34 x35 x36 x37 x38 x39 x40 x41 x42 x43 x44 x45 x46 x47 x48 x49 x50 x51 x52 x53 x54 x55 x56 x57 x58 x59 x60 x61 x62 x63 x64 x65 x66 x67 x68 x69 x70 x71 x72 x73 x74 x75 x76 x77 x78 x79 x80 x81 x82 x83 x84 x85 x86 x87 x88 x89 x90 x91 x92 x93 x94 x95 x96 x97 x98 x99 x100 x101 x102 x103 x104 x105 x106 x107 x108 x109 x110 x111 x112 x113 x114 x115 x116 x117 x118 x119 x120 x121 x122 x123 v5 v6 v7 v17 v18 v19 v20 v21 v22 v23 v24 : Value} (g2 : Blk w1 p2 24 (setL a)) (g3 : Blk w1 p3 24 (setL b)) {L : Nat → Bool} (hc : csCond a b w0 L v5 v6 v7 v17 v18 v19 v20 v21 v22 v23 v24 w1) (hLi : L 12 = false) (hdep : ∀ d ∈ csDep 12, L d = true)
    {o : Oper} (hdst : o.dst = none) (hop : o.op = .store 24 (.tmp 6) (.tmp 22)) {K : Act → World → Prop} {Q : Exit → Act → World → Prop} (hk : ∀ a' w', csInv a b w0 p2 p3 x0 x1 x4 x8 x9 x10 x11 x12 x13 x14 x15 x16 x25 x26 x27 x28 x29 x30 x31 x32 x33 x34 x35 x36 x37 x38 x39 x40 x41 x42 x43 x44 x45 x46 x47 x48 x49 x50 x51 x52 x53 x54 x55 x56 x57 x58 x59 x60 x61 x62 x63 x64 x65 x66 x67 x68 x69 x70 x71 x72 x73 x74 x75 x76 x77 x78 x79 x80 x81 x82 x83 x84 x85 x86 x87 x88 x89 x90 x91 x92 x93 x94 x95 x96 x97 x98 x99 x100 x101 x102 x103 x104 x105 x106 x107 x108 x109 x110 x111 x112 x113 x114 x115 x116 x117 x118 x119 x120 x121 x122 x123 (fun j => if j = 12 then true else L j) a' w' → K a' w') :
    o.wp Tryd.prog ⟨csFrame p2 p3 x0 x1 x4 x8 x9 x10 x11 x12 x13 x14 x15 x16 x25 x26 x27 x28 x29 x30 x31 x32 x33 x34 x35 x36 x37 x38 x39 x40 x41 x42 x43 x44 x45 x46 x47 x48 x49 x50 x51 x52 x53 x54 x55 x56 x57 x58 x59 x60 x61 x62 x63 x64 x65 x66 x67 x68 x69 x70 x71 x72 x73 x74 x75 x76 x77 x78 x79 x80 x81 x82 x83 x84 x85 x86 x87 x88 x89 x90 x91 x92 x93 x94 x95 x96 x97 x98 x99 x100 x101 x102 x103 x104 x105 x106 x107 x108 x109 x110 x111 x112 x113 x114 x115 x116 x117 x118 x119 x120 x121 x122 x123 v5 v6 v7 v17 v18 v19 v20 v21 v22 v23 v24, []⟩ w1 K Q := by
  have hlo : L 9 = true := hdep 9 (by simp [csDep])
  have hls : L 5 = true := hdep 5 (by simp [csDep])
  have es : v22 = setV (a ||| b) := hc.2.2.2.2.2.2.1 hls
  obtain ⟨A, eA, hA, hkA⟩ := hc.2.2.2.2.2.2.2.2.2.2.1 hlo
  have hkA2 : ∃ cs : List Value, cs.length = 4 ∧ Blk w1 A 24 cs := by
    refine ⟨_, ?_, hkA⟩
    split <;> rfl
  obtain ⟨cs, hcs, hkB⟩ := hkA2
  refine wp_store_row 24 (.tmp 6) (.tmp 22) hop A (setL (a ||| b)).toArray ?_ ?_ 24 cs.toArray hkB (set_info _) (by show cs.length = 4; exact hcs) (four_one _) ?_
  · show v6 = _
    exact eA
  · show v22 = _
    rw [es]; rfl
  · rw [hdst]
    exact hk _ _ ⟨rfl, _, _, _, _, _, _, _, _, _, _, _, rfl, csc_12 hlo eA hA hkB hc⟩
theorem cs_step13 {a b : BS} {w0 w1 : World} {p2 p3 : Nat} {x0 x1 x4 x8 x9 x10 x11 x12 x13 x14 x15 x16 x25 x26 x27 x28 x29 x30 x31 x32 x33 x34 x35 x36 x37 x38 x39 x40 x41 x42 x43 x44 x45 x46 x47 x48 x49 x50 x51 x52 x53 x54 x55 x56 x57 x58 x59 x60 x61 x62 x63 x64 x65 x66 x67 x68 x69 x70 x71 x72 x73 x74 x75 x76 x77 x78 x79 x80 x81 x82 x83 x84 x85 x86 x87 x88 x89 x90 x91 x92 x93 x94 x95 x96 x97 x98 x99 x100 x101 x102 x103 x104 x105 x106 x107 x108 x109 x110 x111 x112 x113 x114 x115 x116 x117 x118 x119 x120 x121 x122 x123 v5 v6 v7 v17 v18 v19 v20 v21 v22 v23 v24 : Value} (g2 : Blk w1 p2 24 (setL a)) (g3 : Blk w1 p3 24 (setL b)) {L : Nat → Bool} (hc : csCond a b w0 L v5 v6 v7 v17 v18 v19 v20 v21 v22 v23 v24 w1) (hLi : L 13 = false) (hdep : ∀ d ∈ csDep 13, L d = true)
    {o : Oper} (hdst : o.dst = none) (hop : o.op = .store 24 (.tmp 7) (.tmp 24)) {K : Act → World → Prop} {Q : Exit → Act → World → Prop} (hk : ∀ a' w', csInv a b w0 p2 p3 x0 x1 x4 x8 x9 x10 x11 x12 x13 x14 x15 x16 x25 x26 x27 x28 x29 x30 x31 x32 x33 x34 x35 x36 x37 x38 x39 x40 x41 x42 x43 x44 x45 x46 x47 x48 x49 x50 x51 x52 x53 x54 x55 x56 x57 x58 x59 x60 x61 x62 x63 x64 x65 x66 x67 x68 x69 x70 x71 x72 x73 x74 x75 x76 x77 x78 x79 x80 x81 x82 x83 x84 x85 x86 x87 x88 x89 x90 x91 x92 x93 x94 x95 x96 x97 x98 x99 x100 x101 x102 x103 x104 x105 x106 x107 x108 x109 x110 x111 x112 x113 x114 x115 x116 x117 x118 x119 x120 x121 x122 x123 (fun j => if j = 13 then true else L j) a' w' → K a' w') :
    o.wp Tryd.prog ⟨csFrame p2 p3 x0 x1 x4 x8 x9 x10 x11 x12 x13 x14 x15 x16 x25 x26 x27 x28 x29 x30 x31 x32 x33 x34 x35 x36 x37 x38 x39 x40 x41 x42 x43 x44 x45 x46 x47 x48 x49 x50 x51 x52 x53 x54 x55 x56 x57 x58 x59 x60 x61 x62 x63 x64 x65 x66 x67 x68 x69 x70 x71 x72 x73 x74 x75 x76 x77 x78 x79 x80 x81 x82 x83 x84 x85 x86 x87 x88 x89 x90 x91 x92 x93 x94 x95 x96 x97 x98 x99 x100 x101 x102 x103 x104 x105 x106 x107 x108 x109 x110 x111 x112 x113 x114 x115 x116 x117 x118 x119 x120 x121 x122 x123 v5 v6 v7 v17 v18 v19 v20 v21 v22 v23 v24, []⟩ w1 K Q := by
  have hlo : L 10 = true := hdep 10 (by simp [csDep])
  have hls : L 7 = true := hdep 7 (by simp [csDep])
  have es : v24 = setV (~~~a) := hc.2.2.2.2.2.2.2.2.1 hls
  obtain ⟨A, eA, hA, hkA⟩ := hc.2.2.2.2.2.2.2.2.2.2.2.1 hlo
  have hkA2 : ∃ cs : List Value, cs.length = 4 ∧ Blk w1 A 24 cs := by
    refine ⟨_, ?_, hkA⟩
    split <;> rfl
  obtain ⟨cs, hcs, hkB⟩ := hkA2
  refine wp_store_row 24 (.tmp 7) (.tmp 24) hop A (setL (~~~a)).toArray ?_ ?_ 24 cs.toArray hkB (set_info _) (by show cs.length = 4; exact hcs) (four_one _) ?_
  · show v7 = _
    exact eA
  · show v24 = _
    rw [es]; rfl
  · rw [hdst]
    exact hk _ _ ⟨rfl, _, _, _, _, _, _, _, _, _, _, _, rfl, csc_13 hlo eA hA hkB hc⟩
theorem cs_region {a b : BS} {w : World} {p2 p3 : Nat} (h2 : Blk w p2 24 (setL a)) (h3 : Blk w p3 24 (setL b)) {x0 x1 x4 x8 x9 x10 x11 x12 x13 x14 x15 x16 x25 x26 x27 x28 x29 x30 x31 x32 x33 x34 x35 x36 x37 x38 x39 x40 x41 x42 x43 x44 x45 x46 x47 x48 x49 x50 x51 x52 x53 x54 x55 x56 x57 x58 x59 x60 x61 x62 x63 x64 x65 x66 x67 x68 x69 x70 x71 x72 x73 x74 x75 x76 x77 x78 x79 x80 x81 x82 x83 x84 x85 x86 x87 x88 x89 x90 x91 x92 x93 x94 x95 x96 x97 x98 x99 x100 x101 x102 x103 x104 x105 x106 x107 x108 x109 x110 x111 x112 x113 x114 x115 x116 x117 x118 x119 x120 x121 x122 x123 v5 v6 v7 v17 v18 v19 v20 v21 v22 v23 v24 : Value} {Q : Exit → Act → World → Prop} {id : Nat}
    (hK : ∀ A5 A6 A7 v17 v18 v19 v20 v21 v22 v23 v24 w', Below w.heap.size w w' → A5 ≠ A6 → A5 ≠ A7 → A6 ≠ A7 → w.heap.size ≤ A5 → Blk w' A5 24 (setL (a &&& b)) → w.heap.size ≤ A6 → Blk w' A6 24 (setL (a ||| b)) → w.heap.size ≤ A7 → Blk w' A7 24 (setL (~~~a)) →
      Q .normal ⟨csFrame p2 p3 x0 x1 x4 x8 x9 x10 x11 x12 x13 x14 x15 x16 x25 x26 x27 x28 x29 x30 x31 x32 x33 x34 x35 x36 x37 x38 x39 x40 x41 x42 x43 x44 x45 x46 x47 x48 x49 x50 x51 x52 x53 x54 x55 x56 x57 x58 x59 x60 x61 x62 x63 x64 x65 x66 x67 x68 x69 x70 x71 x72 x73 x74 x75 x76 x77 x78 x79 x80 x81 x82 x83 x84 x85 x86 x87 x88 x89 x90 x91 x92 x93 x94 x95 x96 x97 x98 x99 x100 x101 x102 x103 x104 x105 x106 x107 x108 x109 x110 x111 x112 x113 x114 x115 x116 x117 x118 x119 x120 x121 x122 x123 (.pointer (some ⟨A5, 0, none⟩)) (.pointer (some ⟨A6, 0, none⟩)) (.pointer (some ⟨A7, 0, none⟩)) v17 v18 v19 v20 v21 v22 v23 v24, []⟩ w') :
    (Code.region id csOps true).wp Tryd.prog Q ⟨csFrame p2 p3 x0 x1 x4 x8 x9 x10 x11 x12 x13 x14 x15 x16 x25 x26 x27 x28 x29 x30 x31 x32 x33 x34 x35 x36 x37 x38 x39 x40 x41 x42 x43 x44 x45 x46 x47 x48 x49 x50 x51 x52 x53 x54 x55 x56 x57 x58 x59 x60 x61 x62 x63 x64 x65 x66 x67 x68 x69 x70 x71 x72 x73 x74 x75 x76 x77 x78 x79 x80 x81 x82 x83 x84 x85 x86 x87 x88 x89 x90 x91 x92 x93 x94 x95 x96 x97 x98 x99 x100 x101 x102 x103 x104 x105 x106 x107 x108 x109 x110 x111 x112 x113 x114 x115 x116 x117 x118 x119 x120 x121 x122 x123 v5 v6 v7 v17 v18 v19 v20 v21 v22 v23 v24, []⟩ w := by
  refine wp_region_inv (by kernel_rfl) (csInv a b w.drew p2 p3 x0 x1 x4 x8 x9 x10 x11 x12 x13 x14 x15 x16 x25 x26 x27 x28 x29 x30 x31 x32 x33 x34 x35 x36 x37 x38 x39 x40 x41 x42 x43 x44 x45 x46 x47 x48 x49 x50 x51 x52 x53 x54 x55 x56 x57 x58 x59 x60 x61 x62 x63 x64 x65 x66 x67 x68 x69 x70 x71 x72 x73 x74 x75 x76 x77 x78 x79 x80 x81 x82 x83 x84 x85 x86 x87 x88 x89 x90 x91 x92 x93 x94 x95 x96 x97 x98 x99 x100 x101 x102 x103 x104 x105 x106 x107 x108 x109 x110 x111 x112 x113 x114 x115 x116 x117 x118 x119 x120 x121 x122 x123) (wf_ops (by kernel_rfl)) ?_ ?_ ?_
  · refine ⟨rfl, v5, v6, v7, v17, v18, v19, v20, v21, v22, v23, v24, rfl, Below.refl _ _, ?_⟩
    have hs : csOps.size = 14 := rfl
    rw [hs]
    simp
  · intro L i o ho hLi haf a_ w1 hI K hk
    obtain ⟨hd, v5, v6, v7, v17, v18, v19, v20, v21, v22, v23, v24, ht, hc⟩ := hI
    obtain ⟨a_t, a_d⟩ := a_
    obtain rfl : a_d = [] := hd
    obtain rfl : a_t = _ := ht
    have hb : Below w.heap.size w w1 := ⟨hc.1.os, hc.1.tape, hc.1.output, hc.1.size, hc.1.block⟩
    have g2 := h2.keep hb
    have g3 := h3.keep hb
    have hdep := csdeps_ok csDep (by kernel_rfl) ho haf
    clear haf
    have hs : csOps.size = 14 := rfl
    have hlt : i < 14 := hs ▸ (Array.getElem?_eq_some_iff.1 ho).1
    have hcases : i = 0 ∨ i = 1 ∨ i = 2 ∨ i = 3 ∨ i = 4 ∨ i = 5 ∨ i = 6 ∨ i = 7 ∨ i = 8 ∨ i = 9 ∨ i = 10 ∨ i = 11 ∨ i = 12 ∨ i = 13 := by omega
    rcases hcases with rfl | rfl | rfl | rfl | rfl | rfl | rfl | rfl | rfl | rfl | rfl | rfl | rfl | rfl
    · have h1 : (csOps[0]?).map (·.dst) = some (some 17) := by kernel_rfl
      have h2 : (csOps[0]?).map (·.op) = some (.load 24 (.tmp 2)) := by kernel_rfl
      rw [ho] at h1 h2
      exact cs_step0 g2 g3 hc hLi hdep (Option.some.inj h1) (Option.some.inj h2) hk
    · have h1 : (csOps[1]?).map (·.dst) = some (some 18) := by kernel_rfl
      have h2 : (csOps[1]?).map (·.op) = some (.load 24 (.tmp 3)) := by kernel_rfl
      rw [ho] at h1 h2
      exact cs_step1 g2 g3 hc hLi hdep (Option.some.inj h1) (Option.some.inj h2) hk
    · have h1 : (csOps[2]?).map (·.dst) = some (some 19) := by kernel_rfl
      have h2 : (csOps[2]?).map (·.op) = some (.call { callee := .value (.func 15), args := #[.tmp 17, .tmp 18], argTypes := #[24, 24] }) := by kernel_rfl
      rw [ho] at h1 h2
      exact cs_step2 g2 g3 hc hLi hdep (Option.some.inj h1) (Option.some.inj h2) hk
    · have h1 : (csOps[3]?).map (·.dst) = some (some 20) := by kernel_rfl
      have h2 : (csOps[3]?).map (·.op) = some (.load 24 (.tmp 2)) := by kernel_rfl
      rw [ho] at h1 h2
      exact cs_step3 g2 g3 hc hLi hdep (Option.some.inj h1) (Option.some.inj h2) hk
    · have h1 : (csOps[4]?).map (·.dst) = some (some 21) := by kernel_rfl
      have h2 : (csOps[4]?).map (·.op) = some (.load 24 (.tmp 3)) := by kernel_rfl
      rw [ho] at h1 h2
      exact cs_step4 g2 g3 hc hLi hdep (Option.some.inj h1) (Option.some.inj h2) hk
    · have h1 : (csOps[5]?).map (·.dst) = some (some 22) := by kernel_rfl
      have h2 : (csOps[5]?).map (·.op) = some (.call { callee := .value (.func 16), args := #[.tmp 20, .tmp 21], argTypes := #[24, 24] }) := by kernel_rfl
      rw [ho] at h1 h2
      exact cs_step5 g2 g3 hc hLi hdep (Option.some.inj h1) (Option.some.inj h2) hk
    · have h1 : (csOps[6]?).map (·.dst) = some (some 23) := by kernel_rfl
      have h2 : (csOps[6]?).map (·.op) = some (.load 24 (.tmp 2)) := by kernel_rfl
      rw [ho] at h1 h2
      exact cs_step6 g2 g3 hc hLi hdep (Option.some.inj h1) (Option.some.inj h2) hk
    · have h1 : (csOps[7]?).map (·.dst) = some (some 24) := by kernel_rfl
      have h2 : (csOps[7]?).map (·.op) = some (.call { callee := .value (.func 17), args := #[.tmp 23], argTypes := #[24] }) := by kernel_rfl
      rw [ho] at h1 h2
      exact cs_step7 g2 g3 hc hLi hdep (Option.some.inj h1) (Option.some.inj h2) hk
    · have h1 : (csOps[8]?).map (·.dst) = some (some 5) := by kernel_rfl
      have h2 : (csOps[8]?).map (·.op) = some (.alloc 24) := by kernel_rfl
      rw [ho] at h1 h2
      exact cs_step8 g2 g3 hc hLi hdep (Option.some.inj h1) (Option.some.inj h2) hk
    · have h1 : (csOps[9]?).map (·.dst) = some (some 6) := by kernel_rfl
      have h2 : (csOps[9]?).map (·.op) = some (.alloc 24) := by kernel_rfl
      rw [ho] at h1 h2
      exact cs_step9 g2 g3 hc hLi hdep (Option.some.inj h1) (Option.some.inj h2) hk
    · have h1 : (csOps[10]?).map (·.dst) = some (some 7) := by kernel_rfl
      have h2 : (csOps[10]?).map (·.op) = some (.alloc 24) := by kernel_rfl
      rw [ho] at h1 h2
      exact cs_step10 g2 g3 hc hLi hdep (Option.some.inj h1) (Option.some.inj h2) hk
    · have h1 : (csOps[11]?).map (·.dst) = some (none) := by kernel_rfl
      have h2 : (csOps[11]?).map (·.op) = some (.store 24 (.tmp 5) (.tmp 19)) := by kernel_rfl
      rw [ho] at h1 h2
      exact cs_step11 g2 g3 hc hLi hdep (Option.some.inj h1) (Option.some.inj h2) hk
    · have h1 : (csOps[12]?).map (·.dst) = some (none) := by kernel_rfl
      have h2 : (csOps[12]?).map (·.op) = some (.store 24 (.tmp 6) (.tmp 22)) := by kernel_rfl
      rw [ho] at h1 h2
      exact cs_step12 g2 g3 hc hLi hdep (Option.some.inj h1) (Option.some.inj h2) hk
    · have h1 : (csOps[13]?).map (·.dst) = some (none) := by kernel_rfl
      have h2 : (csOps[13]?).map (·.op) = some (.store 24 (.tmp 7) (.tmp 24)) := by kernel_rfl
      rw [ho] at h1 h2
      exact cs_step13 g2 g3 hc hLi hdep (Option.some.inj h1) (Option.some.inj h2) hk
  · intro L a_ w1 hL hI
    obtain ⟨hd, v5, v6, v7, v17, v18, v19, v20, v21, v22, v23, v24, ht, hc⟩ := hI
    obtain ⟨a_t, a_d⟩ := a_
    obtain rfl : a_d = [] := hd
    obtain rfl : a_t = _ := ht
    have hb : Below w.heap.size w w1 := ⟨hc.1.os, hc.1.tape, hc.1.output, hc.1.size, hc.1.block⟩
    have hs : csOps.size = 14 := rfl
    rw [hs] at hL
    have l5 := hL 8 (by omega)
    have m5 := hL 11 (by omega)
    obtain ⟨A5, e5, hA5, hk5⟩ := hc.2.2.2.2.2.2.2.2.2.1 l5
    rw [m5, if_pos rfl] at hk5
    have l6 := hL 9 (by omega)
    have m6 := hL 12 (by omega)
    obtain ⟨A6, e6, hA6, hk6⟩ := hc.2.2.2.2.2.2.2.2.2.2.1 l6
    rw [m6, if_pos rfl] at hk6
    have l7 := hL 10 (by omega)
    have m7 := hL 13 (by omega)
    obtain ⟨A7, e7, hA7, hk7⟩ := hc.2.2.2.2.2.2.2.2.2.2.2.1 l7
    rw [m7, if_pos rfl] at hk7
    have n5_6 : A5 ≠ A6 := by
      intro h
      exact hc.2.2.2.2.2.2.2.2.2.2.2.2.1 l5 l6 (by rw [e5, e6, h])
    have n5_7 : A5 ≠ A7 := by
      intro h
      exact hc.2.2.2.2.2.2.2.2.2.2.2.2.2.1 l5 l7 (by rw [e5, e7, h])
    have n6_7 : A6 ≠ A7 := by
      intro h
      exact hc.2.2.2.2.2.2.2.2.2.2.2.2.2.2.1 l6 l7 (by rw [e6, e7, h])
    subst e5 e6 e7
    exact hK A5 A6 A7 _ _ _ _ _ _ _ _ w1 hb n5_6 n5_7 n6_7 hA5 hk5 hA6 hk6 hA7 hk7
end Go.Proofs.YthafegignjhcnaaDoor
