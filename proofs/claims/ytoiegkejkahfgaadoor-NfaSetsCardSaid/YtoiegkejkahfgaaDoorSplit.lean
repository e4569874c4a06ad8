/- class: Split's statement with two sets. -/
import Derived.Test.YtoiegkejkahfgaaDoorSplT
import Derived.Test.YtoiegkejkahfgaaDoorInv
import Derived.Laws.Tables
import Derived.Test.YtoiegkejkahfgaaDoorCls2
import Derived.Test.YtoiegkejkahfgaaDoorShelf
import Derived.Test.YtoiegkejkahfgaaDoorBytB
import Derived.Shelf.SlSortCmp.WholeK
namespace Go.Proofs.YtoiegkejkahfgaaDoor
set_option linter.unusedVariables false
set_option linter.unusedSimpArgs false
open Go.RowKit

theorem wf_ops {ops : Array Oper} (h : ((List.range ops.size).all fun i => match ops[i]? with | some o => o.guard.isNone && o.after.all (fun e => decide (e.on < i)) | none => true) = true) :
    ∀ (i : Nat) (o : Oper), ops[i]? = some o → o.guard = none ∧ ∀ e ∈ o.after, e.on < i := by
  intro i o ho
  have hlt := (Array.getElem?_eq_some_iff.1 ho).1
  have := List.all_eq_true.1 h i (List.mem_range.2 hlt)
  rw [ho] at this
  simp only [Bool.and_eq_true, Option.isNone_iff_eq_none, Array.all_eq_true_iff_forall_mem, decide_eq_true_eq] at this
  exact this
theorem enters_and : ∀ args w, (callFunc 24 args).run Tryd.prog w = .ok (.enter 24 args) w := enters_of Tryd.func24 (by kernel_rfl) rfl
theorem enters_not : ∀ args w, (callFunc 25 args).run Tryd.prog w = .ok (.enter 25 args) w := enters_of Tryd.func25 (by kernel_rfl) rfl

def spOps : Array Oper := #[{ dst := some 25, op := Op.load 43 (Operand.tmp 7), type := 43, pos := "class.go:120", after := #[], guard := none }, { dst := some 26, op := Op.load 43 (Operand.tmp 5), type := 43, pos := "class.go:120", after := #[], guard := none }, { dst := some 27, op := Op.call { callee := Callee.value (Operand.func 24), args := #[Operand.tmp 25, Operand.tmp 26], argTypes := #[43, 43] }, type := 43, pos := "class.go:120", after := #[{ on := 0, ground := Ground.data }, { on := 1, ground := Ground.data }], guard := none }, { dst := some 28, op := Op.load 43 (Operand.tmp 7), type := 43, pos := "class.go:120", after := #[], guard := none }, { dst := some 29, op := Op.load 43 (Operand.tmp 5), type := 43, pos := "class.go:120", after := #[], guard := none }, { dst := some 30, op := Op.call { callee := Callee.value (Operand.func 25), args := #[Operand.tmp 29], argTypes := #[43] }, type := 43, pos := "class.go:120", after := #[{ on := 4, ground := Ground.data }, { on := 2, ground := Ground.chain }], guard := none }, { dst := some 31, op := Op.call { callee := Callee.value (Operand.func 24), args := #[Operand.tmp 28, Operand.tmp 30], argTypes := #[43, 43] }, type := 43, pos := "class.go:120", after := #[{ on := 3, ground := Ground.data }, { on := 5, ground := Ground.data }, { on := 5, ground := Ground.chain }], guard := none }, { dst := some 8, op := Op.alloc 43, type := 0, pos := "class.go:120", after := #[], guard := none }, { dst := some 9, op := Op.alloc 43, type := 0, pos := "class.go:120", after := #[], guard := none }, { dst := none, op := Op.store 43 (Operand.tmp 8) (Operand.tmp 27), type := 0, pos := "class.go:120", after := #[{ on := 7, ground := Ground.data }, { on := 2, ground := Ground.data }, { on := 6, ground := Ground.chain }, { on := 0, ground := Ground.phase }, { on := 1, ground := Ground.phase }, { on := 2, ground := Ground.phase }, { on := 3, ground := Ground.textOnly Departure.lateStores }, { on := 4, ground := Ground.textOnly Departure.lateStores }, { on := 5, ground := Ground.textOnly Departure.lateStoresUnsure }, { on := 6, ground := Ground.textOnly Departure.lateStoresUnsure }, { on := 7, ground := Ground.phase }, { on := 8, ground := Ground.phase }], guard := none }, { dst := none, op := Op.store 43 (Operand.tmp 9) (Operand.tmp 31), type := 0, pos := "class.go:120", after := #[{ on := 8, ground := Ground.data }, { on := 6, ground := Ground.data }, { on := 9, ground := Ground.chain }, { on := 0, ground := Ground.phase }, { on := 1, ground := Ground.phase }, { on := 2, ground := Ground.phase }, { on := 3, ground := Ground.phase }, { on := 4, ground := Ground.phase }, { on := 5, ground := Ground.phase }, { on := 6, ground := Ground.phase }, { on := 7, ground := Ground.phase }, { on := 8, ground := Ground.phase }, { on := 9, ground := Ground.phase }], guard := none }]
def spCond (p s : BS) (w0 : World) (L : Nat → Bool) (v8 v9 v25 v26 v27 v28 v29 v30 v31 : Value) (w : World) : Prop :=
  Below w0.heap.size w0 w ∧ (L 0 = true → v25 = setV p) ∧ (L 1 = true → v26 = setV s) ∧ (L 2 = true → v27 = setV (p &&& s)) ∧ (L 3 = true → v28 = setV p) ∧ (L 4 = true → v29 = setV s) ∧ (L 5 = true → v30 = setV (~~~s)) ∧ (L 6 = true → v31 = setV (p &&& ~~~s)) ∧
    (L 7 = true → ∃ A, v8 = .pointer (some ⟨A, 0, none⟩) ∧ w0.heap.size ≤ A ∧ Blk w A 43 (if L 9 = true then setL (p &&& s) else four (fun _ => 0))) ∧
    (L 8 = true → ∃ B, v9 = .pointer (some ⟨B, 0, none⟩) ∧ w0.heap.size ≤ B ∧ Blk w B 43 (if L 10 = true then setL (p &&& ~~~s) else four (fun _ => 0))) ∧
    (L 7 = true → L 8 = true → v8 ≠ v9) ∧ (L 9 = true → L 7 = true) ∧ (L 10 = true → L 8 = true)

theorem spc_0 {p s : BS} {w0 : World} {L : Nat → Bool} {v8 v9 v25 v26 v27 v28 v29 v30 v31 : Value} {w w' : World} (h : spCond p s w0 L v8 v9 v25 v26 v27 v28 v29 v30 v31 w) (hb : Below w.heap.size w w') : spCond p s w0 (fun j => if j = 0 then true else L j) v8 v9 (setV p) v26 v27 v28 v29 v30 v31 w' := by
  obtain ⟨hb0, h0, h1, h2, h3, h4, h5, h6, h7, h8, h9, h10, h11⟩ := h
  refine ⟨hb0.trans (hb.mono hb0.size), fun _ => rfl, by simpa using h1, by simpa using h2, by simpa using h3, by simpa using h4, by simpa using h5, by simpa using h6, ?_, ?_, by simpa using h9, by simpa using h10, by simpa using h11⟩
  · intro h
    obtain ⟨A, e, hA, hk⟩ := h7 (by simpa using h)
    exact ⟨A, e, hA, by simpa using hk.keep hb⟩
  · intro h
    obtain ⟨A, e, hA, hk⟩ := h8 (by simpa using h)
    exact ⟨A, e, hA, by simpa using hk.keep hb⟩
theorem spc_1 {p s : BS} {w0 : World} {L : Nat → Bool} {v8 v9 v25 v26 v27 v28 v29 v30 v31 : Value} {w w' : World} (h : spCond p s w0 L v8 v9 v25 v26 v27 v28 v29 v30 v31 w) (hb : Below w.heap.size w w') : spCond p s w0 (fun j => if j = 1 then true else L j) v8 v9 v25 (setV s) v27 v28 v29 v30 v31 w' := by
  obtain ⟨hb0, h0, h1, h2, h3, h4, h5, h6, h7, h8, h9, h10, h11⟩ := h
  refine ⟨hb0.trans (hb.mono hb0.size), by simpa using h0, fun _ => rfl, by simpa using h2, by simpa using h3, by simpa using h4, by simpa using h5, by simpa using h6, ?_, ?_, by simpa using h9, by simpa using h10, by simpa using h11⟩
  · intro h
    obtain ⟨A, e, hA, hk⟩ := h7 (by simpa using h)
    exact ⟨A, e, hA, by simpa using hk.keep hb⟩
  · intro h
    obtain ⟨A, e, hA, hk⟩ := h8 (by simpa using h)
    exact ⟨A, e, hA, by simpa using hk.keep hb⟩
theorem spc_2 {p s : BS} {w0 : World} {L : Nat → Bool} {v8 v9 v25 v26 v27 v28 v29 v30 v31 : Value} {w w' : World} (h : spCond p s w0 L v8 v9 v25 v26 v27 v28 v29 v30 v31 w) (hb : Below w.heap.size w w') : spCond p s w0 (fun j => if j = 2 then true else L j) v8 v9 v25 v26 (setV (p &&& s)) v28 v29 v30 v31 w' := by
  obtain ⟨hb0, h0, h1, h2, h3, h4, h5, h6, h7, h8, h9, h10, h11⟩ := h
  refine ⟨hb0.trans (hb.mono hb0.size), by simpa using h0, by simpa using h1, fun _ => rfl, by simpa using h3, by simpa using h4, by simpa using h5, by simpa using h6, ?_, ?_, by simpa using h9, by simpa using h10, by simpa using h11⟩
  · intro h
    obtain ⟨A, e, hA, hk⟩ := h7 (by simpa using h)
    exact ⟨A, e, hA, by simpa using hk.keep hb⟩
  · intro h
    obtain ⟨A, e, hA, hk⟩ := h8 (by simpa using h)
    exact ⟨A, e, hA, by simpa using hk.keep hb⟩
theorem spc_3 {p s : BS} {w0 : World} {L : Nat → Bool} {v8 v9 v25 v26 v27 v28 v29 v30 v31 : Value} {w w' : World} (h : spCond p s w0 L v8 v9 v25 v26 v27 v28 v29 v30 v31 w) (hb : Below w.heap.size w w') : spCond p s w0 (fun j => if j = 3 then true else L j) v8 v9 v25 v26 v27 (setV p) v29 v30 v31 w' := by
  obtain ⟨hb0, h0, h1, h2, h3, h4, h5, h6, h7, h8, h9, h10, h11⟩ := h
  refine ⟨hb0.trans (hb.mono hb0.size), by simpa using h0, by simpa using h1, by simpa using h2, fun _ => rfl, by simpa using h4, by simpa using h5, by simpa using h6, ?_, ?_, by simpa using h9, by simpa using h10, by simpa using h11⟩
  · intro h
    obtain ⟨A, e, hA, hk⟩ := h7 (by simpa using h)
    exact ⟨A, e, hA, by simpa using hk.keep hb⟩
  · intro h
    obtain ⟨A, e, hA, hk⟩ := h8 (by simpa using h)
    exact ⟨A, e, hA, by simpa using hk.keep hb⟩
theorem spc_4 {p s : BS} {w0 : World} {L : Nat → Bool} {v8 v9 v25 v26 v27 v28 v29 v30 v31 : Value} {w w' : World} (h : spCond p s w0 L v8 v9 v25 v26 v27 v28 v29 v30 v31 w) (hb : Below w.heap.size w w') : spCond p s w0 (fun j => if j = 4 then true else L j) v8 v9 v25 v26 v27 v28 (setV s) v30 v31 w' := by
  obtain ⟨hb0, h0, h1, h2, h3, h4, h5, h6, h7, h8, h9, h10, h11⟩ := h
  refine ⟨hb0.trans (hb.mono hb0.size), by simpa using h0, by simpa using h1, by simpa using h2, by simpa using h3, fun _ => rfl, by simpa using h5, by simpa using h6, ?_, ?_, by simpa using h9, by simpa using h10, by simpa using h11⟩
  · intro h
    obtain ⟨A, e, hA, hk⟩ := h7 (by simpa using h)
    exact ⟨A, e, hA, by simpa using hk.keep hb⟩
  · intro h
    obtain ⟨A, e, hA, hk⟩ := h8 (by simpa using h)
    exact ⟨A, e, hA, by simpa using hk.keep hb⟩
theorem spc_5 {p s : BS} {w0 : World} {L : Nat → Bool} {v8 v9 v25 v26 v27 v28 v29 v30 v31 : Value} {w w' : World} (h : spCond p s w0 L v8 v9 v25 v26 v27 v28 v29 v30 v31 w) (hb : Below w.heap.size w w') : spCond p s w0 (fun j => if j = 5 then true else L j) v8 v9 v25 v26 v27 v28 v29 (setV (~~~s)) v31 w' := by
  obtain ⟨hb0, h0, h1, h2, h3, h4, h5, h6, h7, h8, h9, h10, h11⟩ := h
  refine ⟨hb0.trans (hb.mono hb0.size), by simpa using h0, by simpa using h1, by simpa using h2, by simpa using h3, by simpa using h4, fun _ => rfl, by simpa using h6, ?_, ?_, by simpa using h9, by simpa using h10, by simpa using h11⟩
  · intro h
    obtain ⟨A, e, hA, hk⟩ := h7 (by simpa using h)
    exact ⟨A, e, hA, by simpa using hk.keep hb⟩
  · intro h
    obtain ⟨A, e, hA, hk⟩ := h8 (by simpa using h)
    exact ⟨A, e, hA, by simpa using hk.keep hb⟩
theorem spc_6 {p s : BS} {w0 : World} {L : Nat → Bool} {v8 v9 v25 v26 v27 v28 v29 v30 v31 : Value} {w w' : World} (h : spCond p s w0 L v8 v9 v25 v26 v27 v28 v29 v30 v31 w) (hb : Below w.heap.size w w') : spCond p s w0 (fun j => if j = 6 then true else L j) v8 v9 v25 v26 v27 v28 v29 v30 (setV (p &&& ~~~s)) w' := by
  obtain ⟨hb0, h0, h1, h2, h3, h4, h5, h6, h7, h8, h9, h10, h11⟩ := h
  refine ⟨hb0.trans (hb.mono hb0.size), by simpa using h0, by simpa using h1, by simpa using h2, by simpa using h3, by simpa using h4, by simpa using h5, fun _ => rfl, ?_, ?_, by simpa using h9, by simpa using h10, by simpa using h11⟩
  · intro h
    obtain ⟨A, e, hA, hk⟩ := h7 (by simpa using h)
    exact ⟨A, e, hA, by simpa using hk.keep hb⟩
  · intro h
    obtain ⟨A, e, hA, hk⟩ := h8 (by simpa using h)
    exact ⟨A, e, hA, by simpa using hk.keep hb⟩
theorem spc_7 {p s : BS} {w0 : World} {L : Nat → Bool} {v8 v9 v25 v26 v27 v28 v29 v30 v31 : Value} {w : World} (hL : L 9 = true → L 7 = true) (h9L : L 7 = false) (h : spCond p s w0 L v8 v9 v25 v26 v27 v28 v29 v30 v31 w) : spCond p s w0 (fun j => if j = 7 then true else L j) (.pointer (some ⟨w.heap.size, 0, none⟩)) v9 v25 v26 v27 v28 v29 v30 v31 (w.alloc (.cells (four (fun _ => 0)).toArray 43)) := by
  obtain ⟨hb0, h0, h1, h2, h3, h4, h5, h6, h7, h8, h9, h10, h11⟩ := h
  have hL9 : L 9 = false := by cases hh : L 9 with | false => rfl | true => rw [h10 hh] at h9L; cases h9L
  refine ⟨hb0.alloc hb0.size _, by simpa using h0, by simpa using h1, by simpa using h2, by simpa using h3, by simpa using h4, by simpa using h5, by simpa using h6, ?_, ?_, ?_, ?_, by simpa using h11⟩
  · intro _
    exact ⟨w.heap.size, rfl, hb0.size, by simpa [hL9] using Blk.fresh w 43 (four (fun _ => 0))⟩
  · intro h
    obtain ⟨A, e, hA, hk⟩ := h8 (by simpa using h)
    exact ⟨A, e, hA, by simpa using hk.alloc _⟩
  · intro _ h
    obtain ⟨A, e, hA, hk⟩ := h8 (by simpa using h)
    have := hk.lt
    rw [e]
    intro hc
    injection hc with hc
    injection hc with hc
    injection hc with hc
    omega
  · intro h
    simp
theorem spc_8 {p s : BS} {w0 : World} {L : Nat → Bool} {v8 v9 v25 v26 v27 v28 v29 v30 v31 : Value} {w : World} (h9L : L 8 = false) (h : spCond p s w0 L v8 v9 v25 v26 v27 v28 v29 v30 v31 w) : spCond p s w0 (fun j => if j = 8 then true else L j) v8 (.pointer (some ⟨w.heap.size, 0, none⟩)) v25 v26 v27 v28 v29 v30 v31 (w.alloc (.cells (four (fun _ => 0)).toArray 43)) := by
  obtain ⟨hb0, h0, h1, h2, h3, h4, h5, h6, h7, h8, h9, h10, h11⟩ := h
  have hL9 : L 10 = false := by cases hh : L 10 with | false => rfl | true => rw [h11 hh] at h9L; cases h9L
  refine ⟨hb0.alloc hb0.size _, by simpa using h0, by simpa using h1, by simpa using h2, by simpa using h3, by simpa using h4, by simpa using h5, by simpa using h6, ?_, ?_, ?_, by simpa using h10, ?_⟩
  · intro h
    obtain ⟨A, e, hA, hk⟩ := h7 (by simpa using h)
    exact ⟨A, e, hA, by simpa using hk.alloc _⟩
  · intro _
    exact ⟨w.heap.size, rfl, hb0.size, by simpa [hL9] using Blk.fresh w 43 (four (fun _ => 0))⟩
  · intro h _
    obtain ⟨A, e, hA, hk⟩ := h7 (by simpa using h)
    have := hk.lt
    rw [e]
    intro hc
    injection hc with hc
    injection hc with hc
    injection hc with hc
    omega
  · intro h
    simp
theorem spc_9 {p s : BS} {w0 : World} {L : Nat → Bool} {v8 v9 v25 v26 v27 v28 v29 v30 v31 : Value} {w : World} {A : Nat} (h7L : L 7 = true) (e : v8 = .pointer (some ⟨A, 0, none⟩)) (hA : w0.heap.size ≤ A) {cs : List Value} (hk : Blk w A 43 cs) (h : spCond p s w0 L v8 v9 v25 v26 v27 v28 v29 v30 v31 w) : spCond p s w0 (fun j => if j = 9 then true else L j) v8 v9 v25 v26 v27 v28 v29 v30 v31 (w.setRow A (setL (p &&& s)).toArray) := by
  obtain ⟨hb0, h0, h1, h2, h3, h4, h5, h6, h7, h8, h9, h10, h11⟩ := h
  refine ⟨below_row hb0 hA _, by simpa using h0, by simpa using h1, by simpa using h2, by simpa using h3, by simpa using h4, by simpa using h5, by simpa using h6, ?_, ?_, by simpa using h9, fun _ => by simpa using h7L, by simpa using h11⟩
  · intro h
    exact ⟨A, e, hA, by simpa using blk_row hk (setL (p &&& s))⟩
  · intro h
    obtain ⟨B, e2, hB, hk2⟩ := h8 (by simpa using h)
    refine ⟨B, e2, hB, ?_⟩
    have hne : B ≠ A := by
      rintro rfl
      exact h9 h7L (by simpa using h) (by rw [e, e2])
    have hk3 : Blk (w.setRow A (setL (p &&& s)).toArray) B 43 _ := (setRow_other w A B (setL (p &&& s)).toArray hne).trans hk2
    simpa using hk3
theorem spc_10 {p s : BS} {w0 : World} {L : Nat → Bool} {v8 v9 v25 v26 v27 v28 v29 v30 v31 : Value} {w : World} {A : Nat} (h7L : L 8 = true) (e : v9 = .pointer (some ⟨A, 0, none⟩)) (hA : w0.heap.size ≤ A) {cs : List Value} (hk : Blk w A 43 cs) (h : spCond p s w0 L v8 v9 v25 v26 v27 v28 v29 v30 v31 w) : spCond p s w0 (fun j => if j = 10 then true else L j) v8 v9 v25 v26 v27 v28 v29 v30 v31 (w.setRow A (setL (p &&& ~~~s)).toArray) := by
  obtain ⟨hb0, h0, h1, h2, h3, h4, h5, h6, h7, h8, h9, h10, h11⟩ := h
  refine ⟨below_row hb0 hA _, by simpa using h0, by simpa using h1, by simpa using h2, by simpa using h3, by simpa using h4, by simpa using h5, by simpa using h6, ?_, ?_, by simpa using h9, by simpa using h10, fun _ => by simpa using h7L⟩
  · intro h
    obtain ⟨B, e2, hB, hk2⟩ := h7 (by simpa using h)
    refine ⟨B, e2, hB, ?_⟩
    have hne : B ≠ A := by
      rintro rfl
      exact h9 (by simpa using h) h7L (by rw [e, e2])
    have hk3 : Blk (w.setRow A (setL (p &&& ~~~s)).toArray) B 43 _ := (setRow_other w A B (setL (p &&& ~~~s)).toArray hne).trans hk2
    simpa using hk3
  · intro h
    exact ⟨A, e, hA, by simpa using blk_row hk (setL (p &&& ~~~s))⟩
end Go.Proofs.YtoiegkejkahfgaaDoor

/- class: Split's statement with two sets, as a region. -/
namespace Go.Proofs.YtoiegkejkahfgaaDoor
set_option linter.unusedVariables false
set_option linter.unusedSimpArgs false
open Go.RowKit

theorem wp_callF {P : Program} {o : Oper} {a : Act} {w : World} {K : Act → World → Prop} {Q : Exit → Act → World → Prop} (f : FuncId) (args : Array Operand) (tys : Array TypeId) (ho : o.op = .call { callee := .value (.func f), args := args, argTypes := tys })
    (he : ∀ args w, (callFunc f args).run P w = .ok (.enter f args) w) (vs : Array Value) (hvs : args.map a.eval = vs) (v : Value) (R : World → Prop) (h : Calls P f vs w fun e w' => e = .returned v ∧ R w') (hk : ∀ w', R w' → K (a.put o.dst v) w') : o.wp P a w K Q := by
  unfold Oper.wp
  have e : (execOp a.eval o).run P w = .ok (.enter f (args.map a.eval)) w := by
    unfold execOp
    simp only [ho]
    go_simp
  rw [e, Oper.upon_enter, hvs]
  refine h.mono ?_
  rintro _ w' ⟨rfl, hr⟩
  exact hk w' hr
theorem wp_allocSet {o : Oper} {a : Act} {w : World} {K : Act → World → Prop} {Q : Exit → Act → World → Prop} (ho : o.op = .alloc 43)
    (h : K (a.put o.dst (.pointer (some ⟨w.heap.size, 0, none⟩))) (w.alloc (.cells (four (fun _ => 0)).toArray 43))) : o.wp Tryd.prog a w K Q := by
  unfold Oper.wp
  have e : (execOp a.eval o).run Tryd.prog w = .ok (.value (.pointer (some ⟨w.heap.size, 0, none⟩))) (w.alloc (.cells (four (fun _ => 0)).toArray 43)) := by
    unfold execOp
    simp only [ho]
    go_simp
    rfl
  rw [e]
  exact h

def spFrame (b5 b7 : Nat) (x0 x1 x2 x3 x4 x6 x10 x11 x12 x13 x14 x15 x16 x17 x18 x19 x20 x21 x22 x23 x24 x32 x33 x34 x35 x36 x37 x38 x39 x40 x41 x42 x43 x44 x45 x46 x47 x48 x49 x50 v8 v9 v25 v26 v27 v28 v29 v30 v31 : Value) : Array Value := #[x0, x1, x2, x3, x4, .pointer (some ⟨b5, 0, none⟩), x6, .pointer (some ⟨b7, 0, none⟩), v8, v9, x10, x11, x12, x13, x14, x15, x16, x17, x18, x19, x20, x21, x22, x23, x24, v25, v26, v27, v28, v29, v30, v31, x32, x33, x34, x35, x36, x37, x38, x39, x40, x41, x42, x43, x44, x45, x46, x47, x48, x49, x50]
def spInv (p s : BS) (w0 : World) (b5 b7 : Nat) (x0 x1 x2 x3 x4 x6 x10 x11 x12 x13 x14 x15 x16 x17 x18 x19 x20 x21 x22 x23 x24 x32 x33 x34 x35 x36 x37 x38 x39 x40 x41 x42 x43 x44 x45 x46 x47 x48 x49 x50 : Value) (L : Nat → Bool) (a : Act) (w : World) : Prop :=
  a.defers = [] ∧ ∃ v8 v9 v25 v26 v27 v28 v29 v30 v31 : Value, a.tmps = spFrame b5 b7 x0 x1 x2 x3 x4 x6 x10 x11 x12 x13 x14 x15 x16 x17 x18 x19 x20 x21 x22 x23 x24 x32 x33 x34 x35 x36 x37 x38 x39 x40 x41 x42 x43 x44 x45 x46 x47 x48 x49 x50 v8 v9 v25 v26 v27 v28 v29 v30 v31 ∧ spCond p s w0 L v8 v9 v25 v26 v27 v28 v29 v30 v31 w

theorem sp_deps (dep : Nat → List Nat) (h : ((List.range spOps.size).all fun i => match spOps[i]? with | some o => (dep i).all fun d => o.after.any fun e => decide (e.on = d) && Region.binds .any e | none => true) = true) {i : Nat} {o : Oper} (ho : spOps[i]? = some o)
    {L : Nat → Bool} (haf : ∀ e ∈ o.after, Region.binds .any e = true → L e.on = true) : ∀ d ∈ dep i, L d = true := by
  intro d hd
  have h1 := List.all_eq_true.1 h i (List.mem_range.2 (Array.getElem?_eq_some_iff.1 ho).1)
  rw [ho] at h1
  have h2 := List.all_eq_true.1 h1 d hd
  obtain ⟨e, he, hb⟩ : ∃ e, e ∈ o.after ∧ (e.on = d ∧ Region.binds .any e = true) := by
    obtain ⟨n, hn, hb⟩ := Array.any_eq_true.1 h2
    simp only [Bool.and_eq_true, decide_eq_true_eq] at hb
    exact ⟨_, Array.getElem_mem hn, hb⟩
  rw [← hb.1]
  exact haf e he hb.2
def spDep : Nat → List Nat := fun i => match i with | 2 => [0, 1] | 5 => [4] | 6 => [3, 5] | 9 => [7, 2] | 10 => [8, 6] | _ => []

theorem sp_step0 {p s : BS} {w0 w1 : World} {b5 b7 : Nat} {x0 x1 x2 x3 x4 x6 x10 x11 x12 x13 x14 x15 x16 x17 x18 x19 x20 x21 x22 x23 x24 x32 x33 x34 x35 x36 x37 x38 x39 x40 x41 x42 x43 x44 x45 x46 x47 x48 x49 x50 : Value} {v8 v9 v25 v26 v27 v28 v29 v30 v31 : Value} (g5 : Blk w1 b5 43 (setL s)) (g7 : Blk w1 b7 43 (setL p)) {L : Nat → Bool} (hc : spCond p s w0 L v8 v9 v25 v26 v27 v28 v29 v30 v31 w1) (hLi : L 0 = false) (hdep : ∀ d ∈ spDep 0, L d = true)
    {o : Oper} (hdst : o.dst = some 25) (hop : o.op = .load 43 (.tmp 7)) {K : Act → World → Prop} {Q : Exit → Act → World → Prop} (hk : ∀ a' w', spInv p s w0 b5 b7 x0 x1 x2 x3 x4 x6 x10 x11 x12 x13 x14 x15 x16 x17 x18 x19 x20 x21 x22 x23 x24 x32 x33 x34 x35 x36 x37 x38 x39 x40 x41 x42 x43 x44 x45 x46 x47 x48 x49 x50 (fun j => if j = 0 then true else L j) a' w' → K a' w') :
    o.wp Tryd.prog ⟨spFrame b5 b7 x0 x1 x2 x3 x4 x6 x10 x11 x12 x13 x14 x15 x16 x17 x18 x19 x20 x21 x22 x23 x24 x32 x33 x34 x35 x36 x37 x38 x39 x40 x41 x42 x43 x44 x45 x46 x47 x48 x49 x50 v8 v9 v25 v26 v27 v28 v29 v30 v31, []⟩ w1 K Q := by
  refine wp_load_row 43 (.tmp 7) hop b7 rfl 43 (setL p).toArray (0, 0) (.array 4 22) g7 (by kernel_rfl) rfl (set_info _) ?_
  rw [hdst]
  exact hk _ _ ⟨rfl, _, _, _, _, _, _, _, _, _, rfl, spc_0 hc (Below.refl _ _)⟩

theorem sp_step1 {p s : BS} {w0 w1 : World} {b5 b7 : Nat} {x0 x1 x2 x3 x4 x6 x10 x11 x12 x13 x14 x15 x16 x17 x18 x19 x20 x21 x22 x23 x24 x32 x33 x34 x35 x36 x37 x38 x39 x40 x41 x42 x43 x44 x45 x46 x47 x48 x49 x50 : Value} {v8 v9 v25 v26 v27 v28 v29 v30 v31 : Value} (g5 : Blk w1 b5 43 (setL s)) (g7 : Blk w1 b7 43 (setL p)) {L : Nat → Bool} (hc : spCond p s w0 L v8 v9 v25 v26 v27 v28 v29 v30 v31 w1) (hLi : L 1 = false) (hdep : ∀ d ∈ spDep 1, L d = true)
    {o : Oper} (hdst : o.dst = some 26) (hop : o.op = .load 43 (.tmp 5)) {K : Act → World → Prop} {Q : Exit → Act → World → Prop} (hk : ∀ a' w', spInv p s w0 b5 b7 x0 x1 x2 x3 x4 x6 x10 x11 x12 x13 x14 x15 x16 x17 x18 x19 x20 x21 x22 x23 x24 x32 x33 x34 x35 x36 x37 x38 x39 x40 x41 x42 x43 x44 x45 x46 x47 x48 x49 x50 (fun j => if j = 1 then true else L j) a' w' → K a' w') :
    o.wp Tryd.prog ⟨spFrame b5 b7 x0 x1 x2 x3 x4 x6 x10 x11 x12 x13 x14 x15 x16 x17 x18 x19 x20 x21 x22 x23 x24 x32 x33 x34 x35 x36 x37 x38 x39 x40 x41 x42 x43 x44 x45 x46 x47 x48 x49 x50 v8 v9 v25 v26 v27 v28 v29 v30 v31, []⟩ w1 K Q := by
  refine wp_load_row 43 (.tmp 5) hop b5 rfl 43 (setL s).toArray (0, 0) (.array 4 22) g5 (by kernel_rfl) rfl (set_info _) ?_
  rw [hdst]
  exact hk _ _ ⟨rfl, _, _, _, _, _, _, _, _, _, rfl, spc_1 hc (Below.refl _ _)⟩

theorem sp_step2 {p s : BS} {w0 w1 : World} {b5 b7 : Nat} {x0 x1 x2 x3 x4 x6 x10 x11 x12 x13 x14 x15 x16 x17 x18 x19 x20 x21 x22 x23 x24 x32 x33 x34 x35 x36 x37 x38 x39 x40 x41 x42 x43 x44 x45 x46 x47 x48 x49 x50 : Value} {v8 v9 v25 v26 v27 v28 v29 v30 v31 : Value} (g5 : Blk w1 b5 43 (setL s)) (g7 : Blk w1 b7 43 (setL p)) {L : Nat → Bool} (hc : spCond p s w0 L v8 v9 v25 v26 v27 v28 v29 v30 v31 w1) (hLi : L 2 = false) (hdep : ∀ d ∈ spDep 2, L d = true)
    {o : Oper} (hdst : o.dst = some 27) (hop : o.op = .call { callee := .value (.func 24), args := #[.tmp 25, .tmp 26], argTypes := #[43, 43] }) {K : Act → World → Prop} {Q : Exit → Act → World → Prop} (hk : ∀ a' w', spInv p s w0 b5 b7 x0 x1 x2 x3 x4 x6 x10 x11 x12 x13 x14 x15 x16 x17 x18 x19 x20 x21 x22 x23 x24 x32 x33 x34 x35 x36 x37 x38 x39 x40 x41 x42 x43 x44 x45 x46 x47 x48 x49 x50 (fun j => if j = 2 then true else L j) a' w' → K a' w') :
    o.wp Tryd.prog ⟨spFrame b5 b7 x0 x1 x2 x3 x4 x6 x10 x11 x12 x13 x14 x15 x16 x17 x18 x19 x20 x21 x22 x23 x24 x32 x33 x34 x35 x36 x37 x38 x39 x40 x41 x42 x43 x44 x45 x46 x47 x48 x49 x50 v8 v9 v25 v26 v27 v28 v29 v30 v31, []⟩ w1 K Q := by
  have hl0 : L 0 = true := hdep 0 (by simp [spDep])
  have e0 : v25 = setV p := hc.2.1 hl0
  have hl1 : L 1 = true := hdep 1 (by simp [spDep])
  have e1 : v26 = setV s := hc.2.2.1 hl1
  refine wp_callF 24 _ _ hop enters_and #[v25, v26] ?_ (setV (p &&& s)) (fun w' => Below w1.heap.size w1 w') ?_ ?_
  · simp [Act.eval, spFrame]
  · rw [e0, e1]
    exact and_any p s w1
  · intro w2 hb2
    rw [hdst]
    exact hk _ _ ⟨rfl, _, _, _, _, _, _, _, _, _, rfl, spc_2 hc hb2⟩

theorem sp_step3 {p s : BS} {w0 w1 : World} {b5 b7 : Nat} {x0 x1 x2 x3 x4 x6 x10 x11 x12 x13 x14 x15 x16 x17 x18 x19 x20 x21 x22 x23 x24 x32 x33 x34 x35 x36 x37 x38 x39 x40 x41 x42 x43 x44 x45 x46 x47 x48 x49 x50 : Value} {v8 v9 v25 v26 v27 v28 v29 v30 v31 : Value} (g5 : Blk w1 b5 43 (setL s)) (g7 : Blk w1 b7 43 (setL p)) {L : Nat → Bool} (hc : spCond p s w0 L v8 v9 v25 v26 v27 v28 v29 v30 v31 w1) (hLi : L 3 = false) (hdep : ∀ d ∈ spDep 3, L d = true)
    {o : Oper} (hdst : o.dst = some 28) (hop : o.op = .load 43 (.tmp 7)) {K : Act → World → Prop} {Q : Exit → Act → World → Prop} (hk : ∀ a' w', spInv p s w0 b5 b7 x0 x1 x2 x3 x4 x6 x10 x11 x12 x13 x14 x15 x16 x17 x18 x19 x20 x21 x22 x23 x24 x32 x33 x34 x35 x36 x37 x38 x39 x40 x41 x42 x43 x44 x45 x46 x47 x48 x49 x50 (fun j => if j = 3 then true else L j) a' w' → K a' w') :
    o.wp Tryd.prog ⟨spFrame b5 b7 x0 x1 x2 x3 x4 x6 x10 x11 x12 x13 x14 x15 x16 x17 x18 x19 x20 x21 x22 x23 x24 x32 x33 x34 x35 x36 x37 x38 x39 x40 x41 x42 x43 x44 x45 x46 x47 x48 x49 x50 v8 v9 v25 v26 v27 v28 v29 v30 v31, []⟩ w1 K Q := by
  refine wp_load_row 43 (.tmp 7) hop b7 rfl 43 (setL p).toArray (0, 0) (.array 4 22) g7 (by kernel_rfl) rfl (set_info _) ?_
  rw [hdst]
  exact hk _ _ ⟨rfl, _, _, _, _, _, _, _, _, _, rfl, spc_3 hc (Below.refl _ _)⟩

theorem sp_step4 {p s : BS} {w0 w1 : World} {b5 b7 : Nat} {x0 x1 x2 x3 x4 x6 x10 x11 x12 x13 x14 x15 x16 x17 x18 x19 x20 x21 x22 x23 x24 x32 x33 x34 x35 x36 x37 x38 x39 x40 x41 x42 x43 x44 x45 x46 x47 x48 x49 x50 : Value} {v8 v9 v25 v26 v27 v28 v29 v30 v31 : Value} (g5 : Blk w1 b5 43 (setL s)) (g7 : Blk w1 b7 43 (setL p)) {L : Nat → Bool} (hc : spCond p s w0 L v8 v9 v25 v26 v27 v28 v29 v30 v31 w1) (hLi : L 4 = false) (hdep : ∀ d ∈ spDep 4, L d = true)
    {o : Oper} (hdst : o.dst = some 29) (hop : o.op = .load 43 (.tmp 5)) {K : Act → World → Prop} {Q : Exit → Act → World → Prop} (hk : ∀ a' w', spInv p s w0 b5 b7 x0 x1 x2 x3 x4 x6 x10 x11 x12 x13 x14 x15 x16 x17 x18 x19 x20 x21 x22 x23 x24 x32 x33 x34 x35 x36 x37 x38 x39 x40 x41 x42 x43 x44 x45 x46 x47 x48 x49 x50 (fun j => if j = 4 then true else L j) a' w' → K a' w') :
    o.wp Tryd.prog ⟨spFrame b5 b7 x0 x1 x2 x3 x4 x6 x10 x11 x12 x13 x14 x15 x16 x17 x18 x19 x20 x21 x22 x23 x24 x32 x33 x34 x35 x36 x37 x38 x39 x40 x41 x42 x43 x44 x45 x46 x47 x48 x49 x50 v8 v9 v25 v26 v27 v28 v29 v30 v31, []⟩ w1 K Q := by
  refine wp_load_row 43 (.tmp 5) hop b5 rfl 43 (setL s).toArray (0, 0) (.array 4 22) g5 (by kernel_rfl) rfl (set_info _) ?_
  rw [hdst]
  exact hk _ _ ⟨rfl, _, _, _, _, _, _, _, _, _, rfl, spc_4 hc (Below.refl _ _)⟩

theorem sp_step5 {p s : BS} {w0 w1 : World} {b5 b7 : Nat} {x0 x1 x2 x3 x4 x6 x10 x11 x12 x13 x14 x15 x16 x17 x18 x19 x20 x21 x22 x23 x24 x32 x33 x34 x35 x36 x37 x38 x39 x40 x41 x42 x43 x44 x45 x46 x47 x48 x49 x50 : Value} {v8 v9 v25 v26 v27 v28 v29 v30 v31 : Value} (g5 : Blk w1 b5 43 (setL s)) (g7 : Blk w1 b7 43 (setL p)) {L : Nat → Bool} (hc : spCond p s w0 L v8 v9 v25 v26 v27 v28 v29 v30 v31 w1) (hLi : L 5 = false) (hdep : ∀ d ∈ spDep 5, L d = true)
    {o : Oper} (hdst : o.dst = some 30) (hop : o.op = .call { callee := .value (.func 25), args := #[.tmp 29], argTypes := #[43] }) {K : Act → World → Prop} {Q : Exit → Act → World → Prop} (hk : ∀ a' w', spInv p s w0 b5 b7 x0 x1 x2 x3 x4 x6 x10 x11 x12 x13 x14 x15 x16 x17 x18 x19 x20 x21 x22 x23 x24 x32 x33 x34 x35 x36 x37 x38 x39 x40 x41 x42 x43 x44 x45 x46 x47 x48 x49 x50 (fun j => if j = 5 then true else L j) a' w' → K a' w') :
    o.wp Tryd.prog ⟨spFrame b5 b7 x0 x1 x2 x3 x4 x6 x10 x11 x12 x13 x14 x15 x16 x17 x18 x19 x20 x21 x22 x23 x24 x32 x33 x34 x35 x36 x37 x38 x39 x40 x41 x42 x43 x44 x45 x46 x47 x48 x49 x50 v8 v9 v25 v26 v27 v28 v29 v30 v31, []⟩ w1 K Q := by
  have hl4 : L 4 = true := hdep 4 (by simp [spDep])
  have e4 : v29 = setV s := hc.2.2.2.2.2.1 hl4
  refine wp_callF 25 _ _ hop enters_not #[v29] ?_ (setV (~~~s)) (fun w' => Below w1.heap.size w1 w') ?_ ?_
  · simp [Act.eval, spFrame]
  · rw [e4]
    exact not_any s w1
  · intro w2 hb2
    rw [hdst]
    exact hk _ _ ⟨rfl, _, _, _, _, _, _, _, _, _, rfl, spc_5 hc hb2⟩

theorem sp_step6 {p s : BS} {w0 w1 : World} {b5 b7 : Nat} {x0 x1 x2 x3 x4 x6 x10 x11 x12 x13 x14 x15 x16 x17 x18 x19 x20 x21 x22 x23 x24 x32 x33 x34 x35 x36 x37 x38 x39 x40 x41 x42 x43 x44 x45 x46 x47 x48 x49 x50 : Value} {v8 v9 v25 v26 v27 v28 v29 v30 v31 : Value} (g5 : Blk w1 b5 43 (setL s)) (g7 : Blk w1 b7 43 (setL p)) {L : Nat → Bool} (hc : spCond p s w0 L v8 v9 v25 v26 v27 v28 v29 v30 v31 w1) (hLi : L 6 = false) (hdep : ∀ d ∈ spDep 6, L d = true)
    {o : Oper} (hdst : o.dst = some 31) (hop : o.op = .call { callee := .value (.func 24), args := #[.tmp 28, .tmp 30], argTypes := #[43, 43] }) {K : Act → World → Prop} {Q : Exit → Act → World → Prop} (hk : ∀ a' w', spInv p s w0 b5 b7 x0 x1 x2 x3 x4 x6 x10 x11 x12 x13 x14 x15 x16 x17 x18 x19 x20 x21 x22 x23 x24 x32 x33 x34 x35 x36 x37 x38 x39 x40 x41 x42 x43 x44 x45 x46 x47 x48 x49 x50 (fun j => if j = 6 then true else L j) a' w' → K a' w') :
    o.wp Tryd.prog ⟨spFrame b5 b7 x0 x1 x2 x3 x4 x6 x10 x11 x12 x13 x14 x15 x16 x17 x18 x19 x20 x21 x22 x23 x24 x32 x33 x34 x35 x36 x37 x38 x39 x40 x41 x42 x43 x44 x45 x46 x47 x48 x49 x50 v8 v9 v25 v26 v27 v28 v29 v30 v31, []⟩ w1 K Q := by
  have hl3 : L 3 = true := hdep 3 (by simp [spDep])
  have e3 : v28 = setV p := hc.2.2.2.2.1 hl3
  have hl5 : L 5 = true := hdep 5 (by simp [spDep])
  have e5 : v30 = setV (~~~s) := hc.2.2.2.2.2.2.1 hl5
  refine wp_callF 24 _ _ hop enters_and #[v28, v30] ?_ (setV (p &&& ~~~s)) (fun w' => Below w1.heap.size w1 w') ?_ ?_
  · simp [Act.eval, spFrame]
  · rw [e3, e5]
    exact and_any p (~~~s) w1
  · intro w2 hb2
    rw [hdst]
    exact hk _ _ ⟨rfl, _, _, _, _, _, _, _, _, _, rfl, spc_6 hc hb2⟩

theorem sp_step7 {p s : BS} {w0 w1 : World} {b5 b7 : Nat} {x0 x1 x2 x3 x4 x6 x10 x11 x12 x13 x14 x15 x16 x17 x18 x19 x20 x21 x22 x23 x24 x32 x33 x34 x35 x36 x37 x38 x39 x40 x41 x42 x43 x44 x45 x46 x47 x48 x49 x50 : Value} {v8 v9 v25 v26 v27 v28 v29 v30 v31 : Value} (g5 : Blk w1 b5 43 (setL s)) (g7 : Blk w1 b7 43 (setL p)) {L : Nat → Bool} (hc : spCond p s w0 L v8 v9 v25 v26 v27 v28 v29 v30 v31 w1) (hLi : L 7 = false) (hdep : ∀ d ∈ spDep 7, L d = true)
    {o : Oper} (hdst : o.dst = some 8) (hop : o.op = .alloc 43) {K : Act → World → Prop} {Q : Exit → Act → World → Prop} (hk : ∀ a' w', spInv p s w0 b5 b7 x0 x1 x2 x3 x4 x6 x10 x11 x12 x13 x14 x15 x16 x17 x18 x19 x20 x21 x22 x23 x24 x32 x33 x34 x35 x36 x37 x38 x39 x40 x41 x42 x43 x44 x45 x46 x47 x48 x49 x50 (fun j => if j = 7 then true else L j) a' w' → K a' w') :
    o.wp Tryd.prog ⟨spFrame b5 b7 x0 x1 x2 x3 x4 x6 x10 x11 x12 x13 x14 x15 x16 x17 x18 x19 x20 x21 x22 x23 x24 x32 x33 x34 x35 x36 x37 x38 x39 x40 x41 x42 x43 x44 x45 x46 x47 x48 x49 x50 v8 v9 v25 v26 v27 v28 v29 v30 v31, []⟩ w1 K Q := by
  refine wp_allocSet hop ?_
  rw [hdst]
  exact hk _ _ ⟨rfl, _, _, _, _, _, _, _, _, _, rfl, spc_7 hc.2.2.2.2.2.2.2.2.2.2.2.1 hLi hc⟩

theorem sp_step8 {p s : BS} {w0 w1 : World} {b5 b7 : Nat} {x0 x1 x2 x3 x4 x6 x10 x11 x12 x13 x14 x15 x16 x17 x18 x19 x20 x21 x22 x23 x24 x32 x33 x34 x35 x36 x37 x38 x39 x40 x41 x42 x43 x44 x45 x46 x47 x48 x49 x50 : Value} {v8 v9 v25 v26 v27 v28 v29 v30 v31 : Value} (g5 : Blk w1 b5 43 (setL s)) (g7 : Blk w1 b7 43 (setL p)) {L : Nat → Bool} (hc : spCond p s w0 L v8 v9 v25 v26 v27 v28 v29 v30 v31 w1) (hLi : L 8 = false) (hdep : ∀ d ∈ spDep 8, L d = true)
    {o : Oper} (hdst : o.dst = some 9) (hop : o.op = .alloc 43) {K : Act → World → Prop} {Q : Exit → Act → World → Prop} (hk : ∀ a' w', spInv p s w0 b5 b7 x0 x1 x2 x3 x4 x6 x10 x11 x12 x13 x14 x15 x16 x17 x18 x19 x20 x21 x22 x23 x24 x32 x33 x34 x35 x36 x37 x38 x39 x40 x41 x42 x43 x44 x45 x46 x47 x48 x49 x50 (fun j => if j = 8 then true else L j) a' w' → K a' w') :
    o.wp Tryd.prog ⟨spFrame b5 b7 x0 x1 x2 x3 x4 x6 x10 x11 x12 x13 x14 x15 x16 x17 x18 x19 x20 x21 x22 x23 x24 x32 x33 x34 x35 x36 x37 x38 x39 x40 x41 x42 x43 x44 x45 x46 x47 x48 x49 x50 v8 v9 v25 v26 v27 v28 v29 v30 v31, []⟩ w1 K Q := by
  refine wp_allocSet hop ?_
  rw [hdst]
  exact hk _ _ ⟨rfl, _, _, _, _, _, _, _, _, _, rfl, spc_8 hLi hc⟩

theorem sp_step9 {p s : BS} {w0 w1 : World} {b5 b7 : Nat} {x0 x1 x2 x3 x4 x6 x10 x11 x12 x13 x14 x15 x16 x17 x18 x19 x20 x21 x22 x23 x24 x32 x33 x34 x35 x36 x37 x38 x39 x40 x41 x42 x43 x44 x45 x46 x47 x48 x49 x50 : Value} {v8 v9 v25 v26 v27 v28 v29 v30 v31 : Value} (g5 : Blk w1 b5 43 (setL s)) (g7 : Blk w1 b7 43 (setL p)) {L : Nat → Bool} (hc : spCond p s w0 L v8 v9 v25 v26 v27 v28 v29 v30 v31 w1) (hLi : L 9 = false) (hdep : ∀ d ∈ spDep 9, L d = true)
    {o : Oper} (hdst : o.dst = none) (hop : o.op = .store 43 (.tmp 8) (.tmp 27)) {K : Act → World → Prop} {Q : Exit → Act → World → Prop} (hk : ∀ a' w', spInv p s w0 b5 b7 x0 x1 x2 x3 x4 x6 x10 x11 x12 x13 x14 x15 x16 x17 x18 x19 x20 x21 x22 x23 x24 x32 x33 x34 x35 x36 x37 x38 x39 x40 x41 x42 x43 x44 x45 x46 x47 x48 x49 x50 (fun j => if j = 9 then true else L j) a' w' → K a' w') :
    o.wp Tryd.prog ⟨spFrame b5 b7 x0 x1 x2 x3 x4 x6 x10 x11 x12 x13 x14 x15 x16 x17 x18 x19 x20 x21 x22 x23 x24 x32 x33 x34 x35 x36 x37 x38 x39 x40 x41 x42 x43 x44 x45 x46 x47 x48 x49 x50 v8 v9 v25 v26 v27 v28 v29 v30 v31, []⟩ w1 K Q := by
  have hlo : L 7 = true := hdep 7 (by simp [spDep])
  have hls : L 2 = true := hdep 2 (by simp [spDep])
  have es : v27 = setV (p &&& s) := hc.2.2.2.1 hls
  obtain ⟨A, eA, hA, hkA⟩ := hc.2.2.2.2.2.2.2.2.1 hlo
  have hkA2 : ∃ cs : List Value, cs.length = 4 ∧ Blk w1 A 43 cs := by
    refine ⟨_, ?_, hkA⟩
    split <;> rfl
  obtain ⟨cs, hcs, hkB⟩ := hkA2
  refine wp_store_row 43 (.tmp 8) (.tmp 27) hop A (setL (p &&& s)).toArray ?_ ?_ 43 cs.toArray hkB (set_info _) (by show cs.length = 4; exact hcs) (four_one _) ?_
  · show v8 = _
    exact eA
  · show v27 = _
    rw [es]; rfl
  · rw [hdst]
    exact hk _ _ ⟨rfl, _, _, _, _, _, _, _, _, _, rfl, spc_9 hlo eA hA hkB hc⟩

theorem sp_step10 {p s : BS} {w0 w1 : World} {b5 b7 : Nat} {x0 x1 x2 x3 x4 x6 x10 x11 x12 x13 x14 x15 x16 x17 x18 x19 x20 x21 x22 x23 x24 x32 x33 x34 x35 x36 x37 x38 x39 x40 x41 x42 x43 x44 x45 x46 x47 x48 x49 x50 : Value} {v8 v9 v25 v26 v27 v28 v29 v30 v31 : Value} (g5 : Blk w1 b5 43 (setL s)) (g7 : Blk w1 b7 43 (setL p)) {L : Nat → Bool} (hc : spCond p s w0 L v8 v9 v25 v26 v27 v28 v29 v30 v31 w1) (hLi : L 10 = false) (hdep : ∀ d ∈ spDep 10, L d = true)
    {o : Oper} (hdst : o.dst = none) (hop : o.op = .store 43 (.tmp 9) (.tmp 31)) {K : Act → World → Prop} {Q : Exit → Act → World → Prop} (hk : ∀ a' w', spInv p s w0 b5 b7 x0 x1 x2 x3 x4 x6 x10 x11 x12 x13 x14 x15 x16 x17 x18 x19 x20 x21 x22 x23 x24 x32 x33 x34 x35 x36 x37 x38 x39 x40 x41 x42 x43 x44 x45 x46 x47 x48 x49 x50 (fun j => if j = 10 then true else L j) a' w' → K a' w') :
    o.wp Tryd.prog ⟨spFrame b5 b7 x0 x1 x2 x3 x4 x6 x10 x11 x12 x13 x14 x15 x16 x17 x18 x19 x20 x21 x22 x23 x24 x32 x33 x34 x35 x36 x37 x38 x39 x40 x41 x42 x43 x44 x45 x46 x47 x48 x49 x50 v8 v9 v25 v26 v27 v28 v29 v30 v31, []⟩ w1 K Q := by
  have hlo : L 8 = true := hdep 8 (by simp [spDep])
  have hls : L 6 = true := hdep 6 (by simp [spDep])
  have es : v31 = setV (p &&& ~~~s) := hc.2.2.2.2.2.2.2.1 hls
  obtain ⟨A, eA, hA, hkA⟩ := hc.2.2.2.2.2.2.2.2.2.1 hlo
  have hkA2 : ∃ cs : List Value, cs.length = 4 ∧ Blk w1 A 43 cs := by
    refine ⟨_, ?_, hkA⟩
    split <;> rfl
  obtain ⟨cs, hcs, hkB⟩ := hkA2
  refine wp_store_row 43 (.tmp 9) (.tmp 31) hop A (setL (p &&& ~~~s)).toArray ?_ ?_ 43 cs.toArray hkB (set_info _) (by show cs.length = 4; exact hcs) (four_one _) ?_
  · show v9 = _
    exact eA
  · show v31 = _
    rw [es]; rfl
  · rw [hdst]
    exact hk _ _ ⟨rfl, _, _, _, _, _, _, _, _, _, rfl, spc_10 hlo eA hA hkB hc⟩

theorem split_region {p s : BS} {w : World} {b5 b7 : Nat} (h5 : Blk w b5 43 (setL s)) (h7 : Blk w b7 43 (setL p)) {x0 x1 x2 x3 x4 x6 x10 x11 x12 x13 x14 x15 x16 x17 x18 x19 x20 x21 x22 x23 x24 x32 x33 x34 x35 x36 x37 x38 x39 x40 x41 x42 x43 x44 x45 x46 x47 x48 x49 x50 : Value} {v8 v9 v25 v26 v27 v28 v29 v30 v31 : Value} {Q : Exit → Act → World → Prop} {id : Nat}
    (hK : ∀ A B v25 v26 v27 v28 v29 v30 v31 w', Below w.heap.size w w' → A ≠ B → w.heap.size ≤ A → w.heap.size ≤ B → Blk w' A 43 (setL (p &&& s)) → Blk w' B 43 (setL (p &&& ~~~s)) →
      Q .normal ⟨spFrame b5 b7 x0 x1 x2 x3 x4 x6 x10 x11 x12 x13 x14 x15 x16 x17 x18 x19 x20 x21 x22 x23 x24 x32 x33 x34 x35 x36 x37 x38 x39 x40 x41 x42 x43 x44 x45 x46 x47 x48 x49 x50 (.pointer (some ⟨A, 0, none⟩)) (.pointer (some ⟨B, 0, none⟩)) v25 v26 v27 v28 v29 v30 v31, []⟩ w') :
    (Code.region id spOps true).wp Tryd.prog Q ⟨spFrame b5 b7 x0 x1 x2 x3 x4 x6 x10 x11 x12 x13 x14 x15 x16 x17 x18 x19 x20 x21 x22 x23 x24 x32 x33 x34 x35 x36 x37 x38 x39 x40 x41 x42 x43 x44 x45 x46 x47 x48 x49 x50 v8 v9 v25 v26 v27 v28 v29 v30 v31, []⟩ w := by
  refine wp_region_inv (by kernel_rfl) (spInv p s w.drew b5 b7 x0 x1 x2 x3 x4 x6 x10 x11 x12 x13 x14 x15 x16 x17 x18 x19 x20 x21 x22 x23 x24 x32 x33 x34 x35 x36 x37 x38 x39 x40 x41 x42 x43 x44 x45 x46 x47 x48 x49 x50) (wf_ops (by kernel_rfl)) ?_ ?_ ?_
  · refine ⟨rfl, v8, v9, v25, v26, v27, v28, v29, v30, v31, rfl, Below.refl _ _, ?_⟩
    have hs : spOps.size = 11 := rfl
    rw [hs]
    simp
  · intro L i o ho hLi haf a w1 hI K hk
    obtain ⟨hd, v8, v9, v25, v26, v27, v28, v29, v30, v31, ht, hc⟩ := hI
    obtain ⟨a_t, a_d⟩ := a
    obtain rfl : a_d = [] := hd
    obtain rfl : a_t = _ := ht
    have hb : Below w.heap.size w w1 := ⟨hc.1.os, hc.1.tape, hc.1.output, hc.1.size, hc.1.block⟩
    have g5 := h5.keep hb
    have g7 := h7.keep hb
    have hdep := sp_deps spDep (by kernel_rfl) ho haf
    clear haf
    have hs : spOps.size = 11 := rfl
    have hlt : i < 11 := hs ▸ (Array.getElem?_eq_some_iff.1 ho).1
    have hcases : i = 0 ∨ i = 1 ∨ i = 2 ∨ i = 3 ∨ i = 4 ∨ i = 5 ∨ i = 6 ∨ i = 7 ∨ i = 8 ∨ i = 9 ∨ i = 10 := by omega
    rcases hcases with rfl | rfl | rfl | rfl | rfl | rfl | rfl | rfl | rfl | rfl | rfl
    · have h1 : (spOps[0]?).map (·.dst) = some (some 25) := by kernel_rfl
      have h2 : (spOps[0]?).map (·.op) = some (.load 43 (.tmp 7)) := by kernel_rfl
      rw [ho] at h1 h2
      exact sp_step0 g5 g7 hc hLi hdep (Option.some.inj h1) (Option.some.inj h2) hk
    · have h1 : (spOps[1]?).map (·.dst) = some (some 26) := by kernel_rfl
      have h2 : (spOps[1]?).map (·.op) = some (.load 43 (.tmp 5)) := by kernel_rfl
      rw [ho] at h1 h2
      exact sp_step1 g5 g7 hc hLi hdep (Option.some.inj h1) (Option.some.inj h2) hk
    · have h1 : (spOps[2]?).map (·.dst) = some (some 27) := by kernel_rfl
      have h2 : (spOps[2]?).map (·.op) = some (.call { callee := .value (.func 24), args := #[.tmp 25, .tmp 26], argTypes := #[43, 43] }) := by kernel_rfl
      rw [ho] at h1 h2
      exact sp_step2 g5 g7 hc hLi hdep (Option.some.inj h1) (Option.some.inj h2) hk
    · have h1 : (spOps[3]?).map (·.dst) = some (some 28) := by kernel_rfl
      have h2 : (spOps[3]?).map (·.op) = some (.load 43 (.tmp 7)) := by kernel_rfl
      rw [ho] at h1 h2
      exact sp_step3 g5 g7 hc hLi hdep (Option.some.inj h1) (Option.some.inj h2) hk
    · have h1 : (spOps[4]?).map (·.dst) = some (some 29) := by kernel_rfl
      have h2 : (spOps[4]?).map (·.op) = some (.load 43 (.tmp 5)) := by kernel_rfl
      rw [ho] at h1 h2
      exact sp_step4 g5 g7 hc hLi hdep (Option.some.inj h1) (Option.some.inj h2) hk
    · have h1 : (spOps[5]?).map (·.dst) = some (some 30) := by kernel_rfl
      have h2 : (spOps[5]?).map (·.op) = some (.call { callee := .value (.func 25), args := #[.tmp 29], argTypes := #[43] }) := by kernel_rfl
      rw [ho] at h1 h2
      exact sp_step5 g5 g7 hc hLi hdep (Option.some.inj h1) (Option.some.inj h2) hk
    · have h1 : (spOps[6]?).map (·.dst) = some (some 31) := by kernel_rfl
      have h2 : (spOps[6]?).map (·.op) = some (.call { callee := .value (.func 24), args := #[.tmp 28, .tmp 30], argTypes := #[43, 43] }) := by kernel_rfl
      rw [ho] at h1 h2
      exact sp_step6 g5 g7 hc hLi hdep (Option.some.inj h1) (Option.some.inj h2) hk
    · have h1 : (spOps[7]?).map (·.dst) = some (some 8) := by kernel_rfl
      have h2 : (spOps[7]?).map (·.op) = some (.alloc 43) := by kernel_rfl
      rw [ho] at h1 h2
      exact sp_step7 g5 g7 hc hLi hdep (Option.some.inj h1) (Option.some.inj h2) hk
    · have h1 : (spOps[8]?).map (·.dst) = some (some 9) := by kernel_rfl
      have h2 : (spOps[8]?).map (·.op) = some (.alloc 43) := by kernel_rfl
      rw [ho] at h1 h2
      exact sp_step8 g5 g7 hc hLi hdep (Option.some.inj h1) (Option.some.inj h2) hk
    · have h1 : (spOps[9]?).map (·.dst) = some (none) := by kernel_rfl
      have h2 : (spOps[9]?).map (·.op) = some (.store 43 (.tmp 8) (.tmp 27)) := by kernel_rfl
      rw [ho] at h1 h2
      exact sp_step9 g5 g7 hc hLi hdep (Option.some.inj h1) (Option.some.inj h2) hk
    · have h1 : (spOps[10]?).map (·.dst) = some (none) := by kernel_rfl
      have h2 : (spOps[10]?).map (·.op) = some (.store 43 (.tmp 9) (.tmp 31)) := by kernel_rfl
      rw [ho] at h1 h2
      exact sp_step10 g5 g7 hc hLi hdep (Option.some.inj h1) (Option.some.inj h2) hk
  · intro L a w1 hL hI
    obtain ⟨hd, v8, v9, v25, v26, v27, v28, v29, v30, v31, ht, hc⟩ := hI
    obtain ⟨a_t, a_d⟩ := a
    obtain rfl : a_d = [] := hd
    obtain rfl : a_t = _ := ht
    have hb : Below w.heap.size w w1 := ⟨hc.1.os, hc.1.tape, hc.1.output, hc.1.size, hc.1.block⟩
    have hs : spOps.size = 11 := rfl
    rw [hs] at hL
    have l7 := hL 7 (by omega)
    have l8 := hL 8 (by omega)
    have l9 := hL 9 (by omega)
    have l10 := hL 10 (by omega)
    obtain ⟨A, eA, hA, hkA⟩ := hc.2.2.2.2.2.2.2.2.1 l7
    obtain ⟨B, eB, hB, hkB⟩ := hc.2.2.2.2.2.2.2.2.2.1 l8
    rw [l9, if_pos rfl] at hkA
    rw [l10, if_pos rfl] at hkB
    have hne := hc.2.2.2.2.2.2.2.2.2.2.1 l7 l8
    have hAB : A ≠ B := by
      rintro rfl
      exact hne (by rw [eA, eB])
    subst eA eB
    exact hK A B _ _ _ _ _ _ _ w1 hb hAB hA hB hkA hkB
end Go.Proofs.YtoiegkejkahfgaaDoor

/- class: the pieces, sorted by their least bytes. -/
namespace Go.Proofs.YtoiegkejkahfgaaDoor
set_option linter.unusedVariables false
set_option linter.unusedSimpArgs false
open Go.RowKit Go.Sort

theorem lea_lt (a b : BS) : ltOf lea a b = decide (firstN a < firstN b) := by
  unfold ltOf lea
  by_cases h : firstN a < firstN b
  · simp [h]; omega
  · simp [h]; omega
theorem lea_swo : SWO (ltOf lea) where
  irrefl x := by rw [lea_lt]; simp
  trans x y z h1 h2 := by rw [lea_lt] at *; simp at *; omega
  ntrans x y z h1 h2 := by rw [lea_lt] at *; simp at *; omega

theorem grown_of {w w' : World} (hb : Go.RowKit.Below w.heap.size w w') (hd : w.drawn ≤ w'.drawn) : ∃ q os, w' = grow (w.drewN q) os := by
  refine ⟨w'.drawn - w.drawn, w'.heap.extract w.heap.size w'.heap.size, ?_⟩
  obtain ⟨hp, tp, dr, os, out⟩ := w'
  have h1 := hb.os
  have h2 := hb.tape
  have h3 := hb.output
  have h4 := hb.size
  have h5 := hb.block
  simp only at h1 h2 h3 h4 h5 hd
  subst h1 h2 h3
  unfold grow World.drewN
  simp only [World.mk.injEq, and_true, true_and]
  refine ⟨?_, by omega⟩
  apply Array.ext
  · simp; omega
  · intro i hi hi2
    by_cases hlt : i < w.heap.size
    · rw [Array.getElem_append_left hlt]
      have := h5 i hlt
      rw [Array.getElem?_eq_getElem hi, Array.getElem?_eq_getElem hlt] at this
      exact Option.some.inj this
    · rw [Array.getElem_append_right (by omega)]
      simp only [Array.getElem_extract]
      congr 1
      omega

theorem below_sort {w : World} {base g n : Nat} (d : Array BS) (os : Array Obj) (hb : base ≤ g) (hg : g < w.heap.size) : Go.RowKit.Below base w (sortWorldK setL 4 w g 0 n d os) := by
  refine ⟨rfl, rfl, rfl, size_sortWorldK_c _ _ _ _ _ _ _ _, fun k hk => ?_⟩
  unfold sortWorldK grow putRowK putRow mapBlock
  simp only [Array.getElem?_append]
  rw [if_pos (by simp [ahead]; omega)]
  simp only [ahead, Array.getElem?_modify]
  rw [if_neg (by omega)]
  rfl

theorem holds_of_pcs {w : World} {base g n c : Nat} {ps : List BS} (h : w.ownsRow base 43 4 (.slice (some ⟨g, 0, none⟩) n c) n (flatS ps)) : HoldsK setL 4 w g 0 ps.toArray := by
  have hl : 4 * ps.length = n * 4 := by rw [← flatS_len]; exact h.1
  intro j hj
  have hj' : j < n * 4 := by simpa [size_flatK, hl, Nat.mul_comm] using hj
  have hj2 : j < ps.toArray.size * 4 := by simpa using hj
  rw [Nat.zero_add, h.cellAt j hj', get_flatK _ _ _ _ hj2]
  refine ⟨?_, h.frozenAt j⟩
  have hq : j / 4 < ps.length := by omega
  have e := flatS_get ps (j / 4) (j % 4) hq (Nat.mod_lt _ (by decide))
  rw [show j / 4 * 4 + j % 4 = j by omega] at e
  rw [e]
  have hs : ps.toArray[j / 4]! = ps[j / 4] := by simp [hq]
  rw [hs]
  have h4 := four_get (wd ps[j / 4]) (j % 4) (Nat.mod_lt _ (by decide))
  have h5 : (setL ps[j / 4])[j % 4]? = some (u64V (wd ps[j / 4] (j % 4))) := h4
  rw [List.getElem!_eq_getElem?_getD, h5]
  rfl
theorem rds_of_holds {w : World} {g : Nat} (d : Array BS) (hg : g < w.heap.size) (h : HoldsK setL 4 w g 0 d) : RdS w (some ⟨g, 0, none⟩) d.size d.toList := by
  refine ⟨by simp, fun _ => ⟨g, 0, rfl, hg, fun j hj => ?_⟩⟩
  have hj' : j < d.size := by simpa using hj
  have e : d[j]! = d.toList[j] := by simp [hj']
  have hc : ∀ i, i < 4 → w.cell? ⟨g, 0 + j * 4 + i, none⟩ = some (.int .u64 ((wd d.toList[j] i : Nat) : Int)) := by
    intro i hi
    rw [(h.cell hj' hi).1, e]
    have h5 : (setL d.toList[j])[i]? = some (u64V (wd d.toList[j] i)) := four_get (wd d.toList[j]) i hi
    rw [List.getElem!_eq_getElem?_getD, h5]
    rfl
  exact ⟨hc 0 (by decide), hc 1 (by decide), hc 2 (by decide), hc 3 (by decide)⟩

set_option maxRecDepth 20000 in
theorem sort_any {w : World} (hT : TabAt w) {base g n c : Nat} {ps : List BS} (hl : ps.length = n) (hP : w.ownsRow base 43 4 (.slice (some ⟨g, 0, none⟩) n c) n (flatS ps)) (h0 : 0 < base) (hn : n < 4611686018427387904) :
    Calls Tryd.prog 27 #[.slice (some ⟨g, 0, none⟩) n c, .func (.func 28) #[] #[]] w fun e w' =>
      e = .returned (.tuple #[]) ∧ ∃ qs : List BS, qs.length = n ∧ qs.Perm ps ∧ qs.Pairwise (fun a b => firstN a ≤ firstN b) ∧ RdS w' (some ⟨g, 0, none⟩) n qs ∧ Go.RowKit.Below base w w' := by
  have hlt := hP.lt g rfl
  have eg : ∀ args w, (callFunc 28 args).run Tryd.prog w = .ok (.enter 28 args) w := enters_of Tryd.func28 (by kernel_rfl) rfl
  have hH := holds_of_pcs hP
  have hcmp : CmpLays Tryd.prog 28 #[] setL 4 lea g 0 ps.toArray.size w := by
    intro m os dk hs x y
    have hT' : TabAt (sortWorldK setL 4 w g 0 m dk os) := fun i hi => (cell?_sortWorldK_other setL 4 w g 0 m dk os ⟨0, i, none⟩ (by simp; omega) (by simp; omega)).trans (hT i hi)
    exact (least_any x y hT').mono fun e w' ⟨he, hb, hd⟩ => ⟨he, grown_of hb hd⟩
  have hcon := AnyQ.slices_SortFunc Tryd.sortSets 4 Tryd.isAgg43 Tryd.sizeOf43 setL (fun _ => rfl) (fun x v hv => one_setL [x] v (by simpa [flatS] using hv)) lea lea_swo 28 #[] g 0 c ps.toArray w eg hcmp hH hlt.2 (by simpa [hl] using hn)
  have hsz : ps.toArray.size = n := by simpa using hl
  rw [hsz] at hcon
  refine Calls.mono hcon ?_
  rintro e w' ⟨rfl, d', m, os, hp, hs, rfl⟩
  have hd : d'.size = n := by rw [hp.1]; exact hsz
  refine ⟨rfl, d'.toList, by simpa using hd, ?_, ?_, ?_, below_sort d' os hlt.1 hlt.2⟩
  · have h3 := hp.2.2
    rw [show d'.extract 0 n = d' by rw [← hd]; simp, show ps.toArray.extract 0 n = ps.toArray by rw [← hsz]; simp] at h3
    simpa using h3
  · rw [List.pairwise_iff_getElem]
    intro i j hi hj hij
    have h3 := hs i j (Nat.zero_le _) hij (by simpa [hd] using hj)
    rw [lea_lt] at h3
    have e1 : d'[i]! = d'.toList[i] := by
      have : i < d'.size := by simpa using hi
      simp [this]
    have e2 : d'[j]! = d'.toList[j] := by
      have : j < d'.size := by simpa using hj
      simp [this]
    rw [e1, e2] at h3
    simp only [decide_eq_false_iff_not] at h3
    omega
  · have := rds_of_holds d' (lt_sortWorldK setL 4 w g 0 m d' os hlt.2) (holdsK_sortWorldK setL 4 w g 0 m _ d' os hlt.2 hH (by rw [hd, hsz]))
    rw [hd] at this
    exact this
end Go.Proofs.YtoiegkejkahfgaaDoor

/- class: Split. -/
namespace Go.Proofs.YtoiegkejkahfgaaDoor
set_option linter.unusedVariables false
set_option linter.unusedSimpArgs false
open Go.RowKit

theorem SetAt.range {w : World} {b o : Nat} {a : BS} (h : SetAt w b o a) : w.rangeAt b o (setL a) := by
  intro j v hj
  have hlt : j < 4 := (List.getElem?_eq_some_iff.1 hj).1
  have : j = 0 ∨ j = 1 ∨ j = 2 ∨ j = 3 := by omega
  obtain ⟨h0, h1, h2, h3⟩ := h
  rcases this with rfl | rfl | rfl | rfl
  · injection hj with hj; subst hj; exact h0
  · injection hj with hj; subst hj; exact h1
  · injection hj with hj; subst hj; exact h2
  · injection hj with hj; subst hj; exact h3
/-- The pieces as a row that the call owns. -/
def Pcs (w : World) (base g n c : Nat) (ps : List BS) : Prop := ps.length = n ∧ w.ownsRow base 43 4 (.slice (some ⟨g, 0, none⟩) n c) n (flatS ps)
theorem Pcs.lt {w : World} {base g n c : Nat} {ps : List BS} (h : Pcs w base g n c ps) : base ≤ g ∧ g < w.heap.size := h.2.lt g rfl
theorem Pcs.below {w w' : World} {B base g n c : Nat} {ps : List BS} (h : Pcs w base g n c ps) (hb : Below B w w') (hB : w.heap.size ≤ B) : Pcs w' base g n c ps :=
  ⟨h.1, h.2.kept (row := none) ⟨hb.os, hb.tape, hb.output, hb.size, fun k hk _ => hb.block k (by omega)⟩ (by simp [Value.ownBlock])⟩
def OldAt (w : World) (g : Nat) (ps : List BS) (j : Nat) : Prop := g < w.heap.size ∧ ∀ i (h : i < ps.length), j ≤ i → SetAt w g (i * 4) ps[i]
theorem OldAt.below {w w' : World} {B g j : Nat} {ps : List BS} (h : OldAt w g ps j) (hb : Below B w w') (hB : w.heap.size ≤ B) : OldAt w' g ps j :=
  ⟨Nat.lt_of_lt_of_le h.1 hb.size, fun i hi hj => (h.2 i hi hj).block (hb.block g (by have := h.1; omega))⟩
theorem Pcs.old {w : World} {base g n c : Nat} {ps : List BS} (h : Pcs w base g n c ps) : OldAt w g ps 0 := by
  refine ⟨h.lt.2, fun i hi _ => ?_⟩
  obtain ⟨b, o, e, _, hc⟩ := (RdS.of_own h.2).2 (by have := h.1; omega)
  injection e with e
  injection e with e1 e2 e3
  have := hc i hi
  rw [← e1, ← e2, Nat.zero_add] at this
  exact this

set_option maxRecDepth 20000 in
set_option maxHeartbeats 4000000 in
theorem split_walk {w : World} {A : Option Addr} {n cap : Nat} {l : List BS} (hT : TabAt w) (hR : RdS w A n l) (hn : n ≤ 9223372036854775807) (hsz : ∀ k, k ≤ n → (pieceS (l.take k)).length ≤ 1048576) :
    Calls Tryd.prog 9 #[.slice A n cap] w fun e w' => ∃ A' c' qs, e = .returned (.slice A' qs.length c') ∧ qs.Perm (pieceS l) ∧ qs.Pairwise (fun a b => firstN a ≤ firstN b) ∧ RdS w' A' qs.length qs ∧ Below w.heap.size w w' ∧ qs.length ≤ c' := by
  obtain ⟨U, hU⟩ : ∃ U : BS, U = ~~~(0#256) := ⟨_, rfl⟩
  have HN := hid (fun W => all_any W)
  rw [← hU] at HN
  have HU := hid hU
  have HSZ := hid hsz
  have HL := hid hR.1
  clear hU hsz
  have HE := hid (fun a W => empty_any a W)
  have HR := hid hR
  have HT0 := hid hT
  clear hR hT
  go_enter Tryd.func9, Tryd.ntmps9
  go_wp2_with fail
  refine (HN.out _).mono ?_
  rintro e w1 ⟨rfl, hb1⟩
  unfold setV
  go_wp2_with fail
  have hB0 := hb1.alloc hb1.size (.cells (setL U).toArray 43)
  have HP0 : Pcs (w1.alloc (.cells (setL U).toArray 43)) w.heap.size w1.heap.size 1 1 (pieceS (l.take 0)) := by
    refine ⟨rfl, ?_⟩
    have := World.ownsRow_lit (base := w.heap.size) (e := 43) (size := 4) w1 (setL U).toArray 1 hb1.size (by decide) rfl
    have e : flatS (pieceS (l.take 0)) = (setL U).toArray.toList := by rw [HU.out]; simp [pieceS, flatS]
    rw [e]
    exact this
  change Code.wp _ _ _ _ (w1.alloc (.cells (setL U).toArray 43))
  generalize w1.alloc (.cells (setL U).toArray 43) = w2 at *
  go_loopw [3, 14] (fun v i wr => ∃ k : Nat, k ≤ n ∧ i = .int .i64 k ∧ ∃ c m g, v = .slice (some ⟨g, 0, none⟩) m c ∧ Hid (Pcs wr w.heap.size g m c (pieceS (l.take k))) ∧ Below w.heap.size w wr) (fun _ i _ => n - (intOf i).toNat)
  case atStart => exact ⟨0, Nat.zero_le _, rfl, 1, 1, _, rfl, hid HP0, hB0⟩
  case round =>
    obtain ⟨k, hk, rfl, c, m, g, rfl, HP, hbk⟩ := hrel
    by_cases hlt : k < n
    · have hl : k < l.length := by rw [HL.out]; exact hlt
      obtain ⟨b, o, rfl, hbl, hcell⟩ := HR.out.2 (by omega)
      have hrange := ((hcell k hl).block (hbk.block b hbl)).range
      have HT := hid (pieceS_take l k hl)
      have hm : m ≤ 1048576 := by have := HSZ.out k hk; have h2 := HP.out.1; omega
      clear hcell
      generalize l[k] = s at *
      generalize pieceS (l.take k) = ps at *
      go_wp2_with (first
        | refine wpList_load_mid rfl 43 _ rfl b (o + k * 4) rfl (setL s) (.array 4 22) hrange (by kernel_rfl) rfl (set_info _) ?_
        | refine wpList_store_row rfl 43 _ _ rfl wr.heap.size (setL s).toArray rfl rfl 43 #[.int .u64 0, .int .u64 0, .int .u64 0, .int .u64 0] (heap_alloc_new wr _) (set_info _) rfl (four_one _) ?_)
      have hb3 : Below wr.heap.size wr ((wr.alloc (.cells #[.int .u64 0, .int .u64 0, .int .u64 0, .int .u64 0] 43)).setRow wr.heap.size (setL s).toArray) := below_row ((Below.refl _ _).alloc (Nat.le_refl _) _) (Nat.le_refl _) _
      have h5 : Blk ((wr.alloc (.cells #[.int .u64 0, .int .u64 0, .int .u64 0, .int .u64 0] 43)).setRow wr.heap.size (setL s).toArray) wr.heap.size 43 (setL s) := setRow_heap _ _ _ _ _ (0, 0) (heap_alloc_new wr _)
      generalize (wr.alloc (.cells #[.int .u64 0, .int .u64 0, .int .u64 0, .int .u64 0] 43)).setRow wr.heap.size (setL s).toArray = w3 at *
      have hb5 : wr.heap.size < w3.heap.size := h5.lt
      have HP3 := hid (HP.out.below hb3 (Nat.le_refl _))
      have hg := HP.out.lt
      have hbk3 := hbk.trans (hb3.mono hbk.size)
      have HO3 := hid HP3.out.old
      have H5 := hid h5
      have hwr := hbk.size
      generalize wr.heap.size = b5 at *
      clear hb3 h5 HP hrange hbk
      have hgb : g ≠ b5 := by omega
      have hpl : ps.length = m := HP3.out.1
      go_loopw [3, 20] (fun v i wr => ∃ j : Nat, j ≤ m ∧ i = .int .i64 j ∧ ∃ c' m' g', v = .slice (some ⟨g', 0, none⟩) m' c' ∧ Hid (Pcs wr w.heap.size g' m' c' (curS s ps j)) ∧ Hid (OldAt wr g ps j) ∧ Hid (Blk wr b5 43 (setL s)) ∧ Hid (g' ≠ b5) ∧ Below w.heap.size w wr) (fun _ i _ => m - (intOf i).toNat)
      case atStart => exact ⟨0, Nat.zero_le _, rfl, c, m, g, rfl, by rw [curS_zero]; exact HP3, HO3, H5, hid hgb, hbk3⟩
      case round =>
        clear HP3 HO3 H5 hgb hbk3
        obtain ⟨j, hj, rfl, c', m', g', rfl, HP, HO, H5, HG, hbj⟩ := hrel
        have hml := HP.out.1
        by_cases hjm : j < m
        · have hjp : j < ps.length := by omega
          have hrange := (HO.out.2 j hjp (Nat.le_refl _)).range
          have HC0 := hid (curS_keep s ps j hjp)
          have HC1 := hid (curS_cut s ps j hjp)
          have HJ := hid (curS_get s ps j j (Nat.le_refl _) hjp)
          generalize hp : ps[j] = p at *
          go_wp2_with (first
            | refine wpList_load_mid rfl 43 _ rfl g (j * 4) rfl (setL p) (.array 4 22) hrange (by kernel_rfl) rfl (set_info _) ?_
            | refine wpList_store_row rfl 43 _ _ rfl wr.heap.size (setL p).toArray rfl rfl 43 #[.int .u64 0, .int .u64 0, .int .u64 0, .int .u64 0] (heap_alloc_new wr _) (set_info _) rfl (four_one _) ?_)
          have hb3 : Below wr.heap.size wr ((wr.alloc (.cells #[.int .u64 0, .int .u64 0, .int .u64 0, .int .u64 0] 43)).setRow wr.heap.size (setL p).toArray) := below_row ((Below.refl _ _).alloc (Nat.le_refl _) _) (Nat.le_refl _) _
          have h7 : Blk ((wr.alloc (.cells #[.int .u64 0, .int .u64 0, .int .u64 0, .int .u64 0] 43)).setRow wr.heap.size (setL p).toArray) wr.heap.size 43 (setL p) := setRow_heap _ _ _ _ _ (0, 0) (heap_alloc_new wr _)
          generalize (wr.alloc (.cells #[.int .u64 0, .int .u64 0, .int .u64 0, .int .u64 0] 43)).setRow wr.heap.size (setL p).toArray = w4 at *
          have hb7 : wr.heap.size < w4.heap.size := h7.lt
          have HP4 := hid (HP.out.below hb3 (Nat.le_refl _))
          have hg' := HP.out.lt
          have hbj4 := hbj.trans (hb3.mono hbj.size)
          have HO4 := hid (HO.out.below hb3 (Nat.le_refl _))
          have hb5' := H5.out.lt
          have H54 := hid (H5.out.keep hb3)
          have hwr2 := hbj.size
          have hgg := HO.out.1
          have hg'4 := HP4.out.lt
          generalize wr.heap.size = b7 at *
          clear hb3 HP HO H5 hrange hbj
          refine split_region H54.out h7 ?_
          intro A B v25 v26 v27 v28 v29 v30 v31 w5 hb5w hAB hA hB hkA hkB
          have hbA := hkA.lt
          have hbB := hkB.lt
          have HP5 := hid (HP4.out.below hb5w (Nat.le_refl _))
          have HO5 := hid (HO4.out.below hb5w (Nat.le_refl _))
          have H55 := hid (H54.out.keep hb5w)
          have HKA := hid hkA
          have HKB := hid hkB
          have hbj5 := hbj4.trans (hb5w.mono hbj4.size)
          have hs45 := hb5w.size
          clear hb5w HP4 HO4 H54 h7 hkA hkB hbj4
          unfold spFrame
          have hrA : w5.rangeAt A 0 (setL (p &&& s)) := fun j v hj => by rw [Nat.zero_add, cell_of_row w5 A j _ _ _ HKA.out]; simpa using hj
          have hrB : w5.rangeAt B 0 (setL (p &&& ~~~s)) := fun j v hj => by rw [Nat.zero_add, cell_of_row w5 B j _ _ _ HKB.out]; simpa using hj
          go_wp2_with (first
            | refine wpList_load_mid rfl 43 _ rfl A 0 rfl (setL (p &&& s)) (.array 4 22) hrA (by kernel_rfl) rfl (set_info _) ?_)
          refine (HE.out (p &&& s) w5).mono ?_
          rintro e w6 ⟨he, hb6⟩
          have HP6 := hid (HP5.out.below hb6 (Nat.le_refl _))
          have HO6 := hid (HO5.out.below hb6 (Nat.le_refl _))
          have H56 := hid (H55.out.keep hb6)
          have HKA6 := hid (HKA.out.keep hb6)
          have HKB6 := hid (HKB.out.keep hb6)
          have hbj6 := hbj5.trans (hb6.mono hbj5.size)
          have hs56 := hb6.size
          clear hb6 HP5 HO5 H55 HKA HKB hbj5 hrA hrB
          have hrB : w6.rangeAt B 0 (setL (p &&& ~~~s)) := fun j v hj => by rw [Nat.zero_add, cell_of_row w6 B j _ _ _ HKB6.out]; simpa using hj
          by_cases h1 : p &&& s = 0#256
          · rw [decide_eq_true h1] at he
            subst he
            have hc0 : cuts s p = false := by simp [cuts, h1]
            go_wp2_with fail
            go_roundw
            case rel => exact ⟨j + 1, by omega, by go_num, c', m', g', rfl, by rw [HC0.out hc0]; exact HP6, hid ⟨HO6.out.1, fun i hi hji => HO6.out.2 i hi (by omega)⟩, H56, HG, hbj6⟩
            case measure => simp [intOf]; omega
          · rw [decide_eq_false h1] at he
            subst he
            obtain ⟨hd0, hd1, hd2, hd3⟩ := HKB6.out.cells4
            go_wp2_with fail
            refine (HE.out (p &&& ~~~s) w6).mono ?_
            rintro e w7 ⟨he, hb7'⟩
            have HP7 := hid (HP6.out.below hb7' (Nat.le_refl _))
            have HO7 := hid (HO6.out.below hb7' (Nat.le_refl _))
            have H57 := hid (H56.out.keep hb7')
            have HKA7 := hid (HKA6.out.keep hb7')
            have HKB7 := hid (HKB6.out.keep hb7')
            have hbj7 := hbj6.trans (hb7'.mono hbj6.size)
            have hs67 := hb7'.size
            clear hb7' HP6 HO6 H56 HKA6 HKB6 hbj6 hrB hd0 hd1 hd2 hd3
            by_cases h2 : p &&& ~~~s = 0#256
            · rw [decide_eq_true h2] at he
              subst he
              have hc0 : cuts s p = false := by simp [cuts, h2]
              go_wp2_with fail
              go_roundw
              case rel => exact ⟨j + 1, by omega, by go_num, c', m', g', rfl, by rw [HC0.out hc0]; exact HP7, hid ⟨HO7.out.1, fun i hi hji => HO7.out.2 i hi (by omega)⟩, H57, HG, hbj7⟩
              case measure => simp [intOf]; omega
            · rw [decide_eq_false h2] at he
              subst he
              have HC := hid (HC1.out ((cuts_iff s p).2 ⟨h1, h2⟩))
              clear HC0 HC1
              have hjm' : j < m' := by have := curS_len s ps j; omega
              have hjl : j < (curS s ps j).length := by omega
              have hth : w7.there g' (j * 4) (setL (p &&& s)).toArray.size := own_there HP7.out.2 j hjl
              have hrA : w7.rangeAt A 0 (setL (p &&& s)) := fun j v hj => by rw [Nat.zero_add, cell_of_row w7 A j _ _ _ HKA7.out]; simpa using hj
              obtain ⟨hO8, hG8⟩ := own_set HP7.out.2 j (p &&& s) hjl
              have HO8 := hid hO8
              have h58 := (hG8.block b5 H57.out.lt (by have := HG.out; simpa using this.symm)).trans H57.out
              have hB8 := (hG8.block B HKB7.out.lt (by simp; omega)).trans HKB7.out
              have hbj8 := below_own hbj7 hG8 hg'.1 hbj7.size
              have hK8 : ∀ i (h : i < ps.length), j + 1 ≤ i → SetAt (w7.setCells g' (j * 4) (setL (p &&& s))) g (i * 4) ps[i] := by
                intro i hi hji
                by_cases hgq : g = g'
                · subst hgq
                  obtain ⟨_, hrd⟩ := RdS.of_own hO8
                  obtain ⟨b', o', e, _, hc⟩ := hrd (by omega)
                  injection e with e
                  injection e with e1 e2 e3
                  have := hc i (by rw [List.length_set]; have := curS_len s ps j; omega)
                  rw [← e1, ← e2, Nat.zero_add, List.getElem_set_ne (by omega)] at this
                  have h3 := curS_get s ps j i (by omega) hi
                  rw [(List.getElem?_eq_some_iff.1 h3).2] at this
                  exact this
                · exact (HO7.out.2 i hi (by omega)).block (hG8.block g HO7.out.1 (by simpa using hgq))
              have HK8 := hid hK8
              have hs78 := hG8.size
              have H58 : Hid (Blk (w7.setCells g' (j * 4) (setL (p &&& s))) b5 43 (setL s)) := hid h58
              have HB8 : Hid (Blk (w7.setCells g' (j * 4) (setL (p &&& s))) B 43 (setL (p &&& ~~~s))) := hid hB8
              clear hO8 hG8 h58 hB8 hK8
              obtain ⟨hd0, hd1, hd2, hd3⟩ := HB8.out.cells4
              have hm'2 : m' ≤ 2097152 := by have := curS_le s ps j; omega
              have hsz8 := hbj8.size
              go_wp2_with (first
                | refine wpList_load_mid rfl 43 _ rfl A 0 rfl (setL (p &&& s)) (.array 4 22) hrA (by kernel_rfl) rfl (set_info _) ?_
                | (refine wpList_store_mid rfl 43 _ _ rfl g' (j * 4) (setL (p &&& s)).toArray ?_ ?_ hth ?_ ?_ ?_; exact rfl; exact rfl; exact set_info _; exact four_one _; change wpList _ _ _ _ _ (w7.setCells g' (j * 4) (setL (p &&& s))); generalize w7.setCells g' (j * 4) (setL (p &&& s)) = w8 at *)
                | (at_builtin
                   go_loud (refine wpList_appS rfl (.tmp 42) (.tmp 44) rfl w.heap.size g' m' c' ((curS s ps j).set j (p &&& s)) ?_ (HO8.out.alloc _) w8.heap.size 1 (p &&& ~~~s) ?_ (Blk.fresh w8 43 (setL (p &&& ~~~s))) (by omega) (by rw [World.size_alloc]; omega) ?_)
                   exact rfl
                   exact rfl
                   intro g8 c8 w9 HO9 hg9 hgg9 HK9
                   have HB9 := hid (hg9.block)
                   have hs89 : w8.heap.size + 1 ≤ w9.heap.size := by have := hg9.size; rw [World.size_alloc] at this; exact this
                   have hbj9 := below_own (hbj8.alloc hbj8.size _) hg9 hg'.1 (by rw [World.size_alloc]; omega)))
              have HP9 : Hid (Pcs w9 w.heap.size g8 (m' + 1) c8 (curS s ps (j + 1))) := hid ⟨by rw [HC.out, List.length_append, List.length_set]; simp; omega, by rw [HC.out]; exact HO9.out⟩
              have HO9 : Hid (OldAt w9 g ps (j + 1)) := hid ⟨by omega, fun i hi hji => by
                refine HK9.out g i ps[i] (by have := curS_len s ps j; omega) (by simp; omega) (fun _ => ?_) ((HK8.out i hi hji).block (heap_alloc_old w8 _ (by omega)))
                rw [List.getElem?_set_ne (by omega)]
                exact curS_get s ps j i (by omega) hi⟩
              have H59 : Hid (Blk w9 b5 43 (setL s)) := hid ((HB9.out b5 (by simp; omega) (by have := HG.out; simpa using this.symm)).trans (H58.out.alloc _))
              have HG9 : Hid (g8 ≠ b5) := hid (by
                rcases hgg9 with rfl | rfl
                · exact HG.out
                · simp; omega)
              clear HB9 HK9 HO8 HK8 HB8 H58 hd0 hd1 hd2 hd3 hrA hth hgg9
              go_wp2_with fail
              go_roundw
              case rel => exact ⟨j + 1, by omega, by go_num, c8, m' + 1, g8, rfl, HP9, HO9, H59, HG9, hbj9⟩
              case measure => simp [intOf]; omega
        · have hjm' : j = m := by omega
          rw [hjm', ← hpl, curS_all, ← HT.out] at HP
          clear HO H5 HG
          go_wp2_with fail
          go_roundw
          case rel => exact ⟨k + 1, by omega, by go_num, c', m', g', rfl, HP, hbj⟩
          case measure => simp [intOf]; omega
    · obtain rfl : k = n := by omega
      have HP2 : Hid (Pcs wr w.heap.size g m c (pieceS l)) := by
        have := HP
        rw [List.take_of_length_le (by rw [HL.out]; exact Nat.le_refl _)] at this
        exact this
      have HMC : Hid (m ≤ c) := hid (by
        rcases HP2.out.2.2 with ⟨h1, _⟩ | ⟨g', cap', cur, hv, _, _, hnc, _⟩
        · cases h1
        · simp only [Value.slice.injEq] at hv
          omega)
      have hm : m ≤ 1048576 := by have := HSZ.out k (Nat.le_refl _); have h2 := HP.out.1; omega
      go_wp2_with fail
      refine (sort_any (HT0.out.keep hbk) HP2.out.1 HP2.out.2 HT0.out.lt (by omega)).mono ?_
      rintro e w' ⟨rfl, qs, hq, hperm, hsort, hrd, hb⟩
      have hbw := hbk.trans hb
      clear hbk hb
      go_wp2_with fail
      go_ret
      subst hq
      exact ⟨_, _, qs, rfl, hperm, hsort, hrd, hbw, HMC.out⟩
end Go.Proofs.YtoiegkejkahfgaaDoor
