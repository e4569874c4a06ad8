/- class: Split's statement with two sets. -/
import Derived.Test.YtmfgbhlfbpmmjaaDoorRowS
import Derived.Test.YtmfgbhlfbpmmjaaDoorInv
import Derived.Laws.Tables
namespace Go.Proofs.YtmfgbhlfbpmmjaaDoor
open Go.RowKit

theorem wf_ops {ops : Array Oper} (h : ((List.range ops.size).all fun i => match ops[i]? with | some o => o.guard.isNone && o.after.all (fun e => decide (e.on < i)) | none => true) = true) :
    ∀ (i : Nat) (o : Oper), ops[i]? = some o → o.guard = none ∧ ∀ e ∈ o.after, e.on < i := by
  intro i o ho
  have hlt := (Array.getElem?_eq_some_iff.1 ho).1
  have := List.all_eq_true.1 h i (List.mem_range.2 hlt)
  rw [ho] at this
  simp only [Bool.and_eq_true, Option.isNone_iff_eq_none, Array.all_eq_true_iff_forall_mem, decide_eq_true_eq] at this
  exact this
theorem enters_and : ∀ args w, (callFunc 20 args).run Tryd.prog w = .ok (.enter 20 args) w := enters_of Tryd.func20 (by kernel_rfl) rfl
theorem enters_not : ∀ args w, (callFunc 35 args).run Tryd.prog w = .ok (.enter 35 args) w := enters_of Tryd.func35 (by kernel_rfl) rfl

def spOps : Array Oper := #[{ dst := some 25, op := Op.load 26 (Operand.tmp 7), type := 26, pos := "class.go:120", after := #[], guard := none }, { dst := some 26, op := Op.load 26 (Operand.tmp 5), type := 26, pos := "class.go:120", after := #[], guard := none }, { dst := some 27, op := Op.call { callee := Callee.value (Operand.func 20), args := #[Operand.tmp 25, Operand.tmp 26], argTypes := #[26, 26] }, type := 26, pos := "class.go:120", after := #[{ on := 0, ground := Ground.data }, { on := 1, ground := Ground.data }], guard := none }, { dst := some 28, op := Op.load 26 (Operand.tmp 7), type := 26, pos := "class.go:120", after := #[], guard := none }, { dst := some 29, op := Op.load 26 (Operand.tmp 5), type := 26, pos := "class.go:120", after := #[], guard := none }, { dst := some 30, op := Op.call { callee := Callee.value (Operand.func 35), args := #[Operand.tmp 29], argTypes := #[26] }, type := 26, pos := "class.go:120", after := #[{ on := 4, ground := Ground.data }, { on := 2, ground := Ground.chain }], guard := none }, { dst := some 31, op := Op.call { callee := Callee.value (Operand.func 20), args := #[Operand.tmp 28, Operand.tmp 30], argTypes := #[26, 26] }, type := 26, pos := "class.go:120", after := #[{ on := 3, ground := Ground.data }, { on := 5, ground := Ground.data }, { on := 5, ground := Ground.chain }], guard := none }, { dst := some 8, op := Op.alloc 26, type := 0, pos := "class.go:120", after := #[], guard := none }, { dst := some 9, op := Op.alloc 26, type := 0, pos := "class.go:120", after := #[], guard := none }, { dst := none, op := Op.store 26 (Operand.tmp 8) (Operand.tmp 27), type := 0, pos := "class.go:120", after := #[{ on := 7, ground := Ground.data }, { on := 2, ground := Ground.data }, { on := 6, ground := Ground.chain }, { on := 0, ground := Ground.phase }, { on := 1, ground := Ground.phase }, { on := 2, ground := Ground.phase }, { on := 3, ground := Ground.textOnly Departure.lateStores }, { on := 4, ground := Ground.textOnly Departure.lateStores }, { on := 5, ground := Ground.textOnly Departure.lateStoresUnsure }, { on := 6, ground := Ground.textOnly Departure.lateStoresUnsure }, { on := 7, ground := Ground.phase }, { on := 8, ground := Ground.phase }], guard := none }, { dst := none, op := Op.store 26 (Operand.tmp 9) (Operand.tmp 31), type := 0, pos := "class.go:120", after := #[{ on := 8, ground := Ground.data }, { on := 6, ground := Ground.data }, { on := 9, ground := Ground.chain }, { on := 0, ground := Ground.phase }, { on := 1, ground := Ground.phase }, { on := 2, ground := Ground.phase }, { on := 3, ground := Ground.phase }, { on := 4, ground := Ground.phase }, { on := 5, ground := Ground.phase }, { on := 6, ground := Ground.phase }, { on := 7, ground := Ground.phase }, { on := 8, ground := Ground.phase }, { on := 9, ground := Ground.phase }], guard := none }]
def spCond (p s : BS) (w0 : World) (L : Nat → Bool) (v8 v9 v25 v26 v27 v28 v29 v30 v31 : Value) (w : World) : Prop :=
  Below w0.heap.size w0 w ∧ (L 0 = true → v25 = setV p) ∧ (L 1 = true → v26 = setV s) ∧ (L 2 = true → v27 = setV (p &&& s)) ∧ (L 3 = true → v28 = setV p) ∧ (L 4 = true → v29 = setV s) ∧ (L 5 = true → v30 = setV (~~~s)) ∧ (L 6 = true → v31 = setV (p &&& ~~~s)) ∧
    (L 7 = true → ∃ A, v8 = .pointer (some ⟨A, 0, none⟩) ∧ w0.heap.size ≤ A ∧ Blk w A 26 (if L 9 = true then setL (p &&& s) else four (fun _ => 0))) ∧
    (L 8 = true → ∃ B, v9 = .pointer (some ⟨B, 0, none⟩) ∧ w0.heap.size ≤ B ∧ Blk w B 26 (if L 10 = true then setL (p &&& ~~~s) else four (fun _ => 0))) ∧
    (L 7 = true → L 8 = true → v8 ≠ v9) ∧ (L 9 = true → L 7 = true) ∧ (L 10 = true → L 8 = true)

theorem spc_0 {p s : BS} {w0 : World} {L : Nat → Bool} {v8 v9 v25 v26 v27 v28 v29 v30 v31 : Value} {w w' : World} (h : spCond p s w0 L v8 v9 v25 v26 v27 v28 v29 v30 v31 w) (hb : Below w.heap.size w w') : spCond p s w0 (fun j => if j = 0 then true else L j) v8 v9 (setV p) v26 v27 v28 v29 v30 v31 w' := by
  obtain ⟨hb0, h0, h1, h2, h3, h4, h5, h6, h7, h8, h9, h10, h11⟩ := h
  refine ⟨hb0.trans (hb.mono hb0.size), fun _ => rfl, by simpa using h1, by simpa using h2, by simpa using h3, by simpa using h4, by simpa using h5, by simpa using h6, ?_, ?_, by simpa using h9, by simpa using h10, by simpa using h11⟩
  · intro h
    obtain ⟨A, e, hA, hk⟩ := h7 (by simpa using h)
    exact ⟨A, e, hA, by simpa using hk.keep hb⟩
  · intro h
    obtain ⟨A, e, hA, hk⟩ := h8 (by simpa using h)
    exact ⟨A, e, hA, by simpa using hk.keep hb⟩
theorem spc_1 {p s : BS} {w0 : World} {L : Nat → Bool} {v8 v9 v25 v26 v27 v28 v29 v30 v31 : Value} {w w' : World} (h : spCond p s w0 L v8 v9 v25 v26 v27 v28 v29 v30 v31 w) (hb : Below w.heap.size w w') : spCond p s w0 (fun j => if j = 1 then true else L j) v8 v9 v25 (setV s) v27 v28 v29 v30 v31 w' := by
  obtain ⟨hb0, h0, h1, h2, h3, h4, h5, h6, h7, h8, h9, h10, h11⟩ := h
  refine ⟨hb0.trans (hb.mono hb0.size), by simpa using h0, fun _ => rfl, by simpa using h2, by simpa using h3, by simpa using h4, by simpa using h5, by simpa using h6, ?_, ?_, by simpa using h9, by simpa using h10, by simpa using h11⟩
  · intro h
    obtain ⟨A, e, hA, hk⟩ := h7 (by simpa using h)
    exact ⟨A, e, hA, by simpa using hk.keep hb⟩
  · intro h
    obtain ⟨A, e, hA, hk⟩ := h8 (by simpa using h)
    exact ⟨A, e, hA, by simpa using hk.keep hb⟩
theorem spc_2 {p s : BS} {w0 : World} {L : Nat → Bool} {v8 v9 v25 v26 v27 v28 v29 v30 v31 : Value} {w w' : World} (h : spCond p s w0 L v8 v9 v25 v26 v27 v28 v29 v30 v31 w) (hb : Below w.heap.size w w') : spCond p s w0 (fun j => if j = 2 then true else L j) v8 v9 v25 v26 (setV (p &&& s)) v28 v29 v30 v31 w' := by
  obtain ⟨hb0, h0, h1, h2, h3, h4, h5, h6, h7, h8, h9, h10, h11⟩ := h
  refine ⟨hb0.trans (hb.mono hb0.size), by simpa using h0, by simpa using h1, fun _ => rfl, by simpa using h3, by simpa using h4, by simpa using h5, by simpa using h6, ?_, ?_, by simpa using h9, by simpa using h10, by simpa using h11⟩
  · intro h
    obtain ⟨A, e, hA, hk⟩ := h7 (by simpa using h)
    exact ⟨A, e, hA, by simpa using hk.keep hb⟩
  · intro h
    obtain ⟨A, e, hA, hk⟩ := h8 (by simpa using h)
    exact ⟨A, e, hA, by simpa using hk.keep hb⟩
theorem spc_3 {p s : BS} {w0 : World} {L : Nat → Bool} {v8 v9 v25 v26 v27 v28 v29 v30 v31 : Value} {w w' : World} (h : spCond p s w0 L v8 v9 v25 v26 v27 v28 v29 v30 v31 w) (hb : Below w.heap.size w w') : spCond p s w0 (fun j => if j = 3 then true else L j) v8 v9 v25 v26 v27 (setV p) v29 v30 v31 w' := by
  obtain ⟨hb0, h0, h1, h2, h3, h4, h5, h6, h7, h8, h9, h10, h11⟩ := h
  refine ⟨hb0.trans (hb.mono hb0.size), by simpa using h0, by simpa using h1, by simpa using h2, fun _ => rfl, by simpa using h4, by simpa using h5, by simpa using h6, ?_, ?_, by simpa using h9, by simpa using h10, by simpa using h11⟩
  · intro h
    obtain ⟨A, e, hA, hk⟩ := h7 (by simpa using h)
    exact ⟨A, e, hA, by simpa using hk.keep hb⟩
  · intro h
    obtain ⟨A, e, hA, hk⟩ := h8 (by simpa using h)
    exact ⟨A, e, hA, by simpa using hk.keep hb⟩
theorem spc_4 {p s : BS} {w0 : World} {L : Nat → Bool} {v8 v9 v25 v26 v27 v28 v29 v30 v31 : Value} {w w' : World} (h : spCond p s w0 L v8 v9 v25 v26 v27 v28 v29 v30 v31 w) (hb : Below w.heap.size w w') : spCond p s w0 (fun j => if j = 4 then true else L j) v8 v9 v25 v26 v27 v28 (setV s) v30 v31 w' := by
  obtain ⟨hb0, h0, h1, h2, h3, h4, h5, h6, h7, h8, h9, h10, h11⟩ := h
  refine ⟨hb0.trans (hb.mono hb0.size), by simpa using h0, by simpa using h1, by simpa using h2, by simpa using h3, fun _ => rfl, by simpa using h5, by simpa using h6, ?_, ?_, by simpa using h9, by simpa using h10, by simpa using h11⟩
  · intro h
    obtain ⟨A, e, hA, hk⟩ := h7 (by simpa using h)
    exact ⟨A, e, hA, by simpa using hk.keep hb⟩
  · intro h
    obtain ⟨A, e, hA, hk⟩ := h8 (by simpa using h)
    exact ⟨A, e, hA, by simpa using hk.keep hb⟩
theorem spc_5 {p s : BS} {w0 : World} {L : Nat → Bool} {v8 v9 v25 v26 v27 v28 v29 v30 v31 : Value} {w w' : World} (h : spCond p s w0 L v8 v9 v25 v26 v27 v28 v29 v30 v31 w) (hb : Below w.heap.size w w') : spCond p s w0 (fun j => if j = 5 then true else L j) v8 v9 v25 v26 v27 v28 v29 (setV (~~~s)) v31 w' := by
  obtain ⟨hb0, h0, h1, h2, h3, h4, h5, h6, h7, h8, h9, h10, h11⟩ := h
  refine ⟨hb0.trans (hb.mono hb0.size), by simpa using h0, by simpa using h1, by simpa using h2, by simpa using h3, by simpa using h4, fun _ => rfl, by simpa using h6, ?_, ?_, by simpa using h9, by simpa using h10, by simpa using h11⟩
  · intro h
    obtain ⟨A, e, hA, hk⟩ := h7 (by simpa using h)
    exact ⟨A, e, hA, by simpa using hk.keep hb⟩
  · intro h
    obtain ⟨A, e, hA, hk⟩ := h8 (by simpa using h)
    exact ⟨A, e, hA, by simpa using hk.keep hb⟩
theorem spc_6 {p s : BS} {w0 : World} {L : Nat → Bool} {v8 v9 v25 v26 v27 v28 v29 v30 v31 : Value} {w w' : World} (h : spCond p s w0 L v8 v9 v25 v26 v27 v28 v29 v30 v31 w) (hb : Below w.heap.size w w') : spCond p s w0 (fun j => if j = 6 then true else L j) v8 v9 v25 v26 v27 v28 v29 v30 (setV (p &&& ~~~s)) w' := by
  obtain ⟨hb0, h0, h1, h2, h3, h4, h5, h6, h7, h8, h9, h10, h11⟩ := h
  refine ⟨hb0.trans (hb.mono hb0.size), by simpa using h0, by simpa using h1, by simpa using h2, by simpa using h3, by simpa using h4, by simpa using h5, fun _ => rfl, ?_, ?_, by simpa using h9, by simpa using h10, by simpa using h11⟩
  · intro h
    obtain ⟨A, e, hA, hk⟩ := h7 (by simpa using h)
    exact ⟨A, e, hA, by simpa using hk.keep hb⟩
  · intro h
    obtain ⟨A, e, hA, hk⟩ := h8 (by simpa using h)
    exact ⟨A, e, hA, by simpa using hk.keep hb⟩
theorem spc_7 {p s : BS} {w0 : World} {L : Nat → Bool} {v8 v9 v25 v26 v27 v28 v29 v30 v31 : Value} {w : World} (hL : L 9 = true → L 7 = true) (h9L : L 7 = false) (h : spCond p s w0 L v8 v9 v25 v26 v27 v28 v29 v30 v31 w) : spCond p s w0 (fun j => if j = 7 then true else L j) (.pointer (some ⟨w.heap.size, 0, none⟩)) v9 v25 v26 v27 v28 v29 v30 v31 (w.alloc (.cells (four (fun _ => 0)).toArray 26)) := by
  obtain ⟨hb0, h0, h1, h2, h3, h4, h5, h6, h7, h8, h9, h10, h11⟩ := h
  have hL9 : L 9 = false := by cases hh : L 9 with | false => rfl | true => rw [h10 hh] at h9L; cases h9L
  refine ⟨hb0.alloc hb0.size _, by simpa using h0, by simpa using h1, by simpa using h2, by simpa using h3, by simpa using h4, by simpa using h5, by simpa using h6, ?_, ?_, ?_, ?_, by simpa using h11⟩
  · intro _
    exact ⟨w.heap.size, rfl, hb0.size, by simpa [hL9] using Blk.fresh w 26 (four (fun _ => 0))⟩
  · intro h
    obtain ⟨A, e, hA, hk⟩ := h8 (by simpa using h)
    exact ⟨A, e, hA, by simpa using hk.alloc _⟩
  · intro _ h
    obtain ⟨A, e, hA, hk⟩ := h8 (by simpa using h)
    have := hk.lt
    rw [e]
    intro hc
    injection hc with hc
    injection hc with hc
    injection hc with hc
    omega
  · intro h
    simp
theorem spc_8 {p s : BS} {w0 : World} {L : Nat → Bool} {v8 v9 v25 v26 v27 v28 v29 v30 v31 : Value} {w : World} (h9L : L 8 = false) (h : spCond p s w0 L v8 v9 v25 v26 v27 v28 v29 v30 v31 w) : spCond p s w0 (fun j => if j = 8 then true else L j) v8 (.pointer (some ⟨w.heap.size, 0, none⟩)) v25 v26 v27 v28 v29 v30 v31 (w.alloc (.cells (four (fun _ => 0)).toArray 26)) := by
  obtain ⟨hb0, h0, h1, h2, h3, h4, h5, h6, h7, h8, h9, h10, h11⟩ := h
  have hL9 : L 10 = false := by cases hh : L 10 with | false => rfl | true => rw [h11 hh] at h9L; cases h9L
  refine ⟨hb0.alloc hb0.size _, by simpa using h0, by simpa using h1, by simpa using h2, by simpa using h3, by simpa using h4, by simpa using h5, by simpa using h6, ?_, ?_, ?_, by simpa using h10, ?_⟩
  · intro h
    obtain ⟨A, e, hA, hk⟩ := h7 (by simpa using h)
    exact ⟨A, e, hA, by simpa using hk.alloc _⟩
  · intro _
    exact ⟨w.heap.size, rfl, hb0.size, by simpa [hL9] using Blk.fresh w 26 (four (fun _ => 0))⟩
  · intro h _
    obtain ⟨A, e, hA, hk⟩ := h7 (by simpa using h)
    have := hk.lt
    rw [e]
    intro hc
    injection hc with hc
    injection hc with hc
    injection hc with hc
    omega
  · intro h
    simp
theorem spc_9 {p s : BS} {w0 : World} {L : Nat → Bool} {v8 v9 v25 v26 v27 v28 v29 v30 v31 : Value} {w : World} {A : Nat} (h7L : L 7 = true) (e : v8 = .pointer (some ⟨A, 0, none⟩)) (hA : w0.heap.size ≤ A) {cs : List Value} (hk : Blk w A 26 cs) (h : spCond p s w0 L v8 v9 v25 v26 v27 v28 v29 v30 v31 w) : spCond p s w0 (fun j => if j = 9 then true else L j) v8 v9 v25 v26 v27 v28 v29 v30 v31 (w.setRow A (setL (p &&& s)).toArray) := by
  obtain ⟨hb0, h0, h1, h2, h3, h4, h5, h6, h7, h8, h9, h10, h11⟩ := h
  refine ⟨below_row hb0 hA _, by simpa using h0, by simpa using h1, by simpa using h2, by simpa using h3, by simpa using h4, by simpa using h5, by simpa using h6, ?_, ?_, by simpa using h9, fun _ => by simpa using h7L, by simpa using h11⟩
  · intro h
    exact ⟨A, e, hA, by simpa using blk_row hk (setL (p &&& s))⟩
  · intro h
    obtain ⟨B, e2, hB, hk2⟩ := h8 (by simpa using h)
    refine ⟨B, e2, hB, ?_⟩
    have hne : B ≠ A := by
      rintro rfl
      exact h9 h7L (by simpa using h) (by rw [e, e2])
    have hk3 : Blk (w.setRow A (setL (p &&& s)).toArray) B 26 _ := (setRow_other w A B (setL (p &&& s)).toArray hne).trans hk2
    simpa using hk3
theorem spc_10 {p s : BS} {w0 : World} {L : Nat → Bool} {v8 v9 v25 v26 v27 v28 v29 v30 v31 : Value} {w : World} {A : Nat} (h7L : L 8 = true) (e : v9 = .pointer (some ⟨A, 0, none⟩)) (hA : w0.heap.size ≤ A) {cs : List Value} (hk : Blk w A 26 cs) (h : spCond p s w0 L v8 v9 v25 v26 v27 v28 v29 v30 v31 w) : spCond p s w0 (fun j => if j = 10 then true else L j) v8 v9 v25 v26 v27 v28 v29 v30 v31 (w.setRow A (setL (p &&& ~~~s)).toArray) := by
  obtain ⟨hb0, h0, h1, h2, h3, h4, h5, h6, h7, h8, h9, h10, h11⟩ := h
  refine ⟨below_row hb0 hA _, by simpa using h0, by simpa using h1, by simpa using h2, by simpa using h3, by simpa using h4, by simpa using h5, by simpa using h6, ?_, ?_, by simpa using h9, by simpa using h10, fun _ => by simpa using h7L⟩
  · intro h
    obtain ⟨B, e2, hB, hk2⟩ := h7 (by simpa using h)
    refine ⟨B, e2, hB, ?_⟩
    have hne : B ≠ A := by
      rintro rfl
      exact h9 (by simpa using h) h7L (by rw [e, e2])
    have hk3 : Blk (w.setRow A (setL (p &&& ~~~s)).toArray) B 26 _ := (setRow_other w A B (setL (p &&& ~~~s)).toArray hne).trans hk2
    simpa using hk3
  · intro h
    exact ⟨A, e, hA, by simpa using blk_row hk (setL (p &&& ~~~s))⟩
end Go.Proofs.YtmfgbhlfbpmmjaaDoor
