/- class: Split's statement with two sets, as a region. -/
import Derived.Test.YtmfgbhlfbpmmjaaDoorSplR
namespace Go.Proofs.YtmfgbhlfbpmmjaaDoor
open Go.RowKit

theorem wp_callF {P : Program} {o : Oper} {a : Act} {w : World} {K : Act → World → Prop} {Q : Exit → Act → World → Prop} (f : FuncId) (args : Array Operand) (tys : Array TypeId) (ho : o.op = .call { callee := .value (.func f), args := args, argTypes := tys })
    (he : ∀ args w, (callFunc f args).run P w = .ok (.enter f args) w) (vs : Array Value) (hvs : args.map a.eval = vs) (v : Value) (R : World → Prop) (h : Calls P f vs w fun e w' => e = .returned v ∧ R w') (hk : ∀ w', R w' → K (a.put o.dst v) w') : o.wp P a w K Q := by
  unfold Oper.wp
  have e : (execOp a.eval o).run P w = .ok (.enter f (args.map a.eval)) w := by
    unfold execOp
    simp only [ho]
    go_simp
  rw [e, Oper.upon_enter, hvs]
  refine h.mono ?_
  rintro _ w' ⟨rfl, hr⟩
  exact hk w' hr
theorem wp_allocSet {o : Oper} {a : Act} {w : World} {K : Act → World → Prop} {Q : Exit → Act → World → Prop} (ho : o.op = .alloc 26)
    (h : K (a.put o.dst (.pointer (some ⟨w.heap.size, 0, none⟩))) (w.alloc (.cells (four (fun _ => 0)).toArray 26))) : o.wp Tryd.prog a w K Q := by
  unfold Oper.wp
  have e : (execOp a.eval o).run Tryd.prog w = .ok (.value (.pointer (some ⟨w.heap.size, 0, none⟩))) (w.alloc (.cells (four (fun _ => 0)).toArray 26)) := by
    unfold execOp
    simp only [ho]
    go_simp
    rfl
  rw [e]
  exact h

def spFrame (b5 b7 : Nat) (x0 x1 x2 x3 x4 x6 x10 x11 x12 x13 x14 x15 x16 x17 x18 x19 x20 x21 x22 x23 x24 x32 x33 x34 x35 x36 x37 x38 x39 x40 x41 x42 x43 x44 x45 x46 x47 x48 x49 x50 v8 v9 v25 v26 v27 v28 v29 v30 v31 : Value) : Array Value := #[x0, x1, x2, x3, x4, .pointer (some ⟨b5, 0, none⟩), x6, .pointer (some ⟨b7, 0, none⟩), v8, v9, x10, x11, x12, x13, x14, x15, x16, x17, x18, x19, x20, x21, x22, x23, x24, v25, v26, v27, v28, v29, v30, v31, x32, x33, x34, x35, x36, x37, x38, x39, x40, x41, x42, x43, x44, x45, x46, x47, x48, x49, x50]
def spInv (p s : BS) (w0 : World) (b5 b7 : Nat) (x0 x1 x2 x3 x4 x6 x10 x11 x12 x13 x14 x15 x16 x17 x18 x19 x20 x21 x22 x23 x24 x32 x33 x34 x35 x36 x37 x38 x39 x40 x41 x42 x43 x44 x45 x46 x47 x48 x49 x50 : Value) (L : Nat → Bool) (a : Act) (w : World) : Prop :=
  a.defers = [] ∧ ∃ v8 v9 v25 v26 v27 v28 v29 v30 v31 : Value, a.tmps = spFrame b5 b7 x0 x1 x2 x3 x4 x6 x10 x11 x12 x13 x14 x15 x16 x17 x18 x19 x20 x21 x22 x23 x24 x32 x33 x34 x35 x36 x37 x38 x39 x40 x41 x42 x43 x44 x45 x46 x47 x48 x49 x50 v8 v9 v25 v26 v27 v28 v29 v30 v31 ∧ spCond p s w0 L v8 v9 v25 v26 v27 v28 v29 v30 v31 w

theorem sp_deps (dep : Nat → List Nat) (h : ((List.range spOps.size).all fun i => match spOps[i]? with | some o => (dep i).all fun d => o.after.any fun e => decide (e.on = d) && Region.binds .any e | none => true) = true) {i : Nat} {o : Oper} (ho : spOps[i]? = some o)
    {L : Nat → Bool} (haf : ∀ e ∈ o.after, Region.binds .any e = true → L e.on = true) : ∀ d ∈ dep i, L d = true := by
  intro d hd
  have h1 := List.all_eq_true.1 h i (List.mem_range.2 (Array.getElem?_eq_some_iff.1 ho).1)
  rw [ho] at h1
  have h2 := List.all_eq_true.1 h1 d hd
  obtain ⟨e, he, hb⟩ : ∃ e, e ∈ o.after ∧ (e.on = d ∧ Region.binds .any e = true) := by
    obtain ⟨n, hn, hb⟩ := Array.any_eq_true.1 h2
    simp only [Bool.and_eq_true, decide_eq_true_eq] at hb
    exact ⟨_, Array.getElem_mem hn, hb⟩
  rw [← hb.1]
  exact haf e he hb.2
def spDep : Nat → List Nat := fun i => match i with | 2 => [0, 1] | 5 => [4] | 6 => [3, 5] | 9 => [7, 2] | 10 => [8, 6] | _ => []

theorem sp_step0 {p s : BS} {w0 w1 : World} {b5 b7 : Nat} {x0 x1 x2 x3 x4 x6 x10 x11 x12 x13 x14 x15 x16 x17 x18 x19 x20 x21 x22 x23 x24 x32 x33 x34 x35 x36 x37 x38 x39 x40 x41 x42 x43 x44 x45 x46 x47 x48 x49 x50 : Value} {v8 v9 v25 v26 v27 v28 v29 v30 v31 : Value} (g5 : Blk w1 b5 26 (setL s)) (g7 : Blk w1 b7 26 (setL p)) {L : Nat → Bool} (hc : spCond p s w0 L v8 v9 v25 v26 v27 v28 v29 v30 v31 w1) (hLi : L 0 = false) (hdep : ∀ d ∈ spDep 0, L d = true)
    {o : Oper} (hdst : o.dst = some 25) (hop : o.op = .load 26 (.tmp 7)) {K : Act → World → Prop} {Q : Exit → Act → World → Prop} (hk : ∀ a' w', spInv p s w0 b5 b7 x0 x1 x2 x3 x4 x6 x10 x11 x12 x13 x14 x15 x16 x17 x18 x19 x20 x21 x22 x23 x24 x32 x33 x34 x35 x36 x37 x38 x39 x40 x41 x42 x43 x44 x45 x46 x47 x48 x49 x50 (fun j => if j = 0 then true else L j) a' w' → K a' w') :
    o.wp Tryd.prog ⟨spFrame b5 b7 x0 x1 x2 x3 x4 x6 x10 x11 x12 x13 x14 x15 x16 x17 x18 x19 x20 x21 x22 x23 x24 x32 x33 x34 x35 x36 x37 x38 x39 x40 x41 x42 x43 x44 x45 x46 x47 x48 x49 x50 v8 v9 v25 v26 v27 v28 v29 v30 v31, []⟩ w1 K Q := by
  refine wp_load_row 26 (.tmp 7) hop b7 rfl 26 (setL p).toArray (0, 0) (.array 4 24) g7 (by kernel_rfl) rfl (set_info _) ?_
  rw [hdst]
  exact hk _ _ ⟨rfl, _, _, _, _, _, _, _, _, _, rfl, spc_0 hc (Below.refl _ _)⟩

theorem sp_step1 {p s : BS} {w0 w1 : World} {b5 b7 : Nat} {x0 x1 x2 x3 x4 x6 x10 x11 x12 x13 x14 x15 x16 x17 x18 x19 x20 x21 x22 x23 x24 x32 x33 x34 x35 x36 x37 x38 x39 x40 x41 x42 x43 x44 x45 x46 x47 x48 x49 x50 : Value} {v8 v9 v25 v26 v27 v28 v29 v30 v31 : Value} (g5 : Blk w1 b5 26 (setL s)) (g7 : Blk w1 b7 26 (setL p)) {L : Nat → Bool} (hc : spCond p s w0 L v8 v9 v25 v26 v27 v28 v29 v30 v31 w1) (hLi : L 1 = false) (hdep : ∀ d ∈ spDep 1, L d = true)
    {o : Oper} (hdst : o.dst = some 26) (hop : o.op = .load 26 (.tmp 5)) {K : Act → World → Prop} {Q : Exit → Act → World → Prop} (hk : ∀ a' w', spInv p s w0 b5 b7 x0 x1 x2 x3 x4 x6 x10 x11 x12 x13 x14 x15 x16 x17 x18 x19 x20 x21 x22 x23 x24 x32 x33 x34 x35 x36 x37 x38 x39 x40 x41 x42 x43 x44 x45 x46 x47 x48 x49 x50 (fun j => if j = 1 then true else L j) a' w' → K a' w') :
    o.wp Tryd.prog ⟨spFrame b5 b7 x0 x1 x2 x3 x4 x6 x10 x11 x12 x13 x14 x15 x16 x17 x18 x19 x20 x21 x22 x23 x24 x32 x33 x34 x35 x36 x37 x38 x39 x40 x41 x42 x43 x44 x45 x46 x47 x48 x49 x50 v8 v9 v25 v26 v27 v28 v29 v30 v31, []⟩ w1 K Q := by
  refine wp_load_row 26 (.tmp 5) hop b5 rfl 26 (setL s).toArray (0, 0) (.array 4 24) g5 (by kernel_rfl) rfl (set_info _) ?_
  rw [hdst]
  exact hk _ _ ⟨rfl, _, _, _, _, _, _, _, _, _, rfl, spc_1 hc (Below.refl _ _)⟩

theorem sp_step2 {p s : BS} {w0 w1 : World} {b5 b7 : Nat} {x0 x1 x2 x3 x4 x6 x10 x11 x12 x13 x14 x15 x16 x17 x18 x19 x20 x21 x22 x23 x24 x32 x33 x34 x35 x36 x37 x38 x39 x40 x41 x42 x43 x44 x45 x46 x47 x48 x49 x50 : Value} {v8 v9 v25 v26 v27 v28 v29 v30 v31 : Value} (g5 : Blk w1 b5 26 (setL s)) (g7 : Blk w1 b7 26 (setL p)) {L : Nat → Bool} (hc : spCond p s w0 L v8 v9 v25 v26 v27 v28 v29 v30 v31 w1) (hLi : L 2 = false) (hdep : ∀ d ∈ spDep 2, L d = true)
    {o : Oper} (hdst : o.dst = some 27) (hop : o.op = .call { callee := .value (.func 20), args := #[.tmp 25, .tmp 26], argTypes := #[26, 26] }) {K : Act → World → Prop} {Q : Exit → Act → World → Prop} (hk : ∀ a' w', spInv p s w0 b5 b7 x0 x1 x2 x3 x4 x6 x10 x11 x12 x13 x14 x15 x16 x17 x18 x19 x20 x21 x22 x23 x24 x32 x33 x34 x35 x36 x37 x38 x39 x40 x41 x42 x43 x44 x45 x46 x47 x48 x49 x50 (fun j => if j = 2 then true else L j) a' w' → K a' w') :
    o.wp Tryd.prog ⟨spFrame b5 b7 x0 x1 x2 x3 x4 x6 x10 x11 x12 x13 x14 x15 x16 x17 x18 x19 x20 x21 x22 x23 x24 x32 x33 x34 x35 x36 x37 x38 x39 x40 x41 x42 x43 x44 x45 x46 x47 x48 x49 x50 v8 v9 v25 v26 v27 v28 v29 v30 v31, []⟩ w1 K Q := by
  have hl0 : L 0 = true := hdep 0 (by simp [spDep])
  have e0 : v25 = setV p := hc.2.1 hl0
  have hl1 : L 1 = true := hdep 1 (by simp [spDep])
  have e1 : v26 = setV s := hc.2.2.1 hl1
  refine wp_callF 20 _ _ hop enters_and #[v25, v26] ?_ (setV (p &&& s)) (fun w' => Below w1.heap.size w1 w') ?_ ?_
  · simp [Act.eval, spFrame]
  · rw [e0, e1]
    exact and_any p s w1
  · intro w2 hb2
    rw [hdst]
    exact hk _ _ ⟨rfl, _, _, _, _, _, _, _, _, _, rfl, spc_2 hc hb2⟩

theorem sp_step3 {p s : BS} {w0 w1 : World} {b5 b7 : Nat} {x0 x1 x2 x3 x4 x6 x10 x11 x12 x13 x14 x15 x16 x17 x18 x19 x20 x21 x22 x23 x24 x32 x33 x34 x35 x36 x37 x38 x39 x40 x41 x42 x43 x44 x45 x46 x47 x48 x49 x50 : Value} {v8 v9 v25 v26 v27 v28 v29 v30 v31 : Value} (g5 : Blk w1 b5 26 (setL s)) (g7 : Blk w1 b7 26 (setL p)) {L : Nat → Bool} (hc : spCond p s w0 L v8 v9 v25 v26 v27 v28 v29 v30 v31 w1) (hLi : L 3 = false) (hdep : ∀ d ∈ spDep 3, L d = true)
    {o : Oper} (hdst : o.dst = some 28) (hop : o.op = .load 26 (.tmp 7)) {K : Act → World → Prop} {Q : Exit → Act → World → Prop} (hk : ∀ a' w', spInv p s w0 b5 b7 x0 x1 x2 x3 x4 x6 x10 x11 x12 x13 x14 x15 x16 x17 x18 x19 x20 x21 x22 x23 x24 x32 x33 x34 x35 x36 x37 x38 x39 x40 x41 x42 x43 x44 x45 x46 x47 x48 x49 x50 (fun j => if j = 3 then true else L j) a' w' → K a' w') :
    o.wp Tryd.prog ⟨spFrame b5 b7 x0 x1 x2 x3 x4 x6 x10 x11 x12 x13 x14 x15 x16 x17 x18 x19 x20 x21 x22 x23 x24 x32 x33 x34 x35 x36 x37 x38 x39 x40 x41 x42 x43 x44 x45 x46 x47 x48 x49 x50 v8 v9 v25 v26 v27 v28 v29 v30 v31, []⟩ w1 K Q := by
  refine wp_load_row 26 (.tmp 7) hop b7 rfl 26 (setL p).toArray (0, 0) (.array 4 24) g7 (by kernel_rfl) rfl (set_info _) ?_
  rw [hdst]
  exact hk _ _ ⟨rfl, _, _, _, _, _, _, _, _, _, rfl, spc_3 hc (Below.refl _ _)⟩

theorem sp_step4 {p s : BS} {w0 w1 : World} {b5 b7 : Nat} {x0 x1 x2 x3 x4 x6 x10 x11 x12 x13 x14 x15 x16 x17 x18 x19 x20 x21 x22 x23 x24 x32 x33 x34 x35 x36 x37 x38 x39 x40 x41 x42 x43 x44 x45 x46 x47 x48 x49 x50 : Value} {v8 v9 v25 v26 v27 v28 v29 v30 v31 : Value} (g5 : Blk w1 b5 26 (setL s)) (g7 : Blk w1 b7 26 (setL p)) {L : Nat → Bool} (hc : spCond p s w0 L v8 v9 v25 v26 v27 v28 v29 v30 v31 w1) (hLi : L 4 = false) (hdep : ∀ d ∈ spDep 4, L d = true)
    {o : Oper} (hdst : o.dst = some 29) (hop : o.op = .load 26 (.tmp 5)) {K : Act → World → Prop} {Q : Exit → Act → World → Prop} (hk : ∀ a' w', spInv p s w0 b5 b7 x0 x1 x2 x3 x4 x6 x10 x11 x12 x13 x14 x15 x16 x17 x18 x19 x20 x21 x22 x23 x24 x32 x33 x34 x35 x36 x37 x38 x39 x40 x41 x42 x43 x44 x45 x46 x47 x48 x49 x50 (fun j => if j = 4 then true else L j) a' w' → K a' w') :
    o.wp Tryd.prog ⟨spFrame b5 b7 x0 x1 x2 x3 x4 x6 x10 x11 x12 x13 x14 x15 x16 x17 x18 x19 x20 x21 x22 x23 x24 x32 x33 x34 x35 x36 x37 x38 x39 x40 x41 x42 x43 x44 x45 x46 x47 x48 x49 x50 v8 v9 v25 v26 v27 v28 v29 v30 v31, []⟩ w1 K Q := by
  refine wp_load_row 26 (.tmp 5) hop b5 rfl 26 (setL s).toArray (0, 0) (.array 4 24) g5 (by kernel_rfl) rfl (set_info _) ?_
  rw [hdst]
  exact hk _ _ ⟨rfl, _, _, _, _, _, _, _, _, _, rfl, spc_4 hc (Below.refl _ _)⟩

theorem sp_step5 {p s : BS} {w0 w1 : World} {b5 b7 : Nat} {x0 x1 x2 x3 x4 x6 x10 x11 x12 x13 x14 x15 x16 x17 x18 x19 x20 x21 x22 x23 x24 x32 x33 x34 x35 x36 x37 x38 x39 x40 x41 x42 x43 x44 x45 x46 x47 x48 x49 x50 : Value} {v8 v9 v25 v26 v27 v28 v29 v30 v31 : Value} (g5 : Blk w1 b5 26 (setL s)) (g7 : Blk w1 b7 26 (setL p)) {L : Nat → Bool} (hc : spCond p s w0 L v8 v9 v25 v26 v27 v28 v29 v30 v31 w1) (hLi : L 5 = false) (hdep : ∀ d ∈ spDep 5, L d = true)
    {o : Oper} (hdst : o.dst = some 30) (hop : o.op = .call { callee := .value (.func 35), args := #[.tmp 29], argTypes := #[26] }) {K : Act → World → Prop} {Q : Exit → Act → World → Prop} (hk : ∀ a' w', spInv p s w0 b5 b7 x0 x1 x2 x3 x4 x6 x10 x11 x12 x13 x14 x15 x16 x17 x18 x19 x20 x21 x22 x23 x24 x32 x33 x34 x35 x36 x37 x38 x39 x40 x41 x42 x43 x44 x45 x46 x47 x48 x49 x50 (fun j => if j = 5 then true else L j) a' w' → K a' w') :
    o.wp Tryd.prog ⟨spFrame b5 b7 x0 x1 x2 x3 x4 x6 x10 x11 x12 x13 x14 x15 x16 x17 x18 x19 x20 x21 x22 x23 x24 x32 x33 x34 x35 x36 x37 x38 x39 x40 x41 x42 x43 x44 x45 x46 x47 x48 x49 x50 v8 v9 v25 v26 v27 v28 v29 v30 v31, []⟩ w1 K Q := by
  have hl4 : L 4 = true := hdep 4 (by simp [spDep])
  have e4 : v29 = setV s := hc.2.2.2.2.2.1 hl4
  refine wp_callF 35 _ _ hop enters_not #[v29] ?_ (setV (~~~s)) (fun w' => Below w1.heap.size w1 w') ?_ ?_
  · simp [Act.eval, spFrame]
  · rw [e4]
    exact not_any s w1
  · intro w2 hb2
    rw [hdst]
    exact hk _ _ ⟨rfl, _, _, _, _, _, _, _, _, _, rfl, spc_5 hc hb2⟩

theorem sp_step6 {p s : BS} {w0 w1 : World} {b5 b7 : Nat} {x0 x1 x2 x3 x4 x6 x10 x11 x12 x13 x14 x15 x16 x17 x18 x19 x20 x21 x22 x23 x24 x32 x33 x34 x35 x36 x37 x38 x39 x40 x41 x42 x43 x44 x45 x46 x47 x48 x49 x50 : Value} {v8 v9 v25 v26 v27 v28 v29 v30 v31 : Value} (g5 : Blk w1 b5 26 (setL s)) (g7 : Blk w1 b7 26 (setL p)) {L : Nat → Bool} (hc : spCond p s w0 L v8 v9 v25 v26 v27 v28 v29 v30 v31 w1) (hLi : L 6 = false) (hdep : ∀ d ∈ spDep 6, L d = true)
    {o : Oper} (hdst : o.dst = some 31) (hop : o.op = .call { callee := .value (.func 20), args := #[.tmp 28, .tmp 30], argTypes := #[26, 26] }) {K : Act → World → Prop} {Q : Exit → Act → World → Prop} (hk : ∀ a' w', spInv p s w0 b5 b7 x0 x1 x2 x3 x4 x6 x10 x11 x12 x13 x14 x15 x16 x17 x18 x19 x20 x21 x22 x23 x24 x32 x33 x34 x35 x36 x37 x38 x39 x40 x41 x42 x43 x44 x45 x46 x47 x48 x49 x50 (fun j => if j = 6 then true else L j) a' w' → K a' w') :
    o.wp Tryd.prog ⟨spFrame b5 b7 x0 x1 x2 x3 x4 x6 x10 x11 x12 x13 x14 x15 x16 x17 x18 x19 x20 x21 x22 x23 x24 x32 x33 x34 x35 x36 x37 x38 x39 x40 x41 x42 x43 x44 x45 x46 x47 x48 x49 x50 v8 v9 v25 v26 v27 v28 v29 v30 v31, []⟩ w1 K Q := by
  have hl3 : L 3 = true := hdep 3 (by simp [spDep])
  have e3 : v28 = setV p := hc.2.2.2.2.1 hl3
  have hl5 : L 5 = true := hdep 5 (by simp [spDep])
  have e5 : v30 = setV (~~~s) := hc.2.2.2.2.2.2.1 hl5
  refine wp_callF 20 _ _ hop enters_and #[v28, v30] ?_ (setV (p &&& ~~~s)) (fun w' => Below w1.heap.size w1 w') ?_ ?_
  · simp [Act.eval, spFrame]
  · rw [e3, e5]
    exact and_any p (~~~s) w1
  · intro w2 hb2
    rw [hdst]
    exact hk _ _ ⟨rfl, _, _, _, _, _, _, _, _, _, rfl, spc_6 hc hb2⟩

theorem sp_step7 {p s : BS} {w0 w1 : World} {b5 b7 : Nat} {x0 x1 x2 x3 x4 x6 x10 x11 x12 x13 x14 x15 x16 x17 x18 x19 x20 x21 x22 x23 x24 x32 x33 x34 x35 x36 x37 x38 x39 x40 x41 x42 x43 x44 x45 x46 x47 x48 x49 x50 : Value} {v8 v9 v25 v26 v27 v28 v29 v30 v31 : Value} (g5 : Blk w1 b5 26 (setL s)) (g7 : Blk w1 b7 26 (setL p)) {L : Nat → Bool} (hc : spCond p s w0 L v8 v9 v25 v26 v27 v28 v29 v30 v31 w1) (hLi : L 7 = false) (hdep : ∀ d ∈ spDep 7, L d = true)
    {o : Oper} (hdst : o.dst = some 8) (hop : o.op = .alloc 26) {K : Act → World → Prop} {Q : Exit → Act → World → Prop} (hk : ∀ a' w', spInv p s w0 b5 b7 x0 x1 x2 x3 x4 x6 x10 x11 x12 x13 x14 x15 x16 x17 x18 x19 x20 x21 x22 x23 x24 x32 x33 x34 x35 x36 x37 x38 x39 x40 x41 x42 x43 x44 x45 x46 x47 x48 x49 x50 (fun j => if j = 7 then true else L j) a' w' → K a' w') :
    o.wp Tryd.prog ⟨spFrame b5 b7 x0 x1 x2 x3 x4 x6 x10 x11 x12 x13 x14 x15 x16 x17 x18 x19 x20 x21 x22 x23 x24 x32 x33 x34 x35 x36 x37 x38 x39 x40 x41 x42 x43 x44 x45 x46 x47 x48 x49 x50 v8 v9 v25 v26 v27 v28 v29 v30 v31, []⟩ w1 K Q := by
  refine wp_allocSet hop ?_
  rw [hdst]
  exact hk _ _ ⟨rfl, _, _, _, _, _, _, _, _, _, rfl, spc_7 hc.2.2.2.2.2.2.2.2.2.2.2.1 hLi hc⟩

theorem sp_step8 {p s : BS} {w0 w1 : World} {b5 b7 : Nat} {x0 x1 x2 x3 x4 x6 x10 x11 x12 x13 x14 x15 x16 x17 x18 x19 x20 x21 x22 x23 x24 x32 x33 x34 x35 x36 x37 x38 x39 x40 x41 x42 x43 x44 x45 x46 x47 x48 x49 x50 : Value} {v8 v9 v25 v26 v27 v28 v29 v30 v31 : Value} (g5 : Blk w1 b5 26 (setL s)) (g7 : Blk w1 b7 26 (setL p)) {L : Nat → Bool} (hc : spCond p s w0 L v8 v9 v25 v26 v27 v28 v29 v30 v31 w1) (hLi : L 8 = false) (hdep : ∀ d ∈ spDep 8, L d = true)
    {o : Oper} (hdst : o.dst = some 9) (hop : o.op = .alloc 26) {K : Act → World → Prop} {Q : Exit → Act → World → Prop} (hk : ∀ a' w', spInv p s w0 b5 b7 x0 x1 x2 x3 x4 x6 x10 x11 x12 x13 x14 x15 x16 x17 x18 x19 x20 x21 x22 x23 x24 x32 x33 x34 x35 x36 x37 x38 x39 x40 x41 x42 x43 x44 x45 x46 x47 x48 x49 x50 (fun j => if j = 8 then true else L j) a' w' → K a' w') :
    o.wp Tryd.prog ⟨spFrame b5 b7 x0 x1 x2 x3 x4 x6 x10 x11 x12 x13 x14 x15 x16 x17 x18 x19 x20 x21 x22 x23 x24 x32 x33 x34 x35 x36 x37 x38 x39 x40 x41 x42 x43 x44 x45 x46 x47 x48 x49 x50 v8 v9 v25 v26 v27 v28 v29 v30 v31, []⟩ w1 K Q := by
  refine wp_allocSet hop ?_
  rw [hdst]
  exact hk _ _ ⟨rfl, _, _, _, _, _, _, _, _, _, rfl, spc_8 hLi hc⟩

theorem sp_step9 {p s : BS} {w0 w1 : World} {b5 b7 : Nat} {x0 x1 x2 x3 x4 x6 x10 x11 x12 x13 x14 x15 x16 x17 x18 x19 x20 x21 x22 x23 x24 x32 x33 x34 x35 x36 x37 x38 x39 x40 x41 x42 x43 x44 x45 x46 x47 x48 x49 x50 : Value} {v8 v9 v25 v26 v27 v28 v29 v30 v31 : Value} (g5 : Blk w1 b5 26 (setL s)) (g7 : Blk w1 b7 26 (setL p)) {L : Nat → Bool} (hc : spCond p s w0 L v8 v9 v25 v26 v27 v28 v29 v30 v31 w1) (hLi : L 9 = false) (hdep : ∀ d ∈ spDep 9, L d = true)
    {o : Oper} (hdst : o.dst = none) (hop : o.op = .store 26 (.tmp 8) (.tmp 27)) {K : Act → World → Prop} {Q : Exit → Act → World → Prop} (hk : ∀ a' w', spInv p s w0 b5 b7 x0 x1 x2 x3 x4 x6 x10 x11 x12 x13 x14 x15 x16 x17 x18 x19 x20 x21 x22 x23 x24 x32 x33 x34 x35 x36 x37 x38 x39 x40 x41 x42 x43 x44 x45 x46 x47 x48 x49 x50 (fun j => if j = 9 then true else L j) a' w' → K a' w') :
    o.wp Tryd.prog ⟨spFrame b5 b7 x0 x1 x2 x3 x4 x6 x10 x11 x12 x13 x14 x15 x16 x17 x18 x19 x20 x21 x22 x23 x24 x32 x33 x34 x35 x36 x37 x38 x39 x40 x41 x42 x43 x44 x45 x46 x47 x48 x49 x50 v8 v9 v25 v26 v27 v28 v29 v30 v31, []⟩ w1 K Q := by
  have hlo : L 7 = true := hdep 7 (by simp [spDep])
  have hls : L 2 = true := hdep 2 (by simp [spDep])
  have es : v27 = setV (p &&& s) := hc.2.2.2.1 hls
  obtain ⟨A, eA, hA, hkA⟩ := hc.2.2.2.2.2.2.2.2.1 hlo
  have hkA2 : ∃ cs : List Value, cs.length = 4 ∧ Blk w1 A 26 cs := by
    refine ⟨_, ?_, hkA⟩
    split <;> rfl
  obtain ⟨cs, hcs, hkB⟩ := hkA2
  refine wp_store_row 26 (.tmp 8) (.tmp 27) hop A (setL (p &&& s)).toArray ?_ ?_ 26 cs.toArray hkB (set_info _) (by show cs.length = 4; exact hcs) (four_one _) ?_
  · show v8 = _
    exact eA
  · show v27 = _
    rw [es]; rfl
  · rw [hdst]
    exact hk _ _ ⟨rfl, _, _, _, _, _, _, _, _, _, rfl, spc_9 hlo eA hA hkB hc⟩

theorem sp_step10 {p s : BS} {w0 w1 : World} {b5 b7 : Nat} {x0 x1 x2 x3 x4 x6 x10 x11 x12 x13 x14 x15 x16 x17 x18 x19 x20 x21 x22 x23 x24 x32 x33 x34 x35 x36 x37 x38 x39 x40 x41 x42 x43 x44 x45 x46 x47 x48 x49 x50 : Value} {v8 v9 v25 v26 v27 v28 v29 v30 v31 : Value} (g5 : Blk w1 b5 26 (setL s)) (g7 : Blk w1 b7 26 (setL p)) {L : Nat → Bool} (hc : spCond p s w0 L v8 v9 v25 v26 v27 v28 v29 v30 v31 w1) (hLi : L 10 = false) (hdep : ∀ d ∈ spDep 10, L d = true)
    {o : Oper} (hdst : o.dst = none) (hop : o.op = .store 26 (.tmp 9) (.tmp 31)) {K : Act → World → Prop} {Q : Exit → Act → World → Prop} (hk : ∀ a' w', spInv p s w0 b5 b7 x0 x1 x2 x3 x4 x6 x10 x11 x12 x13 x14 x15 x16 x17 x18 x19 x20 x21 x22 x23 x24 x32 x33 x34 x35 x36 x37 x38 x39 x40 x41 x42 x43 x44 x45 x46 x47 x48 x49 x50 (fun j => if j = 10 then true else L j) a' w' → K a' w') :
    o.wp Tryd.prog ⟨spFrame b5 b7 x0 x1 x2 x3 x4 x6 x10 x11 x12 x13 x14 x15 x16 x17 x18 x19 x20 x21 x22 x23 x24 x32 x33 x34 x35 x36 x37 x38 x39 x40 x41 x42 x43 x44 x45 x46 x47 x48 x49 x50 v8 v9 v25 v26 v27 v28 v29 v30 v31, []⟩ w1 K Q := by
  have hlo : L 8 = true := hdep 8 (by simp [spDep])
  have hls : L 6 = true := hdep 6 (by simp [spDep])
  have es : v31 = setV (p &&& ~~~s) := hc.2.2.2.2.2.2.2.1 hls
  obtain ⟨A, eA, hA, hkA⟩ := hc.2.2.2.2.2.2.2.2.2.1 hlo
  have hkA2 : ∃ cs : List Value, cs.length = 4 ∧ Blk w1 A 26 cs := by
    refine ⟨_, ?_, hkA⟩
    split <;> rfl
  obtain ⟨cs, hcs, hkB⟩ := hkA2
  refine wp_store_row 26 (.tmp 9) (.tmp 31) hop A (setL (p &&& ~~~s)).toArray ?_ ?_ 26 cs.toArray hkB (set_info _) (by show cs.length = 4; exact hcs) (four_one _) ?_
  · show v9 = _
    exact eA
  · show v31 = _
    rw [es]; rfl
  · rw [hdst]
    exact hk _ _ ⟨rfl, _, _, _, _, _, _, _, _, _, rfl, spc_10 hlo eA hA hkB hc⟩

theorem split_region {p s : BS} {w : World} {b5 b7 : Nat} (h5 : Blk w b5 26 (setL s)) (h7 : Blk w b7 26 (setL p)) {x0 x1 x2 x3 x4 x6 x10 x11 x12 x13 x14 x15 x16 x17 x18 x19 x20 x21 x22 x23 x24 x32 x33 x34 x35 x36 x37 x38 x39 x40 x41 x42 x43 x44 x45 x46 x47 x48 x49 x50 : Value} {v8 v9 v25 v26 v27 v28 v29 v30 v31 : Value} {Q : Exit → Act → World → Prop} {id : Nat}
    (hK : ∀ A B v25 v26 v27 v28 v29 v30 v31 w', Below w.heap.size w w' → A ≠ B → w.heap.size ≤ A → w.heap.size ≤ B → Blk w' A 26 (setL (p &&& s)) → Blk w' B 26 (setL (p &&& ~~~s)) →
      Q .normal ⟨spFrame b5 b7 x0 x1 x2 x3 x4 x6 x10 x11 x12 x13 x14 x15 x16 x17 x18 x19 x20 x21 x22 x23 x24 x32 x33 x34 x35 x36 x37 x38 x39 x40 x41 x42 x43 x44 x45 x46 x47 x48 x49 x50 (.pointer (some ⟨A, 0, none⟩)) (.pointer (some ⟨B, 0, none⟩)) v25 v26 v27 v28 v29 v30 v31, []⟩ w') :
    (Code.region id spOps true).wp Tryd.prog Q ⟨spFrame b5 b7 x0 x1 x2 x3 x4 x6 x10 x11 x12 x13 x14 x15 x16 x17 x18 x19 x20 x21 x22 x23 x24 x32 x33 x34 x35 x36 x37 x38 x39 x40 x41 x42 x43 x44 x45 x46 x47 x48 x49 x50 v8 v9 v25 v26 v27 v28 v29 v30 v31, []⟩ w := by
  refine wp_region_inv (by kernel_rfl) (spInv p s w.drew b5 b7 x0 x1 x2 x3 x4 x6 x10 x11 x12 x13 x14 x15 x16 x17 x18 x19 x20 x21 x22 x23 x24 x32 x33 x34 x35 x36 x37 x38 x39 x40 x41 x42 x43 x44 x45 x46 x47 x48 x49 x50) (wf_ops (by kernel_rfl)) ?_ ?_ ?_
  · refine ⟨rfl, v8, v9, v25, v26, v27, v28, v29, v30, v31, rfl, Below.refl _ _, ?_⟩
    have hs : spOps.size = 11 := rfl
    rw [hs]
    simp
  · intro L i o ho hLi haf a w1 hI K hk
    obtain ⟨hd, v8, v9, v25, v26, v27, v28, v29, v30, v31, ht, hc⟩ := hI
    obtain ⟨a_t, a_d⟩ := a
    obtain rfl : a_d = [] := hd
    obtain rfl : a_t = _ := ht
    have hb : Below w.heap.size w w1 := ⟨hc.1.os, hc.1.tape, hc.1.output, hc.1.size, hc.1.block⟩
    have g5 := h5.keep hb
    have g7 := h7.keep hb
    have hdep := sp_deps spDep (by kernel_rfl) ho haf
    clear haf
    have hs : spOps.size = 11 := rfl
    have hlt : i < 11 := hs ▸ (Array.getElem?_eq_some_iff.1 ho).1
    have hcases : i = 0 ∨ i = 1 ∨ i = 2 ∨ i = 3 ∨ i = 4 ∨ i = 5 ∨ i = 6 ∨ i = 7 ∨ i = 8 ∨ i = 9 ∨ i = 10 := by omega
    rcases hcases with rfl | rfl | rfl | rfl | rfl | rfl | rfl | rfl | rfl | rfl | rfl
    · have h1 : (spOps[0]?).map (·.dst) = some (some 25) := by kernel_rfl
      have h2 : (spOps[0]?).map (·.op) = some (.load 26 (.tmp 7)) := by kernel_rfl
      rw [ho] at h1 h2
      exact sp_step0 g5 g7 hc hLi hdep (Option.some.inj h1) (Option.some.inj h2) hk
    · have h1 : (spOps[1]?).map (·.dst) = some (some 26) := by kernel_rfl
      have h2 : (spOps[1]?).map (·.op) = some (.load 26 (.tmp 5)) := by kernel_rfl
      rw [ho] at h1 h2
      exact sp_step1 g5 g7 hc hLi hdep (Option.some.inj h1) (Option.some.inj h2) hk
    · have h1 : (spOps[2]?).map (·.dst) = some (some 27) := by kernel_rfl
      have h2 : (spOps[2]?).map (·.op) = some (.call { callee := .value (.func 20), args := #[.tmp 25, .tmp 26], argTypes := #[26, 26] }) := by kernel_rfl
      rw [ho] at h1 h2
      exact sp_step2 g5 g7 hc hLi hdep (Option.some.inj h1) (Option.some.inj h2) hk
    · have h1 : (spOps[3]?).map (·.dst) = some (some 28) := by kernel_rfl
      have h2 : (spOps[3]?).map (·.op) = some (.load 26 (.tmp 7)) := by kernel_rfl
      rw [ho] at h1 h2
      exact sp_step3 g5 g7 hc hLi hdep (Option.some.inj h1) (Option.some.inj h2) hk
    · have h1 : (spOps[4]?).map (·.dst) = some (some 29) := by kernel_rfl
      have h2 : (spOps[4]?).map (·.op) = some (.load 26 (.tmp 5)) := by kernel_rfl
      rw [ho] at h1 h2
      exact sp_step4 g5 g7 hc hLi hdep (Option.some.inj h1) (Option.some.inj h2) hk
    · have h1 : (spOps[5]?).map (·.dst) = some (some 30) := by kernel_rfl
      have h2 : (spOps[5]?).map (·.op) = some (.call { callee := .value (.func 35), args := #[.tmp 29], argTypes := #[26] }) := by kernel_rfl
      rw [ho] at h1 h2
      exact sp_step5 g5 g7 hc hLi hdep (Option.some.inj h1) (Option.some.inj h2) hk
    · have h1 : (spOps[6]?).map (·.dst) = some (some 31) := by kernel_rfl
      have h2 : (spOps[6]?).map (·.op) = some (.call { callee := .value (.func 20), args := #[.tmp 28, .tmp 30], argTypes := #[26, 26] }) := by kernel_rfl
      rw [ho] at h1 h2
      exact sp_step6 g5 g7 hc hLi hdep (Option.some.inj h1) (Option.some.inj h2) hk
    · have h1 : (spOps[7]?).map (·.dst) = some (some 8) := by kernel_rfl
      have h2 : (spOps[7]?).map (·.op) = some (.alloc 26) := by kernel_rfl
      rw [ho] at h1 h2
      exact sp_step7 g5 g7 hc hLi hdep (Option.some.inj h1) (Option.some.inj h2) hk
    · have h1 : (spOps[8]?).map (·.dst) = some (some 9) := by kernel_rfl
      have h2 : (spOps[8]?).map (·.op) = some (.alloc 26) := by kernel_rfl
      rw [ho] at h1 h2
      exact sp_step8 g5 g7 hc hLi hdep (Option.some.inj h1) (Option.some.inj h2) hk
    · have h1 : (spOps[9]?).map (·.dst) = some (none) := by kernel_rfl
      have h2 : (spOps[9]?).map (·.op) = some (.store 26 (.tmp 8) (.tmp 27)) := by kernel_rfl
      rw [ho] at h1 h2
      exact sp_step9 g5 g7 hc hLi hdep (Option.some.inj h1) (Option.some.inj h2) hk
    · have h1 : (spOps[10]?).map (·.dst) = some (none) := by kernel_rfl
      have h2 : (spOps[10]?).map (·.op) = some (.store 26 (.tmp 9) (.tmp 31)) := by kernel_rfl
      rw [ho] at h1 h2
      exact sp_step10 g5 g7 hc hLi hdep (Option.some.inj h1) (Option.some.inj h2) hk
  · intro L a w1 hL hI
    obtain ⟨hd, v8, v9, v25, v26, v27, v28, v29, v30, v31, ht, hc⟩ := hI
    obtain ⟨a_t, a_d⟩ := a
    obtain rfl : a_d = [] := hd
    obtain rfl : a_t = _ := ht
    have hb : Below w.heap.size w w1 := ⟨hc.1.os, hc.1.tape, hc.1.output, hc.1.size, hc.1.block⟩
    have hs : spOps.size = 11 := rfl
    rw [hs] at hL
    have l7 := hL 7 (by omega)
    have l8 := hL 8 (by omega)
    have l9 := hL 9 (by omega)
    have l10 := hL 10 (by omega)
    obtain ⟨A, eA, hA, hkA⟩ := hc.2.2.2.2.2.2.2.2.1 l7
    obtain ⟨B, eB, hB, hkB⟩ := hc.2.2.2.2.2.2.2.2.2.1 l8
    rw [l9, if_pos rfl] at hkA
    rw [l10, if_pos rfl] at hkB
    have hne := hc.2.2.2.2.2.2.2.2.2.2.1 l7 l8
    have hAB : A ≠ B := by
      rintro rfl
      exact hne (by rw [eA, eB])
    subst eA eB
    exact hK A B _ _ _ _ _ _ _ w1 hb hAB hA hB hkA hkB
end Go.Proofs.YtmfgbhlfbpmmjaaDoor
