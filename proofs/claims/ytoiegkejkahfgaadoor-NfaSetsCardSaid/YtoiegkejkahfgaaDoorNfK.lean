/- nfa: Make. -/
import Derived.Test.YtoiegkejkahfgaaDoorNfJ
import Derived.Laws.Rows
namespace Go.Proofs.YtoiegkejkahfgaaDoor
set_option linter.unusedSimpArgs false
set_option linter.unusedVariables false
open Go.RowKit

set_option maxRecDepth 10000 in
theorem wp_stI {o : Oper} {a : Act} {w : World} {K : Act → World → Prop} {Q : Exit → Act → World → Prop} (x y : Operand) (ho : o.op = .store 3 x y) (p : Addr) (hx : a.eval x = .pointer (some p)) (k : Int) (hy : a.eval y = .int .i64 k) (u : Value) (hc : w.cell? p = some u) (hf : w.frozen? p = false) (h : K (a.put o.dst undef) (w.setCell p (.int .i64 k))) : o.wp Tryd.prog a w K Q := by
  unfold Oper.wp
  have e : (execOp a.eval o).run Tryd.prog w = .ok .skip (w.setCell p (.int .i64 k)) := by
    unfold execOp
    simp only [ho, hx, hy]
    go_simp
  rw [e, Oper.upon_skip]
  exact h
def mk7Ops : Array Oper := #[{ dst := some 17, op := Op.load 26 (Operand.tmp 1), type := 26, pos := "make.go:23", after := #[], guard := none }, { dst := some 18, op := Op.call { callee := Callee.value (Operand.func 20), args := #[Operand.tmp 5], argTypes := #[57] }, type := 3, pos := "make.go:23", after := #[], guard := none }, { dst := some 19, op := Op.call { callee := Callee.value (Operand.func 19), args := #[Operand.tmp 5, Operand.tmp 17, Operand.tmp 18], argTypes := #[57, 26, 3] }, type := 3, pos := "make.go:23", after := #[{ on := 0, ground := Ground.data }, { on := 1, ground := Ground.data }, { on := 1, ground := Ground.chain }], guard := none }, { dst := some 20, op := Op.fieldAddr 57 (Operand.tmp 5) 0, type := 0, pos := "make.go:23", after := #[{ on := 0, ground := Ground.phase }, { on := 1, ground := Ground.phase }, { on := 2, ground := Ground.phase }], guard := none }, { dst := some 21, op := Op.fieldAddr 33 (Operand.tmp 20) 1, type := 0, pos := "make.go:23", after := #[{ on := 3, ground := Ground.data }, { on := 0, ground := Ground.phase }, { on := 1, ground := Ground.phase }, { on := 2, ground := Ground.phase }], guard := none }, { dst := none, op := Op.store 3 (Operand.tmp 21) (Operand.tmp 19), type := 0, pos := "make.go:23", after := #[{ on := 4, ground := Ground.data }, { on := 2, ground := Ground.data }, { on := 2, ground := Ground.chain }, { on := 0, ground := Ground.phase }, { on := 1, ground := Ground.phase }, { on := 2, ground := Ground.phase }], guard := none }]
def mk7Dep : Nat → List Nat := fun i => match i with | 2 => [0, 1] | 4 => [3] | 5 => [4, 2] | _ => []
structure mk7C (b1 : Nat) (g : Nat) (x : RV) (W1 : World) (R1 : Value → World → Prop) (R2 : Value → World → Prop) (R5 : World → Prop) (L : Nat → Bool) (f : Nat → Value) (w : World) : Prop where
  v0 : L 0 = true → f 17 = .agg x.cells.toArray
  v3 : L 3 = true → f 20 = .pointer (some ⟨g, 0, none⟩)
  v4 : L 4 = true → f 21 = .pointer (some ⟨g, 1, none⟩)
  wz : L 1 = false → w = W1
  w1 : L 1 = true → L 2 = false → R1 (f 18) w
  w2 : L 2 = true → L 5 = false → R2 (f 19) w
  w5 : L 5 = true → R5 w
  d2_1 : L 2 = true → L 1 = true
  d5_2 : L 5 = true → L 2 = true
  d2_0 : L 2 = true → L 0 = true
  d5_4 : L 5 = true → L 4 = true
theorem mk7_0 {b1 : Nat} {g : Nat} {x : RV} {W1 : World} {R1 : Value → World → Prop} {R2 : Value → World → Prop} {R5 : World → Prop} {L : Nat → Bool} {f : Nat → Value} {w : World} (h : mk7C b1 g x W1 R1 R2 R5 L f w) : mk7C b1 g x W1 R1 R2 R5 (fun k => if k = 0 then true else L k) (fun t => if (some 17 : Option Nat) = some t then (.agg x.cells.toArray) else f t) w where
  v0 := fun _ => by simp
  v3 := by simpa using h.v3
  v4 := by simpa using h.v4
  wz := by simpa using h.wz
  w1 := by simpa using h.w1
  w2 := by simpa using h.w2
  w5 := by simpa using h.w5
  d2_1 := by simpa using h.d2_1
  d5_2 := by simpa using h.d5_2
  d2_0 := fun _ => by simp
  d5_4 := by simpa using h.d5_4
theorem mk7_1 {b1 : Nat} {g : Nat} {x : RV} {W1 : World} {R1 : Value → World → Prop} {R2 : Value → World → Prop} {R5 : World → Prop} {L : Nat → Bool} {f : Nat → Value} {w : World} {v : Value} {w2 : World} (h : mk7C b1 g x W1 R1 R2 R5 L f w) (h1 : L 1 = false) (hp : R1 v w2) : mk7C b1 g x W1 R1 R2 R5 (fun k => if k = 1 then true else L k) (fun t => if (some 18 : Option Nat) = some t then v else f t) w2 := by
  have h2 : L 2 = false := by cases hh : L 2 with | false => rfl | true => exact absurd (h.d2_1 hh) (by rw [h1]; decide)
  have h5 : L 5 = false := by cases hh : L 5 with | false => rfl | true => exact absurd (h.d5_2 hh) (by rw [h2]; decide)
  constructor
  · simpa using h.v0
  · simpa using h.v3
  · simpa using h.v4
  · intro hh; simp at hh
  · intro _ _; simpa using hp
  · intro hh _; simp [h2] at hh
  · intro hh; simp [h5] at hh
  · intro _; simp
  · simpa using h.d5_2
  · simpa using h.d2_0
  · simpa using h.d5_4
theorem mk7_2 {b1 : Nat} {g : Nat} {x : RV} {W1 : World} {R1 : Value → World → Prop} {R2 : Value → World → Prop} {R5 : World → Prop} {L : Nat → Bool} {f : Nat → Value} {w : World} {v : Value} {w2 : World} (h : mk7C b1 g x W1 R1 R2 R5 L f w) (h1 : L 1 = true) (h2 : L 2 = false) (h0 : L 0 = true) (hp : R2 v w2) : mk7C b1 g x W1 R1 R2 R5 (fun k => if k = 2 then true else L k) (fun t => if (some 19 : Option Nat) = some t then v else f t) w2 := by
  have h5 : L 5 = false := by cases hh : L 5 with | false => rfl | true => exact absurd (h.d5_2 hh) (by rw [h2]; decide)
  constructor
  · simpa using h.v0
  · simpa using h.v3
  · simpa using h.v4
  · intro hh; simp [h1] at hh
  · intro _ hh; simp at hh
  · intro _ _; simpa using hp
  · intro hh; simp [h5] at hh
  · intro _; simpa using h1
  · intro _; simp
  · intro _; simpa using h0
  · simpa using h.d5_4
theorem mk7_3 {b1 : Nat} {g : Nat} {x : RV} {W1 : World} {R1 : Value → World → Prop} {R2 : Value → World → Prop} {R5 : World → Prop} {L : Nat → Bool} {f : Nat → Value} {w : World} (h : mk7C b1 g x W1 R1 R2 R5 L f w) : mk7C b1 g x W1 R1 R2 R5 (fun k => if k = 3 then true else L k) (fun t => if (some 20 : Option Nat) = some t then (.pointer (some ⟨g, 0, none⟩)) else f t) w where
  v0 := by simpa using h.v0
  v3 := fun _ => by simp
  v4 := by simpa using h.v4
  wz := by simpa using h.wz
  w1 := by simpa using h.w1
  w2 := by simpa using h.w2
  w5 := by simpa using h.w5
  d2_1 := by simpa using h.d2_1
  d5_2 := by simpa using h.d5_2
  d2_0 := by simpa using h.d2_0
  d5_4 := by simpa using h.d5_4
theorem mk7_4 {b1 : Nat} {g : Nat} {x : RV} {W1 : World} {R1 : Value → World → Prop} {R2 : Value → World → Prop} {R5 : World → Prop} {L : Nat → Bool} {f : Nat → Value} {w : World} (h : mk7C b1 g x W1 R1 R2 R5 L f w) : mk7C b1 g x W1 R1 R2 R5 (fun k => if k = 4 then true else L k) (fun t => if (some 21 : Option Nat) = some t then (.pointer (some ⟨g, 1, none⟩)) else f t) w where
  v0 := by simpa using h.v0
  v3 := by simpa using h.v3
  v4 := fun _ => by simp
  wz := by simpa using h.wz
  w1 := by simpa using h.w1
  w2 := by simpa using h.w2
  w5 := by simpa using h.w5
  d2_1 := by simpa using h.d2_1
  d5_2 := by simpa using h.d5_2
  d2_0 := by simpa using h.d2_0
  d5_4 := fun _ => by simp
theorem mk7_5 {b1 : Nat} {g : Nat} {x : RV} {W1 : World} {R1 : Value → World → Prop} {R2 : Value → World → Prop} {R5 : World → Prop} {L : Nat → Bool} {f : Nat → Value} {w : World} {v : Value} {w2 : World} (h : mk7C b1 g x W1 R1 R2 R5 L f w) (h1 : L 1 = true) (h2 : L 2 = true) (h5 : L 5 = false) (h4 : L 4 = true) (hp : R5 w2) : mk7C b1 g x W1 R1 R2 R5 (fun k => if k = 5 then true else L k) (fun t => if (none : Option Nat) = some t then v else f t) w2 := by
  constructor
  · simpa using h.v0
  · simpa using h.v3
  · simpa using h.v4
  · intro hh; simp [h1] at hh
  · intro _ hh; simp [h2] at hh
  · intro _ hh; simp at hh
  · intro _; simpa using hp
  · simpa using h.d2_1
  · intro _; simpa using h2
  · simpa using h.d2_0
  · intro _; simpa using h4
def mk7Us (f : Nat → Value) : List (Nat × Value) := [(17, f 17), (18, f 18), (19, f 19), (20, f 20), (21, f 21)]
set_option maxRecDepth 20000 in
set_option maxHeartbeats 2000000 in
theorem mk7_reg {b1 g : Nat} {x : RV} {k1 k2 : Int} {W : World} {S1 S2 S3 : World → Prop} {A0 : Act} {Q : Exit → Act → World → Prop} {id : Nat} (a1 : Act.at A0 1 = .pointer (some ⟨b1, 0, none⟩)) (a5 : Act.at A0 5 = .pointer (some ⟨g, 0, none⟩)) (hsz : 24 ≤ A0.tmps.size) (hB : W.drew.heap[b1]? = some (.cells x.cells.toArray 26 (0, 0)))
    (HC1 : Calls Tryd.prog 20 #[.pointer (some ⟨g, 0, none⟩)] W.drew fun e w' => ∃ v, e = .returned v ∧ (v = .int .i64 k1 ∧ S1 w'))
    (hS1 : ∀ w, S1 w → w.heap[b1]? = some (.cells x.cells.toArray 26 (0, 0)))
    (HC2 : ∀ w, S1 w → Calls Tryd.prog 19 #[.pointer (some ⟨g, 0, none⟩), .agg x.cells.toArray, .int .i64 k1] w fun e w' => ∃ v, e = .returned v ∧ (v = .int .i64 k2 ∧ S2 w'))
    (hS2 : ∀ w, S2 w → ∃ u0, w.cell? ⟨g, 1, none⟩ = some u0 ∧ w.frozen? ⟨g, 1, none⟩ = false ∧ S3 (w.setCell ⟨g, 1, none⟩ (.int .i64 k2)))
    (hk : ∀ (f : Nat → Value) w', S3 w' → Q .normal ⟨(mk7Us f).foldl (fun A p => A.setIfInBounds p.1 p.2) A0.tmps, A0.defers⟩ w') :
    (Code.region id mk7Ops true).wp Tryd.prog Q A0 W := by
  refine wp_region_fun (by kernel_rfl) (fun L f w => mk7C b1 g x W.drew (fun u w => u = .int .i64 k1 ∧ S1 w) (fun u w => u = .int .i64 k2 ∧ S2 w) S3 L f w) [17, 18, 19, 20, 21] (wf_ops2 (by kernel_rfl)) (fun i o ho u hu => ?_) ?_ ?_ ?_
  · have := ops_dst [17, 18, 19, 20, 21] 24 (by kernel_rfl) i o ho u hu
    exact ⟨this.1, Nat.lt_of_lt_of_le this.2 hsz⟩
  · have hs : mk7Ops.size = 6 := rfl
    rw [hs]
    constructor <;> first | exact (fun _ => rfl) | (intro h; simp at h) | (intro h h2; simp at h)
  · rintro L i o ho hLi haf b w hf hc K hK
    have hdep := ops_deps mk7Dep (by kernel_rfl) ho haf
    clear haf
    have hs : mk7Ops.size = 6 := rfl
    have hlt : i < 6 := hs ▸ (Array.getElem?_eq_some_iff.1 ho).1
    have hcases : i = 0 ∨ i = 1 ∨ i = 2 ∨ i = 3 ∨ i = 4 ∨ i = 5 := by omega
    rcases hcases with rfl | rfl | rfl | rfl | rfl | rfl
    · have h1 : (mk7Ops[0]?).map (·.dst) = some (some 17) := by kernel_rfl
      have h2 : (mk7Ops[0]?).map (·.op) = some (Op.load 26 (Operand.tmp 1)) := by kernel_rfl
      rw [ho] at h1 h2
      replace h1 := Option.some.inj h1
      replace h2 := Option.some.inj h2
      simp only at h1 h2
      rw [h1] at hK
      have hcell : w.heap[b1]? = some (.cells x.cells.toArray 26 (0, 0)) := by
        cases hq4 : L 1 with
        | false => rw [hc.wz hq4]; exact hB
        | true =>
          cases hq5 : L 2 with
          | false => exact hS1 w (hc.w1 hq4 hq5).2
          | true => exact absurd (hc.d2_0 hq5) (by rw [hLi]; decide)
      refine wp_load_row 26 (.tmp 1) h2 b1 ((hf 1 (by decide)).trans a1) 26 x.cells.toArray (0, 0) _ hcell Tryd.underlying26 rfl (rx_size x) ?_
      rw [h1]
      exact hK _ _ (mk7_0 hc)
    · have h1 : (mk7Ops[1]?).map (·.dst) = some (some 18) := by kernel_rfl
      have h2 : (mk7Ops[1]?).map (·.op) = some (Op.call { callee := Callee.value (Operand.func 20), args := #[Operand.tmp 5], argTypes := #[57] }) := by kernel_rfl
      rw [ho] at h1 h2
      replace h1 := Option.some.inj h1
      replace h2 := Option.some.inj h2
      simp only at h1 h2
      rw [h1] at hK
      obtain rfl := hc.wz hLi
      refine wp_callG 20 _ _ h2 (enters_of Tryd.func20 (by kernel_rfl) rfl) #[.pointer (some ⟨g, 0, none⟩)] (by simp [show b.eval (.tmp 5) = .pointer (some ⟨g, 0, none⟩) from (hf 5 (by decide)).trans a5]) _ HC1 ?_
      intro v w2 hp
      rw [h1]
      exact hK _ _ (mk7_1 hc hLi hp)
    · have h1 : (mk7Ops[2]?).map (·.dst) = some (some 19) := by kernel_rfl
      have h2 : (mk7Ops[2]?).map (·.op) = some (Op.call { callee := Callee.value (Operand.func 19), args := #[Operand.tmp 5, Operand.tmp 17, Operand.tmp 18], argTypes := #[57, 26, 3] }) := by kernel_rfl
      rw [ho] at h1 h2
      replace h1 := Option.some.inj h1
      replace h2 := Option.some.inj h2
      simp only at h1 h2
      rw [h1] at hK
      have l0 : L 0 = true := hdep 0 (by simp [mk7Dep])
      have l1 : L 1 = true := hdep 1 (by simp [mk7Dep])
      have hq := hc.w1 l1 hLi
      refine wp_callG 19 _ _ h2 (enters_of Tryd.func19 (by kernel_rfl) rfl) #[.pointer (some ⟨g, 0, none⟩), .agg x.cells.toArray, .int .i64 k1] (by simp [show b.eval (.tmp 5) = .pointer (some ⟨g, 0, none⟩) from (hf 5 (by decide)).trans a5, show b.eval (.tmp 17) = _ from hc.v0 l0, show b.eval (.tmp 18) = _ from hq.1]) _ (HC2 w hq.2) ?_
      intro v w2 hp
      rw [h1]
      exact hK _ _ (mk7_2 hc l1 hLi l0 hp)
    · have h1 : (mk7Ops[3]?).map (·.dst) = some (some 20) := by kernel_rfl
      have h2 : (mk7Ops[3]?).map (·.op) = some (Op.fieldAddr 57 (Operand.tmp 5) 0) := by kernel_rfl
      rw [ho] at h1 h2
      replace h1 := Option.some.inj h1
      replace h2 := Option.some.inj h2
      simp only at h1 h2
      rw [h1] at hK
      refine wp_fieldG _ _ _ h2 _ _ ((hf 5 (by decide)).trans a5) (show (Instr.fieldAt 57 (.pointer (some ⟨g, 0, none⟩)) 0).run Tryd.prog w = .ok (.pointer (some ⟨g, 0, none⟩)) w from by kernel_rfl) ?_
      rw [h1]
      exact hK _ _ (mk7_3 hc)
    · have h1 : (mk7Ops[4]?).map (·.dst) = some (some 21) := by kernel_rfl
      have h2 : (mk7Ops[4]?).map (·.op) = some (Op.fieldAddr 33 (Operand.tmp 20) 1) := by kernel_rfl
      rw [ho] at h1 h2
      replace h1 := Option.some.inj h1
      replace h2 := Option.some.inj h2
      simp only at h1 h2
      rw [h1] at hK
      have l3 : L 3 = true := hdep 3 (by simp [mk7Dep])
      refine wp_fieldG _ _ _ h2 _ _ (hc.v3 l3) (show (Instr.fieldAt 33 (.pointer (some ⟨g, 0, none⟩)) 1).run Tryd.prog w = .ok (.pointer (some ⟨g, 1, none⟩)) w from by kernel_rfl) ?_
      rw [h1]
      exact hK _ _ (mk7_4 hc)
    · have h1 : (mk7Ops[5]?).map (·.dst) = some none := by kernel_rfl
      have h2 : (mk7Ops[5]?).map (·.op) = some (Op.store 3 (Operand.tmp 21) (Operand.tmp 19)) := by kernel_rfl
      rw [ho] at h1 h2
      replace h1 := Option.some.inj h1
      replace h2 := Option.some.inj h2
      simp only at h1 h2
      rw [h1] at hK
      have l4 : L 4 = true := hdep 4 (by simp [mk7Dep])
      have l2 : L 2 = true := hdep 2 (by simp [mk7Dep])
      have l1 := hc.d2_1 l2
      have hq := hc.w2 l2 hLi
      obtain ⟨u0, hx1, hx2, hx3⟩ := hS2 w hq.2
      refine wp_stI _ _ h2 ⟨g, 1, none⟩ (hc.v4 l4) k2 hq.1 u0 hx1 hx2 ?_
      rw [h1]
      exact hK _ _ (mk7_5 hc l1 l2 hLi l4 hx3)
  · rintro L b w hL hd hs hf hc
    have hsz2 : mk7Ops.size = 6 := rfl
    rw [hsz2] at hL
    have e := act_eq (a := A0) (b := b) (mk7Us (Act.at b)) hd hs hf (by
      intro p hp
      simp only [mk7Us, List.mem_cons, List.not_mem_nil, or_false] at hp
      rcases hp with rfl | rfl | rfl | rfl | rfl <;> rfl) (by rw [show (mk7Us (Act.at b)).map (·.1) = [17, 18, 19, 20, 21] from rfl]; decide)
    rw [e]
    exact hk (Act.at b) w (hc.w5 (hL 5 (by omega)))
/-- An automaton in memory. -/
def AuV (w : World) (A : Option Addr) (c : Nat) (E : EG) : Prop := ∃ vs, EdV w (fun _ => True) (.slice A E.length c) E vs
theorem AuV.keep {w w' : World} {A : Option Addr} {c : Nat} {E : EG} (h : AuV w A c E) (hb : Below w.heap.size w w') : AuV w' A c E := by
  obtain ⟨vs, h⟩ := h
  refine ⟨vs, h.len, owns_chg h.row (Chg.of_below hb (fun _ => False)) (fun _ _ h => h), fun _ _ => trivial, fun i a b => ⟨owns_chg (h.kid i a b).1 (Chg.of_below hb (fun _ => False)) (fun _ _ h => h), fun _ _ => trivial⟩, h.apart⟩
/-- The automaton of an expression. -/
def autE (t : RT) : EG := (putT t [[]] 0).1
def autF (t : RT) : Nat := (putT t [[]] 0).2
/-- What Make answers. -/
def MakeR (t : RT) (w : World) (e : Ending) (w' : World) : Prop := Below w.heap.size w w' ∧
  ((wgT t ≠ 0 ∧ e = .returned (.tuple #[.agg #[.slice none 0 0, .int .i64 0], .int .i64 (wgT t : Nat)])) ∨
   (wgT t = 0 ∧ 4096 < 1 + adT t ∧ e = .returned (.tuple #[.agg #[.slice none 0 0, .int .i64 0], .int .i64 80])) ∨
   (wgT t = 0 ∧ 1 + adT t ≤ 4096 ∧ ∃ A c, e = .returned (.tuple #[.agg #[.slice A (autE t).length c, .int .i64 (autF t : Nat)], .int .i64 0]) ∧ AuV w' A c (autE t)))
theorem au_size (A : Option Addr) (n c : Nat) (k : Int) : (Tryd.prog.info? 33).map (·.size) = some (#[Value.slice A n c, .int .i64 k] : Array Value).size := by kernel_rfl
theorem res_au (A : Option Addr) (n c : Nat) (k : Int) (tmps : Array Value) (w : World) (g : Nat) (hp : tmps.getD 2 undef = .pointer (some ⟨g, 0, none⟩)) (hg : Blk w g 33 [.slice A n c, .int .i64 k]) :
    (results Tryd.f6 tmps).run Tryd.prog w = .ok (.tuple #[.agg #[.slice A n c, .int .i64 k], tmps.getD 3 undef]) w :=
  results_cell_tmp (P := Tryd.prog) (fn := Tryd.f6) rfl tmps w g 33 #[.slice A n c, .int .i64 k] (0, 0) _ hp hg Tryd.underlying33 rfl (au_size A n c k)
set_option maxRecDepth 100000 in
set_option maxHeartbeats 4000000 in
theorem make_any (v : RV) (t : RT) (w : World) (P : Nat → Prop) (hR : Rep w P v t) (hP : ∀ b, P b → b < w.heap.size) (hs : szT t ≤ 512) : Calls Tryd.prog 6 #[v.val] w (MakeR t w) := by
  have hb1 := al_belowN w (.cells v.cells.toArray 26)
  have hb2 := al_belowN (w.alloc (.cells v.cells.toArray 26)) (.cells #[.slice none 0 0, .int .i64 0] 33)
  have hb := hb1.trans (hb2.mono hb1.size)
  have hN : Blk ((w.alloc (.cells v.cells.toArray 26)).alloc (.cells #[.slice none 0 0, .int .i64 0] 33)) w.heap.size 26 v.cells := (Blk.fresh w 26 v.cells).keep hb2
  have hz1 : (w.alloc (.cells v.cells.toArray 26)).heap.size = w.heap.size + 1 := by simp
  have hZ : Blk ((w.alloc (.cells v.cells.toArray 26)).alloc (.cells #[.slice none 0 0, .int .i64 0] 33)) (w.heap.size + 1) 33 [.slice none 0 0, .int .i64 0] := by
    have := Blk.fresh (w.alloc (.cells v.cells.toArray 26)) 33 [.slice none 0 0, .int .i64 0]
    rw [hz1] at this
    exact this
  have HX := hid hN
  have HZ := hid hZ
  have HB := hid hb
  have HR := hid (show Rep ((w.alloc (.cells v.cells.toArray 26)).alloc (.cells #[.slice none 0 0, .int .i64 0] 33)) P v t from hR.mono hb.size (fun b _ hl => hb.block b hl) (fun _ h _ => h))
  have HP := hid hP
  have HSz := hid hs
  have HCk := hid (fun (W : World) (h : Rep W P v t) (hP : ∀ b, P b → b < W.heap.size) => Check_any h hP hs)
  have HAd := hid (fun (W : World) (h : Rep W P v t) (hP : ∀ b, P b → b < W.heap.size) (h0 : wgT t = 0) => adds_any t v W P h hP h0 hs)
  obtain ⟨RR, hRR⟩ : ∃ RR, RR = MakeR t w := ⟨_, rfl⟩
  rw [← hRR]
  have HRR := hid hRR
  clear hb1 hb2 hb hN hz1 hZ hR hP hs hRR
  unfold RV.val at HCk HAd ⊢
  rw [show (#[.int .i64 v.k, .int .u64 ((wd v.s 0 : Nat) : Int), .int .u64 ((wd v.s 1 : Nat) : Int), .int .u64 ((wd v.s 2 : Nat) : Int), .int .u64 ((wd v.s 3 : Nat) : Int), .slice v.A v.n v.c, .int .i64 v.lo, .int .i64 v.hi] : Array Value) = v.cells.toArray from rfl] at HCk HAd ⊢
  go_enter Tryd.func6, Tryd.ntmps6
  go_upto_region 1 with (fail)
  change Code.wp _ _ _ _ ((w.alloc (.cells v.cells.toArray 26)).alloc (.cells #[.slice none 0 0, .int .i64 0] 33))
  generalize (w.alloc (.cells v.cells.toArray 26)).alloc (.cells #[.slice none 0 0, .int .i64 0] 33) = w1 at *
  obtain ⟨x0, x1, x2, x3, x4, x5, x6, x7⟩ := Blk.cells8' HX.out
  go_wp2_with fail
  refine (HCk.out _ HR.out (fun b hb => Nat.lt_of_lt_of_le (HP.out b hb) HB.out.size)).mono ?_
  rintro e w2 ⟨rfl, hk⟩
  replace HX := hid (HX.out.keep hk)
  replace HZ := hid (HZ.out.keep hk)
  have HR2 := hid (show Rep w2 P v t from HR.out.mono hk.size (fun b _ hl => hk.block b hl) (fun _ h _ => h))
  replace HB := hid (HB.out.trans (hk.mono HB.out.size))
  clear hk HR HCk x0 x1 x2 x3 x4 x5 x6 x7
  obtain ⟨x0, x1, x2, x3, x4, x5, x6, x7⟩ := Blk.cells8' HX.out
  have c0 : w2.cell? ⟨w.heap.size + 1, 0, none⟩ = some (.slice none 0 0) := HZ.out.at 0
  have c1 : w2.cell? ⟨w.heap.size + 1, 1, none⟩ = some (.int .i64 0) := HZ.out.at 1
  have c2 := HZ.out.free 0
  have c3 := HZ.out.free 1
  by_cases h0 : wgT t = 0
  rotate_left
  · have h0' : ¬ (wgT t : Int) = 0 := by omega
    have HW := hid h0
    generalize hq : wgT t = q at *
    have HQ := hid hq
    clear h0 HAd hq
    go_wp2_with fail
    have HZ2 := hid (show Blk ((w2.setCell ⟨w.heap.size + 1, 0, none⟩ (.slice none 0 0)).setCell ⟨w.heap.size + 1, 1, none⟩ (.int .i64 0)) (w.heap.size + 1) 33 [.slice none 0 0, .int .i64 0] from (HZ.out.put 0 (.slice none 0 0)).put 1 (.int .i64 0))
    refine bodyPost_ret (v := .tuple #[.agg #[.slice none 0 0, .int .i64 0], .int .i64 (q : Int)]) (res_au none 0 0 0 _ _ (w.heap.size + 1) rfl HZ2.out) rfl ?_
    rw [HRR.out]
    exact ⟨(HB.out.setCell (p := ⟨w.heap.size + 1, 0, none⟩) (Nat.le_succ _) _).setCell (p := ⟨w.heap.size + 1, 1, none⟩) (Nat.le_succ _) _, .inl ⟨by rw [HQ.out]; exact HW.out, by rw [HQ.out]⟩⟩
  · have HW := hid h0
    have HAc := hid (HAd.out w2 HR2.out (fun b hb => Nat.lt_of_lt_of_le (HP.out b hb) HB.out.size) h0)
    rw [h0]
    have hal := adT_le t
    clear h0 HAd
    obtain ⟨ad, had⟩ : ∃ ad, ad = adT t := ⟨_, rfl⟩
    rw [← had] at HAc hal
    have HAD := hid had
    clear had c0 c1 c2 c3
    go_wp2_with fail
    refine HAc.out.mono ?_
    rintro e w3 ⟨rfl, hk⟩
    replace HX := hid (HX.out.keep hk)
    replace HZ := hid (HZ.out.keep hk)
    have HR3 := hid (show Rep w3 P v t from HR2.out.mono hk.size (fun b _ hl => hk.block b hl) (fun _ h _ => h))
    replace HB := hid (HB.out.trans (hk.mono HB.out.size))
    clear hk HR2 HAc x0 x1 x2 x3 x4 x5 x6 x7
    by_cases hgt : 4096 < 1 + ad
    · have g1 : (4096 : Int) < 1 + (ad : Int) := by omega
      have HGt := hid hgt
      have c0 : w3.cell? ⟨w.heap.size + 1, 0, none⟩ = some (.slice none 0 0) := HZ.out.at 0
      have c1 : w3.cell? ⟨w.heap.size + 1, 1, none⟩ = some (.int .i64 0) := HZ.out.at 1
      have c2 := HZ.out.free 0
      have c3 := HZ.out.free 1
      clear hgt
      go_wp2_with fail
      have HZ2 := hid (show Blk ((w3.setCell ⟨w.heap.size + 1, 0, none⟩ (.slice none 0 0)).setCell ⟨w.heap.size + 1, 1, none⟩ (.int .i64 0)) (w.heap.size + 1) 33 [.slice none 0 0, .int .i64 0] from (HZ.out.put 0 (.slice none 0 0)).put 1 (.int .i64 0))
      refine bodyPost_ret (v := .tuple #[.agg #[.slice none 0 0, .int .i64 0], .int .i64 80]) (res_au none 0 0 0 _ _ (w.heap.size + 1) rfl HZ2.out) rfl ?_
      rw [HRR.out]
      exact ⟨(HB.out.setCell (p := ⟨w.heap.size + 1, 0, none⟩) (Nat.le_succ _) _).setCell (p := ⟨w.heap.size + 1, 1, none⟩) (Nat.le_succ _) _, .inr (.inl ⟨HW.out, by rw [← HAD.out]; exact HGt.out, rfl⟩)⟩
    · have g1 : ¬ (4096 : Int) < 1 + (ad : Int) := by omega
      have HGt := hid hgt
      clear hgt
      go_upto_region 7 with fail
      change Code.wp _ _ _ _ (w3.alloc (.cells #[.slice none 0 0, .int .i64 0] 57))
      have hal3 := al_belowN w3 (.cells #[.slice none 0 0, .int .i64 0] 57)
      have hG3 : Blk (w3.alloc (.cells #[.slice none 0 0, .int .i64 0] 57)) w3.heap.size 57 [.slice none 0 0, .int .i64 0] := Blk.fresh w3 _ _
      have hlt3 := HB.out.size
      have hxlt := HX.out.lt
      have hzlt := HZ.out.lt
      have HRp := hid (show Rp (w3.alloc (.cells #[.slice none 0 0, .int .i64 0] 57)) (fun b => b = w3.heap.size) v t from HR3.out.mono hal3.size (fun b _ hl => hal3.block b hl) (fun b hp hl => ⟨Nat.lt_of_lt_of_le hl hal3.size, by have := HP.out b hp; omega⟩))
      have HBX := hid (show Bx (w3.alloc (.cells #[.slice none 0 0, .int .i64 0] 57)) (fun b => b = w3.heap.size) w.heap.size 26 v.cells from ⟨HX.out.keep hal3, by omega⟩)
      have HBZ := hid (show Bx (w3.alloc (.cells #[.slice none 0 0, .int .i64 0] 57)) (fun b => b = w3.heap.size) (w.heap.size + 1) 33 [.slice none 0 0, .int .i64 0] from ⟨HZ.out.keep hal3, by omega⟩)
      have HMk := hid (show MkR (w3.alloc (.cells #[.slice none 0 0, .int .i64 0] 57)) (fun b => b = w3.heap.size) w3.heap.size [] from ⟨none, 0, [], hG3, rfl, EdV.nil _ _⟩)
      have HOl := hid (show ∀ b, (fun b => b = w3.heap.size) b → b < (w3.alloc (.cells #[.slice none 0 0, .int .i64 0] 57)).heap.size from fun b hb => by
        have h1 : b = w3.heap.size := hb
        rw [h1]
        exact hG3.lt)
      have HB4 := hid (HB.out.trans (hal3.mono HB.out.size))
      have hcn := ad_cn t HW.out
      have hcn2 : cnT t ≤ 4095 := by rw [← HAD.out] at hcn; have := HGt.out; omega
      have HRes := hid (show (autE t) = (putT t [[]] 0).1 ∧ autF t = (putT t [[]] 0).2 from ⟨rfl, rfl⟩)
      have hgw : w.heap.size ≤ w3.heap.size := hlt3
      clear hal3 hG3 hlt3 hxlt hzlt hcn HX HZ HB HR3
      generalize hgg : w3.heap.size = g at *
      generalize w3.alloc (.cells #[.slice none 0 0, .int .i64 0] 57) = w4 at *
      have hdr : Below w4.heap.size w4 w4.drew := ⟨rfl, rfl, rfl, Nat.le_refl _, fun _ _ => rfl⟩
      refine mk7_reg (b1 := w.heap.size) (g := g) (x := v) (k1 := 0) (k2 := ((autF t : Nat) : Int))
        (S1 := fun wf => ∃ O1, MAt w4 (fun b => b = g) g wf O1 [[]] ∧ Bx wf O1 w.heap.size 26 v.cells ∧ Bx wf O1 (w.heap.size + 1) 33 [.slice none 0 0, .int .i64 0] ∧ Rp wf O1 v t)
        (S2 := fun wf => ∃ O1, MAt w4 (fun b => b = g) g wf O1 (autE t) ∧ Bx wf O1 (w.heap.size + 1) 33 [.slice none 0 0, .int .i64 0])
        (S3 := fun wf => ∃ A c, Blk wf g 57 [.slice A (autE t).length c, .int .i64 ((autF t : Nat) : Int)] ∧ AuV wf A c (autE t) ∧ Blk wf (w.heap.size + 1) 33 [.slice none 0 0, .int .i64 0] ∧ Below w.heap.size w wf)
        rfl rfl (by simp) HBX.out.1 ?_ ?_ ?_ ?_ ?_
      · have hk := state_any (HMk.out.keep hdr) (by simp) (fun b hb => HOl.out b hb)
        refine hk.mono ?_
        rintro e wf ⟨rfl, hk⟩
        obtain ⟨Ok, ha, hc, hn⟩ := MAt.call ((MAt.start HMk.out HOl.out).keep hdr) hk
        exact ⟨_, rfl, rfl, Ok, ha, (HBX.out.keep hdr).call hc hn, (HBZ.out.keep hdr).call hc hn, (HRp.out.keep hdr).call hc hn⟩
      · rintro wf ⟨O1, ha, hx, hz, hr⟩
        exact hx.1
      · rintro wf ⟨O1, ha, hx, hz, hr⟩
        have h1 := put_any t v wf O1 g [[]] 0 hr ha.rd ha.lt HW.out HSz.out (by decide) (by show 1 + cnT t ≤ 4200; omega) (by show 0 + 2 * cnT t ≤ 20000; omega)
        refine h1.mono ?_
        rintro e w6 ⟨rfl, hk⟩
        obtain ⟨Ok, hb, hc, hn⟩ := MAt.call ha hk
        exact ⟨_, rfl, rfl, Ok, hb, hz.call hc hn⟩
      · rintro wf ⟨O1, ha, hz⟩
        obtain ⟨A, c, vs, q1, q2, q3⟩ := ha.rd
        refine ⟨_, q1.at 1, q1.free 1, A, c, q1.put 1 _, ⟨vs, (q3.other q1 (by decide) (by decide) 1 _).mono (fun _ _ => trivial)⟩, hz.1.other (p := ⟨g, 1, none⟩) (fun e => hz.2 (by rw [e]; exact q2)) _, ?_⟩
        have h5 := Chg.below HB4.out ha.ch HB4.out.size (fun j hj => by have h9 : j = g := hj; omega)
        exact h5.setCell (p := ⟨g, 1, none⟩) hgw _
      · rintro f2 wf ⟨A, c, q1, q2, q3, q4⟩
        simp only [mk7Us, List.foldl_cons, List.foldl_nil, List.setIfInBounds_toArray, List.set_cons_zero, List.set_cons_succ]
        have d0 := q1.at 0
        have d1 := q1.at 1
        simp only [List.getElem?_cons_zero, List.getElem?_cons_succ] at d0 d1
        have c0 : wf.cell? ⟨w.heap.size + 1, 0, none⟩ = some (.slice none 0 0) := q3.at 0
        have c1 : wf.cell? ⟨w.heap.size + 1, 1, none⟩ = some (.int .i64 0) := q3.at 1
        have c2 := q3.free 0
        have c3 := q3.free 1
        have HQ2 := hid q2
        have HQ3 := hid q3
        have HQ4 := hid q4
        clear q1 q2 q3 q4 HRp HBX HBZ HMk HOl HB4 hdr hgg
        go_wp2_with fail
        have HZ2 := hid (show Blk ((wf.setCell ⟨w.heap.size + 1, 0, none⟩ (.slice A (autE t).length c)).setCell ⟨w.heap.size + 1, 1, none⟩ (.int .i64 ((autF t : Nat) : Int))) (w.heap.size + 1) 33 [.slice A (autE t).length c, .int .i64 ((autF t : Nat) : Int)] from (HQ3.out.put 0 _).put 1 _)
        refine bodyPost_ret (v := .tuple #[.agg #[.slice A (autE t).length c, .int .i64 ((autF t : Nat) : Int)], .int .i64 0]) (res_au A _ c _ _ _ (w.heap.size + 1) rfl HZ2.out) rfl ?_
        rw [HRR.out]
        refine ⟨(HQ4.out.setCell (p := ⟨w.heap.size + 1, 0, none⟩) (Nat.le_succ _) _).setCell (p := ⟨w.heap.size + 1, 1, none⟩) (Nat.le_succ _) _, .inr (.inr ⟨HW.out, by rw [← HAD.out]; have := HGt.out; omega, A, c, rfl, ?_⟩)⟩
        obtain ⟨vs, q⟩ := HQ2.out
        exact ⟨vs, (q.other HQ3.out (by decide) (by decide) 0 _).other (HQ3.out.put 0 _) (by decide) (by decide) 1 _⟩
end Go.Proofs.YtoiegkejkahfgaaDoor
