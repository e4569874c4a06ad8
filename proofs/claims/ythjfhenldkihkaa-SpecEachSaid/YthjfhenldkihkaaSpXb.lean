/- spec: Clone's loop's statement, in open order. -/
import Derived.Test.YthjfhenldkihkaaSpXa
namespace Go.Proofs.Ythjfhenldkihkaa
set_option linter.unusedSimpArgs false
set_option linter.unusedVariables false
open Go.RowKit

def cl5Ops : Array Oper := #[{ dst := some 21, op := Op.fieldAddr 25 (Operand.tmp 1) 0, type := 0, pos := "spec.go:92", after := #[], guard := none }, { dst := some 22, op := Op.load 22 (Operand.tmp 21), type := 22, pos := "spec.go:92", after := #[{ on := 0, ground := Ground.data }], guard := none }, { dst := some 23, op := Op.move (Operand.tmp 3), type := 3, pos := "spec.go:92", after := #[], guard := none }, { dst := some 24, op := Op.load 49 (Operand.tmp 4), type := 49, pos := "spec.go:92", after := #[], guard := none }, { dst := some 25, op := Op.call { callee := Callee.value (Operand.func 30), args := #[Operand.tmp 24], argTypes := #[49] }, type := 49, pos := "spec.go:92", after := #[{ on := 3, ground := Ground.data }], guard := none }, { dst := some 26, op := Op.indexAddr 22 (Operand.tmp 22) (Operand.tmp 23), type := 0, pos := "spec.go:92", after := #[{ on := 1, ground := Ground.data }, { on := 2, ground := Ground.data }, { on := 0, ground := Ground.phase }, { on := 1, ground := Ground.phase }, { on := 2, ground := Ground.phase }, { on := 3, ground := Ground.phase }, { on := 4, ground := Ground.phase }], guard := none }, { dst := none, op := Op.store 49 (Operand.tmp 26) (Operand.tmp 25), type := 0, pos := "spec.go:92", after := #[{ on := 5, ground := Ground.data }, { on := 4, ground := Ground.data }, { on := 4, ground := Ground.chain }, { on := 0, ground := Ground.phase }, { on := 1, ground := Ground.phase }, { on := 2, ground := Ground.phase }, { on := 3, ground := Ground.phase }, { on := 4, ground := Ground.phase }], guard := none }]
def cl5Dep : Nat → List Nat := fun i => match i with | 1 => [0] | 4 => [3] | 5 => [1, 2, 4] | 6 => [1, 4, 5] | _ => []
structure cl5C (g : Nat) (gn : Nat) (n : Nat) (c : Nat) (j : Nat) (cs : Array Value) (W1 : World) (R4 : Value → World → Prop) (R6 : World → Prop) (L : Nat → Bool) (f : Nat → Value) (w : World) : Prop where
  v0 : L 0 = true → f 21 = .pointer (some ⟨g, 0, none⟩)
  v1 : L 1 = true → f 22 = .slice (some ⟨gn, 0, none⟩) n c
  v2 : L 2 = true → f 23 = .int .i64 (j : Int)
  v3 : L 3 = true → f 24 = .agg cs
  v5 : L 5 = true → f 26 = .pointer (some ⟨gn, j * 18, none⟩)
  wz : L 4 = false → w = W1
  w4 : L 4 = true → L 6 = false → R4 (f 25) w
  w6 : L 6 = true → R6 w
  d6_4 : L 6 = true → L 4 = true
  d4_3 : L 4 = true → L 3 = true
  d6_1 : L 6 = true → L 1 = true
theorem cl5_0 {g : Nat} {gn : Nat} {n : Nat} {c : Nat} {j : Nat} {cs : Array Value} {W1 : World} {R4 : Value → World → Prop} {R6 : World → Prop} {L : Nat → Bool} {f : Nat → Value} {w : World} (h : cl5C g gn n c j cs W1 R4 R6 L f w) : cl5C g gn n c j cs W1 R4 R6 (fun k => if k = 0 then true else L k) (fun t => if (some 21 : Option Nat) = some t then (.pointer (some ⟨g, 0, none⟩)) else f t) w where
  v0 := fun _ => by simp
  v1 := by simpa using h.v1
  v2 := by simpa using h.v2
  v3 := by simpa using h.v3
  v5 := by simpa using h.v5
  wz := by simpa using h.wz
  w4 := by simpa using h.w4
  w6 := by simpa using h.w6
  d6_4 := by simpa using h.d6_4
  d4_3 := by simpa using h.d4_3
  d6_1 := by simpa using h.d6_1
theorem cl5_1 {g : Nat} {gn : Nat} {n : Nat} {c : Nat} {j : Nat} {cs : Array Value} {W1 : World} {R4 : Value → World → Prop} {R6 : World → Prop} {L : Nat → Bool} {f : Nat → Value} {w : World} (h : cl5C g gn n c j cs W1 R4 R6 L f w) : cl5C g gn n c j cs W1 R4 R6 (fun k => if k = 1 then true else L k) (fun t => if (some 22 : Option Nat) = some t then (.slice (some ⟨gn, 0, none⟩) n c) else f t) w where
  v0 := by simpa using h.v0
  v1 := fun _ => by simp
  v2 := by simpa using h.v2
  v3 := by simpa using h.v3
  v5 := by simpa using h.v5
  wz := by simpa using h.wz
  w4 := by simpa using h.w4
  w6 := by simpa using h.w6
  d6_4 := by simpa using h.d6_4
  d4_3 := by simpa using h.d4_3
  d6_1 := fun _ => by simp
theorem cl5_2 {g : Nat} {gn : Nat} {n : Nat} {c : Nat} {j : Nat} {cs : Array Value} {W1 : World} {R4 : Value → World → Prop} {R6 : World → Prop} {L : Nat → Bool} {f : Nat → Value} {w : World} (h : cl5C g gn n c j cs W1 R4 R6 L f w) : cl5C g gn n c j cs W1 R4 R6 (fun k => if k = 2 then true else L k) (fun t => if (some 23 : Option Nat) = some t then (.int .i64 (j : Int)) else f t) w where
  v0 := by simpa using h.v0
  v1 := by simpa using h.v1
  v2 := fun _ => by simp
  v3 := by simpa using h.v3
  v5 := by simpa using h.v5
  wz := by simpa using h.wz
  w4 := by simpa using h.w4
  w6 := by simpa using h.w6
  d6_4 := by simpa using h.d6_4
  d4_3 := by simpa using h.d4_3
  d6_1 := by simpa using h.d6_1
theorem cl5_3 {g : Nat} {gn : Nat} {n : Nat} {c : Nat} {j : Nat} {cs : Array Value} {W1 : World} {R4 : Value → World → Prop} {R6 : World → Prop} {L : Nat → Bool} {f : Nat → Value} {w : World} (h : cl5C g gn n c j cs W1 R4 R6 L f w) : cl5C g gn n c j cs W1 R4 R6 (fun k => if k = 3 then true else L k) (fun t => if (some 24 : Option Nat) = some t then (.agg cs) else f t) w where
  v0 := by simpa using h.v0
  v1 := by simpa using h.v1
  v2 := by simpa using h.v2
  v3 := fun _ => by simp
  v5 := by simpa using h.v5
  wz := by simpa using h.wz
  w4 := by simpa using h.w4
  w6 := by simpa using h.w6
  d6_4 := by simpa using h.d6_4
  d4_3 := fun _ => by simp
  d6_1 := by simpa using h.d6_1
theorem cl5_4 {g : Nat} {gn : Nat} {n : Nat} {c : Nat} {j : Nat} {cs : Array Value} {W1 : World} {R4 : Value → World → Prop} {R6 : World → Prop} {L : Nat → Bool} {f : Nat → Value} {w : World} {v : Value} {w2 : World} (h : cl5C g gn n c j cs W1 R4 R6 L f w) (h4 : L 4 = false) (h3 : L 3 = true) (hp : R4 v w2) : cl5C g gn n c j cs W1 R4 R6 (fun k => if k = 4 then true else L k) (fun t => if (some 25 : Option Nat) = some t then v else f t) w2 := by
  have h6 : L 6 = false := by cases hh : L 6 with | false => rfl | true => exact absurd (h.d6_4 hh) (by rw [h4]; decide)
  constructor
  · simpa using h.v0
  · simpa using h.v1
  · simpa using h.v2
  · simpa using h.v3
  · simpa using h.v5
  · intro hh; simp at hh
  · intro _ _; simpa using hp
  · intro hh; simp [h6] at hh
  · intro _; simp
  · intro _; simpa using h3
  · simpa using h.d6_1
theorem cl5_5 {g : Nat} {gn : Nat} {n : Nat} {c : Nat} {j : Nat} {cs : Array Value} {W1 : World} {R4 : Value → World → Prop} {R6 : World → Prop} {L : Nat → Bool} {f : Nat → Value} {w : World} (h : cl5C g gn n c j cs W1 R4 R6 L f w) : cl5C g gn n c j cs W1 R4 R6 (fun k => if k = 5 then true else L k) (fun t => if (some 26 : Option Nat) = some t then (.pointer (some ⟨gn, j * 18, none⟩)) else f t) w where
  v0 := by simpa using h.v0
  v1 := by simpa using h.v1
  v2 := by simpa using h.v2
  v3 := by simpa using h.v3
  v5 := fun _ => by simp
  wz := by simpa using h.wz
  w4 := by simpa using h.w4
  w6 := by simpa using h.w6
  d6_4 := by simpa using h.d6_4
  d4_3 := by simpa using h.d4_3
  d6_1 := by simpa using h.d6_1
theorem cl5_6 {g : Nat} {gn : Nat} {n : Nat} {c : Nat} {j : Nat} {cs : Array Value} {W1 : World} {R4 : Value → World → Prop} {R6 : World → Prop} {L : Nat → Bool} {f : Nat → Value} {w : World} {v : Value} {w2 : World} (h : cl5C g gn n c j cs W1 R4 R6 L f w) (h4 : L 4 = true) (h6 : L 6 = false) (h1 : L 1 = true) (hp : R6 w2) : cl5C g gn n c j cs W1 R4 R6 (fun k => if k = 6 then true else L k) (fun t => if (none : Option Nat) = some t then v else f t) w2 := by
  constructor
  · simpa using h.v0
  · simpa using h.v1
  · simpa using h.v2
  · simpa using h.v3
  · simpa using h.v5
  · intro hh; simp [h4] at hh
  · intro _ hh; simp at hh
  · intro _; simpa using hp
  · intro _; simpa using h4
  · simpa using h.d4_3
  · intro _; simpa using h1
def cl5Us (f : Nat → Value) : List (Nat × Value) := [(21, f 21), (22, f 22), (23, f 23), (24, f 24), (25, f 25), (26, f 26)]
theorem wp_indexN {o : Oper} {a : Act} {w : World} {K : Act → World → Prop} {Q : Exit → Act → World → Prop} (x y : Operand) (ho : o.op = .indexAddr 22 x y) (gn n c j : Nat) (hx : a.eval x = .slice (some ⟨gn, 0, none⟩) n c) (hy : a.eval y = .int .i64 (j : Int)) (hj : j < n) (h : K (a.put o.dst (.pointer (some ⟨gn, j * 18, none⟩))) w) : o.wp Try.prog a w K Q := by
  unfold Oper.wp
  have hj' : (j : Int) < (n : Int) := by omega
  have e : (execOp a.eval o).run Try.prog w = .ok (.value (.pointer (some ⟨gn, j * 18, none⟩))) w := by
    unfold execOp
    simp only [ho, hx, hy]
    go_simp
  rw [e]
  exact h
set_option maxRecDepth 10000 in
set_option maxHeartbeats 1000000 in
theorem cl5_reg {g gn n c j g5 : Nat} {cs : Array Value} {W : World} {R4 : NV → World → Prop} {R6 : World → Prop} {A0 : Act} {Q : Exit → Act → World → Prop} {id : Nat} (a1 : Act.at A0 1 = .pointer (some ⟨g, 0, none⟩)) (a3 : Act.at A0 3 = .int .i64 (j : Int)) (a4 : Act.at A0 4 = .pointer (some ⟨g5, 0, none⟩)) (hsz : 27 ≤ A0.tmps.size) (hj : j < n) (hB : W.cell? ⟨g, 0, none⟩ = some (.slice (some ⟨gn, 0, none⟩) n c)) (hN : W.heap[g5]? = some (.cells cs 49)) (hsz5 : (Try.prog.info? 49).map (·.size) = some cs.size)
    (HC : Calls Try.prog 30 #[.agg cs] W.drew fun e w' => ∃ v, e = .returned v ∧ (fun u w => ∃ y : NV, u = .agg y.cells.toArray ∧ R4 y w) v w')
    (hR4 : ∀ y w, R4 y w → w.cell? ⟨g, 0, none⟩ = some (.slice (some ⟨gn, 0, none⟩) n c) ∧ w.there gn (j * 18) y.cells.toArray.size ∧ R6 (w.setCells gn (j * 18) y.cells.toArray.toList))
    (hk : ∀ (f : Nat → Value) w', R6 w' → Q .normal ⟨(cl5Us f).foldl (fun A p => A.setIfInBounds p.1 p.2) A0.tmps, A0.defers⟩ w') :
    (Code.region id cl5Ops true).wp Try.prog Q A0 W := by
  refine wp_region_fun (by kernel_rfl) (fun L f w => cl5C g gn n c j cs W.drew (fun u w => ∃ y : NV, u = .agg y.cells.toArray ∧ R4 y w) R6 L f w) [21, 22, 23, 24, 25, 26] (wf_ops2 (by kernel_rfl)) (fun i o ho u hu => ?_) ?_ ?_ ?_
  · have := ops_dst [21, 22, 23, 24, 25, 26] 27 (by kernel_rfl) i o ho u hu
    exact ⟨this.1, Nat.lt_of_lt_of_le this.2 hsz⟩
  · have hs : cl5Ops.size = 7 := rfl
    rw [hs]
    constructor <;> first | exact (fun _ => rfl) | (intro h; simp at h) | (intro h h2; simp at h)
  · rintro L i o ho hLi haf b w hf hc K hK
    have hdep := ops_deps cl5Dep (by kernel_rfl) ho haf
    clear haf
    have hs : cl5Ops.size = 7 := rfl
    have hlt : i < 7 := hs ▸ (Array.getElem?_eq_some_iff.1 ho).1
    have hcases : i = 0 ∨ i = 1 ∨ i = 2 ∨ i = 3 ∨ i = 4 ∨ i = 5 ∨ i = 6 := by omega
    rcases hcases with rfl | rfl | rfl | rfl | rfl | rfl | rfl
    · have h1 : (cl5Ops[0]?).map (·.dst) = some (some 21) := by kernel_rfl
      have h2 : (cl5Ops[0]?).map (·.op) = some (.fieldAddr 25 (.tmp 1) 0) := by kernel_rfl
      rw [ho] at h1 h2
      replace h1 := Option.some.inj h1
      replace h2 := Option.some.inj h2
      simp only at h1 h2
      rw [h1] at hK
      refine wp_fieldG _ _ _ h2 _ _ ((hf 1 (by decide)).trans a1) (field_0S g w) ?_
      rw [h1]
      exact hK _ _ (cl5_0 hc)
    · have h1 : (cl5Ops[1]?).map (·.dst) = some (some 22) := by kernel_rfl
      have h2 : (cl5Ops[1]?).map (·.op) = some (.load 22 (.tmp 21)) := by kernel_rfl
      rw [ho] at h1 h2
      replace h1 := Option.some.inj h1
      replace h2 := Option.some.inj h2
      simp only at h1 h2
      rw [h1] at hK
      have l0 : L 0 = true := hdep 0 (by simp [cl5Dep])
      have hcell : w.cell? ⟨g, 0, none⟩ = some (.slice (some ⟨gn, 0, none⟩) n c) := by
        cases h4' : L 4 with
        | false => rw [hc.wz h4']; exact hB
        | true =>
          cases h6 : L 6 with
          | true => exact absurd (hc.d6_1 h6) (by rw [hLi]; decide)
          | false => obtain ⟨y, _, hy⟩ := hc.w4 h4' h6; exact (hR4 y w hy).1
      refine wp_loadG _ _ h2 _ _ (hc.v0 l0) (load_slN hcell) ?_
      rw [h1]
      exact hK _ _ (cl5_1 hc)
    · have h1 : (cl5Ops[2]?).map (·.dst) = some (some 23) := by kernel_rfl
      have h2 : (cl5Ops[2]?).map (·.op) = some (.move (.tmp 3)) := by kernel_rfl
      rw [ho] at h1 h2
      replace h1 := Option.some.inj h1
      replace h2 := Option.some.inj h2
      simp only at h1 h2
      rw [h1] at hK
      refine wp_moveG _ h2 _ ((hf 3 (by decide)).trans a3) ?_
      rw [h1]
      exact hK _ _ (cl5_2 hc)
    · have h1 : (cl5Ops[3]?).map (·.dst) = some (some 24) := by kernel_rfl
      have h2 : (cl5Ops[3]?).map (·.op) = some (.load 49 (.tmp 4)) := by kernel_rfl
      rw [ho] at h1 h2
      replace h1 := Option.some.inj h1
      replace h2 := Option.some.inj h2
      simp only at h1 h2
      rw [h1] at hK
      have hw : w = W.drew := by
        cases h4' : L 4 with
        | true => exact absurd (hc.d4_3 h4') (by rw [hLi]; decide)
        | false => exact hc.wz h4'
      subst hw
      refine wp_load_row 49 (.tmp 4) h2 g5 ((hf 4 (by decide)).trans a4) 49 cs (0, 0) _ hN Try.underlying49 rfl hsz5 ?_
      rw [h1]
      exact hK _ _ (cl5_3 hc)
    · have h1 : (cl5Ops[4]?).map (·.dst) = some (some 25) := by kernel_rfl
      have h2 : (cl5Ops[4]?).map (·.op) = some (.call { callee := .value (.func 30), args := #[.tmp 24], argTypes := #[49] }) := by kernel_rfl
      rw [ho] at h1 h2
      replace h1 := Option.some.inj h1
      replace h2 := Option.some.inj h2
      simp only at h1 h2
      rw [h1] at hK
      have l3 : L 3 = true := hdep 3 (by simp [cl5Dep])
      obtain rfl := hc.wz hLi
      refine wp_callG 30 _ _ h2 enters_own #[.agg cs] (by simp [show b.eval (.tmp 24) = _ from hc.v3 l3]) _ HC ?_
      intro v w2 hp
      rw [h1]
      exact hK _ _ (cl5_4 hc hLi l3 hp)
    · have h1 : (cl5Ops[5]?).map (·.dst) = some (some 26) := by kernel_rfl
      have h2 : (cl5Ops[5]?).map (·.op) = some (.indexAddr 22 (.tmp 22) (.tmp 23)) := by kernel_rfl
      rw [ho] at h1 h2
      replace h1 := Option.some.inj h1
      replace h2 := Option.some.inj h2
      simp only at h1 h2
      rw [h1] at hK
      have l1 : L 1 = true := hdep 1 (by simp [cl5Dep])
      have l2 : L 2 = true := hdep 2 (by simp [cl5Dep])
      have l4 : L 4 = true := hdep 4 (by simp [cl5Dep])
      refine wp_indexN _ _ h2 gn n c j (hc.v1 l1) (hc.v2 l2) hj ?_
      rw [h1]
      exact hK _ _ (cl5_5 hc)
    · have h1 : (cl5Ops[6]?).map (·.dst) = some none := by kernel_rfl
      have h2 : (cl5Ops[6]?).map (·.op) = some (.store 49 (.tmp 26) (.tmp 25)) := by kernel_rfl
      rw [ho] at h1 h2
      replace h1 := Option.some.inj h1
      replace h2 := Option.some.inj h2
      simp only at h1 h2
      rw [h1] at hK
      have l1 : L 1 = true := hdep 1 (by simp [cl5Dep])
      have l4 : L 4 = true := hdep 4 (by simp [cl5Dep])
      have l5 : L 5 = true := hdep 5 (by simp [cl5Dep])
      obtain ⟨y, hu, hy⟩ := hc.w4 l4 hLi
      refine wp_store_mid 49 _ _ h2 gn (j * 18) y.cells.toArray (hc.v5 l5) hu (hR4 y w hy).2.1 (nv_size y) (nv_one y) ?_
      rw [h1]
      exact hK _ _ (cl5_6 hc l4 hLi l1 (hR4 y w hy).2.2)
  · rintro L b w hL hd hs hf hc
    have hsz2 : cl5Ops.size = 7 := rfl
    rw [hsz2] at hL
    have e := act_eq (a := A0) (b := b) (cl5Us (Act.at b)) hd hs hf (by
      intro p hp
      simp only [cl5Us, List.mem_cons, List.not_mem_nil, or_false] at hp
      rcases hp with rfl | rfl | rfl | rfl | rfl | rfl <;> rfl) (by rw [show (cl5Us (Act.at b)).map (·.1) = [21, 22, 23, 24, 25, 26] from rfl]; decide)
    rw [e]
    exact hk (Act.at b) w (hc.w6 (hL 6 (by omega)))
end Go.Proofs.Ythjfhenldkihkaa
