/- nfa: Reach: the region that makes the walk, in open order. -/
import Derived.Test.YtoiegkejkahfgaaDoorNfN
import Derived.Test.YtoiegkejkahfgaaDoorNfK
import Derived.Laws.Tables
import Derived.Deep.LoopGhost
namespace Go.Proofs.YtoiegkejkahfgaaDoor
set_option linter.unusedSimpArgs false
set_option linter.unusedVariables false
open Go.RowKit

def rc1Ops : Array Oper := #[{ dst := some 11, op := Op.load 33 (Operand.tmp 2), type := 33, pos := "nfa.go:34", after := #[], guard := none }, { dst := some 12, op := Op.load 33 (Operand.tmp 2), type := 33, pos := "nfa.go:34", after := #[], guard := none }, { dst := some 13, op := Op.call { callee := Callee.value (Operand.func 16), args := #[Operand.tmp 12], argTypes := #[33] }, type := 3, pos := "nfa.go:34", after := #[{ on := 1, ground := Ground.data }], guard := none }, { dst := some 14, op := Op.makeSlice 84 (Operand.tmp 13) (Operand.tmp 13), type := 84, pos := "nfa.go:34", after := #[{ on := 2, ground := Ground.data }, { on := 2, ground := Ground.data }], guard := none }, { dst := some 15, op := Op.build 86 #[(0, Operand.tmp 11), (1, Operand.tmp 14)], type := 86, pos := "nfa.go:34", after := #[{ on := 0, ground := Ground.data }, { on := 3, ground := Ground.data }], guard := none }, { dst := some 5, op := Op.alloc 86, type := 0, pos := "nfa.go:34", after := #[], guard := none }, { dst := none, op := Op.store 86 (Operand.tmp 5) (Operand.tmp 15), type := 0, pos := "nfa.go:34", after := #[{ on := 5, ground := Ground.data }, { on := 4, ground := Ground.data }, { on := 2, ground := Ground.chain }, { on := 0, ground := Ground.phase }, { on := 1, ground := Ground.phase }, { on := 2, ground := Ground.phase }, { on := 3, ground := Ground.phase }, { on := 4, ground := Ground.phase }, { on := 5, ground := Ground.phase }], guard := none }]
def rc1Dep : Nat → List Nat := fun i => match i with | 2 => [1] | 3 => [2] | 4 => [0, 3] | 6 => [0, 1, 2, 3, 4, 5] | _ => []
structure rc1C (W1 : World) (A : Option Addr) (n c : Nat) (en : Int) (L : Nat → Bool) (f : Nat → Value) (w : World) : Prop where
  bel : Below W1.heap.size W1 w
  v0 : L 0 = true → f 11 = .agg #[.slice A n c, .int .i64 en]
  v1 : L 1 = true → f 12 = .agg #[.slice A n c, .int .i64 en]
  v2 : L 2 = true → f 13 = .int .i64 (n : Int)
  v3 : L 3 = true → ∃ bS, f 14 = .slice (some ⟨bS, 0, none⟩) n n ∧ W1.heap.size ≤ bS ∧ Blk w bS 4 (List.replicate n (Value.bool false)) ∧ (L 4 = true → f 15 = .agg #[.slice A n c, .int .i64 en, .slice (some ⟨bS, 0, none⟩) n n, .int .i64 0, .slice none 0 0])
  v5 : L 5 = true → ∃ B, f 5 = .pointer (some ⟨B, 0, none⟩) ∧ W1.heap.size ≤ B ∧ (L 6 = false → Blk w B 86 [.slice none 0 0, .int .i64 0, .slice none 0 0, .int .i64 0, .slice none 0 0])
  w6 : L 6 = true → ∃ B bS, f 5 = .pointer (some ⟨B, 0, none⟩) ∧ W1.heap.size ≤ B ∧ W1.heap.size ≤ bS ∧ Blk w bS 4 (List.replicate n (Value.bool false)) ∧ Blk w B 86 [.slice A n c, .int .i64 en, .slice (some ⟨bS, 0, none⟩) n n, .int .i64 0, .slice none 0 0]
  d43 : L 4 = true → L 3 = true
  d6 : L 6 = true → ∀ i, i < 6 → L i = true
theorem rc1_0 {W1 : World} {A : Option Addr} {n c : Nat} {en : Int} {L : Nat → Bool} {f : Nat → Value} {w : World}  (h : rc1C W1 A n c en L f w) (hLi : L 0 = false) (hb : Below w.heap.size w w) : rc1C W1 A n c en (fun k => if k = 0 then true else L k) (fun t => if (some 11 : Option Nat) = some t then (.agg #[.slice A n c, .int .i64 en]) else f t) w := by
  have h6 : L 6 = false := by cases hh : L 6 with | false => rfl | true => exact absurd (h.d6 hh 0 (by omega)) (by rw [hLi]; decide)
  refine ⟨h.bel.trans (hb.mono h.bel.size), ?_, ?_, ?_, ?_, ?_, ?_, ?_, ?_⟩
  · intro _; simp
  · simpa using h.v1
  · simpa using h.v2
  · intro hh; obtain ⟨bS, e, l, k, q⟩ := h.v3 (by simpa using hh); exact ⟨bS, by simpa using e, l, k.keep hb, by simpa using q⟩
  · intro hh; obtain ⟨B, e, l, k⟩ := h.v5 (by simpa using hh); exact ⟨B, by simpa using e, l, fun _ => (k h6).keep hb⟩
  · intro hh; simp [h6] at hh
  · simpa using h.d43
  · intro hh; simp [h6] at hh
theorem rc1_1 {W1 : World} {A : Option Addr} {n c : Nat} {en : Int} {L : Nat → Bool} {f : Nat → Value} {w : World}  (h : rc1C W1 A n c en L f w) (hLi : L 1 = false) (hb : Below w.heap.size w w) : rc1C W1 A n c en (fun k => if k = 1 then true else L k) (fun t => if (some 12 : Option Nat) = some t then (.agg #[.slice A n c, .int .i64 en]) else f t) w := by
  have h6 : L 6 = false := by cases hh : L 6 with | false => rfl | true => exact absurd (h.d6 hh 1 (by omega)) (by rw [hLi]; decide)
  refine ⟨h.bel.trans (hb.mono h.bel.size), ?_, ?_, ?_, ?_, ?_, ?_, ?_, ?_⟩
  · simpa using h.v0
  · intro _; simp
  · simpa using h.v2
  · intro hh; obtain ⟨bS, e, l, k, q⟩ := h.v3 (by simpa using hh); exact ⟨bS, by simpa using e, l, k.keep hb, by simpa using q⟩
  · intro hh; obtain ⟨B, e, l, k⟩ := h.v5 (by simpa using hh); exact ⟨B, by simpa using e, l, fun _ => (k h6).keep hb⟩
  · intro hh; simp [h6] at hh
  · simpa using h.d43
  · intro hh; simp [h6] at hh
theorem rc1_2 {W1 : World} {A : Option Addr} {n c : Nat} {en : Int} {L : Nat → Bool} {f : Nat → Value} {w : World} {w2 : World} (h : rc1C W1 A n c en L f w) (hLi : L 2 = false) (hb : Below w.heap.size w w2) : rc1C W1 A n c en (fun k => if k = 2 then true else L k) (fun t => if (some 13 : Option Nat) = some t then (.int .i64 (n : Int)) else f t) w2 := by
  have h6 : L 6 = false := by cases hh : L 6 with | false => rfl | true => exact absurd (h.d6 hh 2 (by omega)) (by rw [hLi]; decide)
  refine ⟨h.bel.trans (hb.mono h.bel.size), ?_, ?_, ?_, ?_, ?_, ?_, ?_, ?_⟩
  · simpa using h.v0
  · simpa using h.v1
  · intro _; simp
  · intro hh; obtain ⟨bS, e, l, k, q⟩ := h.v3 (by simpa using hh); exact ⟨bS, by simpa using e, l, k.keep hb, by simpa using q⟩
  · intro hh; obtain ⟨B, e, l, k⟩ := h.v5 (by simpa using hh); exact ⟨B, by simpa using e, l, fun _ => (k h6).keep hb⟩
  · intro hh; simp [h6] at hh
  · simpa using h.d43
  · intro hh; simp [h6] at hh
theorem rc1_3 {W1 : World} {A : Option Addr} {n c : Nat} {en : Int} {L : Nat → Bool} {f : Nat → Value} {w : World} {w2 : World} {bS : Nat} (h : rc1C W1 A n c en L f w) (hLi : L 3 = false) (hb : Below w.heap.size w w2) (hbs : W1.heap.size ≤ bS) (hk : Blk w2 bS 4 (List.replicate n (Value.bool false))) : rc1C W1 A n c en (fun k => if k = 3 then true else L k) (fun t => if (some 14 : Option Nat) = some t then (.slice (some ⟨bS, 0, none⟩) n n) else f t) w2 := by
  have h6 : L 6 = false := by cases hh : L 6 with | false => rfl | true => exact absurd (h.d6 hh 3 (by omega)) (by rw [hLi]; decide)
  refine ⟨h.bel.trans (hb.mono h.bel.size), ?_, ?_, ?_, ?_, ?_, ?_, ?_, ?_⟩
  · simpa using h.v0
  · simpa using h.v1
  · simpa using h.v2
  · intro _; refine ⟨bS, by simp, hbs, hk, fun hh => ?_⟩; have := h.d43 (by simpa using hh); rw [hLi] at this; cases this
  · intro hh; obtain ⟨B, e, l, k⟩ := h.v5 (by simpa using hh); exact ⟨B, by simpa using e, l, fun _ => (k h6).keep hb⟩
  · intro hh; simp [h6] at hh
  · intro _; simp
  · intro hh; simp [h6] at hh
theorem rc1_4 {W1 : World} {A : Option Addr} {n c : Nat} {en : Int} {L : Nat → Bool} {f : Nat → Value} {w : World} {bS : Nat} (h : rc1C W1 A n c en L f w) (hLi : L 4 = false) (hb : Below w.heap.size w w) (hl : L 3 = true) (he : f 14 = .slice (some ⟨bS, 0, none⟩) n n) : rc1C W1 A n c en (fun k => if k = 4 then true else L k) (fun t => if (some 15 : Option Nat) = some t then (.agg #[.slice A n c, .int .i64 en, .slice (some ⟨bS, 0, none⟩) n n, .int .i64 0, .slice none 0 0]) else f t) w := by
  have h6 : L 6 = false := by cases hh : L 6 with | false => rfl | true => exact absurd (h.d6 hh 4 (by omega)) (by rw [hLi]; decide)
  refine ⟨h.bel.trans (hb.mono h.bel.size), ?_, ?_, ?_, ?_, ?_, ?_, ?_, ?_⟩
  · simpa using h.v0
  · simpa using h.v1
  · simpa using h.v2
  · intro hh; obtain ⟨bS2, e, l, k, q⟩ := h.v3 (by simpa using hh); rw [he] at e; cases e; exact ⟨bS, by simpa using he, l, k.keep hb, by simp⟩
  · intro hh; obtain ⟨B, e, l, k⟩ := h.v5 (by simpa using hh); exact ⟨B, by simpa using e, l, fun _ => (k h6).keep hb⟩
  · intro hh; simp [h6] at hh
  · intro _; simpa using hl
  · intro hh; simp [h6] at hh
theorem rc1_5 {W1 : World} {A : Option Addr} {n c : Nat} {en : Int} {L : Nat → Bool} {f : Nat → Value} {w : World} {w2 : World} {B : Nat} (h : rc1C W1 A n c en L f w) (hLi : L 5 = false) (hb : Below w.heap.size w w2) (hbs : W1.heap.size ≤ B) (hk : Blk w2 B 86 [.slice none 0 0, .int .i64 0, .slice none 0 0, .int .i64 0, .slice none 0 0]) : rc1C W1 A n c en (fun k => if k = 5 then true else L k) (fun t => if (some 5 : Option Nat) = some t then (.pointer (some ⟨B, 0, none⟩)) else f t) w2 := by
  have h6 : L 6 = false := by cases hh : L 6 with | false => rfl | true => exact absurd (h.d6 hh 5 (by omega)) (by rw [hLi]; decide)
  refine ⟨h.bel.trans (hb.mono h.bel.size), ?_, ?_, ?_, ?_, ?_, ?_, ?_, ?_⟩
  · simpa using h.v0
  · simpa using h.v1
  · simpa using h.v2
  · intro hh; obtain ⟨bS, e, l, k, q⟩ := h.v3 (by simpa using hh); exact ⟨bS, by simpa using e, l, k.keep hb, by simpa using q⟩
  · intro _; exact ⟨B, by simp, hbs, fun _ => hk⟩
  · intro hh; simp [h6] at hh
  · simpa using h.d43
  · intro hh; simp [h6] at hh
theorem rc1_6 {W1 : World} {A : Option Addr} {n c : Nat} {en : Int} {L : Nat → Bool} {f : Nat → Value} {w : World} {v : Value} {w2 : World} {B bS : Nat} (h : rc1C W1 A n c en L f w) (hall : ∀ i, i < 6 → L i = true) (hbel : Below W1.heap.size W1 w2) (e5 : f 5 = .pointer (some ⟨B, 0, none⟩)) (e14 : f 14 = .slice (some ⟨bS, 0, none⟩) n n) (e15 : f 15 = .agg #[.slice A n c, .int .i64 en, .slice (some ⟨bS, 0, none⟩) n n, .int .i64 0, .slice none 0 0]) (hB : W1.heap.size ≤ B) (hS : W1.heap.size ≤ bS) (k1 : Blk w2 bS 4 (List.replicate n (Value.bool false))) (k2 : Blk w2 B 86 [.slice A n c, .int .i64 en, .slice (some ⟨bS, 0, none⟩) n n, .int .i64 0, .slice none 0 0]) : rc1C W1 A n c en (fun k => if k = 6 then true else L k) (fun t => if (none : Option Nat) = some t then v else f t) w2 := by
  refine ⟨hbel, ?_, ?_, ?_, ?_, ?_, ?_, ?_, ?_⟩
  · simpa using h.v0
  · simpa using h.v1
  · simpa using h.v2
  · intro _; exact ⟨bS, by simpa using e14, hS, k1, fun _ => by simpa using e15⟩
  · intro _; exact ⟨B, by simpa using e5, hB, fun hh => by simp at hh⟩
  · intro _; exact ⟨B, bS, by simpa using e5, hB, hS, k1, k2⟩
  · simpa using h.d43
  · intro _ i hi; simp [hall i hi]
def rc1Us (f : Nat → Value) : List (Nat × Value) := [(11, f 11), (12, f 12), (13, f 13), (14, f 14), (15, f 15), (5, f 5)]
theorem info_bool : (Tryd.prog.info? 4).map (fun i => (i.zero, i.size, i.bytes)) = some (some (.bool false), 1, 1) := by kernel_rfl
theorem run_seen (n : Nat) (hn : n ≤ 1048576) (w : World) : (Instr.makeSlice 84 (.int .i64 (n : Int)) (.int .i64 (n : Int))).run Tryd.prog w = .ok (.slice (some ⟨w.heap.size, 0, none⟩) n n) (w.alloc (.cells (List.replicate n (Value.bool false)).toArray 4)) := by
  obtain ⟨i0, hi, hz0, hz1, hz2⟩ := info_parts info_bool
  have hr := run_make (P := Tryd.prog) w 84 4 i0 _ Tryd.underlying84 hi hz0 .i64 .i64 n n (by omega) (by omega) (by rw [hz2]; omega) (by omega)
  rw [hz1] at hr
  simp only [Int.toNat_natCast, Nat.mul_one] at hr
  rw [hr]
  refine congrArg (fun z => Result.ok _ (w.alloc (.cells z 4))) ?_
  apply Array.ext_getElem?
  intro i
  by_cases h : i < n <;> simp [madeCells, Value.cells, h, Nat.mod_one]
section
variable {o : Oper} {a : Act} {w : World} {K : Act → World → Prop} {Q : Exit → Act → World → Prop}
theorem wp_mkSeen (x y : Operand) (ho : o.op = .makeSlice 84 x y) (n : Nat) (hn : n ≤ 1048576) (hx : a.eval x = .int .i64 (n : Int)) (hy : a.eval y = .int .i64 (n : Int)) (h : K (a.put o.dst (.slice (some ⟨w.heap.size, 0, none⟩) n n)) (w.alloc (.cells (List.replicate n (Value.bool false)).toArray 4))) : o.wp Tryd.prog a w K Q := by
  unfold Oper.wp
  simp [execOp, ho, hx, hy, run_seen n hn w, Result.andThen]
  exact h
theorem wp_mkWalk (i k : Nat) (ho : o.op = .build 86 #[(0, .tmp i), (1, .tmp k)]) (A : Option Addr) (n c : Nat) (en : Int) (S : Option Addr) (m cS : Nat) (hx : a.eval (.tmp i) = .agg #[.slice A n c, .int .i64 en]) (hy : a.eval (.tmp k) = .slice S m cS) (h : K (a.put o.dst (.agg #[.slice A n c, .int .i64 en, .slice S m cS, .int .i64 0, .slice none 0 0])) w) : o.wp Tryd.prog a w K Q := by
  unfold Oper.wp
  have hx' : a.tmps[i]?.getD undef = .agg #[.slice A n c, .int .i64 en] := by unfold Act.eval at hx; simpa using hx
  have hy' : a.tmps[k]?.getD undef = .slice S m cS := by unfold Act.eval at hy; simpa using hy
  have e : (execOp a.eval o).run Tryd.prog w = .ok (.value (.agg #[.slice A n c, .int .i64 en, .slice S m cS, .int .i64 0, .slice none 0 0])) w := by
    unfold execOp
    simp only [ho]
    go_simp
    try (simp [hx', hy'])
    try rfl
  rw [e]
  exact h
theorem wp_allocWk (ho : o.op = .alloc 86) (h : K (a.put o.dst (.pointer (some ⟨w.heap.size, 0, none⟩))) (w.alloc (.cells (#[.slice none 0 0, .int .i64 0, .slice none 0 0, .int .i64 0, .slice none 0 0] : Array Value) 86))) : o.wp Tryd.prog a w K Q := by
  unfold Oper.wp
  have e : (execOp a.eval o).run Tryd.prog w = .ok (.value (.pointer (some ⟨w.heap.size, 0, none⟩))) (w.alloc (.cells (#[.slice none 0 0, .int .i64 0, .slice none 0 0, .int .i64 0, .slice none 0 0] : Array Value) 86)) := by
    unfold execOp
    simp only [ho]
    kernel_rfl
  rw [e]
  exact h
end
set_option maxRecDepth 20000 in
set_option maxHeartbeats 2000000 in
theorem rc1_reg {b2 : Nat} {A : Option Addr} {n c : Nat} {en : Int} {W : World} {A0 : Act} {Q : Exit → Act → World → Prop} {id : Nat} (a2 : Act.at A0 2 = .pointer (some ⟨b2, 0, none⟩)) (hsz : 63 ≤ A0.tmps.size) (hn : n ≤ 1048576) (hB : Blk W.drew b2 33 [.slice A n c, .int .i64 en])
    (hk : ∀ (f : Nat → Value) w' B bS, Below W.drew.heap.size W.drew w' → f 5 = .pointer (some ⟨B, 0, none⟩) → W.drew.heap.size ≤ B → W.drew.heap.size ≤ bS → Blk w' bS 4 (List.replicate n (Value.bool false)) → Blk w' B 86 [.slice A n c, .int .i64 en, .slice (some ⟨bS, 0, none⟩) n n, .int .i64 0, .slice none 0 0] → Q .normal ⟨(rc1Us f).foldl (fun A p => A.setIfInBounds p.1 p.2) A0.tmps, A0.defers⟩ w') :
    (Code.region id rc1Ops true).wp Tryd.prog Q A0 W := by
  have hlt2 := hB.lt
  refine wp_region_fun (by kernel_rfl) (fun L f w => rc1C W.drew A n c en L f w) [11, 12, 13, 14, 15, 5] (wf_ops2 (by kernel_rfl)) (fun i o ho u hu => ?_) ?_ ?_ ?_
  · have := ops_dst [11, 12, 13, 14, 15, 5] 63 (by kernel_rfl) i o ho u hu
    exact ⟨this.1, Nat.lt_of_lt_of_le this.2 hsz⟩
  · have hs : rc1Ops.size = 7 := rfl
    rw [hs]
    constructor <;> first | exact Below.refl _ _ | (intro h; simp at h) | (intro h h2; simp at h)
  · rintro L i o ho hLi haf b w hf hc K hK
    have hdep := ops_deps rc1Dep (by kernel_rfl) ho haf
    clear haf
    have hs : rc1Ops.size = 7 := rfl
    have hlt : i < 7 := hs ▸ (Array.getElem?_eq_some_iff.1 ho).1
    have hcases : i = 0 ∨ i = 1 ∨ i = 2 ∨ i = 3 ∨ i = 4 ∨ i = 5 ∨ i = 6 := by omega
    rcases hcases with rfl | rfl | rfl | rfl | rfl | rfl | rfl
    · have h1 : (rc1Ops[0]?).map (·.dst) = some (some 11) := by kernel_rfl
      have h2 : (rc1Ops[0]?).map (·.op) = some (Op.load 33 (Operand.tmp 2)) := by kernel_rfl
      rw [ho] at h1 h2
      replace h1 := Option.some.inj h1
      replace h2 := Option.some.inj h2
      simp only at h1 h2
      rw [h1] at hK
      refine wp_load_row 33 (.tmp 2) h2 b2 ((hf 2 (by decide)).trans a2) 33 #[.slice A n c, .int .i64 en] (0, 0) _ ((hc.bel.block b2 hlt2).trans hB) Tryd.underlying33 rfl (by kernel_rfl) ?_
      rw [h1]
      exact hK _ _ (rc1_0 hc hLi (Below.refl _ _))
    · have h1 : (rc1Ops[1]?).map (·.dst) = some (some 12) := by kernel_rfl
      have h2 : (rc1Ops[1]?).map (·.op) = some (Op.load 33 (Operand.tmp 2)) := by kernel_rfl
      rw [ho] at h1 h2
      replace h1 := Option.some.inj h1
      replace h2 := Option.some.inj h2
      simp only at h1 h2
      rw [h1] at hK
      refine wp_load_row 33 (.tmp 2) h2 b2 ((hf 2 (by decide)).trans a2) 33 #[.slice A n c, .int .i64 en] (0, 0) _ ((hc.bel.block b2 hlt2).trans hB) Tryd.underlying33 rfl (by kernel_rfl) ?_
      rw [h1]
      exact hK _ _ (rc1_1 hc hLi (Below.refl _ _))
    · have h1 : (rc1Ops[2]?).map (·.dst) = some (some 13) := by kernel_rfl
      have h2 : (rc1Ops[2]?).map (·.op) = some (Op.call { callee := Callee.value (Operand.func 16), args := #[Operand.tmp 12], argTypes := #[33] }) := by kernel_rfl
      rw [ho] at h1 h2
      replace h1 := Option.some.inj h1
      replace h2 := Option.some.inj h2
      simp only at h1 h2
      rw [h1] at hK
      have l1 : L 1 = true := hdep 1 (by simp [rc1Dep])
      refine wp_callG 16 _ _ h2 (enters_of Tryd.func16 (by kernel_rfl) rfl) #[.agg #[.slice A n c, .int .i64 en]] (by simp [show b.eval (.tmp 12) = _ from hc.v1 l1]) (fun v w' => v = .int .i64 (n : Int) ∧ Below w.heap.size w w') ((len_any A n c en w).mono (fun e w' q => ⟨_, q.1, rfl, q.2⟩)) ?_
      rintro v w2 ⟨rfl, hb⟩
      rw [h1]
      exact hK _ _ (rc1_2 hc hLi hb)
    · have h1 : (rc1Ops[3]?).map (·.dst) = some (some 14) := by kernel_rfl
      have h2 : (rc1Ops[3]?).map (·.op) = some (Op.makeSlice 84 (Operand.tmp 13) (Operand.tmp 13)) := by kernel_rfl
      rw [ho] at h1 h2
      replace h1 := Option.some.inj h1
      replace h2 := Option.some.inj h2
      simp only at h1 h2
      rw [h1] at hK
      have l2 : L 2 = true := hdep 2 (by simp [rc1Dep])
      refine wp_mkSeen _ _ h2 n hn (hc.v2 l2) (hc.v2 l2) ?_
      rw [h1]
      exact hK _ _ (rc1_3 hc hLi (al_belowN w _) hc.bel.size (Blk.fresh w 4 (List.replicate n (Value.bool false))))
    · have h1 : (rc1Ops[4]?).map (·.dst) = some (some 15) := by kernel_rfl
      have h2 : (rc1Ops[4]?).map (·.op) = some (Op.build 86 #[(0, Operand.tmp 11), (1, Operand.tmp 14)]) := by kernel_rfl
      rw [ho] at h1 h2
      replace h1 := Option.some.inj h1
      replace h2 := Option.some.inj h2
      simp only at h1 h2
      rw [h1] at hK
      have l0 : L 0 = true := hdep 0 (by simp [rc1Dep])
      have l3 : L 3 = true := hdep 3 (by simp [rc1Dep])
      obtain ⟨bS, e14, q1, q2, q3⟩ := hc.v3 l3
      refine wp_mkWalk 11 14 h2 A n c en _ _ _ (hc.v0 l0) e14 ?_
      rw [h1]
      exact hK _ _ (rc1_4 hc hLi (Below.refl _ _) l3 e14)
    · have h1 : (rc1Ops[5]?).map (·.dst) = some (some 5) := by kernel_rfl
      have h2 : (rc1Ops[5]?).map (·.op) = some (Op.alloc 86) := by kernel_rfl
      rw [ho] at h1 h2
      replace h1 := Option.some.inj h1
      replace h2 := Option.some.inj h2
      simp only at h1 h2
      rw [h1] at hK
      refine wp_allocWk h2 ?_
      rw [h1]
      exact hK _ _ (rc1_5 hc hLi (al_belowN w _) hc.bel.size (Blk.fresh w 86 [.slice none 0 0, .int .i64 0, .slice none 0 0, .int .i64 0, .slice none 0 0]))
    · have h1 : (rc1Ops[6]?).map (·.dst) = some (none) := by kernel_rfl
      have h2 : (rc1Ops[6]?).map (·.op) = some (Op.store 86 (Operand.tmp 5) (Operand.tmp 15)) := by kernel_rfl
      rw [ho] at h1 h2
      replace h1 := Option.some.inj h1
      replace h2 := Option.some.inj h2
      simp only at h1 h2
      rw [h1] at hK
      have l0 : L 0 = true := hdep 0 (by simp [rc1Dep])
      have l1 : L 1 = true := hdep 1 (by simp [rc1Dep])
      have l2 : L 2 = true := hdep 2 (by simp [rc1Dep])
      have l3 : L 3 = true := hdep 3 (by simp [rc1Dep])
      have l4 : L 4 = true := hdep 4 (by simp [rc1Dep])
      have l5 : L 5 = true := hdep 5 (by simp [rc1Dep])
      obtain ⟨bS, e14, q1, q2, q3⟩ := hc.v3 l3
      obtain ⟨B, e5, q4, q5⟩ := hc.v5 l5
      have q6 := q5 hLi
      refine wp_store_row 86 _ _ h2 B _ e5 (q3 l4) 86 #[.slice none 0 0, .int .i64 0, .slice none 0 0, .int .i64 0, .slice none 0 0] q6 (by kernel_rfl) rfl (by simp [Value.oneCell']) ?_
      rw [h1]
      have hne : bS ≠ B := by
        intro e
        rw [e] at q2
        have := q2.symm.trans q6
        injection this with this
        injection this with _ this
        exact absurd this (by decide)
      refine hK _ _ (rc1_6 hc (fun i hi => ?_) (below_row hc.bel q4 _) e5 e14 (q3 l4) q4 q1 ((setRow_other _ _ bS _ hne).trans q2) (setRow_heap _ _ _ _ _ (0, 0) q6))
      have hi2 : i = 0 ∨ i = 1 ∨ i = 2 ∨ i = 3 ∨ i = 4 ∨ i = 5 := by omega
      rcases hi2 with rfl | rfl | rfl | rfl | rfl | rfl <;> assumption
  · rintro L b w hL hd hs hf hc
    have hsz2 : rc1Ops.size = 7 := rfl
    rw [hsz2] at hL
    have e := act_eq (a := A0) (b := b) (rc1Us (Act.at b)) hd hs hf (by
      intro p hp
      simp only [rc1Us, List.mem_cons, List.not_mem_nil, or_false] at hp
      rcases hp with rfl | rfl | rfl | rfl | rfl | rfl <;> rfl) (by rw [show (rc1Us (Act.at b)).map (·.1) = [11, 12, 13, 14, 15, 5] from rfl]; decide)
    rw [e]
    obtain ⟨B, bS, q1, q2, q3, q4, q5⟩ := hc.w6 (hL 6 (by omega))
    exact hk (Act.at b) w B bS hc.bel q1 q2 q3 q4 q5
end Go.Proofs.YtoiegkejkahfgaaDoor

/- nfa: Reach. -/
namespace Go.Proofs.YtoiegkejkahfgaaDoor
set_option linter.unusedSimpArgs false
set_option linter.unusedVariables false
open Go.RowKit
variable {w0 w w' W W' : World} {A : Option Addr} {c B bS : Nat} {E : EG} {en : Int} {k : WK}

theorem au_row (h : AuV w A c E) (hE : 0 < E.length) : ∃ gA, A = some ⟨gA, 0, none⟩ := by
  obtain ⟨vs, h⟩ := h
  obtain ⟨gA, cA, hA, _⟩ := h.outer hE
  injection hA with hA _ _
  exact ⟨gA, hA⟩
/-- The edges of a state in memory. -/
theorem au_edges (h : AuV w A c E) {s gA : Nat} (hA : A = some ⟨gA, 0, none⟩) (hs : s < E.length) : gA < w.heap.size ∧ ∃ kA kc, w.cell? ⟨gA, s, none⟩ = some (.slice kA (E.getD s []).length kc) ∧ ∀ j (hj : j < (E.getD s []).length), ∃ kb, kA = some ⟨kb, 0, none⟩ ∧ kb < w.heap.size ∧ ∀ i, i < 6 → w.cell? ⟨kb, j * 6 + i, none⟩ = ((E.getD s [])[j]).cells[i]? := by
  obtain ⟨vs, h⟩ := h
  obtain ⟨gA', cA, hA', hlt, _, hcells, _⟩ := h.outer (by omega)
  rw [hA] at hA'
  injection hA' with hA' _ _
  injection hA' with hA'
  injection hA' with hA' _ _
  subst hA'
  have hsv : s < vs.length := by rw [h.len]; exact hs
  have hk := (h.kid s hsv hs).1
  have eg : E.getD s [] = E[s] := by rw [List.getD_eq_getElem?_getD, List.getElem?_eq_getElem hs]; rfl
  rw [eg]
  obtain ⟨kA, kc, hv⟩ := own_shapeN hk
  refine ⟨hlt, kA, kc, by rw [hcells s hsv, hv], fun j hj => ?_⟩
  have hk2 := hk
  rw [hv] at hk
  rcases hk.2 with ⟨hq, hm⟩ | ⟨kb, cap, cur, hq, _, hg, _⟩
  · omega
  · injection hq with hq _ _
    subst hq
    refine ⟨kb, rfl, (own_blockN hk kb rfl).2, fun i hi => ?_⟩
    have hl : j * 6 + i < (flatE E[s]).length := by
      have e2 := hk.1
      have : (j + 1) * 6 ≤ E[s].length * 6 := Nat.mul_le_mul_right 6 hj
      omega
    have := hk.cells (g := kb) rfl (j * 6 + i) (flatE E[s])[j * 6 + i] (List.getElem?_eq_getElem hl)
    rw [addr_add, Nat.zero_add] at this
    rw [this, ← List.getElem?_eq_getElem hl, flatE_get E[s] j i hj hi]
/-- The same in every world behind it. -/
theorem au_later {w1 : World} (h : AuV w1 A c E) {s gA : Nat} (hA : A = some ⟨gA, 0, none⟩) (hs : s < E.length) : ∃ kA kc, ∀ W, Below w1.heap.size w1 W → W.cell? ⟨gA, s, none⟩ = some (.slice kA (E.getD s []).length kc) ∧ ∀ j (hj : j < (E.getD s []).length), ∃ kb, kA = some ⟨kb, 0, none⟩ ∧ ∀ i, i < 6 → W.cell? ⟨kb, j * 6 + i, none⟩ = ((E.getD s [])[j]).cells[i]? := by
  obtain ⟨hlt, kA, kc, h1, h2⟩ := au_edges h hA hs
  refine ⟨kA, kc, fun W hb => ⟨(hb.cell (p := ⟨gA, s, none⟩) hlt).trans h1, fun j hj => ?_⟩⟩
  obtain ⟨kb, e, hl, hc⟩ := h2 j hj
  exact ⟨kb, e, fun i hi => (hb.cell (p := ⟨kb, j * 6 + i, none⟩) hl).trans (hc i hi)⟩
theorem ed_cells {W : World} {kb o : Nat} {e : Ed} (h : ∀ i, i < 6 → W.cell? ⟨kb, o + i, none⟩ = e.cells[i]?) : W.cell? ⟨kb, o, none⟩ = some (.int .i64 (e.to : Int)) ∧ W.cell? ⟨kb, o + 1, none⟩ = some (.int .u64 ((wd e.set 0 : Nat) : Int)) ∧ W.cell? ⟨kb, o + 2, none⟩ = some (.int .u64 ((wd e.set 1 : Nat) : Int)) ∧ W.cell? ⟨kb, o + 3, none⟩ = some (.int .u64 ((wd e.set 2 : Nat) : Int)) ∧ W.cell? ⟨kb, o + 4, none⟩ = some (.int .u64 ((wd e.set 3 : Nat) : Int)) ∧ W.cell? ⟨kb, o + 5, none⟩ = some (.bool e.fr) :=
  ⟨h 0 (by omega), h 1 (by omega), h 2 (by omega), h 3 (by omega), h 4 (by omega), h 5 (by omega)⟩
/-- A list of numbers in memory. -/
def IL (w : World) (A : Option Addr) (l : List Int) : Prop := 0 < l.length → ∃ b o, A = some ⟨b, o, none⟩ ∧ b < w.heap.size ∧ ∀ j (h : j < l.length), w.cell? ⟨b, o + j, none⟩ = some (.int .i64 l[j])
theorem IL.keep {l : List Int} (h : IL w A l) (hb : Below w.heap.size w w') : IL w' A l := fun h0 => by
  obtain ⟨b, o, e, hl, hc⟩ := h h0
  exact ⟨b, o, e, Nat.lt_of_lt_of_le hl hb.size, fun j hj => by rw [← hc j hj]; unfold World.cell?; rw [hb.block b hl]⟩
theorem own_pop {base e g n c m : Nat} {xs : List Value} (h : w.ownsRow base e 1 (.slice (some ⟨g, 0, none⟩) n c) (m + 1) xs) : w.ownsRow base e 1 (.slice (some ⟨g, 0, none⟩) m c) m xs.dropLast := by
  obtain ⟨h1, h2⟩ := h
  refine ⟨by rw [List.length_dropLast, h1]; omega, ?_⟩
  rcases h2 with ⟨hq, hm⟩ | ⟨g', cap, cur, hq, hb, hg, h3, h4, h5, h6⟩
  · omega
  · injection hq with q1 q2 q3
    refine .inr ⟨g', cap, cur, by rw [q1, q3], hb, hg, by omega, h4, h5, ?_⟩
    rw [← h6, List.dropLast_eq_take, List.take_take]
    congr 1
    rw [List.length_take, Array.length_toList, h5]
    omega
theorem WkR.last (h : WkR w0 A c E en B bS k W) (ht : k.todo ≠ []) : k.todo.getLastD 0 < E.length ∧ ∃ gT tc, Wk3 w0 B bS k.seen [.slice A E.length c, .int .i64 en, .slice (some ⟨bS, 0, none⟩) E.length E.length, .int .i64 (k.many : Int), .slice (some ⟨gT, 0, none⟩) k.todo.length tc] (.slice (some ⟨gT, 0, none⟩) k.todo.length tc) k.todo.length (intsN k.todo) W ∧ k.todo.length ≤ tc ∧ W.cell? ⟨gT, k.todo.length - 1, none⟩ = some (.int .i64 ((k.todo.getLastD 0 : Nat) : Int)) := by
  obtain ⟨tA, tc, h3⟩ := h.three
  have hm0 := last_mem ht
  have hl : 0 < k.todo.length := List.length_pos_iff.2 ht
  refine ⟨?_, ?_⟩
  · exact (h.inv.todo _ hm0.1).1
  · rcases h3.o.2 with ⟨hq, hm⟩ | ⟨g, cap, cur, hq, _, hg, hcap, _⟩
    · omega
    · injection hq with q1 _ q3
      subst q1 q3
      refine ⟨g, tc, h3, hcap, ?_⟩
      have e : (intsN k.todo)[k.todo.length - 1]? = some (.int .i64 ((k.todo.getLastD 0 : Nat) : Int)) := by
        unfold intsN
        have h2 := hm0.2
        have hq : k.todo[k.todo.length - 1]? = some (k.todo.getLastD 0) := by
          have e3 : k.todo.dropLast.length = k.todo.length - 1 := List.length_dropLast
          generalize k.todo.getLastD 0 = x at *
          generalize k.todo.dropLast = y at *
          rw [h2, List.length_append, List.length_singleton, List.getElem?_append_right (by omega)]
          simp
        rw [List.getElem?_map, hq]
        rfl
      have := h3.o.cells (g := g) rfl (k.todo.length - 1) _ e
      rw [addr_add, Nat.zero_add] at this
      exact this
theorem WkR.pop {gT tc : Nat} (h : WkR w0 A c E en B bS k W) (ht : k.todo ≠ []) (h3 : Wk3 w0 B bS k.seen [.slice A E.length c, .int .i64 en, .slice (some ⟨bS, 0, none⟩) E.length E.length, .int .i64 (k.many : Int), .slice (some ⟨gT, 0, none⟩) k.todo.length tc] (.slice (some ⟨gT, 0, none⟩) k.todo.length tc) k.todo.length (intsN k.todo) W) : WkR w0 A c E en B bS ⟨k.seen, k.many, k.todo.dropLast⟩ (W.setCell ⟨B, 4, none⟩ (.slice (some ⟨gT, 0, none⟩) (k.todo.length - 1) tc)) := by
  have hl : 0 < k.todo.length := List.length_pos_iff.2 ht
  have e1 : k.todo.dropLast.length = k.todo.length - 1 := List.length_dropLast
  have e2 : intsN k.todo.dropLast = (intsN k.todo).dropLast := by unfold intsN; rw [List.map_dropLast]
  have h4 := h3.bb 4 (.slice (some ⟨gT, 0, none⟩) (k.todo.length - 1) tc)
  have ho := h4.o
  obtain ⟨m, hm⟩ : ∃ m, k.todo.length = m + 1 := ⟨k.todo.length - 1, by omega⟩
  refine WkR.of3 (tA := some ⟨gT, 0, none⟩) (tc := tc) ⟨h4.bel, h4.hB, h4.hS, h4.s, ?_, ?_⟩ ?_ ?_
  · simp only [e1]
    exact h4.b
  · simp only [e1, e2]
    rw [hm] at ho ⊢
    exact own_pop ho
  · exact ⟨h.inv.len, fun s hs => h.inv.todo s (List.dropLast_subset _ hs), h.inv.sum⟩
  · have := h.tl
    simp only [e1]
    omega
end Go.Proofs.YtoiegkejkahfgaaDoor

/- nfa: Reach's walk. -/
namespace Go.Proofs.YtoiegkejkahfgaaDoor
set_option linter.unusedSimpArgs false
set_option linter.unusedVariables false
open Go.RowKit
variable {w0 w w' W W' : World} {A : Option Addr} {c B bS : Nat} {E : EG} {en : Int} {k : WK}

theorem ed_size (e : Ed) : (Tryd.prog.info? 63).map (·.size) = some e.cells.toArray.size := by kernel_rfl
theorem ed_one (e : Ed) : e.cells.toArray.all (·.oneCell') = true := by simp [Ed.cells, Value.oneCell']
theorem own_base {b1 b2 : Nat} {e : TypeId} {size : Nat} {v : Value} {n : Nat} {xs : List Value} (h : w.ownsRow b1 e size v n xs) (hb : b2 ≤ b1) : w.ownsRow b2 e size v n xs := by
  refine ⟨h.1, ?_⟩
  rcases h.2 with hn | ⟨g, cap, cur, rfl, h1, r⟩
  · exact .inl hn
  · exact .inr ⟨g, cap, cur, rfl, Nat.le_trans hb h1, r⟩
theorem wkP_stop {E : EG} {m : Nat} {k : WK} (h : k.todo = []) : wkP E m k = k := by
  cases m with
  | zero => rfl
  | succ m => unfold wkP; rw [if_pos h]
theorem wkP_go {E : EG} {m : Nat} {k : WK} (h : k.todo ≠ []) : wkP E (m + 1) k = wkP E m (feL (E.getD (k.todo.getLastD 0) []) ⟨k.seen, k.many, k.todo.dropLast⟩) := by
  conv => lhs; unfold wkP
  rw [if_neg h]
theorem WkR.start {w1 w2 : World} (hb : Below w1.heap.size w1 w2) (hB : w1.heap.size ≤ B) (hS : w1.heap.size ≤ bS) (k1 : Blk w2 bS 4 (List.replicate E.length (Value.bool false))) (k2 : Blk w2 B 86 [.slice A E.length c, .int .i64 en, .slice (some ⟨bS, 0, none⟩) E.length E.length, .int .i64 0, .slice none 0 0]) : WkR w1 A c E en B bS (wk0 E.length) w2 := by
  refine ⟨hb, hB, hS, ?_, wk0_I _, ?_, none, 0, k2, ⟨rfl, .inl ⟨rfl, rfl⟩⟩⟩
  · have e : (wk0 E.length).seen.map Value.bool = List.replicate E.length (Value.bool false) := by simp [wk0]
    rw [e]
    exact k1
  · have := (wk0_I E.length).sum
    have e1 : (wk0 E.length).many = 0 := rfl
    have e2 : (wk0 E.length).todo.length = 0 := rfl
    omega
theorem lsL_succ (l : List Int) (k : WK) {j : Nat} (h : j < l.length) : lsL (l.take (j + 1)) k = meetP (lsL (l.take j) k) l[j] := by
  unfold lsL
  rw [List.take_succ_eq_append_getElem h, List.foldl_append]
  rfl
theorem feL_succ (l : List Ed) (k : WK) {j : Nat} (h : j < l.length) : feL (l.take (j + 1)) k = if (l[j]).fr then meetP (feL (l.take j) k) ((l[j]).to : Int) else feL (l.take j) k := by
  unfold feL
  rw [List.take_succ_eq_append_getElem h, List.foldl_append]
  rfl
set_option maxRecDepth 100000 in
set_option maxHeartbeats 4000000 in
theorem reach_any (h : AuV w A c E) (hE : E.length ≤ 5000) (hE2 : ∀ s, (E.getD s []).length ≤ 1000000) (LA : Option Addr) (lc : Nat) (l : List Int) (hl : IL w LA l) (hln : l.length ≤ 1000000000) : Calls Tryd.prog 21 #[.agg #[.slice A E.length c, .int .i64 en], .slice LA l.length lc] w fun e w' => ∃ u, e = .returned u ∧ w'.ownsRow w.heap.size 3 1 u (reachP E l).length (intsN (reachP E l)) ∧ Below w.heap.size w w' := by
  have hal := al_belowN w (.cells #[.slice A E.length c, .int .i64 en] 33)
  have HB0 := hid (show Blk (w.alloc (.cells #[.slice A E.length c, .int .i64 en] 33)) w.heap.size 33 [.slice A E.length c, .int .i64 en] from Blk.fresh w _ _)
  have HA := hid hal
  have HV := hid (fun (W : World) (hb : Below (w.alloc (.cells #[.slice A E.length c, .int .i64 en] 33)).heap.size (w.alloc (.cells #[.slice A E.length c, .int .i64 en] 33)) W) => (h.keep hal).keep hb)
  have HI := hid (fun (W : World) (hb : Below (w.alloc (.cells #[.slice A E.length c, .int .i64 en] 33)).heap.size (w.alloc (.cells #[.slice A E.length c, .int .i64 en] 33)) W) => (hl.keep hal).keep hb)
  have HE2 := hid hE2
  have HV0 := hid (fun hp => au_row (E := E) h hp)
  clear hal h hl hE2
  go_enter Tryd.func21, Tryd.ntmps21
  go_upto_region 1 with fail
  change Code.wp _ _ _ _ (w.alloc (.cells #[.slice A E.length c, .int .i64 en] 33))
  generalize hw1 : w.alloc (.cells #[.slice A E.length c, .int .i64 en] 33) = w1 at *
  clear hw1
  have hdr : Below w1.heap.size w1 w1.drew := ⟨rfl, rfl, rfl, Nat.le_refl _, fun _ _ => rfl⟩
  have hsz1 : w1.drew.heap.size = w1.heap.size := rfl
  refine rc1_reg (b2 := w.heap.size) (A := A) (n := E.length) (c := c) (en := en) rfl (by simp) (by omega) (HB0.out.keep hdr) ?_
  intro f w2 B bS q1 q2 q3 q4 q5 q6
  have HW := hid (WkR.start (hdr.trans q1) q3 q4 q5 q6)
  clear q1 q3 q4 q5 q6 HB0 hdr hsz1
  simp only [rc1Us, List.foldl_cons, List.foldl_nil, List.setIfInBounds_toArray, List.set_cons_zero, List.set_cons_succ]
  rw [q2]
  clear q2
  go_wp2
  go_loopw [18] (fun i wr => ∃ j : Nat, j ≤ l.length ∧ i = .int .i64 (j : Int) ∧ Hid (WkR w1 A c E en B bS (lsL (l.take j) (wk0 E.length)) wr)) (fun i _ => l.length - (intOf i).toNat)
  case atStart => exact ⟨0, Nat.zero_le _, rfl, HW⟩
  case round =>
    clear HW
    obtain ⟨j, hj, rfl, HW⟩ := hrel
    by_cases hlt : j < l.length
    · obtain ⟨b, o, hLA, hbl, hcs⟩ := HI.out _ HW.out.bel (by omega)
      have hc := hcs j hlt
      have p3 : (j : Int) < (l.length : Int) := by omega
      have HM := hid (meet_any HW.out hE l[j])
      rw [← lsL_succ l _ hlt] at HM
      subst hLA
      clear hcs HI HW HA HE2 HV HV0
      go_wp2_with (go_at_call 39; refine HM.out.mono ?_; rintro e w9 ⟨rfl, HW9⟩)
      go_roundw
      case rel => exact ⟨j + 1, by omega, by go_num, hid HW9⟩
      case measure => simp [intOf]; omega
    · obtain rfl : j = l.length := by omega
      rw [List.take_length] at HW
      obtain ⟨KK, hKK⟩ : ∃ KK, KK = wkP E (E.length + 1) (lsL l (wk0 E.length)) := ⟨_, rfl⟩
      have HKK := hid hKK
      clear hKK HI
      go_wp2
      go_loopg [] (E.length + 1) (fun m wr => ∃ k : WK, unseen k.seen + k.todo.length < m ∧ Hid (wkP E m k = KK) ∧ Hid (WkR w1 A c E en B bS k wr))
      case atStart => exact ⟨_, Nat.lt_succ_of_le HW.out.tl, hid HKK.out.symm, HW⟩
      case round =>
        clear HW
        obtain ⟨k, hm, HK, HW⟩ := hrel
        obtain ⟨m, rfl⟩ : ∃ m, gk = m + 1 := ⟨gk - 1, by omega⟩
        by_cases ht : k.todo = []
        · have HKe := hid (show k = KK from (wkP_stop ht).symm.trans HK.out)
          obtain ⟨tA, tc, h3⟩ := HW.out.three
          obtain ⟨d0, d1, d2, d3, d4, d5, d6⟩ := walk_cells h3.b
          have e0 : k.todo.length = 0 := by rw [ht]; rfl
          rw [e0] at d4
          have HAll := hid (wall_any HW.out hE)
          clear d0 d1 d2 d3 d5 d6 h3 ht e0 hm HK HV HE2 HV0
          go_wp2_with (go_at_call 40; refine HAll.out.mono ?_; rintro e w9 ⟨u, rfl, ho, hb⟩)
          go_ret
          have hsz := HA.out.size
          have hsz2 := HW.out.bel.size
          refine ⟨_, rfl, ?_, (HA.out.trans (HW.out.bel.mono hsz)).trans (hb.mono (by omega))⟩
          have er : reachP E l = allP k.seen := by rw [HKe.out, HKK.out]; rfl
          rw [er]
          exact own_base ho (by omega)
        · obtain ⟨hs, gT, tc, h3, hcl, hlast⟩ := HW.out.last ht
          have HK1 := hid ((wkP_go ht).symm.trans HK.out)
          have HP := hid (HW.out.pop ht h3)
          obtain ⟨gA, rfl⟩ := HV0.out (by omega)
          obtain ⟨d0, d1, d2, d3, d4, d5, d6⟩ := walk_cells h3.b
          obtain ⟨r, hr⟩ : ∃ r, k.todo.length = r + 1 := ⟨k.todo.length - 1, by have := List.length_pos_iff.2 ht; omega⟩
          have hr9 : r ≤ 5000 := by have := HW.out.tl; omega
          rw [hr] at d4 hlast hcl HP
          have e9 : r + 1 - 1 = r := rfl
          rw [e9] at hlast HP
          have HR := hid hr
          have HM0 := hid hm
          clear hm ht hr h3 HK e9 HV0
          generalize k.todo.getLastD 0 = s at *
          go_upto_region 9 with fail
          go_upto_region 10 with fail
          clear d0 d1 d2 d3 d4 d5 d6 hlast HW
          generalize wr.setCell ⟨B, 4, none⟩ (.slice (some ⟨gT, 0, none⟩) r tc) = w5 at *
          have HV5 := hid (HV.out w5 HP.out.bel)
          obtain ⟨kA, kc, hlat⟩ := au_later (HV.out w1 (Below.refl _ _)) rfl hs
          obtain ⟨hrow, _⟩ := hlat w5 HP.out.bel
          obtain ⟨tA, tc', h3⟩ := HP.out.three
          obtain ⟨d0, d1, d2, d3, d4, d5, d6⟩ := walk_cells h3.b
          have hed := HE2.out s
          have HES := hid (fun W hb => (hlat W hb).2)
          clear h3 hlat HE2 HV5 HV
          generalize hk1 : (⟨k.seen, k.many, k.todo.dropLast⟩ : WK) = k1 at *
          have HK1e := hid hk1
          clear hk1
          generalize E.getD s [] = es at *
          go_wp2
          go_loopw [52] (fun i wr => ∃ j : Nat, j ≤ es.length ∧ i = .int .i64 (j : Int) ∧ Hid (WkR w1 (some ⟨gA, 0, none⟩) c E en B bS (feL (es.take j) k1) wr)) (fun i _ => es.length - (intOf i).toNat)
          case atStart => exact ⟨0, Nat.zero_le _, rfl, HP⟩
          case round =>
            have HI1 := hid HP.out.inv
            clear HP d0 d1 d2 d3 d4 d5 d6 hrow
            obtain ⟨j, hj, rfl, HW⟩ := hrel
            by_cases hlt : j < es.length
            · obtain ⟨kb, rfl, hc⟩ := HES.out _ HW.out.bel j hlt
              obtain ⟨y0, y1, y2, y3, y4, y5⟩ := ed_cells hc
              have p3 : (j : Int) < (es.length : Int) := by omega
              have HT := hid (feL_succ es k1 hlt)
              have hbx := row_new wr 63 #[.int .i64 0, .int .u64 0, .int .u64 0, .int .u64 0, .int .u64 0, .bool false] (es[j]).cells.toArray
              have HX := hid (show Blk ((wr.alloc (.cells #[.int .i64 0, .int .u64 0, .int .u64 0, .int .u64 0, .int .u64 0, .bool false] 63)).setRow wr.heap.size (es[j]).cells.toArray) wr.heap.size 63 (es[j]).cells from setRow_heap _ _ _ _ _ (0, 0) (heap_alloc_new wr _))
              have HW6 := hid (HW.out.keep hbx)
              have HSz := hid (ed_size es[j])
              have HOn := hid (ed_one es[j])
              clear hbx hc HES
              generalize es[j] = e at *
              cases hfr : e.fr with
              | false =>
                rw [hfr, if_neg (by decide)] at HT
                rw [hfr] at y5
                go_wp2_with (refine wpList_store_row rfl 63 _ _ rfl wr.heap.size e.cells.toArray ?_ ?_ 63 #[.int .i64 0, .int .u64 0, .int .u64 0, .int .u64 0, .int .u64 0, .bool false] (heap_alloc_new wr _) HSz.out ?_ HOn.out ?_; exact rfl; (show _ = Value.agg _; rw [← hfr]; exact rfl); exact rfl; generalize (wr.alloc (.cells #[.int .i64 0, .int .u64 0, .int .u64 0, .int .u64 0, .int .u64 0, .bool false] 63)).setRow wr.heap.size e.cells.toArray = w6 at *; (have z5 : w6.cell? ⟨wr.heap.size, 5, none⟩ = some (.bool e.fr) := HX.out.at 5); rw [hfr] at z5)
                go_roundw
                case rel => exact ⟨j + 1, by omega, by go_num, by rw [HT.out]; exact HW6⟩
                case measure => simp [intOf]; omega
              | true =>
                rw [hfr, if_pos rfl] at HT
                rw [hfr] at y5
                have HMt := hid (fun (W : World) (hW : WkR w1 (some ⟨gA, 0, none⟩) c E en B bS (feL (es.take j) k1) W) => meet_any hW hE (e.to : Int))
                rw [← HT.out] at HMt
                go_wp2_with (first
                  | (refine wpList_store_row rfl 63 _ _ rfl wr.heap.size e.cells.toArray ?_ ?_ 63 #[.int .i64 0, .int .u64 0, .int .u64 0, .int .u64 0, .int .u64 0, .bool false] (heap_alloc_new wr _) HSz.out ?_ HOn.out ?_; exact rfl; (show _ = Value.agg _; rw [← hfr]; exact rfl); exact rfl; generalize (wr.alloc (.cells #[.int .i64 0, .int .u64 0, .int .u64 0, .int .u64 0, .int .u64 0, .bool false] 63)).setRow wr.heap.size e.cells.toArray = w6 at *; (have z5 : w6.cell? ⟨wr.heap.size, 5, none⟩ = some (.bool e.fr) := HX.out.at 5); rw [hfr] at z5; (have z0 : w6.cell? ⟨wr.heap.size, 0, none⟩ = some (.int .i64 (e.to : Int)) := HX.out.at 0))
                  | (go_at_call 39; refine (HMt.out _ HW6.out).mono ?_; rintro q w9 ⟨rfl, HW9⟩))
                go_roundw
                case rel => exact ⟨j + 1, by omega, by go_num, hid HW9⟩
                case measure => simp [intOf]; omega
            · obtain rfl : j = es.length := by omega
              rw [List.take_length] at HW
              have hmt : unseen (feL es k1).seen + (feL es k1).todo.length < m := by
                rw [feL_ls, (lsL_met _ k1 (Met.refl HI1.out)).1.mes, ← HK1e.out]
                have e1 : k.todo.dropLast.length = k.todo.length - 1 := List.length_dropLast
                have e2 := HM0.out
                have e3 := HR.out
                simp only [e1]
                omega
              go_wp2
              go_roundg m
              case measure => omega
              case rel => exact ⟨_, hmt, HK1, HW⟩
end Go.Proofs.YtoiegkejkahfgaaDoor
