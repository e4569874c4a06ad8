/- parse: the laws' head: the whole's type, taken out, in open order. -/
import Derived.Test.YtfcccfplmdjndaaGreatPaEw
import Derived.Test.YtfcccfplmdjndaaGreatInv
import Derived.Test.YtfcccfplmdjndaaGreatSpSa
namespace Go.Proofs.YtfcccfplmdjndaaGreat
set_option linter.unusedSimpArgs false
set_option linter.unusedVariables false
open Go.RowKit

def zN : Array Value := nvZ.cells.toArray
theorem field_0R (g : Nat) (w : World) : (Instr.fieldAt 32 (.pointer (some ⟨g, 0, none⟩)) 0).run Tryz.prog w = .ok (.pointer (some ⟨g, 0, none⟩)) w := by kernel_rfl
theorem load_slP {w : World} {p : Addr} {A : Option Addr} {n c : Nat} (h : w.cell? p = some (.slice A n c)) : (Instr.loadAt 29 (.pointer (some p))).run Tryz.prog w = .ok (.slice A n c) w := by
 simp [Instr.loadAt, h]
 go_simp
theorem row_size (gF : Nat) (K L C : SV) : (Tryz.prog.info? 54).map (·.size) = some (row15 gF K L C).toArray.size := by rw [show (row15 gF K L C).toArray.size = 18 from rfl]; kernel_rfl
theorem row_one (gF : Nat) (K L C : SV) : (row15 gF K L C).toArray.all (·.oneCell') = true := by simp [row15, Value.oneCell']
theorem wp_indexP {o : Oper} {a : Act} {w : World} {K : Act → World → Prop} {Q : Exit → Act → World → Prop} (x y : Operand) (ho : o.op = .indexAddr 29 x y) (b q n c j : Nat) (hx : a.eval x = .slice (some ⟨b, q, none⟩) n c) (hy : a.eval y = .int .i64 (j : Int)) (hj : j < n) (h : K (a.put o.dst (.pointer (some ⟨b, q + j * 18, none⟩))) w) : o.wp Tryz.prog a w K Q := by
 unfold Oper.wp
 have hj' : (j : Int) < (n : Int) := by omega
 have e : (execOp a.eval o).run Tryz.prog w = .ok (.value (.pointer (some ⟨b, q + j * 18, none⟩))) w := by
  unfold execOp
  simp only [ho, hx, hy]
  go_simp
 rw [e]
 exact h
theorem wp_allocR {o : Oper} {a : Act} {w : World} {K : Act → World → Prop} {Q : Exit → Act → World → Prop} (ho : o.op = .alloc 54) (h : K (a.put o.dst (.pointer (some ⟨w.heap.size, 0, none⟩))) (w.alloc (.cells zN 54))) : o.wp Tryz.prog a w K Q := by
 unfold Oper.wp
 have e : (execOp a.eval o).run Tryz.prog w = .ok (.value (.pointer (some ⟨w.heap.size, 0, none⟩))) (w.alloc (.cells zN 54)) := by
  unfold execOp
  simp only [ho]
  kernel_rfl
 rw [e]
 exact h
theorem FlatC.start9 {W1 : World} {slots : List Nat} {vs : List (Option Value)} {sp : Nat → Value → World → Prop} {f : Nat → Value} {n : Nat} (hs : slots.length ≤ n) (hv : vs.length ≤ n) : FlatC W1 slots vs sp (fun j => decide (n ≤ j)) f W1 :=
 ⟨Below.refl _ _, (fun i h u hu => by
  have h1 := of_decide_eq_true h
  rw [List.getElem?_eq_none (by omega)] at hu
  cases hu), (fun i h hi => by have h1 := of_decide_eq_true h; omega)⟩
def rd4Ops : Array Oper := #[{ dst := some 35, op := Op.fieldAddr 32 (Operand.tmp 1) 0, type := 0, pos := "law.go:19", after := #[], guard := none }, { dst := some 36, op := Op.load 29 (Operand.tmp 35), type := 29, pos := "law.go:19", after := #[{ on := 0, ground := Ground.data }], guard := none }, { dst := some 37, op := Op.load 32 (Operand.tmp 1), type := 32, pos := "law.go:19", after := #[], guard := none }, { dst := some 38, op := Op.call { callee := Callee.value (Operand.func 18), args := #[Operand.tmp 37], argTypes := #[32] }, type := 3, pos := "law.go:19", after := #[{ on := 2, ground := Ground.data }], guard := none }, { dst := some 39, op := Op.indexAddr 29 (Operand.tmp 36) (Operand.tmp 38), type := 0, pos := "law.go:19", after := #[{ on := 1, ground := Ground.data }, { on := 3, ground := Ground.data }], guard := none }, { dst := some 40, op := Op.load 54 (Operand.tmp 39), type := 54, pos := "law.go:19", after := #[{ on := 4, ground := Ground.data }], guard := none }, { dst := some 3, op := Op.alloc 54, type := 0, pos := "law.go:19", after := #[], guard := none }, { dst := none, op := Op.store 54 (Operand.tmp 3) (Operand.tmp 40), type := 0, pos := "law.go:19", after := #[{ on := 6, ground := Ground.data }, { on := 5, ground := Ground.data }, { on := 3, ground := Ground.chain }, { on := 0, ground := Ground.phase }, { on := 1, ground := Ground.phase }, { on := 2, ground := Ground.phase }, { on := 3, ground := Ground.phase }, { on := 4, ground := Ground.phase }, { on := 5, ground := Ground.phase }, { on := 6, ground := Ground.phase }], guard := none }]
def rd4Dep : Nat → List Nat := fun i => match i with | 1 => [0] | 3 => [2] | 4 => [1, 3] | 5 => [4] | 7 => [0, 1, 2, 3, 4, 5, 6] | _ => []
def rd4Sl : List Nat := [35, 36, 37, 38, 39, 40, 3]
def rd4Vs (b1 : Nat) (gN : Nat) (gD : Nat) (gF : Nat) (K0 : SV) (L0 : SV) (C0 : SV) : List (Option Value) := [some (.pointer (some ⟨b1, 0, none⟩)), some (.slice (some ⟨gN, 0, none⟩) 16 16), some (.agg #[.slice (some ⟨gN, 0, none⟩) 16 16, .slice (some ⟨gD, 0, none⟩) 2 2]), some (.int .i64 15), some (.pointer (some ⟨gN, 0 + 15 * 18, none⟩)), some (.agg (row15 gF K0 L0 C0).toArray), none]
def rd4Sp (Sa : Value → World → Prop) (i : Nat) : Value → World → Prop := match i with | 6 => Sa | _ => fun _ _ => True
theorem rd4_ks {Sa : Value → World → Prop} (kSa : ∀ v w w', Sa v w → Below w.heap.size w w' → Sa v w') : ∀ i v w w', rd4Sp Sa i v w → Below w.heap.size w w' → rd4Sp Sa i v w' := by
 intro i v w w' h hb
 unfold rd4Sp at h ⊢
 split <;> first | trivial | exact kSa _ _ _ h hb
theorem rd4_nd : rd4Sl.Nodup := by decide
def rd4Us (f : Nat → Value) : List (Nat × Value) := [(35, f 35), (36, f 36), (37, f 37), (38, f 38), (39, f 39), (40, f 40), (3, f 3)]
set_option maxRecDepth 20000 in
set_option maxHeartbeats 4000000 in
theorem rd4_reg {b1 : Nat} {gN : Nat} {gD : Nat} {gF : Nat} {K0 : SV} {L0 : SV} {C0 : SV} {Sa : Value → World → Prop} {W : World} {A0 : Act} {Q : Exit → Act → World → Prop} {id : Nat} (a1 : Act.at A0 1 = .pointer (some ⟨b1, 0, none⟩)) (hsz : 112 ≤ A0.tmps.size) (kSa : ∀ v w w', Sa v w → Below w.heap.size w w' → Sa v w') (hG : Blk W b1 32 [.slice (some ⟨gN, 0, none⟩) 16 16, .slice (some ⟨gD, 0, none⟩) 2 2]) (hgN : gN < W.heap.size) (hR : W.rangeAt gN (0 + 15 * 18) (row15 gF K0 L0 C0))
  (HRo : ∀ w, Below W.heap.size W w → Calls Tryz.prog 18 #[.agg #[.slice (some ⟨gN, 0, none⟩) 16 16, .slice (some ⟨gD, 0, none⟩) 2 2]] w fun e w' => ∃ v, e = .returned v ∧ v = .int .i64 15 ∧ Below w.heap.size w w')
  (hSa : ∀ w : World, W.heap.size ≤ w.heap.size → Sa (.pointer (some ⟨w.heap.size, 0, none⟩)) (w.alloc (.cells zN 54)))
  (hSb : ∀ v w, Sa v w → ∃ g old, v = .pointer (some ⟨g, 0, none⟩) ∧ W.heap.size ≤ g ∧ Array.size old = 18 ∧ w.heap[g]? = some (.cells old 54 (0, 0)))
  (hk : ∀ (f : Nat → Value) w' g, f 3 = .pointer (some ⟨g, 0, none⟩) → Blk w' g 54 (row15 gF K0 L0 C0) → Below W.heap.size W w' → Q .normal ⟨(rd4Us f).foldl (fun A p => A.setIfInBounds p.1 p.2) A0.tmps, A0.defers⟩ w') :
  (Code.region id rd4Ops true).wp Tryz.prog Q A0 W := by
 refine wp_region_fun3 (by kernel_rfl) (fun L f w => (L 7 = false → FlatC W.drew rd4Sl (rd4Vs b1 gN gD gF K0 L0 C0) (rd4Sp Sa) L f w) ∧ (L 7 = true → (∀ i, i < 7 → L i = true) ∧ ∃ g, f 3 = .pointer (some ⟨g, 0, none⟩) ∧ Blk w g 54 (row15 gF K0 L0 C0) ∧ Below W.heap.size W w)) [35, 36, 37, 38, 39, 40, 3] (fun i o ho => (wf_ops3 (ops := rd4Ops) (by kernel_rfl)) i o ho) (fun i o ho u hu => ?_) ?_ ?_ ?_
 ·have := ops_dst [35, 36, 37, 38, 39, 40, 3] 112 (by kernel_rfl) i o ho u hu
  exact ⟨this.1, Nat.lt_of_lt_of_le this.2 hsz⟩
 ·have hs : rd4Ops.size = 8 := rfl
  rw [hs]
  exact ⟨fun _ => FlatC.start9 (by decide) (by show 7 ≤ 8; decide), fun hl => by simp at hl⟩
 ·rintro L i o ho hLi haf b w hf hc K hK
  have hdep := ops_deps rd4Dep (by kernel_rfl) ho haf
  clear haf
  have hs : rd4Ops.size = 8 := rfl
  have hlt : i < 8 := hs ▸ (Array.getElem?_eq_some_iff.1 ho).1
  have hcases : i = 0 ∨ i = 1 ∨ i = 2 ∨ i = 3 ∨ i = 4 ∨ i = 5 ∨ i = 6 ∨ i = 7 := by omega
  clear hlt
  rcases hcases with rfl | rfl | rfl | rfl | rfl | rfl | rfl | rfl
  ·have h7 : L 7 = false := by
    cases hh : L 7 with
    | false => rfl
    | true => exact absurd ((hc.2 hh).1 0 (by decide)) (by rw [hLi]; decide)
   replace hc := hc.1 h7
   have hbw : Below W.heap.size W w := ⟨hc.bel.os, hc.bel.tape, hc.bel.output, hc.bel.size, hc.bel.block⟩
   obtain ⟨h1, h2, h3⟩ := op_at3 ho (show (rd4Ops[0]?).map (fun o => (o.dst, o.op, o.guard)) = some ((some 35), (Op.fieldAddr 32 (Operand.tmp 1) 0), none) by kernel_rfl)
   rw [h1] at hK
   refine want_none h3 ?_
   refine wp_fieldG _ _ _ h2 _ _ ((hf 1 (by decide)).trans a1) (field_0R b1 w) ?_
   rw [h1]
   exact hK _ _ ⟨fun _ => FlatC.step rd4_nd (rd4_ks kSa) rfl hc 0 (by decide) (Below.refl _ _) (fun u hu => by injection hu with hu; injection hu) (trivial), fun hl => by simp [h7] at hl⟩
  ·have h7 : L 7 = false := by
    cases hh : L 7 with
    | false => rfl
    | true => exact absurd ((hc.2 hh).1 1 (by decide)) (by rw [hLi]; decide)
   replace hc := hc.1 h7
   have hbw : Below W.heap.size W w := ⟨hc.bel.os, hc.bel.tape, hc.bel.output, hc.bel.size, hc.bel.block⟩
   obtain ⟨h1, h2, h3⟩ := op_at3 ho (show (rd4Ops[1]?).map (fun o => (o.dst, o.op, o.guard)) = some ((some 36), (Op.load 29 (Operand.tmp 35)), none) by kernel_rfl)
   rw [h1] at hK
   have l0 : L 0 = true := hdep 0 (by simp [rd4Dep])
   refine want_none h3 ?_
   refine wp_loadG _ _ h2 _ _ (show Act.at b 35 = .pointer (some ⟨b1, 0, none⟩) from hc.v 0 l0 _ rfl) (load_slP (Blk.at (show Blk w b1 32 _ from (hbw.block b1 hG.lt).trans hG) 0)) ?_
   rw [h1]
   exact hK _ _ ⟨fun _ => FlatC.step rd4_nd (rd4_ks kSa) rfl hc 1 (by decide) (Below.refl _ _) (fun u hu => by injection hu with hu; injection hu) (trivial), fun hl => by simp [h7] at hl⟩
  ·have h7 : L 7 = false := by
    cases hh : L 7 with
    | false => rfl
    | true => exact absurd ((hc.2 hh).1 2 (by decide)) (by rw [hLi]; decide)
   replace hc := hc.1 h7
   have hbw : Below W.heap.size W w := ⟨hc.bel.os, hc.bel.tape, hc.bel.output, hc.bel.size, hc.bel.block⟩
   obtain ⟨h1, h2, h3⟩ := op_at3 ho (show (rd4Ops[2]?).map (fun o => (o.dst, o.op, o.guard)) = some ((some 37), (Op.load 32 (Operand.tmp 1)), none) by kernel_rfl)
   rw [h1] at hK
   refine want_none h3 ?_
   refine wp_load_row 32 (.tmp 1) h2 b1 ((hf 1 (by decide)).trans a1) 32 #[.slice (some ⟨gN, 0, none⟩) 16 16, .slice (some ⟨gD, 0, none⟩) 2 2] (0, 0) _ ((hbw.block b1 hG.lt).trans hG) Tryz.underlying32 rfl (by kernel_rfl) ?_
   rw [h1]
   exact hK _ _ ⟨fun _ => FlatC.step rd4_nd (rd4_ks kSa) rfl hc 2 (by decide) (Below.refl _ _) (fun u hu => by injection hu with hu; injection hu) (trivial), fun hl => by simp [h7] at hl⟩
  ·have h7 : L 7 = false := by
    cases hh : L 7 with
    | false => rfl
    | true => exact absurd ((hc.2 hh).1 3 (by decide)) (by rw [hLi]; decide)
   replace hc := hc.1 h7
   have hbw : Below W.heap.size W w := ⟨hc.bel.os, hc.bel.tape, hc.bel.output, hc.bel.size, hc.bel.block⟩
   obtain ⟨h1, h2, h3⟩ := op_at3 ho (show (rd4Ops[3]?).map (fun o => (o.dst, o.op, o.guard)) = some ((some 38), (Op.call { callee := Callee.value (Operand.func 18), args := #[Operand.tmp 37], argTypes := #[32] }), none) by kernel_rfl)
   rw [h1] at hK
   have l2 : L 2 = true := hdep 2 (by simp [rd4Dep])
   refine want_none h3 ?_
   refine wp_callG 18 _ _ h2 (enters_of Tryz.func18 (by kernel_rfl) rfl) #[.agg #[.slice (some ⟨gN, 0, none⟩) 16 16, .slice (some ⟨gD, 0, none⟩) 2 2]] (by simp [show b.eval (.tmp 37) = _ from (show Act.at b 37 = .agg #[.slice (some ⟨gN, 0, none⟩) 16 16, .slice (some ⟨gD, 0, none⟩) 2 2] from hc.v 2 l2 _ rfl)]) _ (HRo w hbw) ?_
   rintro v w2 ⟨rfl, hb2⟩
   rw [h1]
   exact hK _ _ ⟨fun _ => FlatC.step rd4_nd (rd4_ks kSa) rfl hc 3 (by decide) (hb2) (fun u hu => by injection hu with hu; injection hu) (trivial), fun hl => by simp [h7] at hl⟩
  ·have h7 : L 7 = false := by
    cases hh : L 7 with
    | false => rfl
    | true => exact absurd ((hc.2 hh).1 4 (by decide)) (by rw [hLi]; decide)
   replace hc := hc.1 h7
   have hbw : Below W.heap.size W w := ⟨hc.bel.os, hc.bel.tape, hc.bel.output, hc.bel.size, hc.bel.block⟩
   obtain ⟨h1, h2, h3⟩ := op_at3 ho (show (rd4Ops[4]?).map (fun o => (o.dst, o.op, o.guard)) = some ((some 39), (Op.indexAddr 29 (Operand.tmp 36) (Operand.tmp 38)), none) by kernel_rfl)
   rw [h1] at hK
   have l1 : L 1 = true := hdep 1 (by simp [rd4Dep])
   have l3 : L 3 = true := hdep 3 (by simp [rd4Dep])
   refine want_none h3 ?_
   refine wp_indexP _ _ h2 gN 0 16 _ 15 (show Act.at b 36 = .slice (some ⟨gN, 0, none⟩) 16 16 from hc.v 1 l1 _ rfl) (show Act.at b 38 = .int .i64 15 from hc.v 3 l3 _ rfl) (by decide) ?_
   rw [h1]
   exact hK _ _ ⟨fun _ => FlatC.step rd4_nd (rd4_ks kSa) rfl hc 4 (by decide) (Below.refl _ _) (fun u hu => by injection hu with hu; injection hu) (trivial), fun hl => by simp [h7] at hl⟩
  ·have h7 : L 7 = false := by
    cases hh : L 7 with
    | false => rfl
    | true => exact absurd ((hc.2 hh).1 5 (by decide)) (by rw [hLi]; decide)
   replace hc := hc.1 h7
   have hbw : Below W.heap.size W w := ⟨hc.bel.os, hc.bel.tape, hc.bel.output, hc.bel.size, hc.bel.block⟩
   obtain ⟨h1, h2, h3⟩ := op_at3 ho (show (rd4Ops[5]?).map (fun o => (o.dst, o.op, o.guard)) = some ((some 40), (Op.load 54 (Operand.tmp 39)), none) by kernel_rfl)
   rw [h1] at hK
   have l4 : L 4 = true := hdep 4 (by simp [rd4Dep])
   refine want_none h3 ?_
   refine wp_load_mid 54 _ h2 gN (0 + 15 * 18) (show Act.at b 39 = .pointer (some ⟨gN, 0 + 15 * 18, none⟩) from hc.v 4 l4 _ rfl) (row15 gF K0 L0 C0) _ (range_keep hR (hbw.block gN hgN)) Tryz.underlying54 rfl (row_size gF K0 L0 C0) ?_
   rw [h1]
   exact hK _ _ ⟨fun _ => FlatC.step rd4_nd (rd4_ks kSa) rfl hc 5 (by decide) (Below.refl _ _) (fun u hu => by injection hu with hu; injection hu) (trivial), fun hl => by simp [h7] at hl⟩
  ·have h7 : L 7 = false := by
    cases hh : L 7 with
    | false => rfl
    | true => exact absurd ((hc.2 hh).1 6 (by decide)) (by rw [hLi]; decide)
   replace hc := hc.1 h7
   have hbw : Below W.heap.size W w := ⟨hc.bel.os, hc.bel.tape, hc.bel.output, hc.bel.size, hc.bel.block⟩
   obtain ⟨h1, h2, h3⟩ := op_at3 ho (show (rd4Ops[6]?).map (fun o => (o.dst, o.op, o.guard)) = some ((some 3), (Op.alloc 54), none) by kernel_rfl)
   rw [h1] at hK
   refine want_none h3 ?_
   refine wp_allocR h2 ?_
   have hb2 := (Below.refl w.heap.size w).alloc (Nat.le_refl _) (.cells zN 54)
   have hp2 := hSa w hbw.size
   rw [h1]
   exact hK _ _ ⟨fun _ => FlatC.step rd4_nd (rd4_ks kSa) rfl hc 6 (by decide) (hb2) (fun u hu => by cases hu) (hp2), fun hl => by simp [h7] at hl⟩
  ·obtain ⟨h1, h2, h3⟩ := op_at3 ho (show (rd4Ops[7]?).map (fun o => (o.dst, o.op, o.guard)) = some (none, (Op.store 54 (Operand.tmp 3) (Operand.tmp 40)), none) by kernel_rfl)
   rw [h1] at hK
   have hl : ∀ d, d < 7 → L d = true := fun d hd => hdep d (by rcases (show d = 0 ∨ d = 1 ∨ d = 2 ∨ d = 3 ∨ d = 4 ∨ d = 5 ∨ d = 6 by omega) with rfl | rfl | rfl | rfl | rfl | rfl | rfl <;> simp [rd4Dep])
   replace hc := hc.1 hLi
   have hbw : Below W.heap.size W w := ⟨hc.bel.os, hc.bel.tape, hc.bel.output, hc.bel.size, hc.bel.block⟩
   obtain ⟨g, old, hv, hg, hos, hoh⟩ := hSb _ _ (hc.s 6 (hl 6 (by decide)) (by decide))
   refine want_none h3 ?_
   refine wp_store_row 54 _ _ h2 g (row15 gF K0 L0 C0).toArray (show Act.at b 3 = _ from hv) (show Act.at b 40 = _ from hc.v 5 (hl 5 (by decide)) _ rfl) 54 old hoh (row_size gF K0 L0 C0) (hos.trans rfl) (row_one gF K0 L0 C0) ?_
   rw [h1]
   exact hK _ _ ⟨fun hq => by simp at hq, fun _ => ⟨fun i hi => by simp [hl i hi], g, by have hv2 : Act.at b 3 = _ := hv; simpa using hv2, setRow_heap _ _ _ _ _ _ hoh, below_row hbw hg _⟩⟩
 ·rintro L b w hL hd hs hf hc
  have hsz2 : rd4Ops.size = 8 := rfl
  rw [hsz2] at hL
  have e := act_eq (a := A0) (b := b) (rd4Us (Act.at b)) hd hs hf (by
   intro p hp
   simp only [rd4Us, List.mem_cons, List.not_mem_nil, or_false] at hp
   rcases hp with rfl | rfl | rfl | rfl | rfl | rfl | rfl <;> rfl) (by rw [show (rd4Us (Act.at b)).map (·.1) = [35, 36, 37, 38, 39, 40, 3] from rfl]; decide)
  rw [e]
  obtain ⟨_, g, hg, hB, hb⟩ := hc.2 (hL 7 (by omega))
  exact hk (Act.at b) w g hg hB hb
end Go.Proofs.YtfcccfplmdjndaaGreat
