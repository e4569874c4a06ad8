/- tree: TreePuts, its last statement, in open order. -/
import Derived.Test.YtdhipmdapodpkaaTrC
import Derived.Test.YtdhipmdapodpkaaInv
namespace Go.Proofs.Ytdhipmdapodpkaa
set_option linter.unusedSimpArgs false
set_option linter.unusedVariables false
open Go.RowKit

def tu15Ops : Array Oper := #[{ dst := some 79, op := Op.move (Operand.tmp 14), type := 4, pos := "law.go:108", after := #[], guard := none }, { dst := some 80, op := Op.move (Operand.tmp 79), type := 4, pos := "law.go:108", after := #[{ on := 0, ground := Ground.data }], guard := none }, { dst := some 81, op := Op.move (Operand.tmp 16), type := 4, pos := "law.go:108", after := #[{ on := 1, ground := Ground.guard }], guard := some (1, true) }, { dst := some 82, op := Op.pick (Operand.tmp 80) (Operand.tmp 81) (Operand.const (Value.bool false)), type := 4, pos := "law.go:108", after := #[{ on := 1, ground := Ground.data }, { on := 2, ground := Ground.data }], guard := none }, { dst := some 83, op := Op.move (Operand.tmp 82), type := 4, pos := "law.go:108", after := #[{ on := 3, ground := Ground.data }, { on := 1, ground := Ground.chain }], guard := none }, { dst := some 84, op := Op.load 26 (Operand.tmp 13), type := 26, pos := "law.go:108", after := #[{ on := 4, ground := Ground.guard }], guard := some (4, true) }, { dst := some 85, op := Op.load 26 (Operand.tmp 4), type := 26, pos := "law.go:108", after := #[{ on := 4, ground := Ground.guard }], guard := some (4, true) }, { dst := some 86, op := Op.call { callee := Callee.value (Operand.func 12), args := #[Operand.tmp 84, Operand.tmp 85], argTypes := #[26, 26] }, type := 4, pos := "law.go:108", after := #[{ on := 5, ground := Ground.data }, { on := 6, ground := Ground.data }, { on := 4, ground := Ground.chain }, { on := 4, ground := Ground.guard }], guard := some (4, true) }, { dst := some 87, op := Op.pick (Operand.tmp 83) (Operand.tmp 86) (Operand.const (Value.bool false)), type := 4, pos := "law.go:108", after := #[{ on := 4, ground := Ground.data }, { on := 7, ground := Ground.data }], guard := none }, { dst := some 88, op := Op.move (Operand.tmp 87), type := 4, pos := "law.go:108", after := #[{ on := 8, ground := Ground.data }, { on := 7, ground := Ground.chain }], guard := none }, { dst := some 89, op := Op.load 26 (Operand.tmp 15), type := 26, pos := "law.go:108", after := #[{ on := 9, ground := Ground.guard }], guard := some (9, true) }, { dst := some 90, op := Op.load 26 (Operand.tmp 3), type := 26, pos := "law.go:108", after := #[{ on := 9, ground := Ground.guard }], guard := some (9, true) }, { dst := some 91, op := Op.call { callee := Callee.value (Operand.func 12), args := #[Operand.tmp 89, Operand.tmp 90], argTypes := #[26, 26] }, type := 4, pos := "law.go:108", after := #[{ on := 10, ground := Ground.data }, { on := 11, ground := Ground.data }, { on := 9, ground := Ground.chain }, { on := 9, ground := Ground.guard }], guard := some (9, true) }, { dst := some 92, op := Op.pick (Operand.tmp 88) (Operand.tmp 91) (Operand.const (Value.bool false)), type := 4, pos := "law.go:108", after := #[{ on := 9, ground := Ground.data }, { on := 12, ground := Ground.data }], guard := none }, { dst := some 93, op := Op.move (Operand.tmp 92), type := 4, pos := "law.go:108", after := #[{ on := 13, ground := Ground.data }, { on := 12, ground := Ground.chain }], guard := none }, { dst := some 94, op := Op.load 26 (Operand.tmp 11), type := 26, pos := "law.go:108", after := #[{ on := 14, ground := Ground.guard }], guard := some (14, true) }, { dst := some 95, op := Op.call { callee := Callee.value (Operand.func 16), args := #[Operand.tmp 94], argTypes := #[26] }, type := 3, pos := "law.go:108", after := #[{ on := 15, ground := Ground.data }, { on := 14, ground := Ground.chain }, { on := 14, ground := Ground.guard }], guard := some (14, true) }, { dst := some 96, op := Op.load 26 (Operand.tmp 4), type := 26, pos := "law.go:108", after := #[{ on := 14, ground := Ground.guard }], guard := some (14, true) }, { dst := some 97, op := Op.call { callee := Callee.value (Operand.func 16), args := #[Operand.tmp 96], argTypes := #[26] }, type := 3, pos := "law.go:108", after := #[{ on := 17, ground := Ground.data }, { on := 16, ground := Ground.chain }, { on := 14, ground := Ground.guard }], guard := some (14, true) }, { dst := some 98, op := Op.binOp BinOp.sub 3 (Operand.tmp 95) (Operand.tmp 97) 3, type := 3, pos := "law.go:108", after := #[{ on := 16, ground := Ground.data }, { on := 18, ground := Ground.data }, { on := 14, ground := Ground.guard }], guard := some (14, true) }, { dst := some 99, op := Op.load 26 (Operand.tmp 3), type := 26, pos := "law.go:108", after := #[{ on := 14, ground := Ground.guard }], guard := some (14, true) }, { dst := some 100, op := Op.call { callee := Callee.value (Operand.func 16), args := #[Operand.tmp 99], argTypes := #[26] }, type := 3, pos := "law.go:108", after := #[{ on := 20, ground := Ground.data }, { on := 18, ground := Ground.chain }, { on := 14, ground := Ground.guard }], guard := some (14, true) }, { dst := some 101, op := Op.load 26 (Operand.tmp 9), type := 26, pos := "law.go:108", after := #[{ on := 14, ground := Ground.guard }], guard := some (14, true) }, { dst := some 102, op := Op.call { callee := Callee.value (Operand.func 16), args := #[Operand.tmp 101], argTypes := #[26] }, type := 3, pos := "law.go:108", after := #[{ on := 22, ground := Ground.data }, { on := 21, ground := Ground.chain }, { on := 14, ground := Ground.guard }], guard := some (14, true) }, { dst := some 103, op := Op.binOp BinOp.sub 3 (Operand.tmp 100) (Operand.tmp 102) 3, type := 3, pos := "law.go:108", after := #[{ on := 21, ground := Ground.data }, { on := 23, ground := Ground.data }, { on := 14, ground := Ground.guard }], guard := some (14, true) }, { dst := some 104, op := Op.binOp BinOp.eql 3 (Operand.tmp 98) (Operand.tmp 103) 3, type := 4, pos := "law.go:108", after := #[{ on := 19, ground := Ground.data }, { on := 24, ground := Ground.data }, { on := 14, ground := Ground.guard }], guard := some (14, true) }, { dst := some 105, op := Op.pick (Operand.tmp 93) (Operand.tmp 104) (Operand.const (Value.bool false)), type := 4, pos := "law.go:108", after := #[{ on := 14, ground := Ground.data }, { on := 25, ground := Ground.data }], guard := none }, { dst := some 6, op := Op.assign (Operand.tmp 105), type := 4, pos := "law.go:108", after := #[{ on := 26, ground := Ground.data }, { on := 23, ground := Ground.chain }, { on := 0, ground := Ground.phase }, { on := 1, ground := Ground.phase }, { on := 2, ground := Ground.phase }, { on := 3, ground := Ground.phase }, { on := 4, ground := Ground.phase }, { on := 5, ground := Ground.phase }, { on := 6, ground := Ground.phase }, { on := 7, ground := Ground.phase }, { on := 8, ground := Ground.phase }, { on := 9, ground := Ground.phase }, { on := 10, ground := Ground.phase }, { on := 11, ground := Ground.phase }, { on := 12, ground := Ground.phase }, { on := 13, ground := Ground.phase }, { on := 14, ground := Ground.phase }, { on := 15, ground := Ground.phase }, { on := 16, ground := Ground.phase }, { on := 17, ground := Ground.phase }, { on := 18, ground := Ground.phase }, { on := 19, ground := Ground.phase }, { on := 20, ground := Ground.phase }, { on := 21, ground := Ground.phase }, { on := 22, ground := Ground.phase }, { on := 23, ground := Ground.phase }, { on := 24, ground := Ground.phase }, { on := 25, ground := Ground.phase }, { on := 26, ground := Ground.phase }], guard := none }]
def tu15Dep : Nat → List Nat := fun i => match i with | 1 => [0] | 2 => [1] | 3 => [1, 2] | 4 => [3] | 5 => [4] | 6 => [4] | 7 => [4, 5, 6] | 8 => [4, 7] | 9 => [8] | 10 => [9] | 11 => [9] | 12 => [9, 10, 11] | 13 => [9, 12] | 14 => [13] | 15 => [14] | 16 => [14, 15] | 17 => [14] | 18 => [14, 17] | 19 => [14, 16, 18] | 20 => [14] | 21 => [14, 20] | 22 => [14] | 23 => [14, 22] | 24 => [14, 21, 23] | 25 => [14, 19, 24] | 26 => [14, 25] | 27 => [26] | _ => []
def tu15Sl : List Nat := [79, 80, 81, 82, 83, 84, 85, 86, 87, 88, 89, 90, 91, 92, 93, 94, 95, 96, 97, 98, 99, 100, 101, 102, 103, 104, 105, 6]
def tu15Vs (g3 : Nat) (g4 : Nat) (g9 : Nat) (g11 : Nat) (g13 : Nat) (g15 : Nat) (tv : TV) (y : TV) (od : TV) (x : TV) (z : TV) (b0 : TV) (pu : Int) (pp : Int) (pt : Int) (po : Int) (dd : Int) : List (Option Value) := [some (.bool true), some (.bool true), some (.bool true), some (.bool true), some (.bool true), some (.agg z.cells.toArray), some (.agg y.cells.toArray), some (.bool true), some (.bool true), some (.bool true), some (.agg b0.cells.toArray), some (.agg tv.cells.toArray), some (.bool true), some (.bool true), some (.bool true), some (.agg x.cells.toArray), some (.int .i64 pu), some (.agg y.cells.toArray), some (.int .i64 pp), some (.int .i64 dd), some (.agg tv.cells.toArray), some (.int .i64 pt), some (.agg od.cells.toArray), some (.int .i64 po), some (.int .i64 dd), some (.bool true), some (.bool true), some (.bool true)]
def tu15Sp  (i : Nat) : Value → World → Prop := match i with  | _ => fun _ _ => True
theorem tu15_ks   : ∀ i v w w', tu15Sp  i v w → Below w.heap.size w w' → tu15Sp  i v w' := by
  intro i v w w' h hb
  unfold tu15Sp at h ⊢
  split <;> first | trivial
theorem tu15_nd : tu15Sl.Nodup := by decide
def tu15Us (f : Nat → Value) : List (Nat × Value) := [(79, f 79), (80, f 80), (81, f 81), (82, f 82), (83, f 83), (84, f 84), (85, f 85), (86, f 86), (87, f 87), (88, f 88), (89, f 89), (90, f 90), (91, f 91), (92, f 92), (93, f 93), (94, f 94), (95, f 95), (96, f 96), (97, f 97), (98, f 98), (99, f 99), (100, f 100), (101, f 101), (102, f 102), (103, f 103), (104, f 104), (105, f 105), (6, f 6)]
set_option maxRecDepth 20000 in
set_option maxHeartbeats 4000000 in
theorem tu15_reg {g3 : Nat} {g4 : Nat} {g9 : Nat} {g11 : Nat} {g13 : Nat} {g15 : Nat} {tv : TV} {y : TV} {od : TV} {x : TV} {z : TV} {b0 : TV} {pu : Int} {pp : Int} {pt : Int} {po : Int} {dd : Int}  {W : World} {A0 : Act} {Q : Exit → Act → World → Prop} {id : Nat} (a14 : Act.at A0 14 = .bool true) (a16 : Act.at A0 16 = .bool true) (a3 : Act.at A0 3 = .pointer (some ⟨g3, 0, none⟩)) (a4 : Act.at A0 4 = .pointer (some ⟨g4, 0, none⟩)) (a9 : Act.at A0 9 = .pointer (some ⟨g9, 0, none⟩)) (a11 : Act.at A0 11 = .pointer (some ⟨g11, 0, none⟩)) (a13 : Act.at A0 13 = .pointer (some ⟨g13, 0, none⟩)) (a15 : Act.at A0 15 = .pointer (some ⟨g15, 0, none⟩)) (hsz : 106 ≤ A0.tmps.size)  (hKg3 : Blk W g3 26 tv.cells)
    (hKg4 : Blk W g4 26 y.cells)
    (hKg9 : Blk W g9 26 od.cells)
    (hKg11 : Blk W g11 26 x.cells)
    (hKg13 : Blk W g13 26 z.cells)
    (hKg15 : Blk W g15 26 b0.cells)
    (HS1 : ∀ w, Below W.heap.size W w → Calls Try.prog 12 #[.agg z.cells.toArray, .agg y.cells.toArray] w fun e w' => ∃ v, e = .returned v ∧ v = .bool true ∧ Below w.heap.size w w')
    (HS2 : ∀ w, Below W.heap.size W w → Calls Try.prog 12 #[.agg b0.cells.toArray, .agg tv.cells.toArray] w fun e w' => ∃ v, e = .returned v ∧ v = .bool true ∧ Below w.heap.size w w')
    (HP1 : ∀ w, Below W.heap.size W w → Calls Try.prog 16 #[.agg x.cells.toArray] w fun e w' => ∃ v, e = .returned v ∧ v = .int .i64 pu ∧ Below w.heap.size w w')
    (HP2 : ∀ w, Below W.heap.size W w → Calls Try.prog 16 #[.agg y.cells.toArray] w fun e w' => ∃ v, e = .returned v ∧ v = .int .i64 pp ∧ Below w.heap.size w w')
    (HP3 : ∀ w, Below W.heap.size W w → Calls Try.prog 16 #[.agg tv.cells.toArray] w fun e w' => ∃ v, e = .returned v ∧ v = .int .i64 pt ∧ Below w.heap.size w w')
    (HP4 : ∀ w, Below W.heap.size W w → Calls Try.prog 16 #[.agg od.cells.toArray] w fun e w' => ∃ v, e = .returned v ∧ v = .int .i64 po ∧ Below w.heap.size w w')
    (HD1 : ∀ w, (binOp .sub 3 (.int .i64 pu) (.int .i64 pp)).run Try.prog w = .ok (.int .i64 dd) w)
    (HD2 : ∀ w, (binOp .sub 3 (.int .i64 pt) (.int .i64 po)).run Try.prog w = .ok (.int .i64 dd) w)
    (HD3 : ∀ w, (binOp .eql 3 (.int .i64 dd) (.int .i64 dd)).run Try.prog w = .ok (.bool true) w)
    (hk : ∀ (f : Nat → Value) w', f 6 = .bool true → Below W.heap.size W w' → Q .normal ⟨(tu15Us f).foldl (fun A p => A.setIfInBounds p.1 p.2) A0.tmps, A0.defers⟩ w') :
    (Code.region id tu15Ops true).wp Try.prog Q A0 W := by
  refine wp_region_fun3 (by kernel_rfl) (fun L f w => FlatC W.drew tu15Sl (tu15Vs g3 g4 g9 g11 g13 g15 tv y od x z b0 pu pp pt po dd) (tu15Sp ) L f w) [79, 80, 81, 82, 83, 84, 85, 86, 87, 88, 89, 90, 91, 92, 93, 94, 95, 96, 97, 98, 99, 100, 101, 102, 103, 104, 105, 6] (fun i o ho => (wf_ops3 (ops := tu15Ops) (by kernel_rfl)) i o ho) (fun i o ho u hu => ?_) ?_ ?_ ?_
  · have := ops_dst [79, 80, 81, 82, 83, 84, 85, 86, 87, 88, 89, 90, 91, 92, 93, 94, 95, 96, 97, 98, 99, 100, 101, 102, 103, 104, 105, 6] 106 (by kernel_rfl) i o ho u hu
    exact ⟨this.1, Nat.lt_of_lt_of_le this.2 hsz⟩
  · have hs : tu15Ops.size = 28 := rfl
    rw [hs]
    exact FlatC.start rfl rfl
  · rintro L i o ho hLi haf b w hf hc K hK
    have hdep := ops_deps tu15Dep (by kernel_rfl) ho haf
    clear haf
    have hbw : Below W.heap.size W w := ⟨hc.bel.os, hc.bel.tape, hc.bel.output, hc.bel.size, hc.bel.block⟩
    have hs : tu15Ops.size = 28 := rfl
    have hlt : i < 28 := hs ▸ (Array.getElem?_eq_some_iff.1 ho).1
    have hcases : i = 0 ∨ i = 1 ∨ i = 2 ∨ i = 3 ∨ i = 4 ∨ i = 5 ∨ i = 6 ∨ i = 7 ∨ i = 8 ∨ i = 9 ∨ i = 10 ∨ i = 11 ∨ i = 12 ∨ i = 13 ∨ i = 14 ∨ i = 15 ∨ i = 16 ∨ i = 17 ∨ i = 18 ∨ i = 19 ∨ i = 20 ∨ i = 21 ∨ i = 22 ∨ i = 23 ∨ i = 24 ∨ i = 25 ∨ i = 26 ∨ i = 27 := by omega
    clear hlt
    rcases hcases with rfl | rfl | rfl | rfl | rfl | rfl | rfl | rfl | rfl | rfl | rfl | rfl | rfl | rfl | rfl | rfl | rfl | rfl | rfl | rfl | rfl | rfl | rfl | rfl | rfl | rfl | rfl | rfl
    · have h1 : (tu15Ops[0]?).map (·.dst) = some (some 79) := by kernel_rfl
      have h2 : (tu15Ops[0]?).map (·.op) = some (Op.move (Operand.tmp 14)) := by kernel_rfl
      have h3 : (tu15Ops[0]?).map (·.guard) = some none := by kernel_rfl
      rw [ho] at h1 h2 h3
      replace h1 := Option.some.inj h1
      replace h2 := Option.some.inj h2
      replace h3 := Option.some.inj h3
      simp only at h1 h2 h3
      rw [h1] at hK
      refine ⟨fun _ => ?_, fun hw => by rw [wanted_none h3] at hw; cases hw⟩
      refine wp_moveG _ h2 _ ((hf 14 (by decide)).trans a14) ?_
      rw [h1]
      exact hK _ _ (FlatC.step tu15_nd (tu15_ks ) rfl hc 0 (by decide) (Below.refl _ _) (fun u hu => by injection hu with hu; injection hu) (trivial))
    · have h1 : (tu15Ops[1]?).map (·.dst) = some (some 80) := by kernel_rfl
      have h2 : (tu15Ops[1]?).map (·.op) = some (Op.move (Operand.tmp 79)) := by kernel_rfl
      have h3 : (tu15Ops[1]?).map (·.guard) = some none := by kernel_rfl
      rw [ho] at h1 h2 h3
      replace h1 := Option.some.inj h1
      replace h2 := Option.some.inj h2
      replace h3 := Option.some.inj h3
      simp only at h1 h2 h3
      rw [h1] at hK
      have l0 : L 0 = true := hdep 0 (by simp [tu15Dep])
      refine ⟨fun _ => ?_, fun hw => by rw [wanted_none h3] at hw; cases hw⟩
      refine wp_moveG _ h2 _ (show Act.at b 79 = .bool true from hc.v 0 l0 _ rfl) ?_
      rw [h1]
      exact hK _ _ (FlatC.step tu15_nd (tu15_ks ) rfl hc 1 (by decide) (Below.refl _ _) (fun u hu => by injection hu with hu; injection hu) (trivial))
    · have h1 : (tu15Ops[2]?).map (·.dst) = some (some 81) := by kernel_rfl
      have h2 : (tu15Ops[2]?).map (·.op) = some (Op.move (Operand.tmp 16)) := by kernel_rfl
      have h3 : (tu15Ops[2]?).map (·.guard) = some (some (1, true)) := by kernel_rfl
      rw [ho] at h1 h2 h3
      replace h1 := Option.some.inj h1
      replace h2 := Option.some.inj h2
      replace h3 := Option.some.inj h3
      simp only at h1 h2 h3
      rw [h1] at hK
      have l1 : L 1 = true := hdep 1 (by simp [tu15Dep])
      have hw := wanted_of (ops := tu15Ops) (b := b) h3 (d := 80) (by kernel_rfl) (show Act.at b 80 = .bool true from hc.v 1 l1 _ rfl)
      rw [hw]
      refine ⟨fun _ => ?_, fun hq => absurd hq (by decide)⟩
      refine wp_moveG _ h2 _ ((hf 16 (by decide)).trans a16) ?_
      rw [h1]
      exact hK _ _ (FlatC.step tu15_nd (tu15_ks ) rfl hc 2 (by decide) (Below.refl _ _) (fun u hu => by injection hu with hu; injection hu) (trivial))
    · have h1 : (tu15Ops[3]?).map (·.dst) = some (some 82) := by kernel_rfl
      have h2 : (tu15Ops[3]?).map (·.op) = some (Op.pick (Operand.tmp 80) (Operand.tmp 81) (Operand.const (Value.bool false))) := by kernel_rfl
      have h3 : (tu15Ops[3]?).map (·.guard) = some none := by kernel_rfl
      rw [ho] at h1 h2 h3
      replace h1 := Option.some.inj h1
      replace h2 := Option.some.inj h2
      replace h3 := Option.some.inj h3
      simp only at h1 h2 h3
      rw [h1] at hK
      have l1 : L 1 = true := hdep 1 (by simp [tu15Dep])
      have l2 : L 2 = true := hdep 2 (by simp [tu15Dep])
      refine ⟨fun _ => ?_, fun hw => by rw [wanted_none h3] at hw; cases hw⟩
      refine wp_pickG _ _ _ h2 true (show Act.at b 80 = .bool true from hc.v 1 l1 _ rfl) _ (if_pos rfl |>.trans (show Act.at b 81 = .bool true from hc.v 2 l2 _ rfl)) ?_
      rw [h1]
      exact hK _ _ (FlatC.step tu15_nd (tu15_ks ) rfl hc 3 (by decide) (Below.refl _ _) (fun u hu => by injection hu with hu; injection hu) (trivial))
    · have h1 : (tu15Ops[4]?).map (·.dst) = some (some 83) := by kernel_rfl
      have h2 : (tu15Ops[4]?).map (·.op) = some (Op.move (Operand.tmp 82)) := by kernel_rfl
      have h3 : (tu15Ops[4]?).map (·.guard) = some none := by kernel_rfl
      rw [ho] at h1 h2 h3
      replace h1 := Option.some.inj h1
      replace h2 := Option.some.inj h2
      replace h3 := Option.some.inj h3
      simp only at h1 h2 h3
      rw [h1] at hK
      have l3 : L 3 = true := hdep 3 (by simp [tu15Dep])
      refine ⟨fun _ => ?_, fun hw => by rw [wanted_none h3] at hw; cases hw⟩
      refine wp_moveG _ h2 _ (show Act.at b 82 = .bool true from hc.v 3 l3 _ rfl) ?_
      rw [h1]
      exact hK _ _ (FlatC.step tu15_nd (tu15_ks ) rfl hc 4 (by decide) (Below.refl _ _) (fun u hu => by injection hu with hu; injection hu) (trivial))
    · have h1 : (tu15Ops[5]?).map (·.dst) = some (some 84) := by kernel_rfl
      have h2 : (tu15Ops[5]?).map (·.op) = some (Op.load 26 (Operand.tmp 13)) := by kernel_rfl
      have h3 : (tu15Ops[5]?).map (·.guard) = some (some (4, true)) := by kernel_rfl
      rw [ho] at h1 h2 h3
      replace h1 := Option.some.inj h1
      replace h2 := Option.some.inj h2
      replace h3 := Option.some.inj h3
      simp only at h1 h2 h3
      rw [h1] at hK
      have l4 : L 4 = true := hdep 4 (by simp [tu15Dep])
      have hw := wanted_of (ops := tu15Ops) (b := b) h3 (d := 83) (by kernel_rfl) (show Act.at b 83 = .bool true from hc.v 4 l4 _ rfl)
      rw [hw]
      refine ⟨fun _ => ?_, fun hq => absurd hq (by decide)⟩
      refine wp_load_row 26 (.tmp 13) h2 g13 ((hf 13 (by decide)).trans a13) 26 z.cells.toArray (0, 0) _ ((hbw.block g13 hKg13.lt).trans hKg13) Try.underlying26 rfl (tv_size z) ?_
      rw [h1]
      exact hK _ _ (FlatC.step tu15_nd (tu15_ks ) rfl hc 5 (by decide) (Below.refl _ _) (fun u hu => by injection hu with hu; injection hu) (trivial))
    · have h1 : (tu15Ops[6]?).map (·.dst) = some (some 85) := by kernel_rfl
      have h2 : (tu15Ops[6]?).map (·.op) = some (Op.load 26 (Operand.tmp 4)) := by kernel_rfl
      have h3 : (tu15Ops[6]?).map (·.guard) = some (some (4, true)) := by kernel_rfl
      rw [ho] at h1 h2 h3
      replace h1 := Option.some.inj h1
      replace h2 := Option.some.inj h2
      replace h3 := Option.some.inj h3
      simp only at h1 h2 h3
      rw [h1] at hK
      have l4 : L 4 = true := hdep 4 (by simp [tu15Dep])
      have hw := wanted_of (ops := tu15Ops) (b := b) h3 (d := 83) (by kernel_rfl) (show Act.at b 83 = .bool true from hc.v 4 l4 _ rfl)
      rw [hw]
      refine ⟨fun _ => ?_, fun hq => absurd hq (by decide)⟩
      refine wp_load_row 26 (.tmp 4) h2 g4 ((hf 4 (by decide)).trans a4) 26 y.cells.toArray (0, 0) _ ((hbw.block g4 hKg4.lt).trans hKg4) Try.underlying26 rfl (tv_size y) ?_
      rw [h1]
      exact hK _ _ (FlatC.step tu15_nd (tu15_ks ) rfl hc 6 (by decide) (Below.refl _ _) (fun u hu => by injection hu with hu; injection hu) (trivial))
    · have h1 : (tu15Ops[7]?).map (·.dst) = some (some 86) := by kernel_rfl
      have h2 : (tu15Ops[7]?).map (·.op) = some (Op.call { callee := Callee.value (Operand.func 12), args := #[Operand.tmp 84, Operand.tmp 85], argTypes := #[26, 26] }) := by kernel_rfl
      have h3 : (tu15Ops[7]?).map (·.guard) = some (some (4, true)) := by kernel_rfl
      rw [ho] at h1 h2 h3
      replace h1 := Option.some.inj h1
      replace h2 := Option.some.inj h2
      replace h3 := Option.some.inj h3
      simp only at h1 h2 h3
      rw [h1] at hK
      have l4 : L 4 = true := hdep 4 (by simp [tu15Dep])
      have l5 : L 5 = true := hdep 5 (by simp [tu15Dep])
      have l6 : L 6 = true := hdep 6 (by simp [tu15Dep])
      have hw := wanted_of (ops := tu15Ops) (b := b) h3 (d := 83) (by kernel_rfl) (show Act.at b 83 = .bool true from hc.v 4 l4 _ rfl)
      rw [hw]
      refine ⟨fun _ => ?_, fun hq => absurd hq (by decide)⟩
      refine wp_callG 12 _ _ h2 (enters_of Try.func12 (by kernel_rfl) rfl) #[.agg z.cells.toArray, .agg y.cells.toArray] (by simp [show b.eval (.tmp 84) = _ from (show Act.at b 84 = .agg z.cells.toArray from hc.v 5 l5 _ rfl), show b.eval (.tmp 85) = _ from (show Act.at b 85 = .agg y.cells.toArray from hc.v 6 l6 _ rfl)]) _ (HS1 w hbw) ?_
      rintro v w2 ⟨rfl, hb2⟩
      rw [h1]
      exact hK _ _ (FlatC.step tu15_nd (tu15_ks ) rfl hc 7 (by decide) (hb2) (fun u hu => by injection hu with hu; injection hu) (trivial))
    · have h1 : (tu15Ops[8]?).map (·.dst) = some (some 87) := by kernel_rfl
      have h2 : (tu15Ops[8]?).map (·.op) = some (Op.pick (Operand.tmp 83) (Operand.tmp 86) (Operand.const (Value.bool false))) := by kernel_rfl
      have h3 : (tu15Ops[8]?).map (·.guard) = some none := by kernel_rfl
      rw [ho] at h1 h2 h3
      replace h1 := Option.some.inj h1
      replace h2 := Option.some.inj h2
      replace h3 := Option.some.inj h3
      simp only at h1 h2 h3
      rw [h1] at hK
      have l4 : L 4 = true := hdep 4 (by simp [tu15Dep])
      have l7 : L 7 = true := hdep 7 (by simp [tu15Dep])
      refine ⟨fun _ => ?_, fun hw => by rw [wanted_none h3] at hw; cases hw⟩
      refine wp_pickG _ _ _ h2 true (show Act.at b 83 = .bool true from hc.v 4 l4 _ rfl) _ (if_pos rfl |>.trans (show Act.at b 86 = .bool true from hc.v 7 l7 _ rfl)) ?_
      rw [h1]
      exact hK _ _ (FlatC.step tu15_nd (tu15_ks ) rfl hc 8 (by decide) (Below.refl _ _) (fun u hu => by injection hu with hu; injection hu) (trivial))
    · have h1 : (tu15Ops[9]?).map (·.dst) = some (some 88) := by kernel_rfl
      have h2 : (tu15Ops[9]?).map (·.op) = some (Op.move (Operand.tmp 87)) := by kernel_rfl
      have h3 : (tu15Ops[9]?).map (·.guard) = some none := by kernel_rfl
      rw [ho] at h1 h2 h3
      replace h1 := Option.some.inj h1
      replace h2 := Option.some.inj h2
      replace h3 := Option.some.inj h3
      simp only at h1 h2 h3
      rw [h1] at hK
      have l8 : L 8 = true := hdep 8 (by simp [tu15Dep])
      refine ⟨fun _ => ?_, fun hw => by rw [wanted_none h3] at hw; cases hw⟩
      refine wp_moveG _ h2 _ (show Act.at b 87 = .bool true from hc.v 8 l8 _ rfl) ?_
      rw [h1]
      exact hK _ _ (FlatC.step tu15_nd (tu15_ks ) rfl hc 9 (by decide) (Below.refl _ _) (fun u hu => by injection hu with hu; injection hu) (trivial))
    · have h1 : (tu15Ops[10]?).map (·.dst) = some (some 89) := by kernel_rfl
      have h2 : (tu15Ops[10]?).map (·.op) = some (Op.load 26 (Operand.tmp 15)) := by kernel_rfl
      have h3 : (tu15Ops[10]?).map (·.guard) = some (some (9, true)) := by kernel_rfl
      rw [ho] at h1 h2 h3
      replace h1 := Option.some.inj h1
      replace h2 := Option.some.inj h2
      replace h3 := Option.some.inj h3
      simp only at h1 h2 h3
      rw [h1] at hK
      have l9 : L 9 = true := hdep 9 (by simp [tu15Dep])
      have hw := wanted_of (ops := tu15Ops) (b := b) h3 (d := 88) (by kernel_rfl) (show Act.at b 88 = .bool true from hc.v 9 l9 _ rfl)
      rw [hw]
      refine ⟨fun _ => ?_, fun hq => absurd hq (by decide)⟩
      refine wp_load_row 26 (.tmp 15) h2 g15 ((hf 15 (by decide)).trans a15) 26 b0.cells.toArray (0, 0) _ ((hbw.block g15 hKg15.lt).trans hKg15) Try.underlying26 rfl (tv_size b0) ?_
      rw [h1]
      exact hK _ _ (FlatC.step tu15_nd (tu15_ks ) rfl hc 10 (by decide) (Below.refl _ _) (fun u hu => by injection hu with hu; injection hu) (trivial))
    · have h1 : (tu15Ops[11]?).map (·.dst) = some (some 90) := by kernel_rfl
      have h2 : (tu15Ops[11]?).map (·.op) = some (Op.load 26 (Operand.tmp 3)) := by kernel_rfl
      have h3 : (tu15Ops[11]?).map (·.guard) = some (some (9, true)) := by kernel_rfl
      rw [ho] at h1 h2 h3
      replace h1 := Option.some.inj h1
      replace h2 := Option.some.inj h2
      replace h3 := Option.some.inj h3
      simp only at h1 h2 h3
      rw [h1] at hK
      have l9 : L 9 = true := hdep 9 (by simp [tu15Dep])
      have hw := wanted_of (ops := tu15Ops) (b := b) h3 (d := 88) (by kernel_rfl) (show Act.at b 88 = .bool true from hc.v 9 l9 _ rfl)
      rw [hw]
      refine ⟨fun _ => ?_, fun hq => absurd hq (by decide)⟩
      refine wp_load_row 26 (.tmp 3) h2 g3 ((hf 3 (by decide)).trans a3) 26 tv.cells.toArray (0, 0) _ ((hbw.block g3 hKg3.lt).trans hKg3) Try.underlying26 rfl (tv_size tv) ?_
      rw [h1]
      exact hK _ _ (FlatC.step tu15_nd (tu15_ks ) rfl hc 11 (by decide) (Below.refl _ _) (fun u hu => by injection hu with hu; injection hu) (trivial))
    · have h1 : (tu15Ops[12]?).map (·.dst) = some (some 91) := by kernel_rfl
      have h2 : (tu15Ops[12]?).map (·.op) = some (Op.call { callee := Callee.value (Operand.func 12), args := #[Operand.tmp 89, Operand.tmp 90], argTypes := #[26, 26] }) := by kernel_rfl
      have h3 : (tu15Ops[12]?).map (·.guard) = some (some (9, true)) := by kernel_rfl
      rw [ho] at h1 h2 h3
      replace h1 := Option.some.inj h1
      replace h2 := Option.some.inj h2
      replace h3 := Option.some.inj h3
      simp only at h1 h2 h3
      rw [h1] at hK
      have l9 : L 9 = true := hdep 9 (by simp [tu15Dep])
      have l10 : L 10 = true := hdep 10 (by simp [tu15Dep])
      have l11 : L 11 = true := hdep 11 (by simp [tu15Dep])
      have hw := wanted_of (ops := tu15Ops) (b := b) h3 (d := 88) (by kernel_rfl) (show Act.at b 88 = .bool true from hc.v 9 l9 _ rfl)
      rw [hw]
      refine ⟨fun _ => ?_, fun hq => absurd hq (by decide)⟩
      refine wp_callG 12 _ _ h2 (enters_of Try.func12 (by kernel_rfl) rfl) #[.agg b0.cells.toArray, .agg tv.cells.toArray] (by simp [show b.eval (.tmp 89) = _ from (show Act.at b 89 = .agg b0.cells.toArray from hc.v 10 l10 _ rfl), show b.eval (.tmp 90) = _ from (show Act.at b 90 = .agg tv.cells.toArray from hc.v 11 l11 _ rfl)]) _ (HS2 w hbw) ?_
      rintro v w2 ⟨rfl, hb2⟩
      rw [h1]
      exact hK _ _ (FlatC.step tu15_nd (tu15_ks ) rfl hc 12 (by decide) (hb2) (fun u hu => by injection hu with hu; injection hu) (trivial))
    · have h1 : (tu15Ops[13]?).map (·.dst) = some (some 92) := by kernel_rfl
      have h2 : (tu15Ops[13]?).map (·.op) = some (Op.pick (Operand.tmp 88) (Operand.tmp 91) (Operand.const (Value.bool false))) := by kernel_rfl
      have h3 : (tu15Ops[13]?).map (·.guard) = some none := by kernel_rfl
      rw [ho] at h1 h2 h3
      replace h1 := Option.some.inj h1
      replace h2 := Option.some.inj h2
      replace h3 := Option.some.inj h3
      simp only at h1 h2 h3
      rw [h1] at hK
      have l9 : L 9 = true := hdep 9 (by simp [tu15Dep])
      have l12 : L 12 = true := hdep 12 (by simp [tu15Dep])
      refine ⟨fun _ => ?_, fun hw => by rw [wanted_none h3] at hw; cases hw⟩
      refine wp_pickG _ _ _ h2 true (show Act.at b 88 = .bool true from hc.v 9 l9 _ rfl) _ (if_pos rfl |>.trans (show Act.at b 91 = .bool true from hc.v 12 l12 _ rfl)) ?_
      rw [h1]
      exact hK _ _ (FlatC.step tu15_nd (tu15_ks ) rfl hc 13 (by decide) (Below.refl _ _) (fun u hu => by injection hu with hu; injection hu) (trivial))
    · have h1 : (tu15Ops[14]?).map (·.dst) = some (some 93) := by kernel_rfl
      have h2 : (tu15Ops[14]?).map (·.op) = some (Op.move (Operand.tmp 92)) := by kernel_rfl
      have h3 : (tu15Ops[14]?).map (·.guard) = some none := by kernel_rfl
      rw [ho] at h1 h2 h3
      replace h1 := Option.some.inj h1
      replace h2 := Option.some.inj h2
      replace h3 := Option.some.inj h3
      simp only at h1 h2 h3
      rw [h1] at hK
      have l13 : L 13 = true := hdep 13 (by simp [tu15Dep])
      refine ⟨fun _ => ?_, fun hw => by rw [wanted_none h3] at hw; cases hw⟩
      refine wp_moveG _ h2 _ (show Act.at b 92 = .bool true from hc.v 13 l13 _ rfl) ?_
      rw [h1]
      exact hK _ _ (FlatC.step tu15_nd (tu15_ks ) rfl hc 14 (by decide) (Below.refl _ _) (fun u hu => by injection hu with hu; injection hu) (trivial))
    · have h1 : (tu15Ops[15]?).map (·.dst) = some (some 94) := by kernel_rfl
      have h2 : (tu15Ops[15]?).map (·.op) = some (Op.load 26 (Operand.tmp 11)) := by kernel_rfl
      have h3 : (tu15Ops[15]?).map (·.guard) = some (some (14, true)) := by kernel_rfl
      rw [ho] at h1 h2 h3
      replace h1 := Option.some.inj h1
      replace h2 := Option.some.inj h2
      replace h3 := Option.some.inj h3
      simp only at h1 h2 h3
      rw [h1] at hK
      have l14 : L 14 = true := hdep 14 (by simp [tu15Dep])
      have hw := wanted_of (ops := tu15Ops) (b := b) h3 (d := 93) (by kernel_rfl) (show Act.at b 93 = .bool true from hc.v 14 l14 _ rfl)
      rw [hw]
      refine ⟨fun _ => ?_, fun hq => absurd hq (by decide)⟩
      refine wp_load_row 26 (.tmp 11) h2 g11 ((hf 11 (by decide)).trans a11) 26 x.cells.toArray (0, 0) _ ((hbw.block g11 hKg11.lt).trans hKg11) Try.underlying26 rfl (tv_size x) ?_
      rw [h1]
      exact hK _ _ (FlatC.step tu15_nd (tu15_ks ) rfl hc 15 (by decide) (Below.refl _ _) (fun u hu => by injection hu with hu; injection hu) (trivial))
    · have h1 : (tu15Ops[16]?).map (·.dst) = some (some 95) := by kernel_rfl
      have h2 : (tu15Ops[16]?).map (·.op) = some (Op.call { callee := Callee.value (Operand.func 16), args := #[Operand.tmp 94], argTypes := #[26] }) := by kernel_rfl
      have h3 : (tu15Ops[16]?).map (·.guard) = some (some (14, true)) := by kernel_rfl
      rw [ho] at h1 h2 h3
      replace h1 := Option.some.inj h1
      replace h2 := Option.some.inj h2
      replace h3 := Option.some.inj h3
      simp only at h1 h2 h3
      rw [h1] at hK
      have l14 : L 14 = true := hdep 14 (by simp [tu15Dep])
      have l15 : L 15 = true := hdep 15 (by simp [tu15Dep])
      have hw := wanted_of (ops := tu15Ops) (b := b) h3 (d := 93) (by kernel_rfl) (show Act.at b 93 = .bool true from hc.v 14 l14 _ rfl)
      rw [hw]
      refine ⟨fun _ => ?_, fun hq => absurd hq (by decide)⟩
      refine wp_callG 16 _ _ h2 (enters_of Try.func16 (by kernel_rfl) rfl) #[.agg x.cells.toArray] (by simp [show b.eval (.tmp 94) = _ from (show Act.at b 94 = .agg x.cells.toArray from hc.v 15 l15 _ rfl)]) _ (HP1 w hbw) ?_
      rintro v w2 ⟨rfl, hb2⟩
      rw [h1]
      exact hK _ _ (FlatC.step tu15_nd (tu15_ks ) rfl hc 16 (by decide) (hb2) (fun u hu => by injection hu with hu; injection hu) (trivial))
    · have h1 : (tu15Ops[17]?).map (·.dst) = some (some 96) := by kernel_rfl
      have h2 : (tu15Ops[17]?).map (·.op) = some (Op.load 26 (Operand.tmp 4)) := by kernel_rfl
      have h3 : (tu15Ops[17]?).map (·.guard) = some (some (14, true)) := by kernel_rfl
      rw [ho] at h1 h2 h3
      replace h1 := Option.some.inj h1
      replace h2 := Option.some.inj h2
      replace h3 := Option.some.inj h3
      simp only at h1 h2 h3
      rw [h1] at hK
      have l14 : L 14 = true := hdep 14 (by simp [tu15Dep])
      have hw := wanted_of (ops := tu15Ops) (b := b) h3 (d := 93) (by kernel_rfl) (show Act.at b 93 = .bool true from hc.v 14 l14 _ rfl)
      rw [hw]
      refine ⟨fun _ => ?_, fun hq => absurd hq (by decide)⟩
      refine wp_load_row 26 (.tmp 4) h2 g4 ((hf 4 (by decide)).trans a4) 26 y.cells.toArray (0, 0) _ ((hbw.block g4 hKg4.lt).trans hKg4) Try.underlying26 rfl (tv_size y) ?_
      rw [h1]
      exact hK _ _ (FlatC.step tu15_nd (tu15_ks ) rfl hc 17 (by decide) (Below.refl _ _) (fun u hu => by injection hu with hu; injection hu) (trivial))
    · have h1 : (tu15Ops[18]?).map (·.dst) = some (some 97) := by kernel_rfl
      have h2 : (tu15Ops[18]?).map (·.op) = some (Op.call { callee := Callee.value (Operand.func 16), args := #[Operand.tmp 96], argTypes := #[26] }) := by kernel_rfl
      have h3 : (tu15Ops[18]?).map (·.guard) = some (some (14, true)) := by kernel_rfl
      rw [ho] at h1 h2 h3
      replace h1 := Option.some.inj h1
      replace h2 := Option.some.inj h2
      replace h3 := Option.some.inj h3
      simp only at h1 h2 h3
      rw [h1] at hK
      have l14 : L 14 = true := hdep 14 (by simp [tu15Dep])
      have l17 : L 17 = true := hdep 17 (by simp [tu15Dep])
      have hw := wanted_of (ops := tu15Ops) (b := b) h3 (d := 93) (by kernel_rfl) (show Act.at b 93 = .bool true from hc.v 14 l14 _ rfl)
      rw [hw]
      refine ⟨fun _ => ?_, fun hq => absurd hq (by decide)⟩
      refine wp_callG 16 _ _ h2 (enters_of Try.func16 (by kernel_rfl) rfl) #[.agg y.cells.toArray] (by simp [show b.eval (.tmp 96) = _ from (show Act.at b 96 = .agg y.cells.toArray from hc.v 17 l17 _ rfl)]) _ (HP2 w hbw) ?_
      rintro v w2 ⟨rfl, hb2⟩
      rw [h1]
      exact hK _ _ (FlatC.step tu15_nd (tu15_ks ) rfl hc 18 (by decide) (hb2) (fun u hu => by injection hu with hu; injection hu) (trivial))
    · have h1 : (tu15Ops[19]?).map (·.dst) = some (some 98) := by kernel_rfl
      have h2 : (tu15Ops[19]?).map (·.op) = some (Op.binOp BinOp.sub 3 (Operand.tmp 95) (Operand.tmp 97) 3) := by kernel_rfl
      have h3 : (tu15Ops[19]?).map (·.guard) = some (some (14, true)) := by kernel_rfl
      rw [ho] at h1 h2 h3
      replace h1 := Option.some.inj h1
      replace h2 := Option.some.inj h2
      replace h3 := Option.some.inj h3
      simp only at h1 h2 h3
      rw [h1] at hK
      have l14 : L 14 = true := hdep 14 (by simp [tu15Dep])
      have l16 : L 16 = true := hdep 16 (by simp [tu15Dep])
      have l18 : L 18 = true := hdep 18 (by simp [tu15Dep])
      have hw := wanted_of (ops := tu15Ops) (b := b) h3 (d := 93) (by kernel_rfl) (show Act.at b 93 = .bool true from hc.v 14 l14 _ rfl)
      rw [hw]
      refine ⟨fun _ => ?_, fun hq => absurd hq (by decide)⟩
      refine wp_binG _ _ _ _ _ h2 _ _ (.int .i64 dd) (show Act.at b 95 = .int .i64 pu from hc.v 16 l16 _ rfl) (show Act.at b 97 = .int .i64 pp from hc.v 18 l18 _ rfl) (by kernel_rfl) (HD1 _) ?_
      rw [h1]
      exact hK _ _ (FlatC.step tu15_nd (tu15_ks ) rfl hc 19 (by decide) (Below.refl _ _) (fun u hu => by injection hu with hu; injection hu) (trivial))
    · have h1 : (tu15Ops[20]?).map (·.dst) = some (some 99) := by kernel_rfl
      have h2 : (tu15Ops[20]?).map (·.op) = some (Op.load 26 (Operand.tmp 3)) := by kernel_rfl
      have h3 : (tu15Ops[20]?).map (·.guard) = some (some (14, true)) := by kernel_rfl
      rw [ho] at h1 h2 h3
      replace h1 := Option.some.inj h1
      replace h2 := Option.some.inj h2
      replace h3 := Option.some.inj h3
      simp only at h1 h2 h3
      rw [h1] at hK
      have l14 : L 14 = true := hdep 14 (by simp [tu15Dep])
      have hw := wanted_of (ops := tu15Ops) (b := b) h3 (d := 93) (by kernel_rfl) (show Act.at b 93 = .bool true from hc.v 14 l14 _ rfl)
      rw [hw]
      refine ⟨fun _ => ?_, fun hq => absurd hq (by decide)⟩
      refine wp_load_row 26 (.tmp 3) h2 g3 ((hf 3 (by decide)).trans a3) 26 tv.cells.toArray (0, 0) _ ((hbw.block g3 hKg3.lt).trans hKg3) Try.underlying26 rfl (tv_size tv) ?_
      rw [h1]
      exact hK _ _ (FlatC.step tu15_nd (tu15_ks ) rfl hc 20 (by decide) (Below.refl _ _) (fun u hu => by injection hu with hu; injection hu) (trivial))
    · have h1 : (tu15Ops[21]?).map (·.dst) = some (some 100) := by kernel_rfl
      have h2 : (tu15Ops[21]?).map (·.op) = some (Op.call { callee := Callee.value (Operand.func 16), args := #[Operand.tmp 99], argTypes := #[26] }) := by kernel_rfl
      have h3 : (tu15Ops[21]?).map (·.guard) = some (some (14, true)) := by kernel_rfl
      rw [ho] at h1 h2 h3
      replace h1 := Option.some.inj h1
      replace h2 := Option.some.inj h2
      replace h3 := Option.some.inj h3
      simp only at h1 h2 h3
      rw [h1] at hK
      have l14 : L 14 = true := hdep 14 (by simp [tu15Dep])
      have l20 : L 20 = true := hdep 20 (by simp [tu15Dep])
      have hw := wanted_of (ops := tu15Ops) (b := b) h3 (d := 93) (by kernel_rfl) (show Act.at b 93 = .bool true from hc.v 14 l14 _ rfl)
      rw [hw]
      refine ⟨fun _ => ?_, fun hq => absurd hq (by decide)⟩
      refine wp_callG 16 _ _ h2 (enters_of Try.func16 (by kernel_rfl) rfl) #[.agg tv.cells.toArray] (by simp [show b.eval (.tmp 99) = _ from (show Act.at b 99 = .agg tv.cells.toArray from hc.v 20 l20 _ rfl)]) _ (HP3 w hbw) ?_
      rintro v w2 ⟨rfl, hb2⟩
      rw [h1]
      exact hK _ _ (FlatC.step tu15_nd (tu15_ks ) rfl hc 21 (by decide) (hb2) (fun u hu => by injection hu with hu; injection hu) (trivial))
    · have h1 : (tu15Ops[22]?).map (·.dst) = some (some 101) := by kernel_rfl
      have h2 : (tu15Ops[22]?).map (·.op) = some (Op.load 26 (Operand.tmp 9)) := by kernel_rfl
      have h3 : (tu15Ops[22]?).map (·.guard) = some (some (14, true)) := by kernel_rfl
      rw [ho] at h1 h2 h3
      replace h1 := Option.some.inj h1
      replace h2 := Option.some.inj h2
      replace h3 := Option.some.inj h3
      simp only at h1 h2 h3
      rw [h1] at hK
      have l14 : L 14 = true := hdep 14 (by simp [tu15Dep])
      have hw := wanted_of (ops := tu15Ops) (b := b) h3 (d := 93) (by kernel_rfl) (show Act.at b 93 = .bool true from hc.v 14 l14 _ rfl)
      rw [hw]
      refine ⟨fun _ => ?_, fun hq => absurd hq (by decide)⟩
      refine wp_load_row 26 (.tmp 9) h2 g9 ((hf 9 (by decide)).trans a9) 26 od.cells.toArray (0, 0) _ ((hbw.block g9 hKg9.lt).trans hKg9) Try.underlying26 rfl (tv_size od) ?_
      rw [h1]
      exact hK _ _ (FlatC.step tu15_nd (tu15_ks ) rfl hc 22 (by decide) (Below.refl _ _) (fun u hu => by injection hu with hu; injection hu) (trivial))
    · have h1 : (tu15Ops[23]?).map (·.dst) = some (some 102) := by kernel_rfl
      have h2 : (tu15Ops[23]?).map (·.op) = some (Op.call { callee := Callee.value (Operand.func 16), args := #[Operand.tmp 101], argTypes := #[26] }) := by kernel_rfl
      have h3 : (tu15Ops[23]?).map (·.guard) = some (some (14, true)) := by kernel_rfl
      rw [ho] at h1 h2 h3
      replace h1 := Option.some.inj h1
      replace h2 := Option.some.inj h2
      replace h3 := Option.some.inj h3
      simp only at h1 h2 h3
      rw [h1] at hK
      have l14 : L 14 = true := hdep 14 (by simp [tu15Dep])
      have l22 : L 22 = true := hdep 22 (by simp [tu15Dep])
      have hw := wanted_of (ops := tu15Ops) (b := b) h3 (d := 93) (by kernel_rfl) (show Act.at b 93 = .bool true from hc.v 14 l14 _ rfl)
      rw [hw]
      refine ⟨fun _ => ?_, fun hq => absurd hq (by decide)⟩
      refine wp_callG 16 _ _ h2 (enters_of Try.func16 (by kernel_rfl) rfl) #[.agg od.cells.toArray] (by simp [show b.eval (.tmp 101) = _ from (show Act.at b 101 = .agg od.cells.toArray from hc.v 22 l22 _ rfl)]) _ (HP4 w hbw) ?_
      rintro v w2 ⟨rfl, hb2⟩
      rw [h1]
      exact hK _ _ (FlatC.step tu15_nd (tu15_ks ) rfl hc 23 (by decide) (hb2) (fun u hu => by injection hu with hu; injection hu) (trivial))
    · have h1 : (tu15Ops[24]?).map (·.dst) = some (some 103) := by kernel_rfl
      have h2 : (tu15Ops[24]?).map (·.op) = some (Op.binOp BinOp.sub 3 (Operand.tmp 100) (Operand.tmp 102) 3) := by kernel_rfl
      have h3 : (tu15Ops[24]?).map (·.guard) = some (some (14, true)) := by kernel_rfl
      rw [ho] at h1 h2 h3
      replace h1 := Option.some.inj h1
      replace h2 := Option.some.inj h2
      replace h3 := Option.some.inj h3
      simp only at h1 h2 h3
      rw [h1] at hK
      have l14 : L 14 = true := hdep 14 (by simp [tu15Dep])
      have l21 : L 21 = true := hdep 21 (by simp [tu15Dep])
      have l23 : L 23 = true := hdep 23 (by simp [tu15Dep])
      have hw := wanted_of (ops := tu15Ops) (b := b) h3 (d := 93) (by kernel_rfl) (show Act.at b 93 = .bool true from hc.v 14 l14 _ rfl)
      rw [hw]
      refine ⟨fun _ => ?_, fun hq => absurd hq (by decide)⟩
      refine wp_binG _ _ _ _ _ h2 _ _ (.int .i64 dd) (show Act.at b 100 = .int .i64 pt from hc.v 21 l21 _ rfl) (show Act.at b 102 = .int .i64 po from hc.v 23 l23 _ rfl) (by kernel_rfl) (HD2 _) ?_
      rw [h1]
      exact hK _ _ (FlatC.step tu15_nd (tu15_ks ) rfl hc 24 (by decide) (Below.refl _ _) (fun u hu => by injection hu with hu; injection hu) (trivial))
    · have h1 : (tu15Ops[25]?).map (·.dst) = some (some 104) := by kernel_rfl
      have h2 : (tu15Ops[25]?).map (·.op) = some (Op.binOp BinOp.eql 3 (Operand.tmp 98) (Operand.tmp 103) 3) := by kernel_rfl
      have h3 : (tu15Ops[25]?).map (·.guard) = some (some (14, true)) := by kernel_rfl
      rw [ho] at h1 h2 h3
      replace h1 := Option.some.inj h1
      replace h2 := Option.some.inj h2
      replace h3 := Option.some.inj h3
      simp only at h1 h2 h3
      rw [h1] at hK
      have l14 : L 14 = true := hdep 14 (by simp [tu15Dep])
      have l19 : L 19 = true := hdep 19 (by simp [tu15Dep])
      have l24 : L 24 = true := hdep 24 (by simp [tu15Dep])
      have hw := wanted_of (ops := tu15Ops) (b := b) h3 (d := 93) (by kernel_rfl) (show Act.at b 93 = .bool true from hc.v 14 l14 _ rfl)
      rw [hw]
      refine ⟨fun _ => ?_, fun hq => absurd hq (by decide)⟩
      refine wp_binG _ _ _ _ _ h2 _ _ (.bool true) (show Act.at b 98 = .int .i64 dd from hc.v 19 l19 _ rfl) (show Act.at b 103 = .int .i64 dd from hc.v 24 l24 _ rfl) (by kernel_rfl) (HD3 _) ?_
      rw [h1]
      exact hK _ _ (FlatC.step tu15_nd (tu15_ks ) rfl hc 25 (by decide) (Below.refl _ _) (fun u hu => by injection hu with hu; injection hu) (trivial))
    · have h1 : (tu15Ops[26]?).map (·.dst) = some (some 105) := by kernel_rfl
      have h2 : (tu15Ops[26]?).map (·.op) = some (Op.pick (Operand.tmp 93) (Operand.tmp 104) (Operand.const (Value.bool false))) := by kernel_rfl
      have h3 : (tu15Ops[26]?).map (·.guard) = some none := by kernel_rfl
      rw [ho] at h1 h2 h3
      replace h1 := Option.some.inj h1
      replace h2 := Option.some.inj h2
      replace h3 := Option.some.inj h3
      simp only at h1 h2 h3
      rw [h1] at hK
      have l14 : L 14 = true := hdep 14 (by simp [tu15Dep])
      have l25 : L 25 = true := hdep 25 (by simp [tu15Dep])
      refine ⟨fun _ => ?_, fun hw => by rw [wanted_none h3] at hw; cases hw⟩
      refine wp_pickG _ _ _ h2 true (show Act.at b 93 = .bool true from hc.v 14 l14 _ rfl) _ (if_pos rfl |>.trans (show Act.at b 104 = .bool true from hc.v 25 l25 _ rfl)) ?_
      rw [h1]
      exact hK _ _ (FlatC.step tu15_nd (tu15_ks ) rfl hc 26 (by decide) (Below.refl _ _) (fun u hu => by injection hu with hu; injection hu) (trivial))
    · have h1 : (tu15Ops[27]?).map (·.dst) = some (some 6) := by kernel_rfl
      have h2 : (tu15Ops[27]?).map (·.op) = some (Op.assign (Operand.tmp 105)) := by kernel_rfl
      have h3 : (tu15Ops[27]?).map (·.guard) = some none := by kernel_rfl
      rw [ho] at h1 h2 h3
      replace h1 := Option.some.inj h1
      replace h2 := Option.some.inj h2
      replace h3 := Option.some.inj h3
      simp only at h1 h2 h3
      rw [h1] at hK
      have l26 : L 26 = true := hdep 26 (by simp [tu15Dep])
      refine ⟨fun _ => ?_, fun hw => by rw [wanted_none h3] at hw; cases hw⟩
      refine wp_assignG _ h2 _ (show Act.at b 105 = .bool true from hc.v 26 l26 _ rfl) ?_
      rw [h1]
      exact hK _ _ (FlatC.step tu15_nd (tu15_ks ) rfl hc 27 (by decide) (Below.refl _ _) (fun u hu => by injection hu with hu; injection hu) (trivial))
  · rintro L b w hL hd hs hf hc
    have hsz2 : tu15Ops.size = 28 := rfl
    rw [hsz2] at hL
    have e := act_eq (a := A0) (b := b) (tu15Us (Act.at b)) hd hs hf (by
      intro p hp
      simp only [tu15Us, List.mem_cons, List.not_mem_nil, or_false] at hp
      rcases hp with rfl | rfl | rfl | rfl | rfl | rfl | rfl | rfl | rfl | rfl | rfl | rfl | rfl | rfl | rfl | rfl | rfl | rfl | rfl | rfl | rfl | rfl | rfl | rfl | rfl | rfl | rfl | rfl <;> rfl) (by rw [show (tu15Us (Act.at b)).map (·.1) = [79, 80, 81, 82, 83, 84, 85, 86, 87, 88, 89, 90, 91, 92, 93, 94, 95, 96, 97, 98, 99, 100, 101, 102, 103, 104, 105, 6] from rfl]; decide)
    rw [e]
    exact hk (Act.at b) w (hc.v 27 (hL 27 (by omega)) _ rfl) ⟨hc.bel.os, hc.bel.tape, hc.bel.output, hc.bel.size, hc.bel.block⟩
end Go.Proofs.Ytdhipmdapodpkaa
