/- spec: two statements of SpecParts, in open order. -/
import Derived.Test.YtbhfkgaenahchaaSpKd
import Derived.Test.YtbhfkgaenahchaaSpCa
namespace Go.Proofs.Ytbhfkgaenahchaa
set_option linter.unusedSimpArgs false
set_option linter.unusedVariables false
open Go.RowKit

theorem field_0N (g : Nat) (w : World) : (Instr.fieldAt 38 (.pointer (some ⟨g, 0, none⟩)) 0).run Try.prog w = .ok (.pointer (some ⟨g, 0, none⟩)) w := by kernel_rfl
theorem field_1N (g : Nat) (w : World) : (Instr.fieldAt 38 (.pointer (some ⟨g, 0, none⟩)) 1).run Try.prog w = .ok (.pointer (some ⟨g, 1, none⟩)) w := by kernel_rfl
theorem load_i {w : World} {p : Addr} {k : Int} (h : w.cell? p = some (.int .i64 k)) : (Instr.loadAt 3 (.pointer (some p))).run Try.prog w = .ok (.int .i64 k) w := by
  simp [Instr.loadAt, h]
  go_simp
theorem eq_ints (k m : Int) (w : World) : (binOp .eql 3 (.int .i64 k) (.int .i64 m)).run Try.prog w = .ok (.bool (k == m)) w := by
  go_simp
theorem NBox.lt {w : World} {g : Nat} {cs : Array Value} {x : NV} (h : NBox w g cs x) : g < w.heap.size := (Array.getElem?_eq_some_iff.1 h.1).1
def paaOps : Array Oper := #[{ dst := some 21, op := Op.load 38 (Operand.tmp 1), type := 38, pos := "law.go:293", after := #[], guard := none }, { dst := some 22, op := Op.call { callee := Callee.value (Operand.func 22), args := #[Operand.tmp 21], argTypes := #[38] }, type := 33, pos := "law.go:293", after := #[{ on := 0, ground := Ground.data }], guard := none }, { dst := some 23, op := Op.load 38 (Operand.tmp 1), type := 38, pos := "law.go:293", after := #[], guard := none }, { dst := some 24, op := Op.call { callee := Callee.value (Operand.func 10), args := #[Operand.tmp 23], argTypes := #[38] }, type := 33, pos := "law.go:293", after := #[{ on := 2, ground := Ground.data }, { on := 1, ground := Ground.chain }], guard := none }, { dst := some 25, op := Op.call { callee := Callee.value (Operand.func 21), args := #[Operand.tmp 22, Operand.tmp 24], argTypes := #[33, 33] }, type := 4, pos := "law.go:293", after := #[{ on := 1, ground := Ground.data }, { on := 3, ground := Ground.data }, { on := 3, ground := Ground.chain }], guard := none }, { dst := some 26, op := Op.unOp UnOp.not 4 (Operand.tmp 25), type := 4, pos := "law.go:293", after := #[{ on := 4, ground := Ground.data }], guard := none }, { dst := some 27, op := Op.move (Operand.tmp 26), type := 4, pos := "law.go:293", after := #[{ on := 5, ground := Ground.data }, { on := 4, ground := Ground.chain }], guard := none }, { dst := some 28, op := Op.load 38 (Operand.tmp 1), type := 38, pos := "law.go:293", after := #[{ on := 6, ground := Ground.guard }], guard := some (6, false) }, { dst := some 29, op := Op.call { callee := Callee.value (Operand.func 23), args := #[Operand.tmp 28], argTypes := #[38] }, type := 4, pos := "law.go:293", after := #[{ on := 7, ground := Ground.data }, { on := 6, ground := Ground.chain }, { on := 6, ground := Ground.guard }], guard := some (6, false) }, { dst := some 30, op := Op.fieldAddr 38 (Operand.tmp 1) 0, type := 0, pos := "law.go:293", after := #[{ on := 6, ground := Ground.guard }], guard := some (6, false) }, { dst := some 31, op := Op.load 3 (Operand.tmp 30), type := 3, pos := "law.go:293", after := #[{ on := 9, ground := Ground.data }, { on := 6, ground := Ground.guard }], guard := some (6, false) }, { dst := some 32, op := Op.binOp BinOp.eql 3 (Operand.tmp 31) (Operand.const (Value.int IntKind.i64 1)) 3, type := 4, pos := "law.go:293", after := #[{ on := 10, ground := Ground.data }, { on := 6, ground := Ground.guard }], guard := some (6, false) }, { dst := some 33, op := Op.move (Operand.tmp 32), type := 4, pos := "law.go:293", after := #[{ on := 11, ground := Ground.data }, { on := 8, ground := Ground.chain }, { on := 6, ground := Ground.guard }], guard := some (6, false) }, { dst := some 34, op := Op.fieldAddr 38 (Operand.tmp 1) 0, type := 0, pos := "law.go:293", after := #[{ on := 12, ground := Ground.guard }], guard := some (12, false) }, { dst := some 35, op := Op.load 3 (Operand.tmp 34), type := 3, pos := "law.go:293", after := #[{ on := 13, ground := Ground.data }, { on := 12, ground := Ground.guard }], guard := some (12, false) }, { dst := some 36, op := Op.binOp BinOp.eql 3 (Operand.tmp 35) (Operand.const (Value.int IntKind.i64 2)) 3, type := 4, pos := "law.go:293", after := #[{ on := 14, ground := Ground.data }, { on := 12, ground := Ground.guard }], guard := some (12, false) }, { dst := some 37, op := Op.pick (Operand.tmp 33) (Operand.const (Value.bool true)) (Operand.tmp 36), type := 4, pos := "law.go:293", after := #[{ on := 12, ground := Ground.data }, { on := 15, ground := Ground.data }, { on := 6, ground := Ground.guard }], guard := some (6, false) }, { dst := some 38, op := Op.binOp BinOp.neq 4 (Operand.tmp 29) (Operand.tmp 37) 4, type := 4, pos := "law.go:293", after := #[{ on := 8, ground := Ground.data }, { on := 16, ground := Ground.data }, { on := 6, ground := Ground.guard }], guard := some (6, false) }, { dst := some 39, op := Op.pick (Operand.tmp 27) (Operand.const (Value.bool true)) (Operand.tmp 38), type := 4, pos := "law.go:293", after := #[{ on := 6, ground := Ground.data }, { on := 17, ground := Ground.data }], guard := none }]
def paaDep : Nat → List Nat := fun i => match i with | 4 => [1, 3] | 1 => [0] | 3 => [2] | 5 => [4] | 6 => [5] | 7 => [6] | 8 => [6, 7] | 9 => [6] | 10 => [6, 9] | 11 => [6, 10] | 12 => [6, 11] | 13 => [12] | 14 => [12] | 15 => [12] | 16 => [6, 12] | 17 => [6, 8, 16] | 18 => [6, 17] | _ => []
def paaSl : List Nat := [21, 22, 23, 24, 25, 26, 27, 28, 29, 30, 31, 32, 33, 34, 35, 36, 37, 38, 39]
def paaVs (g : Nat) (cs : Array Value) : List (Option Value) := [some (.agg cs), none, some (.agg cs), none, some (.bool true), some (.bool false), some (.bool false), some (.agg cs), some (.bool true), some (.pointer (some ⟨g, 0, none⟩)), some (.int .i64 1), some (.bool true), some (.bool true), some (undef), some (undef), some (undef), some (.bool true), some (.bool false), some (.bool false)]
def paaSp (Sk : Value → World → Prop) (Sl : Value → World → Prop) (i : Nat) : Value → World → Prop := match i with | 1 => Sk | 3 => Sl | _ => fun _ _ => True
theorem paa_ks {Sk : Value → World → Prop} {Sl : Value → World → Prop} (kSk : ∀ v w w', Sk v w → Below w.heap.size w w' → Sk v w') (kSl : ∀ v w w', Sl v w → Below w.heap.size w w' → Sl v w') : ∀ i v w w', paaSp Sk Sl i v w → Below w.heap.size w w' → paaSp Sk Sl i v w' := by
  intro i v w w' h hb
  unfold paaSp at h ⊢
  split <;> first | trivial | exact kSk _ _ _ h hb | exact kSl _ _ _ h hb
theorem paa_nd : paaSl.Nodup := by decide
def paaUs (f : Nat → Value) : List (Nat × Value) := [(21, f 21), (22, f 22), (23, f 23), (24, f 24), (25, f 25), (26, f 26), (27, f 27), (28, f 28), (29, f 29), (30, f 30), (31, f 31), (32, f 32), (33, f 33), (34, f 34), (35, f 35), (36, f 36), (37, f 37), (38, f 38), (39, f 39)]
set_option maxRecDepth 20000 in
set_option maxHeartbeats 4000000 in
theorem paa_reg {g : Nat} {cs : Array Value} {Sk : Value → World → Prop} {Sl : Value → World → Prop} {W : World} {A0 : Act} {Q : Exit → Act → World → Prop} {id : Nat} (a1 : Act.at A0 1 = .pointer (some ⟨g, 0, none⟩)) (hsz : 80 ≤ A0.tmps.size) (kSk : ∀ v w w', Sk v w → Below w.heap.size w w' → Sk v w') (kSl : ∀ v w w', Sl v w → Below w.heap.size w w' → Sl v w') {x : NV} (hG : NBox W g cs x) (hG0 : W.cell? ⟨g, 0, none⟩ = some (.int .i64 1)) 
    (HKi : ∀ w, Below W.heap.size W w → Calls Try.prog 22 #[.agg cs] w fun e w' => ∃ v, e = .returned v ∧ Sk v w' ∧ Below w.heap.size w w')
    (HKl : ∀ w, Below W.heap.size W w → Calls Try.prog 10 #[.agg cs] w fun e w' => ∃ v, e = .returned v ∧ Sl v w' ∧ Below w.heap.size w w')
    (HE : ∀ u z w, Sk u w → Sl z w → Below W.heap.size W w → Calls Try.prog 21 #[u, z] w fun e w' => ∃ v, e = .returned v ∧ v = .bool true ∧ Below w.heap.size w w')
    (HNu : ∀ w, Below W.heap.size W w → Calls Try.prog 23 #[.agg cs] w fun e w' => ∃ v, e = .returned v ∧ v = .bool true ∧ Below w.heap.size w w')
    (hk : ∀ (f : Nat → Value) w', f 39 = .bool false → Below W.heap.size W w' → Q .normal ⟨(paaUs f).foldl (fun A p => A.setIfInBounds p.1 p.2) A0.tmps, A0.defers⟩ w') :
    (Code.region id paaOps true).wp Try.prog Q A0 W := by
  refine wp_region_fun3 (by kernel_rfl) (fun L f w => FlatC W.drew paaSl (paaVs g cs) (paaSp Sk Sl) L f w) [21, 22, 23, 24, 25, 26, 27, 28, 29, 30, 31, 32, 33, 34, 35, 36, 37, 38, 39] (fun i o ho => (wf_ops3 (ops := paaOps) (by kernel_rfl)) i o ho) (fun i o ho u hu => ?_) ?_ ?_ ?_
  · have := ops_dst [21, 22, 23, 24, 25, 26, 27, 28, 29, 30, 31, 32, 33, 34, 35, 36, 37, 38, 39] 80 (by kernel_rfl) i o ho u hu
    exact ⟨this.1, Nat.lt_of_lt_of_le this.2 hsz⟩
  · have hs : paaOps.size = 19 := rfl
    rw [hs]
    exact FlatC.start rfl rfl
  · rintro L i o ho hLi haf b w hf hc K hK
    have hdep := ops_deps paaDep (by kernel_rfl) ho haf
    clear haf
    have hbw : Below W.heap.size W w := ⟨hc.bel.os, hc.bel.tape, hc.bel.output, hc.bel.size, hc.bel.block⟩
    have hs : paaOps.size = 19 := rfl
    have hlt : i < 19 := hs ▸ (Array.getElem?_eq_some_iff.1 ho).1
    have hcases : i = 0 ∨ i = 1 ∨ i = 2 ∨ i = 3 ∨ i = 4 ∨ i = 5 ∨ i = 6 ∨ i = 7 ∨ i = 8 ∨ i = 9 ∨ i = 10 ∨ i = 11 ∨ i = 12 ∨ i = 13 ∨ i = 14 ∨ i = 15 ∨ i = 16 ∨ i = 17 ∨ i = 18 := by omega
    clear hlt
    rcases hcases with rfl | rfl | rfl | rfl | rfl | rfl | rfl | rfl | rfl | rfl | rfl | rfl | rfl | rfl | rfl | rfl | rfl | rfl | rfl
    · have h1 : (paaOps[0]?).map (·.dst) = some (some 21) := by kernel_rfl
      have h2 : (paaOps[0]?).map (·.op) = some (Op.load 38 (Operand.tmp 1)) := by kernel_rfl
      have h3 : (paaOps[0]?).map (·.guard) = some none := by kernel_rfl
      rw [ho] at h1 h2 h3
      replace h1 := Option.some.inj h1
      replace h2 := Option.some.inj h2
      replace h3 := Option.some.inj h3
      simp only at h1 h2 h3
      rw [h1] at hK
      refine ⟨fun _ => ?_, fun hw => by rw [wanted_none h3] at hw; cases hw⟩
      refine wp_load_row 38 (.tmp 1) h2 g ((hf 1 (by decide)).trans a1) 38 cs (0, 0) _ ((hbw.block g hG.lt).trans hG.1) Try.underlying38 rfl hG.size ?_
      rw [h1]
      exact hK _ _ (FlatC.step paa_nd (paa_ks kSk kSl) rfl hc 0 (by decide) (Below.refl _ _) (fun u hu => by injection hu with hu; injection hu) (trivial))
    · have h1 : (paaOps[1]?).map (·.dst) = some (some 22) := by kernel_rfl
      have h2 : (paaOps[1]?).map (·.op) = some (Op.call { callee := Callee.value (Operand.func 22), args := #[Operand.tmp 21], argTypes := #[38] }) := by kernel_rfl
      have h3 : (paaOps[1]?).map (·.guard) = some none := by kernel_rfl
      rw [ho] at h1 h2 h3
      replace h1 := Option.some.inj h1
      replace h2 := Option.some.inj h2
      replace h3 := Option.some.inj h3
      simp only at h1 h2 h3
      rw [h1] at hK
      have l0 : L 0 = true := hdep 0 (by simp [paaDep])
      refine ⟨fun _ => ?_, fun hw => by rw [wanted_none h3] at hw; cases hw⟩
      refine wp_callG 22 _ _ h2 (enters_of Try.func22 (by kernel_rfl) rfl) #[.agg cs] (by simp [show b.eval (.tmp 21) = _ from (show Act.at b 21 = .agg cs from hc.v 0 l0 _ rfl)]) _ (HKi w hbw) ?_
      rintro v w2 ⟨hp2, hb2⟩
      rw [h1]
      exact hK _ _ (FlatC.step paa_nd (paa_ks kSk kSl) rfl hc 1 (by decide) (hb2) (fun u hu => by cases hu) (hp2))
    · have h1 : (paaOps[2]?).map (·.dst) = some (some 23) := by kernel_rfl
      have h2 : (paaOps[2]?).map (·.op) = some (Op.load 38 (Operand.tmp 1)) := by kernel_rfl
      have h3 : (paaOps[2]?).map (·.guard) = some none := by kernel_rfl
      rw [ho] at h1 h2 h3
      replace h1 := Option.some.inj h1
      replace h2 := Option.some.inj h2
      replace h3 := Option.some.inj h3
      simp only at h1 h2 h3
      rw [h1] at hK
      refine ⟨fun _ => ?_, fun hw => by rw [wanted_none h3] at hw; cases hw⟩
      refine wp_load_row 38 (.tmp 1) h2 g ((hf 1 (by decide)).trans a1) 38 cs (0, 0) _ ((hbw.block g hG.lt).trans hG.1) Try.underlying38 rfl hG.size ?_
      rw [h1]
      exact hK _ _ (FlatC.step paa_nd (paa_ks kSk kSl) rfl hc 2 (by decide) (Below.refl _ _) (fun u hu => by injection hu with hu; injection hu) (trivial))
    · have h1 : (paaOps[3]?).map (·.dst) = some (some 24) := by kernel_rfl
      have h2 : (paaOps[3]?).map (·.op) = some (Op.call { callee := Callee.value (Operand.func 10), args := #[Operand.tmp 23], argTypes := #[38] }) := by kernel_rfl
      have h3 : (paaOps[3]?).map (·.guard) = some none := by kernel_rfl
      rw [ho] at h1 h2 h3
      replace h1 := Option.some.inj h1
      replace h2 := Option.some.inj h2
      replace h3 := Option.some.inj h3
      simp only at h1 h2 h3
      rw [h1] at hK
      have l2 : L 2 = true := hdep 2 (by simp [paaDep])
      refine ⟨fun _ => ?_, fun hw => by rw [wanted_none h3] at hw; cases hw⟩
      refine wp_callG 10 _ _ h2 (enters_of Try.func10 (by kernel_rfl) rfl) #[.agg cs] (by simp [show b.eval (.tmp 23) = _ from (show Act.at b 23 = .agg cs from hc.v 2 l2 _ rfl)]) _ (HKl w hbw) ?_
      rintro v w2 ⟨hp2, hb2⟩
      rw [h1]
      exact hK _ _ (FlatC.step paa_nd (paa_ks kSk kSl) rfl hc 3 (by decide) (hb2) (fun u hu => by cases hu) (hp2))
    · have h1 : (paaOps[4]?).map (·.dst) = some (some 25) := by kernel_rfl
      have h2 : (paaOps[4]?).map (·.op) = some (Op.call { callee := Callee.value (Operand.func 21), args := #[Operand.tmp 22, Operand.tmp 24], argTypes := #[33, 33] }) := by kernel_rfl
      have h3 : (paaOps[4]?).map (·.guard) = some none := by kernel_rfl
      rw [ho] at h1 h2 h3
      replace h1 := Option.some.inj h1
      replace h2 := Option.some.inj h2
      replace h3 := Option.some.inj h3
      simp only at h1 h2 h3
      rw [h1] at hK
      refine ⟨fun _ => ?_, fun hw => by rw [wanted_none h3] at hw; cases hw⟩
      have l1 : L 1 = true := hdep 1 (by simp [paaDep])
      have l3 : L 3 = true := hdep 3 (by simp [paaDep])
      have hp := hc.s 1 l1 (by decide)
      have hq := hc.s 3 l3 (by decide)
      refine wp_callG 21 _ _ h2 (enters_of Try.func21 (by kernel_rfl) rfl) #[Act.at b 22, Act.at b 24] (by simp [show b.eval (.tmp 22) = Act.at b 22 from rfl, show b.eval (.tmp 24) = Act.at b 24 from rfl]) _ (HE _ _ w hp hq hbw) ?_
      rintro v w2 ⟨rfl, hb2⟩
      rw [h1]
      exact hK _ _ (FlatC.step paa_nd (paa_ks kSk kSl) rfl hc 4 (by decide) (hb2) (fun u hu => by injection hu with hu; injection hu) (trivial))
    · have h1 : (paaOps[5]?).map (·.dst) = some (some 26) := by kernel_rfl
      have h2 : (paaOps[5]?).map (·.op) = some (Op.unOp UnOp.not 4 (Operand.tmp 25)) := by kernel_rfl
      have h3 : (paaOps[5]?).map (·.guard) = some none := by kernel_rfl
      rw [ho] at h1 h2 h3
      replace h1 := Option.some.inj h1
      replace h2 := Option.some.inj h2
      replace h3 := Option.some.inj h3
      simp only at h1 h2 h3
      rw [h1] at hK
      have l4 : L 4 = true := hdep 4 (by simp [paaDep])
      refine ⟨fun _ => ?_, fun hw => by rw [wanted_none h3] at hw; cases hw⟩
      refine wp_unG _ _ _ h2 _ (.bool false) (show Act.at b 25 = .bool true from hc.v 4 l4 _ rfl) (by kernel_rfl) ?_
      rw [h1]
      exact hK _ _ (FlatC.step paa_nd (paa_ks kSk kSl) rfl hc 5 (by decide) (Below.refl _ _) (fun u hu => by injection hu with hu; injection hu) (trivial))
    · have h1 : (paaOps[6]?).map (·.dst) = some (some 27) := by kernel_rfl
      have h2 : (paaOps[6]?).map (·.op) = some (Op.move (Operand.tmp 26)) := by kernel_rfl
      have h3 : (paaOps[6]?).map (·.guard) = some none := by kernel_rfl
      rw [ho] at h1 h2 h3
      replace h1 := Option.some.inj h1
      replace h2 := Option.some.inj h2
      replace h3 := Option.some.inj h3
      simp only at h1 h2 h3
      rw [h1] at hK
      have l5 : L 5 = true := hdep 5 (by simp [paaDep])
      refine ⟨fun _ => ?_, fun hw => by rw [wanted_none h3] at hw; cases hw⟩
      refine wp_moveG _ h2 _ (show Act.at b 26 = .bool false from hc.v 5 l5 _ rfl) ?_
      rw [h1]
      exact hK _ _ (FlatC.step paa_nd (paa_ks kSk kSl) rfl hc 6 (by decide) (Below.refl _ _) (fun u hu => by injection hu with hu; injection hu) (trivial))
    · have h1 : (paaOps[7]?).map (·.dst) = some (some 28) := by kernel_rfl
      have h2 : (paaOps[7]?).map (·.op) = some (Op.load 38 (Operand.tmp 1)) := by kernel_rfl
      have h3 : (paaOps[7]?).map (·.guard) = some (some (6, false)) := by kernel_rfl
      rw [ho] at h1 h2 h3
      replace h1 := Option.some.inj h1
      replace h2 := Option.some.inj h2
      replace h3 := Option.some.inj h3
      simp only at h1 h2 h3
      rw [h1] at hK
      have l6 : L 6 = true := hdep 6 (by simp [paaDep])
      have hw := wanted_of (ops := paaOps) (b := b) h3 (d := 27) (by kernel_rfl) (show Act.at b 27 = .bool false from hc.v 6 l6 _ rfl)
      rw [hw]
      refine ⟨fun _ => ?_, fun hq => absurd hq (by decide)⟩
      refine wp_load_row 38 (.tmp 1) h2 g ((hf 1 (by decide)).trans a1) 38 cs (0, 0) _ ((hbw.block g hG.lt).trans hG.1) Try.underlying38 rfl hG.size ?_
      rw [h1]
      exact hK _ _ (FlatC.step paa_nd (paa_ks kSk kSl) rfl hc 7 (by decide) (Below.refl _ _) (fun u hu => by injection hu with hu; injection hu) (trivial))
    · have h1 : (paaOps[8]?).map (·.dst) = some (some 29) := by kernel_rfl
      have h2 : (paaOps[8]?).map (·.op) = some (Op.call { callee := Callee.value (Operand.func 23), args := #[Operand.tmp 28], argTypes := #[38] }) := by kernel_rfl
      have h3 : (paaOps[8]?).map (·.guard) = some (some (6, false)) := by kernel_rfl
      rw [ho] at h1 h2 h3
      replace h1 := Option.some.inj h1
      replace h2 := Option.some.inj h2
      replace h3 := Option.some.inj h3
      simp only at h1 h2 h3
      rw [h1] at hK
      have l6 : L 6 = true := hdep 6 (by simp [paaDep])
      have l7 : L 7 = true := hdep 7 (by simp [paaDep])
      have hw := wanted_of (ops := paaOps) (b := b) h3 (d := 27) (by kernel_rfl) (show Act.at b 27 = .bool false from hc.v 6 l6 _ rfl)
      rw [hw]
      refine ⟨fun _ => ?_, fun hq => absurd hq (by decide)⟩
      refine wp_callG 23 _ _ h2 (enters_of Try.func23 (by kernel_rfl) rfl) #[.agg cs] (by simp [show b.eval (.tmp 28) = _ from (show Act.at b 28 = .agg cs from hc.v 7 l7 _ rfl)]) _ (HNu w hbw) ?_
      rintro v w2 ⟨rfl, hb2⟩
      rw [h1]
      exact hK _ _ (FlatC.step paa_nd (paa_ks kSk kSl) rfl hc 8 (by decide) (hb2) (fun u hu => by injection hu with hu; injection hu) (trivial))
    · have h1 : (paaOps[9]?).map (·.dst) = some (some 30) := by kernel_rfl
      have h2 : (paaOps[9]?).map (·.op) = some (Op.fieldAddr 38 (Operand.tmp 1) 0) := by kernel_rfl
      have h3 : (paaOps[9]?).map (·.guard) = some (some (6, false)) := by kernel_rfl
      rw [ho] at h1 h2 h3
      replace h1 := Option.some.inj h1
      replace h2 := Option.some.inj h2
      replace h3 := Option.some.inj h3
      simp only at h1 h2 h3
      rw [h1] at hK
      have l6 : L 6 = true := hdep 6 (by simp [paaDep])
      have hw := wanted_of (ops := paaOps) (b := b) h3 (d := 27) (by kernel_rfl) (show Act.at b 27 = .bool false from hc.v 6 l6 _ rfl)
      rw [hw]
      refine ⟨fun _ => ?_, fun hq => absurd hq (by decide)⟩
      refine wp_fieldG _ _ _ h2 _ _ ((hf 1 (by decide)).trans a1) (field_0N g w) ?_
      rw [h1]
      exact hK _ _ (FlatC.step paa_nd (paa_ks kSk kSl) rfl hc 9 (by decide) (Below.refl _ _) (fun u hu => by injection hu with hu; injection hu) (trivial))
    · have h1 : (paaOps[10]?).map (·.dst) = some (some 31) := by kernel_rfl
      have h2 : (paaOps[10]?).map (·.op) = some (Op.load 3 (Operand.tmp 30)) := by kernel_rfl
      have h3 : (paaOps[10]?).map (·.guard) = some (some (6, false)) := by kernel_rfl
      rw [ho] at h1 h2 h3
      replace h1 := Option.some.inj h1
      replace h2 := Option.some.inj h2
      replace h3 := Option.some.inj h3
      simp only at h1 h2 h3
      rw [h1] at hK
      have l6 : L 6 = true := hdep 6 (by simp [paaDep])
      have l9 : L 9 = true := hdep 9 (by simp [paaDep])
      have hw := wanted_of (ops := paaOps) (b := b) h3 (d := 27) (by kernel_rfl) (show Act.at b 27 = .bool false from hc.v 6 l6 _ rfl)
      rw [hw]
      refine ⟨fun _ => ?_, fun hq => absurd hq (by decide)⟩
      refine wp_loadG _ _ h2 _ _ (show Act.at b 30 = .pointer (some ⟨g, 0, none⟩) from hc.v 9 l9 _ rfl) (load_i ((World.cell?_of_block (w := W) (a := ⟨g, 0, none⟩) (hbw.block g hG.lt)).trans hG0)) ?_
      rw [h1]
      exact hK _ _ (FlatC.step paa_nd (paa_ks kSk kSl) rfl hc 10 (by decide) (Below.refl _ _) (fun u hu => by injection hu with hu; injection hu) (trivial))
    · have h1 : (paaOps[11]?).map (·.dst) = some (some 32) := by kernel_rfl
      have h2 : (paaOps[11]?).map (·.op) = some (Op.binOp BinOp.eql 3 (Operand.tmp 31) (Operand.const (Value.int IntKind.i64 1)) 3) := by kernel_rfl
      have h3 : (paaOps[11]?).map (·.guard) = some (some (6, false)) := by kernel_rfl
      rw [ho] at h1 h2 h3
      replace h1 := Option.some.inj h1
      replace h2 := Option.some.inj h2
      replace h3 := Option.some.inj h3
      simp only at h1 h2 h3
      rw [h1] at hK
      have l6 : L 6 = true := hdep 6 (by simp [paaDep])
      have l10 : L 10 = true := hdep 10 (by simp [paaDep])
      have hw := wanted_of (ops := paaOps) (b := b) h3 (d := 27) (by kernel_rfl) (show Act.at b 27 = .bool false from hc.v 6 l6 _ rfl)
      rw [hw]
      refine ⟨fun _ => ?_, fun hq => absurd hq (by decide)⟩
      refine wp_binG _ _ _ _ _ h2 _ _ (.bool true) (show Act.at b 31 = .int .i64 1 from hc.v 10 l10 _ rfl) rfl (by kernel_rfl) (by kernel_rfl) ?_
      rw [h1]
      exact hK _ _ (FlatC.step paa_nd (paa_ks kSk kSl) rfl hc 11 (by decide) (Below.refl _ _) (fun u hu => by injection hu with hu; injection hu) (trivial))
    · have h1 : (paaOps[12]?).map (·.dst) = some (some 33) := by kernel_rfl
      have h2 : (paaOps[12]?).map (·.op) = some (Op.move (Operand.tmp 32)) := by kernel_rfl
      have h3 : (paaOps[12]?).map (·.guard) = some (some (6, false)) := by kernel_rfl
      rw [ho] at h1 h2 h3
      replace h1 := Option.some.inj h1
      replace h2 := Option.some.inj h2
      replace h3 := Option.some.inj h3
      simp only at h1 h2 h3
      rw [h1] at hK
      have l6 : L 6 = true := hdep 6 (by simp [paaDep])
      have l11 : L 11 = true := hdep 11 (by simp [paaDep])
      have hw := wanted_of (ops := paaOps) (b := b) h3 (d := 27) (by kernel_rfl) (show Act.at b 27 = .bool false from hc.v 6 l6 _ rfl)
      rw [hw]
      refine ⟨fun _ => ?_, fun hq => absurd hq (by decide)⟩
      refine wp_moveG _ h2 _ (show Act.at b 32 = .bool true from hc.v 11 l11 _ rfl) ?_
      rw [h1]
      exact hK _ _ (FlatC.step paa_nd (paa_ks kSk kSl) rfl hc 12 (by decide) (Below.refl _ _) (fun u hu => by injection hu with hu; injection hu) (trivial))
    · have h1 : (paaOps[13]?).map (·.dst) = some (some 34) := by kernel_rfl
      have h2 : (paaOps[13]?).map (·.op) = some (Op.fieldAddr 38 (Operand.tmp 1) 0) := by kernel_rfl
      have h3 : (paaOps[13]?).map (·.guard) = some (some (12, false)) := by kernel_rfl
      rw [ho] at h1 h2 h3
      replace h1 := Option.some.inj h1
      replace h2 := Option.some.inj h2
      replace h3 := Option.some.inj h3
      simp only at h1 h2 h3
      rw [h1] at hK
      have l12 : L 12 = true := hdep 12 (by simp [paaDep])
      have hw := wanted_of (ops := paaOps) (b := b) h3 (d := 33) (by kernel_rfl) (show Act.at b 33 = .bool true from hc.v 12 l12 _ rfl)
      rw [hw]
      refine ⟨fun hq => absurd hq (by decide), fun _ => ?_⟩
      rw [h1]
      exact hK _ _ (FlatC.step paa_nd (paa_ks kSk kSl) rfl hc 13 (by decide) (Below.refl _ _) (fun u hu => by injection hu with hu; injection hu) trivial)
    · have h1 : (paaOps[14]?).map (·.dst) = some (some 35) := by kernel_rfl
      have h2 : (paaOps[14]?).map (·.op) = some (Op.load 3 (Operand.tmp 34)) := by kernel_rfl
      have h3 : (paaOps[14]?).map (·.guard) = some (some (12, false)) := by kernel_rfl
      rw [ho] at h1 h2 h3
      replace h1 := Option.some.inj h1
      replace h2 := Option.some.inj h2
      replace h3 := Option.some.inj h3
      simp only at h1 h2 h3
      rw [h1] at hK
      have l12 : L 12 = true := hdep 12 (by simp [paaDep])
      have hw := wanted_of (ops := paaOps) (b := b) h3 (d := 33) (by kernel_rfl) (show Act.at b 33 = .bool true from hc.v 12 l12 _ rfl)
      rw [hw]
      refine ⟨fun hq => absurd hq (by decide), fun _ => ?_⟩
      rw [h1]
      exact hK _ _ (FlatC.step paa_nd (paa_ks kSk kSl) rfl hc 14 (by decide) (Below.refl _ _) (fun u hu => by injection hu with hu; injection hu) trivial)
    · have h1 : (paaOps[15]?).map (·.dst) = some (some 36) := by kernel_rfl
      have h2 : (paaOps[15]?).map (·.op) = some (Op.binOp BinOp.eql 3 (Operand.tmp 35) (Operand.const (Value.int IntKind.i64 2)) 3) := by kernel_rfl
      have h3 : (paaOps[15]?).map (·.guard) = some (some (12, false)) := by kernel_rfl
      rw [ho] at h1 h2 h3
      replace h1 := Option.some.inj h1
      replace h2 := Option.some.inj h2
      replace h3 := Option.some.inj h3
      simp only at h1 h2 h3
      rw [h1] at hK
      have l12 : L 12 = true := hdep 12 (by simp [paaDep])
      have hw := wanted_of (ops := paaOps) (b := b) h3 (d := 33) (by kernel_rfl) (show Act.at b 33 = .bool true from hc.v 12 l12 _ rfl)
      rw [hw]
      refine ⟨fun hq => absurd hq (by decide), fun _ => ?_⟩
      rw [h1]
      exact hK _ _ (FlatC.step paa_nd (paa_ks kSk kSl) rfl hc 15 (by decide) (Below.refl _ _) (fun u hu => by injection hu with hu; injection hu) trivial)
    · have h1 : (paaOps[16]?).map (·.dst) = some (some 37) := by kernel_rfl
      have h2 : (paaOps[16]?).map (·.op) = some (Op.pick (Operand.tmp 33) (Operand.const (Value.bool true)) (Operand.tmp 36)) := by kernel_rfl
      have h3 : (paaOps[16]?).map (·.guard) = some (some (6, false)) := by kernel_rfl
      rw [ho] at h1 h2 h3
      replace h1 := Option.some.inj h1
      replace h2 := Option.some.inj h2
      replace h3 := Option.some.inj h3
      simp only at h1 h2 h3
      rw [h1] at hK
      have l6 : L 6 = true := hdep 6 (by simp [paaDep])
      have l12 : L 12 = true := hdep 12 (by simp [paaDep])
      have hw := wanted_of (ops := paaOps) (b := b) h3 (d := 27) (by kernel_rfl) (show Act.at b 27 = .bool false from hc.v 6 l6 _ rfl)
      rw [hw]
      refine ⟨fun _ => ?_, fun hq => absurd hq (by decide)⟩
      refine wp_pickG _ _ _ h2 true (show Act.at b 33 = .bool true from hc.v 12 l12 _ rfl) _ (if_pos rfl |>.trans rfl) ?_
      rw [h1]
      exact hK _ _ (FlatC.step paa_nd (paa_ks kSk kSl) rfl hc 16 (by decide) (Below.refl _ _) (fun u hu => by injection hu with hu; injection hu) (trivial))
    · have h1 : (paaOps[17]?).map (·.dst) = some (some 38) := by kernel_rfl
      have h2 : (paaOps[17]?).map (·.op) = some (Op.binOp BinOp.neq 4 (Operand.tmp 29) (Operand.tmp 37) 4) := by kernel_rfl
      have h3 : (paaOps[17]?).map (·.guard) = some (some (6, false)) := by kernel_rfl
      rw [ho] at h1 h2 h3
      replace h1 := Option.some.inj h1
      replace h2 := Option.some.inj h2
      replace h3 := Option.some.inj h3
      simp only at h1 h2 h3
      rw [h1] at hK
      have l6 : L 6 = true := hdep 6 (by simp [paaDep])
      have l8 : L 8 = true := hdep 8 (by simp [paaDep])
      have l16 : L 16 = true := hdep 16 (by simp [paaDep])
      have hw := wanted_of (ops := paaOps) (b := b) h3 (d := 27) (by kernel_rfl) (show Act.at b 27 = .bool false from hc.v 6 l6 _ rfl)
      rw [hw]
      refine ⟨fun _ => ?_, fun hq => absurd hq (by decide)⟩
      refine wp_binG _ _ _ _ _ h2 _ _ (.bool false) (show Act.at b 29 = .bool true from hc.v 8 l8 _ rfl) (show Act.at b 37 = .bool true from hc.v 16 l16 _ rfl) (by kernel_rfl) (by kernel_rfl) ?_
      rw [h1]
      exact hK _ _ (FlatC.step paa_nd (paa_ks kSk kSl) rfl hc 17 (by decide) (Below.refl _ _) (fun u hu => by injection hu with hu; injection hu) (trivial))
    · have h1 : (paaOps[18]?).map (·.dst) = some (some 39) := by kernel_rfl
      have h2 : (paaOps[18]?).map (·.op) = some (Op.pick (Operand.tmp 27) (Operand.const (Value.bool true)) (Operand.tmp 38)) := by kernel_rfl
      have h3 : (paaOps[18]?).map (·.guard) = some none := by kernel_rfl
      rw [ho] at h1 h2 h3
      replace h1 := Option.some.inj h1
      replace h2 := Option.some.inj h2
      replace h3 := Option.some.inj h3
      simp only at h1 h2 h3
      rw [h1] at hK
      have l6 : L 6 = true := hdep 6 (by simp [paaDep])
      have l17 : L 17 = true := hdep 17 (by simp [paaDep])
      refine ⟨fun _ => ?_, fun hw => by rw [wanted_none h3] at hw; cases hw⟩
      refine wp_pickG _ _ _ h2 false (show Act.at b 27 = .bool false from hc.v 6 l6 _ rfl) _ (if_neg (by decide) |>.trans (show Act.at b 38 = .bool false from hc.v 17 l17 _ rfl)) ?_
      rw [h1]
      exact hK _ _ (FlatC.step paa_nd (paa_ks kSk kSl) rfl hc 18 (by decide) (Below.refl _ _) (fun u hu => by injection hu with hu; injection hu) (trivial))
  · rintro L b w hL hd hs hf hc
    have hsz2 : paaOps.size = 19 := rfl
    rw [hsz2] at hL
    have e := act_eq (a := A0) (b := b) (paaUs (Act.at b)) hd hs hf (by
      intro p hp
      simp only [paaUs, List.mem_cons, List.not_mem_nil, or_false] at hp
      rcases hp with rfl | rfl | rfl | rfl | rfl | rfl | rfl | rfl | rfl | rfl | rfl | rfl | rfl | rfl | rfl | rfl | rfl | rfl | rfl <;> rfl) (by rw [show (paaUs (Act.at b)).map (·.1) = [21, 22, 23, 24, 25, 26, 27, 28, 29, 30, 31, 32, 33, 34, 35, 36, 37, 38, 39] from rfl]; decide)
    rw [e]
    exact hk (Act.at b) w (hc.v 18 (hL 18 (by omega)) _ rfl) ⟨hc.bel.os, hc.bel.tape, hc.bel.output, hc.bel.size, hc.bel.block⟩
def pabOps : Array Oper := #[{ dst := some 21, op := Op.load 38 (Operand.tmp 1), type := 38, pos := "law.go:293", after := #[], guard := none }, { dst := some 22, op := Op.call { callee := Callee.value (Operand.func 22), args := #[Operand.tmp 21], argTypes := #[38] }, type := 33, pos := "law.go:293", after := #[{ on := 0, ground := Ground.data }], guard := none }, { dst := some 23, op := Op.load 38 (Operand.tmp 1), type := 38, pos := "law.go:293", after := #[], guard := none }, { dst := some 24, op := Op.call { callee := Callee.value (Operand.func 10), args := #[Operand.tmp 23], argTypes := #[38] }, type := 33, pos := "law.go:293", after := #[{ on := 2, ground := Ground.data }, { on := 1, ground := Ground.chain }], guard := none }, { dst := some 25, op := Op.call { callee := Callee.value (Operand.func 21), args := #[Operand.tmp 22, Operand.tmp 24], argTypes := #[33, 33] }, type := 4, pos := "law.go:293", after := #[{ on := 1, ground := Ground.data }, { on := 3, ground := Ground.data }, { on := 3, ground := Ground.chain }], guard := none }, { dst := some 26, op := Op.unOp UnOp.not 4 (Operand.tmp 25), type := 4, pos := "law.go:293", after := #[{ on := 4, ground := Ground.data }], guard := none }, { dst := some 27, op := Op.move (Operand.tmp 26), type := 4, pos := "law.go:293", after := #[{ on := 5, ground := Ground.data }, { on := 4, ground := Ground.chain }], guard := none }, { dst := some 28, op := Op.load 38 (Operand.tmp 1), type := 38, pos := "law.go:293", after := #[{ on := 6, ground := Ground.guard }], guard := some (6, false) }, { dst := some 29, op := Op.call { callee := Callee.value (Operand.func 23), args := #[Operand.tmp 28], argTypes := #[38] }, type := 4, pos := "law.go:293", after := #[{ on := 7, ground := Ground.data }, { on := 6, ground := Ground.chain }, { on := 6, ground := Ground.guard }], guard := some (6, false) }, { dst := some 30, op := Op.fieldAddr 38 (Operand.tmp 1) 0, type := 0, pos := "law.go:293", after := #[{ on := 6, ground := Ground.guard }], guard := some (6, false) }, { dst := some 31, op := Op.load 3 (Operand.tmp 30), type := 3, pos := "law.go:293", after := #[{ on := 9, ground := Ground.data }, { on := 6, ground := Ground.guard }], guard := some (6, false) }, { dst := some 32, op := Op.binOp BinOp.eql 3 (Operand.tmp 31) (Operand.const (Value.int IntKind.i64 1)) 3, type := 4, pos := "law.go:293", after := #[{ on := 10, ground := Ground.data }, { on := 6, ground := Ground.guard }], guard := some (6, false) }, { dst := some 33, op := Op.move (Operand.tmp 32), type := 4, pos := "law.go:293", after := #[{ on := 11, ground := Ground.data }, { on := 8, ground := Ground.chain }, { on := 6, ground := Ground.guard }], guard := some (6, false) }, { dst := some 34, op := Op.fieldAddr 38 (Operand.tmp 1) 0, type := 0, pos := "law.go:293", after := #[{ on := 12, ground := Ground.guard }], guard := some (12, false) }, { dst := some 35, op := Op.load 3 (Operand.tmp 34), type := 3, pos := "law.go:293", after := #[{ on := 13, ground := Ground.data }, { on := 12, ground := Ground.guard }], guard := some (12, false) }, { dst := some 36, op := Op.binOp BinOp.eql 3 (Operand.tmp 35) (Operand.const (Value.int IntKind.i64 2)) 3, type := 4, pos := "law.go:293", after := #[{ on := 14, ground := Ground.data }, { on := 12, ground := Ground.guard }], guard := some (12, false) }, { dst := some 37, op := Op.pick (Operand.tmp 33) (Operand.const (Value.bool true)) (Operand.tmp 36), type := 4, pos := "law.go:293", after := #[{ on := 12, ground := Ground.data }, { on := 15, ground := Ground.data }, { on := 6, ground := Ground.guard }], guard := some (6, false) }, { dst := some 38, op := Op.binOp BinOp.neq 4 (Operand.tmp 29) (Operand.tmp 37) 4, type := 4, pos := "law.go:293", after := #[{ on := 8, ground := Ground.data }, { on := 16, ground := Ground.data }, { on := 6, ground := Ground.guard }], guard := some (6, false) }, { dst := some 39, op := Op.pick (Operand.tmp 27) (Operand.const (Value.bool true)) (Operand.tmp 38), type := 4, pos := "law.go:293", after := #[{ on := 6, ground := Ground.data }, { on := 17, ground := Ground.data }], guard := none }]
def pabDep : Nat → List Nat := fun i => match i with | 4 => [1, 3] | 1 => [0] | 3 => [2] | 5 => [4] | 6 => [5] | 7 => [6] | 8 => [6, 7] | 9 => [6] | 10 => [6, 9] | 11 => [6, 10] | 12 => [6, 11] | 13 => [12] | 14 => [12, 13] | 15 => [12, 14] | 16 => [6, 12, 15] | 17 => [6, 8, 16] | 18 => [6, 17] | _ => []
def pabSl : List Nat := [21, 22, 23, 24, 25, 26, 27, 28, 29, 30, 31, 32, 33, 34, 35, 36, 37, 38, 39]
def pabVs (g : Nat) (cs : Array Value) : List (Option Value) := [some (.agg cs), none, some (.agg cs), none, some (.bool true), some (.bool false), some (.bool false), some (.agg cs), some (.bool true), some (.pointer (some ⟨g, 0, none⟩)), some (.int .i64 2), some (.bool false), some (.bool false), some (.pointer (some ⟨g, 0, none⟩)), some (.int .i64 2), some (.bool true), some (.bool true), some (.bool false), some (.bool false)]
def pabSp (Sk : Value → World → Prop) (Sl : Value → World → Prop) (i : Nat) : Value → World → Prop := match i with | 1 => Sk | 3 => Sl | _ => fun _ _ => True
theorem pab_ks {Sk : Value → World → Prop} {Sl : Value → World → Prop} (kSk : ∀ v w w', Sk v w → Below w.heap.size w w' → Sk v w') (kSl : ∀ v w w', Sl v w → Below w.heap.size w w' → Sl v w') : ∀ i v w w', pabSp Sk Sl i v w → Below w.heap.size w w' → pabSp Sk Sl i v w' := by
  intro i v w w' h hb
  unfold pabSp at h ⊢
  split <;> first | trivial | exact kSk _ _ _ h hb | exact kSl _ _ _ h hb
theorem pab_nd : pabSl.Nodup := by decide
def pabUs (f : Nat → Value) : List (Nat × Value) := [(21, f 21), (22, f 22), (23, f 23), (24, f 24), (25, f 25), (26, f 26), (27, f 27), (28, f 28), (29, f 29), (30, f 30), (31, f 31), (32, f 32), (33, f 33), (34, f 34), (35, f 35), (36, f 36), (37, f 37), (38, f 38), (39, f 39)]
set_option maxRecDepth 20000 in
set_option maxHeartbeats 4000000 in
theorem pab_reg {g : Nat} {cs : Array Value} {Sk : Value → World → Prop} {Sl : Value → World → Prop} {W : World} {A0 : Act} {Q : Exit → Act → World → Prop} {id : Nat} (a1 : Act.at A0 1 = .pointer (some ⟨g, 0, none⟩)) (hsz : 80 ≤ A0.tmps.size) (kSk : ∀ v w w', Sk v w → Below w.heap.size w w' → Sk v w') (kSl : ∀ v w w', Sl v w → Below w.heap.size w w' → Sl v w') {x : NV} (hG : NBox W g cs x) (hG0 : W.cell? ⟨g, 0, none⟩ = some (.int .i64 2)) 
    (HKi : ∀ w, Below W.heap.size W w → Calls Try.prog 22 #[.agg cs] w fun e w' => ∃ v, e = .returned v ∧ Sk v w' ∧ Below w.heap.size w w')
    (HKl : ∀ w, Below W.heap.size W w → Calls Try.prog 10 #[.agg cs] w fun e w' => ∃ v, e = .returned v ∧ Sl v w' ∧ Below w.heap.size w w')
    (HE : ∀ u z w, Sk u w → Sl z w → Below W.heap.size W w → Calls Try.prog 21 #[u, z] w fun e w' => ∃ v, e = .returned v ∧ v = .bool true ∧ Below w.heap.size w w')
    (HNu : ∀ w, Below W.heap.size W w → Calls Try.prog 23 #[.agg cs] w fun e w' => ∃ v, e = .returned v ∧ v = .bool true ∧ Below w.heap.size w w')
    (hk : ∀ (f : Nat → Value) w', f 39 = .bool false → Below W.heap.size W w' → Q .normal ⟨(pabUs f).foldl (fun A p => A.setIfInBounds p.1 p.2) A0.tmps, A0.defers⟩ w') :
    (Code.region id pabOps true).wp Try.prog Q A0 W := by
  refine wp_region_fun3 (by kernel_rfl) (fun L f w => FlatC W.drew pabSl (pabVs g cs) (pabSp Sk Sl) L f w) [21, 22, 23, 24, 25, 26, 27, 28, 29, 30, 31, 32, 33, 34, 35, 36, 37, 38, 39] (fun i o ho => (wf_ops3 (ops := pabOps) (by kernel_rfl)) i o ho) (fun i o ho u hu => ?_) ?_ ?_ ?_
  · have := ops_dst [21, 22, 23, 24, 25, 26, 27, 28, 29, 30, 31, 32, 33, 34, 35, 36, 37, 38, 39] 80 (by kernel_rfl) i o ho u hu
    exact ⟨this.1, Nat.lt_of_lt_of_le this.2 hsz⟩
  · have hs : pabOps.size = 19 := rfl
    rw [hs]
    exact FlatC.start rfl rfl
  · rintro L i o ho hLi haf b w hf hc K hK
    have hdep := ops_deps pabDep (by kernel_rfl) ho haf
    clear haf
    have hbw : Below W.heap.size W w := ⟨hc.bel.os, hc.bel.tape, hc.bel.output, hc.bel.size, hc.bel.block⟩
    have hs : pabOps.size = 19 := rfl
    have hlt : i < 19 := hs ▸ (Array.getElem?_eq_some_iff.1 ho).1
    have hcases : i = 0 ∨ i = 1 ∨ i = 2 ∨ i = 3 ∨ i = 4 ∨ i = 5 ∨ i = 6 ∨ i = 7 ∨ i = 8 ∨ i = 9 ∨ i = 10 ∨ i = 11 ∨ i = 12 ∨ i = 13 ∨ i = 14 ∨ i = 15 ∨ i = 16 ∨ i = 17 ∨ i = 18 := by omega
    clear hlt
    rcases hcases with rfl | rfl | rfl | rfl | rfl | rfl | rfl | rfl | rfl | rfl | rfl | rfl | rfl | rfl | rfl | rfl | rfl | rfl | rfl
    · have h1 : (pabOps[0]?).map (·.dst) = some (some 21) := by kernel_rfl
      have h2 : (pabOps[0]?).map (·.op) = some (Op.load 38 (Operand.tmp 1)) := by kernel_rfl
      have h3 : (pabOps[0]?).map (·.guard) = some none := by kernel_rfl
      rw [ho] at h1 h2 h3
      replace h1 := Option.some.inj h1
      replace h2 := Option.some.inj h2
      replace h3 := Option.some.inj h3
      simp only at h1 h2 h3
      rw [h1] at hK
      refine ⟨fun _ => ?_, fun hw => by rw [wanted_none h3] at hw; cases hw⟩
      refine wp_load_row 38 (.tmp 1) h2 g ((hf 1 (by decide)).trans a1) 38 cs (0, 0) _ ((hbw.block g hG.lt).trans hG.1) Try.underlying38 rfl hG.size ?_
      rw [h1]
      exact hK _ _ (FlatC.step pab_nd (pab_ks kSk kSl) rfl hc 0 (by decide) (Below.refl _ _) (fun u hu => by injection hu with hu; injection hu) (trivial))
    · have h1 : (pabOps[1]?).map (·.dst) = some (some 22) := by kernel_rfl
      have h2 : (pabOps[1]?).map (·.op) = some (Op.call { callee := Callee.value (Operand.func 22), args := #[Operand.tmp 21], argTypes := #[38] }) := by kernel_rfl
      have h3 : (pabOps[1]?).map (·.guard) = some none := by kernel_rfl
      rw [ho] at h1 h2 h3
      replace h1 := Option.some.inj h1
      replace h2 := Option.some.inj h2
      replace h3 := Option.some.inj h3
      simp only at h1 h2 h3
      rw [h1] at hK
      have l0 : L 0 = true := hdep 0 (by simp [pabDep])
      refine ⟨fun _ => ?_, fun hw => by rw [wanted_none h3] at hw; cases hw⟩
      refine wp_callG 22 _ _ h2 (enters_of Try.func22 (by kernel_rfl) rfl) #[.agg cs] (by simp [show b.eval (.tmp 21) = _ from (show Act.at b 21 = .agg cs from hc.v 0 l0 _ rfl)]) _ (HKi w hbw) ?_
      rintro v w2 ⟨hp2, hb2⟩
      rw [h1]
      exact hK _ _ (FlatC.step pab_nd (pab_ks kSk kSl) rfl hc 1 (by decide) (hb2) (fun u hu => by cases hu) (hp2))
    · have h1 : (pabOps[2]?).map (·.dst) = some (some 23) := by kernel_rfl
      have h2 : (pabOps[2]?).map (·.op) = some (Op.load 38 (Operand.tmp 1)) := by kernel_rfl
      have h3 : (pabOps[2]?).map (·.guard) = some none := by kernel_rfl
      rw [ho] at h1 h2 h3
      replace h1 := Option.some.inj h1
      replace h2 := Option.some.inj h2
      replace h3 := Option.some.inj h3
      simp only at h1 h2 h3
      rw [h1] at hK
      refine ⟨fun _ => ?_, fun hw => by rw [wanted_none h3] at hw; cases hw⟩
      refine wp_load_row 38 (.tmp 1) h2 g ((hf 1 (by decide)).trans a1) 38 cs (0, 0) _ ((hbw.block g hG.lt).trans hG.1) Try.underlying38 rfl hG.size ?_
      rw [h1]
      exact hK _ _ (FlatC.step pab_nd (pab_ks kSk kSl) rfl hc 2 (by decide) (Below.refl _ _) (fun u hu => by injection hu with hu; injection hu) (trivial))
    · have h1 : (pabOps[3]?).map (·.dst) = some (some 24) := by kernel_rfl
      have h2 : (pabOps[3]?).map (·.op) = some (Op.call { callee := Callee.value (Operand.func 10), args := #[Operand.tmp 23], argTypes := #[38] }) := by kernel_rfl
      have h3 : (pabOps[3]?).map (·.guard) = some none := by kernel_rfl
      rw [ho] at h1 h2 h3
      replace h1 := Option.some.inj h1
      replace h2 := Option.some.inj h2
      replace h3 := Option.some.inj h3
      simp only at h1 h2 h3
      rw [h1] at hK
      have l2 : L 2 = true := hdep 2 (by simp [pabDep])
      refine ⟨fun _ => ?_, fun hw => by rw [wanted_none h3] at hw; cases hw⟩
      refine wp_callG 10 _ _ h2 (enters_of Try.func10 (by kernel_rfl) rfl) #[.agg cs] (by simp [show b.eval (.tmp 23) = _ from (show Act.at b 23 = .agg cs from hc.v 2 l2 _ rfl)]) _ (HKl w hbw) ?_
      rintro v w2 ⟨hp2, hb2⟩
      rw [h1]
      exact hK _ _ (FlatC.step pab_nd (pab_ks kSk kSl) rfl hc 3 (by decide) (hb2) (fun u hu => by cases hu) (hp2))
    · have h1 : (pabOps[4]?).map (·.dst) = some (some 25) := by kernel_rfl
      have h2 : (pabOps[4]?).map (·.op) = some (Op.call { callee := Callee.value (Operand.func 21), args := #[Operand.tmp 22, Operand.tmp 24], argTypes := #[33, 33] }) := by kernel_rfl
      have h3 : (pabOps[4]?).map (·.guard) = some none := by kernel_rfl
      rw [ho] at h1 h2 h3
      replace h1 := Option.some.inj h1
      replace h2 := Option.some.inj h2
      replace h3 := Option.some.inj h3
      simp only at h1 h2 h3
      rw [h1] at hK
      refine ⟨fun _ => ?_, fun hw => by rw [wanted_none h3] at hw; cases hw⟩
      have l1 : L 1 = true := hdep 1 (by simp [pabDep])
      have l3 : L 3 = true := hdep 3 (by simp [pabDep])
      have hp := hc.s 1 l1 (by decide)
      have hq := hc.s 3 l3 (by decide)
      refine wp_callG 21 _ _ h2 (enters_of Try.func21 (by kernel_rfl) rfl) #[Act.at b 22, Act.at b 24] (by simp [show b.eval (.tmp 22) = Act.at b 22 from rfl, show b.eval (.tmp 24) = Act.at b 24 from rfl]) _ (HE _ _ w hp hq hbw) ?_
      rintro v w2 ⟨rfl, hb2⟩
      rw [h1]
      exact hK _ _ (FlatC.step pab_nd (pab_ks kSk kSl) rfl hc 4 (by decide) (hb2) (fun u hu => by injection hu with hu; injection hu) (trivial))
    · have h1 : (pabOps[5]?).map (·.dst) = some (some 26) := by kernel_rfl
      have h2 : (pabOps[5]?).map (·.op) = some (Op.unOp UnOp.not 4 (Operand.tmp 25)) := by kernel_rfl
      have h3 : (pabOps[5]?).map (·.guard) = some none := by kernel_rfl
      rw [ho] at h1 h2 h3
      replace h1 := Option.some.inj h1
      replace h2 := Option.some.inj h2
      replace h3 := Option.some.inj h3
      simp only at h1 h2 h3
      rw [h1] at hK
      have l4 : L 4 = true := hdep 4 (by simp [pabDep])
      refine ⟨fun _ => ?_, fun hw => by rw [wanted_none h3] at hw; cases hw⟩
      refine wp_unG _ _ _ h2 _ (.bool false) (show Act.at b 25 = .bool true from hc.v 4 l4 _ rfl) (by kernel_rfl) ?_
      rw [h1]
      exact hK _ _ (FlatC.step pab_nd (pab_ks kSk kSl) rfl hc 5 (by decide) (Below.refl _ _) (fun u hu => by injection hu with hu; injection hu) (trivial))
    · have h1 : (pabOps[6]?).map (·.dst) = some (some 27) := by kernel_rfl
      have h2 : (pabOps[6]?).map (·.op) = some (Op.move (Operand.tmp 26)) := by kernel_rfl
      have h3 : (pabOps[6]?).map (·.guard) = some none := by kernel_rfl
      rw [ho] at h1 h2 h3
      replace h1 := Option.some.inj h1
      replace h2 := Option.some.inj h2
      replace h3 := Option.some.inj h3
      simp only at h1 h2 h3
      rw [h1] at hK
      have l5 : L 5 = true := hdep 5 (by simp [pabDep])
      refine ⟨fun _ => ?_, fun hw => by rw [wanted_none h3] at hw; cases hw⟩
      refine wp_moveG _ h2 _ (show Act.at b 26 = .bool false from hc.v 5 l5 _ rfl) ?_
      rw [h1]
      exact hK _ _ (FlatC.step pab_nd (pab_ks kSk kSl) rfl hc 6 (by decide) (Below.refl _ _) (fun u hu => by injection hu with hu; injection hu) (trivial))
    · have h1 : (pabOps[7]?).map (·.dst) = some (some 28) := by kernel_rfl
      have h2 : (pabOps[7]?).map (·.op) = some (Op.load 38 (Operand.tmp 1)) := by kernel_rfl
      have h3 : (pabOps[7]?).map (·.guard) = some (some (6, false)) := by kernel_rfl
      rw [ho] at h1 h2 h3
      replace h1 := Option.some.inj h1
      replace h2 := Option.some.inj h2
      replace h3 := Option.some.inj h3
      simp only at h1 h2 h3
      rw [h1] at hK
      have l6 : L 6 = true := hdep 6 (by simp [pabDep])
      have hw := wanted_of (ops := pabOps) (b := b) h3 (d := 27) (by kernel_rfl) (show Act.at b 27 = .bool false from hc.v 6 l6 _ rfl)
      rw [hw]
      refine ⟨fun _ => ?_, fun hq => absurd hq (by decide)⟩
      refine wp_load_row 38 (.tmp 1) h2 g ((hf 1 (by decide)).trans a1) 38 cs (0, 0) _ ((hbw.block g hG.lt).trans hG.1) Try.underlying38 rfl hG.size ?_
      rw [h1]
      exact hK _ _ (FlatC.step pab_nd (pab_ks kSk kSl) rfl hc 7 (by decide) (Below.refl _ _) (fun u hu => by injection hu with hu; injection hu) (trivial))
    · have h1 : (pabOps[8]?).map (·.dst) = some (some 29) := by kernel_rfl
      have h2 : (pabOps[8]?).map (·.op) = some (Op.call { callee := Callee.value (Operand.func 23), args := #[Operand.tmp 28], argTypes := #[38] }) := by kernel_rfl
      have h3 : (pabOps[8]?).map (·.guard) = some (some (6, false)) := by kernel_rfl
      rw [ho] at h1 h2 h3
      replace h1 := Option.some.inj h1
      replace h2 := Option.some.inj h2
      replace h3 := Option.some.inj h3
      simp only at h1 h2 h3
      rw [h1] at hK
      have l6 : L 6 = true := hdep 6 (by simp [pabDep])
      have l7 : L 7 = true := hdep 7 (by simp [pabDep])
      have hw := wanted_of (ops := pabOps) (b := b) h3 (d := 27) (by kernel_rfl) (show Act.at b 27 = .bool false from hc.v 6 l6 _ rfl)
      rw [hw]
      refine ⟨fun _ => ?_, fun hq => absurd hq (by decide)⟩
      refine wp_callG 23 _ _ h2 (enters_of Try.func23 (by kernel_rfl) rfl) #[.agg cs] (by simp [show b.eval (.tmp 28) = _ from (show Act.at b 28 = .agg cs from hc.v 7 l7 _ rfl)]) _ (HNu w hbw) ?_
      rintro v w2 ⟨rfl, hb2⟩
      rw [h1]
      exact hK _ _ (FlatC.step pab_nd (pab_ks kSk kSl) rfl hc 8 (by decide) (hb2) (fun u hu => by injection hu with hu; injection hu) (trivial))
    · have h1 : (pabOps[9]?).map (·.dst) = some (some 30) := by kernel_rfl
      have h2 : (pabOps[9]?).map (·.op) = some (Op.fieldAddr 38 (Operand.tmp 1) 0) := by kernel_rfl
      have h3 : (pabOps[9]?).map (·.guard) = some (some (6, false)) := by kernel_rfl
      rw [ho] at h1 h2 h3
      replace h1 := Option.some.inj h1
      replace h2 := Option.some.inj h2
      replace h3 := Option.some.inj h3
      simp only at h1 h2 h3
      rw [h1] at hK
      have l6 : L 6 = true := hdep 6 (by simp [pabDep])
      have hw := wanted_of (ops := pabOps) (b := b) h3 (d := 27) (by kernel_rfl) (show Act.at b 27 = .bool false from hc.v 6 l6 _ rfl)
      rw [hw]
      refine ⟨fun _ => ?_, fun hq => absurd hq (by decide)⟩
      refine wp_fieldG _ _ _ h2 _ _ ((hf 1 (by decide)).trans a1) (field_0N g w) ?_
      rw [h1]
      exact hK _ _ (FlatC.step pab_nd (pab_ks kSk kSl) rfl hc 9 (by decide) (Below.refl _ _) (fun u hu => by injection hu with hu; injection hu) (trivial))
    · have h1 : (pabOps[10]?).map (·.dst) = some (some 31) := by kernel_rfl
      have h2 : (pabOps[10]?).map (·.op) = some (Op.load 3 (Operand.tmp 30)) := by kernel_rfl
      have h3 : (pabOps[10]?).map (·.guard) = some (some (6, false)) := by kernel_rfl
      rw [ho] at h1 h2 h3
      replace h1 := Option.some.inj h1
      replace h2 := Option.some.inj h2
      replace h3 := Option.some.inj h3
      simp only at h1 h2 h3
      rw [h1] at hK
      have l6 : L 6 = true := hdep 6 (by simp [pabDep])
      have l9 : L 9 = true := hdep 9 (by simp [pabDep])
      have hw := wanted_of (ops := pabOps) (b := b) h3 (d := 27) (by kernel_rfl) (show Act.at b 27 = .bool false from hc.v 6 l6 _ rfl)
      rw [hw]
      refine ⟨fun _ => ?_, fun hq => absurd hq (by decide)⟩
      refine wp_loadG _ _ h2 _ _ (show Act.at b 30 = .pointer (some ⟨g, 0, none⟩) from hc.v 9 l9 _ rfl) (load_i ((World.cell?_of_block (w := W) (a := ⟨g, 0, none⟩) (hbw.block g hG.lt)).trans hG0)) ?_
      rw [h1]
      exact hK _ _ (FlatC.step pab_nd (pab_ks kSk kSl) rfl hc 10 (by decide) (Below.refl _ _) (fun u hu => by injection hu with hu; injection hu) (trivial))
    · have h1 : (pabOps[11]?).map (·.dst) = some (some 32) := by kernel_rfl
      have h2 : (pabOps[11]?).map (·.op) = some (Op.binOp BinOp.eql 3 (Operand.tmp 31) (Operand.const (Value.int IntKind.i64 1)) 3) := by kernel_rfl
      have h3 : (pabOps[11]?).map (·.guard) = some (some (6, false)) := by kernel_rfl
      rw [ho] at h1 h2 h3
      replace h1 := Option.some.inj h1
      replace h2 := Option.some.inj h2
      replace h3 := Option.some.inj h3
      simp only at h1 h2 h3
      rw [h1] at hK
      have l6 : L 6 = true := hdep 6 (by simp [pabDep])
      have l10 : L 10 = true := hdep 10 (by simp [pabDep])
      have hw := wanted_of (ops := pabOps) (b := b) h3 (d := 27) (by kernel_rfl) (show Act.at b 27 = .bool false from hc.v 6 l6 _ rfl)
      rw [hw]
      refine ⟨fun _ => ?_, fun hq => absurd hq (by decide)⟩
      refine wp_binG _ _ _ _ _ h2 _ _ (.bool false) (show Act.at b 31 = .int .i64 2 from hc.v 10 l10 _ rfl) rfl (by kernel_rfl) (by kernel_rfl) ?_
      rw [h1]
      exact hK _ _ (FlatC.step pab_nd (pab_ks kSk kSl) rfl hc 11 (by decide) (Below.refl _ _) (fun u hu => by injection hu with hu; injection hu) (trivial))
    · have h1 : (pabOps[12]?).map (·.dst) = some (some 33) := by kernel_rfl
      have h2 : (pabOps[12]?).map (·.op) = some (Op.move (Operand.tmp 32)) := by kernel_rfl
      have h3 : (pabOps[12]?).map (·.guard) = some (some (6, false)) := by kernel_rfl
      rw [ho] at h1 h2 h3
      replace h1 := Option.some.inj h1
      replace h2 := Option.some.inj h2
      replace h3 := Option.some.inj h3
      simp only at h1 h2 h3
      rw [h1] at hK
      have l6 : L 6 = true := hdep 6 (by simp [pabDep])
      have l11 : L 11 = true := hdep 11 (by simp [pabDep])
      have hw := wanted_of (ops := pabOps) (b := b) h3 (d := 27) (by kernel_rfl) (show Act.at b 27 = .bool false from hc.v 6 l6 _ rfl)
      rw [hw]
      refine ⟨fun _ => ?_, fun hq => absurd hq (by decide)⟩
      refine wp_moveG _ h2 _ (show Act.at b 32 = .bool false from hc.v 11 l11 _ rfl) ?_
      rw [h1]
      exact hK _ _ (FlatC.step pab_nd (pab_ks kSk kSl) rfl hc 12 (by decide) (Below.refl _ _) (fun u hu => by injection hu with hu; injection hu) (trivial))
    · have h1 : (pabOps[13]?).map (·.dst) = some (some 34) := by kernel_rfl
      have h2 : (pabOps[13]?).map (·.op) = some (Op.fieldAddr 38 (Operand.tmp 1) 0) := by kernel_rfl
      have h3 : (pabOps[13]?).map (·.guard) = some (some (12, false)) := by kernel_rfl
      rw [ho] at h1 h2 h3
      replace h1 := Option.some.inj h1
      replace h2 := Option.some.inj h2
      replace h3 := Option.some.inj h3
      simp only at h1 h2 h3
      rw [h1] at hK
      have l12 : L 12 = true := hdep 12 (by simp [pabDep])
      have hw := wanted_of (ops := pabOps) (b := b) h3 (d := 33) (by kernel_rfl) (show Act.at b 33 = .bool false from hc.v 12 l12 _ rfl)
      rw [hw]
      refine ⟨fun _ => ?_, fun hq => absurd hq (by decide)⟩
      refine wp_fieldG _ _ _ h2 _ _ ((hf 1 (by decide)).trans a1) (field_0N g w) ?_
      rw [h1]
      exact hK _ _ (FlatC.step pab_nd (pab_ks kSk kSl) rfl hc 13 (by decide) (Below.refl _ _) (fun u hu => by injection hu with hu; injection hu) (trivial))
    · have h1 : (pabOps[14]?).map (·.dst) = some (some 35) := by kernel_rfl
      have h2 : (pabOps[14]?).map (·.op) = some (Op.load 3 (Operand.tmp 34)) := by kernel_rfl
      have h3 : (pabOps[14]?).map (·.guard) = some (some (12, false)) := by kernel_rfl
      rw [ho] at h1 h2 h3
      replace h1 := Option.some.inj h1
      replace h2 := Option.some.inj h2
      replace h3 := Option.some.inj h3
      simp only at h1 h2 h3
      rw [h1] at hK
      have l12 : L 12 = true := hdep 12 (by simp [pabDep])
      have l13 : L 13 = true := hdep 13 (by simp [pabDep])
      have hw := wanted_of (ops := pabOps) (b := b) h3 (d := 33) (by kernel_rfl) (show Act.at b 33 = .bool false from hc.v 12 l12 _ rfl)
      rw [hw]
      refine ⟨fun _ => ?_, fun hq => absurd hq (by decide)⟩
      refine wp_loadG _ _ h2 _ _ (show Act.at b 34 = .pointer (some ⟨g, 0, none⟩) from hc.v 13 l13 _ rfl) (load_i ((World.cell?_of_block (w := W) (a := ⟨g, 0, none⟩) (hbw.block g hG.lt)).trans hG0)) ?_
      rw [h1]
      exact hK _ _ (FlatC.step pab_nd (pab_ks kSk kSl) rfl hc 14 (by decide) (Below.refl _ _) (fun u hu => by injection hu with hu; injection hu) (trivial))
    · have h1 : (pabOps[15]?).map (·.dst) = some (some 36) := by kernel_rfl
      have h2 : (pabOps[15]?).map (·.op) = some (Op.binOp BinOp.eql 3 (Operand.tmp 35) (Operand.const (Value.int IntKind.i64 2)) 3) := by kernel_rfl
      have h3 : (pabOps[15]?).map (·.guard) = some (some (12, false)) := by kernel_rfl
      rw [ho] at h1 h2 h3
      replace h1 := Option.some.inj h1
      replace h2 := Option.some.inj h2
      replace h3 := Option.some.inj h3
      simp only at h1 h2 h3
      rw [h1] at hK
      have l12 : L 12 = true := hdep 12 (by simp [pabDep])
      have l14 : L 14 = true := hdep 14 (by simp [pabDep])
      have hw := wanted_of (ops := pabOps) (b := b) h3 (d := 33) (by kernel_rfl) (show Act.at b 33 = .bool false from hc.v 12 l12 _ rfl)
      rw [hw]
      refine ⟨fun _ => ?_, fun hq => absurd hq (by decide)⟩
      refine wp_binG _ _ _ _ _ h2 _ _ (.bool true) (show Act.at b 35 = .int .i64 2 from hc.v 14 l14 _ rfl) rfl (by kernel_rfl) (by kernel_rfl) ?_
      rw [h1]
      exact hK _ _ (FlatC.step pab_nd (pab_ks kSk kSl) rfl hc 15 (by decide) (Below.refl _ _) (fun u hu => by injection hu with hu; injection hu) (trivial))
    · have h1 : (pabOps[16]?).map (·.dst) = some (some 37) := by kernel_rfl
      have h2 : (pabOps[16]?).map (·.op) = some (Op.pick (Operand.tmp 33) (Operand.const (Value.bool true)) (Operand.tmp 36)) := by kernel_rfl
      have h3 : (pabOps[16]?).map (·.guard) = some (some (6, false)) := by kernel_rfl
      rw [ho] at h1 h2 h3
      replace h1 := Option.some.inj h1
      replace h2 := Option.some.inj h2
      replace h3 := Option.some.inj h3
      simp only at h1 h2 h3
      rw [h1] at hK
      have l6 : L 6 = true := hdep 6 (by simp [pabDep])
      have l12 : L 12 = true := hdep 12 (by simp [pabDep])
      have l15 : L 15 = true := hdep 15 (by simp [pabDep])
      have hw := wanted_of (ops := pabOps) (b := b) h3 (d := 27) (by kernel_rfl) (show Act.at b 27 = .bool false from hc.v 6 l6 _ rfl)
      rw [hw]
      refine ⟨fun _ => ?_, fun hq => absurd hq (by decide)⟩
      refine wp_pickG _ _ _ h2 false (show Act.at b 33 = .bool false from hc.v 12 l12 _ rfl) _ (if_neg (by decide) |>.trans (show Act.at b 36 = .bool true from hc.v 15 l15 _ rfl)) ?_
      rw [h1]
      exact hK _ _ (FlatC.step pab_nd (pab_ks kSk kSl) rfl hc 16 (by decide) (Below.refl _ _) (fun u hu => by injection hu with hu; injection hu) (trivial))
    · have h1 : (pabOps[17]?).map (·.dst) = some (some 38) := by kernel_rfl
      have h2 : (pabOps[17]?).map (·.op) = some (Op.binOp BinOp.neq 4 (Operand.tmp 29) (Operand.tmp 37) 4) := by kernel_rfl
      have h3 : (pabOps[17]?).map (·.guard) = some (some (6, false)) := by kernel_rfl
      rw [ho] at h1 h2 h3
      replace h1 := Option.some.inj h1
      replace h2 := Option.some.inj h2
      replace h3 := Option.some.inj h3
      simp only at h1 h2 h3
      rw [h1] at hK
      have l6 : L 6 = true := hdep 6 (by simp [pabDep])
      have l8 : L 8 = true := hdep 8 (by simp [pabDep])
      have l16 : L 16 = true := hdep 16 (by simp [pabDep])
      have hw := wanted_of (ops := pabOps) (b := b) h3 (d := 27) (by kernel_rfl) (show Act.at b 27 = .bool false from hc.v 6 l6 _ rfl)
      rw [hw]
      refine ⟨fun _ => ?_, fun hq => absurd hq (by decide)⟩
      refine wp_binG _ _ _ _ _ h2 _ _ (.bool false) (show Act.at b 29 = .bool true from hc.v 8 l8 _ rfl) (show Act.at b 37 = .bool true from hc.v 16 l16 _ rfl) (by kernel_rfl) (by kernel_rfl) ?_
      rw [h1]
      exact hK _ _ (FlatC.step pab_nd (pab_ks kSk kSl) rfl hc 17 (by decide) (Below.refl _ _) (fun u hu => by injection hu with hu; injection hu) (trivial))
    · have h1 : (pabOps[18]?).map (·.dst) = some (some 39) := by kernel_rfl
      have h2 : (pabOps[18]?).map (·.op) = some (Op.pick (Operand.tmp 27) (Operand.const (Value.bool true)) (Operand.tmp 38)) := by kernel_rfl
      have h3 : (pabOps[18]?).map (·.guard) = some none := by kernel_rfl
      rw [ho] at h1 h2 h3
      replace h1 := Option.some.inj h1
      replace h2 := Option.some.inj h2
      replace h3 := Option.some.inj h3
      simp only at h1 h2 h3
      rw [h1] at hK
      have l6 : L 6 = true := hdep 6 (by simp [pabDep])
      have l17 : L 17 = true := hdep 17 (by simp [pabDep])
      refine ⟨fun _ => ?_, fun hw => by rw [wanted_none h3] at hw; cases hw⟩
      refine wp_pickG _ _ _ h2 false (show Act.at b 27 = .bool false from hc.v 6 l6 _ rfl) _ (if_neg (by decide) |>.trans (show Act.at b 38 = .bool false from hc.v 17 l17 _ rfl)) ?_
      rw [h1]
      exact hK _ _ (FlatC.step pab_nd (pab_ks kSk kSl) rfl hc 18 (by decide) (Below.refl _ _) (fun u hu => by injection hu with hu; injection hu) (trivial))
  · rintro L b w hL hd hs hf hc
    have hsz2 : pabOps.size = 19 := rfl
    rw [hsz2] at hL
    have e := act_eq (a := A0) (b := b) (pabUs (Act.at b)) hd hs hf (by
      intro p hp
      simp only [pabUs, List.mem_cons, List.not_mem_nil, or_false] at hp
      rcases hp with rfl | rfl | rfl | rfl | rfl | rfl | rfl | rfl | rfl | rfl | rfl | rfl | rfl | rfl | rfl | rfl | rfl | rfl | rfl <;> rfl) (by rw [show (pabUs (Act.at b)).map (·.1) = [21, 22, 23, 24, 25, 26, 27, 28, 29, 30, 31, 32, 33, 34, 35, 36, 37, 38, 39] from rfl]; decide)
    rw [e]
    exact hk (Act.at b) w (hc.v 18 (hL 18 (by omega)) _ rfl) ⟨hc.bel.os, hc.bel.tape, hc.bel.output, hc.bel.size, hc.bel.block⟩
def pacOps : Array Oper := #[{ dst := some 21, op := Op.load 38 (Operand.tmp 1), type := 38, pos := "law.go:293", after := #[], guard := none }, { dst := some 22, op := Op.call { callee := Callee.value (Operand.func 22), args := #[Operand.tmp 21], argTypes := #[38] }, type := 33, pos := "law.go:293", after := #[{ on := 0, ground := Ground.data }], guard := none }, { dst := some 23, op := Op.load 38 (Operand.tmp 1), type := 38, pos := "law.go:293", after := #[], guard := none }, { dst := some 24, op := Op.call { callee := Callee.value (Operand.func 10), args := #[Operand.tmp 23], argTypes := #[38] }, type := 33, pos := "law.go:293", after := #[{ on := 2, ground := Ground.data }, { on := 1, ground := Ground.chain }], guard := none }, { dst := some 25, op := Op.call { callee := Callee.value (Operand.func 21), args := #[Operand.tmp 22, Operand.tmp 24], argTypes := #[33, 33] }, type := 4, pos := "law.go:293", after := #[{ on := 1, ground := Ground.data }, { on := 3, ground := Ground.data }, { on := 3, ground := Ground.chain }], guard := none }, { dst := some 26, op := Op.unOp UnOp.not 4 (Operand.tmp 25), type := 4, pos := "law.go:293", after := #[{ on := 4, ground := Ground.data }], guard := none }, { dst := some 27, op := Op.move (Operand.tmp 26), type := 4, pos := "law.go:293", after := #[{ on := 5, ground := Ground.data }, { on := 4, ground := Ground.chain }], guard := none }, { dst := some 28, op := Op.load 38 (Operand.tmp 1), type := 38, pos := "law.go:293", after := #[{ on := 6, ground := Ground.guard }], guard := some (6, false) }, { dst := some 29, op := Op.call { callee := Callee.value (Operand.func 23), args := #[Operand.tmp 28], argTypes := #[38] }, type := 4, pos := "law.go:293", after := #[{ on := 7, ground := Ground.data }, { on := 6, ground := Ground.chain }, { on := 6, ground := Ground.guard }], guard := some (6, false) }, { dst := some 30, op := Op.fieldAddr 38 (Operand.tmp 1) 0, type := 0, pos := "law.go:293", after := #[{ on := 6, ground := Ground.guard }], guard := some (6, false) }, { dst := some 31, op := Op.load 3 (Operand.tmp 30), type := 3, pos := "law.go:293", after := #[{ on := 9, ground := Ground.data }, { on := 6, ground := Ground.guard }], guard := some (6, false) }, { dst := some 32, op := Op.binOp BinOp.eql 3 (Operand.tmp 31) (Operand.const (Value.int IntKind.i64 1)) 3, type := 4, pos := "law.go:293", after := #[{ on := 10, ground := Ground.data }, { on := 6, ground := Ground.guard }], guard := some (6, false) }, { dst := some 33, op := Op.move (Operand.tmp 32), type := 4, pos := "law.go:293", after := #[{ on := 11, ground := Ground.data }, { on := 8, ground := Ground.chain }, { on := 6, ground := Ground.guard }], guard := some (6, false) }, { dst := some 34, op := Op.fieldAddr 38 (Operand.tmp 1) 0, type := 0, pos := "law.go:293", after := #[{ on := 12, ground := Ground.guard }], guard := some (12, false) }, { dst := some 35, op := Op.load 3 (Operand.tmp 34), type := 3, pos := "law.go:293", after := #[{ on := 13, ground := Ground.data }, { on := 12, ground := Ground.guard }], guard := some (12, false) }, { dst := some 36, op := Op.binOp BinOp.eql 3 (Operand.tmp 35) (Operand.const (Value.int IntKind.i64 2)) 3, type := 4, pos := "law.go:293", after := #[{ on := 14, ground := Ground.data }, { on := 12, ground := Ground.guard }], guard := some (12, false) }, { dst := some 37, op := Op.pick (Operand.tmp 33) (Operand.const (Value.bool true)) (Operand.tmp 36), type := 4, pos := "law.go:293", after := #[{ on := 12, ground := Ground.data }, { on := 15, ground := Ground.data }, { on := 6, ground := Ground.guard }], guard := some (6, false) }, { dst := some 38, op := Op.binOp BinOp.neq 4 (Operand.tmp 29) (Operand.tmp 37) 4, type := 4, pos := "law.go:293", after := #[{ on := 8, ground := Ground.data }, { on := 16, ground := Ground.data }, { on := 6, ground := Ground.guard }], guard := some (6, false) }, { dst := some 39, op := Op.pick (Operand.tmp 27) (Operand.const (Value.bool true)) (Operand.tmp 38), type := 4, pos := "law.go:293", after := #[{ on := 6, ground := Ground.data }, { on := 17, ground := Ground.data }], guard := none }]
def pacDep : Nat → List Nat := fun i => match i with | 4 => [1, 3] | 1 => [0] | 3 => [2] | 5 => [4] | 6 => [5] | 7 => [6] | 8 => [6, 7] | 9 => [6] | 10 => [6, 9] | 11 => [6, 10] | 12 => [6, 11] | 13 => [12] | 14 => [12, 13] | 15 => [12, 14] | 16 => [6, 12, 15] | 17 => [6, 8, 16] | 18 => [6, 17] | _ => []
def pacSl : List Nat := [21, 22, 23, 24, 25, 26, 27, 28, 29, 30, 31, 32, 33, 34, 35, 36, 37, 38, 39]
def pacVs (g : Nat) (cs : Array Value) (k : Int) : List (Option Value) := [some (.agg cs), none, some (.agg cs), none, some (.bool true), some (.bool false), some (.bool false), some (.agg cs), some (.bool false), some (.pointer (some ⟨g, 0, none⟩)), some (.int .i64 k), some (.bool false), some (.bool false), some (.pointer (some ⟨g, 0, none⟩)), some (.int .i64 k), some (.bool false), some (.bool false), some (.bool false), some (.bool false)]
def pacSp (Sk : Value → World → Prop) (Sl : Value → World → Prop) (i : Nat) : Value → World → Prop := match i with | 1 => Sk | 3 => Sl | _ => fun _ _ => True
theorem pac_ks {Sk : Value → World → Prop} {Sl : Value → World → Prop} (kSk : ∀ v w w', Sk v w → Below w.heap.size w w' → Sk v w') (kSl : ∀ v w w', Sl v w → Below w.heap.size w w' → Sl v w') : ∀ i v w w', pacSp Sk Sl i v w → Below w.heap.size w w' → pacSp Sk Sl i v w' := by
  intro i v w w' h hb
  unfold pacSp at h ⊢
  split <;> first | trivial | exact kSk _ _ _ h hb | exact kSl _ _ _ h hb
theorem pac_nd : pacSl.Nodup := by decide
def pacUs (f : Nat → Value) : List (Nat × Value) := [(21, f 21), (22, f 22), (23, f 23), (24, f 24), (25, f 25), (26, f 26), (27, f 27), (28, f 28), (29, f 29), (30, f 30), (31, f 31), (32, f 32), (33, f 33), (34, f 34), (35, f 35), (36, f 36), (37, f 37), (38, f 38), (39, f 39)]
set_option maxRecDepth 20000 in
set_option maxHeartbeats 4000000 in
theorem pac_reg {g : Nat} {cs : Array Value} {k : Int} {Sk : Value → World → Prop} {Sl : Value → World → Prop} {W : World} {A0 : Act} {Q : Exit → Act → World → Prop} {id : Nat} (a1 : Act.at A0 1 = .pointer (some ⟨g, 0, none⟩)) (hsz : 80 ≤ A0.tmps.size) (kSk : ∀ v w w', Sk v w → Below w.heap.size w w' → Sk v w') (kSl : ∀ v w w', Sl v w → Below w.heap.size w w' → Sl v w') {x : NV} (hG : NBox W g cs x) (hG0 : W.cell? ⟨g, 0, none⟩ = some (.int .i64 k)) (hk11 : (k == 1) = false) (hk15 : (k == 2) = false)
    (HKi : ∀ w, Below W.heap.size W w → Calls Try.prog 22 #[.agg cs] w fun e w' => ∃ v, e = .returned v ∧ Sk v w' ∧ Below w.heap.size w w')
    (HKl : ∀ w, Below W.heap.size W w → Calls Try.prog 10 #[.agg cs] w fun e w' => ∃ v, e = .returned v ∧ Sl v w' ∧ Below w.heap.size w w')
    (HE : ∀ u z w, Sk u w → Sl z w → Below W.heap.size W w → Calls Try.prog 21 #[u, z] w fun e w' => ∃ v, e = .returned v ∧ v = .bool true ∧ Below w.heap.size w w')
    (HNu : ∀ w, Below W.heap.size W w → Calls Try.prog 23 #[.agg cs] w fun e w' => ∃ v, e = .returned v ∧ v = .bool false ∧ Below w.heap.size w w')
    (hk : ∀ (f : Nat → Value) w', f 39 = .bool false → Below W.heap.size W w' → Q .normal ⟨(pacUs f).foldl (fun A p => A.setIfInBounds p.1 p.2) A0.tmps, A0.defers⟩ w') :
    (Code.region id pacOps true).wp Try.prog Q A0 W := by
  refine wp_region_fun3 (by kernel_rfl) (fun L f w => FlatC W.drew pacSl (pacVs g cs k) (pacSp Sk Sl) L f w) [21, 22, 23, 24, 25, 26, 27, 28, 29, 30, 31, 32, 33, 34, 35, 36, 37, 38, 39] (fun i o ho => (wf_ops3 (ops := pacOps) (by kernel_rfl)) i o ho) (fun i o ho u hu => ?_) ?_ ?_ ?_
  · have := ops_dst [21, 22, 23, 24, 25, 26, 27, 28, 29, 30, 31, 32, 33, 34, 35, 36, 37, 38, 39] 80 (by kernel_rfl) i o ho u hu
    exact ⟨this.1, Nat.lt_of_lt_of_le this.2 hsz⟩
  · have hs : pacOps.size = 19 := rfl
    rw [hs]
    exact FlatC.start rfl rfl
  · rintro L i o ho hLi haf b w hf hc K hK
    have hdep := ops_deps pacDep (by kernel_rfl) ho haf
    clear haf
    have hbw : Below W.heap.size W w := ⟨hc.bel.os, hc.bel.tape, hc.bel.output, hc.bel.size, hc.bel.block⟩
    have hs : pacOps.size = 19 := rfl
    have hlt : i < 19 := hs ▸ (Array.getElem?_eq_some_iff.1 ho).1
    have hcases : i = 0 ∨ i = 1 ∨ i = 2 ∨ i = 3 ∨ i = 4 ∨ i = 5 ∨ i = 6 ∨ i = 7 ∨ i = 8 ∨ i = 9 ∨ i = 10 ∨ i = 11 ∨ i = 12 ∨ i = 13 ∨ i = 14 ∨ i = 15 ∨ i = 16 ∨ i = 17 ∨ i = 18 := by omega
    clear hlt
    rcases hcases with rfl | rfl | rfl | rfl | rfl | rfl | rfl | rfl | rfl | rfl | rfl | rfl | rfl | rfl | rfl | rfl | rfl | rfl | rfl
    · have h1 : (pacOps[0]?).map (·.dst) = some (some 21) := by kernel_rfl
      have h2 : (pacOps[0]?).map (·.op) = some (Op.load 38 (Operand.tmp 1)) := by kernel_rfl
      have h3 : (pacOps[0]?).map (·.guard) = some none := by kernel_rfl
      rw [ho] at h1 h2 h3
      replace h1 := Option.some.inj h1
      replace h2 := Option.some.inj h2
      replace h3 := Option.some.inj h3
      simp only at h1 h2 h3
      rw [h1] at hK
      refine ⟨fun _ => ?_, fun hw => by rw [wanted_none h3] at hw; cases hw⟩
      refine wp_load_row 38 (.tmp 1) h2 g ((hf 1 (by decide)).trans a1) 38 cs (0, 0) _ ((hbw.block g hG.lt).trans hG.1) Try.underlying38 rfl hG.size ?_
      rw [h1]
      exact hK _ _ (FlatC.step pac_nd (pac_ks kSk kSl) rfl hc 0 (by decide) (Below.refl _ _) (fun u hu => by injection hu with hu; injection hu) (trivial))
    · have h1 : (pacOps[1]?).map (·.dst) = some (some 22) := by kernel_rfl
      have h2 : (pacOps[1]?).map (·.op) = some (Op.call { callee := Callee.value (Operand.func 22), args := #[Operand.tmp 21], argTypes := #[38] }) := by kernel_rfl
      have h3 : (pacOps[1]?).map (·.guard) = some none := by kernel_rfl
      rw [ho] at h1 h2 h3
      replace h1 := Option.some.inj h1
      replace h2 := Option.some.inj h2
      replace h3 := Option.some.inj h3
      simp only at h1 h2 h3
      rw [h1] at hK
      have l0 : L 0 = true := hdep 0 (by simp [pacDep])
      refine ⟨fun _ => ?_, fun hw => by rw [wanted_none h3] at hw; cases hw⟩
      refine wp_callG 22 _ _ h2 (enters_of Try.func22 (by kernel_rfl) rfl) #[.agg cs] (by simp [show b.eval (.tmp 21) = _ from (show Act.at b 21 = .agg cs from hc.v 0 l0 _ rfl)]) _ (HKi w hbw) ?_
      rintro v w2 ⟨hp2, hb2⟩
      rw [h1]
      exact hK _ _ (FlatC.step pac_nd (pac_ks kSk kSl) rfl hc 1 (by decide) (hb2) (fun u hu => by cases hu) (hp2))
    · have h1 : (pacOps[2]?).map (·.dst) = some (some 23) := by kernel_rfl
      have h2 : (pacOps[2]?).map (·.op) = some (Op.load 38 (Operand.tmp 1)) := by kernel_rfl
      have h3 : (pacOps[2]?).map (·.guard) = some none := by kernel_rfl
      rw [ho] at h1 h2 h3
      replace h1 := Option.some.inj h1
      replace h2 := Option.some.inj h2
      replace h3 := Option.some.inj h3
      simp only at h1 h2 h3
      rw [h1] at hK
      refine ⟨fun _ => ?_, fun hw => by rw [wanted_none h3] at hw; cases hw⟩
      refine wp_load_row 38 (.tmp 1) h2 g ((hf 1 (by decide)).trans a1) 38 cs (0, 0) _ ((hbw.block g hG.lt).trans hG.1) Try.underlying38 rfl hG.size ?_
      rw [h1]
      exact hK _ _ (FlatC.step pac_nd (pac_ks kSk kSl) rfl hc 2 (by decide) (Below.refl _ _) (fun u hu => by injection hu with hu; injection hu) (trivial))
    · have h1 : (pacOps[3]?).map (·.dst) = some (some 24) := by kernel_rfl
      have h2 : (pacOps[3]?).map (·.op) = some (Op.call { callee := Callee.value (Operand.func 10), args := #[Operand.tmp 23], argTypes := #[38] }) := by kernel_rfl
      have h3 : (pacOps[3]?).map (·.guard) = some none := by kernel_rfl
      rw [ho] at h1 h2 h3
      replace h1 := Option.some.inj h1
      replace h2 := Option.some.inj h2
      replace h3 := Option.some.inj h3
      simp only at h1 h2 h3
      rw [h1] at hK
      have l2 : L 2 = true := hdep 2 (by simp [pacDep])
      refine ⟨fun _ => ?_, fun hw => by rw [wanted_none h3] at hw; cases hw⟩
      refine wp_callG 10 _ _ h2 (enters_of Try.func10 (by kernel_rfl) rfl) #[.agg cs] (by simp [show b.eval (.tmp 23) = _ from (show Act.at b 23 = .agg cs from hc.v 2 l2 _ rfl)]) _ (HKl w hbw) ?_
      rintro v w2 ⟨hp2, hb2⟩
      rw [h1]
      exact hK _ _ (FlatC.step pac_nd (pac_ks kSk kSl) rfl hc 3 (by decide) (hb2) (fun u hu => by cases hu) (hp2))
    · have h1 : (pacOps[4]?).map (·.dst) = some (some 25) := by kernel_rfl
      have h2 : (pacOps[4]?).map (·.op) = some (Op.call { callee := Callee.value (Operand.func 21), args := #[Operand.tmp 22, Operand.tmp 24], argTypes := #[33, 33] }) := by kernel_rfl
      have h3 : (pacOps[4]?).map (·.guard) = some none := by kernel_rfl
      rw [ho] at h1 h2 h3
      replace h1 := Option.some.inj h1
      replace h2 := Option.some.inj h2
      replace h3 := Option.some.inj h3
      simp only at h1 h2 h3
      rw [h1] at hK
      refine ⟨fun _ => ?_, fun hw => by rw [wanted_none h3] at hw; cases hw⟩
      have l1 : L 1 = true := hdep 1 (by simp [pacDep])
      have l3 : L 3 = true := hdep 3 (by simp [pacDep])
      have hp := hc.s 1 l1 (by decide)
      have hq := hc.s 3 l3 (by decide)
      refine wp_callG 21 _ _ h2 (enters_of Try.func21 (by kernel_rfl) rfl) #[Act.at b 22, Act.at b 24] (by simp [show b.eval (.tmp 22) = Act.at b 22 from rfl, show b.eval (.tmp 24) = Act.at b 24 from rfl]) _ (HE _ _ w hp hq hbw) ?_
      rintro v w2 ⟨rfl, hb2⟩
      rw [h1]
      exact hK _ _ (FlatC.step pac_nd (pac_ks kSk kSl) rfl hc 4 (by decide) (hb2) (fun u hu => by injection hu with hu; injection hu) (trivial))
    · have h1 : (pacOps[5]?).map (·.dst) = some (some 26) := by kernel_rfl
      have h2 : (pacOps[5]?).map (·.op) = some (Op.unOp UnOp.not 4 (Operand.tmp 25)) := by kernel_rfl
      have h3 : (pacOps[5]?).map (·.guard) = some none := by kernel_rfl
      rw [ho] at h1 h2 h3
      replace h1 := Option.some.inj h1
      replace h2 := Option.some.inj h2
      replace h3 := Option.some.inj h3
      simp only at h1 h2 h3
      rw [h1] at hK
      have l4 : L 4 = true := hdep 4 (by simp [pacDep])
      refine ⟨fun _ => ?_, fun hw => by rw [wanted_none h3] at hw; cases hw⟩
      refine wp_unG _ _ _ h2 _ (.bool false) (show Act.at b 25 = .bool true from hc.v 4 l4 _ rfl) (by kernel_rfl) ?_
      rw [h1]
      exact hK _ _ (FlatC.step pac_nd (pac_ks kSk kSl) rfl hc 5 (by decide) (Below.refl _ _) (fun u hu => by injection hu with hu; injection hu) (trivial))
    · have h1 : (pacOps[6]?).map (·.dst) = some (some 27) := by kernel_rfl
      have h2 : (pacOps[6]?).map (·.op) = some (Op.move (Operand.tmp 26)) := by kernel_rfl
      have h3 : (pacOps[6]?).map (·.guard) = some none := by kernel_rfl
      rw [ho] at h1 h2 h3
      replace h1 := Option.some.inj h1
      replace h2 := Option.some.inj h2
      replace h3 := Option.some.inj h3
      simp only at h1 h2 h3
      rw [h1] at hK
      have l5 : L 5 = true := hdep 5 (by simp [pacDep])
      refine ⟨fun _ => ?_, fun hw => by rw [wanted_none h3] at hw; cases hw⟩
      refine wp_moveG _ h2 _ (show Act.at b 26 = .bool false from hc.v 5 l5 _ rfl) ?_
      rw [h1]
      exact hK _ _ (FlatC.step pac_nd (pac_ks kSk kSl) rfl hc 6 (by decide) (Below.refl _ _) (fun u hu => by injection hu with hu; injection hu) (trivial))
    · have h1 : (pacOps[7]?).map (·.dst) = some (some 28) := by kernel_rfl
      have h2 : (pacOps[7]?).map (·.op) = some (Op.load 38 (Operand.tmp 1)) := by kernel_rfl
      have h3 : (pacOps[7]?).map (·.guard) = some (some (6, false)) := by kernel_rfl
      rw [ho] at h1 h2 h3
      replace h1 := Option.some.inj h1
      replace h2 := Option.some.inj h2
      replace h3 := Option.some.inj h3
      simp only at h1 h2 h3
      rw [h1] at hK
      have l6 : L 6 = true := hdep 6 (by simp [pacDep])
      have hw := wanted_of (ops := pacOps) (b := b) h3 (d := 27) (by kernel_rfl) (show Act.at b 27 = .bool false from hc.v 6 l6 _ rfl)
      rw [hw]
      refine ⟨fun _ => ?_, fun hq => absurd hq (by decide)⟩
      refine wp_load_row 38 (.tmp 1) h2 g ((hf 1 (by decide)).trans a1) 38 cs (0, 0) _ ((hbw.block g hG.lt).trans hG.1) Try.underlying38 rfl hG.size ?_
      rw [h1]
      exact hK _ _ (FlatC.step pac_nd (pac_ks kSk kSl) rfl hc 7 (by decide) (Below.refl _ _) (fun u hu => by injection hu with hu; injection hu) (trivial))
    · have h1 : (pacOps[8]?).map (·.dst) = some (some 29) := by kernel_rfl
      have h2 : (pacOps[8]?).map (·.op) = some (Op.call { callee := Callee.value (Operand.func 23), args := #[Operand.tmp 28], argTypes := #[38] }) := by kernel_rfl
      have h3 : (pacOps[8]?).map (·.guard) = some (some (6, false)) := by kernel_rfl
      rw [ho] at h1 h2 h3
      replace h1 := Option.some.inj h1
      replace h2 := Option.some.inj h2
      replace h3 := Option.some.inj h3
      simp only at h1 h2 h3
      rw [h1] at hK
      have l6 : L 6 = true := hdep 6 (by simp [pacDep])
      have l7 : L 7 = true := hdep 7 (by simp [pacDep])
      have hw := wanted_of (ops := pacOps) (b := b) h3 (d := 27) (by kernel_rfl) (show Act.at b 27 = .bool false from hc.v 6 l6 _ rfl)
      rw [hw]
      refine ⟨fun _ => ?_, fun hq => absurd hq (by decide)⟩
      refine wp_callG 23 _ _ h2 (enters_of Try.func23 (by kernel_rfl) rfl) #[.agg cs] (by simp [show b.eval (.tmp 28) = _ from (show Act.at b 28 = .agg cs from hc.v 7 l7 _ rfl)]) _ (HNu w hbw) ?_
      rintro v w2 ⟨rfl, hb2⟩
      rw [h1]
      exact hK _ _ (FlatC.step pac_nd (pac_ks kSk kSl) rfl hc 8 (by decide) (hb2) (fun u hu => by injection hu with hu; injection hu) (trivial))
    · have h1 : (pacOps[9]?).map (·.dst) = some (some 30) := by kernel_rfl
      have h2 : (pacOps[9]?).map (·.op) = some (Op.fieldAddr 38 (Operand.tmp 1) 0) := by kernel_rfl
      have h3 : (pacOps[9]?).map (·.guard) = some (some (6, false)) := by kernel_rfl
      rw [ho] at h1 h2 h3
      replace h1 := Option.some.inj h1
      replace h2 := Option.some.inj h2
      replace h3 := Option.some.inj h3
      simp only at h1 h2 h3
      rw [h1] at hK
      have l6 : L 6 = true := hdep 6 (by simp [pacDep])
      have hw := wanted_of (ops := pacOps) (b := b) h3 (d := 27) (by kernel_rfl) (show Act.at b 27 = .bool false from hc.v 6 l6 _ rfl)
      rw [hw]
      refine ⟨fun _ => ?_, fun hq => absurd hq (by decide)⟩
      refine wp_fieldG _ _ _ h2 _ _ ((hf 1 (by decide)).trans a1) (field_0N g w) ?_
      rw [h1]
      exact hK _ _ (FlatC.step pac_nd (pac_ks kSk kSl) rfl hc 9 (by decide) (Below.refl _ _) (fun u hu => by injection hu with hu; injection hu) (trivial))
    · have h1 : (pacOps[10]?).map (·.dst) = some (some 31) := by kernel_rfl
      have h2 : (pacOps[10]?).map (·.op) = some (Op.load 3 (Operand.tmp 30)) := by kernel_rfl
      have h3 : (pacOps[10]?).map (·.guard) = some (some (6, false)) := by kernel_rfl
      rw [ho] at h1 h2 h3
      replace h1 := Option.some.inj h1
      replace h2 := Option.some.inj h2
      replace h3 := Option.some.inj h3
      simp only at h1 h2 h3
      rw [h1] at hK
      have l6 : L 6 = true := hdep 6 (by simp [pacDep])
      have l9 : L 9 = true := hdep 9 (by simp [pacDep])
      have hw := wanted_of (ops := pacOps) (b := b) h3 (d := 27) (by kernel_rfl) (show Act.at b 27 = .bool false from hc.v 6 l6 _ rfl)
      rw [hw]
      refine ⟨fun _ => ?_, fun hq => absurd hq (by decide)⟩
      refine wp_loadG _ _ h2 _ _ (show Act.at b 30 = .pointer (some ⟨g, 0, none⟩) from hc.v 9 l9 _ rfl) (load_i ((World.cell?_of_block (w := W) (a := ⟨g, 0, none⟩) (hbw.block g hG.lt)).trans hG0)) ?_
      rw [h1]
      exact hK _ _ (FlatC.step pac_nd (pac_ks kSk kSl) rfl hc 10 (by decide) (Below.refl _ _) (fun u hu => by injection hu with hu; injection hu) (trivial))
    · have h1 : (pacOps[11]?).map (·.dst) = some (some 32) := by kernel_rfl
      have h2 : (pacOps[11]?).map (·.op) = some (Op.binOp BinOp.eql 3 (Operand.tmp 31) (Operand.const (Value.int IntKind.i64 1)) 3) := by kernel_rfl
      have h3 : (pacOps[11]?).map (·.guard) = some (some (6, false)) := by kernel_rfl
      rw [ho] at h1 h2 h3
      replace h1 := Option.some.inj h1
      replace h2 := Option.some.inj h2
      replace h3 := Option.some.inj h3
      simp only at h1 h2 h3
      rw [h1] at hK
      have l6 : L 6 = true := hdep 6 (by simp [pacDep])
      have l10 : L 10 = true := hdep 10 (by simp [pacDep])
      have hw := wanted_of (ops := pacOps) (b := b) h3 (d := 27) (by kernel_rfl) (show Act.at b 27 = .bool false from hc.v 6 l6 _ rfl)
      rw [hw]
      refine ⟨fun _ => ?_, fun hq => absurd hq (by decide)⟩
      refine wp_binG _ _ _ _ _ h2 _ _ (.bool false) (show Act.at b 31 = .int .i64 k from hc.v 10 l10 _ rfl) rfl (by kernel_rfl) ((eq_ints k 1 w).trans (by rw [hk11])) ?_
      rw [h1]
      exact hK _ _ (FlatC.step pac_nd (pac_ks kSk kSl) rfl hc 11 (by decide) (Below.refl _ _) (fun u hu => by injection hu with hu; injection hu) (trivial))
    · have h1 : (pacOps[12]?).map (·.dst) = some (some 33) := by kernel_rfl
      have h2 : (pacOps[12]?).map (·.op) = some (Op.move (Operand.tmp 32)) := by kernel_rfl
      have h3 : (pacOps[12]?).map (·.guard) = some (some (6, false)) := by kernel_rfl
      rw [ho] at h1 h2 h3
      replace h1 := Option.some.inj h1
      replace h2 := Option.some.inj h2
      replace h3 := Option.some.inj h3
      simp only at h1 h2 h3
      rw [h1] at hK
      have l6 : L 6 = true := hdep 6 (by simp [pacDep])
      have l11 : L 11 = true := hdep 11 (by simp [pacDep])
      have hw := wanted_of (ops := pacOps) (b := b) h3 (d := 27) (by kernel_rfl) (show Act.at b 27 = .bool false from hc.v 6 l6 _ rfl)
      rw [hw]
      refine ⟨fun _ => ?_, fun hq => absurd hq (by decide)⟩
      refine wp_moveG _ h2 _ (show Act.at b 32 = .bool false from hc.v 11 l11 _ rfl) ?_
      rw [h1]
      exact hK _ _ (FlatC.step pac_nd (pac_ks kSk kSl) rfl hc 12 (by decide) (Below.refl _ _) (fun u hu => by injection hu with hu; injection hu) (trivial))
    · have h1 : (pacOps[13]?).map (·.dst) = some (some 34) := by kernel_rfl
      have h2 : (pacOps[13]?).map (·.op) = some (Op.fieldAddr 38 (Operand.tmp 1) 0) := by kernel_rfl
      have h3 : (pacOps[13]?).map (·.guard) = some (some (12, false)) := by kernel_rfl
      rw [ho] at h1 h2 h3
      replace h1 := Option.some.inj h1
      replace h2 := Option.some.inj h2
      replace h3 := Option.some.inj h3
      simp only at h1 h2 h3
      rw [h1] at hK
      have l12 : L 12 = true := hdep 12 (by simp [pacDep])
      have hw := wanted_of (ops := pacOps) (b := b) h3 (d := 33) (by kernel_rfl) (show Act.at b 33 = .bool false from hc.v 12 l12 _ rfl)
      rw [hw]
      refine ⟨fun _ => ?_, fun hq => absurd hq (by decide)⟩
      refine wp_fieldG _ _ _ h2 _ _ ((hf 1 (by decide)).trans a1) (field_0N g w) ?_
      rw [h1]
      exact hK _ _ (FlatC.step pac_nd (pac_ks kSk kSl) rfl hc 13 (by decide) (Below.refl _ _) (fun u hu => by injection hu with hu; injection hu) (trivial))
    · have h1 : (pacOps[14]?).map (·.dst) = some (some 35) := by kernel_rfl
      have h2 : (pacOps[14]?).map (·.op) = some (Op.load 3 (Operand.tmp 34)) := by kernel_rfl
      have h3 : (pacOps[14]?).map (·.guard) = some (some (12, false)) := by kernel_rfl
      rw [ho] at h1 h2 h3
      replace h1 := Option.some.inj h1
      replace h2 := Option.some.inj h2
      replace h3 := Option.some.inj h3
      simp only at h1 h2 h3
      rw [h1] at hK
      have l12 : L 12 = true := hdep 12 (by simp [pacDep])
      have l13 : L 13 = true := hdep 13 (by simp [pacDep])
      have hw := wanted_of (ops := pacOps) (b := b) h3 (d := 33) (by kernel_rfl) (show Act.at b 33 = .bool false from hc.v 12 l12 _ rfl)
      rw [hw]
      refine ⟨fun _ => ?_, fun hq => absurd hq (by decide)⟩
      refine wp_loadG _ _ h2 _ _ (show Act.at b 34 = .pointer (some ⟨g, 0, none⟩) from hc.v 13 l13 _ rfl) (load_i ((World.cell?_of_block (w := W) (a := ⟨g, 0, none⟩) (hbw.block g hG.lt)).trans hG0)) ?_
      rw [h1]
      exact hK _ _ (FlatC.step pac_nd (pac_ks kSk kSl) rfl hc 14 (by decide) (Below.refl _ _) (fun u hu => by injection hu with hu; injection hu) (trivial))
    · have h1 : (pacOps[15]?).map (·.dst) = some (some 36) := by kernel_rfl
      have h2 : (pacOps[15]?).map (·.op) = some (Op.binOp BinOp.eql 3 (Operand.tmp 35) (Operand.const (Value.int IntKind.i64 2)) 3) := by kernel_rfl
      have h3 : (pacOps[15]?).map (·.guard) = some (some (12, false)) := by kernel_rfl
      rw [ho] at h1 h2 h3
      replace h1 := Option.some.inj h1
      replace h2 := Option.some.inj h2
      replace h3 := Option.some.inj h3
      simp only at h1 h2 h3
      rw [h1] at hK
      have l12 : L 12 = true := hdep 12 (by simp [pacDep])
      have l14 : L 14 = true := hdep 14 (by simp [pacDep])
      have hw := wanted_of (ops := pacOps) (b := b) h3 (d := 33) (by kernel_rfl) (show Act.at b 33 = .bool false from hc.v 12 l12 _ rfl)
      rw [hw]
      refine ⟨fun _ => ?_, fun hq => absurd hq (by decide)⟩
      refine wp_binG _ _ _ _ _ h2 _ _ (.bool false) (show Act.at b 35 = .int .i64 k from hc.v 14 l14 _ rfl) rfl (by kernel_rfl) ((eq_ints k 2 w).trans (by rw [hk15])) ?_
      rw [h1]
      exact hK _ _ (FlatC.step pac_nd (pac_ks kSk kSl) rfl hc 15 (by decide) (Below.refl _ _) (fun u hu => by injection hu with hu; injection hu) (trivial))
    · have h1 : (pacOps[16]?).map (·.dst) = some (some 37) := by kernel_rfl
      have h2 : (pacOps[16]?).map (·.op) = some (Op.pick (Operand.tmp 33) (Operand.const (Value.bool true)) (Operand.tmp 36)) := by kernel_rfl
      have h3 : (pacOps[16]?).map (·.guard) = some (some (6, false)) := by kernel_rfl
      rw [ho] at h1 h2 h3
      replace h1 := Option.some.inj h1
      replace h2 := Option.some.inj h2
      replace h3 := Option.some.inj h3
      simp only at h1 h2 h3
      rw [h1] at hK
      have l6 : L 6 = true := hdep 6 (by simp [pacDep])
      have l12 : L 12 = true := hdep 12 (by simp [pacDep])
      have l15 : L 15 = true := hdep 15 (by simp [pacDep])
      have hw := wanted_of (ops := pacOps) (b := b) h3 (d := 27) (by kernel_rfl) (show Act.at b 27 = .bool false from hc.v 6 l6 _ rfl)
      rw [hw]
      refine ⟨fun _ => ?_, fun hq => absurd hq (by decide)⟩
      refine wp_pickG _ _ _ h2 false (show Act.at b 33 = .bool false from hc.v 12 l12 _ rfl) _ (if_neg (by decide) |>.trans (show Act.at b 36 = .bool false from hc.v 15 l15 _ rfl)) ?_
      rw [h1]
      exact hK _ _ (FlatC.step pac_nd (pac_ks kSk kSl) rfl hc 16 (by decide) (Below.refl _ _) (fun u hu => by injection hu with hu; injection hu) (trivial))
    · have h1 : (pacOps[17]?).map (·.dst) = some (some 38) := by kernel_rfl
      have h2 : (pacOps[17]?).map (·.op) = some (Op.binOp BinOp.neq 4 (Operand.tmp 29) (Operand.tmp 37) 4) := by kernel_rfl
      have h3 : (pacOps[17]?).map (·.guard) = some (some (6, false)) := by kernel_rfl
      rw [ho] at h1 h2 h3
      replace h1 := Option.some.inj h1
      replace h2 := Option.some.inj h2
      replace h3 := Option.some.inj h3
      simp only at h1 h2 h3
      rw [h1] at hK
      have l6 : L 6 = true := hdep 6 (by simp [pacDep])
      have l8 : L 8 = true := hdep 8 (by simp [pacDep])
      have l16 : L 16 = true := hdep 16 (by simp [pacDep])
      have hw := wanted_of (ops := pacOps) (b := b) h3 (d := 27) (by kernel_rfl) (show Act.at b 27 = .bool false from hc.v 6 l6 _ rfl)
      rw [hw]
      refine ⟨fun _ => ?_, fun hq => absurd hq (by decide)⟩
      refine wp_binG _ _ _ _ _ h2 _ _ (.bool false) (show Act.at b 29 = .bool false from hc.v 8 l8 _ rfl) (show Act.at b 37 = .bool false from hc.v 16 l16 _ rfl) (by kernel_rfl) (by kernel_rfl) ?_
      rw [h1]
      exact hK _ _ (FlatC.step pac_nd (pac_ks kSk kSl) rfl hc 17 (by decide) (Below.refl _ _) (fun u hu => by injection hu with hu; injection hu) (trivial))
    · have h1 : (pacOps[18]?).map (·.dst) = some (some 39) := by kernel_rfl
      have h2 : (pacOps[18]?).map (·.op) = some (Op.pick (Operand.tmp 27) (Operand.const (Value.bool true)) (Operand.tmp 38)) := by kernel_rfl
      have h3 : (pacOps[18]?).map (·.guard) = some none := by kernel_rfl
      rw [ho] at h1 h2 h3
      replace h1 := Option.some.inj h1
      replace h2 := Option.some.inj h2
      replace h3 := Option.some.inj h3
      simp only at h1 h2 h3
      rw [h1] at hK
      have l6 : L 6 = true := hdep 6 (by simp [pacDep])
      have l17 : L 17 = true := hdep 17 (by simp [pacDep])
      refine ⟨fun _ => ?_, fun hw => by rw [wanted_none h3] at hw; cases hw⟩
      refine wp_pickG _ _ _ h2 false (show Act.at b 27 = .bool false from hc.v 6 l6 _ rfl) _ (if_neg (by decide) |>.trans (show Act.at b 38 = .bool false from hc.v 17 l17 _ rfl)) ?_
      rw [h1]
      exact hK _ _ (FlatC.step pac_nd (pac_ks kSk kSl) rfl hc 18 (by decide) (Below.refl _ _) (fun u hu => by injection hu with hu; injection hu) (trivial))
  · rintro L b w hL hd hs hf hc
    have hsz2 : pacOps.size = 19 := rfl
    rw [hsz2] at hL
    have e := act_eq (a := A0) (b := b) (pacUs (Act.at b)) hd hs hf (by
      intro p hp
      simp only [pacUs, List.mem_cons, List.not_mem_nil, or_false] at hp
      rcases hp with rfl | rfl | rfl | rfl | rfl | rfl | rfl | rfl | rfl | rfl | rfl | rfl | rfl | rfl | rfl | rfl | rfl | rfl | rfl <;> rfl) (by rw [show (pacUs (Act.at b)).map (·.1) = [21, 22, 23, 24, 25, 26, 27, 28, 29, 30, 31, 32, 33, 34, 35, 36, 37, 38, 39] from rfl]; decide)
    rw [e]
    exact hk (Act.at b) w (hc.v 18 (hL 18 (by omega)) _ rfl) ⟨hc.bel.os, hc.bel.tape, hc.bel.output, hc.bel.size, hc.bel.block⟩
def pmOps : Array Oper := #[{ dst := some 59, op := Op.load 38 (Operand.tmp 1), type := 38, pos := "law.go:300", after := #[], guard := none }, { dst := some 60, op := Op.call { callee := Callee.value (Operand.func 24), args := #[Operand.tmp 59], argTypes := #[38] }, type := 30, pos := "law.go:300", after := #[{ on := 0, ground := Ground.data }], guard := none }, { dst := some 61, op := Op.fieldAddr 38 (Operand.tmp 1) 1, type := 0, pos := "law.go:300", after := #[], guard := none }, { dst := some 62, op := Op.load 3 (Operand.tmp 61), type := 3, pos := "law.go:300", after := #[{ on := 2, ground := Ground.data }], guard := none }, { dst := some 63, op := Op.binOp BinOp.mul 3 (Operand.const (Value.int IntKind.i64 8)) (Operand.tmp 62) 3, type := 3, pos := "law.go:300", after := #[{ on := 3, ground := Ground.data }], guard := none }, { dst := some 64, op := Op.binOp BinOp.sub 3 (Operand.tmp 63) (Operand.const (Value.int IntKind.i64 1)) 3, type := 3, pos := "law.go:300", after := #[{ on := 4, ground := Ground.data }], guard := none }, { dst := some 65, op := Op.binOp BinOp.shr 30 (Operand.tmp 60) (Operand.tmp 64) 3, type := 30, pos := "law.go:300", after := #[{ on := 1, ground := Ground.data }, { on := 5, ground := Ground.data }], guard := none }, { dst := some 66, op := Op.binOp BinOp.eql 30 (Operand.tmp 65) (Operand.const (Value.int IntKind.u64 1)) 30, type := 4, pos := "law.go:300", after := #[{ on := 6, ground := Ground.data }], guard := none }, { dst := some 67, op := Op.move (Operand.tmp 66), type := 4, pos := "law.go:300", after := #[{ on := 7, ground := Ground.data }, { on := 1, ground := Ground.chain }], guard := none }, { dst := some 68, op := Op.load 38 (Operand.tmp 1), type := 38, pos := "law.go:300", after := #[{ on := 8, ground := Ground.guard }], guard := some (8, true) }, { dst := some 69, op := Op.call { callee := Callee.value (Operand.func 24), args := #[Operand.tmp 68], argTypes := #[38] }, type := 30, pos := "law.go:300", after := #[{ on := 9, ground := Ground.data }, { on := 8, ground := Ground.chain }, { on := 8, ground := Ground.guard }], guard := some (8, true) }, { dst := some 70, op := Op.binOp BinOp.add 30 (Operand.tmp 69) (Operand.const (Value.int IntKind.u64 1)) 30, type := 30, pos := "law.go:300", after := #[{ on := 10, ground := Ground.data }, { on := 8, ground := Ground.guard }], guard := some (8, true) }, { dst := some 71, op := Op.fieldAddr 38 (Operand.tmp 1) 1, type := 0, pos := "law.go:300", after := #[{ on := 8, ground := Ground.guard }], guard := some (8, true) }, { dst := some 72, op := Op.load 3 (Operand.tmp 71), type := 3, pos := "law.go:300", after := #[{ on := 12, ground := Ground.data }, { on := 8, ground := Ground.guard }], guard := some (8, true) }, { dst := some 73, op := Op.binOp BinOp.mul 3 (Operand.const (Value.int IntKind.i64 8)) (Operand.tmp 72) 3, type := 3, pos := "law.go:300", after := #[{ on := 13, ground := Ground.data }, { on := 8, ground := Ground.guard }], guard := some (8, true) }, { dst := some 74, op := Op.binOp BinOp.shl 30 (Operand.const (Value.int IntKind.u64 1)) (Operand.tmp 73) 3, type := 30, pos := "law.go:300", after := #[{ on := 14, ground := Ground.data }, { on := 8, ground := Ground.guard }], guard := some (8, true) }, { dst := some 75, op := Op.binOp BinOp.eql 30 (Operand.tmp 70) (Operand.tmp 74) 30, type := 4, pos := "law.go:300", after := #[{ on := 11, ground := Ground.data }, { on := 15, ground := Ground.data }, { on := 8, ground := Ground.guard }], guard := some (8, true) }, { dst := some 76, op := Op.pick (Operand.tmp 67) (Operand.tmp 75) (Operand.const (Value.bool false)), type := 4, pos := "law.go:300", after := #[{ on := 8, ground := Ground.data }, { on := 16, ground := Ground.data }], guard := none }, { dst := some 2, op := Op.assign (Operand.tmp 76), type := 4, pos := "law.go:300", after := #[{ on := 17, ground := Ground.data }, { on := 10, ground := Ground.chain }, { on := 0, ground := Ground.phase }, { on := 1, ground := Ground.phase }, { on := 2, ground := Ground.phase }, { on := 3, ground := Ground.phase }, { on := 4, ground := Ground.phase }, { on := 5, ground := Ground.phase }, { on := 6, ground := Ground.phase }, { on := 7, ground := Ground.phase }, { on := 8, ground := Ground.phase }, { on := 9, ground := Ground.phase }, { on := 10, ground := Ground.phase }, { on := 11, ground := Ground.phase }, { on := 12, ground := Ground.phase }, { on := 13, ground := Ground.phase }, { on := 14, ground := Ground.phase }, { on := 15, ground := Ground.phase }, { on := 16, ground := Ground.phase }, { on := 17, ground := Ground.phase }], guard := none }]
def pmDep : Nat → List Nat := fun i => match i with | 1 => [0] | 3 => [2] | 4 => [3] | 5 => [4] | 6 => [1, 5] | 7 => [6] | 8 => [7] | 9 => [8] | 10 => [8, 9] | 11 => [8, 10] | 12 => [8] | 13 => [8, 12] | 14 => [8, 13] | 15 => [8, 14] | 16 => [8, 11, 15] | 17 => [8, 16] | 18 => [17] | _ => []
def pmSl : List Nat := [59, 60, 61, 62, 63, 64, 65, 66, 67, 68, 69, 70, 71, 72, 73, 74, 75, 76, 2]
def pmVs (g : Nat) (cs : Array Value) (wd : Int) (mo : Int) (e8 : Int) (e7 : Int) (p : Int) : List (Option Value) := [some (.agg cs), some (.int .u64 mo), some (.pointer (some ⟨g, 1, none⟩)), some (.int .i64 wd), some (.int .i64 e8), some (.int .i64 e7), some (.int .u64 1), some (.bool true), some (.bool true), some (.agg cs), some (.int .u64 mo), some (.int .u64 p), some (.pointer (some ⟨g, 1, none⟩)), some (.int .i64 wd), some (.int .i64 e8), some (.int .u64 p), some (.bool true), some (.bool true), some (.bool true)]
def pmSp  (i : Nat) : Value → World → Prop := match i with  | _ => fun _ _ => True
theorem pm_ks   : ∀ i v w w', pmSp  i v w → Below w.heap.size w w' → pmSp  i v w' := by
  intro i v w w' h hb
  unfold pmSp at h ⊢
  split <;> first | trivial
theorem pm_nd : pmSl.Nodup := by decide
def pmUs (f : Nat → Value) : List (Nat × Value) := [(59, f 59), (60, f 60), (61, f 61), (62, f 62), (63, f 63), (64, f 64), (65, f 65), (66, f 66), (67, f 67), (68, f 68), (69, f 69), (70, f 70), (71, f 71), (72, f 72), (73, f 73), (74, f 74), (75, f 75), (76, f 76), (2, f 2)]
set_option maxRecDepth 20000 in
set_option maxHeartbeats 4000000 in
theorem pm_reg {g : Nat} {cs : Array Value} {wd : Int} {mo : Int} {e8 : Int} {e7 : Int} {p : Int}  {W : World} {A0 : Act} {Q : Exit → Act → World → Prop} {id : Nat} (a1 : Act.at A0 1 = .pointer (some ⟨g, 0, none⟩)) (hsz : 80 ≤ A0.tmps.size)  {x : NV} (hG : NBox W g cs x) (hG1 : W.cell? ⟨g, 1, none⟩ = some (.int .i64 wd))
    (HMo : ∀ w, Below W.heap.size W w → Calls Try.prog 24 #[.agg cs] w fun e w' => ∃ v, e = .returned v ∧ v = .int .u64 mo ∧ Below w.heap.size w w')
    (h8 : ∀ w, (binOp .mul 3 (.int .i64 8) (.int .i64 wd)).run Try.prog w = .ok (.int .i64 e8) w) (h7 : ∀ w, (binOp .sub 3 (.int .i64 e8) (.int .i64 1)).run Try.prog w = .ok (.int .i64 e7) w) (hsr : ∀ w, (binOp .shr 30 (.int .u64 mo) (.int .i64 e7)).run Try.prog w = .ok (.int .u64 1) w) (hp : ∀ w, (binOp .add 30 (.int .u64 mo) (.int .u64 1)).run Try.prog w = .ok (.int .u64 p) w) (hl : ∀ w, (binOp .shl 30 (.int .u64 1) (.int .i64 e8)).run Try.prog w = .ok (.int .u64 p) w) (he : ∀ w, (binOp .eql 30 (.int .u64 p) (.int .u64 p)).run Try.prog w = .ok (.bool true) w)
    (hk : ∀ (f : Nat → Value) w', f 2 = .bool true → Below W.heap.size W w' → Q .normal ⟨(pmUs f).foldl (fun A p => A.setIfInBounds p.1 p.2) A0.tmps, A0.defers⟩ w') :
    (Code.region id pmOps true).wp Try.prog Q A0 W := by
  refine wp_region_fun3 (by kernel_rfl) (fun L f w => FlatC W.drew pmSl (pmVs g cs wd mo e8 e7 p) (pmSp ) L f w) [59, 60, 61, 62, 63, 64, 65, 66, 67, 68, 69, 70, 71, 72, 73, 74, 75, 76, 2] (fun i o ho => (wf_ops3 (ops := pmOps) (by kernel_rfl)) i o ho) (fun i o ho u hu => ?_) ?_ ?_ ?_
  · have := ops_dst [59, 60, 61, 62, 63, 64, 65, 66, 67, 68, 69, 70, 71, 72, 73, 74, 75, 76, 2] 80 (by kernel_rfl) i o ho u hu
    exact ⟨this.1, Nat.lt_of_lt_of_le this.2 hsz⟩
  · have hs : pmOps.size = 19 := rfl
    rw [hs]
    exact FlatC.start rfl rfl
  · rintro L i o ho hLi haf b w hf hc K hK
    have hdep := ops_deps pmDep (by kernel_rfl) ho haf
    clear haf
    have hbw : Below W.heap.size W w := ⟨hc.bel.os, hc.bel.tape, hc.bel.output, hc.bel.size, hc.bel.block⟩
    have hs : pmOps.size = 19 := rfl
    have hlt : i < 19 := hs ▸ (Array.getElem?_eq_some_iff.1 ho).1
    have hcases : i = 0 ∨ i = 1 ∨ i = 2 ∨ i = 3 ∨ i = 4 ∨ i = 5 ∨ i = 6 ∨ i = 7 ∨ i = 8 ∨ i = 9 ∨ i = 10 ∨ i = 11 ∨ i = 12 ∨ i = 13 ∨ i = 14 ∨ i = 15 ∨ i = 16 ∨ i = 17 ∨ i = 18 := by omega
    clear hlt
    rcases hcases with rfl | rfl | rfl | rfl | rfl | rfl | rfl | rfl | rfl | rfl | rfl | rfl | rfl | rfl | rfl | rfl | rfl | rfl | rfl
    · have h1 : (pmOps[0]?).map (·.dst) = some (some 59) := by kernel_rfl
      have h2 : (pmOps[0]?).map (·.op) = some (Op.load 38 (Operand.tmp 1)) := by kernel_rfl
      have h3 : (pmOps[0]?).map (·.guard) = some none := by kernel_rfl
      rw [ho] at h1 h2 h3
      replace h1 := Option.some.inj h1
      replace h2 := Option.some.inj h2
      replace h3 := Option.some.inj h3
      simp only at h1 h2 h3
      rw [h1] at hK
      refine ⟨fun _ => ?_, fun hw => by rw [wanted_none h3] at hw; cases hw⟩
      refine wp_load_row 38 (.tmp 1) h2 g ((hf 1 (by decide)).trans a1) 38 cs (0, 0) _ ((hbw.block g hG.lt).trans hG.1) Try.underlying38 rfl hG.size ?_
      rw [h1]
      exact hK _ _ (FlatC.step pm_nd (pm_ks ) rfl hc 0 (by decide) (Below.refl _ _) (fun u hu => by injection hu with hu; injection hu) (trivial))
    · have h1 : (pmOps[1]?).map (·.dst) = some (some 60) := by kernel_rfl
      have h2 : (pmOps[1]?).map (·.op) = some (Op.call { callee := Callee.value (Operand.func 24), args := #[Operand.tmp 59], argTypes := #[38] }) := by kernel_rfl
      have h3 : (pmOps[1]?).map (·.guard) = some none := by kernel_rfl
      rw [ho] at h1 h2 h3
      replace h1 := Option.some.inj h1
      replace h2 := Option.some.inj h2
      replace h3 := Option.some.inj h3
      simp only at h1 h2 h3
      rw [h1] at hK
      have l0 : L 0 = true := hdep 0 (by simp [pmDep])
      refine ⟨fun _ => ?_, fun hw => by rw [wanted_none h3] at hw; cases hw⟩
      refine wp_callG 24 _ _ h2 (enters_of Try.func24 (by kernel_rfl) rfl) #[.agg cs] (by simp [show b.eval (.tmp 59) = _ from (show Act.at b 59 = .agg cs from hc.v 0 l0 _ rfl)]) _ (HMo w hbw) ?_
      rintro v w2 ⟨rfl, hb2⟩
      rw [h1]
      exact hK _ _ (FlatC.step pm_nd (pm_ks ) rfl hc 1 (by decide) (hb2) (fun u hu => by injection hu with hu; injection hu) (trivial))
    · have h1 : (pmOps[2]?).map (·.dst) = some (some 61) := by kernel_rfl
      have h2 : (pmOps[2]?).map (·.op) = some (Op.fieldAddr 38 (Operand.tmp 1) 1) := by kernel_rfl
      have h3 : (pmOps[2]?).map (·.guard) = some none := by kernel_rfl
      rw [ho] at h1 h2 h3
      replace h1 := Option.some.inj h1
      replace h2 := Option.some.inj h2
      replace h3 := Option.some.inj h3
      simp only at h1 h2 h3
      rw [h1] at hK
      refine ⟨fun _ => ?_, fun hw => by rw [wanted_none h3] at hw; cases hw⟩
      refine wp_fieldG _ _ _ h2 _ _ ((hf 1 (by decide)).trans a1) (field_1N g w) ?_
      rw [h1]
      exact hK _ _ (FlatC.step pm_nd (pm_ks ) rfl hc 2 (by decide) (Below.refl _ _) (fun u hu => by injection hu with hu; injection hu) (trivial))
    · have h1 : (pmOps[3]?).map (·.dst) = some (some 62) := by kernel_rfl
      have h2 : (pmOps[3]?).map (·.op) = some (Op.load 3 (Operand.tmp 61)) := by kernel_rfl
      have h3 : (pmOps[3]?).map (·.guard) = some none := by kernel_rfl
      rw [ho] at h1 h2 h3
      replace h1 := Option.some.inj h1
      replace h2 := Option.some.inj h2
      replace h3 := Option.some.inj h3
      simp only at h1 h2 h3
      rw [h1] at hK
      have l2 : L 2 = true := hdep 2 (by simp [pmDep])
      refine ⟨fun _ => ?_, fun hw => by rw [wanted_none h3] at hw; cases hw⟩
      refine wp_loadG _ _ h2 _ _ (show Act.at b 61 = .pointer (some ⟨g, 1, none⟩) from hc.v 2 l2 _ rfl) (load_i ((World.cell?_of_block (w := W) (a := ⟨g, 1, none⟩) (hbw.block g hG.lt)).trans hG1)) ?_
      rw [h1]
      exact hK _ _ (FlatC.step pm_nd (pm_ks ) rfl hc 3 (by decide) (Below.refl _ _) (fun u hu => by injection hu with hu; injection hu) (trivial))
    · have h1 : (pmOps[4]?).map (·.dst) = some (some 63) := by kernel_rfl
      have h2 : (pmOps[4]?).map (·.op) = some (Op.binOp BinOp.mul 3 (Operand.const (Value.int IntKind.i64 8)) (Operand.tmp 62) 3) := by kernel_rfl
      have h3 : (pmOps[4]?).map (·.guard) = some none := by kernel_rfl
      rw [ho] at h1 h2 h3
      replace h1 := Option.some.inj h1
      replace h2 := Option.some.inj h2
      replace h3 := Option.some.inj h3
      simp only at h1 h2 h3
      rw [h1] at hK
      have l3 : L 3 = true := hdep 3 (by simp [pmDep])
      refine ⟨fun _ => ?_, fun hw => by rw [wanted_none h3] at hw; cases hw⟩
      refine wp_binG _ _ _ _ _ h2 _ _ (.int .i64 e8) rfl (show Act.at b 62 = .int .i64 wd from hc.v 3 l3 _ rfl) (by kernel_rfl) (h8 w) ?_
      rw [h1]
      exact hK _ _ (FlatC.step pm_nd (pm_ks ) rfl hc 4 (by decide) (Below.refl _ _) (fun u hu => by injection hu with hu; injection hu) (trivial))
    · have h1 : (pmOps[5]?).map (·.dst) = some (some 64) := by kernel_rfl
      have h2 : (pmOps[5]?).map (·.op) = some (Op.binOp BinOp.sub 3 (Operand.tmp 63) (Operand.const (Value.int IntKind.i64 1)) 3) := by kernel_rfl
      have h3 : (pmOps[5]?).map (·.guard) = some none := by kernel_rfl
      rw [ho] at h1 h2 h3
      replace h1 := Option.some.inj h1
      replace h2 := Option.some.inj h2
      replace h3 := Option.some.inj h3
      simp only at h1 h2 h3
      rw [h1] at hK
      have l4 : L 4 = true := hdep 4 (by simp [pmDep])
      refine ⟨fun _ => ?_, fun hw => by rw [wanted_none h3] at hw; cases hw⟩
      refine wp_binG _ _ _ _ _ h2 _ _ (.int .i64 e7) (show Act.at b 63 = .int .i64 e8 from hc.v 4 l4 _ rfl) rfl (by kernel_rfl) (h7 w) ?_
      rw [h1]
      exact hK _ _ (FlatC.step pm_nd (pm_ks ) rfl hc 5 (by decide) (Below.refl _ _) (fun u hu => by injection hu with hu; injection hu) (trivial))
    · have h1 : (pmOps[6]?).map (·.dst) = some (some 65) := by kernel_rfl
      have h2 : (pmOps[6]?).map (·.op) = some (Op.binOp BinOp.shr 30 (Operand.tmp 60) (Operand.tmp 64) 3) := by kernel_rfl
      have h3 : (pmOps[6]?).map (·.guard) = some none := by kernel_rfl
      rw [ho] at h1 h2 h3
      replace h1 := Option.some.inj h1
      replace h2 := Option.some.inj h2
      replace h3 := Option.some.inj h3
      simp only at h1 h2 h3
      rw [h1] at hK
      have l1 : L 1 = true := hdep 1 (by simp [pmDep])
      have l5 : L 5 = true := hdep 5 (by simp [pmDep])
      refine ⟨fun _ => ?_, fun hw => by rw [wanted_none h3] at hw; cases hw⟩
      refine wp_binG _ _ _ _ _ h2 _ _ (.int .u64 1) (show Act.at b 60 = .int .u64 mo from hc.v 1 l1 _ rfl) (show Act.at b 64 = .int .i64 e7 from hc.v 5 l5 _ rfl) (by kernel_rfl) (hsr w) ?_
      rw [h1]
      exact hK _ _ (FlatC.step pm_nd (pm_ks ) rfl hc 6 (by decide) (Below.refl _ _) (fun u hu => by injection hu with hu; injection hu) (trivial))
    · have h1 : (pmOps[7]?).map (·.dst) = some (some 66) := by kernel_rfl
      have h2 : (pmOps[7]?).map (·.op) = some (Op.binOp BinOp.eql 30 (Operand.tmp 65) (Operand.const (Value.int IntKind.u64 1)) 30) := by kernel_rfl
      have h3 : (pmOps[7]?).map (·.guard) = some none := by kernel_rfl
      rw [ho] at h1 h2 h3
      replace h1 := Option.some.inj h1
      replace h2 := Option.some.inj h2
      replace h3 := Option.some.inj h3
      simp only at h1 h2 h3
      rw [h1] at hK
      have l6 : L 6 = true := hdep 6 (by simp [pmDep])
      refine ⟨fun _ => ?_, fun hw => by rw [wanted_none h3] at hw; cases hw⟩
      refine wp_binG _ _ _ _ _ h2 _ _ (.bool true) (show Act.at b 65 = .int .u64 1 from hc.v 6 l6 _ rfl) rfl (by kernel_rfl) (by kernel_rfl) ?_
      rw [h1]
      exact hK _ _ (FlatC.step pm_nd (pm_ks ) rfl hc 7 (by decide) (Below.refl _ _) (fun u hu => by injection hu with hu; injection hu) (trivial))
    · have h1 : (pmOps[8]?).map (·.dst) = some (some 67) := by kernel_rfl
      have h2 : (pmOps[8]?).map (·.op) = some (Op.move (Operand.tmp 66)) := by kernel_rfl
      have h3 : (pmOps[8]?).map (·.guard) = some none := by kernel_rfl
      rw [ho] at h1 h2 h3
      replace h1 := Option.some.inj h1
      replace h2 := Option.some.inj h2
      replace h3 := Option.some.inj h3
      simp only at h1 h2 h3
      rw [h1] at hK
      have l7 : L 7 = true := hdep 7 (by simp [pmDep])
      refine ⟨fun _ => ?_, fun hw => by rw [wanted_none h3] at hw; cases hw⟩
      refine wp_moveG _ h2 _ (show Act.at b 66 = .bool true from hc.v 7 l7 _ rfl) ?_
      rw [h1]
      exact hK _ _ (FlatC.step pm_nd (pm_ks ) rfl hc 8 (by decide) (Below.refl _ _) (fun u hu => by injection hu with hu; injection hu) (trivial))
    · have h1 : (pmOps[9]?).map (·.dst) = some (some 68) := by kernel_rfl
      have h2 : (pmOps[9]?).map (·.op) = some (Op.load 38 (Operand.tmp 1)) := by kernel_rfl
      have h3 : (pmOps[9]?).map (·.guard) = some (some (8, true)) := by kernel_rfl
      rw [ho] at h1 h2 h3
      replace h1 := Option.some.inj h1
      replace h2 := Option.some.inj h2
      replace h3 := Option.some.inj h3
      simp only at h1 h2 h3
      rw [h1] at hK
      have l8 : L 8 = true := hdep 8 (by simp [pmDep])
      have hw := wanted_of (ops := pmOps) (b := b) h3 (d := 67) (by kernel_rfl) (show Act.at b 67 = .bool true from hc.v 8 l8 _ rfl)
      rw [hw]
      refine ⟨fun _ => ?_, fun hq => absurd hq (by decide)⟩
      refine wp_load_row 38 (.tmp 1) h2 g ((hf 1 (by decide)).trans a1) 38 cs (0, 0) _ ((hbw.block g hG.lt).trans hG.1) Try.underlying38 rfl hG.size ?_
      rw [h1]
      exact hK _ _ (FlatC.step pm_nd (pm_ks ) rfl hc 9 (by decide) (Below.refl _ _) (fun u hu => by injection hu with hu; injection hu) (trivial))
    · have h1 : (pmOps[10]?).map (·.dst) = some (some 69) := by kernel_rfl
      have h2 : (pmOps[10]?).map (·.op) = some (Op.call { callee := Callee.value (Operand.func 24), args := #[Operand.tmp 68], argTypes := #[38] }) := by kernel_rfl
      have h3 : (pmOps[10]?).map (·.guard) = some (some (8, true)) := by kernel_rfl
      rw [ho] at h1 h2 h3
      replace h1 := Option.some.inj h1
      replace h2 := Option.some.inj h2
      replace h3 := Option.some.inj h3
      simp only at h1 h2 h3
      rw [h1] at hK
      have l8 : L 8 = true := hdep 8 (by simp [pmDep])
      have l9 : L 9 = true := hdep 9 (by simp [pmDep])
      have hw := wanted_of (ops := pmOps) (b := b) h3 (d := 67) (by kernel_rfl) (show Act.at b 67 = .bool true from hc.v 8 l8 _ rfl)
      rw [hw]
      refine ⟨fun _ => ?_, fun hq => absurd hq (by decide)⟩
      refine wp_callG 24 _ _ h2 (enters_of Try.func24 (by kernel_rfl) rfl) #[.agg cs] (by simp [show b.eval (.tmp 68) = _ from (show Act.at b 68 = .agg cs from hc.v 9 l9 _ rfl)]) _ (HMo w hbw) ?_
      rintro v w2 ⟨rfl, hb2⟩
      rw [h1]
      exact hK _ _ (FlatC.step pm_nd (pm_ks ) rfl hc 10 (by decide) (hb2) (fun u hu => by injection hu with hu; injection hu) (trivial))
    · have h1 : (pmOps[11]?).map (·.dst) = some (some 70) := by kernel_rfl
      have h2 : (pmOps[11]?).map (·.op) = some (Op.binOp BinOp.add 30 (Operand.tmp 69) (Operand.const (Value.int IntKind.u64 1)) 30) := by kernel_rfl
      have h3 : (pmOps[11]?).map (·.guard) = some (some (8, true)) := by kernel_rfl
      rw [ho] at h1 h2 h3
      replace h1 := Option.some.inj h1
      replace h2 := Option.some.inj h2
      replace h3 := Option.some.inj h3
      simp only at h1 h2 h3
      rw [h1] at hK
      have l8 : L 8 = true := hdep 8 (by simp [pmDep])
      have l10 : L 10 = true := hdep 10 (by simp [pmDep])
      have hw := wanted_of (ops := pmOps) (b := b) h3 (d := 67) (by kernel_rfl) (show Act.at b 67 = .bool true from hc.v 8 l8 _ rfl)
      rw [hw]
      refine ⟨fun _ => ?_, fun hq => absurd hq (by decide)⟩
      refine wp_binG _ _ _ _ _ h2 _ _ (.int .u64 p) (show Act.at b 69 = .int .u64 mo from hc.v 10 l10 _ rfl) rfl (by kernel_rfl) (hp w) ?_
      rw [h1]
      exact hK _ _ (FlatC.step pm_nd (pm_ks ) rfl hc 11 (by decide) (Below.refl _ _) (fun u hu => by injection hu with hu; injection hu) (trivial))
    · have h1 : (pmOps[12]?).map (·.dst) = some (some 71) := by kernel_rfl
      have h2 : (pmOps[12]?).map (·.op) = some (Op.fieldAddr 38 (Operand.tmp 1) 1) := by kernel_rfl
      have h3 : (pmOps[12]?).map (·.guard) = some (some (8, true)) := by kernel_rfl
      rw [ho] at h1 h2 h3
      replace h1 := Option.some.inj h1
      replace h2 := Option.some.inj h2
      replace h3 := Option.some.inj h3
      simp only at h1 h2 h3
      rw [h1] at hK
      have l8 : L 8 = true := hdep 8 (by simp [pmDep])
      have hw := wanted_of (ops := pmOps) (b := b) h3 (d := 67) (by kernel_rfl) (show Act.at b 67 = .bool true from hc.v 8 l8 _ rfl)
      rw [hw]
      refine ⟨fun _ => ?_, fun hq => absurd hq (by decide)⟩
      refine wp_fieldG _ _ _ h2 _ _ ((hf 1 (by decide)).trans a1) (field_1N g w) ?_
      rw [h1]
      exact hK _ _ (FlatC.step pm_nd (pm_ks ) rfl hc 12 (by decide) (Below.refl _ _) (fun u hu => by injection hu with hu; injection hu) (trivial))
    · have h1 : (pmOps[13]?).map (·.dst) = some (some 72) := by kernel_rfl
      have h2 : (pmOps[13]?).map (·.op) = some (Op.load 3 (Operand.tmp 71)) := by kernel_rfl
      have h3 : (pmOps[13]?).map (·.guard) = some (some (8, true)) := by kernel_rfl
      rw [ho] at h1 h2 h3
      replace h1 := Option.some.inj h1
      replace h2 := Option.some.inj h2
      replace h3 := Option.some.inj h3
      simp only at h1 h2 h3
      rw [h1] at hK
      have l8 : L 8 = true := hdep 8 (by simp [pmDep])
      have l12 : L 12 = true := hdep 12 (by simp [pmDep])
      have hw := wanted_of (ops := pmOps) (b := b) h3 (d := 67) (by kernel_rfl) (show Act.at b 67 = .bool true from hc.v 8 l8 _ rfl)
      rw [hw]
      refine ⟨fun _ => ?_, fun hq => absurd hq (by decide)⟩
      refine wp_loadG _ _ h2 _ _ (show Act.at b 71 = .pointer (some ⟨g, 1, none⟩) from hc.v 12 l12 _ rfl) (load_i ((World.cell?_of_block (w := W) (a := ⟨g, 1, none⟩) (hbw.block g hG.lt)).trans hG1)) ?_
      rw [h1]
      exact hK _ _ (FlatC.step pm_nd (pm_ks ) rfl hc 13 (by decide) (Below.refl _ _) (fun u hu => by injection hu with hu; injection hu) (trivial))
    · have h1 : (pmOps[14]?).map (·.dst) = some (some 73) := by kernel_rfl
      have h2 : (pmOps[14]?).map (·.op) = some (Op.binOp BinOp.mul 3 (Operand.const (Value.int IntKind.i64 8)) (Operand.tmp 72) 3) := by kernel_rfl
      have h3 : (pmOps[14]?).map (·.guard) = some (some (8, true)) := by kernel_rfl
      rw [ho] at h1 h2 h3
      replace h1 := Option.some.inj h1
      replace h2 := Option.some.inj h2
      replace h3 := Option.some.inj h3
      simp only at h1 h2 h3
      rw [h1] at hK
      have l8 : L 8 = true := hdep 8 (by simp [pmDep])
      have l13 : L 13 = true := hdep 13 (by simp [pmDep])
      have hw := wanted_of (ops := pmOps) (b := b) h3 (d := 67) (by kernel_rfl) (show Act.at b 67 = .bool true from hc.v 8 l8 _ rfl)
      rw [hw]
      refine ⟨fun _ => ?_, fun hq => absurd hq (by decide)⟩
      refine wp_binG _ _ _ _ _ h2 _ _ (.int .i64 e8) rfl (show Act.at b 72 = .int .i64 wd from hc.v 13 l13 _ rfl) (by kernel_rfl) (h8 w) ?_
      rw [h1]
      exact hK _ _ (FlatC.step pm_nd (pm_ks ) rfl hc 14 (by decide) (Below.refl _ _) (fun u hu => by injection hu with hu; injection hu) (trivial))
    · have h1 : (pmOps[15]?).map (·.dst) = some (some 74) := by kernel_rfl
      have h2 : (pmOps[15]?).map (·.op) = some (Op.binOp BinOp.shl 30 (Operand.const (Value.int IntKind.u64 1)) (Operand.tmp 73) 3) := by kernel_rfl
      have h3 : (pmOps[15]?).map (·.guard) = some (some (8, true)) := by kernel_rfl
      rw [ho] at h1 h2 h3
      replace h1 := Option.some.inj h1
      replace h2 := Option.some.inj h2
      replace h3 := Option.some.inj h3
      simp only at h1 h2 h3
      rw [h1] at hK
      have l8 : L 8 = true := hdep 8 (by simp [pmDep])
      have l14 : L 14 = true := hdep 14 (by simp [pmDep])
      have hw := wanted_of (ops := pmOps) (b := b) h3 (d := 67) (by kernel_rfl) (show Act.at b 67 = .bool true from hc.v 8 l8 _ rfl)
      rw [hw]
      refine ⟨fun _ => ?_, fun hq => absurd hq (by decide)⟩
      refine wp_binG _ _ _ _ _ h2 _ _ (.int .u64 p) rfl (show Act.at b 73 = .int .i64 e8 from hc.v 14 l14 _ rfl) (by kernel_rfl) (hl w) ?_
      rw [h1]
      exact hK _ _ (FlatC.step pm_nd (pm_ks ) rfl hc 15 (by decide) (Below.refl _ _) (fun u hu => by injection hu with hu; injection hu) (trivial))
    · have h1 : (pmOps[16]?).map (·.dst) = some (some 75) := by kernel_rfl
      have h2 : (pmOps[16]?).map (·.op) = some (Op.binOp BinOp.eql 30 (Operand.tmp 70) (Operand.tmp 74) 30) := by kernel_rfl
      have h3 : (pmOps[16]?).map (·.guard) = some (some (8, true)) := by kernel_rfl
      rw [ho] at h1 h2 h3
      replace h1 := Option.some.inj h1
      replace h2 := Option.some.inj h2
      replace h3 := Option.some.inj h3
      simp only at h1 h2 h3
      rw [h1] at hK
      have l8 : L 8 = true := hdep 8 (by simp [pmDep])
      have l11 : L 11 = true := hdep 11 (by simp [pmDep])
      have l15 : L 15 = true := hdep 15 (by simp [pmDep])
      have hw := wanted_of (ops := pmOps) (b := b) h3 (d := 67) (by kernel_rfl) (show Act.at b 67 = .bool true from hc.v 8 l8 _ rfl)
      rw [hw]
      refine ⟨fun _ => ?_, fun hq => absurd hq (by decide)⟩
      refine wp_binG _ _ _ _ _ h2 _ _ (.bool true) (show Act.at b 70 = .int .u64 p from hc.v 11 l11 _ rfl) (show Act.at b 74 = .int .u64 p from hc.v 15 l15 _ rfl) (by kernel_rfl) (he w) ?_
      rw [h1]
      exact hK _ _ (FlatC.step pm_nd (pm_ks ) rfl hc 16 (by decide) (Below.refl _ _) (fun u hu => by injection hu with hu; injection hu) (trivial))
    · have h1 : (pmOps[17]?).map (·.dst) = some (some 76) := by kernel_rfl
      have h2 : (pmOps[17]?).map (·.op) = some (Op.pick (Operand.tmp 67) (Operand.tmp 75) (Operand.const (Value.bool false))) := by kernel_rfl
      have h3 : (pmOps[17]?).map (·.guard) = some none := by kernel_rfl
      rw [ho] at h1 h2 h3
      replace h1 := Option.some.inj h1
      replace h2 := Option.some.inj h2
      replace h3 := Option.some.inj h3
      simp only at h1 h2 h3
      rw [h1] at hK
      have l8 : L 8 = true := hdep 8 (by simp [pmDep])
      have l16 : L 16 = true := hdep 16 (by simp [pmDep])
      refine ⟨fun _ => ?_, fun hw => by rw [wanted_none h3] at hw; cases hw⟩
      refine wp_pickG _ _ _ h2 true (show Act.at b 67 = .bool true from hc.v 8 l8 _ rfl) _ (if_pos rfl |>.trans (show Act.at b 75 = .bool true from hc.v 16 l16 _ rfl)) ?_
      rw [h1]
      exact hK _ _ (FlatC.step pm_nd (pm_ks ) rfl hc 17 (by decide) (Below.refl _ _) (fun u hu => by injection hu with hu; injection hu) (trivial))
    · have h1 : (pmOps[18]?).map (·.dst) = some (some 2) := by kernel_rfl
      have h2 : (pmOps[18]?).map (·.op) = some (Op.assign (Operand.tmp 76)) := by kernel_rfl
      have h3 : (pmOps[18]?).map (·.guard) = some none := by kernel_rfl
      rw [ho] at h1 h2 h3
      replace h1 := Option.some.inj h1
      replace h2 := Option.some.inj h2
      replace h3 := Option.some.inj h3
      simp only at h1 h2 h3
      rw [h1] at hK
      have l17 : L 17 = true := hdep 17 (by simp [pmDep])
      refine ⟨fun _ => ?_, fun hw => by rw [wanted_none h3] at hw; cases hw⟩
      refine wp_assignG _ h2 _ (show Act.at b 76 = .bool true from hc.v 17 l17 _ rfl) ?_
      rw [h1]
      exact hK _ _ (FlatC.step pm_nd (pm_ks ) rfl hc 18 (by decide) (Below.refl _ _) (fun u hu => by injection hu with hu; injection hu) (trivial))
  · rintro L b w hL hd hs hf hc
    have hsz2 : pmOps.size = 19 := rfl
    rw [hsz2] at hL
    have e := act_eq (a := A0) (b := b) (pmUs (Act.at b)) hd hs hf (by
      intro p hp
      simp only [pmUs, List.mem_cons, List.not_mem_nil, or_false] at hp
      rcases hp with rfl | rfl | rfl | rfl | rfl | rfl | rfl | rfl | rfl | rfl | rfl | rfl | rfl | rfl | rfl | rfl | rfl | rfl | rfl <;> rfl) (by rw [show (pmUs (Act.at b)).map (·.1) = [59, 60, 61, 62, 63, 64, 65, 66, 67, 68, 69, 70, 71, 72, 73, 74, 75, 76, 2] from rfl]; decide)
    rw [e]
    exact hk (Act.at b) w (hc.v 18 (hL 18 (by omega)) _ rfl) ⟨hc.bel.os, hc.bel.tape, hc.bel.output, hc.bel.size, hc.bel.block⟩
end Go.Proofs.Ytbhfkgaenahchaa
