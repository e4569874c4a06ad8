/- A step of a region, by what its operation yields. -/
import Derived.Test.YtimffgmbchpfeaaInv
import Derived.Great.BuildSlice
import Derived.Test.YtimffgmbchpfeaaNfK
namespace Go.Proofs.Ytimffgmbchpfeaa
set_option linter.unusedSimpArgs false
set_option linter.unusedVariables false
open Go.RowKit
section
variable {P : Program} {o : Oper} {a : Act} {w w' : World} {K : Act → World → Prop} {Q : Exit → Act → World → Prop} {v : Value}
theorem wp_v (S : Sem Value) (he : execOp a.eval o = (do pure (.value (← S)))) (hr : S.run P w = .ok v w') (h : K (a.put o.dst v) w') : o.wp P a w K Q := by
  unfold Oper.wp
  have e : (execOp a.eval o).run P w = .ok (.value v) w' := by
    rw [he]
    simp [hr]
  rw [e]
  exact h
theorem wp_sliceHiG (t : TypeId) (x y : Operand) (ho : o.op = .slice t x none (some y) none) (u i : Value) (hx : a.eval x = u) (hy : a.eval y = i) (hr : (Instr.sliceAt t u none (some i) none).run P w = .ok v w') (h : K (a.put o.dst v) w') : o.wp P a w K Q :=
  wp_v _ (by unfold execOp; simp only [ho, hx, hy, Option.map]) hr h
theorem wp_sliceLoG (t : TypeId) (x y : Operand) (ho : o.op = .slice t x (some y) none none) (u i : Value) (hx : a.eval x = u) (hy : a.eval y = i) (hr : (Instr.sliceAt t u (some i) none none).run P w = .ok v w') (h : K (a.put o.dst v) w') : o.wp P a w K Q :=
  wp_v _ (by unfold execOp; simp only [ho, hx, hy, Option.map]) hr h
theorem wp_indexAddrG (t : TypeId) (x y : Operand) (ho : o.op = .indexAddr t x y) (u i : Value) (hx : a.eval x = u) (hy : a.eval y = i) (hr : (Instr.indexAt t u i).run P w = .ok v w') (h : K (a.put o.dst v) w') : o.wp P a w K Q :=
  wp_v _ (by unfold execOp; simp only [ho, hx, hy]) hr h
theorem wp_indexG (t : TypeId) (x y : Operand) (ho : o.op = .index t x y) (u i : Value) (hx : a.eval x = u) (hy : a.eval y = i) (hr : (Instr.index t u i).run P w = .ok v w') (h : K (a.put o.dst v) w') : o.wp P a w K Q :=
  wp_v _ (by unfold execOp; simp only [ho, hx, hy]) hr h
theorem wp_convertG (t s : TypeId) (x : Operand) (ho : o.op = .convert t s x) (u : Value) (hx : a.eval x = u) (hr : (convert t s u).run P w = .ok v w') (h : K (a.put o.dst v) w') : o.wp P a w K Q :=
  wp_v _ (by unfold execOp; simp only [ho, hx]) hr h
theorem wp_allocG (t : TypeId) (ho : o.op = .alloc t) (hr : (Instr.alloc t true (.tuple #[])).run P w = .ok v w') (h : K (a.put o.dst v) w') : o.wp P a w K Q :=
  wp_v _ (by unfold execOp; simp only [ho]) hr h
theorem wp_boxG (t : TypeId) (x : Operand) (ho : o.op = .box t x) (u : Value) (hx : a.eval x = u) (hr : (Instr.box t u).run P w = .ok v w') (h : K (a.put o.dst v) w') : o.wp P a w K Q :=
  wp_v _ (by unfold execOp; simp only [ho, hx]) hr h
theorem wp_bslice0G (t : TypeId) (n : Nat) (ho : o.op = .buildSlice t n #[]) (hr : (Instr.buildSlice t n #[]).run P w = .ok v w') (h : K (a.put o.dst v) w') : o.wp P a w K Q :=
  wp_v _ (by unfold execOp; simp only [ho, List.map_toArray, List.map_nil]) hr h
theorem wp_bslice1G (t : TypeId) (n i1 : Nat) (x1 : Operand) (ho : o.op = .buildSlice t n #[(i1, x1)]) (u1 : Value) (hx1 : a.eval x1 = u1) (hr : (Instr.buildSlice t n #[(i1, u1)]).run P w = .ok v w') (h : K (a.put o.dst v) w') : o.wp P a w K Q :=
  wp_v _ (by unfold execOp; simp only [ho, List.map_toArray, List.map_cons, List.map_nil, hx1]) hr h
theorem wp_bslice2G (t : TypeId) (n i1 i2 : Nat) (x1 x2 : Operand) (ho : o.op = .buildSlice t n #[(i1, x1), (i2, x2)]) (u1 u2 : Value) (hx1 : a.eval x1 = u1) (hx2 : a.eval x2 = u2) (hr : (Instr.buildSlice t n #[(i1, u1), (i2, u2)]).run P w = .ok v w') (h : K (a.put o.dst v) w') : o.wp P a w K Q :=
  wp_v _ (by unfold execOp; simp only [ho, List.map_toArray, List.map_cons, List.map_nil, hx1, hx2]) hr h
theorem wp_unGB (t : TypeId) (x : Operand) (op : UnOp) (ho : o.op = .unOp op t x) (u : Value) (hx : a.eval x = u) (hr : (Op.unary op u).run P w = .ok v w') (h : K (a.put o.dst v) w') : o.wp P a w K Q :=
  wp_v _ (by unfold execOp; simp only [ho, hx]) hr h
end
end Go.Proofs.Ytimffgmbchpfeaa

/- nfa: NfaSteps, its regions in open order. -/
namespace Go.Proofs.Ytimffgmbchpfeaa
set_option linter.unusedSimpArgs false
set_option linter.unusedVariables false
open Go.RowKit

def st12Ops : Array Oper := #[{ dst := some 32, op := Op.move (Operand.tmp 8), type := 37, pos := "law.go:68", after := #[], guard := none }, { dst := some 33, op := Op.call { callee := Callee.value (Operand.func 9), args := #[Operand.tmp 32], argTypes := #[37] }, type := 4, pos := "law.go:68", after := #[{ on := 0, ground := Ground.data }], guard := none }, { dst := some 34, op := Op.unOp UnOp.not 4 (Operand.tmp 33), type := 4, pos := "law.go:68", after := #[{ on := 1, ground := Ground.data }], guard := none }, { dst := some 35, op := Op.move (Operand.tmp 34), type := 4, pos := "law.go:68", after := #[{ on := 2, ground := Ground.data }, { on := 1, ground := Ground.chain }], guard := none }, { dst := some 36, op := Op.load 33 (Operand.tmp 6), type := 33, pos := "law.go:68", after := #[{ on := 3, ground := Ground.guard }], guard := some (3, false) }, { dst := some 37, op := Op.move (Operand.tmp 8), type := 37, pos := "law.go:68", after := #[{ on := 3, ground := Ground.guard }], guard := some (3, false) }, { dst := some 38, op := Op.call { callee := Callee.value (Operand.func 10), args := #[Operand.tmp 36, Operand.tmp 37], argTypes := #[33, 37] }, type := 4, pos := "law.go:68", after := #[{ on := 4, ground := Ground.data }, { on := 5, ground := Ground.data }, { on := 3, ground := Ground.chain }, { on := 3, ground := Ground.guard }], guard := some (3, false) }, { dst := some 39, op := Op.load 33 (Operand.tmp 6), type := 33, pos := "law.go:68", after := #[{ on := 3, ground := Ground.guard }], guard := some (3, false) }, { dst := some 40, op := Op.move (Operand.tmp 1), type := 27, pos := "law.go:68", after := #[{ on := 3, ground := Ground.guard }], guard := some (3, false) }, { dst := some 41, op := Op.move (Operand.tmp 9), type := 3, pos := "law.go:68", after := #[{ on := 3, ground := Ground.guard }], guard := some (3, false) }, { dst := some 42, op := Op.slice 27 (Operand.tmp 40) none (some (Operand.tmp 41)) none, type := 27, pos := "law.go:68", after := #[{ on := 8, ground := Ground.data }, { on := 9, ground := Ground.data }, { on := 3, ground := Ground.guard }], guard := some (3, false) }, { dst := some 43, op := Op.call { callee := Callee.value (Operand.func 11), args := #[Operand.tmp 39, Operand.tmp 42], argTypes := #[33, 27] }, type := 4, pos := "law.go:68", after := #[{ on := 7, ground := Ground.data }, { on := 10, ground := Ground.data }, { on := 6, ground := Ground.chain }, { on := 3, ground := Ground.guard }], guard := some (3, false) }, { dst := some 44, op := Op.binOp BinOp.neq 4 (Operand.tmp 38) (Operand.tmp 43) 4, type := 4, pos := "law.go:68", after := #[{ on := 6, ground := Ground.data }, { on := 11, ground := Ground.data }, { on := 3, ground := Ground.guard }], guard := some (3, false) }, { dst := some 45, op := Op.pick (Operand.tmp 35) (Operand.const (Value.bool true)) (Operand.tmp 44), type := 4, pos := "law.go:68", after := #[{ on := 3, ground := Ground.data }, { on := 12, ground := Ground.data }], guard := none }, { dst := some 46, op := Op.move (Operand.tmp 45), type := 4, pos := "law.go:68", after := #[{ on := 13, ground := Ground.data }, { on := 11, ground := Ground.chain }], guard := none }, { dst := some 47, op := Op.load 33 (Operand.tmp 6), type := 33, pos := "law.go:68", after := #[{ on := 14, ground := Ground.guard }], guard := some (14, false) }, { dst := some 48, op := Op.move (Operand.tmp 8), type := 37, pos := "law.go:68", after := #[{ on := 14, ground := Ground.guard }], guard := some (14, false) }, { dst := some 49, op := Op.call { callee := Callee.value (Operand.func 13), args := #[Operand.tmp 47, Operand.tmp 48], argTypes := #[33, 37] }, type := 37, pos := "law.go:68", after := #[{ on := 15, ground := Ground.data }, { on := 16, ground := Ground.data }, { on := 14, ground := Ground.chain }, { on := 14, ground := Ground.guard }], guard := some (14, false) }, { dst := some 50, op := Op.move (Operand.tmp 8), type := 37, pos := "law.go:68", after := #[{ on := 14, ground := Ground.guard }], guard := some (14, false) }, { dst := some 51, op := Op.call { callee := Callee.value (Operand.func 12), args := #[Operand.tmp 49, Operand.tmp 50], argTypes := #[37, 37] }, type := 4, pos := "law.go:68", after := #[{ on := 17, ground := Ground.data }, { on := 18, ground := Ground.data }, { on := 17, ground := Ground.chain }, { on := 14, ground := Ground.guard }], guard := some (14, false) }, { dst := some 52, op := Op.unOp UnOp.not 4 (Operand.tmp 51), type := 4, pos := "law.go:68", after := #[{ on := 19, ground := Ground.data }, { on := 14, ground := Ground.guard }], guard := some (14, false) }, { dst := some 53, op := Op.pick (Operand.tmp 46) (Operand.const (Value.bool true)) (Operand.tmp 52), type := 4, pos := "law.go:68", after := #[{ on := 14, ground := Ground.data }, { on := 20, ground := Ground.data }], guard := none }]
def st12Dep : Nat → List Nat := fun i => match i with | 1 => [0] | 2 => [1] | 3 => [2] | 4 => [3] | 5 => [3] | 6 => [3, 4, 5] | 7 => [3] | 8 => [3] | 9 => [3] | 10 => [3, 8, 9] | 11 => [3, 7, 10] | 12 => [3, 6, 11] | 13 => [3, 12] | 14 => [13] | 15 => [14] | 16 => [14] | 17 => [14, 15, 16] | 18 => [14] | 19 => [14, 17, 18] | 20 => [14, 19] | 21 => [14, 20] | _ => []
def st12Sl : List Nat := [32, 33, 34, 35, 36, 37, 38, 39, 40, 41, 42, 43, 44, 45, 46, 47, 48, 49, 50, 51, 52, 53]
def st12Vs (g6 : Nat) (L1 : Nat) (A1 : Option Addr) (c1 : Nat) (q1 : Int) (LA : Option Addr) (n : Nat) (lc : Nat) (BA : Option Addr) (bn : Nat) (bc : Nat) (i : Nat) (eb : Bool) : List (Option Value) := [some (.slice LA n lc), some (.bool true), some (.bool false), some (.bool false), some (.agg #[.slice A1 L1 c1, .int .i64 q1]), some (.slice LA n lc), some (.bool eb), some (.agg #[.slice A1 L1 c1, .int .i64 q1]), some (.slice BA bn bc), some (.int .i64 (i : Int)), some (.slice BA i bc), some (.bool eb), some (.bool false), some (.bool false), some (.bool false), some (.agg #[.slice A1 L1 c1, .int .i64 q1]), some (.slice LA n lc), none, some (.slice LA n lc), some (.bool true), some (.bool false), some (.bool false)]
def st12Sp (R : Value → World → Prop) (i : Nat) : Value → World → Prop := match i with | 17 => R | _ => fun _ _ => True
theorem st12_ks {R : Value → World → Prop} (kR : ∀ v w w', R v w → Below w.heap.size w w' → R v w') : ∀ i v w w', st12Sp R i v w → Below w.heap.size w w' → st12Sp R i v w' := by
  intro i v w w' h hb
  unfold st12Sp at h ⊢
  split <;> first | trivial | exact kR _ _ _ h hb
theorem st12_nd : st12Sl.Nodup := by decide
def st12Us (f : Nat → Value) : List (Nat × Value) := [(32, f 32), (33, f 33), (34, f 34), (35, f 35), (36, f 36), (37, f 37), (38, f 38), (39, f 39), (40, f 40), (41, f 41), (42, f 42), (43, f 43), (44, f 44), (45, f 45), (46, f 46), (47, f 47), (48, f 48), (49, f 49), (50, f 50), (51, f 51), (52, f 52), (53, f 53)]
set_option maxRecDepth 20000 in
set_option maxHeartbeats 4000000 in
theorem st12_reg {g6 : Nat} {L1 : Nat} {A1 : Option Addr} {c1 : Nat} {q1 : Int} {LA : Option Addr} {n : Nat} {lc : Nat} {BA : Option Addr} {bn : Nat} {bc : Nat} {i : Nat} {eb : Bool} {R : Value → World → Prop} {W : World} {A0 : Act} {Q : Exit → Act → World → Prop} {id : Nat} (a6 : Act.at A0 6 = .pointer (some ⟨g6, 0, none⟩)) (a8 : Act.at A0 8 = .slice LA n lc) (a1 : Act.at A0 1 = .slice BA bn bc) (a9 : Act.at A0 9 = .int .i64 (i : Int)) (hsz : 110 ≤ A0.tmps.size) (kR : ∀ v w w', R v w → Below w.heap.size w w' → R v w') (HC1 : ∀ w, Below W.heap.size W w → Calls Try.prog 9 #[.slice LA n lc] w fun e w' => ∃ v, e = .returned v ∧ v = .bool true ∧ Below w.heap.size w w') (HGg6 : Blk W g6 33 [.slice A1 L1 c1, .int .i64 q1]) (HC6 : ∀ w, Below W.heap.size W w → Calls Try.prog 10 #[.agg #[.slice A1 L1 c1, .int .i64 q1], .slice LA n lc] w fun e w' => ∃ v, e = .returned v ∧ v = .bool eb ∧ Below w.heap.size w w') (HV10 : ∀ w, (Instr.sliceAt 27 (.slice BA bn bc) none (some (.int .i64 (i : Int))) none).run Try.prog w = .ok (.slice BA i bc) w) (HC11 : ∀ w, Below W.heap.size W w → Calls Try.prog 11 #[.agg #[.slice A1 L1 c1, .int .i64 q1], .slice BA i bc] w fun e w' => ∃ v, e = .returned v ∧ v = .bool eb ∧ Below w.heap.size w w') (HB12 : ∀ w, (binOp .neq 4 (.bool eb) (.bool eb)).run Try.prog w = .ok (.bool false) w) (HC17 : ∀ w, Below W.heap.size W w → Calls Try.prog 13 #[.agg #[.slice A1 L1 c1, .int .i64 q1], .slice LA n lc] w fun e w' => ∃ v, e = .returned v ∧ R v w' ∧ Below w.heap.size w w') (HC19 : ∀ w u17, Below W.heap.size W w → R u17 w → Calls Try.prog 12 #[u17, .slice LA n lc] w fun e w' => ∃ v, e = .returned v ∧ v = .bool true ∧ Below w.heap.size w w') 
    (hk : ∀ (f : Nat → Value) w', f 53 = .bool false → Below W.heap.size W w' → Q .normal ⟨(st12Us f).foldl (fun A p => A.setIfInBounds p.1 p.2) A0.tmps, A0.defers⟩ w') :
    (Code.region id st12Ops true).wp Try.prog Q A0 W := by
  refine wp_region_fun3 (by kernel_rfl) (fun L f w => FlatC W.drew st12Sl (st12Vs g6 L1 A1 c1 q1 LA n lc BA bn bc i eb) (st12Sp R) L f w) [32, 33, 34, 35, 36, 37, 38, 39, 40, 41, 42, 43, 44, 45, 46, 47, 48, 49, 50, 51, 52, 53] (fun i o ho => (wf_ops3 (ops := st12Ops) (by kernel_rfl)) i o ho) (fun i o ho u hu => ?_) ?_ ?_ ?_
  · have := ops_dst [32, 33, 34, 35, 36, 37, 38, 39, 40, 41, 42, 43, 44, 45, 46, 47, 48, 49, 50, 51, 52, 53] 110 (by kernel_rfl) i o ho u hu
    exact ⟨this.1, Nat.lt_of_lt_of_le this.2 hsz⟩
  · have hs : st12Ops.size = 22 := rfl
    rw [hs]
    exact FlatC.start rfl rfl
  · rintro L i o ho hLi haf b w hf hc K hK
    have hdep := ops_deps st12Dep (by kernel_rfl) ho haf
    clear haf
    have hbw : Below W.heap.size W w := ⟨hc.bel.os, hc.bel.tape, hc.bel.output, hc.bel.size, hc.bel.block⟩
    have hs : st12Ops.size = 22 := rfl
    have hlt : i < 22 := hs ▸ (Array.getElem?_eq_some_iff.1 ho).1
    have hcases : i = 0 ∨ i = 1 ∨ i = 2 ∨ i = 3 ∨ i = 4 ∨ i = 5 ∨ i = 6 ∨ i = 7 ∨ i = 8 ∨ i = 9 ∨ i = 10 ∨ i = 11 ∨ i = 12 ∨ i = 13 ∨ i = 14 ∨ i = 15 ∨ i = 16 ∨ i = 17 ∨ i = 18 ∨ i = 19 ∨ i = 20 ∨ i = 21 := by omega
    clear hlt
    rcases hcases with rfl | rfl | rfl | rfl | rfl | rfl | rfl | rfl | rfl | rfl | rfl | rfl | rfl | rfl | rfl | rfl | rfl | rfl | rfl | rfl | rfl | rfl
    · have h1 : (st12Ops[0]?).map (·.dst) = some (some 32) := by kernel_rfl
      have h2 : (st12Ops[0]?).map (·.op) = some (Op.move (Operand.tmp 8)) := by kernel_rfl
      have h3 : (st12Ops[0]?).map (·.guard) = some none := by kernel_rfl
      rw [ho] at h1 h2 h3
      replace h1 := Option.some.inj h1
      replace h2 := Option.some.inj h2
      replace h3 := Option.some.inj h3
      simp only at h1 h2 h3
      rw [h1] at hK
      refine ⟨fun _ => ?_, fun hw => by rw [wanted_none h3] at hw; cases hw⟩
      refine wp_moveG _ h2 _ ((hf 8 (by decide)).trans a8) ?_
      rw [h1]
      exact hK _ _ (FlatC.step st12_nd (st12_ks kR) rfl hc 0 (by decide) (Below.refl _ _) (fun u hu => by injection hu with hu; injection hu) (trivial))
    · have h1 : (st12Ops[1]?).map (·.dst) = some (some 33) := by kernel_rfl
      have h2 : (st12Ops[1]?).map (·.op) = some (Op.call { callee := Callee.value (Operand.func 9), args := #[Operand.tmp 32], argTypes := #[37] }) := by kernel_rfl
      have h3 : (st12Ops[1]?).map (·.guard) = some none := by kernel_rfl
      rw [ho] at h1 h2 h3
      replace h1 := Option.some.inj h1
      replace h2 := Option.some.inj h2
      replace h3 := Option.some.inj h3
      simp only at h1 h2 h3
      rw [h1] at hK
      have l0 : L 0 = true := hdep 0 (by simp [st12Dep])
      refine ⟨fun _ => ?_, fun hw => by rw [wanted_none h3] at hw; cases hw⟩
      refine wp_callG 9 _ _ h2 (enters_of Try.func9 (by kernel_rfl) rfl) #[.slice LA n lc] (by simp [show b.eval (.tmp 32) = _ from (show Act.at b 32 = .slice LA n lc from hc.v 0 l0 _ rfl)]) _ (HC1 w hbw) ?_
      rintro v w2 ⟨rfl, hb2⟩
      rw [h1]
      exact hK _ _ (FlatC.step st12_nd (st12_ks kR) rfl hc 1 (by decide) (hb2) (fun u hu => by injection hu with hu; injection hu) (trivial))
    · have h1 : (st12Ops[2]?).map (·.dst) = some (some 34) := by kernel_rfl
      have h2 : (st12Ops[2]?).map (·.op) = some (Op.unOp UnOp.not 4 (Operand.tmp 33)) := by kernel_rfl
      have h3 : (st12Ops[2]?).map (·.guard) = some none := by kernel_rfl
      rw [ho] at h1 h2 h3
      replace h1 := Option.some.inj h1
      replace h2 := Option.some.inj h2
      replace h3 := Option.some.inj h3
      simp only at h1 h2 h3
      rw [h1] at hK
      have l1 : L 1 = true := hdep 1 (by simp [st12Dep])
      refine ⟨fun _ => ?_, fun hw => by rw [wanted_none h3] at hw; cases hw⟩
      refine wp_unG _ _ _ h2 _ (.bool false) (show Act.at b 33 = .bool true from hc.v 1 l1 _ rfl) (by kernel_rfl) ?_
      rw [h1]
      exact hK _ _ (FlatC.step st12_nd (st12_ks kR) rfl hc 2 (by decide) (Below.refl _ _) (fun u hu => by injection hu with hu; injection hu) (trivial))
    · have h1 : (st12Ops[3]?).map (·.dst) = some (some 35) := by kernel_rfl
      have h2 : (st12Ops[3]?).map (·.op) = some (Op.move (Operand.tmp 34)) := by kernel_rfl
      have h3 : (st12Ops[3]?).map (·.guard) = some none := by kernel_rfl
      rw [ho] at h1 h2 h3
      replace h1 := Option.some.inj h1
      replace h2 := Option.some.inj h2
      replace h3 := Option.some.inj h3
      simp only at h1 h2 h3
      rw [h1] at hK
      have l2 : L 2 = true := hdep 2 (by simp [st12Dep])
      refine ⟨fun _ => ?_, fun hw => by rw [wanted_none h3] at hw; cases hw⟩
      refine wp_moveG _ h2 _ (show Act.at b 34 = .bool false from hc.v 2 l2 _ rfl) ?_
      rw [h1]
      exact hK _ _ (FlatC.step st12_nd (st12_ks kR) rfl hc 3 (by decide) (Below.refl _ _) (fun u hu => by injection hu with hu; injection hu) (trivial))
    · have h1 : (st12Ops[4]?).map (·.dst) = some (some 36) := by kernel_rfl
      have h2 : (st12Ops[4]?).map (·.op) = some (Op.load 33 (Operand.tmp 6)) := by kernel_rfl
      have h3 : (st12Ops[4]?).map (·.guard) = some (some (3, false)) := by kernel_rfl
      rw [ho] at h1 h2 h3
      replace h1 := Option.some.inj h1
      replace h2 := Option.some.inj h2
      replace h3 := Option.some.inj h3
      simp only at h1 h2 h3
      rw [h1] at hK
      have l3 : L 3 = true := hdep 3 (by simp [st12Dep])
      have hw := wanted_of (ops := st12Ops) (b := b) h3 (d := 35) (by kernel_rfl) (show Act.at b 35 = .bool false from hc.v 3 l3 _ rfl)
      rw [hw]
      refine ⟨fun _ => ?_, fun hq => absurd hq (by decide)⟩
      refine wp_load_row 33 (.tmp 6) h2 g6 ((hf 6 (by decide)).trans a6) 33 #[.slice A1 L1 c1, .int .i64 q1] (0, 0) _ ((hbw.block g6 HGg6.lt).trans HGg6) Try.underlying33 rfl (by kernel_rfl) ?_
      rw [h1]
      exact hK _ _ (FlatC.step st12_nd (st12_ks kR) rfl hc 4 (by decide) (Below.refl _ _) (fun u hu => by injection hu with hu; injection hu) (trivial))
    · have h1 : (st12Ops[5]?).map (·.dst) = some (some 37) := by kernel_rfl
      have h2 : (st12Ops[5]?).map (·.op) = some (Op.move (Operand.tmp 8)) := by kernel_rfl
      have h3 : (st12Ops[5]?).map (·.guard) = some (some (3, false)) := by kernel_rfl
      rw [ho] at h1 h2 h3
      replace h1 := Option.some.inj h1
      replace h2 := Option.some.inj h2
      replace h3 := Option.some.inj h3
      simp only at h1 h2 h3
      rw [h1] at hK
      have l3 : L 3 = true := hdep 3 (by simp [st12Dep])
      have hw := wanted_of (ops := st12Ops) (b := b) h3 (d := 35) (by kernel_rfl) (show Act.at b 35 = .bool false from hc.v 3 l3 _ rfl)
      rw [hw]
      refine ⟨fun _ => ?_, fun hq => absurd hq (by decide)⟩
      refine wp_moveG _ h2 _ ((hf 8 (by decide)).trans a8) ?_
      rw [h1]
      exact hK _ _ (FlatC.step st12_nd (st12_ks kR) rfl hc 5 (by decide) (Below.refl _ _) (fun u hu => by injection hu with hu; injection hu) (trivial))
    · have h1 : (st12Ops[6]?).map (·.dst) = some (some 38) := by kernel_rfl
      have h2 : (st12Ops[6]?).map (·.op) = some (Op.call { callee := Callee.value (Operand.func 10), args := #[Operand.tmp 36, Operand.tmp 37], argTypes := #[33, 37] }) := by kernel_rfl
      have h3 : (st12Ops[6]?).map (·.guard) = some (some (3, false)) := by kernel_rfl
      rw [ho] at h1 h2 h3
      replace h1 := Option.some.inj h1
      replace h2 := Option.some.inj h2
      replace h3 := Option.some.inj h3
      simp only at h1 h2 h3
      rw [h1] at hK
      have l3 : L 3 = true := hdep 3 (by simp [st12Dep])
      have l4 : L 4 = true := hdep 4 (by simp [st12Dep])
      have l5 : L 5 = true := hdep 5 (by simp [st12Dep])
      have hw := wanted_of (ops := st12Ops) (b := b) h3 (d := 35) (by kernel_rfl) (show Act.at b 35 = .bool false from hc.v 3 l3 _ rfl)
      rw [hw]
      refine ⟨fun _ => ?_, fun hq => absurd hq (by decide)⟩
      refine wp_callG 10 _ _ h2 (enters_of Try.func10 (by kernel_rfl) rfl) #[.agg #[.slice A1 L1 c1, .int .i64 q1], .slice LA n lc] (by simp [show b.eval (.tmp 36) = _ from (show Act.at b 36 = .agg #[.slice A1 L1 c1, .int .i64 q1] from hc.v 4 l4 _ rfl), show b.eval (.tmp 37) = _ from (show Act.at b 37 = .slice LA n lc from hc.v 5 l5 _ rfl)]) _ (HC6 w hbw) ?_
      rintro v w2 ⟨rfl, hb2⟩
      rw [h1]
      exact hK _ _ (FlatC.step st12_nd (st12_ks kR) rfl hc 6 (by decide) (hb2) (fun u hu => by injection hu with hu; injection hu) (trivial))
    · have h1 : (st12Ops[7]?).map (·.dst) = some (some 39) := by kernel_rfl
      have h2 : (st12Ops[7]?).map (·.op) = some (Op.load 33 (Operand.tmp 6)) := by kernel_rfl
      have h3 : (st12Ops[7]?).map (·.guard) = some (some (3, false)) := by kernel_rfl
      rw [ho] at h1 h2 h3
      replace h1 := Option.some.inj h1
      replace h2 := Option.some.inj h2
      replace h3 := Option.some.inj h3
      simp only at h1 h2 h3
      rw [h1] at hK
      have l3 : L 3 = true := hdep 3 (by simp [st12Dep])
      have hw := wanted_of (ops := st12Ops) (b := b) h3 (d := 35) (by kernel_rfl) (show Act.at b 35 = .bool false from hc.v 3 l3 _ rfl)
      rw [hw]
      refine ⟨fun _ => ?_, fun hq => absurd hq (by decide)⟩
      refine wp_load_row 33 (.tmp 6) h2 g6 ((hf 6 (by decide)).trans a6) 33 #[.slice A1 L1 c1, .int .i64 q1] (0, 0) _ ((hbw.block g6 HGg6.lt).trans HGg6) Try.underlying33 rfl (by kernel_rfl) ?_
      rw [h1]
      exact hK _ _ (FlatC.step st12_nd (st12_ks kR) rfl hc 7 (by decide) (Below.refl _ _) (fun u hu => by injection hu with hu; injection hu) (trivial))
    · have h1 : (st12Ops[8]?).map (·.dst) = some (some 40) := by kernel_rfl
      have h2 : (st12Ops[8]?).map (·.op) = some (Op.move (Operand.tmp 1)) := by kernel_rfl
      have h3 : (st12Ops[8]?).map (·.guard) = some (some (3, false)) := by kernel_rfl
      rw [ho] at h1 h2 h3
      replace h1 := Option.some.inj h1
      replace h2 := Option.some.inj h2
      replace h3 := Option.some.inj h3
      simp only at h1 h2 h3
      rw [h1] at hK
      have l3 : L 3 = true := hdep 3 (by simp [st12Dep])
      have hw := wanted_of (ops := st12Ops) (b := b) h3 (d := 35) (by kernel_rfl) (show Act.at b 35 = .bool false from hc.v 3 l3 _ rfl)
      rw [hw]
      refine ⟨fun _ => ?_, fun hq => absurd hq (by decide)⟩
      refine wp_moveG _ h2 _ ((hf 1 (by decide)).trans a1) ?_
      rw [h1]
      exact hK _ _ (FlatC.step st12_nd (st12_ks kR) rfl hc 8 (by decide) (Below.refl _ _) (fun u hu => by injection hu with hu; injection hu) (trivial))
    · have h1 : (st12Ops[9]?).map (·.dst) = some (some 41) := by kernel_rfl
      have h2 : (st12Ops[9]?).map (·.op) = some (Op.move (Operand.tmp 9)) := by kernel_rfl
      have h3 : (st12Ops[9]?).map (·.guard) = some (some (3, false)) := by kernel_rfl
      rw [ho] at h1 h2 h3
      replace h1 := Option.some.inj h1
      replace h2 := Option.some.inj h2
      replace h3 := Option.some.inj h3
      simp only at h1 h2 h3
      rw [h1] at hK
      have l3 : L 3 = true := hdep 3 (by simp [st12Dep])
      have hw := wanted_of (ops := st12Ops) (b := b) h3 (d := 35) (by kernel_rfl) (show Act.at b 35 = .bool false from hc.v 3 l3 _ rfl)
      rw [hw]
      refine ⟨fun _ => ?_, fun hq => absurd hq (by decide)⟩
      refine wp_moveG _ h2 _ ((hf 9 (by decide)).trans a9) ?_
      rw [h1]
      exact hK _ _ (FlatC.step st12_nd (st12_ks kR) rfl hc 9 (by decide) (Below.refl _ _) (fun u hu => by injection hu with hu; injection hu) (trivial))
    · have h1 : (st12Ops[10]?).map (·.dst) = some (some 42) := by kernel_rfl
      have h2 : (st12Ops[10]?).map (·.op) = some (Op.slice 27 (Operand.tmp 40) none (some (Operand.tmp 41)) none) := by kernel_rfl
      have h3 : (st12Ops[10]?).map (·.guard) = some (some (3, false)) := by kernel_rfl
      rw [ho] at h1 h2 h3
      replace h1 := Option.some.inj h1
      replace h2 := Option.some.inj h2
      replace h3 := Option.some.inj h3
      simp only at h1 h2 h3
      rw [h1] at hK
      have l3 : L 3 = true := hdep 3 (by simp [st12Dep])
      have l8 : L 8 = true := hdep 8 (by simp [st12Dep])
      have l9 : L 9 = true := hdep 9 (by simp [st12Dep])
      have hw := wanted_of (ops := st12Ops) (b := b) h3 (d := 35) (by kernel_rfl) (show Act.at b 35 = .bool false from hc.v 3 l3 _ rfl)
      rw [hw]
      refine ⟨fun _ => ?_, fun hq => absurd hq (by decide)⟩
      refine wp_sliceHiG _ _ _ h2 _ _ (show Act.at b 40 = .slice BA bn bc from hc.v 8 l8 _ rfl) (show Act.at b 41 = .int .i64 (i : Int) from hc.v 9 l9 _ rfl) (HV10 w) ?_
      rw [h1]
      exact hK _ _ (FlatC.step st12_nd (st12_ks kR) rfl hc 10 (by decide) (Below.refl _ _) (fun u hu => by injection hu with hu; injection hu) (trivial))
    · have h1 : (st12Ops[11]?).map (·.dst) = some (some 43) := by kernel_rfl
      have h2 : (st12Ops[11]?).map (·.op) = some (Op.call { callee := Callee.value (Operand.func 11), args := #[Operand.tmp 39, Operand.tmp 42], argTypes := #[33, 27] }) := by kernel_rfl
      have h3 : (st12Ops[11]?).map (·.guard) = some (some (3, false)) := by kernel_rfl
      rw [ho] at h1 h2 h3
      replace h1 := Option.some.inj h1
      replace h2 := Option.some.inj h2
      replace h3 := Option.some.inj h3
      simp only at h1 h2 h3
      rw [h1] at hK
      have l3 : L 3 = true := hdep 3 (by simp [st12Dep])
      have l7 : L 7 = true := hdep 7 (by simp [st12Dep])
      have l10 : L 10 = true := hdep 10 (by simp [st12Dep])
      have hw := wanted_of (ops := st12Ops) (b := b) h3 (d := 35) (by kernel_rfl) (show Act.at b 35 = .bool false from hc.v 3 l3 _ rfl)
      rw [hw]
      refine ⟨fun _ => ?_, fun hq => absurd hq (by decide)⟩
      refine wp_callG 11 _ _ h2 (enters_of Try.func11 (by kernel_rfl) rfl) #[.agg #[.slice A1 L1 c1, .int .i64 q1], .slice BA i bc] (by simp [show b.eval (.tmp 39) = _ from (show Act.at b 39 = .agg #[.slice A1 L1 c1, .int .i64 q1] from hc.v 7 l7 _ rfl), show b.eval (.tmp 42) = _ from (show Act.at b 42 = .slice BA i bc from hc.v 10 l10 _ rfl)]) _ (HC11 w hbw) ?_
      rintro v w2 ⟨rfl, hb2⟩
      rw [h1]
      exact hK _ _ (FlatC.step st12_nd (st12_ks kR) rfl hc 11 (by decide) (hb2) (fun u hu => by injection hu with hu; injection hu) (trivial))
    · have h1 : (st12Ops[12]?).map (·.dst) = some (some 44) := by kernel_rfl
      have h2 : (st12Ops[12]?).map (·.op) = some (Op.binOp BinOp.neq 4 (Operand.tmp 38) (Operand.tmp 43) 4) := by kernel_rfl
      have h3 : (st12Ops[12]?).map (·.guard) = some (some (3, false)) := by kernel_rfl
      rw [ho] at h1 h2 h3
      replace h1 := Option.some.inj h1
      replace h2 := Option.some.inj h2
      replace h3 := Option.some.inj h3
      simp only at h1 h2 h3
      rw [h1] at hK
      have l3 : L 3 = true := hdep 3 (by simp [st12Dep])
      have l6 : L 6 = true := hdep 6 (by simp [st12Dep])
      have l11 : L 11 = true := hdep 11 (by simp [st12Dep])
      have hw := wanted_of (ops := st12Ops) (b := b) h3 (d := 35) (by kernel_rfl) (show Act.at b 35 = .bool false from hc.v 3 l3 _ rfl)
      rw [hw]
      refine ⟨fun _ => ?_, fun hq => absurd hq (by decide)⟩
      refine wp_binG _ _ _ _ _ h2 _ _ (.bool false) (show Act.at b 38 = .bool eb from hc.v 6 l6 _ rfl) (show Act.at b 43 = .bool eb from hc.v 11 l11 _ rfl) (by kernel_rfl) (HB12 w) ?_
      rw [h1]
      exact hK _ _ (FlatC.step st12_nd (st12_ks kR) rfl hc 12 (by decide) (Below.refl _ _) (fun u hu => by injection hu with hu; injection hu) (trivial))
    · have h1 : (st12Ops[13]?).map (·.dst) = some (some 45) := by kernel_rfl
      have h2 : (st12Ops[13]?).map (·.op) = some (Op.pick (Operand.tmp 35) (Operand.const (Value.bool true)) (Operand.tmp 44)) := by kernel_rfl
      have h3 : (st12Ops[13]?).map (·.guard) = some none := by kernel_rfl
      rw [ho] at h1 h2 h3
      replace h1 := Option.some.inj h1
      replace h2 := Option.some.inj h2
      replace h3 := Option.some.inj h3
      simp only at h1 h2 h3
      rw [h1] at hK
      have l3 : L 3 = true := hdep 3 (by simp [st12Dep])
      have l12 : L 12 = true := hdep 12 (by simp [st12Dep])
      refine ⟨fun _ => ?_, fun hw => by rw [wanted_none h3] at hw; cases hw⟩
      refine wp_pickG _ _ _ h2 false (show Act.at b 35 = .bool false from hc.v 3 l3 _ rfl) _ (if_neg (by decide) |>.trans (show Act.at b 44 = .bool false from hc.v 12 l12 _ rfl)) ?_
      rw [h1]
      exact hK _ _ (FlatC.step st12_nd (st12_ks kR) rfl hc 13 (by decide) (Below.refl _ _) (fun u hu => by injection hu with hu; injection hu) (trivial))
    · have h1 : (st12Ops[14]?).map (·.dst) = some (some 46) := by kernel_rfl
      have h2 : (st12Ops[14]?).map (·.op) = some (Op.move (Operand.tmp 45)) := by kernel_rfl
      have h3 : (st12Ops[14]?).map (·.guard) = some none := by kernel_rfl
      rw [ho] at h1 h2 h3
      replace h1 := Option.some.inj h1
      replace h2 := Option.some.inj h2
      replace h3 := Option.some.inj h3
      simp only at h1 h2 h3
      rw [h1] at hK
      have l13 : L 13 = true := hdep 13 (by simp [st12Dep])
      refine ⟨fun _ => ?_, fun hw => by rw [wanted_none h3] at hw; cases hw⟩
      refine wp_moveG _ h2 _ (show Act.at b 45 = .bool false from hc.v 13 l13 _ rfl) ?_
      rw [h1]
      exact hK _ _ (FlatC.step st12_nd (st12_ks kR) rfl hc 14 (by decide) (Below.refl _ _) (fun u hu => by injection hu with hu; injection hu) (trivial))
    · have h1 : (st12Ops[15]?).map (·.dst) = some (some 47) := by kernel_rfl
      have h2 : (st12Ops[15]?).map (·.op) = some (Op.load 33 (Operand.tmp 6)) := by kernel_rfl
      have h3 : (st12Ops[15]?).map (·.guard) = some (some (14, false)) := by kernel_rfl
      rw [ho] at h1 h2 h3
      replace h1 := Option.some.inj h1
      replace h2 := Option.some.inj h2
      replace h3 := Option.some.inj h3
      simp only at h1 h2 h3
      rw [h1] at hK
      have l14 : L 14 = true := hdep 14 (by simp [st12Dep])
      have hw := wanted_of (ops := st12Ops) (b := b) h3 (d := 46) (by kernel_rfl) (show Act.at b 46 = .bool false from hc.v 14 l14 _ rfl)
      rw [hw]
      refine ⟨fun _ => ?_, fun hq => absurd hq (by decide)⟩
      refine wp_load_row 33 (.tmp 6) h2 g6 ((hf 6 (by decide)).trans a6) 33 #[.slice A1 L1 c1, .int .i64 q1] (0, 0) _ ((hbw.block g6 HGg6.lt).trans HGg6) Try.underlying33 rfl (by kernel_rfl) ?_
      rw [h1]
      exact hK _ _ (FlatC.step st12_nd (st12_ks kR) rfl hc 15 (by decide) (Below.refl _ _) (fun u hu => by injection hu with hu; injection hu) (trivial))
    · have h1 : (st12Ops[16]?).map (·.dst) = some (some 48) := by kernel_rfl
      have h2 : (st12Ops[16]?).map (·.op) = some (Op.move (Operand.tmp 8)) := by kernel_rfl
      have h3 : (st12Ops[16]?).map (·.guard) = some (some (14, false)) := by kernel_rfl
      rw [ho] at h1 h2 h3
      replace h1 := Option.some.inj h1
      replace h2 := Option.some.inj h2
      replace h3 := Option.some.inj h3
      simp only at h1 h2 h3
      rw [h1] at hK
      have l14 : L 14 = true := hdep 14 (by simp [st12Dep])
      have hw := wanted_of (ops := st12Ops) (b := b) h3 (d := 46) (by kernel_rfl) (show Act.at b 46 = .bool false from hc.v 14 l14 _ rfl)
      rw [hw]
      refine ⟨fun _ => ?_, fun hq => absurd hq (by decide)⟩
      refine wp_moveG _ h2 _ ((hf 8 (by decide)).trans a8) ?_
      rw [h1]
      exact hK _ _ (FlatC.step st12_nd (st12_ks kR) rfl hc 16 (by decide) (Below.refl _ _) (fun u hu => by injection hu with hu; injection hu) (trivial))
    · have h1 : (st12Ops[17]?).map (·.dst) = some (some 49) := by kernel_rfl
      have h2 : (st12Ops[17]?).map (·.op) = some (Op.call { callee := Callee.value (Operand.func 13), args := #[Operand.tmp 47, Operand.tmp 48], argTypes := #[33, 37] }) := by kernel_rfl
      have h3 : (st12Ops[17]?).map (·.guard) = some (some (14, false)) := by kernel_rfl
      rw [ho] at h1 h2 h3
      replace h1 := Option.some.inj h1
      replace h2 := Option.some.inj h2
      replace h3 := Option.some.inj h3
      simp only at h1 h2 h3
      rw [h1] at hK
      have l14 : L 14 = true := hdep 14 (by simp [st12Dep])
      have l15 : L 15 = true := hdep 15 (by simp [st12Dep])
      have l16 : L 16 = true := hdep 16 (by simp [st12Dep])
      have hw := wanted_of (ops := st12Ops) (b := b) h3 (d := 46) (by kernel_rfl) (show Act.at b 46 = .bool false from hc.v 14 l14 _ rfl)
      rw [hw]
      refine ⟨fun _ => ?_, fun hq => absurd hq (by decide)⟩
      refine wp_callG 13 _ _ h2 (enters_of Try.func13 (by kernel_rfl) rfl) #[.agg #[.slice A1 L1 c1, .int .i64 q1], .slice LA n lc] (by simp [show b.eval (.tmp 47) = _ from (show Act.at b 47 = .agg #[.slice A1 L1 c1, .int .i64 q1] from hc.v 15 l15 _ rfl), show b.eval (.tmp 48) = _ from (show Act.at b 48 = .slice LA n lc from hc.v 16 l16 _ rfl)]) _ (HC17 w hbw) ?_
      rintro v w2 ⟨hp2, hb2⟩
      rw [h1]
      exact hK _ _ (FlatC.step st12_nd (st12_ks kR) rfl hc 17 (by decide) (hb2) (fun u hu => by cases hu) (hp2))
    · have h1 : (st12Ops[18]?).map (·.dst) = some (some 50) := by kernel_rfl
      have h2 : (st12Ops[18]?).map (·.op) = some (Op.move (Operand.tmp 8)) := by kernel_rfl
      have h3 : (st12Ops[18]?).map (·.guard) = some (some (14, false)) := by kernel_rfl
      rw [ho] at h1 h2 h3
      replace h1 := Option.some.inj h1
      replace h2 := Option.some.inj h2
      replace h3 := Option.some.inj h3
      simp only at h1 h2 h3
      rw [h1] at hK
      have l14 : L 14 = true := hdep 14 (by simp [st12Dep])
      have hw := wanted_of (ops := st12Ops) (b := b) h3 (d := 46) (by kernel_rfl) (show Act.at b 46 = .bool false from hc.v 14 l14 _ rfl)
      rw [hw]
      refine ⟨fun _ => ?_, fun hq => absurd hq (by decide)⟩
      refine wp_moveG _ h2 _ ((hf 8 (by decide)).trans a8) ?_
      rw [h1]
      exact hK _ _ (FlatC.step st12_nd (st12_ks kR) rfl hc 18 (by decide) (Below.refl _ _) (fun u hu => by injection hu with hu; injection hu) (trivial))
    · have h1 : (st12Ops[19]?).map (·.dst) = some (some 51) := by kernel_rfl
      have h2 : (st12Ops[19]?).map (·.op) = some (Op.call { callee := Callee.value (Operand.func 12), args := #[Operand.tmp 49, Operand.tmp 50], argTypes := #[37, 37] }) := by kernel_rfl
      have h3 : (st12Ops[19]?).map (·.guard) = some (some (14, false)) := by kernel_rfl
      rw [ho] at h1 h2 h3
      replace h1 := Option.some.inj h1
      replace h2 := Option.some.inj h2
      replace h3 := Option.some.inj h3
      simp only at h1 h2 h3
      rw [h1] at hK
      have l14 : L 14 = true := hdep 14 (by simp [st12Dep])
      have l17 : L 17 = true := hdep 17 (by simp [st12Dep])
      have l18 : L 18 = true := hdep 18 (by simp [st12Dep])
      have hw := wanted_of (ops := st12Ops) (b := b) h3 (d := 46) (by kernel_rfl) (show Act.at b 46 = .bool false from hc.v 14 l14 _ rfl)
      rw [hw]
      refine ⟨fun _ => ?_, fun hq => absurd hq (by decide)⟩
      refine wp_callG 12 _ _ h2 (enters_of Try.func12 (by kernel_rfl) rfl) #[(Act.at b 49), .slice LA n lc] (by simp [show b.eval (.tmp 49) = Act.at b 49 from rfl, show b.eval (.tmp 50) = _ from (show Act.at b 50 = .slice LA n lc from hc.v 18 l18 _ rfl)]) _ (HC19 w (Act.at b 49) hbw (hc.s 17 l17 (by decide))) ?_
      rintro v w2 ⟨rfl, hb2⟩
      rw [h1]
      exact hK _ _ (FlatC.step st12_nd (st12_ks kR) rfl hc 19 (by decide) (hb2) (fun u hu => by injection hu with hu; injection hu) (trivial))
    · have h1 : (st12Ops[20]?).map (·.dst) = some (some 52) := by kernel_rfl
      have h2 : (st12Ops[20]?).map (·.op) = some (Op.unOp UnOp.not 4 (Operand.tmp 51)) := by kernel_rfl
      have h3 : (st12Ops[20]?).map (·.guard) = some (some (14, false)) := by kernel_rfl
      rw [ho] at h1 h2 h3
      replace h1 := Option.some.inj h1
      replace h2 := Option.some.inj h2
      replace h3 := Option.some.inj h3
      simp only at h1 h2 h3
      rw [h1] at hK
      have l14 : L 14 = true := hdep 14 (by simp [st12Dep])
      have l19 : L 19 = true := hdep 19 (by simp [st12Dep])
      have hw := wanted_of (ops := st12Ops) (b := b) h3 (d := 46) (by kernel_rfl) (show Act.at b 46 = .bool false from hc.v 14 l14 _ rfl)
      rw [hw]
      refine ⟨fun _ => ?_, fun hq => absurd hq (by decide)⟩
      refine wp_unG _ _ _ h2 _ (.bool false) (show Act.at b 51 = .bool true from hc.v 19 l19 _ rfl) (by kernel_rfl) ?_
      rw [h1]
      exact hK _ _ (FlatC.step st12_nd (st12_ks kR) rfl hc 20 (by decide) (Below.refl _ _) (fun u hu => by injection hu with hu; injection hu) (trivial))
    · have h1 : (st12Ops[21]?).map (·.dst) = some (some 53) := by kernel_rfl
      have h2 : (st12Ops[21]?).map (·.op) = some (Op.pick (Operand.tmp 46) (Operand.const (Value.bool true)) (Operand.tmp 52)) := by kernel_rfl
      have h3 : (st12Ops[21]?).map (·.guard) = some none := by kernel_rfl
      rw [ho] at h1 h2 h3
      replace h1 := Option.some.inj h1
      replace h2 := Option.some.inj h2
      replace h3 := Option.some.inj h3
      simp only at h1 h2 h3
      rw [h1] at hK
      have l14 : L 14 = true := hdep 14 (by simp [st12Dep])
      have l20 : L 20 = true := hdep 20 (by simp [st12Dep])
      refine ⟨fun _ => ?_, fun hw => by rw [wanted_none h3] at hw; cases hw⟩
      refine wp_pickG _ _ _ h2 false (show Act.at b 46 = .bool false from hc.v 14 l14 _ rfl) _ (if_neg (by decide) |>.trans (show Act.at b 52 = .bool false from hc.v 20 l20 _ rfl)) ?_
      rw [h1]
      exact hK _ _ (FlatC.step st12_nd (st12_ks kR) rfl hc 21 (by decide) (Below.refl _ _) (fun u hu => by injection hu with hu; injection hu) (trivial))
  · rintro L b w hL hd hs hf hc
    have hsz2 : st12Ops.size = 22 := rfl
    rw [hsz2] at hL
    have e := act_eq (a := A0) (b := b) (st12Us (Act.at b)) hd hs hf (by
      intro p hp
      simp only [st12Us, List.mem_cons, List.not_mem_nil, or_false] at hp
      rcases hp with rfl | rfl | rfl | rfl | rfl | rfl | rfl | rfl | rfl | rfl | rfl | rfl | rfl | rfl | rfl | rfl | rfl | rfl | rfl | rfl | rfl | rfl <;> rfl) (by rw [show (st12Us (Act.at b)).map (·.1) = [32, 33, 34, 35, 36, 37, 38, 39, 40, 41, 42, 43, 44, 45, 46, 47, 48, 49, 50, 51, 52, 53] from rfl]; decide)
    rw [e]
    exact hk (Act.at b) w (hc.v 21 (hL 21 (by omega)) _ rfl) ⟨hc.bel.os, hc.bel.tape, hc.bel.output, hc.bel.size, hc.bel.block⟩
def st17Ops : Array Oper := #[{ dst := some 60, op := Op.move (Operand.tmp 8), type := 37, pos := "law.go:72", after := #[], guard := none }, { dst := some 61, op := Op.move (Operand.tmp 10), type := 3, pos := "law.go:72", after := #[], guard := none }, { dst := some 62, op := Op.indexAddr 37 (Operand.tmp 60) (Operand.tmp 61), type := 0, pos := "law.go:72", after := #[{ on := 0, ground := Ground.data }, { on := 1, ground := Ground.data }], guard := none }, { dst := some 63, op := Op.load 3 (Operand.tmp 62), type := 3, pos := "law.go:72", after := #[{ on := 2, ground := Ground.data }], guard := none }, { dst := some 64, op := Op.move (Operand.tmp 8), type := 37, pos := "law.go:72", after := #[], guard := none }, { dst := some 65, op := Op.move (Operand.tmp 10), type := 3, pos := "law.go:72", after := #[], guard := none }, { dst := some 66, op := Op.binOp BinOp.sub 3 (Operand.tmp 65) (Operand.const (Value.int IntKind.i64 1)) 3, type := 3, pos := "law.go:72", after := #[{ on := 5, ground := Ground.data }], guard := none }, { dst := some 67, op := Op.indexAddr 37 (Operand.tmp 64) (Operand.tmp 66), type := 0, pos := "law.go:72", after := #[{ on := 4, ground := Ground.data }, { on := 6, ground := Ground.data }], guard := none }, { dst := some 68, op := Op.load 3 (Operand.tmp 67), type := 3, pos := "law.go:72", after := #[{ on := 7, ground := Ground.data }], guard := none }, { dst := some 69, op := Op.binOp BinOp.eql 3 (Operand.tmp 63) (Operand.tmp 68) 3, type := 4, pos := "law.go:72", after := #[{ on := 3, ground := Ground.data }, { on := 8, ground := Ground.data }], guard := none }, { dst := some 70, op := Op.move (Operand.tmp 69), type := 4, pos := "law.go:72", after := #[{ on := 9, ground := Ground.data }], guard := none }, { dst := some 71, op := Op.move (Operand.tmp 8), type := 37, pos := "law.go:72", after := #[{ on := 10, ground := Ground.guard }], guard := some (10, false) }, { dst := some 72, op := Op.move (Operand.tmp 10), type := 3, pos := "law.go:72", after := #[{ on := 10, ground := Ground.guard }], guard := some (10, false) }, { dst := some 73, op := Op.indexAddr 37 (Operand.tmp 71) (Operand.tmp 72), type := 0, pos := "law.go:72", after := #[{ on := 11, ground := Ground.data }, { on := 12, ground := Ground.data }, { on := 10, ground := Ground.guard }], guard := some (10, false) }, { dst := some 74, op := Op.load 3 (Operand.tmp 73), type := 3, pos := "law.go:72", after := #[{ on := 13, ground := Ground.data }, { on := 10, ground := Ground.guard }], guard := some (10, false) }, { dst := some 75, op := Op.load 33 (Operand.tmp 6), type := 33, pos := "law.go:72", after := #[{ on := 10, ground := Ground.guard }], guard := some (10, false) }, { dst := some 76, op := Op.call { callee := Callee.value (Operand.func 14), args := #[Operand.tmp 75], argTypes := #[33] }, type := 3, pos := "law.go:72", after := #[{ on := 15, ground := Ground.data }, { on := 10, ground := Ground.chain }, { on := 10, ground := Ground.guard }], guard := some (10, false) }, { dst := some 77, op := Op.binOp BinOp.geq 3 (Operand.tmp 74) (Operand.tmp 76) 3, type := 4, pos := "law.go:72", after := #[{ on := 14, ground := Ground.data }, { on := 16, ground := Ground.data }, { on := 10, ground := Ground.guard }], guard := some (10, false) }, { dst := some 78, op := Op.pick (Operand.tmp 70) (Operand.const (Value.bool true)) (Operand.tmp 77), type := 4, pos := "law.go:72", after := #[{ on := 10, ground := Ground.data }, { on := 17, ground := Ground.data }], guard := none }]
def st17Dep : Nat → List Nat := fun i => match i with | 2 => [0, 1] | 3 => [2] | 6 => [5] | 7 => [4, 6] | 8 => [7] | 9 => [3, 8] | 10 => [9] | 11 => [10] | 12 => [10] | 13 => [10, 11, 12] | 14 => [10, 13] | 15 => [10] | 16 => [10, 15] | 17 => [10, 14, 16] | 18 => [10, 17] | _ => []
def st17Sl : List Nat := [60, 61, 62, 63, 64, 65, 66, 67, 68, 69, 70, 71, 72, 73, 74, 75, 76, 77, 78]
def st17Vs (g6 : Nat) (L1 : Nat) (A1 : Option Addr) (c1 : Nat) (q1 : Int) (b0 : Nat) (o0 : Nat) (n : Nat) (lc : Nat) (k : Nat) (x : Int) (y : Int) : List (Option Value) := [some (.slice (some ⟨b0, o0, none⟩) n lc), some (.int .i64 (k : Int)), some (.pointer (some ⟨b0, o0 + k, none⟩)), some (.int .i64 x), some (.slice (some ⟨b0, o0, none⟩) n lc), some (.int .i64 (k : Int)), some (.int .i64 ((k : Int) - 1)), some (.pointer (some ⟨b0, o0 + (k - 1), none⟩)), some (.int .i64 y), some (.bool false), some (.bool false), some (.slice (some ⟨b0, o0, none⟩) n lc), some (.int .i64 (k : Int)), some (.pointer (some ⟨b0, o0 + k, none⟩)), some (.int .i64 x), some (.agg #[.slice A1 L1 c1, .int .i64 q1]), some (.int .i64 (L1 : Int)), some (.bool false), some (.bool false)]
def st17Sp  (i : Nat) : Value → World → Prop := match i with  | _ => fun _ _ => True
theorem st17_ks   : ∀ i v w w', st17Sp  i v w → Below w.heap.size w w' → st17Sp  i v w' := by
  intro i v w w' h hb
  unfold st17Sp at h ⊢
  split <;> first | trivial
theorem st17_nd : st17Sl.Nodup := by decide
def st17Us (f : Nat → Value) : List (Nat × Value) := [(60, f 60), (61, f 61), (62, f 62), (63, f 63), (64, f 64), (65, f 65), (66, f 66), (67, f 67), (68, f 68), (69, f 69), (70, f 70), (71, f 71), (72, f 72), (73, f 73), (74, f 74), (75, f 75), (76, f 76), (77, f 77), (78, f 78)]
set_option maxRecDepth 20000 in
set_option maxHeartbeats 4000000 in
theorem st17_reg {g6 : Nat} {L1 : Nat} {A1 : Option Addr} {c1 : Nat} {q1 : Int} {b0 : Nat} {o0 : Nat} {n : Nat} {lc : Nat} {k : Nat} {x : Int} {y : Int}  {W : World} {A0 : Act} {Q : Exit → Act → World → Prop} {id : Nat} (a6 : Act.at A0 6 = .pointer (some ⟨g6, 0, none⟩)) (a8 : Act.at A0 8 = .slice (some ⟨b0, o0, none⟩) n lc) (a10 : Act.at A0 10 = .int .i64 (k : Int)) (hsz : 110 ≤ A0.tmps.size)  (HV2 : ∀ w, (Instr.indexAt 37 (.slice (some ⟨b0, o0, none⟩) n lc) (.int .i64 (k : Int))).run Try.prog w = .ok (.pointer (some ⟨b0, o0 + k, none⟩)) w) (HV3 : ∀ w, Below W.heap.size W w → (Instr.loadAt 3 (.pointer (some ⟨b0, o0 + k, none⟩))).run Try.prog w = .ok (.int .i64 x) w) (HB6 : ∀ w, (binOp .sub 3 (.int .i64 (k : Int)) (.int .i64 1)).run Try.prog w = .ok (.int .i64 ((k : Int) - 1)) w) (HV7 : ∀ w, (Instr.indexAt 37 (.slice (some ⟨b0, o0, none⟩) n lc) (.int .i64 ((k : Int) - 1))).run Try.prog w = .ok (.pointer (some ⟨b0, o0 + (k - 1), none⟩)) w) (HV8 : ∀ w, Below W.heap.size W w → (Instr.loadAt 3 (.pointer (some ⟨b0, o0 + (k - 1), none⟩))).run Try.prog w = .ok (.int .i64 y) w) (HB9 : ∀ w, (binOp .eql 3 (.int .i64 x) (.int .i64 y)).run Try.prog w = .ok (.bool false) w) (HV13 : ∀ w, (Instr.indexAt 37 (.slice (some ⟨b0, o0, none⟩) n lc) (.int .i64 (k : Int))).run Try.prog w = .ok (.pointer (some ⟨b0, o0 + k, none⟩)) w) (HV14 : ∀ w, Below W.heap.size W w → (Instr.loadAt 3 (.pointer (some ⟨b0, o0 + k, none⟩))).run Try.prog w = .ok (.int .i64 x) w) (HGg6 : Blk W g6 33 [.slice A1 L1 c1, .int .i64 q1]) (HC16 : ∀ w, Below W.heap.size W w → Calls Try.prog 14 #[.agg #[.slice A1 L1 c1, .int .i64 q1]] w fun e w' => ∃ v, e = .returned v ∧ v = .int .i64 (L1 : Int) ∧ Below w.heap.size w w') (HB17 : ∀ w, (binOp .geq 3 (.int .i64 x) (.int .i64 (L1 : Int))).run Try.prog w = .ok (.bool false) w) 
    (hk : ∀ (f : Nat → Value) w', f 78 = .bool false → Below W.heap.size W w' → Q .normal ⟨(st17Us f).foldl (fun A p => A.setIfInBounds p.1 p.2) A0.tmps, A0.defers⟩ w') :
    (Code.region id st17Ops true).wp Try.prog Q A0 W := by
  refine wp_region_fun3 (by kernel_rfl) (fun L f w => FlatC W.drew st17Sl (st17Vs g6 L1 A1 c1 q1 b0 o0 n lc k x y) (st17Sp ) L f w) [60, 61, 62, 63, 64, 65, 66, 67, 68, 69, 70, 71, 72, 73, 74, 75, 76, 77, 78] (fun i o ho => (wf_ops3 (ops := st17Ops) (by kernel_rfl)) i o ho) (fun i o ho u hu => ?_) ?_ ?_ ?_
  · have := ops_dst [60, 61, 62, 63, 64, 65, 66, 67, 68, 69, 70, 71, 72, 73, 74, 75, 76, 77, 78] 110 (by kernel_rfl) i o ho u hu
    exact ⟨this.1, Nat.lt_of_lt_of_le this.2 hsz⟩
  · have hs : st17Ops.size = 19 := rfl
    rw [hs]
    exact FlatC.start rfl rfl
  · rintro L i o ho hLi haf b w hf hc K hK
    have hdep := ops_deps st17Dep (by kernel_rfl) ho haf
    clear haf
    have hbw : Below W.heap.size W w := ⟨hc.bel.os, hc.bel.tape, hc.bel.output, hc.bel.size, hc.bel.block⟩
    have hs : st17Ops.size = 19 := rfl
    have hlt : i < 19 := hs ▸ (Array.getElem?_eq_some_iff.1 ho).1
    have hcases : i = 0 ∨ i = 1 ∨ i = 2 ∨ i = 3 ∨ i = 4 ∨ i = 5 ∨ i = 6 ∨ i = 7 ∨ i = 8 ∨ i = 9 ∨ i = 10 ∨ i = 11 ∨ i = 12 ∨ i = 13 ∨ i = 14 ∨ i = 15 ∨ i = 16 ∨ i = 17 ∨ i = 18 := by omega
    clear hlt
    rcases hcases with rfl | rfl | rfl | rfl | rfl | rfl | rfl | rfl | rfl | rfl | rfl | rfl | rfl | rfl | rfl | rfl | rfl | rfl | rfl
    · have h1 : (st17Ops[0]?).map (·.dst) = some (some 60) := by kernel_rfl
      have h2 : (st17Ops[0]?).map (·.op) = some (Op.move (Operand.tmp 8)) := by kernel_rfl
      have h3 : (st17Ops[0]?).map (·.guard) = some none := by kernel_rfl
      rw [ho] at h1 h2 h3
      replace h1 := Option.some.inj h1
      replace h2 := Option.some.inj h2
      replace h3 := Option.some.inj h3
      simp only at h1 h2 h3
      rw [h1] at hK
      refine ⟨fun _ => ?_, fun hw => by rw [wanted_none h3] at hw; cases hw⟩
      refine wp_moveG _ h2 _ ((hf 8 (by decide)).trans a8) ?_
      rw [h1]
      exact hK _ _ (FlatC.step st17_nd (st17_ks ) rfl hc 0 (by decide) (Below.refl _ _) (fun u hu => by injection hu with hu; injection hu) (trivial))
    · have h1 : (st17Ops[1]?).map (·.dst) = some (some 61) := by kernel_rfl
      have h2 : (st17Ops[1]?).map (·.op) = some (Op.move (Operand.tmp 10)) := by kernel_rfl
      have h3 : (st17Ops[1]?).map (·.guard) = some none := by kernel_rfl
      rw [ho] at h1 h2 h3
      replace h1 := Option.some.inj h1
      replace h2 := Option.some.inj h2
      replace h3 := Option.some.inj h3
      simp only at h1 h2 h3
      rw [h1] at hK
      refine ⟨fun _ => ?_, fun hw => by rw [wanted_none h3] at hw; cases hw⟩
      refine wp_moveG _ h2 _ ((hf 10 (by decide)).trans a10) ?_
      rw [h1]
      exact hK _ _ (FlatC.step st17_nd (st17_ks ) rfl hc 1 (by decide) (Below.refl _ _) (fun u hu => by injection hu with hu; injection hu) (trivial))
    · have h1 : (st17Ops[2]?).map (·.dst) = some (some 62) := by kernel_rfl
      have h2 : (st17Ops[2]?).map (·.op) = some (Op.indexAddr 37 (Operand.tmp 60) (Operand.tmp 61)) := by kernel_rfl
      have h3 : (st17Ops[2]?).map (·.guard) = some none := by kernel_rfl
      rw [ho] at h1 h2 h3
      replace h1 := Option.some.inj h1
      replace h2 := Option.some.inj h2
      replace h3 := Option.some.inj h3
      simp only at h1 h2 h3
      rw [h1] at hK
      have l0 : L 0 = true := hdep 0 (by simp [st17Dep])
      have l1 : L 1 = true := hdep 1 (by simp [st17Dep])
      refine ⟨fun _ => ?_, fun hw => by rw [wanted_none h3] at hw; cases hw⟩
      refine wp_indexAddrG _ _ _ h2 _ _ (show Act.at b 60 = .slice (some ⟨b0, o0, none⟩) n lc from hc.v 0 l0 _ rfl) (show Act.at b 61 = .int .i64 (k : Int) from hc.v 1 l1 _ rfl) (HV2 w) ?_
      rw [h1]
      exact hK _ _ (FlatC.step st17_nd (st17_ks ) rfl hc 2 (by decide) (Below.refl _ _) (fun u hu => by injection hu with hu; injection hu) (trivial))
    · have h1 : (st17Ops[3]?).map (·.dst) = some (some 63) := by kernel_rfl
      have h2 : (st17Ops[3]?).map (·.op) = some (Op.load 3 (Operand.tmp 62)) := by kernel_rfl
      have h3 : (st17Ops[3]?).map (·.guard) = some none := by kernel_rfl
      rw [ho] at h1 h2 h3
      replace h1 := Option.some.inj h1
      replace h2 := Option.some.inj h2
      replace h3 := Option.some.inj h3
      simp only at h1 h2 h3
      rw [h1] at hK
      have l2 : L 2 = true := hdep 2 (by simp [st17Dep])
      refine ⟨fun _ => ?_, fun hw => by rw [wanted_none h3] at hw; cases hw⟩
      refine wp_loadG _ _ h2 _ _ (show Act.at b 62 = .pointer (some ⟨b0, o0 + k, none⟩) from hc.v 2 l2 _ rfl) (HV3 w hbw) ?_
      rw [h1]
      exact hK _ _ (FlatC.step st17_nd (st17_ks ) rfl hc 3 (by decide) (Below.refl _ _) (fun u hu => by injection hu with hu; injection hu) (trivial))
    · have h1 : (st17Ops[4]?).map (·.dst) = some (some 64) := by kernel_rfl
      have h2 : (st17Ops[4]?).map (·.op) = some (Op.move (Operand.tmp 8)) := by kernel_rfl
      have h3 : (st17Ops[4]?).map (·.guard) = some none := by kernel_rfl
      rw [ho] at h1 h2 h3
      replace h1 := Option.some.inj h1
      replace h2 := Option.some.inj h2
      replace h3 := Option.some.inj h3
      simp only at h1 h2 h3
      rw [h1] at hK
      refine ⟨fun _ => ?_, fun hw => by rw [wanted_none h3] at hw; cases hw⟩
      refine wp_moveG _ h2 _ ((hf 8 (by decide)).trans a8) ?_
      rw [h1]
      exact hK _ _ (FlatC.step st17_nd (st17_ks ) rfl hc 4 (by decide) (Below.refl _ _) (fun u hu => by injection hu with hu; injection hu) (trivial))
    · have h1 : (st17Ops[5]?).map (·.dst) = some (some 65) := by kernel_rfl
      have h2 : (st17Ops[5]?).map (·.op) = some (Op.move (Operand.tmp 10)) := by kernel_rfl
      have h3 : (st17Ops[5]?).map (·.guard) = some none := by kernel_rfl
      rw [ho] at h1 h2 h3
      replace h1 := Option.some.inj h1
      replace h2 := Option.some.inj h2
      replace h3 := Option.some.inj h3
      simp only at h1 h2 h3
      rw [h1] at hK
      refine ⟨fun _ => ?_, fun hw => by rw [wanted_none h3] at hw; cases hw⟩
      refine wp_moveG _ h2 _ ((hf 10 (by decide)).trans a10) ?_
      rw [h1]
      exact hK _ _ (FlatC.step st17_nd (st17_ks ) rfl hc 5 (by decide) (Below.refl _ _) (fun u hu => by injection hu with hu; injection hu) (trivial))
    · have h1 : (st17Ops[6]?).map (·.dst) = some (some 66) := by kernel_rfl
      have h2 : (st17Ops[6]?).map (·.op) = some (Op.binOp BinOp.sub 3 (Operand.tmp 65) (Operand.const (Value.int IntKind.i64 1)) 3) := by kernel_rfl
      have h3 : (st17Ops[6]?).map (·.guard) = some none := by kernel_rfl
      rw [ho] at h1 h2 h3
      replace h1 := Option.some.inj h1
      replace h2 := Option.some.inj h2
      replace h3 := Option.some.inj h3
      simp only at h1 h2 h3
      rw [h1] at hK
      have l5 : L 5 = true := hdep 5 (by simp [st17Dep])
      refine ⟨fun _ => ?_, fun hw => by rw [wanted_none h3] at hw; cases hw⟩
      refine wp_binG _ _ _ _ _ h2 _ _ (.int .i64 ((k : Int) - 1)) (show Act.at b 65 = .int .i64 (k : Int) from hc.v 5 l5 _ rfl) rfl (by kernel_rfl) (HB6 w) ?_
      rw [h1]
      exact hK _ _ (FlatC.step st17_nd (st17_ks ) rfl hc 6 (by decide) (Below.refl _ _) (fun u hu => by injection hu with hu; injection hu) (trivial))
    · have h1 : (st17Ops[7]?).map (·.dst) = some (some 67) := by kernel_rfl
      have h2 : (st17Ops[7]?).map (·.op) = some (Op.indexAddr 37 (Operand.tmp 64) (Operand.tmp 66)) := by kernel_rfl
      have h3 : (st17Ops[7]?).map (·.guard) = some none := by kernel_rfl
      rw [ho] at h1 h2 h3
      replace h1 := Option.some.inj h1
      replace h2 := Option.some.inj h2
      replace h3 := Option.some.inj h3
      simp only at h1 h2 h3
      rw [h1] at hK
      have l4 : L 4 = true := hdep 4 (by simp [st17Dep])
      have l6 : L 6 = true := hdep 6 (by simp [st17Dep])
      refine ⟨fun _ => ?_, fun hw => by rw [wanted_none h3] at hw; cases hw⟩
      refine wp_indexAddrG _ _ _ h2 _ _ (show Act.at b 64 = .slice (some ⟨b0, o0, none⟩) n lc from hc.v 4 l4 _ rfl) (show Act.at b 66 = .int .i64 ((k : Int) - 1) from hc.v 6 l6 _ rfl) (HV7 w) ?_
      rw [h1]
      exact hK _ _ (FlatC.step st17_nd (st17_ks ) rfl hc 7 (by decide) (Below.refl _ _) (fun u hu => by injection hu with hu; injection hu) (trivial))
    · have h1 : (st17Ops[8]?).map (·.dst) = some (some 68) := by kernel_rfl
      have h2 : (st17Ops[8]?).map (·.op) = some (Op.load 3 (Operand.tmp 67)) := by kernel_rfl
      have h3 : (st17Ops[8]?).map (·.guard) = some none := by kernel_rfl
      rw [ho] at h1 h2 h3
      replace h1 := Option.some.inj h1
      replace h2 := Option.some.inj h2
      replace h3 := Option.some.inj h3
      simp only at h1 h2 h3
      rw [h1] at hK
      have l7 : L 7 = true := hdep 7 (by simp [st17Dep])
      refine ⟨fun _ => ?_, fun hw => by rw [wanted_none h3] at hw; cases hw⟩
      refine wp_loadG _ _ h2 _ _ (show Act.at b 67 = .pointer (some ⟨b0, o0 + (k - 1), none⟩) from hc.v 7 l7 _ rfl) (HV8 w hbw) ?_
      rw [h1]
      exact hK _ _ (FlatC.step st17_nd (st17_ks ) rfl hc 8 (by decide) (Below.refl _ _) (fun u hu => by injection hu with hu; injection hu) (trivial))
    · have h1 : (st17Ops[9]?).map (·.dst) = some (some 69) := by kernel_rfl
      have h2 : (st17Ops[9]?).map (·.op) = some (Op.binOp BinOp.eql 3 (Operand.tmp 63) (Operand.tmp 68) 3) := by kernel_rfl
      have h3 : (st17Ops[9]?).map (·.guard) = some none := by kernel_rfl
      rw [ho] at h1 h2 h3
      replace h1 := Option.some.inj h1
      replace h2 := Option.some.inj h2
      replace h3 := Option.some.inj h3
      simp only at h1 h2 h3
      rw [h1] at hK
      have l3 : L 3 = true := hdep 3 (by simp [st17Dep])
      have l8 : L 8 = true := hdep 8 (by simp [st17Dep])
      refine ⟨fun _ => ?_, fun hw => by rw [wanted_none h3] at hw; cases hw⟩
      refine wp_binG _ _ _ _ _ h2 _ _ (.bool false) (show Act.at b 63 = .int .i64 x from hc.v 3 l3 _ rfl) (show Act.at b 68 = .int .i64 y from hc.v 8 l8 _ rfl) (by kernel_rfl) (HB9 w) ?_
      rw [h1]
      exact hK _ _ (FlatC.step st17_nd (st17_ks ) rfl hc 9 (by decide) (Below.refl _ _) (fun u hu => by injection hu with hu; injection hu) (trivial))
    · have h1 : (st17Ops[10]?).map (·.dst) = some (some 70) := by kernel_rfl
      have h2 : (st17Ops[10]?).map (·.op) = some (Op.move (Operand.tmp 69)) := by kernel_rfl
      have h3 : (st17Ops[10]?).map (·.guard) = some none := by kernel_rfl
      rw [ho] at h1 h2 h3
      replace h1 := Option.some.inj h1
      replace h2 := Option.some.inj h2
      replace h3 := Option.some.inj h3
      simp only at h1 h2 h3
      rw [h1] at hK
      have l9 : L 9 = true := hdep 9 (by simp [st17Dep])
      refine ⟨fun _ => ?_, fun hw => by rw [wanted_none h3] at hw; cases hw⟩
      refine wp_moveG _ h2 _ (show Act.at b 69 = .bool false from hc.v 9 l9 _ rfl) ?_
      rw [h1]
      exact hK _ _ (FlatC.step st17_nd (st17_ks ) rfl hc 10 (by decide) (Below.refl _ _) (fun u hu => by injection hu with hu; injection hu) (trivial))
    · have h1 : (st17Ops[11]?).map (·.dst) = some (some 71) := by kernel_rfl
      have h2 : (st17Ops[11]?).map (·.op) = some (Op.move (Operand.tmp 8)) := by kernel_rfl
      have h3 : (st17Ops[11]?).map (·.guard) = some (some (10, false)) := by kernel_rfl
      rw [ho] at h1 h2 h3
      replace h1 := Option.some.inj h1
      replace h2 := Option.some.inj h2
      replace h3 := Option.some.inj h3
      simp only at h1 h2 h3
      rw [h1] at hK
      have l10 : L 10 = true := hdep 10 (by simp [st17Dep])
      have hw := wanted_of (ops := st17Ops) (b := b) h3 (d := 70) (by kernel_rfl) (show Act.at b 70 = .bool false from hc.v 10 l10 _ rfl)
      rw [hw]
      refine ⟨fun _ => ?_, fun hq => absurd hq (by decide)⟩
      refine wp_moveG _ h2 _ ((hf 8 (by decide)).trans a8) ?_
      rw [h1]
      exact hK _ _ (FlatC.step st17_nd (st17_ks ) rfl hc 11 (by decide) (Below.refl _ _) (fun u hu => by injection hu with hu; injection hu) (trivial))
    · have h1 : (st17Ops[12]?).map (·.dst) = some (some 72) := by kernel_rfl
      have h2 : (st17Ops[12]?).map (·.op) = some (Op.move (Operand.tmp 10)) := by kernel_rfl
      have h3 : (st17Ops[12]?).map (·.guard) = some (some (10, false)) := by kernel_rfl
      rw [ho] at h1 h2 h3
      replace h1 := Option.some.inj h1
      replace h2 := Option.some.inj h2
      replace h3 := Option.some.inj h3
      simp only at h1 h2 h3
      rw [h1] at hK
      have l10 : L 10 = true := hdep 10 (by simp [st17Dep])
      have hw := wanted_of (ops := st17Ops) (b := b) h3 (d := 70) (by kernel_rfl) (show Act.at b 70 = .bool false from hc.v 10 l10 _ rfl)
      rw [hw]
      refine ⟨fun _ => ?_, fun hq => absurd hq (by decide)⟩
      refine wp_moveG _ h2 _ ((hf 10 (by decide)).trans a10) ?_
      rw [h1]
      exact hK _ _ (FlatC.step st17_nd (st17_ks ) rfl hc 12 (by decide) (Below.refl _ _) (fun u hu => by injection hu with hu; injection hu) (trivial))
    · have h1 : (st17Ops[13]?).map (·.dst) = some (some 73) := by kernel_rfl
      have h2 : (st17Ops[13]?).map (·.op) = some (Op.indexAddr 37 (Operand.tmp 71) (Operand.tmp 72)) := by kernel_rfl
      have h3 : (st17Ops[13]?).map (·.guard) = some (some (10, false)) := by kernel_rfl
      rw [ho] at h1 h2 h3
      replace h1 := Option.some.inj h1
      replace h2 := Option.some.inj h2
      replace h3 := Option.some.inj h3
      simp only at h1 h2 h3
      rw [h1] at hK
      have l10 : L 10 = true := hdep 10 (by simp [st17Dep])
      have l11 : L 11 = true := hdep 11 (by simp [st17Dep])
      have l12 : L 12 = true := hdep 12 (by simp [st17Dep])
      have hw := wanted_of (ops := st17Ops) (b := b) h3 (d := 70) (by kernel_rfl) (show Act.at b 70 = .bool false from hc.v 10 l10 _ rfl)
      rw [hw]
      refine ⟨fun _ => ?_, fun hq => absurd hq (by decide)⟩
      refine wp_indexAddrG _ _ _ h2 _ _ (show Act.at b 71 = .slice (some ⟨b0, o0, none⟩) n lc from hc.v 11 l11 _ rfl) (show Act.at b 72 = .int .i64 (k : Int) from hc.v 12 l12 _ rfl) (HV13 w) ?_
      rw [h1]
      exact hK _ _ (FlatC.step st17_nd (st17_ks ) rfl hc 13 (by decide) (Below.refl _ _) (fun u hu => by injection hu with hu; injection hu) (trivial))
    · have h1 : (st17Ops[14]?).map (·.dst) = some (some 74) := by kernel_rfl
      have h2 : (st17Ops[14]?).map (·.op) = some (Op.load 3 (Operand.tmp 73)) := by kernel_rfl
      have h3 : (st17Ops[14]?).map (·.guard) = some (some (10, false)) := by kernel_rfl
      rw [ho] at h1 h2 h3
      replace h1 := Option.some.inj h1
      replace h2 := Option.some.inj h2
      replace h3 := Option.some.inj h3
      simp only at h1 h2 h3
      rw [h1] at hK
      have l10 : L 10 = true := hdep 10 (by simp [st17Dep])
      have l13 : L 13 = true := hdep 13 (by simp [st17Dep])
      have hw := wanted_of (ops := st17Ops) (b := b) h3 (d := 70) (by kernel_rfl) (show Act.at b 70 = .bool false from hc.v 10 l10 _ rfl)
      rw [hw]
      refine ⟨fun _ => ?_, fun hq => absurd hq (by decide)⟩
      refine wp_loadG _ _ h2 _ _ (show Act.at b 73 = .pointer (some ⟨b0, o0 + k, none⟩) from hc.v 13 l13 _ rfl) (HV14 w hbw) ?_
      rw [h1]
      exact hK _ _ (FlatC.step st17_nd (st17_ks ) rfl hc 14 (by decide) (Below.refl _ _) (fun u hu => by injection hu with hu; injection hu) (trivial))
    · have h1 : (st17Ops[15]?).map (·.dst) = some (some 75) := by kernel_rfl
      have h2 : (st17Ops[15]?).map (·.op) = some (Op.load 33 (Operand.tmp 6)) := by kernel_rfl
      have h3 : (st17Ops[15]?).map (·.guard) = some (some (10, false)) := by kernel_rfl
      rw [ho] at h1 h2 h3
      replace h1 := Option.some.inj h1
      replace h2 := Option.some.inj h2
      replace h3 := Option.some.inj h3
      simp only at h1 h2 h3
      rw [h1] at hK
      have l10 : L 10 = true := hdep 10 (by simp [st17Dep])
      have hw := wanted_of (ops := st17Ops) (b := b) h3 (d := 70) (by kernel_rfl) (show Act.at b 70 = .bool false from hc.v 10 l10 _ rfl)
      rw [hw]
      refine ⟨fun _ => ?_, fun hq => absurd hq (by decide)⟩
      refine wp_load_row 33 (.tmp 6) h2 g6 ((hf 6 (by decide)).trans a6) 33 #[.slice A1 L1 c1, .int .i64 q1] (0, 0) _ ((hbw.block g6 HGg6.lt).trans HGg6) Try.underlying33 rfl (by kernel_rfl) ?_
      rw [h1]
      exact hK _ _ (FlatC.step st17_nd (st17_ks ) rfl hc 15 (by decide) (Below.refl _ _) (fun u hu => by injection hu with hu; injection hu) (trivial))
    · have h1 : (st17Ops[16]?).map (·.dst) = some (some 76) := by kernel_rfl
      have h2 : (st17Ops[16]?).map (·.op) = some (Op.call { callee := Callee.value (Operand.func 14), args := #[Operand.tmp 75], argTypes := #[33] }) := by kernel_rfl
      have h3 : (st17Ops[16]?).map (·.guard) = some (some (10, false)) := by kernel_rfl
      rw [ho] at h1 h2 h3
      replace h1 := Option.some.inj h1
      replace h2 := Option.some.inj h2
      replace h3 := Option.some.inj h3
      simp only at h1 h2 h3
      rw [h1] at hK
      have l10 : L 10 = true := hdep 10 (by simp [st17Dep])
      have l15 : L 15 = true := hdep 15 (by simp [st17Dep])
      have hw := wanted_of (ops := st17Ops) (b := b) h3 (d := 70) (by kernel_rfl) (show Act.at b 70 = .bool false from hc.v 10 l10 _ rfl)
      rw [hw]
      refine ⟨fun _ => ?_, fun hq => absurd hq (by decide)⟩
      refine wp_callG 14 _ _ h2 (enters_of Try.func14 (by kernel_rfl) rfl) #[.agg #[.slice A1 L1 c1, .int .i64 q1]] (by simp [show b.eval (.tmp 75) = _ from (show Act.at b 75 = .agg #[.slice A1 L1 c1, .int .i64 q1] from hc.v 15 l15 _ rfl)]) _ (HC16 w hbw) ?_
      rintro v w2 ⟨rfl, hb2⟩
      rw [h1]
      exact hK _ _ (FlatC.step st17_nd (st17_ks ) rfl hc 16 (by decide) (hb2) (fun u hu => by injection hu with hu; injection hu) (trivial))
    · have h1 : (st17Ops[17]?).map (·.dst) = some (some 77) := by kernel_rfl
      have h2 : (st17Ops[17]?).map (·.op) = some (Op.binOp BinOp.geq 3 (Operand.tmp 74) (Operand.tmp 76) 3) := by kernel_rfl
      have h3 : (st17Ops[17]?).map (·.guard) = some (some (10, false)) := by kernel_rfl
      rw [ho] at h1 h2 h3
      replace h1 := Option.some.inj h1
      replace h2 := Option.some.inj h2
      replace h3 := Option.some.inj h3
      simp only at h1 h2 h3
      rw [h1] at hK
      have l10 : L 10 = true := hdep 10 (by simp [st17Dep])
      have l14 : L 14 = true := hdep 14 (by simp [st17Dep])
      have l16 : L 16 = true := hdep 16 (by simp [st17Dep])
      have hw := wanted_of (ops := st17Ops) (b := b) h3 (d := 70) (by kernel_rfl) (show Act.at b 70 = .bool false from hc.v 10 l10 _ rfl)
      rw [hw]
      refine ⟨fun _ => ?_, fun hq => absurd hq (by decide)⟩
      refine wp_binG _ _ _ _ _ h2 _ _ (.bool false) (show Act.at b 74 = .int .i64 x from hc.v 14 l14 _ rfl) (show Act.at b 76 = .int .i64 (L1 : Int) from hc.v 16 l16 _ rfl) (by kernel_rfl) (HB17 w) ?_
      rw [h1]
      exact hK _ _ (FlatC.step st17_nd (st17_ks ) rfl hc 17 (by decide) (Below.refl _ _) (fun u hu => by injection hu with hu; injection hu) (trivial))
    · have h1 : (st17Ops[18]?).map (·.dst) = some (some 78) := by kernel_rfl
      have h2 : (st17Ops[18]?).map (·.op) = some (Op.pick (Operand.tmp 70) (Operand.const (Value.bool true)) (Operand.tmp 77)) := by kernel_rfl
      have h3 : (st17Ops[18]?).map (·.guard) = some none := by kernel_rfl
      rw [ho] at h1 h2 h3
      replace h1 := Option.some.inj h1
      replace h2 := Option.some.inj h2
      replace h3 := Option.some.inj h3
      simp only at h1 h2 h3
      rw [h1] at hK
      have l10 : L 10 = true := hdep 10 (by simp [st17Dep])
      have l17 : L 17 = true := hdep 17 (by simp [st17Dep])
      refine ⟨fun _ => ?_, fun hw => by rw [wanted_none h3] at hw; cases hw⟩
      refine wp_pickG _ _ _ h2 false (show Act.at b 70 = .bool false from hc.v 10 l10 _ rfl) _ (if_neg (by decide) |>.trans (show Act.at b 77 = .bool false from hc.v 17 l17 _ rfl)) ?_
      rw [h1]
      exact hK _ _ (FlatC.step st17_nd (st17_ks ) rfl hc 18 (by decide) (Below.refl _ _) (fun u hu => by injection hu with hu; injection hu) (trivial))
  · rintro L b w hL hd hs hf hc
    have hsz2 : st17Ops.size = 19 := rfl
    rw [hsz2] at hL
    have e := act_eq (a := A0) (b := b) (st17Us (Act.at b)) hd hs hf (by
      intro p hp
      simp only [st17Us, List.mem_cons, List.not_mem_nil, or_false] at hp
      rcases hp with rfl | rfl | rfl | rfl | rfl | rfl | rfl | rfl | rfl | rfl | rfl | rfl | rfl | rfl | rfl | rfl | rfl | rfl | rfl <;> rfl) (by rw [show (st17Us (Act.at b)).map (·.1) = [60, 61, 62, 63, 64, 65, 66, 67, 68, 69, 70, 71, 72, 73, 74, 75, 76, 77, 78] from rfl]; decide)
    rw [e]
    exact hk (Act.at b) w (hc.v 18 (hL 18 (by omega)) _ rfl) ⟨hc.bel.os, hc.bel.tape, hc.bel.output, hc.bel.size, hc.bel.block⟩
def st21Ops : Array Oper := #[{ dst := some 90, op := Op.load 33 (Operand.tmp 6), type := 33, pos := "law.go:81", after := #[], guard := none }, { dst := some 91, op := Op.call { callee := Callee.value (Operand.func 15), args := #[Operand.tmp 90, Operand.const (Value.slice none 0 0), Operand.const (Value.int IntKind.u8 97)], argTypes := #[33, 37, 5] }, type := 37, pos := "law.go:81", after := #[{ on := 0, ground := Ground.data }], guard := none }, { dst := some 92, op := Op.call { callee := Callee.builtin Builtin.len, args := #[Operand.tmp 91], argTypes := #[37] }, type := 3, pos := "law.go:81", after := #[{ on := 1, ground := Ground.data }], guard := none }, { dst := some 93, op := Op.binOp BinOp.eql 3 (Operand.tmp 92) (Operand.const (Value.int IntKind.i64 0)) 3, type := 4, pos := "law.go:81", after := #[{ on := 2, ground := Ground.data }], guard := none }, { dst := some 94, op := Op.move (Operand.tmp 93), type := 4, pos := "law.go:81", after := #[{ on := 3, ground := Ground.data }, { on := 1, ground := Ground.chain }], guard := none }, { dst := some 95, op := Op.load 33 (Operand.tmp 6), type := 33, pos := "law.go:81", after := #[{ on := 4, ground := Ground.guard }], guard := some (4, true) }, { dst := some 96, op := Op.load 33 (Operand.tmp 6), type := 33, pos := "law.go:81", after := #[{ on := 4, ground := Ground.guard }], guard := some (4, true) }, { dst := some 97, op := Op.call { callee := Callee.value (Operand.func 14), args := #[Operand.tmp 96], argTypes := #[33] }, type := 3, pos := "law.go:81", after := #[{ on := 6, ground := Ground.data }, { on := 4, ground := Ground.chain }, { on := 4, ground := Ground.guard }], guard := some (4, true) }, { dst := some 98, op := Op.buildSlice 37 2 #[(0, Operand.const (Value.int IntKind.i64 (-1))), (1, Operand.tmp 97)], type := 37, pos := "law.go:81", after := #[{ on := 7, ground := Ground.data }, { on := 4, ground := Ground.guard }], guard := some (4, true) }, { dst := some 99, op := Op.call { callee := Callee.value (Operand.func 15), args := #[Operand.tmp 95, Operand.tmp 98, Operand.const (Value.int IntKind.u8 97)], argTypes := #[33, 37, 5] }, type := 37, pos := "law.go:81", after := #[{ on := 5, ground := Ground.data }, { on := 8, ground := Ground.data }, { on := 7, ground := Ground.chain }, { on := 4, ground := Ground.guard }], guard := some (4, true) }, { dst := some 100, op := Op.call { callee := Callee.builtin Builtin.len, args := #[Operand.tmp 99], argTypes := #[37] }, type := 3, pos := "law.go:81", after := #[{ on := 9, ground := Ground.data }, { on := 4, ground := Ground.guard }], guard := some (4, true) }, { dst := some 101, op := Op.binOp BinOp.eql 3 (Operand.tmp 100) (Operand.const (Value.int IntKind.i64 0)) 3, type := 4, pos := "law.go:81", after := #[{ on := 10, ground := Ground.data }, { on := 4, ground := Ground.guard }], guard := some (4, true) }, { dst := some 102, op := Op.pick (Operand.tmp 94) (Operand.tmp 101) (Operand.const (Value.bool false)), type := 4, pos := "law.go:81", after := #[{ on := 4, ground := Ground.data }, { on := 11, ground := Ground.data }], guard := none }, { dst := some 103, op := Op.move (Operand.tmp 102), type := 4, pos := "law.go:81", after := #[{ on := 12, ground := Ground.data }, { on := 9, ground := Ground.chain }], guard := none }, { dst := some 104, op := Op.load 33 (Operand.tmp 6), type := 33, pos := "law.go:81", after := #[{ on := 13, ground := Ground.guard }], guard := some (13, true) }, { dst := some 105, op := Op.buildSlice 37 1 #[(0, Operand.const (Value.int IntKind.i64 (-5)))], type := 37, pos := "law.go:81", after := #[{ on := 13, ground := Ground.guard }], guard := some (13, true) }, { dst := some 106, op := Op.call { callee := Callee.value (Operand.func 13), args := #[Operand.tmp 104, Operand.tmp 105], argTypes := #[33, 37] }, type := 37, pos := "law.go:81", after := #[{ on := 14, ground := Ground.data }, { on := 15, ground := Ground.data }, { on := 13, ground := Ground.chain }, { on := 13, ground := Ground.guard }], guard := some (13, true) }, { dst := some 107, op := Op.call { callee := Callee.builtin Builtin.len, args := #[Operand.tmp 106], argTypes := #[37] }, type := 3, pos := "law.go:81", after := #[{ on := 16, ground := Ground.data }, { on := 13, ground := Ground.guard }], guard := some (13, true) }, { dst := some 108, op := Op.binOp BinOp.eql 3 (Operand.tmp 107) (Operand.const (Value.int IntKind.i64 0)) 3, type := 4, pos := "law.go:81", after := #[{ on := 17, ground := Ground.data }, { on := 13, ground := Ground.guard }], guard := some (13, true) }, { dst := some 109, op := Op.pick (Operand.tmp 103) (Operand.tmp 108) (Operand.const (Value.bool false)), type := 4, pos := "law.go:81", after := #[{ on := 13, ground := Ground.data }, { on := 18, ground := Ground.data }], guard := none }, { dst := some 4, op := Op.assign (Operand.tmp 109), type := 4, pos := "law.go:81", after := #[{ on := 19, ground := Ground.data }, { on := 16, ground := Ground.chain }, { on := 0, ground := Ground.phase }, { on := 1, ground := Ground.phase }, { on := 2, ground := Ground.phase }, { on := 3, ground := Ground.phase }, { on := 4, ground := Ground.phase }, { on := 5, ground := Ground.phase }, { on := 6, ground := Ground.phase }, { on := 7, ground := Ground.phase }, { on := 8, ground := Ground.phase }, { on := 9, ground := Ground.phase }, { on := 10, ground := Ground.phase }, { on := 11, ground := Ground.phase }, { on := 12, ground := Ground.phase }, { on := 13, ground := Ground.phase }, { on := 14, ground := Ground.phase }, { on := 15, ground := Ground.phase }, { on := 16, ground := Ground.phase }, { on := 17, ground := Ground.phase }, { on := 18, ground := Ground.phase }, { on := 19, ground := Ground.phase }], guard := none }]
def st21Dep : Nat → List Nat := fun i => match i with | 1 => [0] | 2 => [1] | 3 => [2] | 4 => [3] | 5 => [4] | 6 => [4] | 7 => [4, 6] | 8 => [4, 7] | 9 => [4, 5, 8] | 10 => [4, 9] | 11 => [4, 10] | 12 => [4, 11] | 13 => [12] | 14 => [13] | 15 => [13] | 16 => [13, 14, 15] | 17 => [13, 16] | 18 => [13, 17] | 19 => [13, 18] | 20 => [19] | _ => []
def st21Sl : List Nat := [90, 91, 92, 93, 94, 95, 96, 97, 98, 99, 100, 101, 102, 103, 104, 105, 106, 107, 108, 109, 4]
def st21Vs (g6 : Nat) (L1 : Nat) (A1 : Option Addr) (c1 : Nat) (q1 : Int) : List (Option Value) := [some (.agg #[.slice A1 L1 c1, .int .i64 q1]), none, some (.int .i64 0), some (.bool true), some (.bool true), some (.agg #[.slice A1 L1 c1, .int .i64 q1]), some (.agg #[.slice A1 L1 c1, .int .i64 q1]), some (.int .i64 (L1 : Int)), none, none, some (.int .i64 0), some (.bool true), some (.bool true), some (.bool true), some (.agg #[.slice A1 L1 c1, .int .i64 q1]), none, none, some (.int .i64 0), some (.bool true), some (.bool true), some (.bool true)]
def st21Sp (R : Value → World → Prop) (R2 : Value → World → Prop) (R1 : Value → World → Prop) (i : Nat) : Value → World → Prop := match i with | 1 => R | 9 => R | 16 => R | 8 => R2 | 15 => R1 | _ => fun _ _ => True
theorem st21_ks {R : Value → World → Prop} {R2 : Value → World → Prop} {R1 : Value → World → Prop} (kR : ∀ v w w', R v w → Below w.heap.size w w' → R v w') (kR2 : ∀ v w w', R2 v w → Below w.heap.size w w' → R2 v w') (kR1 : ∀ v w w', R1 v w → Below w.heap.size w w' → R1 v w') : ∀ i v w w', st21Sp R R2 R1 i v w → Below w.heap.size w w' → st21Sp R R2 R1 i v w' := by
  intro i v w w' h hb
  unfold st21Sp at h ⊢
  split <;> first | trivial | exact kR _ _ _ h hb | exact kR2 _ _ _ h hb | exact kR1 _ _ _ h hb
theorem st21_nd : st21Sl.Nodup := by decide
def st21Us (f : Nat → Value) : List (Nat × Value) := [(90, f 90), (91, f 91), (92, f 92), (93, f 93), (94, f 94), (95, f 95), (96, f 96), (97, f 97), (98, f 98), (99, f 99), (100, f 100), (101, f 101), (102, f 102), (103, f 103), (104, f 104), (105, f 105), (106, f 106), (107, f 107), (108, f 108), (109, f 109), (4, f 4)]
set_option maxRecDepth 20000 in
set_option maxHeartbeats 4000000 in
theorem st21_reg {g6 : Nat} {L1 : Nat} {A1 : Option Addr} {c1 : Nat} {q1 : Int} {R : Value → World → Prop} {R2 : Value → World → Prop} {R1 : Value → World → Prop} {W : World} {A0 : Act} {Q : Exit → Act → World → Prop} {id : Nat} (a6 : Act.at A0 6 = .pointer (some ⟨g6, 0, none⟩)) (hsz : 110 ≤ A0.tmps.size) (kR : ∀ v w w', R v w → Below w.heap.size w w' → R v w') (kR2 : ∀ v w w', R2 v w → Below w.heap.size w w' → R2 v w') (kR1 : ∀ v w w', R1 v w → Below w.heap.size w w' → R1 v w') (HGg6 : Blk W g6 33 [.slice A1 L1 c1, .int .i64 q1]) (HC1 : ∀ w, Below W.heap.size W w → Calls Try.prog 15 #[.agg #[.slice A1 L1 c1, .int .i64 q1], Value.slice none 0 0, .int .u8 97] w fun e w' => ∃ v, e = .returned v ∧ R v w' ∧ Below w.heap.size w w') (HC7 : ∀ w, Below W.heap.size W w → Calls Try.prog 14 #[.agg #[.slice A1 L1 c1, .int .i64 q1]] w fun e w' => ∃ v, e = .returned v ∧ v = .int .i64 (L1 : Int) ∧ Below w.heap.size w w') (HC9 : ∀ w u8, Below W.heap.size W w → R2 u8 w → Calls Try.prog 15 #[.agg #[.slice A1 L1 c1, .int .i64 q1], u8, .int .u8 97] w fun e w' => ∃ v, e = .returned v ∧ R v w' ∧ Below w.heap.size w w') (HC16 : ∀ w u15, Below W.heap.size W w → R1 u15 w → Calls Try.prog 13 #[.agg #[.slice A1 L1 c1, .int .i64 q1], u15] w fun e w' => ∃ v, e = .returned v ∧ R v w' ∧ Below w.heap.size w w') (kRN : ∀ v w, R v w → ∃ A c, v = .slice A 0 c)
    (HA8 : ∀ w : World, (Instr.buildSlice 37 2 #[(0, .int .i64 (-1)), (1, .int .i64 (L1 : Int))]).run Try.prog w = .ok (.slice (some ⟨w.heap.size, 0, none⟩) 2 2) (w.alloc (.cells #[.int .i64 (-1), .int .i64 (L1 : Int)] 3)))
    (HP8 : ∀ w : World, R2 (.slice (some ⟨w.heap.size, 0, none⟩) 2 2) (w.alloc (.cells #[.int .i64 (-1), .int .i64 (L1 : Int)] 3)))
    (HA15 : ∀ w : World, (Instr.buildSlice 37 1 #[(0, .int .i64 (-5))]).run Try.prog w = .ok (.slice (some ⟨w.heap.size, 0, none⟩) 1 1) (w.alloc (.cells #[.int .i64 (-5)] 3)))
    (HP15 : ∀ w : World, R1 (.slice (some ⟨w.heap.size, 0, none⟩) 1 1) (w.alloc (.cells #[.int .i64 (-5)] 3)))
    (hk : ∀ (f : Nat → Value) w', f 4 = .bool true → Below W.heap.size W w' → Q .normal ⟨(st21Us f).foldl (fun A p => A.setIfInBounds p.1 p.2) A0.tmps, A0.defers⟩ w') :
    (Code.region id st21Ops true).wp Try.prog Q A0 W := by
  refine wp_region_fun3 (by kernel_rfl) (fun L f w => FlatC W.drew st21Sl (st21Vs g6 L1 A1 c1 q1) (st21Sp R R2 R1) L f w) [90, 91, 92, 93, 94, 95, 96, 97, 98, 99, 100, 101, 102, 103, 104, 105, 106, 107, 108, 109, 4] (fun i o ho => (wf_ops3 (ops := st21Ops) (by kernel_rfl)) i o ho) (fun i o ho u hu => ?_) ?_ ?_ ?_
  · have := ops_dst [90, 91, 92, 93, 94, 95, 96, 97, 98, 99, 100, 101, 102, 103, 104, 105, 106, 107, 108, 109, 4] 110 (by kernel_rfl) i o ho u hu
    exact ⟨this.1, Nat.lt_of_lt_of_le this.2 hsz⟩
  · have hs : st21Ops.size = 21 := rfl
    rw [hs]
    exact FlatC.start rfl rfl
  · rintro L i o ho hLi haf b w hf hc K hK
    have hdep := ops_deps st21Dep (by kernel_rfl) ho haf
    clear haf
    have hbw : Below W.heap.size W w := ⟨hc.bel.os, hc.bel.tape, hc.bel.output, hc.bel.size, hc.bel.block⟩
    have hs : st21Ops.size = 21 := rfl
    have hlt : i < 21 := hs ▸ (Array.getElem?_eq_some_iff.1 ho).1
    have hcases : i = 0 ∨ i = 1 ∨ i = 2 ∨ i = 3 ∨ i = 4 ∨ i = 5 ∨ i = 6 ∨ i = 7 ∨ i = 8 ∨ i = 9 ∨ i = 10 ∨ i = 11 ∨ i = 12 ∨ i = 13 ∨ i = 14 ∨ i = 15 ∨ i = 16 ∨ i = 17 ∨ i = 18 ∨ i = 19 ∨ i = 20 := by omega
    clear hlt
    rcases hcases with rfl | rfl | rfl | rfl | rfl | rfl | rfl | rfl | rfl | rfl | rfl | rfl | rfl | rfl | rfl | rfl | rfl | rfl | rfl | rfl | rfl
    · have h1 : (st21Ops[0]?).map (·.dst) = some (some 90) := by kernel_rfl
      have h2 : (st21Ops[0]?).map (·.op) = some (Op.load 33 (Operand.tmp 6)) := by kernel_rfl
      have h3 : (st21Ops[0]?).map (·.guard) = some none := by kernel_rfl
      rw [ho] at h1 h2 h3
      replace h1 := Option.some.inj h1
      replace h2 := Option.some.inj h2
      replace h3 := Option.some.inj h3
      simp only at h1 h2 h3
      rw [h1] at hK
      refine ⟨fun _ => ?_, fun hw => by rw [wanted_none h3] at hw; cases hw⟩
      refine wp_load_row 33 (.tmp 6) h2 g6 ((hf 6 (by decide)).trans a6) 33 #[.slice A1 L1 c1, .int .i64 q1] (0, 0) _ ((hbw.block g6 HGg6.lt).trans HGg6) Try.underlying33 rfl (by kernel_rfl) ?_
      rw [h1]
      exact hK _ _ (FlatC.step st21_nd (st21_ks kR kR2 kR1) rfl hc 0 (by decide) (Below.refl _ _) (fun u hu => by injection hu with hu; injection hu) (trivial))
    · have h1 : (st21Ops[1]?).map (·.dst) = some (some 91) := by kernel_rfl
      have h2 : (st21Ops[1]?).map (·.op) = some (Op.call { callee := Callee.value (Operand.func 15), args := #[Operand.tmp 90, Operand.const (Value.slice none 0 0), Operand.const (Value.int IntKind.u8 97)], argTypes := #[33, 37, 5] }) := by kernel_rfl
      have h3 : (st21Ops[1]?).map (·.guard) = some none := by kernel_rfl
      rw [ho] at h1 h2 h3
      replace h1 := Option.some.inj h1
      replace h2 := Option.some.inj h2
      replace h3 := Option.some.inj h3
      simp only at h1 h2 h3
      rw [h1] at hK
      have l0 : L 0 = true := hdep 0 (by simp [st21Dep])
      refine ⟨fun _ => ?_, fun hw => by rw [wanted_none h3] at hw; cases hw⟩
      refine wp_callG 15 _ _ h2 (enters_of Try.func15 (by kernel_rfl) rfl) #[.agg #[.slice A1 L1 c1, .int .i64 q1], Value.slice none 0 0, .int .u8 97] (by simp [show b.eval (.tmp 90) = _ from (show Act.at b 90 = .agg #[.slice A1 L1 c1, .int .i64 q1] from hc.v 0 l0 _ rfl), show b.eval (Operand.const (Value.slice none 0 0)) = Value.slice none 0 0 from rfl, show b.eval (Operand.const (Value.int IntKind.u8 97)) = .int .u8 97 from rfl]) _ (HC1 w hbw) ?_
      rintro v w2 ⟨hp2, hb2⟩
      rw [h1]
      exact hK _ _ (FlatC.step st21_nd (st21_ks kR kR2 kR1) rfl hc 1 (by decide) (hb2) (fun u hu => by cases hu) (hp2))
    · have h1 : (st21Ops[2]?).map (·.dst) = some (some 92) := by kernel_rfl
      have h2 : (st21Ops[2]?).map (·.op) = some (Op.call { callee := Callee.builtin Builtin.len, args := #[Operand.tmp 91], argTypes := #[37] }) := by kernel_rfl
      have h3 : (st21Ops[2]?).map (·.guard) = some none := by kernel_rfl
      rw [ho] at h1 h2 h3
      replace h1 := Option.some.inj h1
      replace h2 := Option.some.inj h2
      replace h3 := Option.some.inj h3
      simp only at h1 h2 h3
      rw [h1] at hK
      have l1 : L 1 = true := hdep 1 (by simp [st21Dep])
      refine ⟨fun _ => ?_, fun hw => by rw [wanted_none h3] at hw; cases hw⟩
      obtain ⟨A9, c9, hv⟩ := kRN _ _ (hc.s 1 l1 (by decide))
      refine wp_lenS _ _ h2 ⟨_, Try.underlying37⟩ A9 0 c9 (show Act.at b 91 = _ from hv) ?_
      rw [h1]
      exact hK _ _ (FlatC.step st21_nd (st21_ks kR kR2 kR1) rfl hc 2 (by decide) (Below.refl _ _) (fun u hu => by injection hu with hu; injection hu) (trivial))
    · have h1 : (st21Ops[3]?).map (·.dst) = some (some 93) := by kernel_rfl
      have h2 : (st21Ops[3]?).map (·.op) = some (Op.binOp BinOp.eql 3 (Operand.tmp 92) (Operand.const (Value.int IntKind.i64 0)) 3) := by kernel_rfl
      have h3 : (st21Ops[3]?).map (·.guard) = some none := by kernel_rfl
      rw [ho] at h1 h2 h3
      replace h1 := Option.some.inj h1
      replace h2 := Option.some.inj h2
      replace h3 := Option.some.inj h3
      simp only at h1 h2 h3
      rw [h1] at hK
      have l2 : L 2 = true := hdep 2 (by simp [st21Dep])
      refine ⟨fun _ => ?_, fun hw => by rw [wanted_none h3] at hw; cases hw⟩
      refine wp_binG _ _ _ _ _ h2 _ _ (.bool true) (show Act.at b 92 = .int .i64 0 from hc.v 2 l2 _ rfl) rfl (by kernel_rfl) (by kernel_rfl) ?_
      rw [h1]
      exact hK _ _ (FlatC.step st21_nd (st21_ks kR kR2 kR1) rfl hc 3 (by decide) (Below.refl _ _) (fun u hu => by injection hu with hu; injection hu) (trivial))
    · have h1 : (st21Ops[4]?).map (·.dst) = some (some 94) := by kernel_rfl
      have h2 : (st21Ops[4]?).map (·.op) = some (Op.move (Operand.tmp 93)) := by kernel_rfl
      have h3 : (st21Ops[4]?).map (·.guard) = some none := by kernel_rfl
      rw [ho] at h1 h2 h3
      replace h1 := Option.some.inj h1
      replace h2 := Option.some.inj h2
      replace h3 := Option.some.inj h3
      simp only at h1 h2 h3
      rw [h1] at hK
      have l3 : L 3 = true := hdep 3 (by simp [st21Dep])
      refine ⟨fun _ => ?_, fun hw => by rw [wanted_none h3] at hw; cases hw⟩
      refine wp_moveG _ h2 _ (show Act.at b 93 = .bool true from hc.v 3 l3 _ rfl) ?_
      rw [h1]
      exact hK _ _ (FlatC.step st21_nd (st21_ks kR kR2 kR1) rfl hc 4 (by decide) (Below.refl _ _) (fun u hu => by injection hu with hu; injection hu) (trivial))
    · have h1 : (st21Ops[5]?).map (·.dst) = some (some 95) := by kernel_rfl
      have h2 : (st21Ops[5]?).map (·.op) = some (Op.load 33 (Operand.tmp 6)) := by kernel_rfl
      have h3 : (st21Ops[5]?).map (·.guard) = some (some (4, true)) := by kernel_rfl
      rw [ho] at h1 h2 h3
      replace h1 := Option.some.inj h1
      replace h2 := Option.some.inj h2
      replace h3 := Option.some.inj h3
      simp only at h1 h2 h3
      rw [h1] at hK
      have l4 : L 4 = true := hdep 4 (by simp [st21Dep])
      have hw := wanted_of (ops := st21Ops) (b := b) h3 (d := 94) (by kernel_rfl) (show Act.at b 94 = .bool true from hc.v 4 l4 _ rfl)
      rw [hw]
      refine ⟨fun _ => ?_, fun hq => absurd hq (by decide)⟩
      refine wp_load_row 33 (.tmp 6) h2 g6 ((hf 6 (by decide)).trans a6) 33 #[.slice A1 L1 c1, .int .i64 q1] (0, 0) _ ((hbw.block g6 HGg6.lt).trans HGg6) Try.underlying33 rfl (by kernel_rfl) ?_
      rw [h1]
      exact hK _ _ (FlatC.step st21_nd (st21_ks kR kR2 kR1) rfl hc 5 (by decide) (Below.refl _ _) (fun u hu => by injection hu with hu; injection hu) (trivial))
    · have h1 : (st21Ops[6]?).map (·.dst) = some (some 96) := by kernel_rfl
      have h2 : (st21Ops[6]?).map (·.op) = some (Op.load 33 (Operand.tmp 6)) := by kernel_rfl
      have h3 : (st21Ops[6]?).map (·.guard) = some (some (4, true)) := by kernel_rfl
      rw [ho] at h1 h2 h3
      replace h1 := Option.some.inj h1
      replace h2 := Option.some.inj h2
      replace h3 := Option.some.inj h3
      simp only at h1 h2 h3
      rw [h1] at hK
      have l4 : L 4 = true := hdep 4 (by simp [st21Dep])
      have hw := wanted_of (ops := st21Ops) (b := b) h3 (d := 94) (by kernel_rfl) (show Act.at b 94 = .bool true from hc.v 4 l4 _ rfl)
      rw [hw]
      refine ⟨fun _ => ?_, fun hq => absurd hq (by decide)⟩
      refine wp_load_row 33 (.tmp 6) h2 g6 ((hf 6 (by decide)).trans a6) 33 #[.slice A1 L1 c1, .int .i64 q1] (0, 0) _ ((hbw.block g6 HGg6.lt).trans HGg6) Try.underlying33 rfl (by kernel_rfl) ?_
      rw [h1]
      exact hK _ _ (FlatC.step st21_nd (st21_ks kR kR2 kR1) rfl hc 6 (by decide) (Below.refl _ _) (fun u hu => by injection hu with hu; injection hu) (trivial))
    · have h1 : (st21Ops[7]?).map (·.dst) = some (some 97) := by kernel_rfl
      have h2 : (st21Ops[7]?).map (·.op) = some (Op.call { callee := Callee.value (Operand.func 14), args := #[Operand.tmp 96], argTypes := #[33] }) := by kernel_rfl
      have h3 : (st21Ops[7]?).map (·.guard) = some (some (4, true)) := by kernel_rfl
      rw [ho] at h1 h2 h3
      replace h1 := Option.some.inj h1
      replace h2 := Option.some.inj h2
      replace h3 := Option.some.inj h3
      simp only at h1 h2 h3
      rw [h1] at hK
      have l4 : L 4 = true := hdep 4 (by simp [st21Dep])
      have l6 : L 6 = true := hdep 6 (by simp [st21Dep])
      have hw := wanted_of (ops := st21Ops) (b := b) h3 (d := 94) (by kernel_rfl) (show Act.at b 94 = .bool true from hc.v 4 l4 _ rfl)
      rw [hw]
      refine ⟨fun _ => ?_, fun hq => absurd hq (by decide)⟩
      refine wp_callG 14 _ _ h2 (enters_of Try.func14 (by kernel_rfl) rfl) #[.agg #[.slice A1 L1 c1, .int .i64 q1]] (by simp [show b.eval (.tmp 96) = _ from (show Act.at b 96 = .agg #[.slice A1 L1 c1, .int .i64 q1] from hc.v 6 l6 _ rfl)]) _ (HC7 w hbw) ?_
      rintro v w2 ⟨rfl, hb2⟩
      rw [h1]
      exact hK _ _ (FlatC.step st21_nd (st21_ks kR kR2 kR1) rfl hc 7 (by decide) (hb2) (fun u hu => by injection hu with hu; injection hu) (trivial))
    · have h1 : (st21Ops[8]?).map (·.dst) = some (some 98) := by kernel_rfl
      have h2 : (st21Ops[8]?).map (·.op) = some (Op.buildSlice 37 2 #[(0, Operand.const (Value.int IntKind.i64 (-1))), (1, Operand.tmp 97)]) := by kernel_rfl
      have h3 : (st21Ops[8]?).map (·.guard) = some (some (4, true)) := by kernel_rfl
      rw [ho] at h1 h2 h3
      replace h1 := Option.some.inj h1
      replace h2 := Option.some.inj h2
      replace h3 := Option.some.inj h3
      simp only at h1 h2 h3
      rw [h1] at hK
      have l4 : L 4 = true := hdep 4 (by simp [st21Dep])
      have l7 : L 7 = true := hdep 7 (by simp [st21Dep])
      have hw := wanted_of (ops := st21Ops) (b := b) h3 (d := 94) (by kernel_rfl) (show Act.at b 94 = .bool true from hc.v 4 l4 _ rfl)
      rw [hw]
      refine ⟨fun _ => ?_, fun hq => absurd hq (by decide)⟩
      refine wp_bslice2G _ _ _ _ _ _ h2 _ _ rfl (show Act.at b 97 = .int .i64 (L1 : Int) from hc.v 7 l7 _ rfl) (HA8 w) ?_
      have hb2 := (Below.refl w.heap.size w).alloc (Nat.le_refl _) (.cells #[.int .i64 (-1), .int .i64 (L1 : Int)] 3)
      have hp2 := HP8 w
      rw [h1]
      exact hK _ _ (FlatC.step st21_nd (st21_ks kR kR2 kR1) rfl hc 8 (by decide) (hb2) (fun u hu => by cases hu) (hp2))
    · have h1 : (st21Ops[9]?).map (·.dst) = some (some 99) := by kernel_rfl
      have h2 : (st21Ops[9]?).map (·.op) = some (Op.call { callee := Callee.value (Operand.func 15), args := #[Operand.tmp 95, Operand.tmp 98, Operand.const (Value.int IntKind.u8 97)], argTypes := #[33, 37, 5] }) := by kernel_rfl
      have h3 : (st21Ops[9]?).map (·.guard) = some (some (4, true)) := by kernel_rfl
      rw [ho] at h1 h2 h3
      replace h1 := Option.some.inj h1
      replace h2 := Option.some.inj h2
      replace h3 := Option.some.inj h3
      simp only at h1 h2 h3
      rw [h1] at hK
      have l4 : L 4 = true := hdep 4 (by simp [st21Dep])
      have l5 : L 5 = true := hdep 5 (by simp [st21Dep])
      have l8 : L 8 = true := hdep 8 (by simp [st21Dep])
      have hw := wanted_of (ops := st21Ops) (b := b) h3 (d := 94) (by kernel_rfl) (show Act.at b 94 = .bool true from hc.v 4 l4 _ rfl)
      rw [hw]
      refine ⟨fun _ => ?_, fun hq => absurd hq (by decide)⟩
      refine wp_callG 15 _ _ h2 (enters_of Try.func15 (by kernel_rfl) rfl) #[.agg #[.slice A1 L1 c1, .int .i64 q1], (Act.at b 98), .int .u8 97] (by simp [show b.eval (.tmp 95) = _ from (show Act.at b 95 = .agg #[.slice A1 L1 c1, .int .i64 q1] from hc.v 5 l5 _ rfl), show b.eval (.tmp 98) = Act.at b 98 from rfl, show b.eval (Operand.const (Value.int IntKind.u8 97)) = .int .u8 97 from rfl]) _ (HC9 w (Act.at b 98) hbw (hc.s 8 l8 (by decide))) ?_
      rintro v w2 ⟨hp2, hb2⟩
      rw [h1]
      exact hK _ _ (FlatC.step st21_nd (st21_ks kR kR2 kR1) rfl hc 9 (by decide) (hb2) (fun u hu => by cases hu) (hp2))
    · have h1 : (st21Ops[10]?).map (·.dst) = some (some 100) := by kernel_rfl
      have h2 : (st21Ops[10]?).map (·.op) = some (Op.call { callee := Callee.builtin Builtin.len, args := #[Operand.tmp 99], argTypes := #[37] }) := by kernel_rfl
      have h3 : (st21Ops[10]?).map (·.guard) = some (some (4, true)) := by kernel_rfl
      rw [ho] at h1 h2 h3
      replace h1 := Option.some.inj h1
      replace h2 := Option.some.inj h2
      replace h3 := Option.some.inj h3
      simp only at h1 h2 h3
      rw [h1] at hK
      have l4 : L 4 = true := hdep 4 (by simp [st21Dep])
      have l9 : L 9 = true := hdep 9 (by simp [st21Dep])
      have hw := wanted_of (ops := st21Ops) (b := b) h3 (d := 94) (by kernel_rfl) (show Act.at b 94 = .bool true from hc.v 4 l4 _ rfl)
      rw [hw]
      refine ⟨fun _ => ?_, fun hq => absurd hq (by decide)⟩
      obtain ⟨A9, c9, hv⟩ := kRN _ _ (hc.s 9 l9 (by decide))
      refine wp_lenS _ _ h2 ⟨_, Try.underlying37⟩ A9 0 c9 (show Act.at b 99 = _ from hv) ?_
      rw [h1]
      exact hK _ _ (FlatC.step st21_nd (st21_ks kR kR2 kR1) rfl hc 10 (by decide) (Below.refl _ _) (fun u hu => by injection hu with hu; injection hu) (trivial))
    · have h1 : (st21Ops[11]?).map (·.dst) = some (some 101) := by kernel_rfl
      have h2 : (st21Ops[11]?).map (·.op) = some (Op.binOp BinOp.eql 3 (Operand.tmp 100) (Operand.const (Value.int IntKind.i64 0)) 3) := by kernel_rfl
      have h3 : (st21Ops[11]?).map (·.guard) = some (some (4, true)) := by kernel_rfl
      rw [ho] at h1 h2 h3
      replace h1 := Option.some.inj h1
      replace h2 := Option.some.inj h2
      replace h3 := Option.some.inj h3
      simp only at h1 h2 h3
      rw [h1] at hK
      have l4 : L 4 = true := hdep 4 (by simp [st21Dep])
      have l10 : L 10 = true := hdep 10 (by simp [st21Dep])
      have hw := wanted_of (ops := st21Ops) (b := b) h3 (d := 94) (by kernel_rfl) (show Act.at b 94 = .bool true from hc.v 4 l4 _ rfl)
      rw [hw]
      refine ⟨fun _ => ?_, fun hq => absurd hq (by decide)⟩
      refine wp_binG _ _ _ _ _ h2 _ _ (.bool true) (show Act.at b 100 = .int .i64 0 from hc.v 10 l10 _ rfl) rfl (by kernel_rfl) (by kernel_rfl) ?_
      rw [h1]
      exact hK _ _ (FlatC.step st21_nd (st21_ks kR kR2 kR1) rfl hc 11 (by decide) (Below.refl _ _) (fun u hu => by injection hu with hu; injection hu) (trivial))
    · have h1 : (st21Ops[12]?).map (·.dst) = some (some 102) := by kernel_rfl
      have h2 : (st21Ops[12]?).map (·.op) = some (Op.pick (Operand.tmp 94) (Operand.tmp 101) (Operand.const (Value.bool false))) := by kernel_rfl
      have h3 : (st21Ops[12]?).map (·.guard) = some none := by kernel_rfl
      rw [ho] at h1 h2 h3
      replace h1 := Option.some.inj h1
      replace h2 := Option.some.inj h2
      replace h3 := Option.some.inj h3
      simp only at h1 h2 h3
      rw [h1] at hK
      have l4 : L 4 = true := hdep 4 (by simp [st21Dep])
      have l11 : L 11 = true := hdep 11 (by simp [st21Dep])
      refine ⟨fun _ => ?_, fun hw => by rw [wanted_none h3] at hw; cases hw⟩
      refine wp_pickG _ _ _ h2 true (show Act.at b 94 = .bool true from hc.v 4 l4 _ rfl) _ (if_pos rfl |>.trans (show Act.at b 101 = .bool true from hc.v 11 l11 _ rfl)) ?_
      rw [h1]
      exact hK _ _ (FlatC.step st21_nd (st21_ks kR kR2 kR1) rfl hc 12 (by decide) (Below.refl _ _) (fun u hu => by injection hu with hu; injection hu) (trivial))
    · have h1 : (st21Ops[13]?).map (·.dst) = some (some 103) := by kernel_rfl
      have h2 : (st21Ops[13]?).map (·.op) = some (Op.move (Operand.tmp 102)) := by kernel_rfl
      have h3 : (st21Ops[13]?).map (·.guard) = some none := by kernel_rfl
      rw [ho] at h1 h2 h3
      replace h1 := Option.some.inj h1
      replace h2 := Option.some.inj h2
      replace h3 := Option.some.inj h3
      simp only at h1 h2 h3
      rw [h1] at hK
      have l12 : L 12 = true := hdep 12 (by simp [st21Dep])
      refine ⟨fun _ => ?_, fun hw => by rw [wanted_none h3] at hw; cases hw⟩
      refine wp_moveG _ h2 _ (show Act.at b 102 = .bool true from hc.v 12 l12 _ rfl) ?_
      rw [h1]
      exact hK _ _ (FlatC.step st21_nd (st21_ks kR kR2 kR1) rfl hc 13 (by decide) (Below.refl _ _) (fun u hu => by injection hu with hu; injection hu) (trivial))
    · have h1 : (st21Ops[14]?).map (·.dst) = some (some 104) := by kernel_rfl
      have h2 : (st21Ops[14]?).map (·.op) = some (Op.load 33 (Operand.tmp 6)) := by kernel_rfl
      have h3 : (st21Ops[14]?).map (·.guard) = some (some (13, true)) := by kernel_rfl
      rw [ho] at h1 h2 h3
      replace h1 := Option.some.inj h1
      replace h2 := Option.some.inj h2
      replace h3 := Option.some.inj h3
      simp only at h1 h2 h3
      rw [h1] at hK
      have l13 : L 13 = true := hdep 13 (by simp [st21Dep])
      have hw := wanted_of (ops := st21Ops) (b := b) h3 (d := 103) (by kernel_rfl) (show Act.at b 103 = .bool true from hc.v 13 l13 _ rfl)
      rw [hw]
      refine ⟨fun _ => ?_, fun hq => absurd hq (by decide)⟩
      refine wp_load_row 33 (.tmp 6) h2 g6 ((hf 6 (by decide)).trans a6) 33 #[.slice A1 L1 c1, .int .i64 q1] (0, 0) _ ((hbw.block g6 HGg6.lt).trans HGg6) Try.underlying33 rfl (by kernel_rfl) ?_
      rw [h1]
      exact hK _ _ (FlatC.step st21_nd (st21_ks kR kR2 kR1) rfl hc 14 (by decide) (Below.refl _ _) (fun u hu => by injection hu with hu; injection hu) (trivial))
    · have h1 : (st21Ops[15]?).map (·.dst) = some (some 105) := by kernel_rfl
      have h2 : (st21Ops[15]?).map (·.op) = some (Op.buildSlice 37 1 #[(0, Operand.const (Value.int IntKind.i64 (-5)))]) := by kernel_rfl
      have h3 : (st21Ops[15]?).map (·.guard) = some (some (13, true)) := by kernel_rfl
      rw [ho] at h1 h2 h3
      replace h1 := Option.some.inj h1
      replace h2 := Option.some.inj h2
      replace h3 := Option.some.inj h3
      simp only at h1 h2 h3
      rw [h1] at hK
      have l13 : L 13 = true := hdep 13 (by simp [st21Dep])
      have hw := wanted_of (ops := st21Ops) (b := b) h3 (d := 103) (by kernel_rfl) (show Act.at b 103 = .bool true from hc.v 13 l13 _ rfl)
      rw [hw]
      refine ⟨fun _ => ?_, fun hq => absurd hq (by decide)⟩
      refine wp_bslice1G _ _ _ _ h2 _ rfl (HA15 w) ?_
      have hb2 := (Below.refl w.heap.size w).alloc (Nat.le_refl _) (.cells #[.int .i64 (-5)] 3)
      have hp2 := HP15 w
      rw [h1]
      exact hK _ _ (FlatC.step st21_nd (st21_ks kR kR2 kR1) rfl hc 15 (by decide) (hb2) (fun u hu => by cases hu) (hp2))
    · have h1 : (st21Ops[16]?).map (·.dst) = some (some 106) := by kernel_rfl
      have h2 : (st21Ops[16]?).map (·.op) = some (Op.call { callee := Callee.value (Operand.func 13), args := #[Operand.tmp 104, Operand.tmp 105], argTypes := #[33, 37] }) := by kernel_rfl
      have h3 : (st21Ops[16]?).map (·.guard) = some (some (13, true)) := by kernel_rfl
      rw [ho] at h1 h2 h3
      replace h1 := Option.some.inj h1
      replace h2 := Option.some.inj h2
      replace h3 := Option.some.inj h3
      simp only at h1 h2 h3
      rw [h1] at hK
      have l13 : L 13 = true := hdep 13 (by simp [st21Dep])
      have l14 : L 14 = true := hdep 14 (by simp [st21Dep])
      have l15 : L 15 = true := hdep 15 (by simp [st21Dep])
      have hw := wanted_of (ops := st21Ops) (b := b) h3 (d := 103) (by kernel_rfl) (show Act.at b 103 = .bool true from hc.v 13 l13 _ rfl)
      rw [hw]
      refine ⟨fun _ => ?_, fun hq => absurd hq (by decide)⟩
      refine wp_callG 13 _ _ h2 (enters_of Try.func13 (by kernel_rfl) rfl) #[.agg #[.slice A1 L1 c1, .int .i64 q1], (Act.at b 105)] (by simp [show b.eval (.tmp 104) = _ from (show Act.at b 104 = .agg #[.slice A1 L1 c1, .int .i64 q1] from hc.v 14 l14 _ rfl), show b.eval (.tmp 105) = Act.at b 105 from rfl]) _ (HC16 w (Act.at b 105) hbw (hc.s 15 l15 (by decide))) ?_
      rintro v w2 ⟨hp2, hb2⟩
      rw [h1]
      exact hK _ _ (FlatC.step st21_nd (st21_ks kR kR2 kR1) rfl hc 16 (by decide) (hb2) (fun u hu => by cases hu) (hp2))
    · have h1 : (st21Ops[17]?).map (·.dst) = some (some 107) := by kernel_rfl
      have h2 : (st21Ops[17]?).map (·.op) = some (Op.call { callee := Callee.builtin Builtin.len, args := #[Operand.tmp 106], argTypes := #[37] }) := by kernel_rfl
      have h3 : (st21Ops[17]?).map (·.guard) = some (some (13, true)) := by kernel_rfl
      rw [ho] at h1 h2 h3
      replace h1 := Option.some.inj h1
      replace h2 := Option.some.inj h2
      replace h3 := Option.some.inj h3
      simp only at h1 h2 h3
      rw [h1] at hK
      have l13 : L 13 = true := hdep 13 (by simp [st21Dep])
      have l16 : L 16 = true := hdep 16 (by simp [st21Dep])
      have hw := wanted_of (ops := st21Ops) (b := b) h3 (d := 103) (by kernel_rfl) (show Act.at b 103 = .bool true from hc.v 13 l13 _ rfl)
      rw [hw]
      refine ⟨fun _ => ?_, fun hq => absurd hq (by decide)⟩
      obtain ⟨A9, c9, hv⟩ := kRN _ _ (hc.s 16 l16 (by decide))
      refine wp_lenS _ _ h2 ⟨_, Try.underlying37⟩ A9 0 c9 (show Act.at b 106 = _ from hv) ?_
      rw [h1]
      exact hK _ _ (FlatC.step st21_nd (st21_ks kR kR2 kR1) rfl hc 17 (by decide) (Below.refl _ _) (fun u hu => by injection hu with hu; injection hu) (trivial))
    · have h1 : (st21Ops[18]?).map (·.dst) = some (some 108) := by kernel_rfl
      have h2 : (st21Ops[18]?).map (·.op) = some (Op.binOp BinOp.eql 3 (Operand.tmp 107) (Operand.const (Value.int IntKind.i64 0)) 3) := by kernel_rfl
      have h3 : (st21Ops[18]?).map (·.guard) = some (some (13, true)) := by kernel_rfl
      rw [ho] at h1 h2 h3
      replace h1 := Option.some.inj h1
      replace h2 := Option.some.inj h2
      replace h3 := Option.some.inj h3
      simp only at h1 h2 h3
      rw [h1] at hK
      have l13 : L 13 = true := hdep 13 (by simp [st21Dep])
      have l17 : L 17 = true := hdep 17 (by simp [st21Dep])
      have hw := wanted_of (ops := st21Ops) (b := b) h3 (d := 103) (by kernel_rfl) (show Act.at b 103 = .bool true from hc.v 13 l13 _ rfl)
      rw [hw]
      refine ⟨fun _ => ?_, fun hq => absurd hq (by decide)⟩
      refine wp_binG _ _ _ _ _ h2 _ _ (.bool true) (show Act.at b 107 = .int .i64 0 from hc.v 17 l17 _ rfl) rfl (by kernel_rfl) (by kernel_rfl) ?_
      rw [h1]
      exact hK _ _ (FlatC.step st21_nd (st21_ks kR kR2 kR1) rfl hc 18 (by decide) (Below.refl _ _) (fun u hu => by injection hu with hu; injection hu) (trivial))
    · have h1 : (st21Ops[19]?).map (·.dst) = some (some 109) := by kernel_rfl
      have h2 : (st21Ops[19]?).map (·.op) = some (Op.pick (Operand.tmp 103) (Operand.tmp 108) (Operand.const (Value.bool false))) := by kernel_rfl
      have h3 : (st21Ops[19]?).map (·.guard) = some none := by kernel_rfl
      rw [ho] at h1 h2 h3
      replace h1 := Option.some.inj h1
      replace h2 := Option.some.inj h2
      replace h3 := Option.some.inj h3
      simp only at h1 h2 h3
      rw [h1] at hK
      have l13 : L 13 = true := hdep 13 (by simp [st21Dep])
      have l18 : L 18 = true := hdep 18 (by simp [st21Dep])
      refine ⟨fun _ => ?_, fun hw => by rw [wanted_none h3] at hw; cases hw⟩
      refine wp_pickG _ _ _ h2 true (show Act.at b 103 = .bool true from hc.v 13 l13 _ rfl) _ (if_pos rfl |>.trans (show Act.at b 108 = .bool true from hc.v 18 l18 _ rfl)) ?_
      rw [h1]
      exact hK _ _ (FlatC.step st21_nd (st21_ks kR kR2 kR1) rfl hc 19 (by decide) (Below.refl _ _) (fun u hu => by injection hu with hu; injection hu) (trivial))
    · have h1 : (st21Ops[20]?).map (·.dst) = some (some 4) := by kernel_rfl
      have h2 : (st21Ops[20]?).map (·.op) = some (Op.assign (Operand.tmp 109)) := by kernel_rfl
      have h3 : (st21Ops[20]?).map (·.guard) = some none := by kernel_rfl
      rw [ho] at h1 h2 h3
      replace h1 := Option.some.inj h1
      replace h2 := Option.some.inj h2
      replace h3 := Option.some.inj h3
      simp only at h1 h2 h3
      rw [h1] at hK
      have l19 : L 19 = true := hdep 19 (by simp [st21Dep])
      refine ⟨fun _ => ?_, fun hw => by rw [wanted_none h3] at hw; cases hw⟩
      refine wp_assignG _ h2 _ (show Act.at b 109 = .bool true from hc.v 19 l19 _ rfl) ?_
      rw [h1]
      exact hK _ _ (FlatC.step st21_nd (st21_ks kR kR2 kR1) rfl hc 20 (by decide) (Below.refl _ _) (fun u hu => by injection hu with hu; injection hu) (trivial))
  · rintro L b w hL hd hs hf hc
    have hsz2 : st21Ops.size = 21 := rfl
    rw [hsz2] at hL
    have e := act_eq (a := A0) (b := b) (st21Us (Act.at b)) hd hs hf (by
      intro p hp
      simp only [st21Us, List.mem_cons, List.not_mem_nil, or_false] at hp
      rcases hp with rfl | rfl | rfl | rfl | rfl | rfl | rfl | rfl | rfl | rfl | rfl | rfl | rfl | rfl | rfl | rfl | rfl | rfl | rfl | rfl | rfl <;> rfl) (by rw [show (st21Us (Act.at b)).map (·.1) = [90, 91, 92, 93, 94, 95, 96, 97, 98, 99, 100, 101, 102, 103, 104, 105, 106, 107, 108, 109, 4] from rfl]; decide)
    rw [e]
    exact hk (Act.at b) w (hc.v 20 (hL 20 (by omega)) _ rfl) ⟨hc.bel.os, hc.bel.tape, hc.bel.output, hc.bel.size, hc.bel.block⟩
end Go.Proofs.Ytimffgmbchpfeaa
