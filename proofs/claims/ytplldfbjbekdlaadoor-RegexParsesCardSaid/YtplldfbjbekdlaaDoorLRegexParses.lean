/- regex: the law RegexParses, its question of what was read, in open order. -/
import Derived.Test.YtplldfbjbekdlaaDoorRqK
import Derived.Test.YtplldfbjbekdlaaDoorRB7
import Derived.ChangeMaps5
import Derived.Lib.SmallJoins
import Derived.Test.YtplldfbjbekdlaaDoorLay
namespace Go.Proofs.YtplldfbjbekdlaaDoor
set_option linter.unusedSimpArgs false
set_option linter.unusedVariables false
open Go.RowKit

theorem load_iQ {w : World} {p : Addr} {x : Int} (h : w.cell? p = some (.int .i64 x)) : (Instr.loadAt 3 (.pointer (some p))).run Tryd.prog w = .ok (.int .i64 x) w := by
  simp [Instr.loadAt, h]
  go_simp
theorem wp_lenSt {o : Oper} {a : Act} {w : World} {K : Act → World → Prop} {Q : Exit → Act → World → Prop} (x : Operand) (ho : o.op = .call { callee := .builtin .len, args := #[x], argTypes := #[9] }) (s : ByteArray) (hx : a.eval x = .string s) (h : K (a.put o.dst (.int .i64 (s.size : Int))) w) : o.wp Tryd.prog a w K Q := by
  unfold Oper.wp
  have e : (execOp a.eval o).run Tryd.prog w = .ok (.value (.int .i64 (s.size : Int))) w := by
    unfold execOp
    simp only [ho, resolve, invoke, builtin, Sem.run_bind, Sem.run_pure, Result.andThen_ok, List.map_toArray, List.map_cons, List.map_nil, hx]
    simp only [Builtin.len_]
    simp [run_underlying Tryd.underlying9]
    rfl
  rw [e]
  exact h
def wp9Ops : Array Oper := #[{ dst := some 73, op := Op.move (Operand.tmp 0), type := 9, pos := "law.go:118", after := #[], guard := none }, { dst := some 74, op := Op.call { callee := Callee.builtin Builtin.len, args := #[Operand.tmp 73], argTypes := #[9] }, type := 3, pos := "law.go:118", after := #[{ on := 0, ground := Ground.data }], guard := none }, { dst := some 75, op := Op.binOp BinOp.gtr 3 (Operand.tmp 74) (Operand.const (Value.int IntKind.i64 512)) 3, type := 4, pos := "law.go:118", after := #[{ on := 1, ground := Ground.data }], guard := none }, { dst := some 76, op := Op.move (Operand.tmp 75), type := 4, pos := "law.go:118", after := #[{ on := 2, ground := Ground.data }], guard := none }, { dst := some 77, op := Op.fieldAddr 30 (Operand.tmp 4) 1, type := 0, pos := "law.go:118", after := #[{ on := 3, ground := Ground.guard }], guard := some (3, false) }, { dst := some 78, op := Op.load 3 (Operand.tmp 77), type := 3, pos := "law.go:118", after := #[{ on := 4, ground := Ground.data }, { on := 3, ground := Ground.guard }], guard := some (3, false) }, { dst := some 79, op := Op.binOp BinOp.neq 3 (Operand.tmp 78) (Operand.const (Value.int IntKind.i64 0)) 3, type := 4, pos := "law.go:118", after := #[{ on := 5, ground := Ground.data }, { on := 3, ground := Ground.guard }], guard := some (3, false) }, { dst := some 80, op := Op.pick (Operand.tmp 76) (Operand.const (Value.bool true)) (Operand.tmp 79), type := 4, pos := "law.go:118", after := #[{ on := 3, ground := Ground.data }, { on := 6, ground := Ground.data }], guard := none }, { dst := some 81, op := Op.move (Operand.tmp 80), type := 4, pos := "law.go:118", after := #[{ on := 7, ground := Ground.data }, { on := 3, ground := Ground.chain }], guard := none }, { dst := some 82, op := Op.load 27 (Operand.tmp 3), type := 27, pos := "law.go:118", after := #[{ on := 8, ground := Ground.guard }], guard := some (8, false) }, { dst := some 83, op := Op.call { callee := Callee.value (Operand.func 6), args := #[Operand.tmp 82], argTypes := #[27] }, type := 28, pos := "law.go:118", after := #[{ on := 9, ground := Ground.data }, { on := 8, ground := Ground.chain }, { on := 8, ground := Ground.guard }], guard := some (8, false) }, { dst := some 84, op := Op.binOp BinOp.neq 28 (Operand.tmp 83) (Operand.const (Value.int IntKind.i64 0)) 28, type := 4, pos := "law.go:118", after := #[{ on := 10, ground := Ground.data }, { on := 8, ground := Ground.guard }], guard := some (8, false) }, { dst := some 85, op := Op.pick (Operand.tmp 81) (Operand.const (Value.bool true)) (Operand.tmp 84), type := 4, pos := "law.go:118", after := #[{ on := 8, ground := Ground.data }, { on := 11, ground := Ground.data }], guard := none }, { dst := some 86, op := Op.move (Operand.tmp 85), type := 4, pos := "law.go:118", after := #[{ on := 12, ground := Ground.data }, { on := 10, ground := Ground.chain }], guard := none }, { dst := some 87, op := Op.load 27 (Operand.tmp 3), type := 27, pos := "law.go:118", after := #[{ on := 13, ground := Ground.guard }], guard := some (13, false) }, { dst := some 88, op := Op.move (Operand.tmp 0), type := 9, pos := "law.go:118", after := #[{ on := 13, ground := Ground.guard }], guard := some (13, false) }, { dst := some 89, op := Op.call { callee := Callee.value (Operand.func 8), args := #[Operand.tmp 88], argTypes := #[9] }, type := 27, pos := "law.go:118", after := #[{ on := 15, ground := Ground.data }, { on := 13, ground := Ground.chain }, { on := 13, ground := Ground.guard }], guard := some (13, false) }, { dst := some 90, op := Op.call { callee := Callee.value (Operand.func 7), args := #[Operand.tmp 87, Operand.tmp 89], argTypes := #[27, 27] }, type := 4, pos := "law.go:118", after := #[{ on := 14, ground := Ground.data }, { on := 16, ground := Ground.data }, { on := 16, ground := Ground.chain }, { on := 13, ground := Ground.guard }], guard := some (13, false) }, { dst := some 91, op := Op.unOp UnOp.not 4 (Operand.tmp 90), type := 4, pos := "law.go:118", after := #[{ on := 17, ground := Ground.data }, { on := 13, ground := Ground.guard }], guard := some (13, false) }, { dst := some 92, op := Op.pick (Operand.tmp 86) (Operand.const (Value.bool true)) (Operand.tmp 91), type := 4, pos := "law.go:118", after := #[{ on := 13, ground := Ground.data }, { on := 18, ground := Ground.data }], guard := none }]
def wp9Dep : Nat → List Nat := fun i => match i with | 1 => [0] | 2 => [1] | 3 => [2] | 4 => [3] | 5 => [3, 4] | 6 => [3, 5] | 7 => [3, 6] | 8 => [7] | 9 => [8] | 10 => [8, 9] | 11 => [8, 10] | 12 => [8, 11] | 13 => [12] | 14 => [13] | 15 => [13] | 16 => [13, 15] | 17 => [16, 13, 14] | 18 => [13, 17] | 19 => [13, 18] | _ => []
def wp9Sl : List Nat := [73, 74, 75, 76, 77, 78, 79, 80, 81, 82, 83, 84, 85, 86, 87, 88, 89, 90, 91, 92]
def wp9Vs (g3 : Nat) (g4 : Nat) (n : Nat) (x : RV) (S : ByteArray) : List (Option Value) := [some (.string S), some (.int .i64 (S.size : Int)), some (.bool false), some (.bool false), some (.pointer (some ⟨g4, 1, none⟩)), some (.int .i64 0), some (.bool false), some (.bool false), some (.bool false), some (.agg x.cells.toArray), some (.int .i64 0), some (.bool false), some (.bool false), some (.bool false), some (.agg x.cells.toArray), some (.string S), none, some (.bool true), some (.bool false), some (.bool false)]
def wp9Sp (Sq : Value → World → Prop) (i : Nat) : Value → World → Prop := match i with | 16 => Sq | _ => fun _ _ => True
theorem wp9_ks {Sq : Value → World → Prop} (kSq : ∀ v w w', Sq v w → Below w.heap.size w w' → Sq v w') : ∀ i v w w', wp9Sp Sq i v w → Below w.heap.size w w' → wp9Sp Sq i v w' := by
  intro i v w w' h hb
  unfold wp9Sp at h ⊢
  split <;> first | trivial | exact kSq _ _ _ h hb
theorem wp9_nd : wp9Sl.Nodup := by decide
def wp9Us (f : Nat → Value) : List (Nat × Value) := [(73, f 73), (74, f 74), (75, f 75), (76, f 76), (77, f 77), (78, f 78), (79, f 79), (80, f 80), (81, f 81), (82, f 82), (83, f 83), (84, f 84), (85, f 85), (86, f 86), (87, f 87), (88, f 88), (89, f 89), (90, f 90), (91, f 91), (92, f 92)]
set_option maxRecDepth 20000 in
set_option maxHeartbeats 4000000 in
theorem wp9_reg {g3 : Nat} {g4 : Nat} {n : Nat} {x : RV} {S : ByteArray} {Sq : Value → World → Prop} {W : World} {A0 : Act} {Q : Exit → Act → World → Prop} {id : Nat} (a0 : Act.at A0 0 = .string S) (a3 : Act.at A0 3 = .pointer (some ⟨g3, 0, none⟩)) (a4 : Act.at A0 4 = .pointer (some ⟨g4, 0, none⟩)) (hsz : 113 ≤ A0.tmps.size) (kSq : ∀ v w w', Sq v w → Below w.heap.size w w' → Sq v w') (hG3 : Blk W g3 27 x.cells) (hG4 : Blk W g4 30 [.int .i64 0, .int .i64 0]) (HL : ∀ w, (binOp .gtr 3 (.int .i64 (S.size : Int)) (.int .i64 512)).run Tryd.prog w = .ok (.bool false) w)
    (HC : ∀ w, Below W.heap.size W w → Calls Tryd.prog 6 #[.agg x.cells.toArray] w fun e w' => ∃ v, e = .returned v ∧ v = .int .i64 0 ∧ Below w.heap.size w w')
    (HR : ∀ w, Below W.heap.size W w → Calls Tryd.prog 8 #[.string S] w fun e w' => ∃ v, e = .returned v ∧ Sq v w' ∧ Below w.heap.size w w')
    (HS : ∀ c w, Sq c w → Below W.heap.size W w → Calls Tryd.prog 7 #[.agg x.cells.toArray, c] w fun e w' => ∃ v, e = .returned v ∧ v = .bool true ∧ Below w.heap.size w w')
    (hk : ∀ (f : Nat → Value) w', f 92 = .bool false → Below W.heap.size W w' → Q .normal ⟨(wp9Us f).foldl (fun A p => A.setIfInBounds p.1 p.2) A0.tmps, A0.defers⟩ w') :
    (Code.region id wp9Ops true).wp Tryd.prog Q A0 W := by
  refine wp_region_fun3 (by kernel_rfl) (fun L f w => FlatC W.drew wp9Sl (wp9Vs g3 g4 n x S) (wp9Sp Sq) L f w) [73, 74, 75, 76, 77, 78, 79, 80, 81, 82, 83, 84, 85, 86, 87, 88, 89, 90, 91, 92] (fun i o ho => (wf_ops3 (ops := wp9Ops) (by kernel_rfl)) i o ho) (fun i o ho u hu => ?_) ?_ ?_ ?_
  · have := ops_dst [73, 74, 75, 76, 77, 78, 79, 80, 81, 82, 83, 84, 85, 86, 87, 88, 89, 90, 91, 92] 113 (by kernel_rfl) i o ho u hu
    exact ⟨this.1, Nat.lt_of_lt_of_le this.2 hsz⟩
  · have hs : wp9Ops.size = 20 := rfl
    rw [hs]
    exact FlatC.start rfl rfl
  · rintro L i o ho hLi haf b w hf hc K hK
    have hdep := ops_deps wp9Dep (by kernel_rfl) ho haf
    clear haf
    have hbw : Below W.heap.size W w := ⟨hc.bel.os, hc.bel.tape, hc.bel.output, hc.bel.size, hc.bel.block⟩
    have hs : wp9Ops.size = 20 := rfl
    have hlt : i < 20 := hs ▸ (Array.getElem?_eq_some_iff.1 ho).1
    have hcases : i = 0 ∨ i = 1 ∨ i = 2 ∨ i = 3 ∨ i = 4 ∨ i = 5 ∨ i = 6 ∨ i = 7 ∨ i = 8 ∨ i = 9 ∨ i = 10 ∨ i = 11 ∨ i = 12 ∨ i = 13 ∨ i = 14 ∨ i = 15 ∨ i = 16 ∨ i = 17 ∨ i = 18 ∨ i = 19 := by omega
    clear hlt
    rcases hcases with rfl | rfl | rfl | rfl | rfl | rfl | rfl | rfl | rfl | rfl | rfl | rfl | rfl | rfl | rfl | rfl | rfl | rfl | rfl | rfl
    · have h1 : (wp9Ops[0]?).map (·.dst) = some (some 73) := by kernel_rfl
      have h2 : (wp9Ops[0]?).map (·.op) = some (Op.move (Operand.tmp 0)) := by kernel_rfl
      have h3 : (wp9Ops[0]?).map (·.guard) = some none := by kernel_rfl
      rw [ho] at h1 h2 h3
      replace h1 := Option.some.inj h1
      replace h2 := Option.some.inj h2
      replace h3 := Option.some.inj h3
      simp only at h1 h2 h3
      rw [h1] at hK
      refine ⟨fun _ => ?_, fun hw => by rw [wanted_none h3] at hw; cases hw⟩
      refine wp_moveG _ h2 _ ((hf 0 (by decide)).trans a0) ?_
      rw [h1]
      exact hK _ _ (FlatC.step wp9_nd (wp9_ks kSq) rfl hc 0 (by decide) (Below.refl _ _) (fun u hu => by injection hu with hu; injection hu) (trivial))
    · have h1 : (wp9Ops[1]?).map (·.dst) = some (some 74) := by kernel_rfl
      have h2 : (wp9Ops[1]?).map (·.op) = some (Op.call { callee := Callee.builtin Builtin.len, args := #[Operand.tmp 73], argTypes := #[9] }) := by kernel_rfl
      have h3 : (wp9Ops[1]?).map (·.guard) = some none := by kernel_rfl
      rw [ho] at h1 h2 h3
      replace h1 := Option.some.inj h1
      replace h2 := Option.some.inj h2
      replace h3 := Option.some.inj h3
      simp only at h1 h2 h3
      rw [h1] at hK
      have l0 : L 0 = true := hdep 0 (by simp [wp9Dep])
      refine ⟨fun _ => ?_, fun hw => by rw [wanted_none h3] at hw; cases hw⟩
      refine wp_lenSt _ h2 S (show Act.at b 73 = .string S from hc.v 0 l0 _ rfl) ?_
      rw [h1]
      exact hK _ _ (FlatC.step wp9_nd (wp9_ks kSq) rfl hc 1 (by decide) (Below.refl _ _) (fun u hu => by injection hu with hu; injection hu) (trivial))
    · have h1 : (wp9Ops[2]?).map (·.dst) = some (some 75) := by kernel_rfl
      have h2 : (wp9Ops[2]?).map (·.op) = some (Op.binOp BinOp.gtr 3 (Operand.tmp 74) (Operand.const (Value.int IntKind.i64 512)) 3) := by kernel_rfl
      have h3 : (wp9Ops[2]?).map (·.guard) = some none := by kernel_rfl
      rw [ho] at h1 h2 h3
      replace h1 := Option.some.inj h1
      replace h2 := Option.some.inj h2
      replace h3 := Option.some.inj h3
      simp only at h1 h2 h3
      rw [h1] at hK
      have l1 : L 1 = true := hdep 1 (by simp [wp9Dep])
      refine ⟨fun _ => ?_, fun hw => by rw [wanted_none h3] at hw; cases hw⟩
      refine wp_binG _ _ _ _ _ h2 _ _ (.bool false) (show Act.at b 74 = .int .i64 (S.size : Int) from hc.v 1 l1 _ rfl) rfl (by kernel_rfl) (HL w) ?_
      rw [h1]
      exact hK _ _ (FlatC.step wp9_nd (wp9_ks kSq) rfl hc 2 (by decide) (Below.refl _ _) (fun u hu => by injection hu with hu; injection hu) (trivial))
    · have h1 : (wp9Ops[3]?).map (·.dst) = some (some 76) := by kernel_rfl
      have h2 : (wp9Ops[3]?).map (·.op) = some (Op.move (Operand.tmp 75)) := by kernel_rfl
      have h3 : (wp9Ops[3]?).map (·.guard) = some none := by kernel_rfl
      rw [ho] at h1 h2 h3
      replace h1 := Option.some.inj h1
      replace h2 := Option.some.inj h2
      replace h3 := Option.some.inj h3
      simp only at h1 h2 h3
      rw [h1] at hK
      have l2 : L 2 = true := hdep 2 (by simp [wp9Dep])
      refine ⟨fun _ => ?_, fun hw => by rw [wanted_none h3] at hw; cases hw⟩
      refine wp_moveG _ h2 _ (show Act.at b 75 = .bool false from hc.v 2 l2 _ rfl) ?_
      rw [h1]
      exact hK _ _ (FlatC.step wp9_nd (wp9_ks kSq) rfl hc 3 (by decide) (Below.refl _ _) (fun u hu => by injection hu with hu; injection hu) (trivial))
    · have h1 : (wp9Ops[4]?).map (·.dst) = some (some 77) := by kernel_rfl
      have h2 : (wp9Ops[4]?).map (·.op) = some (Op.fieldAddr 30 (Operand.tmp 4) 1) := by kernel_rfl
      have h3 : (wp9Ops[4]?).map (·.guard) = some (some (3, false)) := by kernel_rfl
      rw [ho] at h1 h2 h3
      replace h1 := Option.some.inj h1
      replace h2 := Option.some.inj h2
      replace h3 := Option.some.inj h3
      simp only at h1 h2 h3
      rw [h1] at hK
      have l3 : L 3 = true := hdep 3 (by simp [wp9Dep])
      have hw := wanted_of (ops := wp9Ops) (b := b) h3 (d := 76) (by kernel_rfl) (show Act.at b 76 = .bool false from hc.v 3 l3 _ rfl)
      rw [hw]
      refine ⟨fun _ => ?_, fun hq => absurd hq (by decide)⟩
      refine wp_fieldG _ _ _ h2 _ (.pointer (some ⟨g4, 1, none⟩)) ((hf 4 (by decide)).trans a4) (by kernel_rfl) ?_
      rw [h1]
      exact hK _ _ (FlatC.step wp9_nd (wp9_ks kSq) rfl hc 4 (by decide) (Below.refl _ _) (fun u hu => by injection hu with hu; injection hu) (trivial))
    · have h1 : (wp9Ops[5]?).map (·.dst) = some (some 78) := by kernel_rfl
      have h2 : (wp9Ops[5]?).map (·.op) = some (Op.load 3 (Operand.tmp 77)) := by kernel_rfl
      have h3 : (wp9Ops[5]?).map (·.guard) = some (some (3, false)) := by kernel_rfl
      rw [ho] at h1 h2 h3
      replace h1 := Option.some.inj h1
      replace h2 := Option.some.inj h2
      replace h3 := Option.some.inj h3
      simp only at h1 h2 h3
      rw [h1] at hK
      have l3 : L 3 = true := hdep 3 (by simp [wp9Dep])
      have l4 : L 4 = true := hdep 4 (by simp [wp9Dep])
      have hw := wanted_of (ops := wp9Ops) (b := b) h3 (d := 76) (by kernel_rfl) (show Act.at b 76 = .bool false from hc.v 3 l3 _ rfl)
      rw [hw]
      refine ⟨fun _ => ?_, fun hq => absurd hq (by decide)⟩
      refine wp_loadG _ _ h2 _ _ (show Act.at b 77 = .pointer (some ⟨g4, 1, none⟩) from hc.v 4 l4 _ rfl) (load_iQ (Blk.at (show Blk w g4 30 [.int .i64 0, .int .i64 0] from (hbw.block g4 hG4.lt).trans hG4) 1)) ?_
      rw [h1]
      exact hK _ _ (FlatC.step wp9_nd (wp9_ks kSq) rfl hc 5 (by decide) (Below.refl _ _) (fun u hu => by injection hu with hu; injection hu) (trivial))
    · have h1 : (wp9Ops[6]?).map (·.dst) = some (some 79) := by kernel_rfl
      have h2 : (wp9Ops[6]?).map (·.op) = some (Op.binOp BinOp.neq 3 (Operand.tmp 78) (Operand.const (Value.int IntKind.i64 0)) 3) := by kernel_rfl
      have h3 : (wp9Ops[6]?).map (·.guard) = some (some (3, false)) := by kernel_rfl
      rw [ho] at h1 h2 h3
      replace h1 := Option.some.inj h1
      replace h2 := Option.some.inj h2
      replace h3 := Option.some.inj h3
      simp only at h1 h2 h3
      rw [h1] at hK
      have l3 : L 3 = true := hdep 3 (by simp [wp9Dep])
      have l5 : L 5 = true := hdep 5 (by simp [wp9Dep])
      have hw := wanted_of (ops := wp9Ops) (b := b) h3 (d := 76) (by kernel_rfl) (show Act.at b 76 = .bool false from hc.v 3 l3 _ rfl)
      rw [hw]
      refine ⟨fun _ => ?_, fun hq => absurd hq (by decide)⟩
      refine wp_binG _ _ _ _ _ h2 _ _ (.bool false) (show Act.at b 78 = .int .i64 0 from hc.v 5 l5 _ rfl) rfl (by kernel_rfl) (by kernel_rfl) ?_
      rw [h1]
      exact hK _ _ (FlatC.step wp9_nd (wp9_ks kSq) rfl hc 6 (by decide) (Below.refl _ _) (fun u hu => by injection hu with hu; injection hu) (trivial))
    · have h1 : (wp9Ops[7]?).map (·.dst) = some (some 80) := by kernel_rfl
      have h2 : (wp9Ops[7]?).map (·.op) = some (Op.pick (Operand.tmp 76) (Operand.const (Value.bool true)) (Operand.tmp 79)) := by kernel_rfl
      have h3 : (wp9Ops[7]?).map (·.guard) = some none := by kernel_rfl
      rw [ho] at h1 h2 h3
      replace h1 := Option.some.inj h1
      replace h2 := Option.some.inj h2
      replace h3 := Option.some.inj h3
      simp only at h1 h2 h3
      rw [h1] at hK
      have l3 : L 3 = true := hdep 3 (by simp [wp9Dep])
      have l6 : L 6 = true := hdep 6 (by simp [wp9Dep])
      refine ⟨fun _ => ?_, fun hw => by rw [wanted_none h3] at hw; cases hw⟩
      refine wp_pickG _ _ _ h2 false (show Act.at b 76 = .bool false from hc.v 3 l3 _ rfl) _ (if_neg (by decide) |>.trans (show Act.at b 79 = .bool false from hc.v 6 l6 _ rfl)) ?_
      rw [h1]
      exact hK _ _ (FlatC.step wp9_nd (wp9_ks kSq) rfl hc 7 (by decide) (Below.refl _ _) (fun u hu => by injection hu with hu; injection hu) (trivial))
    · have h1 : (wp9Ops[8]?).map (·.dst) = some (some 81) := by kernel_rfl
      have h2 : (wp9Ops[8]?).map (·.op) = some (Op.move (Operand.tmp 80)) := by kernel_rfl
      have h3 : (wp9Ops[8]?).map (·.guard) = some none := by kernel_rfl
      rw [ho] at h1 h2 h3
      replace h1 := Option.some.inj h1
      replace h2 := Option.some.inj h2
      replace h3 := Option.some.inj h3
      simp only at h1 h2 h3
      rw [h1] at hK
      have l7 : L 7 = true := hdep 7 (by simp [wp9Dep])
      refine ⟨fun _ => ?_, fun hw => by rw [wanted_none h3] at hw; cases hw⟩
      refine wp_moveG _ h2 _ (show Act.at b 80 = .bool false from hc.v 7 l7 _ rfl) ?_
      rw [h1]
      exact hK _ _ (FlatC.step wp9_nd (wp9_ks kSq) rfl hc 8 (by decide) (Below.refl _ _) (fun u hu => by injection hu with hu; injection hu) (trivial))
    · have h1 : (wp9Ops[9]?).map (·.dst) = some (some 82) := by kernel_rfl
      have h2 : (wp9Ops[9]?).map (·.op) = some (Op.load 27 (Operand.tmp 3)) := by kernel_rfl
      have h3 : (wp9Ops[9]?).map (·.guard) = some (some (8, false)) := by kernel_rfl
      rw [ho] at h1 h2 h3
      replace h1 := Option.some.inj h1
      replace h2 := Option.some.inj h2
      replace h3 := Option.some.inj h3
      simp only at h1 h2 h3
      rw [h1] at hK
      have l8 : L 8 = true := hdep 8 (by simp [wp9Dep])
      have hw := wanted_of (ops := wp9Ops) (b := b) h3 (d := 81) (by kernel_rfl) (show Act.at b 81 = .bool false from hc.v 8 l8 _ rfl)
      rw [hw]
      refine ⟨fun _ => ?_, fun hq => absurd hq (by decide)⟩
      refine wp_load_row 27 (.tmp 3) h2 g3 ((hf 3 (by decide)).trans a3) 27 x.cells.toArray (0, 0) _ ((hbw.block g3 hG3.lt).trans hG3) Tryd.underlying27 rfl (rx_size x) ?_
      rw [h1]
      exact hK _ _ (FlatC.step wp9_nd (wp9_ks kSq) rfl hc 9 (by decide) (Below.refl _ _) (fun u hu => by injection hu with hu; injection hu) (trivial))
    · have h1 : (wp9Ops[10]?).map (·.dst) = some (some 83) := by kernel_rfl
      have h2 : (wp9Ops[10]?).map (·.op) = some (Op.call { callee := Callee.value (Operand.func 6), args := #[Operand.tmp 82], argTypes := #[27] }) := by kernel_rfl
      have h3 : (wp9Ops[10]?).map (·.guard) = some (some (8, false)) := by kernel_rfl
      rw [ho] at h1 h2 h3
      replace h1 := Option.some.inj h1
      replace h2 := Option.some.inj h2
      replace h3 := Option.some.inj h3
      simp only at h1 h2 h3
      rw [h1] at hK
      have l8 : L 8 = true := hdep 8 (by simp [wp9Dep])
      have l9 : L 9 = true := hdep 9 (by simp [wp9Dep])
      have hw := wanted_of (ops := wp9Ops) (b := b) h3 (d := 81) (by kernel_rfl) (show Act.at b 81 = .bool false from hc.v 8 l8 _ rfl)
      rw [hw]
      refine ⟨fun _ => ?_, fun hq => absurd hq (by decide)⟩
      refine wp_callG 6 _ _ h2 (enters_of Tryd.func6 (by kernel_rfl) rfl) #[.agg x.cells.toArray] (by simp [show b.eval (.tmp 82) = _ from (show Act.at b 82 = .agg x.cells.toArray from hc.v 9 l9 _ rfl)]) _ (HC w hbw) ?_
      rintro v w2 ⟨rfl, hb2⟩
      rw [h1]
      exact hK _ _ (FlatC.step wp9_nd (wp9_ks kSq) rfl hc 10 (by decide) (hb2) (fun u hu => by injection hu with hu; injection hu) (trivial))
    · have h1 : (wp9Ops[11]?).map (·.dst) = some (some 84) := by kernel_rfl
      have h2 : (wp9Ops[11]?).map (·.op) = some (Op.binOp BinOp.neq 28 (Operand.tmp 83) (Operand.const (Value.int IntKind.i64 0)) 28) := by kernel_rfl
      have h3 : (wp9Ops[11]?).map (·.guard) = some (some (8, false)) := by kernel_rfl
      rw [ho] at h1 h2 h3
      replace h1 := Option.some.inj h1
      replace h2 := Option.some.inj h2
      replace h3 := Option.some.inj h3
      simp only at h1 h2 h3
      rw [h1] at hK
      have l8 : L 8 = true := hdep 8 (by simp [wp9Dep])
      have l10 : L 10 = true := hdep 10 (by simp [wp9Dep])
      have hw := wanted_of (ops := wp9Ops) (b := b) h3 (d := 81) (by kernel_rfl) (show Act.at b 81 = .bool false from hc.v 8 l8 _ rfl)
      rw [hw]
      refine ⟨fun _ => ?_, fun hq => absurd hq (by decide)⟩
      refine wp_binG _ _ _ _ _ h2 _ _ (.bool false) (show Act.at b 83 = .int .i64 0 from hc.v 10 l10 _ rfl) rfl (by kernel_rfl) (by kernel_rfl) ?_
      rw [h1]
      exact hK _ _ (FlatC.step wp9_nd (wp9_ks kSq) rfl hc 11 (by decide) (Below.refl _ _) (fun u hu => by injection hu with hu; injection hu) (trivial))
    · have h1 : (wp9Ops[12]?).map (·.dst) = some (some 85) := by kernel_rfl
      have h2 : (wp9Ops[12]?).map (·.op) = some (Op.pick (Operand.tmp 81) (Operand.const (Value.bool true)) (Operand.tmp 84)) := by kernel_rfl
      have h3 : (wp9Ops[12]?).map (·.guard) = some none := by kernel_rfl
      rw [ho] at h1 h2 h3
      replace h1 := Option.some.inj h1
      replace h2 := Option.some.inj h2
      replace h3 := Option.some.inj h3
      simp only at h1 h2 h3
      rw [h1] at hK
      have l8 : L 8 = true := hdep 8 (by simp [wp9Dep])
      have l11 : L 11 = true := hdep 11 (by simp [wp9Dep])
      refine ⟨fun _ => ?_, fun hw => by rw [wanted_none h3] at hw; cases hw⟩
      refine wp_pickG _ _ _ h2 false (show Act.at b 81 = .bool false from hc.v 8 l8 _ rfl) _ (if_neg (by decide) |>.trans (show Act.at b 84 = .bool false from hc.v 11 l11 _ rfl)) ?_
      rw [h1]
      exact hK _ _ (FlatC.step wp9_nd (wp9_ks kSq) rfl hc 12 (by decide) (Below.refl _ _) (fun u hu => by injection hu with hu; injection hu) (trivial))
    · have h1 : (wp9Ops[13]?).map (·.dst) = some (some 86) := by kernel_rfl
      have h2 : (wp9Ops[13]?).map (·.op) = some (Op.move (Operand.tmp 85)) := by kernel_rfl
      have h3 : (wp9Ops[13]?).map (·.guard) = some none := by kernel_rfl
      rw [ho] at h1 h2 h3
      replace h1 := Option.some.inj h1
      replace h2 := Option.some.inj h2
      replace h3 := Option.some.inj h3
      simp only at h1 h2 h3
      rw [h1] at hK
      have l12 : L 12 = true := hdep 12 (by simp [wp9Dep])
      refine ⟨fun _ => ?_, fun hw => by rw [wanted_none h3] at hw; cases hw⟩
      refine wp_moveG _ h2 _ (show Act.at b 85 = .bool false from hc.v 12 l12 _ rfl) ?_
      rw [h1]
      exact hK _ _ (FlatC.step wp9_nd (wp9_ks kSq) rfl hc 13 (by decide) (Below.refl _ _) (fun u hu => by injection hu with hu; injection hu) (trivial))
    · have h1 : (wp9Ops[14]?).map (·.dst) = some (some 87) := by kernel_rfl
      have h2 : (wp9Ops[14]?).map (·.op) = some (Op.load 27 (Operand.tmp 3)) := by kernel_rfl
      have h3 : (wp9Ops[14]?).map (·.guard) = some (some (13, false)) := by kernel_rfl
      rw [ho] at h1 h2 h3
      replace h1 := Option.some.inj h1
      replace h2 := Option.some.inj h2
      replace h3 := Option.some.inj h3
      simp only at h1 h2 h3
      rw [h1] at hK
      have l13 : L 13 = true := hdep 13 (by simp [wp9Dep])
      have hw := wanted_of (ops := wp9Ops) (b := b) h3 (d := 86) (by kernel_rfl) (show Act.at b 86 = .bool false from hc.v 13 l13 _ rfl)
      rw [hw]
      refine ⟨fun _ => ?_, fun hq => absurd hq (by decide)⟩
      refine wp_load_row 27 (.tmp 3) h2 g3 ((hf 3 (by decide)).trans a3) 27 x.cells.toArray (0, 0) _ ((hbw.block g3 hG3.lt).trans hG3) Tryd.underlying27 rfl (rx_size x) ?_
      rw [h1]
      exact hK _ _ (FlatC.step wp9_nd (wp9_ks kSq) rfl hc 14 (by decide) (Below.refl _ _) (fun u hu => by injection hu with hu; injection hu) (trivial))
    · have h1 : (wp9Ops[15]?).map (·.dst) = some (some 88) := by kernel_rfl
      have h2 : (wp9Ops[15]?).map (·.op) = some (Op.move (Operand.tmp 0)) := by kernel_rfl
      have h3 : (wp9Ops[15]?).map (·.guard) = some (some (13, false)) := by kernel_rfl
      rw [ho] at h1 h2 h3
      replace h1 := Option.some.inj h1
      replace h2 := Option.some.inj h2
      replace h3 := Option.some.inj h3
      simp only at h1 h2 h3
      rw [h1] at hK
      have l13 : L 13 = true := hdep 13 (by simp [wp9Dep])
      have hw := wanted_of (ops := wp9Ops) (b := b) h3 (d := 86) (by kernel_rfl) (show Act.at b 86 = .bool false from hc.v 13 l13 _ rfl)
      rw [hw]
      refine ⟨fun _ => ?_, fun hq => absurd hq (by decide)⟩
      refine wp_moveG _ h2 _ ((hf 0 (by decide)).trans a0) ?_
      rw [h1]
      exact hK _ _ (FlatC.step wp9_nd (wp9_ks kSq) rfl hc 15 (by decide) (Below.refl _ _) (fun u hu => by injection hu with hu; injection hu) (trivial))
    · have h1 : (wp9Ops[16]?).map (·.dst) = some (some 89) := by kernel_rfl
      have h2 : (wp9Ops[16]?).map (·.op) = some (Op.call { callee := Callee.value (Operand.func 8), args := #[Operand.tmp 88], argTypes := #[9] }) := by kernel_rfl
      have h3 : (wp9Ops[16]?).map (·.guard) = some (some (13, false)) := by kernel_rfl
      rw [ho] at h1 h2 h3
      replace h1 := Option.some.inj h1
      replace h2 := Option.some.inj h2
      replace h3 := Option.some.inj h3
      simp only at h1 h2 h3
      rw [h1] at hK
      have l13 : L 13 = true := hdep 13 (by simp [wp9Dep])
      have l15 : L 15 = true := hdep 15 (by simp [wp9Dep])
      have hw := wanted_of (ops := wp9Ops) (b := b) h3 (d := 86) (by kernel_rfl) (show Act.at b 86 = .bool false from hc.v 13 l13 _ rfl)
      rw [hw]
      refine ⟨fun _ => ?_, fun hq => absurd hq (by decide)⟩
      refine wp_callG 8 _ _ h2 (enters_of Tryd.func8 (by kernel_rfl) rfl) #[.string S] (by simp [show b.eval (.tmp 88) = _ from (show Act.at b 88 = .string S from hc.v 15 l15 _ rfl)]) _ (HR w hbw) ?_
      rintro v w2 ⟨hp2, hb2⟩
      rw [h1]
      exact hK _ _ (FlatC.step wp9_nd (wp9_ks kSq) rfl hc 16 (by decide) (hb2) (fun u hu => by cases hu) (hp2))
    · have h1 : (wp9Ops[17]?).map (·.dst) = some (some 90) := by kernel_rfl
      have h2 : (wp9Ops[17]?).map (·.op) = some (Op.call { callee := Callee.value (Operand.func 7), args := #[Operand.tmp 87, Operand.tmp 89], argTypes := #[27, 27] }) := by kernel_rfl
      have h3 : (wp9Ops[17]?).map (·.guard) = some (some (13, false)) := by kernel_rfl
      rw [ho] at h1 h2 h3
      replace h1 := Option.some.inj h1
      replace h2 := Option.some.inj h2
      replace h3 := Option.some.inj h3
      simp only at h1 h2 h3
      rw [h1] at hK
      have l13 : L 13 = true := hdep 13 (by simp [wp9Dep])
      have l14 : L 14 = true := hdep 14 (by simp [wp9Dep])
      have hw := wanted_of (ops := wp9Ops) (b := b) h3 (d := 86) (by kernel_rfl) (show Act.at b 86 = .bool false from hc.v 13 l13 _ rfl)
      rw [hw]
      refine ⟨fun _ => ?_, fun hq => absurd hq (by decide)⟩
      have l16 : L 16 = true := hdep 16 (by simp [wp9Dep])
      have hp := hc.s 16 l16 (by decide)
      refine wp_callG 7 _ _ h2 (enters_of Tryd.func7 (by kernel_rfl) rfl) #[.agg x.cells.toArray, Act.at b 89] (by simp [show b.eval (.tmp 87) = _ from (show Act.at b 87 = .agg x.cells.toArray from hc.v 14 l14 _ rfl), show b.eval (.tmp 89) = Act.at b 89 from rfl]) _ (HS _ w hp hbw) ?_
      rintro v w2 ⟨rfl, hb2⟩
      rw [h1]
      exact hK _ _ (FlatC.step wp9_nd (wp9_ks kSq) rfl hc 17 (by decide) (hb2) (fun u hu => by injection hu with hu; injection hu) (trivial))
    · have h1 : (wp9Ops[18]?).map (·.dst) = some (some 91) := by kernel_rfl
      have h2 : (wp9Ops[18]?).map (·.op) = some (Op.unOp UnOp.not 4 (Operand.tmp 90)) := by kernel_rfl
      have h3 : (wp9Ops[18]?).map (·.guard) = some (some (13, false)) := by kernel_rfl
      rw [ho] at h1 h2 h3
      replace h1 := Option.some.inj h1
      replace h2 := Option.some.inj h2
      replace h3 := Option.some.inj h3
      simp only at h1 h2 h3
      rw [h1] at hK
      have l13 : L 13 = true := hdep 13 (by simp [wp9Dep])
      have l17 : L 17 = true := hdep 17 (by simp [wp9Dep])
      have hw := wanted_of (ops := wp9Ops) (b := b) h3 (d := 86) (by kernel_rfl) (show Act.at b 86 = .bool false from hc.v 13 l13 _ rfl)
      rw [hw]
      refine ⟨fun _ => ?_, fun hq => absurd hq (by decide)⟩
      refine wp_unG _ _ _ h2 _ (.bool false) (show Act.at b 90 = .bool true from hc.v 17 l17 _ rfl) (by kernel_rfl) ?_
      rw [h1]
      exact hK _ _ (FlatC.step wp9_nd (wp9_ks kSq) rfl hc 18 (by decide) (Below.refl _ _) (fun u hu => by injection hu with hu; injection hu) (trivial))
    · have h1 : (wp9Ops[19]?).map (·.dst) = some (some 92) := by kernel_rfl
      have h2 : (wp9Ops[19]?).map (·.op) = some (Op.pick (Operand.tmp 86) (Operand.const (Value.bool true)) (Operand.tmp 91)) := by kernel_rfl
      have h3 : (wp9Ops[19]?).map (·.guard) = some none := by kernel_rfl
      rw [ho] at h1 h2 h3
      replace h1 := Option.some.inj h1
      replace h2 := Option.some.inj h2
      replace h3 := Option.some.inj h3
      simp only at h1 h2 h3
      rw [h1] at hK
      have l13 : L 13 = true := hdep 13 (by simp [wp9Dep])
      have l18 : L 18 = true := hdep 18 (by simp [wp9Dep])
      refine ⟨fun _ => ?_, fun hw => by rw [wanted_none h3] at hw; cases hw⟩
      refine wp_pickG _ _ _ h2 false (show Act.at b 86 = .bool false from hc.v 13 l13 _ rfl) _ (if_neg (by decide) |>.trans (show Act.at b 91 = .bool false from hc.v 18 l18 _ rfl)) ?_
      rw [h1]
      exact hK _ _ (FlatC.step wp9_nd (wp9_ks kSq) rfl hc 19 (by decide) (Below.refl _ _) (fun u hu => by injection hu with hu; injection hu) (trivial))
  · rintro L b w hL hd hs hf hc
    have hsz2 : wp9Ops.size = 20 := rfl
    rw [hsz2] at hL
    have e := act_eq (a := A0) (b := b) (wp9Us (Act.at b)) hd hs hf (by
      intro p hp
      simp only [wp9Us, List.mem_cons, List.not_mem_nil, or_false] at hp
      rcases hp with rfl | rfl | rfl | rfl | rfl | rfl | rfl | rfl | rfl | rfl | rfl | rfl | rfl | rfl | rfl | rfl | rfl | rfl | rfl | rfl <;> rfl) (by rw [show (wp9Us (Act.at b)).map (·.1) = [73, 74, 75, 76, 77, 78, 79, 80, 81, 82, 83, 84, 85, 86, 87, 88, 89, 90, 91, 92] from rfl]; decide)
    rw [e]
    exact hk (Act.at b) w (hc.v 19 (hL 19 (by omega)) _ rfl) ⟨hc.bel.os, hc.bel.tape, hc.bel.output, hc.bel.size, hc.bel.block⟩
end Go.Proofs.YtplldfbjbekdlaaDoor

/- regex: the law RegexParses, walked. -/
namespace Go.Proofs.YtplldfbjbekdlaaDoor
open Go.RowKit
set_option linter.unusedVariables false
set_option linter.unusedSimpArgs false

/-- What Parse answers, whatever it is. -/
theorem ParseR.un2 {r : Except (Nat × Nat) RT} {w : World} {e : Ending} {w' : World} (h : ParseR r w e w') (hne : ∀ e, r = .error e → e.1 ≠ 0) : Below w.heap.size w w' ∧ ∃ (v : RV) (c p : Nat) (t : RT), e = .returned (.tuple #[.agg v.cells.toArray, .agg (faultC (c : Int) (p : Int))]) ∧ (c = 0 → p = 0 ∧ r = .ok t ∧ Rep w' (w.heap.size ≤ ·) v t) ∧ (c ≠ 0 → r = .error (c, p) ∧ v = RV.zero) := by
  obtain ⟨hb, h⟩ := h
  refine ⟨hb, ?_⟩
  cases r with
  | error x =>
    obtain ⟨c, p⟩ := x
    exact ⟨RV.zero, c, p, .nd 0 (0#256) [] 0 0, by rw [zeroR_eq]; exact h, fun hc => absurd hc (hne _ rfl), fun _ => ⟨rfl, rfl⟩⟩
  | ok t =>
    obtain ⟨v, rfl, hr⟩ := h
    exact ⟨v, 0, 0, t, rfl, fun _ => ⟨rfl, rfl, hr⟩, fun h => absurd rfl h⟩
/-- The two new variables. -/
def boxW (W : World) (v : RV) (c p : Int) : World := (((W.alloc (.cells #[.int .i64 0, .int .u64 0, .int .u64 0, .int .u64 0, .int .u64 0, .slice none 0 0, .int .i64 0, .int .i64 0] 27)).alloc (.cells #[.int .i64 0, .int .i64 0] 30)).setRow W.heap.size v.cells.toArray).setRow (W.heap.size + 1) (faultC c p)
/-- What the law holds: its variables, in two blocks. -/
structure Pq (w : World) (b : Nat) (v : RV) (c p : Nat) (W : World) : Prop where
  bel : Below w.heap.size w W
  hb : w.heap.size ≤ b
  fx : Blk W b 27 v.cells
  ff : Blk W (b + 1) 30 (faultC (c : Int) (p : Int)).toList
theorem Pq.step {w W W' : World} {b : Nat} {v : RV} {c p : Nat} (h : Pq w b v c p W) (hb : Below W.heap.size W W') : Pq w b v c p W' := ⟨h.bel.trans (hb.mono h.bel.size), h.hb, h.fx.keep hb, h.ff.keep hb⟩
theorem Pq.new {w W : World} (h : Below w.heap.size w W) (v : RV) (c p : Nat) : Pq w W.heap.size v c p (boxW W v c p) := by
  obtain ⟨hbx, hx, hf⟩ := box_pf W v c p
  exact ⟨h.trans (hbx.mono h.size), h.size, hx, hf⟩
theorem box_bel (W : World) (v : RV) (c p : Int) : Below W.heap.size W (boxW W v c p) := (box_pf W v c p).1
theorem run_eq20P (W : World) : (binOp .eql 30 (.agg #[.int .i64 2, .int .i64 0]) (.agg #[.int .i64 2, .int .i64 0])).run Tryd.prog W = .ok (.bool true) W := by kernel_rfl
theorem gtr_no (n : Nat) (h : n ≤ 512) (W : World) : (binOp .gtr 3 (.int .i64 (n : Int)) (.int .i64 512)).run Tryd.prog W = .ok (.bool false) W := by
  rw [show (binOp .gtr 3 (.int .i64 (n : Int)) (.int .i64 512)).run Tryd.prog W = .ok (.bool (decide ((512 : Int) < (n : Int)))) W by kernel_rfl, decide_eq_false (by omega)]
set_option maxRecDepth 100000 in
set_option maxHeartbeats 8000000 in
theorem parses_walk (S : ByteArray) (w : World) (hT : TabAt w) :
    Calls Tryd.prog 3 #[.string S] w fun e w' => e = .returned (.bool true) ∧ Below w.heap.size w w' := by
  have HRd := hid (reads_any hT)
  have hsz : S.data.toList.length = S.size := rfl
  by_cases hl : 1000 < S.size
  · have n1 : (1000 : Int) < (S.size : Int) := by omega
    clear hT hl hsz
    go_enter Tryd.func3, Tryd.ntmps3
    go_wp2_with fail
    refine HRd.out.mono ?_
    rintro e w1 ⟨rfl, hb⟩
    have HB := hid hb
    clear hb
    go_wp2_with fail
    go_ret
    exact ⟨rfl, HB.out⟩
  have n1 : ¬ (1000 : Int) < (S.size : Int) := by omega
  have HT := hid hT
  have HPa := hid (fun W => parse_any S W)
  have HE := hid (show ∀ e, pParse S.data.toList = .error e → e.1 ≠ 0 from fun e h => by have := (pParse_er h).1.1; omega)
  have HEr := hid (fun e (h : pParse S.data.toList = .error e) => pParse_er h)
  clear hT
  go_enter Tryd.func3, Tryd.ntmps3
  go_wp2_with fail
  refine HRd.out.mono ?_
  rintro e w1 ⟨rfl, hb1⟩
  have G1 := hid hb1
  clear hb1 HRd
  go_wp2_with fail
  refine (HPa.out _).mono ?_
  rintro e w2 hp2
  obtain ⟨hb2, v, c, p, t, rfl, hr2, hr2'⟩ := ParseR.un2 hp2 HE.out
  have G2 := hid (G1.out.trans (hb2.mono G1.out.size))
  have HOk := hid (fun h => (hr2 h).2.1)
  have HP0 := hid (fun h => (hr2 h).1)
  have HRp := hid (fun h => (hr2 h).2.2)
  have HNo := hid hr2'
  have hs12 := G1.out.size
  have HLt := hid (show w.heap.size ≤ w1.heap.size ∧ w1.heap.size ≤ w2.heap.size from ⟨hs12, hb2.size⟩)
  clear hp2 hb2 hr2 hr2' HPa n1 HE hs12
  go_upto_region 6 with (first
      | (refine wpList_store_row rfl 27 _ _ rfl w2.heap.size (v.cells.toArray) ?_ ?_ 27 #[.int .i64 0, .int .u64 0, .int .u64 0, .int .u64 0, .int .u64 0, .slice none 0 0, .int .i64 0, .int .i64 0] ((Below.heap_alloc _ _ _ (by simp)).trans (heap_alloc_new w2 _)) (rx_size v) ?_ (rx_one v) ?_; exact rfl; exact rfl; exact rfl)
      | (refine wpList_store_row rfl 30 _ _ rfl (w2.heap.size + 1) (faultC (c : Int) (p : Int)) ?_ ?_ 30 #[.int .i64 0, .int .i64 0] (pf_mid w2 _) (fault_size (c : Int) (p : Int)) ?_ (fault_one (c : Int) (p : Int)) ?_; exact rfl; exact rfl; exact rfl))
  change Code.wp _ _ _ _ (boxW w2 v c p)
  have G3 := hid (Pq.new G2.out v c p)
  have HB3 := hid (box_bel w2 v c p)
  generalize boxW w2 v c p = w3 at *
  by_cases hc : c = 0
  rotate_left
  · obtain ⟨he, rfl⟩ := HNo.out hc
    obtain ⟨⟨h1, h2⟩, h3⟩ := HEr.out _ he
    rw [hsz] at h2 h3
    have f0 : w3.cell? ⟨w2.heap.size + 1, 0, none⟩ = some (.int .i64 (c : Int)) := (faultB G3.out.ff).1
    have f1 : w3.cell? ⟨w2.heap.size + 1, 1, none⟩ = some (.int .i64 (p : Int)) := (faultB G3.out.ff).2
    have f2 : w3.cell? ⟨w2.heap.size, 0, none⟩ = some (.int .i64 0) := G3.out.fx.at 0
    have HBl := hid G3.out.bel
    have q0 : (0 : Int) ≤ (p : Int) := by omega
    have q1 : (p : Int) ≤ (S.size : Int) := by simp only at h2; omega
    generalize w2.heap.size = B at *
    clear G1 G2 G3 HB3 HOk HP0 HRp HNo HLt HT HEr he hsz
    by_cases hs : S.size ≤ 512
    · have q2 : (S.size : Int) ≤ 512 := by omega
      clear h3 hs hl
      simp only at h1
      rcases h1 with rfl | rfl | rfl | rfl | rfl
      all_goals
        clear hc h2
        go_wp2_with fail
        go_ret
        exact ⟨rfl, HBl.out⟩
    · have q2 : ¬ (S.size : Int) ≤ 512 := by omega
      have h4 : (c, p) = (2, 0) := by
        rcases h3 with h3 | h3
        · exact absurd h3 hs
        · exact h3
      injection h4 with h4 h5
      subst h4
      subst h5
      have q3 := run_eq20P
      clear h1 h2 h3 hs hl hc q0 q1
      have q0 : (0 : Int) ≤ (S.size : Int) := by omega
      go_wp2_with fail
      go_ret
      exact ⟨rfl, HBl.out⟩
  · subst hc
    obtain rfl := HP0.out rfl
    have hok := HOk.out rfl
    have hrep := HRp.out rfl
    obtain ⟨hfine, hs5, hpd, hll⟩ := pParse_fine hok
    rw [hsz] at hll
    have HRr := hid (fun W => rParse_any 33 S t W (by omega) (ref_parse hok))
    have HKp := hid (fun (W : World) (h : Below w2.heap.size w2 W) => (show Rep W (· < w2.heap.size) v t from hrep.mono h.size (fun b _ hl => h.block b hl) (fun b _ hl => hl)))
    have HCk := hid (fun (W : World) (h : Below w2.heap.size w2 W) => (by
      have h1 := Check_any (HKp.out W h) (fun b hb => Nat.lt_of_lt_of_le hb h.size) hs5
      rw [hfine.wg] at h1
      exact h1 : Calls Tryd.prog 6 #[v.val] W fun e w' => e = .returned (.int .i64 (0 : Nat)) ∧ Below W.heap.size W w'))
    have HSm := hid (fun (W : World) (h : Below w2.heap.size w2 W) (y : RV) (P : Nat → Prop) (hy : Rep W P y t) => (by
      have h1 := same_any t t v y W _ _ (HKp.out W h) hy hs5 hs5
      rw [sm_refl] at h1
      exact h1 : Calls Tryd.prog 7 #[v.val, y.val] W fun e w' => e = .returned (.bool true) ∧ Below W.heap.size W w'))
    have HTx := hid (fun (W : World) (h : Below w2.heap.size w2 W) => Text_any (HKp.out W h) (fun b hb => Nat.lt_of_lt_of_le hb h.size) (HT.out.keep (G2.out.trans (h.mono G2.out.size))) hfine.wg hs5)
    obtain ⟨S2, hS2⟩ : ∃ S2 : ByteArray, S2 = ⟨(wrT t).toArray⟩ := ⟨_, rfl⟩
    rw [← hS2] at HTx
    have hS2l : S2.data.toList = wrT t := by rw [hS2]
    have hS2z : S2.size = (wrT t).length := by rw [hS2]; simp [ByteArray.size]
    have HPb := hid (fun W => parse_any S2 W)
    have HE2 := hid (show ∀ e, pParse S2.data.toList = .error e → e.1 ≠ 0 from fun e h => by have := (pParse_er h).1.1; omega)
    have HBk := hid (show S2.size ≤ 512 → pParse S2.data.toList = .ok t from fun h => by
      rw [hS2l]
      have h1 := (parse_text hfine.wg hs5 (by omega)).1 hpd
      rw [hfine.nr] at h1
      exact h1)
    have HG1 := hid G3.out.fx
    have HG2 := hid G3.out.ff
    have f0 : w3.cell? ⟨w2.heap.size + 1, 0, none⟩ = some (.int .i64 0) := (faultB G3.out.ff).1
    clear hS2 hS2l hS2z HOk HP0 HRp HNo HEr hok hrep hfine hpd
    go_upto_region 9 with fail
    refine wp9_reg (g3 := w2.heap.size) (g4 := w2.heap.size + 1) (n := 0) (x := v) (S := S) (Sq := fun u W => ∃ y : RV, u = .agg y.cells.toArray ∧ Rep W (fun _ => True) y t) rfl rfl rfl (by simp) ?_ HG1.out HG2.out (gtr_no S.size hll) ?_ ?_ ?_ ?_
    · rintro u W W' ⟨y, rfl, hy⟩ hb
      exact ⟨y, rfl, hy.mono hb.size (fun b _ hl => hb.block b hl) (fun _ h _ => h)⟩
    · intro W hW
      refine (HCk.out W (HB3.out.trans (hW.mono HB3.out.size))).mono ?_
      rintro e w' ⟨rfl, hb⟩
      exact ⟨_, rfl, rfl, hb⟩
    · intro W hW
      refine (HRr.out W).mono ?_
      rintro e w' ⟨hb, y, rfl, hy⟩
      exact ⟨_, rfl, ⟨y, rfl, hy.mono (Nat.le_refl _) (fun _ _ _ => rfl) (fun _ _ _ => trivial)⟩, hb⟩
    · rintro u W ⟨y, rfl, hy⟩ hW
      refine (HSm.out W (HB3.out.trans (hW.mono HB3.out.size)) y _ hy).mono ?_
      rintro e w' ⟨rfl, hb⟩
      exact ⟨_, rfl, rfl, hb⟩
    intro f4 w4 hf4 hb4
    simp only [wp9Us, List.foldl_cons, List.foldl_nil, List.setIfInBounds_toArray, List.set_cons_zero, List.set_cons_succ]
    rw [hf4]
    have G4 := hid (G3.out.step hb4)
    have HB4 := hid (HB3.out.trans (hb4.mono HB3.out.size))
    clear hb4 hf4 f0 HG1 HG2 HRr G3 HCk HKp
    have HX4 := hid (HTx.out w4 HB4.out)
    obtain ⟨x0, x1, x2, x3, x4, x5, x6, x7⟩ := Blk.cells8' G4.out.fx
    clear HTx HT
    unfold RV.val at HX4
    go_wp2_with fail
    refine HX4.out.mono ?_
    rintro e w5 ⟨rfl, hb5⟩
    have G5 := hid (G4.out.step hb5)
    have HB5 := hid (HB4.out.trans (hb5.mono HB4.out.size))
    clear hb5 G4 HB4 HX4 x0 x1 x2 x3 x4 x5 x6 x7
    go_wp2_with fail
    refine (HPb.out _).mono ?_
    rintro e w6 hp6
    obtain ⟨hb6, v2, c2, p2, t2, rfl, hr6, hr6'⟩ := ParseR.un2 hp6 HE2.out
    have G6 := hid (G5.out.step hb6)
    have HB6 := hid (HB5.out.trans (hb6.mono HB5.out.size))
    have HY := hid (show S2.size ≤ 512 → c2 = 0 ∧ Rep w6 (w5.heap.size ≤ ·) v2 t from fun h => by
      by_cases hc : c2 = 0
      · obtain ⟨_, e1, e2⟩ := hr6 hc
        rw [HBk.out h] at e1
        injection e1 with e1
        rw [e1]
        exact ⟨hc, e2⟩
      · have := (hr6' hc).1
        rw [HBk.out h] at this
        cases this)
    clear hp6 hb6 hr6 hr6' HPb HE2 HBk G5 HB5
    go_upto_region 13 with (first
      | (refine wpList_store_row rfl 27 _ _ rfl w6.heap.size (v2.cells.toArray) ?_ ?_ 27 #[.int .i64 0, .int .u64 0, .int .u64 0, .int .u64 0, .int .u64 0, .slice none 0 0, .int .i64 0, .int .i64 0] ((Below.heap_alloc _ _ _ (by simp)).trans (heap_alloc_new w6 _)) (rx_size v2) ?_ (rx_one v2) ?_; exact rfl; exact rfl; exact rfl)
      | (refine wpList_store_row rfl 30 _ _ rfl (w6.heap.size + 1) (faultC (c2 : Int) (p2 : Int)) ?_ ?_ 30 #[.int .i64 0, .int .i64 0] (pf_mid w6 _) (fault_size (c2 : Int) (p2 : Int)) ?_ (fault_one (c2 : Int) (p2 : Int)) ?_; exact rfl; exact rfl; exact rfl))
    change Code.wp _ _ _ _ (boxW w6 v2 c2 p2)
    have G7 := hid (G6.out.step (box_bel w6 v2 c2 p2))
    have H7 := hid (Pq.new G6.out.bel v2 c2 p2)
    have HB7 := hid (HB6.out.trans ((box_bel w6 v2 c2 p2).mono HB6.out.size))
    have HY7 := hid (show S2.size ≤ 512 → c2 = 0 ∧ Rep (boxW w6 v2 c2 p2) (w5.heap.size ≤ ·) v2 t from fun h => ⟨(HY.out h).1, (HY.out h).2.mono (box_bel w6 v2 c2 p2).size (fun b _ hl => (box_bel w6 v2 c2 p2).block b hl) (fun _ h _ => h)⟩)
    clear HY HB6 G6
    generalize boxW w6 v2 c2 p2 = w7 at *
    by_cases h5 : 512 < S2.size
    · have q0 : (512 : Int) < (S2.size : Int) := by omega
      clear h5 HY7 HSm
      go_wp2_with fail
      go_ret
      exact ⟨rfl, G7.out.bel⟩
    · have q0 : ¬ (512 : Int) < (S2.size : Int) := by omega
      obtain ⟨rfl, hy⟩ := HY7.out (by omega)
      have HS7 := hid (HSm.out w7 HB7.out v2 _ hy)
      unfold RV.val at HS7
      obtain ⟨x0, x1, x2, x3, x4, x5, x6, x7⟩ := Blk.cells8' G7.out.fx
      obtain ⟨y0, y1, y2, y3, y4, y5, y6, y7⟩ := Blk.cells8' H7.out.fx
      have f0 : w7.cell? ⟨w6.heap.size + 1, 0, none⟩ = some (.int .i64 0) := (faultB H7.out.ff).1
      clear hy HY7 HSm h5 HB7
      go_wp2_with fail
      refine HS7.out.mono ?_
      rintro e w8 ⟨rfl, hb8⟩
      have HB8 := hid (G7.out.bel.trans (hb8.mono G7.out.bel.size))
      clear hb8 G7 H7 HS7 x0 x1 x2 x3 x4 x5 x6 x7 y0 y1 y2 y3 y4 y5 y6 y7 f0
      go_wp2_with fail
      go_ret
      exact ⟨rfl, HB8.out⟩
theorem parses_law (a : ByteArray) {w : World} (hT : TabAt w) : Calls Tryd.prog 3 #[.string a] w fun e w' => e = .returned (.bool true) ∧ Below w.heap.size w w' := parses_walk a w hT
end Go.Proofs.YtplldfbjbekdlaaDoor

/- For every input the law RegexParses returns true, and what came in reads as before. -/
namespace Go.Proofs.YtplldfbjbekdlaaDoor.regexParsesLaw
open Go.ChangeShapes Go.WideShapes Go.ChangeAt Go.RowKit
set_option linter.unusedVariables false

set_option maxRecDepth 100000 in
theorem lifted (os : Os) (started : os.Started) (H : Type) (enc : TypeId × Value → H) :
    ReturnsInHanded {} Tryd.checked os 3 .any (fun w args => (Rows.regexParsesSpec.pre enc Tryd.prog Tryd.f3 [] false w args ∧ laidMetH Tryd.prog laidL w) ∧ sizedMet enc Tryd.prog Tryd.f3 (OpenSpec.ofChange Rows.regexParsesSpec) false w args)
      (Rows.regexParsesSpec.post enc Tryd.prog Tryd.f3 false true false false) := by
  refine returnsInHanded_of_change_and (C := Tryd.checked) (X := fun w _ => laidMetH Tryd.prog laidL w) (fun _ _ _ hh h => h.of_heap hh) own started (by kernel_rfl) Tryd.func3
    (ChangeSpec.witness_shaped (enc := enc) (C := Tryd.checked) (os := os) (X := fun w _ => laidMetH Tryd.prog laidL w) false (World.doorLaid Tryd.prog 400 os) #[.string ⟨#[]⟩] 8 rfl (World.shaped_of_RefB (by kernel_rfl) (by kernel_rfl)) (by kernel_rfl) (by kernel_rfl) (by kernel_rfl) (door_met os _)) ?_
  intro W base args ds gs before hval0 hW _ _ hL _
  have hval : ∀ (j : Nat) t v, Tryd.f3.params[j]? = some t → args[j]? = some v → Value.okWide Tryd.prog W .any base t v := hval0
  have hW' := hW
  obtain ⟨p, q, hA0, hV, rfl, hfz, hnd⟩ := hW
  have hA : DataW.TrodAll enc Tryd.prog W 0 (fun _ => true) true Tryd.f3.params.toList args.toList ds p := hA0
  rw [Tryd.params3] at hA hval
  obtain ⟨v0, vs0, d0, ds0, p0, q0, hargs, rfl, rfl, h0, r0⟩ := trodAll_cons hA
  obtain ⟨rfl, rfl, rfl⟩ := trodAll_nil r0
  obtain rfl : args = #[v0] := by cases args; simp_all
  obtain ⟨rfl, rfl⟩ := trodVars_none hV
  obtain ⟨a0, rfl, rfl, rfl, w0⟩ := Go.ChangeMaps.open_string Tryd.underlying9 (hval 0 9 v0 rfl rfl) h0
  clear hA0 hval0
  refine (parses_law a0 (tab_of_laid hL)).mono fun e W' ⟨he, bel⟩ => ?_
  subst he
  exact ⟨_, rfl, _, _, _, [], _, [], hW', trodAll_mk1 (shut_bool Tryd.underlying4 _), (trodAll_cons_mk (Go.ChangeMaps.shut_string Tryd.underlying9 w0) trodAll_mk0), rfl, bel.frame _, fun h => by cases h⟩

theorem over : Rows.RegexParsesSaid :=
  OpenClaim.holds_of_wide 3 Tryd.f3 rfl rfl rfl rfl rfl rfl rfl ⟨rfl, rfl, rfl, rfl, rfl⟩ rfl rfl rfl rfl rfl (by kernel_rfl) Tryd.func3 (by kernel_rfl)
    (of_decide_eq_true (by kernel_rfl)) (by unfold Func.isWrapper; first | (rw [if_pos (by decide +kernel)]; kernel_rfl) | (rw [if_neg (by decide +kernel)]; exact ⟨rfl, rfl⟩))
    (fun os started H enc _ => lifted os started H enc)

/-- The given statement. -/
theorem proved : Rows.RegexParsesCardSaid :=
  Claim7.holds_tied_plain_at .later [] [.data] true (true, "ae16e848ee658f0c7dd09799d58312aaa8e8464ab8eb0ae876038ef03b98e130") false
    over (fun _ h => by cases h) (by kernel_rfl) (fun _ h => by cases h) regexParses_row_tie rfl ⟨rfl, rfl⟩ (by kernel_rfl) rfl
    (fun f fn hf hfn => by
      obtain rfl : f = 3 := Option.some.inj ((show Tryd.prog.funcNamed "guipure/guipurelaw06.RegexParses" = some 3 by kernel_rfl).symm.trans hf) |>.symm
      obtain rfl : fn = Tryd.f3 := (Option.some.inj (Tryd.func3.symm.trans hfn)).symm
      exact ⟨by kernel_rfl, fun j t ht => by
        rw [Tryd.params3] at ht
        have hm : t ∈ [9] := by simpa using Array.mem_of_getElem? ht
        have hall : ([9].all fun u => !Tryd.prog.wantsStandIn u) = true := by kernel_rfl
        exact (show Tryd.prog.wantsStandIn t = false by simpa using List.all_eq_true.1 hall t hm)⟩)
    (by kernel_rfl)
end Go.Proofs.YtplldfbjbekdlaaDoor.regexParsesLaw
