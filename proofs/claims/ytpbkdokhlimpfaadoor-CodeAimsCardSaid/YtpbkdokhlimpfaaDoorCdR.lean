/- code: may's question of a Switch, in open order. -/
import Derived.Test.YtpbkdokhlimpfaaDoorCdC
import Derived.Test.YtpbkdokhlimpfaaDoorInv
namespace Go.Proofs.YtpbkdokhlimpfaaDoor
set_option linter.unusedSimpArgs false
set_option linter.unusedVariables false
open Go.RowKit

theorem wp_nilG {P : Program} {o : Oper} {a : Act} {w : World} {K : Act → World → Prop} {Q : Exit → Act → World → Prop} (x : Operand) (ho : o.op = .nilCheck x) (p : Addr) (hx : a.eval x = .pointer (some p)) (h : K (a.put o.dst (.pointer (some p))) w) : o.wp P a w K Q := by
  unfold Oper.wp
  have e : (execOp a.eval o).run P w = .ok (.value (.pointer (some p))) w := by
    unfold execOp
    simp only [ho, hx]
    go_simp
  rw [e]
  exact h
theorem wanted_undef {ops : Array Oper} {o : Oper} {b : Act} {j d : Nat} {want : Bool} (hg : o.guard = some (j, want)) (hj : (ops[j]?).map (·.dst) = some (some d)) (hv : Act.at b d = undef) : Region.wanted o (yielded ops b.tmps) = false := by
  obtain ⟨oj, hoj, hd⟩ := Option.map_eq_some_iff.1 hj
  have hy : yielded ops b.tmps j = none := by
    unfold yielded
    rw [hoj]
    simp only [Option.bind_some, hd]
    unfold Act.at at hv
    rw [Array.getD_eq_getD_getElem?] at hv
    cases h : b.tmps[d]? with
    | none => rfl
    | some u =>
      rw [h] at hv
      have hv : u = undef := hv
      rw [hv]
      rfl
  unfold Region.wanted
  rw [hg]
  simp only [hy]
  rfl
theorem fieldS1 (b o : Nat) (w : World) : (Instr.fieldAt 37 (.pointer (some ⟨b, o, none⟩)) 1).run Tryd.prog w = .ok (.pointer (some ⟨b, o + 1, none⟩)) w := by kernel_rfl
theorem fieldS2 (b o : Nat) (w : World) : (Instr.fieldAt 37 (.pointer (some ⟨b, o, none⟩)) 2).run Tryd.prog w = .ok (.pointer (some ⟨b, o + 2, none⟩)) w := by kernel_rfl
theorem fieldP1 (g : Nat) (w : World) : (Instr.fieldAt 24 (.pointer (some ⟨g, 0, none⟩)) 1).run Tryd.prog w = .ok (.pointer (some ⟨g, 1, none⟩)) w := by kernel_rfl
theorem load_iT {w : World} {p : Addr} {a : Int} (h : w.cell? p = some (.int .i64 a)) : (Instr.loadAt 3 (.pointer (some p))).run Tryd.prog w = .ok (.int .i64 a) w := by
  simp [Instr.loadAt, h]
  go_simp
def m13aOps : Array Oper := #[{ dst := some 107, op := Op.move (Operand.tmp 1), type := 57, pos := "check.go:51", after := #[], guard := none }, { dst := some 108, op := Op.nilCheck (Operand.tmp 107), type := 0, pos := "check.go:51", after := #[{ on := 0, ground := Ground.data }], guard := none }, { dst := some 109, op := Op.fieldAddr 37 (Operand.tmp 108) 1, type := 0, pos := "check.go:51", after := #[{ on := 1, ground := Ground.data }], guard := none }, { dst := some 110, op := Op.load 3 (Operand.tmp 109), type := 3, pos := "check.go:51", after := #[{ on := 2, ground := Ground.data }], guard := none }, { dst := some 111, op := Op.fieldAddr 24 (Operand.tmp 2) 1, type := 0, pos := "check.go:51", after := #[], guard := none }, { dst := some 112, op := Op.load 3 (Operand.tmp 111), type := 3, pos := "check.go:51", after := #[{ on := 4, ground := Ground.data }], guard := none }, { dst := some 113, op := Op.call { callee := Callee.value (Operand.func 33), args := #[Operand.tmp 110, Operand.tmp 112], argTypes := #[3, 3] }, type := 4, pos := "check.go:51", after := #[{ on := 3, ground := Ground.data }, { on := 5, ground := Ground.data }], guard := none }, { dst := some 114, op := Op.move (Operand.tmp 113), type := 4, pos := "check.go:51", after := #[{ on := 6, ground := Ground.data }, { on := 6, ground := Ground.chain }], guard := none }, { dst := some 115, op := Op.move (Operand.tmp 1), type := 57, pos := "check.go:51", after := #[{ on := 7, ground := Ground.guard }], guard := some (7, true) }, { dst := some 116, op := Op.nilCheck (Operand.tmp 115), type := 0, pos := "check.go:51", after := #[{ on := 8, ground := Ground.data }, { on := 7, ground := Ground.guard }], guard := some (7, true) }, { dst := some 117, op := Op.fieldAddr 37 (Operand.tmp 116) 2, type := 0, pos := "check.go:51", after := #[{ on := 9, ground := Ground.data }, { on := 7, ground := Ground.guard }], guard := some (7, true) }, { dst := some 118, op := Op.load 3 (Operand.tmp 117), type := 3, pos := "check.go:51", after := #[{ on := 10, ground := Ground.data }, { on := 7, ground := Ground.guard }], guard := some (7, true) }, { dst := some 119, op := Op.binOp BinOp.eql 3 (Operand.tmp 118) (Operand.const (Value.int IntKind.i64 (-1))) 3, type := 4, pos := "check.go:51", after := #[{ on := 11, ground := Ground.data }, { on := 7, ground := Ground.guard }], guard := some (7, true) }, { dst := some 120, op := Op.move (Operand.tmp 119), type := 4, pos := "check.go:51", after := #[{ on := 12, ground := Ground.data }, { on := 7, ground := Ground.chain }, { on := 7, ground := Ground.guard }], guard := some (7, true) }, { dst := some 121, op := Op.load 24 (Operand.tmp 2), type := 24, pos := "check.go:51", after := #[{ on := 13, ground := Ground.guard }], guard := some (13, false) }, { dst := some 122, op := Op.move (Operand.tmp 1), type := 57, pos := "check.go:51", after := #[{ on := 13, ground := Ground.guard }], guard := some (13, false) }, { dst := some 123, op := Op.nilCheck (Operand.tmp 122), type := 0, pos := "check.go:51", after := #[{ on := 15, ground := Ground.data }, { on := 13, ground := Ground.guard }], guard := some (13, false) }, { dst := some 124, op := Op.fieldAddr 37 (Operand.tmp 123) 2, type := 0, pos := "check.go:51", after := #[{ on := 16, ground := Ground.data }, { on := 13, ground := Ground.guard }], guard := some (13, false) }, { dst := some 125, op := Op.load 3 (Operand.tmp 124), type := 3, pos := "check.go:51", after := #[{ on := 17, ground := Ground.data }, { on := 13, ground := Ground.guard }], guard := some (13, false) }, { dst := some 126, op := Op.call { callee := Callee.value (Operand.func 32), args := #[Operand.tmp 121, Operand.tmp 125], argTypes := #[24, 3] }, type := 4, pos := "check.go:51", after := #[{ on := 14, ground := Ground.data }, { on := 18, ground := Ground.data }, { on := 13, ground := Ground.chain }, { on := 13, ground := Ground.guard }], guard := some (13, false) }, { dst := some 127, op := Op.pick (Operand.tmp 120) (Operand.const (Value.bool true)) (Operand.tmp 126), type := 4, pos := "check.go:51", after := #[{ on := 13, ground := Ground.data }, { on := 19, ground := Ground.data }, { on := 7, ground := Ground.guard }], guard := some (7, true) }, { dst := some 128, op := Op.pick (Operand.tmp 114) (Operand.tmp 127) (Operand.const (Value.bool false)), type := 4, pos := "check.go:51", after := #[{ on := 7, ground := Ground.data }, { on := 20, ground := Ground.data }], guard := none }, { dst := some 129, op := Op.move (Operand.tmp 128), type := 4, pos := "check.go:51", after := #[{ on := 21, ground := Ground.data }, { on := 19, ground := Ground.chain }], guard := none }, { dst := some 130, op := Op.load 24 (Operand.tmp 2), type := 24, pos := "check.go:51", after := #[{ on := 22, ground := Ground.guard }], guard := some (22, true) }, { dst := some 131, op := Op.move (Operand.tmp 1), type := 57, pos := "check.go:51", after := #[{ on := 22, ground := Ground.guard }], guard := some (22, true) }, { dst := some 132, op := Op.call { callee := Callee.value (Operand.func 37), args := #[Operand.tmp 130, Operand.tmp 131], argTypes := #[24, 57] }, type := 4, pos := "check.go:51", after := #[{ on := 23, ground := Ground.data }, { on := 24, ground := Ground.data }, { on := 22, ground := Ground.chain }, { on := 22, ground := Ground.guard }], guard := some (22, true) }, { dst := some 133, op := Op.pick (Operand.tmp 129) (Operand.tmp 132) (Operand.const (Value.bool false)), type := 4, pos := "check.go:51", after := #[{ on := 22, ground := Ground.data }, { on := 25, ground := Ground.data }], guard := none }, { dst := some 4, op := Op.assign (Operand.tmp 133), type := 4, pos := "check.go:51", after := #[{ on := 26, ground := Ground.data }, { on := 25, ground := Ground.chain }, { on := 0, ground := Ground.phase }, { on := 1, ground := Ground.phase }, { on := 2, ground := Ground.phase }, { on := 3, ground := Ground.phase }, { on := 4, ground := Ground.phase }, { on := 5, ground := Ground.phase }, { on := 6, ground := Ground.phase }, { on := 7, ground := Ground.phase }, { on := 8, ground := Ground.phase }, { on := 9, ground := Ground.phase }, { on := 10, ground := Ground.phase }, { on := 11, ground := Ground.phase }, { on := 12, ground := Ground.phase }, { on := 13, ground := Ground.phase }, { on := 14, ground := Ground.phase }, { on := 15, ground := Ground.phase }, { on := 16, ground := Ground.phase }, { on := 17, ground := Ground.phase }, { on := 18, ground := Ground.phase }, { on := 19, ground := Ground.phase }, { on := 20, ground := Ground.phase }, { on := 21, ground := Ground.phase }, { on := 22, ground := Ground.phase }, { on := 23, ground := Ground.phase }, { on := 24, ground := Ground.phase }, { on := 25, ground := Ground.phase }, { on := 26, ground := Ground.phase }], guard := none }]
def m13aDep : Nat → List Nat := fun i => match i with | 1 => [0] | 2 => [1] | 3 => [2] | 5 => [4] | 6 => [3, 5] | 7 => [6] | 8 => [7] | 9 => [7] | 10 => [7] | 11 => [7] | 12 => [7] | 13 => [7] | 14 => [13] | 15 => [13] | 16 => [13] | 17 => [13] | 18 => [13] | 19 => [13] | 20 => [7] | 21 => [7] | 22 => [21] | 23 => [22] | 24 => [22] | 25 => [22] | 26 => [22] | 27 => [26] | _ => []
def m13aSl : List Nat := [107, 108, 109, 110, 111, 112, 113, 114, 115, 116, 117, 118, 119, 120, 121, 122, 123, 124, 125, 126, 127, 128, 129, 130, 131, 132, 133, 4]
def m13aVs (gp : Nat) (b1 : Nat) (o1 : Nat) (A : Option Addr) (n : Nat) (c : Nat) (sl : Int) (su : Int) (au : Int) (xa : Int) (xb : Int) : List (Option Value) := [some (.pointer (some ⟨b1, o1, none⟩)), some (.pointer (some ⟨b1, o1, none⟩)), some (.pointer (some ⟨b1, o1 + 1, none⟩)), some (.int .i64 xa), some (.pointer (some ⟨gp, 1, none⟩)), some (.int .i64 sl), some (.bool false), some (.bool false), some (undef), some (undef), some (undef), some (undef), some (undef), some (undef), some (undef), some (undef), some (undef), some (undef), some (undef), some (undef), some (undef), some (.bool false), some (.bool false), some (undef), some (undef), some (undef), some (.bool false), some (.bool false)]
def m13aSp  (i : Nat) : Value → World → Prop := match i with  | _ => fun _ _ => True
theorem m13a_ks   : ∀ i v w w', m13aSp  i v w → Below w.heap.size w w' → m13aSp  i v w' := by
  intro i v w w' h hb
  unfold m13aSp at h ⊢
  split <;> first | trivial
theorem m13a_nd : m13aSl.Nodup := by decide
def m13aUs (f : Nat → Value) : List (Nat × Value) := [(107, f 107), (108, f 108), (109, f 109), (110, f 110), (111, f 111), (112, f 112), (113, f 113), (114, f 114), (115, f 115), (116, f 116), (117, f 117), (118, f 118), (119, f 119), (120, f 120), (121, f 121), (122, f 122), (123, f 123), (124, f 124), (125, f 125), (126, f 126), (127, f 127), (128, f 128), (129, f 129), (130, f 130), (131, f 131), (132, f 132), (133, f 133), (4, f 4)]
set_option maxRecDepth 20000 in
set_option maxHeartbeats 4000000 in
theorem m13a_reg {gp : Nat} {b1 : Nat} {o1 : Nat} {A : Option Addr} {n : Nat} {c : Nat} {sl : Int} {su : Int} {au : Int} {xa : Int} {xb : Int}  {W : World} {A0 : Act} {Q : Exit → Act → World → Prop} {id : Nat} (a1 : Act.at A0 1 = .pointer (some ⟨b1, o1, none⟩)) (a2 : Act.at A0 2 = .pointer (some ⟨gp, 0, none⟩)) (hsz : 143 ≤ A0.tmps.size)  (hKp : Blk W gp 24 [.slice A n c, .int .i64 sl, .int .i64 su, .int .i64 au])
    (HC : ∀ w, Below W.heap.size W w → w.cell? ⟨b1, o1 + 1, none⟩ = some (.int .i64 xa) ∧ w.cell? ⟨b1, o1 + 2, none⟩ = some (.int .i64 xb) ∧ w.cell? ⟨gp, 1, none⟩ = some (.int .i64 sl))
    (HA1 : ∀ w, Below W.heap.size W w → Calls Tryd.prog 33 #[.int .i64 xa, .int .i64 sl] w fun e w' => ∃ v, e = .returned v ∧ v = .bool false ∧ Below w.heap.size w w')
    (hk : ∀ (f : Nat → Value) w', f 4 = .bool false → Below W.heap.size W w' → Q .normal ⟨(m13aUs f).foldl (fun A p => A.setIfInBounds p.1 p.2) A0.tmps, A0.defers⟩ w') :
    (Code.region id m13aOps true).wp Tryd.prog Q A0 W := by
  refine wp_region_fun3 (by kernel_rfl) (fun L f w => FlatC W.drew m13aSl (m13aVs gp b1 o1 A n c sl su au xa xb) (m13aSp ) L f w) [107, 108, 109, 110, 111, 112, 113, 114, 115, 116, 117, 118, 119, 120, 121, 122, 123, 124, 125, 126, 127, 128, 129, 130, 131, 132, 133, 4] (fun i o ho => (wf_ops3 (ops := m13aOps) (by kernel_rfl)) i o ho) (fun i o ho u hu => ?_) ?_ ?_ ?_
  · have := ops_dst [107, 108, 109, 110, 111, 112, 113, 114, 115, 116, 117, 118, 119, 120, 121, 122, 123, 124, 125, 126, 127, 128, 129, 130, 131, 132, 133, 4] 143 (by kernel_rfl) i o ho u hu
    exact ⟨this.1, Nat.lt_of_lt_of_le this.2 hsz⟩
  · have hs : m13aOps.size = 28 := rfl
    rw [hs]
    exact FlatC.start rfl rfl
  · rintro L i o ho hLi haf b w hf hc K hK
    have hdep := ops_deps m13aDep (by kernel_rfl) ho haf
    clear haf
    have hbw : Below W.heap.size W w := ⟨hc.bel.os, hc.bel.tape, hc.bel.output, hc.bel.size, hc.bel.block⟩
    have hs : m13aOps.size = 28 := rfl
    have hlt : i < 28 := hs ▸ (Array.getElem?_eq_some_iff.1 ho).1
    have hcases : i = 0 ∨ i = 1 ∨ i = 2 ∨ i = 3 ∨ i = 4 ∨ i = 5 ∨ i = 6 ∨ i = 7 ∨ i = 8 ∨ i = 9 ∨ i = 10 ∨ i = 11 ∨ i = 12 ∨ i = 13 ∨ i = 14 ∨ i = 15 ∨ i = 16 ∨ i = 17 ∨ i = 18 ∨ i = 19 ∨ i = 20 ∨ i = 21 ∨ i = 22 ∨ i = 23 ∨ i = 24 ∨ i = 25 ∨ i = 26 ∨ i = 27 := by omega
    clear hlt
    rcases hcases with rfl | rfl | rfl | rfl | rfl | rfl | rfl | rfl | rfl | rfl | rfl | rfl | rfl | rfl | rfl | rfl | rfl | rfl | rfl | rfl | rfl | rfl | rfl | rfl | rfl | rfl | rfl | rfl
    · have h1 : (m13aOps[0]?).map (·.dst) = some (some 107) := by kernel_rfl
      have h2 : (m13aOps[0]?).map (·.op) = some (Op.move (Operand.tmp 1)) := by kernel_rfl
      have h3 : (m13aOps[0]?).map (·.guard) = some none := by kernel_rfl
      rw [ho] at h1 h2 h3
      replace h1 := Option.some.inj h1
      replace h2 := Option.some.inj h2
      replace h3 := Option.some.inj h3
      simp only at h1 h2 h3
      rw [h1] at hK
      refine ⟨fun _ => ?_, fun hw => by rw [wanted_none h3] at hw; cases hw⟩
      refine wp_moveG _ h2 _ ((hf 1 (by decide)).trans a1) ?_
      rw [h1]
      exact hK _ _ (FlatC.step m13a_nd (m13a_ks ) rfl hc 0 (by decide) (Below.refl _ _) (fun u hu => by injection hu with hu; injection hu) (trivial))
    · have h1 : (m13aOps[1]?).map (·.dst) = some (some 108) := by kernel_rfl
      have h2 : (m13aOps[1]?).map (·.op) = some (Op.nilCheck (Operand.tmp 107)) := by kernel_rfl
      have h3 : (m13aOps[1]?).map (·.guard) = some none := by kernel_rfl
      rw [ho] at h1 h2 h3
      replace h1 := Option.some.inj h1
      replace h2 := Option.some.inj h2
      replace h3 := Option.some.inj h3
      simp only at h1 h2 h3
      rw [h1] at hK
      have l0 : L 0 = true := hdep 0 (by simp [m13aDep])
      refine ⟨fun _ => ?_, fun hw => by rw [wanted_none h3] at hw; cases hw⟩
      refine wp_nilG _ h2 _ (show Act.at b 107 = .pointer (some ⟨b1, o1, none⟩) from hc.v 0 l0 _ rfl) ?_
      rw [h1]
      exact hK _ _ (FlatC.step m13a_nd (m13a_ks ) rfl hc 1 (by decide) (Below.refl _ _) (fun u hu => by injection hu with hu; injection hu) (trivial))
    · have h1 : (m13aOps[2]?).map (·.dst) = some (some 109) := by kernel_rfl
      have h2 : (m13aOps[2]?).map (·.op) = some (Op.fieldAddr 37 (Operand.tmp 108) 1) := by kernel_rfl
      have h3 : (m13aOps[2]?).map (·.guard) = some none := by kernel_rfl
      rw [ho] at h1 h2 h3
      replace h1 := Option.some.inj h1
      replace h2 := Option.some.inj h2
      replace h3 := Option.some.inj h3
      simp only at h1 h2 h3
      rw [h1] at hK
      have l1 : L 1 = true := hdep 1 (by simp [m13aDep])
      refine ⟨fun _ => ?_, fun hw => by rw [wanted_none h3] at hw; cases hw⟩
      refine wp_fieldG _ _ _ h2 _ _ (show Act.at b 108 = .pointer (some ⟨b1, o1, none⟩) from hc.v 1 l1 _ rfl) (fieldS1 b1 o1 w) ?_
      rw [h1]
      exact hK _ _ (FlatC.step m13a_nd (m13a_ks ) rfl hc 2 (by decide) (Below.refl _ _) (fun u hu => by injection hu with hu; injection hu) (trivial))
    · have h1 : (m13aOps[3]?).map (·.dst) = some (some 110) := by kernel_rfl
      have h2 : (m13aOps[3]?).map (·.op) = some (Op.load 3 (Operand.tmp 109)) := by kernel_rfl
      have h3 : (m13aOps[3]?).map (·.guard) = some none := by kernel_rfl
      rw [ho] at h1 h2 h3
      replace h1 := Option.some.inj h1
      replace h2 := Option.some.inj h2
      replace h3 := Option.some.inj h3
      simp only at h1 h2 h3
      rw [h1] at hK
      have l2 : L 2 = true := hdep 2 (by simp [m13aDep])
      refine ⟨fun _ => ?_, fun hw => by rw [wanted_none h3] at hw; cases hw⟩
      refine wp_loadG _ _ h2 _ _ (show Act.at b 109 = .pointer (some ⟨b1, o1 + 1, none⟩) from hc.v 2 l2 _ rfl) (load_iT (HC w hbw).1) ?_
      rw [h1]
      exact hK _ _ (FlatC.step m13a_nd (m13a_ks ) rfl hc 3 (by decide) (Below.refl _ _) (fun u hu => by injection hu with hu; injection hu) (trivial))
    · have h1 : (m13aOps[4]?).map (·.dst) = some (some 111) := by kernel_rfl
      have h2 : (m13aOps[4]?).map (·.op) = some (Op.fieldAddr 24 (Operand.tmp 2) 1) := by kernel_rfl
      have h3 : (m13aOps[4]?).map (·.guard) = some none := by kernel_rfl
      rw [ho] at h1 h2 h3
      replace h1 := Option.some.inj h1
      replace h2 := Option.some.inj h2
      replace h3 := Option.some.inj h3
      simp only at h1 h2 h3
      rw [h1] at hK
      refine ⟨fun _ => ?_, fun hw => by rw [wanted_none h3] at hw; cases hw⟩
      refine wp_fieldG _ _ _ h2 _ _ ((hf 2 (by decide)).trans a2) (fieldP1 gp w) ?_
      rw [h1]
      exact hK _ _ (FlatC.step m13a_nd (m13a_ks ) rfl hc 4 (by decide) (Below.refl _ _) (fun u hu => by injection hu with hu; injection hu) (trivial))
    · have h1 : (m13aOps[5]?).map (·.dst) = some (some 112) := by kernel_rfl
      have h2 : (m13aOps[5]?).map (·.op) = some (Op.load 3 (Operand.tmp 111)) := by kernel_rfl
      have h3 : (m13aOps[5]?).map (·.guard) = some none := by kernel_rfl
      rw [ho] at h1 h2 h3
      replace h1 := Option.some.inj h1
      replace h2 := Option.some.inj h2
      replace h3 := Option.some.inj h3
      simp only at h1 h2 h3
      rw [h1] at hK
      have l4 : L 4 = true := hdep 4 (by simp [m13aDep])
      refine ⟨fun _ => ?_, fun hw => by rw [wanted_none h3] at hw; cases hw⟩
      refine wp_loadG _ _ h2 _ _ (show Act.at b 111 = .pointer (some ⟨gp, 1, none⟩) from hc.v 4 l4 _ rfl) (load_iT (HC w hbw).2.2) ?_
      rw [h1]
      exact hK _ _ (FlatC.step m13a_nd (m13a_ks ) rfl hc 5 (by decide) (Below.refl _ _) (fun u hu => by injection hu with hu; injection hu) (trivial))
    · have h1 : (m13aOps[6]?).map (·.dst) = some (some 113) := by kernel_rfl
      have h2 : (m13aOps[6]?).map (·.op) = some (Op.call { callee := Callee.value (Operand.func 33), args := #[Operand.tmp 110, Operand.tmp 112], argTypes := #[3, 3] }) := by kernel_rfl
      have h3 : (m13aOps[6]?).map (·.guard) = some none := by kernel_rfl
      rw [ho] at h1 h2 h3
      replace h1 := Option.some.inj h1
      replace h2 := Option.some.inj h2
      replace h3 := Option.some.inj h3
      simp only at h1 h2 h3
      rw [h1] at hK
      have l3 : L 3 = true := hdep 3 (by simp [m13aDep])
      have l5 : L 5 = true := hdep 5 (by simp [m13aDep])
      refine ⟨fun _ => ?_, fun hw => by rw [wanted_none h3] at hw; cases hw⟩
      refine wp_callG 33 _ _ h2 (enters_of Tryd.func33 (by kernel_rfl) rfl) #[.int .i64 xa, .int .i64 sl] (by simp [show b.eval (.tmp 110) = _ from (show Act.at b 110 = .int .i64 xa from hc.v 3 l3 _ rfl), show b.eval (.tmp 112) = _ from (show Act.at b 112 = .int .i64 sl from hc.v 5 l5 _ rfl)]) _ (HA1 w hbw) ?_
      rintro v w2 ⟨rfl, hb2⟩
      rw [h1]
      exact hK _ _ (FlatC.step m13a_nd (m13a_ks ) rfl hc 6 (by decide) (hb2) (fun u hu => by injection hu with hu; injection hu) (trivial))
    · have h1 : (m13aOps[7]?).map (·.dst) = some (some 114) := by kernel_rfl
      have h2 : (m13aOps[7]?).map (·.op) = some (Op.move (Operand.tmp 113)) := by kernel_rfl
      have h3 : (m13aOps[7]?).map (·.guard) = some none := by kernel_rfl
      rw [ho] at h1 h2 h3
      replace h1 := Option.some.inj h1
      replace h2 := Option.some.inj h2
      replace h3 := Option.some.inj h3
      simp only at h1 h2 h3
      rw [h1] at hK
      have l6 : L 6 = true := hdep 6 (by simp [m13aDep])
      refine ⟨fun _ => ?_, fun hw => by rw [wanted_none h3] at hw; cases hw⟩
      refine wp_moveG _ h2 _ (show Act.at b 113 = .bool false from hc.v 6 l6 _ rfl) ?_
      rw [h1]
      exact hK _ _ (FlatC.step m13a_nd (m13a_ks ) rfl hc 7 (by decide) (Below.refl _ _) (fun u hu => by injection hu with hu; injection hu) (trivial))
    · have h1 : (m13aOps[8]?).map (·.dst) = some (some 115) := by kernel_rfl
      have h2 : (m13aOps[8]?).map (·.op) = some (Op.move (Operand.tmp 1)) := by kernel_rfl
      have h3 : (m13aOps[8]?).map (·.guard) = some (some (7, true)) := by kernel_rfl
      rw [ho] at h1 h2 h3
      replace h1 := Option.some.inj h1
      replace h2 := Option.some.inj h2
      replace h3 := Option.some.inj h3
      simp only at h1 h2 h3
      rw [h1] at hK
      have l7 : L 7 = true := hdep 7 (by simp [m13aDep])
      have hw := wanted_of (ops := m13aOps) (b := b) h3 (d := 114) (by kernel_rfl) (show Act.at b 114 = .bool false from hc.v 7 l7 _ rfl)
      rw [hw]
      refine ⟨fun hq => absurd hq (by decide), fun _ => ?_⟩
      rw [h1]
      exact hK _ _ (FlatC.step m13a_nd (m13a_ks ) rfl hc 8 (by decide) (Below.refl _ _) (fun u hu => by injection hu with hu; injection hu) trivial)
    · have h1 : (m13aOps[9]?).map (·.dst) = some (some 116) := by kernel_rfl
      have h2 : (m13aOps[9]?).map (·.op) = some (Op.nilCheck (Operand.tmp 115)) := by kernel_rfl
      have h3 : (m13aOps[9]?).map (·.guard) = some (some (7, true)) := by kernel_rfl
      rw [ho] at h1 h2 h3
      replace h1 := Option.some.inj h1
      replace h2 := Option.some.inj h2
      replace h3 := Option.some.inj h3
      simp only at h1 h2 h3
      rw [h1] at hK
      have l7 : L 7 = true := hdep 7 (by simp [m13aDep])
      have hw := wanted_of (ops := m13aOps) (b := b) h3 (d := 114) (by kernel_rfl) (show Act.at b 114 = .bool false from hc.v 7 l7 _ rfl)
      rw [hw]
      refine ⟨fun hq => absurd hq (by decide), fun _ => ?_⟩
      rw [h1]
      exact hK _ _ (FlatC.step m13a_nd (m13a_ks ) rfl hc 9 (by decide) (Below.refl _ _) (fun u hu => by injection hu with hu; injection hu) trivial)
    · have h1 : (m13aOps[10]?).map (·.dst) = some (some 117) := by kernel_rfl
      have h2 : (m13aOps[10]?).map (·.op) = some (Op.fieldAddr 37 (Operand.tmp 116) 2) := by kernel_rfl
      have h3 : (m13aOps[10]?).map (·.guard) = some (some (7, true)) := by kernel_rfl
      rw [ho] at h1 h2 h3
      replace h1 := Option.some.inj h1
      replace h2 := Option.some.inj h2
      replace h3 := Option.some.inj h3
      simp only at h1 h2 h3
      rw [h1] at hK
      have l7 : L 7 = true := hdep 7 (by simp [m13aDep])
      have hw := wanted_of (ops := m13aOps) (b := b) h3 (d := 114) (by kernel_rfl) (show Act.at b 114 = .bool false from hc.v 7 l7 _ rfl)
      rw [hw]
      refine ⟨fun hq => absurd hq (by decide), fun _ => ?_⟩
      rw [h1]
      exact hK _ _ (FlatC.step m13a_nd (m13a_ks ) rfl hc 10 (by decide) (Below.refl _ _) (fun u hu => by injection hu with hu; injection hu) trivial)
    · have h1 : (m13aOps[11]?).map (·.dst) = some (some 118) := by kernel_rfl
      have h2 : (m13aOps[11]?).map (·.op) = some (Op.load 3 (Operand.tmp 117)) := by kernel_rfl
      have h3 : (m13aOps[11]?).map (·.guard) = some (some (7, true)) := by kernel_rfl
      rw [ho] at h1 h2 h3
      replace h1 := Option.some.inj h1
      replace h2 := Option.some.inj h2
      replace h3 := Option.some.inj h3
      simp only at h1 h2 h3
      rw [h1] at hK
      have l7 : L 7 = true := hdep 7 (by simp [m13aDep])
      have hw := wanted_of (ops := m13aOps) (b := b) h3 (d := 114) (by kernel_rfl) (show Act.at b 114 = .bool false from hc.v 7 l7 _ rfl)
      rw [hw]
      refine ⟨fun hq => absurd hq (by decide), fun _ => ?_⟩
      rw [h1]
      exact hK _ _ (FlatC.step m13a_nd (m13a_ks ) rfl hc 11 (by decide) (Below.refl _ _) (fun u hu => by injection hu with hu; injection hu) trivial)
    · have h1 : (m13aOps[12]?).map (·.dst) = some (some 119) := by kernel_rfl
      have h2 : (m13aOps[12]?).map (·.op) = some (Op.binOp BinOp.eql 3 (Operand.tmp 118) (Operand.const (Value.int IntKind.i64 (-1))) 3) := by kernel_rfl
      have h3 : (m13aOps[12]?).map (·.guard) = some (some (7, true)) := by kernel_rfl
      rw [ho] at h1 h2 h3
      replace h1 := Option.some.inj h1
      replace h2 := Option.some.inj h2
      replace h3 := Option.some.inj h3
      simp only at h1 h2 h3
      rw [h1] at hK
      have l7 : L 7 = true := hdep 7 (by simp [m13aDep])
      have hw := wanted_of (ops := m13aOps) (b := b) h3 (d := 114) (by kernel_rfl) (show Act.at b 114 = .bool false from hc.v 7 l7 _ rfl)
      rw [hw]
      refine ⟨fun hq => absurd hq (by decide), fun _ => ?_⟩
      rw [h1]
      exact hK _ _ (FlatC.step m13a_nd (m13a_ks ) rfl hc 12 (by decide) (Below.refl _ _) (fun u hu => by injection hu with hu; injection hu) trivial)
    · have h1 : (m13aOps[13]?).map (·.dst) = some (some 120) := by kernel_rfl
      have h2 : (m13aOps[13]?).map (·.op) = some (Op.move (Operand.tmp 119)) := by kernel_rfl
      have h3 : (m13aOps[13]?).map (·.guard) = some (some (7, true)) := by kernel_rfl
      rw [ho] at h1 h2 h3
      replace h1 := Option.some.inj h1
      replace h2 := Option.some.inj h2
      replace h3 := Option.some.inj h3
      simp only at h1 h2 h3
      rw [h1] at hK
      have l7 : L 7 = true := hdep 7 (by simp [m13aDep])
      have hw := wanted_of (ops := m13aOps) (b := b) h3 (d := 114) (by kernel_rfl) (show Act.at b 114 = .bool false from hc.v 7 l7 _ rfl)
      rw [hw]
      refine ⟨fun hq => absurd hq (by decide), fun _ => ?_⟩
      rw [h1]
      exact hK _ _ (FlatC.step m13a_nd (m13a_ks ) rfl hc 13 (by decide) (Below.refl _ _) (fun u hu => by injection hu with hu; injection hu) trivial)
    · have h1 : (m13aOps[14]?).map (·.dst) = some (some 121) := by kernel_rfl
      have h2 : (m13aOps[14]?).map (·.op) = some (Op.load 24 (Operand.tmp 2)) := by kernel_rfl
      have h3 : (m13aOps[14]?).map (·.guard) = some (some (13, false)) := by kernel_rfl
      rw [ho] at h1 h2 h3
      replace h1 := Option.some.inj h1
      replace h2 := Option.some.inj h2
      replace h3 := Option.some.inj h3
      simp only at h1 h2 h3
      rw [h1] at hK
      have l13 : L 13 = true := hdep 13 (by simp [m13aDep])
      have hw := wanted_undef (ops := m13aOps) (b := b) h3 (d := 120) (by kernel_rfl) (show Act.at b 120 = undef from hc.v 13 l13 _ rfl)
      rw [hw]
      refine ⟨fun hq => absurd hq (by decide), fun _ => ?_⟩
      rw [h1]
      exact hK _ _ (FlatC.step m13a_nd (m13a_ks ) rfl hc 14 (by decide) (Below.refl _ _) (fun u hu => by injection hu with hu; injection hu) trivial)
    · have h1 : (m13aOps[15]?).map (·.dst) = some (some 122) := by kernel_rfl
      have h2 : (m13aOps[15]?).map (·.op) = some (Op.move (Operand.tmp 1)) := by kernel_rfl
      have h3 : (m13aOps[15]?).map (·.guard) = some (some (13, false)) := by kernel_rfl
      rw [ho] at h1 h2 h3
      replace h1 := Option.some.inj h1
      replace h2 := Option.some.inj h2
      replace h3 := Option.some.inj h3
      simp only at h1 h2 h3
      rw [h1] at hK
      have l13 : L 13 = true := hdep 13 (by simp [m13aDep])
      have hw := wanted_undef (ops := m13aOps) (b := b) h3 (d := 120) (by kernel_rfl) (show Act.at b 120 = undef from hc.v 13 l13 _ rfl)
      rw [hw]
      refine ⟨fun hq => absurd hq (by decide), fun _ => ?_⟩
      rw [h1]
      exact hK _ _ (FlatC.step m13a_nd (m13a_ks ) rfl hc 15 (by decide) (Below.refl _ _) (fun u hu => by injection hu with hu; injection hu) trivial)
    · have h1 : (m13aOps[16]?).map (·.dst) = some (some 123) := by kernel_rfl
      have h2 : (m13aOps[16]?).map (·.op) = some (Op.nilCheck (Operand.tmp 122)) := by kernel_rfl
      have h3 : (m13aOps[16]?).map (·.guard) = some (some (13, false)) := by kernel_rfl
      rw [ho] at h1 h2 h3
      replace h1 := Option.some.inj h1
      replace h2 := Option.some.inj h2
      replace h3 := Option.some.inj h3
      simp only at h1 h2 h3
      rw [h1] at hK
      have l13 : L 13 = true := hdep 13 (by simp [m13aDep])
      have hw := wanted_undef (ops := m13aOps) (b := b) h3 (d := 120) (by kernel_rfl) (show Act.at b 120 = undef from hc.v 13 l13 _ rfl)
      rw [hw]
      refine ⟨fun hq => absurd hq (by decide), fun _ => ?_⟩
      rw [h1]
      exact hK _ _ (FlatC.step m13a_nd (m13a_ks ) rfl hc 16 (by decide) (Below.refl _ _) (fun u hu => by injection hu with hu; injection hu) trivial)
    · have h1 : (m13aOps[17]?).map (·.dst) = some (some 124) := by kernel_rfl
      have h2 : (m13aOps[17]?).map (·.op) = some (Op.fieldAddr 37 (Operand.tmp 123) 2) := by kernel_rfl
      have h3 : (m13aOps[17]?).map (·.guard) = some (some (13, false)) := by kernel_rfl
      rw [ho] at h1 h2 h3
      replace h1 := Option.some.inj h1
      replace h2 := Option.some.inj h2
      replace h3 := Option.some.inj h3
      simp only at h1 h2 h3
      rw [h1] at hK
      have l13 : L 13 = true := hdep 13 (by simp [m13aDep])
      have hw := wanted_undef (ops := m13aOps) (b := b) h3 (d := 120) (by kernel_rfl) (show Act.at b 120 = undef from hc.v 13 l13 _ rfl)
      rw [hw]
      refine ⟨fun hq => absurd hq (by decide), fun _ => ?_⟩
      rw [h1]
      exact hK _ _ (FlatC.step m13a_nd (m13a_ks ) rfl hc 17 (by decide) (Below.refl _ _) (fun u hu => by injection hu with hu; injection hu) trivial)
    · have h1 : (m13aOps[18]?).map (·.dst) = some (some 125) := by kernel_rfl
      have h2 : (m13aOps[18]?).map (·.op) = some (Op.load 3 (Operand.tmp 124)) := by kernel_rfl
      have h3 : (m13aOps[18]?).map (·.guard) = some (some (13, false)) := by kernel_rfl
      rw [ho] at h1 h2 h3
      replace h1 := Option.some.inj h1
      replace h2 := Option.some.inj h2
      replace h3 := Option.some.inj h3
      simp only at h1 h2 h3
      rw [h1] at hK
      have l13 : L 13 = true := hdep 13 (by simp [m13aDep])
      have hw := wanted_undef (ops := m13aOps) (b := b) h3 (d := 120) (by kernel_rfl) (show Act.at b 120 = undef from hc.v 13 l13 _ rfl)
      rw [hw]
      refine ⟨fun hq => absurd hq (by decide), fun _ => ?_⟩
      rw [h1]
      exact hK _ _ (FlatC.step m13a_nd (m13a_ks ) rfl hc 18 (by decide) (Below.refl _ _) (fun u hu => by injection hu with hu; injection hu) trivial)
    · have h1 : (m13aOps[19]?).map (·.dst) = some (some 126) := by kernel_rfl
      have h2 : (m13aOps[19]?).map (·.op) = some (Op.call { callee := Callee.value (Operand.func 32), args := #[Operand.tmp 121, Operand.tmp 125], argTypes := #[24, 3] }) := by kernel_rfl
      have h3 : (m13aOps[19]?).map (·.guard) = some (some (13, false)) := by kernel_rfl
      rw [ho] at h1 h2 h3
      replace h1 := Option.some.inj h1
      replace h2 := Option.some.inj h2
      replace h3 := Option.some.inj h3
      simp only at h1 h2 h3
      rw [h1] at hK
      have l13 : L 13 = true := hdep 13 (by simp [m13aDep])
      have hw := wanted_undef (ops := m13aOps) (b := b) h3 (d := 120) (by kernel_rfl) (show Act.at b 120 = undef from hc.v 13 l13 _ rfl)
      rw [hw]
      refine ⟨fun hq => absurd hq (by decide), fun _ => ?_⟩
      rw [h1]
      exact hK _ _ (FlatC.step m13a_nd (m13a_ks ) rfl hc 19 (by decide) (Below.refl _ _) (fun u hu => by injection hu with hu; injection hu) trivial)
    · have h1 : (m13aOps[20]?).map (·.dst) = some (some 127) := by kernel_rfl
      have h2 : (m13aOps[20]?).map (·.op) = some (Op.pick (Operand.tmp 120) (Operand.const (Value.bool true)) (Operand.tmp 126)) := by kernel_rfl
      have h3 : (m13aOps[20]?).map (·.guard) = some (some (7, true)) := by kernel_rfl
      rw [ho] at h1 h2 h3
      replace h1 := Option.some.inj h1
      replace h2 := Option.some.inj h2
      replace h3 := Option.some.inj h3
      simp only at h1 h2 h3
      rw [h1] at hK
      have l7 : L 7 = true := hdep 7 (by simp [m13aDep])
      have hw := wanted_of (ops := m13aOps) (b := b) h3 (d := 114) (by kernel_rfl) (show Act.at b 114 = .bool false from hc.v 7 l7 _ rfl)
      rw [hw]
      refine ⟨fun hq => absurd hq (by decide), fun _ => ?_⟩
      rw [h1]
      exact hK _ _ (FlatC.step m13a_nd (m13a_ks ) rfl hc 20 (by decide) (Below.refl _ _) (fun u hu => by injection hu with hu; injection hu) trivial)
    · have h1 : (m13aOps[21]?).map (·.dst) = some (some 128) := by kernel_rfl
      have h2 : (m13aOps[21]?).map (·.op) = some (Op.pick (Operand.tmp 114) (Operand.tmp 127) (Operand.const (Value.bool false))) := by kernel_rfl
      have h3 : (m13aOps[21]?).map (·.guard) = some none := by kernel_rfl
      rw [ho] at h1 h2 h3
      replace h1 := Option.some.inj h1
      replace h2 := Option.some.inj h2
      replace h3 := Option.some.inj h3
      simp only at h1 h2 h3
      rw [h1] at hK
      have l7 : L 7 = true := hdep 7 (by simp [m13aDep])
      refine ⟨fun _ => ?_, fun hw => by rw [wanted_none h3] at hw; cases hw⟩
      refine wp_pickG _ _ _ h2 false (show Act.at b 114 = .bool false from hc.v 7 l7 _ rfl) _ (if_neg (by decide) |>.trans rfl) ?_
      rw [h1]
      exact hK _ _ (FlatC.step m13a_nd (m13a_ks ) rfl hc 21 (by decide) (Below.refl _ _) (fun u hu => by injection hu with hu; injection hu) (trivial))
    · have h1 : (m13aOps[22]?).map (·.dst) = some (some 129) := by kernel_rfl
      have h2 : (m13aOps[22]?).map (·.op) = some (Op.move (Operand.tmp 128)) := by kernel_rfl
      have h3 : (m13aOps[22]?).map (·.guard) = some none := by kernel_rfl
      rw [ho] at h1 h2 h3
      replace h1 := Option.some.inj h1
      replace h2 := Option.some.inj h2
      replace h3 := Option.some.inj h3
      simp only at h1 h2 h3
      rw [h1] at hK
      have l21 : L 21 = true := hdep 21 (by simp [m13aDep])
      refine ⟨fun _ => ?_, fun hw => by rw [wanted_none h3] at hw; cases hw⟩
      refine wp_moveG _ h2 _ (show Act.at b 128 = .bool false from hc.v 21 l21 _ rfl) ?_
      rw [h1]
      exact hK _ _ (FlatC.step m13a_nd (m13a_ks ) rfl hc 22 (by decide) (Below.refl _ _) (fun u hu => by injection hu with hu; injection hu) (trivial))
    · have h1 : (m13aOps[23]?).map (·.dst) = some (some 130) := by kernel_rfl
      have h2 : (m13aOps[23]?).map (·.op) = some (Op.load 24 (Operand.tmp 2)) := by kernel_rfl
      have h3 : (m13aOps[23]?).map (·.guard) = some (some (22, true)) := by kernel_rfl
      rw [ho] at h1 h2 h3
      replace h1 := Option.some.inj h1
      replace h2 := Option.some.inj h2
      replace h3 := Option.some.inj h3
      simp only at h1 h2 h3
      rw [h1] at hK
      have l22 : L 22 = true := hdep 22 (by simp [m13aDep])
      have hw := wanted_of (ops := m13aOps) (b := b) h3 (d := 129) (by kernel_rfl) (show Act.at b 129 = .bool false from hc.v 22 l22 _ rfl)
      rw [hw]
      refine ⟨fun hq => absurd hq (by decide), fun _ => ?_⟩
      rw [h1]
      exact hK _ _ (FlatC.step m13a_nd (m13a_ks ) rfl hc 23 (by decide) (Below.refl _ _) (fun u hu => by injection hu with hu; injection hu) trivial)
    · have h1 : (m13aOps[24]?).map (·.dst) = some (some 131) := by kernel_rfl
      have h2 : (m13aOps[24]?).map (·.op) = some (Op.move (Operand.tmp 1)) := by kernel_rfl
      have h3 : (m13aOps[24]?).map (·.guard) = some (some (22, true)) := by kernel_rfl
      rw [ho] at h1 h2 h3
      replace h1 := Option.some.inj h1
      replace h2 := Option.some.inj h2
      replace h3 := Option.some.inj h3
      simp only at h1 h2 h3
      rw [h1] at hK
      have l22 : L 22 = true := hdep 22 (by simp [m13aDep])
      have hw := wanted_of (ops := m13aOps) (b := b) h3 (d := 129) (by kernel_rfl) (show Act.at b 129 = .bool false from hc.v 22 l22 _ rfl)
      rw [hw]
      refine ⟨fun hq => absurd hq (by decide), fun _ => ?_⟩
      rw [h1]
      exact hK _ _ (FlatC.step m13a_nd (m13a_ks ) rfl hc 24 (by decide) (Below.refl _ _) (fun u hu => by injection hu with hu; injection hu) trivial)
    · have h1 : (m13aOps[25]?).map (·.dst) = some (some 132) := by kernel_rfl
      have h2 : (m13aOps[25]?).map (·.op) = some (Op.call { callee := Callee.value (Operand.func 37), args := #[Operand.tmp 130, Operand.tmp 131], argTypes := #[24, 57] }) := by kernel_rfl
      have h3 : (m13aOps[25]?).map (·.guard) = some (some (22, true)) := by kernel_rfl
      rw [ho] at h1 h2 h3
      replace h1 := Option.some.inj h1
      replace h2 := Option.some.inj h2
      replace h3 := Option.some.inj h3
      simp only at h1 h2 h3
      rw [h1] at hK
      have l22 : L 22 = true := hdep 22 (by simp [m13aDep])
      have hw := wanted_of (ops := m13aOps) (b := b) h3 (d := 129) (by kernel_rfl) (show Act.at b 129 = .bool false from hc.v 22 l22 _ rfl)
      rw [hw]
      refine ⟨fun hq => absurd hq (by decide), fun _ => ?_⟩
      rw [h1]
      exact hK _ _ (FlatC.step m13a_nd (m13a_ks ) rfl hc 25 (by decide) (Below.refl _ _) (fun u hu => by injection hu with hu; injection hu) trivial)
    · have h1 : (m13aOps[26]?).map (·.dst) = some (some 133) := by kernel_rfl
      have h2 : (m13aOps[26]?).map (·.op) = some (Op.pick (Operand.tmp 129) (Operand.tmp 132) (Operand.const (Value.bool false))) := by kernel_rfl
      have h3 : (m13aOps[26]?).map (·.guard) = some none := by kernel_rfl
      rw [ho] at h1 h2 h3
      replace h1 := Option.some.inj h1
      replace h2 := Option.some.inj h2
      replace h3 := Option.some.inj h3
      simp only at h1 h2 h3
      rw [h1] at hK
      have l22 : L 22 = true := hdep 22 (by simp [m13aDep])
      refine ⟨fun _ => ?_, fun hw => by rw [wanted_none h3] at hw; cases hw⟩
      refine wp_pickG _ _ _ h2 false (show Act.at b 129 = .bool false from hc.v 22 l22 _ rfl) _ (if_neg (by decide) |>.trans rfl) ?_
      rw [h1]
      exact hK _ _ (FlatC.step m13a_nd (m13a_ks ) rfl hc 26 (by decide) (Below.refl _ _) (fun u hu => by injection hu with hu; injection hu) (trivial))
    · have h1 : (m13aOps[27]?).map (·.dst) = some (some 4) := by kernel_rfl
      have h2 : (m13aOps[27]?).map (·.op) = some (Op.assign (Operand.tmp 133)) := by kernel_rfl
      have h3 : (m13aOps[27]?).map (·.guard) = some none := by kernel_rfl
      rw [ho] at h1 h2 h3
      replace h1 := Option.some.inj h1
      replace h2 := Option.some.inj h2
      replace h3 := Option.some.inj h3
      simp only at h1 h2 h3
      rw [h1] at hK
      have l26 : L 26 = true := hdep 26 (by simp [m13aDep])
      refine ⟨fun _ => ?_, fun hw => by rw [wanted_none h3] at hw; cases hw⟩
      refine wp_assignG _ h2 _ (show Act.at b 133 = .bool false from hc.v 26 l26 _ rfl) ?_
      rw [h1]
      exact hK _ _ (FlatC.step m13a_nd (m13a_ks ) rfl hc 27 (by decide) (Below.refl _ _) (fun u hu => by injection hu with hu; injection hu) (trivial))
  · rintro L b w hL hd hs hf hc
    have hsz2 : m13aOps.size = 28 := rfl
    rw [hsz2] at hL
    have e := act_eq (a := A0) (b := b) (m13aUs (Act.at b)) hd hs hf (by
      intro p hp
      simp only [m13aUs, List.mem_cons, List.not_mem_nil, or_false] at hp
      rcases hp with rfl | rfl | rfl | rfl | rfl | rfl | rfl | rfl | rfl | rfl | rfl | rfl | rfl | rfl | rfl | rfl | rfl | rfl | rfl | rfl | rfl | rfl | rfl | rfl | rfl | rfl | rfl | rfl <;> rfl) (by rw [show (m13aUs (Act.at b)).map (·.1) = [107, 108, 109, 110, 111, 112, 113, 114, 115, 116, 117, 118, 119, 120, 121, 122, 123, 124, 125, 126, 127, 128, 129, 130, 131, 132, 133, 4] from rfl]; decide)
    rw [e]
    exact hk (Act.at b) w (hc.v 27 (hL 27 (by omega)) _ rfl) ⟨hc.bel.os, hc.bel.tape, hc.bel.output, hc.bel.size, hc.bel.block⟩
def m13bOps : Array Oper := #[{ dst := some 107, op := Op.move (Operand.tmp 1), type := 57, pos := "check.go:51", after := #[], guard := none }, { dst := some 108, op := Op.nilCheck (Operand.tmp 107), type := 0, pos := "check.go:51", after := #[{ on := 0, ground := Ground.data }], guard := none }, { dst := some 109, op := Op.fieldAddr 37 (Operand.tmp 108) 1, type := 0, pos := "check.go:51", after := #[{ on := 1, ground := Ground.data }], guard := none }, { dst := some 110, op := Op.load 3 (Operand.tmp 109), type := 3, pos := "check.go:51", after := #[{ on := 2, ground := Ground.data }], guard := none }, { dst := some 111, op := Op.fieldAddr 24 (Operand.tmp 2) 1, type := 0, pos := "check.go:51", after := #[], guard := none }, { dst := some 112, op := Op.load 3 (Operand.tmp 111), type := 3, pos := "check.go:51", after := #[{ on := 4, ground := Ground.data }], guard := none }, { dst := some 113, op := Op.call { callee := Callee.value (Operand.func 33), args := #[Operand.tmp 110, Operand.tmp 112], argTypes := #[3, 3] }, type := 4, pos := "check.go:51", after := #[{ on := 3, ground := Ground.data }, { on := 5, ground := Ground.data }], guard := none }, { dst := some 114, op := Op.move (Operand.tmp 113), type := 4, pos := "check.go:51", after := #[{ on := 6, ground := Ground.data }, { on := 6, ground := Ground.chain }], guard := none }, { dst := some 115, op := Op.move (Operand.tmp 1), type := 57, pos := "check.go:51", after := #[{ on := 7, ground := Ground.guard }], guard := some (7, true) }, { dst := some 116, op := Op.nilCheck (Operand.tmp 115), type := 0, pos := "check.go:51", after := #[{ on := 8, ground := Ground.data }, { on := 7, ground := Ground.guard }], guard := some (7, true) }, { dst := some 117, op := Op.fieldAddr 37 (Operand.tmp 116) 2, type := 0, pos := "check.go:51", after := #[{ on := 9, ground := Ground.data }, { on := 7, ground := Ground.guard }], guard := some (7, true) }, { dst := some 118, op := Op.load 3 (Operand.tmp 117), type := 3, pos := "check.go:51", after := #[{ on := 10, ground := Ground.data }, { on := 7, ground := Ground.guard }], guard := some (7, true) }, { dst := some 119, op := Op.binOp BinOp.eql 3 (Operand.tmp 118) (Operand.const (Value.int IntKind.i64 (-1))) 3, type := 4, pos := "check.go:51", after := #[{ on := 11, ground := Ground.data }, { on := 7, ground := Ground.guard }], guard := some (7, true) }, { dst := some 120, op := Op.move (Operand.tmp 119), type := 4, pos := "check.go:51", after := #[{ on := 12, ground := Ground.data }, { on := 7, ground := Ground.chain }, { on := 7, ground := Ground.guard }], guard := some (7, true) }, { dst := some 121, op := Op.load 24 (Operand.tmp 2), type := 24, pos := "check.go:51", after := #[{ on := 13, ground := Ground.guard }], guard := some (13, false) }, { dst := some 122, op := Op.move (Operand.tmp 1), type := 57, pos := "check.go:51", after := #[{ on := 13, ground := Ground.guard }], guard := some (13, false) }, { dst := some 123, op := Op.nilCheck (Operand.tmp 122), type := 0, pos := "check.go:51", after := #[{ on := 15, ground := Ground.data }, { on := 13, ground := Ground.guard }], guard := some (13, false) }, { dst := some 124, op := Op.fieldAddr 37 (Operand.tmp 123) 2, type := 0, pos := "check.go:51", after := #[{ on := 16, ground := Ground.data }, { on := 13, ground := Ground.guard }], guard := some (13, false) }, { dst := some 125, op := Op.load 3 (Operand.tmp 124), type := 3, pos := "check.go:51", after := #[{ on := 17, ground := Ground.data }, { on := 13, ground := Ground.guard }], guard := some (13, false) }, { dst := some 126, op := Op.call { callee := Callee.value (Operand.func 32), args := #[Operand.tmp 121, Operand.tmp 125], argTypes := #[24, 3] }, type := 4, pos := "check.go:51", after := #[{ on := 14, ground := Ground.data }, { on := 18, ground := Ground.data }, { on := 13, ground := Ground.chain }, { on := 13, ground := Ground.guard }], guard := some (13, false) }, { dst := some 127, op := Op.pick (Operand.tmp 120) (Operand.const (Value.bool true)) (Operand.tmp 126), type := 4, pos := "check.go:51", after := #[{ on := 13, ground := Ground.data }, { on := 19, ground := Ground.data }, { on := 7, ground := Ground.guard }], guard := some (7, true) }, { dst := some 128, op := Op.pick (Operand.tmp 114) (Operand.tmp 127) (Operand.const (Value.bool false)), type := 4, pos := "check.go:51", after := #[{ on := 7, ground := Ground.data }, { on := 20, ground := Ground.data }], guard := none }, { dst := some 129, op := Op.move (Operand.tmp 128), type := 4, pos := "check.go:51", after := #[{ on := 21, ground := Ground.data }, { on := 19, ground := Ground.chain }], guard := none }, { dst := some 130, op := Op.load 24 (Operand.tmp 2), type := 24, pos := "check.go:51", after := #[{ on := 22, ground := Ground.guard }], guard := some (22, true) }, { dst := some 131, op := Op.move (Operand.tmp 1), type := 57, pos := "check.go:51", after := #[{ on := 22, ground := Ground.guard }], guard := some (22, true) }, { dst := some 132, op := Op.call { callee := Callee.value (Operand.func 37), args := #[Operand.tmp 130, Operand.tmp 131], argTypes := #[24, 57] }, type := 4, pos := "check.go:51", after := #[{ on := 23, ground := Ground.data }, { on := 24, ground := Ground.data }, { on := 22, ground := Ground.chain }, { on := 22, ground := Ground.guard }], guard := some (22, true) }, { dst := some 133, op := Op.pick (Operand.tmp 129) (Operand.tmp 132) (Operand.const (Value.bool false)), type := 4, pos := "check.go:51", after := #[{ on := 22, ground := Ground.data }, { on := 25, ground := Ground.data }], guard := none }, { dst := some 4, op := Op.assign (Operand.tmp 133), type := 4, pos := "check.go:51", after := #[{ on := 26, ground := Ground.data }, { on := 25, ground := Ground.chain }, { on := 0, ground := Ground.phase }, { on := 1, ground := Ground.phase }, { on := 2, ground := Ground.phase }, { on := 3, ground := Ground.phase }, { on := 4, ground := Ground.phase }, { on := 5, ground := Ground.phase }, { on := 6, ground := Ground.phase }, { on := 7, ground := Ground.phase }, { on := 8, ground := Ground.phase }, { on := 9, ground := Ground.phase }, { on := 10, ground := Ground.phase }, { on := 11, ground := Ground.phase }, { on := 12, ground := Ground.phase }, { on := 13, ground := Ground.phase }, { on := 14, ground := Ground.phase }, { on := 15, ground := Ground.phase }, { on := 16, ground := Ground.phase }, { on := 17, ground := Ground.phase }, { on := 18, ground := Ground.phase }, { on := 19, ground := Ground.phase }, { on := 20, ground := Ground.phase }, { on := 21, ground := Ground.phase }, { on := 22, ground := Ground.phase }, { on := 23, ground := Ground.phase }, { on := 24, ground := Ground.phase }, { on := 25, ground := Ground.phase }, { on := 26, ground := Ground.phase }], guard := none }]
def m13bDep : Nat → List Nat := fun i => match i with | 1 => [0] | 2 => [1] | 3 => [2] | 5 => [4] | 6 => [3, 5] | 7 => [6] | 8 => [7] | 9 => [7, 8] | 10 => [7, 9] | 11 => [7, 10] | 12 => [7, 11] | 13 => [7, 12] | 14 => [13] | 15 => [13] | 16 => [13] | 17 => [13] | 18 => [13] | 19 => [13] | 20 => [7, 13] | 21 => [7, 20] | 22 => [21] | 23 => [22] | 24 => [22] | 25 => [22, 23, 24] | 26 => [22, 25] | 27 => [26] | _ => []
def m13bSl : List Nat := [107, 108, 109, 110, 111, 112, 113, 114, 115, 116, 117, 118, 119, 120, 121, 122, 123, 124, 125, 126, 127, 128, 129, 130, 131, 132, 133, 4]
def m13bVs (gp : Nat) (b1 : Nat) (o1 : Nat) (A : Option Addr) (n : Nat) (c : Nat) (sl : Int) (su : Int) (au : Int) (xa : Int) (xb : Int) : List (Option Value) := [some (.pointer (some ⟨b1, o1, none⟩)), some (.pointer (some ⟨b1, o1, none⟩)), some (.pointer (some ⟨b1, o1 + 1, none⟩)), some (.int .i64 xa), some (.pointer (some ⟨gp, 1, none⟩)), some (.int .i64 sl), some (.bool true), some (.bool true), some (.pointer (some ⟨b1, o1, none⟩)), some (.pointer (some ⟨b1, o1, none⟩)), some (.pointer (some ⟨b1, o1 + 2, none⟩)), some (.int .i64 xb), some (.bool true), some (.bool true), some (undef), some (undef), some (undef), some (undef), some (undef), some (undef), some (.bool true), some (.bool true), some (.bool true), some (.agg #[.slice A n c, .int .i64 sl, .int .i64 su, .int .i64 au]), some (.pointer (some ⟨b1, o1, none⟩)), some (.bool true), some (.bool true), some (.bool true)]
def m13bSp  (i : Nat) : Value → World → Prop := match i with  | _ => fun _ _ => True
theorem m13b_ks   : ∀ i v w w', m13bSp  i v w → Below w.heap.size w w' → m13bSp  i v w' := by
  intro i v w w' h hb
  unfold m13bSp at h ⊢
  split <;> first | trivial
theorem m13b_nd : m13bSl.Nodup := by decide
def m13bUs (f : Nat → Value) : List (Nat × Value) := [(107, f 107), (108, f 108), (109, f 109), (110, f 110), (111, f 111), (112, f 112), (113, f 113), (114, f 114), (115, f 115), (116, f 116), (117, f 117), (118, f 118), (119, f 119), (120, f 120), (121, f 121), (122, f 122), (123, f 123), (124, f 124), (125, f 125), (126, f 126), (127, f 127), (128, f 128), (129, f 129), (130, f 130), (131, f 131), (132, f 132), (133, f 133), (4, f 4)]
set_option maxRecDepth 20000 in
set_option maxHeartbeats 4000000 in
theorem m13b_reg {gp : Nat} {b1 : Nat} {o1 : Nat} {A : Option Addr} {n : Nat} {c : Nat} {sl : Int} {su : Int} {au : Int} {xa : Int} {xb : Int}  {W : World} {A0 : Act} {Q : Exit → Act → World → Prop} {id : Nat} (a1 : Act.at A0 1 = .pointer (some ⟨b1, o1, none⟩)) (a2 : Act.at A0 2 = .pointer (some ⟨gp, 0, none⟩)) (hsz : 143 ≤ A0.tmps.size)  (hKp : Blk W gp 24 [.slice A n c, .int .i64 sl, .int .i64 su, .int .i64 au])
    (HC : ∀ w, Below W.heap.size W w → w.cell? ⟨b1, o1 + 1, none⟩ = some (.int .i64 xa) ∧ w.cell? ⟨b1, o1 + 2, none⟩ = some (.int .i64 xb) ∧ w.cell? ⟨gp, 1, none⟩ = some (.int .i64 sl))
    (HA1 : ∀ w, Below W.heap.size W w → Calls Tryd.prog 33 #[.int .i64 xa, .int .i64 sl] w fun e w' => ∃ v, e = .returned v ∧ v = .bool true ∧ Below w.heap.size w w')
    (HE1 : ∀ w, (binOp .eql 3 (.int .i64 xb) (.int .i64 (-1))).run Tryd.prog w = .ok (.bool true) w)
    (HA3 : ∀ w, Below W.heap.size W w → Calls Tryd.prog 37 #[.agg #[.slice A n c, .int .i64 sl, .int .i64 su, .int .i64 au], .pointer (some ⟨b1, o1, none⟩)] w fun e w' => ∃ v, e = .returned v ∧ v = .bool true ∧ Below w.heap.size w w')
    (hk : ∀ (f : Nat → Value) w', f 4 = .bool true → Below W.heap.size W w' → Q .normal ⟨(m13bUs f).foldl (fun A p => A.setIfInBounds p.1 p.2) A0.tmps, A0.defers⟩ w') :
    (Code.region id m13bOps true).wp Tryd.prog Q A0 W := by
  refine wp_region_fun3 (by kernel_rfl) (fun L f w => FlatC W.drew m13bSl (m13bVs gp b1 o1 A n c sl su au xa xb) (m13bSp ) L f w) [107, 108, 109, 110, 111, 112, 113, 114, 115, 116, 117, 118, 119, 120, 121, 122, 123, 124, 125, 126, 127, 128, 129, 130, 131, 132, 133, 4] (fun i o ho => (wf_ops3 (ops := m13bOps) (by kernel_rfl)) i o ho) (fun i o ho u hu => ?_) ?_ ?_ ?_
  · have := ops_dst [107, 108, 109, 110, 111, 112, 113, 114, 115, 116, 117, 118, 119, 120, 121, 122, 123, 124, 125, 126, 127, 128, 129, 130, 131, 132, 133, 4] 143 (by kernel_rfl) i o ho u hu
    exact ⟨this.1, Nat.lt_of_lt_of_le this.2 hsz⟩
  · have hs : m13bOps.size = 28 := rfl
    rw [hs]
    exact FlatC.start rfl rfl
  · rintro L i o ho hLi haf b w hf hc K hK
    have hdep := ops_deps m13bDep (by kernel_rfl) ho haf
    clear haf
    have hbw : Below W.heap.size W w := ⟨hc.bel.os, hc.bel.tape, hc.bel.output, hc.bel.size, hc.bel.block⟩
    have hs : m13bOps.size = 28 := rfl
    have hlt : i < 28 := hs ▸ (Array.getElem?_eq_some_iff.1 ho).1
    have hcases : i = 0 ∨ i = 1 ∨ i = 2 ∨ i = 3 ∨ i = 4 ∨ i = 5 ∨ i = 6 ∨ i = 7 ∨ i = 8 ∨ i = 9 ∨ i = 10 ∨ i = 11 ∨ i = 12 ∨ i = 13 ∨ i = 14 ∨ i = 15 ∨ i = 16 ∨ i = 17 ∨ i = 18 ∨ i = 19 ∨ i = 20 ∨ i = 21 ∨ i = 22 ∨ i = 23 ∨ i = 24 ∨ i = 25 ∨ i = 26 ∨ i = 27 := by omega
    clear hlt
    rcases hcases with rfl | rfl | rfl | rfl | rfl | rfl | rfl | rfl | rfl | rfl | rfl | rfl | rfl | rfl | rfl | rfl | rfl | rfl | rfl | rfl | rfl | rfl | rfl | rfl | rfl | rfl | rfl | rfl
    · have h1 : (m13bOps[0]?).map (·.dst) = some (some 107) := by kernel_rfl
      have h2 : (m13bOps[0]?).map (·.op) = some (Op.move (Operand.tmp 1)) := by kernel_rfl
      have h3 : (m13bOps[0]?).map (·.guard) = some none := by kernel_rfl
      rw [ho] at h1 h2 h3
      replace h1 := Option.some.inj h1
      replace h2 := Option.some.inj h2
      replace h3 := Option.some.inj h3
      simp only at h1 h2 h3
      rw [h1] at hK
      refine ⟨fun _ => ?_, fun hw => by rw [wanted_none h3] at hw; cases hw⟩
      refine wp_moveG _ h2 _ ((hf 1 (by decide)).trans a1) ?_
      rw [h1]
      exact hK _ _ (FlatC.step m13b_nd (m13b_ks ) rfl hc 0 (by decide) (Below.refl _ _) (fun u hu => by injection hu with hu; injection hu) (trivial))
    · have h1 : (m13bOps[1]?).map (·.dst) = some (some 108) := by kernel_rfl
      have h2 : (m13bOps[1]?).map (·.op) = some (Op.nilCheck (Operand.tmp 107)) := by kernel_rfl
      have h3 : (m13bOps[1]?).map (·.guard) = some none := by kernel_rfl
      rw [ho] at h1 h2 h3
      replace h1 := Option.some.inj h1
      replace h2 := Option.some.inj h2
      replace h3 := Option.some.inj h3
      simp only at h1 h2 h3
      rw [h1] at hK
      have l0 : L 0 = true := hdep 0 (by simp [m13bDep])
      refine ⟨fun _ => ?_, fun hw => by rw [wanted_none h3] at hw; cases hw⟩
      refine wp_nilG _ h2 _ (show Act.at b 107 = .pointer (some ⟨b1, o1, none⟩) from hc.v 0 l0 _ rfl) ?_
      rw [h1]
      exact hK _ _ (FlatC.step m13b_nd (m13b_ks ) rfl hc 1 (by decide) (Below.refl _ _) (fun u hu => by injection hu with hu; injection hu) (trivial))
    · have h1 : (m13bOps[2]?).map (·.dst) = some (some 109) := by kernel_rfl
      have h2 : (m13bOps[2]?).map (·.op) = some (Op.fieldAddr 37 (Operand.tmp 108) 1) := by kernel_rfl
      have h3 : (m13bOps[2]?).map (·.guard) = some none := by kernel_rfl
      rw [ho] at h1 h2 h3
      replace h1 := Option.some.inj h1
      replace h2 := Option.some.inj h2
      replace h3 := Option.some.inj h3
      simp only at h1 h2 h3
      rw [h1] at hK
      have l1 : L 1 = true := hdep 1 (by simp [m13bDep])
      refine ⟨fun _ => ?_, fun hw => by rw [wanted_none h3] at hw; cases hw⟩
      refine wp_fieldG _ _ _ h2 _ _ (show Act.at b 108 = .pointer (some ⟨b1, o1, none⟩) from hc.v 1 l1 _ rfl) (fieldS1 b1 o1 w) ?_
      rw [h1]
      exact hK _ _ (FlatC.step m13b_nd (m13b_ks ) rfl hc 2 (by decide) (Below.refl _ _) (fun u hu => by injection hu with hu; injection hu) (trivial))
    · have h1 : (m13bOps[3]?).map (·.dst) = some (some 110) := by kernel_rfl
      have h2 : (m13bOps[3]?).map (·.op) = some (Op.load 3 (Operand.tmp 109)) := by kernel_rfl
      have h3 : (m13bOps[3]?).map (·.guard) = some none := by kernel_rfl
      rw [ho] at h1 h2 h3
      replace h1 := Option.some.inj h1
      replace h2 := Option.some.inj h2
      replace h3 := Option.some.inj h3
      simp only at h1 h2 h3
      rw [h1] at hK
      have l2 : L 2 = true := hdep 2 (by simp [m13bDep])
      refine ⟨fun _ => ?_, fun hw => by rw [wanted_none h3] at hw; cases hw⟩
      refine wp_loadG _ _ h2 _ _ (show Act.at b 109 = .pointer (some ⟨b1, o1 + 1, none⟩) from hc.v 2 l2 _ rfl) (load_iT (HC w hbw).1) ?_
      rw [h1]
      exact hK _ _ (FlatC.step m13b_nd (m13b_ks ) rfl hc 3 (by decide) (Below.refl _ _) (fun u hu => by injection hu with hu; injection hu) (trivial))
    · have h1 : (m13bOps[4]?).map (·.dst) = some (some 111) := by kernel_rfl
      have h2 : (m13bOps[4]?).map (·.op) = some (Op.fieldAddr 24 (Operand.tmp 2) 1) := by kernel_rfl
      have h3 : (m13bOps[4]?).map (·.guard) = some none := by kernel_rfl
      rw [ho] at h1 h2 h3
      replace h1 := Option.some.inj h1
      replace h2 := Option.some.inj h2
      replace h3 := Option.some.inj h3
      simp only at h1 h2 h3
      rw [h1] at hK
      refine ⟨fun _ => ?_, fun hw => by rw [wanted_none h3] at hw; cases hw⟩
      refine wp_fieldG _ _ _ h2 _ _ ((hf 2 (by decide)).trans a2) (fieldP1 gp w) ?_
      rw [h1]
      exact hK _ _ (FlatC.step m13b_nd (m13b_ks ) rfl hc 4 (by decide) (Below.refl _ _) (fun u hu => by injection hu with hu; injection hu) (trivial))
    · have h1 : (m13bOps[5]?).map (·.dst) = some (some 112) := by kernel_rfl
      have h2 : (m13bOps[5]?).map (·.op) = some (Op.load 3 (Operand.tmp 111)) := by kernel_rfl
      have h3 : (m13bOps[5]?).map (·.guard) = some none := by kernel_rfl
      rw [ho] at h1 h2 h3
      replace h1 := Option.some.inj h1
      replace h2 := Option.some.inj h2
      replace h3 := Option.some.inj h3
      simp only at h1 h2 h3
      rw [h1] at hK
      have l4 : L 4 = true := hdep 4 (by simp [m13bDep])
      refine ⟨fun _ => ?_, fun hw => by rw [wanted_none h3] at hw; cases hw⟩
      refine wp_loadG _ _ h2 _ _ (show Act.at b 111 = .pointer (some ⟨gp, 1, none⟩) from hc.v 4 l4 _ rfl) (load_iT (HC w hbw).2.2) ?_
      rw [h1]
      exact hK _ _ (FlatC.step m13b_nd (m13b_ks ) rfl hc 5 (by decide) (Below.refl _ _) (fun u hu => by injection hu with hu; injection hu) (trivial))
    · have h1 : (m13bOps[6]?).map (·.dst) = some (some 113) := by kernel_rfl
      have h2 : (m13bOps[6]?).map (·.op) = some (Op.call { callee := Callee.value (Operand.func 33), args := #[Operand.tmp 110, Operand.tmp 112], argTypes := #[3, 3] }) := by kernel_rfl
      have h3 : (m13bOps[6]?).map (·.guard) = some none := by kernel_rfl
      rw [ho] at h1 h2 h3
      replace h1 := Option.some.inj h1
      replace h2 := Option.some.inj h2
      replace h3 := Option.some.inj h3
      simp only at h1 h2 h3
      rw [h1] at hK
      have l3 : L 3 = true := hdep 3 (by simp [m13bDep])
      have l5 : L 5 = true := hdep 5 (by simp [m13bDep])
      refine ⟨fun _ => ?_, fun hw => by rw [wanted_none h3] at hw; cases hw⟩
      refine wp_callG 33 _ _ h2 (enters_of Tryd.func33 (by kernel_rfl) rfl) #[.int .i64 xa, .int .i64 sl] (by simp [show b.eval (.tmp 110) = _ from (show Act.at b 110 = .int .i64 xa from hc.v 3 l3 _ rfl), show b.eval (.tmp 112) = _ from (show Act.at b 112 = .int .i64 sl from hc.v 5 l5 _ rfl)]) _ (HA1 w hbw) ?_
      rintro v w2 ⟨rfl, hb2⟩
      rw [h1]
      exact hK _ _ (FlatC.step m13b_nd (m13b_ks ) rfl hc 6 (by decide) (hb2) (fun u hu => by injection hu with hu; injection hu) (trivial))
    · have h1 : (m13bOps[7]?).map (·.dst) = some (some 114) := by kernel_rfl
      have h2 : (m13bOps[7]?).map (·.op) = some (Op.move (Operand.tmp 113)) := by kernel_rfl
      have h3 : (m13bOps[7]?).map (·.guard) = some none := by kernel_rfl
      rw [ho] at h1 h2 h3
      replace h1 := Option.some.inj h1
      replace h2 := Option.some.inj h2
      replace h3 := Option.some.inj h3
      simp only at h1 h2 h3
      rw [h1] at hK
      have l6 : L 6 = true := hdep 6 (by simp [m13bDep])
      refine ⟨fun _ => ?_, fun hw => by rw [wanted_none h3] at hw; cases hw⟩
      refine wp_moveG _ h2 _ (show Act.at b 113 = .bool true from hc.v 6 l6 _ rfl) ?_
      rw [h1]
      exact hK _ _ (FlatC.step m13b_nd (m13b_ks ) rfl hc 7 (by decide) (Below.refl _ _) (fun u hu => by injection hu with hu; injection hu) (trivial))
    · have h1 : (m13bOps[8]?).map (·.dst) = some (some 115) := by kernel_rfl
      have h2 : (m13bOps[8]?).map (·.op) = some (Op.move (Operand.tmp 1)) := by kernel_rfl
      have h3 : (m13bOps[8]?).map (·.guard) = some (some (7, true)) := by kernel_rfl
      rw [ho] at h1 h2 h3
      replace h1 := Option.some.inj h1
      replace h2 := Option.some.inj h2
      replace h3 := Option.some.inj h3
      simp only at h1 h2 h3
      rw [h1] at hK
      have l7 : L 7 = true := hdep 7 (by simp [m13bDep])
      have hw := wanted_of (ops := m13bOps) (b := b) h3 (d := 114) (by kernel_rfl) (show Act.at b 114 = .bool true from hc.v 7 l7 _ rfl)
      rw [hw]
      refine ⟨fun _ => ?_, fun hq => absurd hq (by decide)⟩
      refine wp_moveG _ h2 _ ((hf 1 (by decide)).trans a1) ?_
      rw [h1]
      exact hK _ _ (FlatC.step m13b_nd (m13b_ks ) rfl hc 8 (by decide) (Below.refl _ _) (fun u hu => by injection hu with hu; injection hu) (trivial))
    · have h1 : (m13bOps[9]?).map (·.dst) = some (some 116) := by kernel_rfl
      have h2 : (m13bOps[9]?).map (·.op) = some (Op.nilCheck (Operand.tmp 115)) := by kernel_rfl
      have h3 : (m13bOps[9]?).map (·.guard) = some (some (7, true)) := by kernel_rfl
      rw [ho] at h1 h2 h3
      replace h1 := Option.some.inj h1
      replace h2 := Option.some.inj h2
      replace h3 := Option.some.inj h3
      simp only at h1 h2 h3
      rw [h1] at hK
      have l7 : L 7 = true := hdep 7 (by simp [m13bDep])
      have l8 : L 8 = true := hdep 8 (by simp [m13bDep])
      have hw := wanted_of (ops := m13bOps) (b := b) h3 (d := 114) (by kernel_rfl) (show Act.at b 114 = .bool true from hc.v 7 l7 _ rfl)
      rw [hw]
      refine ⟨fun _ => ?_, fun hq => absurd hq (by decide)⟩
      refine wp_nilG _ h2 _ (show Act.at b 115 = .pointer (some ⟨b1, o1, none⟩) from hc.v 8 l8 _ rfl) ?_
      rw [h1]
      exact hK _ _ (FlatC.step m13b_nd (m13b_ks ) rfl hc 9 (by decide) (Below.refl _ _) (fun u hu => by injection hu with hu; injection hu) (trivial))
    · have h1 : (m13bOps[10]?).map (·.dst) = some (some 117) := by kernel_rfl
      have h2 : (m13bOps[10]?).map (·.op) = some (Op.fieldAddr 37 (Operand.tmp 116) 2) := by kernel_rfl
      have h3 : (m13bOps[10]?).map (·.guard) = some (some (7, true)) := by kernel_rfl
      rw [ho] at h1 h2 h3
      replace h1 := Option.some.inj h1
      replace h2 := Option.some.inj h2
      replace h3 := Option.some.inj h3
      simp only at h1 h2 h3
      rw [h1] at hK
      have l7 : L 7 = true := hdep 7 (by simp [m13bDep])
      have l9 : L 9 = true := hdep 9 (by simp [m13bDep])
      have hw := wanted_of (ops := m13bOps) (b := b) h3 (d := 114) (by kernel_rfl) (show Act.at b 114 = .bool true from hc.v 7 l7 _ rfl)
      rw [hw]
      refine ⟨fun _ => ?_, fun hq => absurd hq (by decide)⟩
      refine wp_fieldG _ _ _ h2 _ _ (show Act.at b 116 = .pointer (some ⟨b1, o1, none⟩) from hc.v 9 l9 _ rfl) (fieldS2 b1 o1 w) ?_
      rw [h1]
      exact hK _ _ (FlatC.step m13b_nd (m13b_ks ) rfl hc 10 (by decide) (Below.refl _ _) (fun u hu => by injection hu with hu; injection hu) (trivial))
    · have h1 : (m13bOps[11]?).map (·.dst) = some (some 118) := by kernel_rfl
      have h2 : (m13bOps[11]?).map (·.op) = some (Op.load 3 (Operand.tmp 117)) := by kernel_rfl
      have h3 : (m13bOps[11]?).map (·.guard) = some (some (7, true)) := by kernel_rfl
      rw [ho] at h1 h2 h3
      replace h1 := Option.some.inj h1
      replace h2 := Option.some.inj h2
      replace h3 := Option.some.inj h3
      simp only at h1 h2 h3
      rw [h1] at hK
      have l7 : L 7 = true := hdep 7 (by simp [m13bDep])
      have l10 : L 10 = true := hdep 10 (by simp [m13bDep])
      have hw := wanted_of (ops := m13bOps) (b := b) h3 (d := 114) (by kernel_rfl) (show Act.at b 114 = .bool true from hc.v 7 l7 _ rfl)
      rw [hw]
      refine ⟨fun _ => ?_, fun hq => absurd hq (by decide)⟩
      refine wp_loadG _ _ h2 _ _ (show Act.at b 117 = .pointer (some ⟨b1, o1 + 2, none⟩) from hc.v 10 l10 _ rfl) (load_iT (HC w hbw).2.1) ?_
      rw [h1]
      exact hK _ _ (FlatC.step m13b_nd (m13b_ks ) rfl hc 11 (by decide) (Below.refl _ _) (fun u hu => by injection hu with hu; injection hu) (trivial))
    · have h1 : (m13bOps[12]?).map (·.dst) = some (some 119) := by kernel_rfl
      have h2 : (m13bOps[12]?).map (·.op) = some (Op.binOp BinOp.eql 3 (Operand.tmp 118) (Operand.const (Value.int IntKind.i64 (-1))) 3) := by kernel_rfl
      have h3 : (m13bOps[12]?).map (·.guard) = some (some (7, true)) := by kernel_rfl
      rw [ho] at h1 h2 h3
      replace h1 := Option.some.inj h1
      replace h2 := Option.some.inj h2
      replace h3 := Option.some.inj h3
      simp only at h1 h2 h3
      rw [h1] at hK
      have l7 : L 7 = true := hdep 7 (by simp [m13bDep])
      have l11 : L 11 = true := hdep 11 (by simp [m13bDep])
      have hw := wanted_of (ops := m13bOps) (b := b) h3 (d := 114) (by kernel_rfl) (show Act.at b 114 = .bool true from hc.v 7 l7 _ rfl)
      rw [hw]
      refine ⟨fun _ => ?_, fun hq => absurd hq (by decide)⟩
      refine wp_binG _ _ _ _ _ h2 _ _ (.bool true) (show Act.at b 118 = .int .i64 xb from hc.v 11 l11 _ rfl) rfl (by kernel_rfl) (HE1 _) ?_
      rw [h1]
      exact hK _ _ (FlatC.step m13b_nd (m13b_ks ) rfl hc 12 (by decide) (Below.refl _ _) (fun u hu => by injection hu with hu; injection hu) (trivial))
    · have h1 : (m13bOps[13]?).map (·.dst) = some (some 120) := by kernel_rfl
      have h2 : (m13bOps[13]?).map (·.op) = some (Op.move (Operand.tmp 119)) := by kernel_rfl
      have h3 : (m13bOps[13]?).map (·.guard) = some (some (7, true)) := by kernel_rfl
      rw [ho] at h1 h2 h3
      replace h1 := Option.some.inj h1
      replace h2 := Option.some.inj h2
      replace h3 := Option.some.inj h3
      simp only at h1 h2 h3
      rw [h1] at hK
      have l7 : L 7 = true := hdep 7 (by simp [m13bDep])
      have l12 : L 12 = true := hdep 12 (by simp [m13bDep])
      have hw := wanted_of (ops := m13bOps) (b := b) h3 (d := 114) (by kernel_rfl) (show Act.at b 114 = .bool true from hc.v 7 l7 _ rfl)
      rw [hw]
      refine ⟨fun _ => ?_, fun hq => absurd hq (by decide)⟩
      refine wp_moveG _ h2 _ (show Act.at b 119 = .bool true from hc.v 12 l12 _ rfl) ?_
      rw [h1]
      exact hK _ _ (FlatC.step m13b_nd (m13b_ks ) rfl hc 13 (by decide) (Below.refl _ _) (fun u hu => by injection hu with hu; injection hu) (trivial))
    · have h1 : (m13bOps[14]?).map (·.dst) = some (some 121) := by kernel_rfl
      have h2 : (m13bOps[14]?).map (·.op) = some (Op.load 24 (Operand.tmp 2)) := by kernel_rfl
      have h3 : (m13bOps[14]?).map (·.guard) = some (some (13, false)) := by kernel_rfl
      rw [ho] at h1 h2 h3
      replace h1 := Option.some.inj h1
      replace h2 := Option.some.inj h2
      replace h3 := Option.some.inj h3
      simp only at h1 h2 h3
      rw [h1] at hK
      have l13 : L 13 = true := hdep 13 (by simp [m13bDep])
      have hw := wanted_of (ops := m13bOps) (b := b) h3 (d := 120) (by kernel_rfl) (show Act.at b 120 = .bool true from hc.v 13 l13 _ rfl)
      rw [hw]
      refine ⟨fun hq => absurd hq (by decide), fun _ => ?_⟩
      rw [h1]
      exact hK _ _ (FlatC.step m13b_nd (m13b_ks ) rfl hc 14 (by decide) (Below.refl _ _) (fun u hu => by injection hu with hu; injection hu) trivial)
    · have h1 : (m13bOps[15]?).map (·.dst) = some (some 122) := by kernel_rfl
      have h2 : (m13bOps[15]?).map (·.op) = some (Op.move (Operand.tmp 1)) := by kernel_rfl
      have h3 : (m13bOps[15]?).map (·.guard) = some (some (13, false)) := by kernel_rfl
      rw [ho] at h1 h2 h3
      replace h1 := Option.some.inj h1
      replace h2 := Option.some.inj h2
      replace h3 := Option.some.inj h3
      simp only at h1 h2 h3
      rw [h1] at hK
      have l13 : L 13 = true := hdep 13 (by simp [m13bDep])
      have hw := wanted_of (ops := m13bOps) (b := b) h3 (d := 120) (by kernel_rfl) (show Act.at b 120 = .bool true from hc.v 13 l13 _ rfl)
      rw [hw]
      refine ⟨fun hq => absurd hq (by decide), fun _ => ?_⟩
      rw [h1]
      exact hK _ _ (FlatC.step m13b_nd (m13b_ks ) rfl hc 15 (by decide) (Below.refl _ _) (fun u hu => by injection hu with hu; injection hu) trivial)
    · have h1 : (m13bOps[16]?).map (·.dst) = some (some 123) := by kernel_rfl
      have h2 : (m13bOps[16]?).map (·.op) = some (Op.nilCheck (Operand.tmp 122)) := by kernel_rfl
      have h3 : (m13bOps[16]?).map (·.guard) = some (some (13, false)) := by kernel_rfl
      rw [ho] at h1 h2 h3
      replace h1 := Option.some.inj h1
      replace h2 := Option.some.inj h2
      replace h3 := Option.some.inj h3
      simp only at h1 h2 h3
      rw [h1] at hK
      have l13 : L 13 = true := hdep 13 (by simp [m13bDep])
      have hw := wanted_of (ops := m13bOps) (b := b) h3 (d := 120) (by kernel_rfl) (show Act.at b 120 = .bool true from hc.v 13 l13 _ rfl)
      rw [hw]
      refine ⟨fun hq => absurd hq (by decide), fun _ => ?_⟩
      rw [h1]
      exact hK _ _ (FlatC.step m13b_nd (m13b_ks ) rfl hc 16 (by decide) (Below.refl _ _) (fun u hu => by injection hu with hu; injection hu) trivial)
    · have h1 : (m13bOps[17]?).map (·.dst) = some (some 124) := by kernel_rfl
      have h2 : (m13bOps[17]?).map (·.op) = some (Op.fieldAddr 37 (Operand.tmp 123) 2) := by kernel_rfl
      have h3 : (m13bOps[17]?).map (·.guard) = some (some (13, false)) := by kernel_rfl
      rw [ho] at h1 h2 h3
      replace h1 := Option.some.inj h1
      replace h2 := Option.some.inj h2
      replace h3 := Option.some.inj h3
      simp only at h1 h2 h3
      rw [h1] at hK
      have l13 : L 13 = true := hdep 13 (by simp [m13bDep])
      have hw := wanted_of (ops := m13bOps) (b := b) h3 (d := 120) (by kernel_rfl) (show Act.at b 120 = .bool true from hc.v 13 l13 _ rfl)
      rw [hw]
      refine ⟨fun hq => absurd hq (by decide), fun _ => ?_⟩
      rw [h1]
      exact hK _ _ (FlatC.step m13b_nd (m13b_ks ) rfl hc 17 (by decide) (Below.refl _ _) (fun u hu => by injection hu with hu; injection hu) trivial)
    · have h1 : (m13bOps[18]?).map (·.dst) = some (some 125) := by kernel_rfl
      have h2 : (m13bOps[18]?).map (·.op) = some (Op.load 3 (Operand.tmp 124)) := by kernel_rfl
      have h3 : (m13bOps[18]?).map (·.guard) = some (some (13, false)) := by kernel_rfl
      rw [ho] at h1 h2 h3
      replace h1 := Option.some.inj h1
      replace h2 := Option.some.inj h2
      replace h3 := Option.some.inj h3
      simp only at h1 h2 h3
      rw [h1] at hK
      have l13 : L 13 = true := hdep 13 (by simp [m13bDep])
      have hw := wanted_of (ops := m13bOps) (b := b) h3 (d := 120) (by kernel_rfl) (show Act.at b 120 = .bool true from hc.v 13 l13 _ rfl)
      rw [hw]
      refine ⟨fun hq => absurd hq (by decide), fun _ => ?_⟩
      rw [h1]
      exact hK _ _ (FlatC.step m13b_nd (m13b_ks ) rfl hc 18 (by decide) (Below.refl _ _) (fun u hu => by injection hu with hu; injection hu) trivial)
    · have h1 : (m13bOps[19]?).map (·.dst) = some (some 126) := by kernel_rfl
      have h2 : (m13bOps[19]?).map (·.op) = some (Op.call { callee := Callee.value (Operand.func 32), args := #[Operand.tmp 121, Operand.tmp 125], argTypes := #[24, 3] }) := by kernel_rfl
      have h3 : (m13bOps[19]?).map (·.guard) = some (some (13, false)) := by kernel_rfl
      rw [ho] at h1 h2 h3
      replace h1 := Option.some.inj h1
      replace h2 := Option.some.inj h2
      replace h3 := Option.some.inj h3
      simp only at h1 h2 h3
      rw [h1] at hK
      have l13 : L 13 = true := hdep 13 (by simp [m13bDep])
      have hw := wanted_of (ops := m13bOps) (b := b) h3 (d := 120) (by kernel_rfl) (show Act.at b 120 = .bool true from hc.v 13 l13 _ rfl)
      rw [hw]
      refine ⟨fun hq => absurd hq (by decide), fun _ => ?_⟩
      rw [h1]
      exact hK _ _ (FlatC.step m13b_nd (m13b_ks ) rfl hc 19 (by decide) (Below.refl _ _) (fun u hu => by injection hu with hu; injection hu) trivial)
    · have h1 : (m13bOps[20]?).map (·.dst) = some (some 127) := by kernel_rfl
      have h2 : (m13bOps[20]?).map (·.op) = some (Op.pick (Operand.tmp 120) (Operand.const (Value.bool true)) (Operand.tmp 126)) := by kernel_rfl
      have h3 : (m13bOps[20]?).map (·.guard) = some (some (7, true)) := by kernel_rfl
      rw [ho] at h1 h2 h3
      replace h1 := Option.some.inj h1
      replace h2 := Option.some.inj h2
      replace h3 := Option.some.inj h3
      simp only at h1 h2 h3
      rw [h1] at hK
      have l7 : L 7 = true := hdep 7 (by simp [m13bDep])
      have l13 : L 13 = true := hdep 13 (by simp [m13bDep])
      have hw := wanted_of (ops := m13bOps) (b := b) h3 (d := 114) (by kernel_rfl) (show Act.at b 114 = .bool true from hc.v 7 l7 _ rfl)
      rw [hw]
      refine ⟨fun _ => ?_, fun hq => absurd hq (by decide)⟩
      refine wp_pickG _ _ _ h2 true (show Act.at b 120 = .bool true from hc.v 13 l13 _ rfl) _ (if_pos rfl |>.trans rfl) ?_
      rw [h1]
      exact hK _ _ (FlatC.step m13b_nd (m13b_ks ) rfl hc 20 (by decide) (Below.refl _ _) (fun u hu => by injection hu with hu; injection hu) (trivial))
    · have h1 : (m13bOps[21]?).map (·.dst) = some (some 128) := by kernel_rfl
      have h2 : (m13bOps[21]?).map (·.op) = some (Op.pick (Operand.tmp 114) (Operand.tmp 127) (Operand.const (Value.bool false))) := by kernel_rfl
      have h3 : (m13bOps[21]?).map (·.guard) = some none := by kernel_rfl
      rw [ho] at h1 h2 h3
      replace h1 := Option.some.inj h1
      replace h2 := Option.some.inj h2
      replace h3 := Option.some.inj h3
      simp only at h1 h2 h3
      rw [h1] at hK
      have l7 : L 7 = true := hdep 7 (by simp [m13bDep])
      have l20 : L 20 = true := hdep 20 (by simp [m13bDep])
      refine ⟨fun _ => ?_, fun hw => by rw [wanted_none h3] at hw; cases hw⟩
      refine wp_pickG _ _ _ h2 true (show Act.at b 114 = .bool true from hc.v 7 l7 _ rfl) _ (if_pos rfl |>.trans (show Act.at b 127 = .bool true from hc.v 20 l20 _ rfl)) ?_
      rw [h1]
      exact hK _ _ (FlatC.step m13b_nd (m13b_ks ) rfl hc 21 (by decide) (Below.refl _ _) (fun u hu => by injection hu with hu; injection hu) (trivial))
    · have h1 : (m13bOps[22]?).map (·.dst) = some (some 129) := by kernel_rfl
      have h2 : (m13bOps[22]?).map (·.op) = some (Op.move (Operand.tmp 128)) := by kernel_rfl
      have h3 : (m13bOps[22]?).map (·.guard) = some none := by kernel_rfl
      rw [ho] at h1 h2 h3
      replace h1 := Option.some.inj h1
      replace h2 := Option.some.inj h2
      replace h3 := Option.some.inj h3
      simp only at h1 h2 h3
      rw [h1] at hK
      have l21 : L 21 = true := hdep 21 (by simp [m13bDep])
      refine ⟨fun _ => ?_, fun hw => by rw [wanted_none h3] at hw; cases hw⟩
      refine wp_moveG _ h2 _ (show Act.at b 128 = .bool true from hc.v 21 l21 _ rfl) ?_
      rw [h1]
      exact hK _ _ (FlatC.step m13b_nd (m13b_ks ) rfl hc 22 (by decide) (Below.refl _ _) (fun u hu => by injection hu with hu; injection hu) (trivial))
    · have h1 : (m13bOps[23]?).map (·.dst) = some (some 130) := by kernel_rfl
      have h2 : (m13bOps[23]?).map (·.op) = some (Op.load 24 (Operand.tmp 2)) := by kernel_rfl
      have h3 : (m13bOps[23]?).map (·.guard) = some (some (22, true)) := by kernel_rfl
      rw [ho] at h1 h2 h3
      replace h1 := Option.some.inj h1
      replace h2 := Option.some.inj h2
      replace h3 := Option.some.inj h3
      simp only at h1 h2 h3
      rw [h1] at hK
      have l22 : L 22 = true := hdep 22 (by simp [m13bDep])
      have hw := wanted_of (ops := m13bOps) (b := b) h3 (d := 129) (by kernel_rfl) (show Act.at b 129 = .bool true from hc.v 22 l22 _ rfl)
      rw [hw]
      refine ⟨fun _ => ?_, fun hq => absurd hq (by decide)⟩
      refine wp_load_row 24 (.tmp 2) h2 gp ((hf 2 (by decide)).trans a2) 24 #[.slice A n c, .int .i64 sl, .int .i64 su, .int .i64 au] (0, 0) _ ((hbw.block gp hKp.lt).trans hKp) Tryd.underlying24 rfl (by kernel_rfl) ?_
      rw [h1]
      exact hK _ _ (FlatC.step m13b_nd (m13b_ks ) rfl hc 23 (by decide) (Below.refl _ _) (fun u hu => by injection hu with hu; injection hu) (trivial))
    · have h1 : (m13bOps[24]?).map (·.dst) = some (some 131) := by kernel_rfl
      have h2 : (m13bOps[24]?).map (·.op) = some (Op.move (Operand.tmp 1)) := by kernel_rfl
      have h3 : (m13bOps[24]?).map (·.guard) = some (some (22, true)) := by kernel_rfl
      rw [ho] at h1 h2 h3
      replace h1 := Option.some.inj h1
      replace h2 := Option.some.inj h2
      replace h3 := Option.some.inj h3
      simp only at h1 h2 h3
      rw [h1] at hK
      have l22 : L 22 = true := hdep 22 (by simp [m13bDep])
      have hw := wanted_of (ops := m13bOps) (b := b) h3 (d := 129) (by kernel_rfl) (show Act.at b 129 = .bool true from hc.v 22 l22 _ rfl)
      rw [hw]
      refine ⟨fun _ => ?_, fun hq => absurd hq (by decide)⟩
      refine wp_moveG _ h2 _ ((hf 1 (by decide)).trans a1) ?_
      rw [h1]
      exact hK _ _ (FlatC.step m13b_nd (m13b_ks ) rfl hc 24 (by decide) (Below.refl _ _) (fun u hu => by injection hu with hu; injection hu) (trivial))
    · have h1 : (m13bOps[25]?).map (·.dst) = some (some 132) := by kernel_rfl
      have h2 : (m13bOps[25]?).map (·.op) = some (Op.call { callee := Callee.value (Operand.func 37), args := #[Operand.tmp 130, Operand.tmp 131], argTypes := #[24, 57] }) := by kernel_rfl
      have h3 : (m13bOps[25]?).map (·.guard) = some (some (22, true)) := by kernel_rfl
      rw [ho] at h1 h2 h3
      replace h1 := Option.some.inj h1
      replace h2 := Option.some.inj h2
      replace h3 := Option.some.inj h3
      simp only at h1 h2 h3
      rw [h1] at hK
      have l22 : L 22 = true := hdep 22 (by simp [m13bDep])
      have l23 : L 23 = true := hdep 23 (by simp [m13bDep])
      have l24 : L 24 = true := hdep 24 (by simp [m13bDep])
      have hw := wanted_of (ops := m13bOps) (b := b) h3 (d := 129) (by kernel_rfl) (show Act.at b 129 = .bool true from hc.v 22 l22 _ rfl)
      rw [hw]
      refine ⟨fun _ => ?_, fun hq => absurd hq (by decide)⟩
      refine wp_callG 37 _ _ h2 (enters_of Tryd.func37 (by kernel_rfl) rfl) #[.agg #[.slice A n c, .int .i64 sl, .int .i64 su, .int .i64 au], .pointer (some ⟨b1, o1, none⟩)] (by simp [show b.eval (.tmp 130) = _ from (show Act.at b 130 = .agg #[.slice A n c, .int .i64 sl, .int .i64 su, .int .i64 au] from hc.v 23 l23 _ rfl), show b.eval (.tmp 131) = _ from (show Act.at b 131 = .pointer (some ⟨b1, o1, none⟩) from hc.v 24 l24 _ rfl)]) _ (HA3 w hbw) ?_
      rintro v w2 ⟨rfl, hb2⟩
      rw [h1]
      exact hK _ _ (FlatC.step m13b_nd (m13b_ks ) rfl hc 25 (by decide) (hb2) (fun u hu => by injection hu with hu; injection hu) (trivial))
    · have h1 : (m13bOps[26]?).map (·.dst) = some (some 133) := by kernel_rfl
      have h2 : (m13bOps[26]?).map (·.op) = some (Op.pick (Operand.tmp 129) (Operand.tmp 132) (Operand.const (Value.bool false))) := by kernel_rfl
      have h3 : (m13bOps[26]?).map (·.guard) = some none := by kernel_rfl
      rw [ho] at h1 h2 h3
      replace h1 := Option.some.inj h1
      replace h2 := Option.some.inj h2
      replace h3 := Option.some.inj h3
      simp only at h1 h2 h3
      rw [h1] at hK
      have l22 : L 22 = true := hdep 22 (by simp [m13bDep])
      have l25 : L 25 = true := hdep 25 (by simp [m13bDep])
      refine ⟨fun _ => ?_, fun hw => by rw [wanted_none h3] at hw; cases hw⟩
      refine wp_pickG _ _ _ h2 true (show Act.at b 129 = .bool true from hc.v 22 l22 _ rfl) _ (if_pos rfl |>.trans (show Act.at b 132 = .bool true from hc.v 25 l25 _ rfl)) ?_
      rw [h1]
      exact hK _ _ (FlatC.step m13b_nd (m13b_ks ) rfl hc 26 (by decide) (Below.refl _ _) (fun u hu => by injection hu with hu; injection hu) (trivial))
    · have h1 : (m13bOps[27]?).map (·.dst) = some (some 4) := by kernel_rfl
      have h2 : (m13bOps[27]?).map (·.op) = some (Op.assign (Operand.tmp 133)) := by kernel_rfl
      have h3 : (m13bOps[27]?).map (·.guard) = some none := by kernel_rfl
      rw [ho] at h1 h2 h3
      replace h1 := Option.some.inj h1
      replace h2 := Option.some.inj h2
      replace h3 := Option.some.inj h3
      simp only at h1 h2 h3
      rw [h1] at hK
      have l26 : L 26 = true := hdep 26 (by simp [m13bDep])
      refine ⟨fun _ => ?_, fun hw => by rw [wanted_none h3] at hw; cases hw⟩
      refine wp_assignG _ h2 _ (show Act.at b 133 = .bool true from hc.v 26 l26 _ rfl) ?_
      rw [h1]
      exact hK _ _ (FlatC.step m13b_nd (m13b_ks ) rfl hc 27 (by decide) (Below.refl _ _) (fun u hu => by injection hu with hu; injection hu) (trivial))
  · rintro L b w hL hd hs hf hc
    have hsz2 : m13bOps.size = 28 := rfl
    rw [hsz2] at hL
    have e := act_eq (a := A0) (b := b) (m13bUs (Act.at b)) hd hs hf (by
      intro p hp
      simp only [m13bUs, List.mem_cons, List.not_mem_nil, or_false] at hp
      rcases hp with rfl | rfl | rfl | rfl | rfl | rfl | rfl | rfl | rfl | rfl | rfl | rfl | rfl | rfl | rfl | rfl | rfl | rfl | rfl | rfl | rfl | rfl | rfl | rfl | rfl | rfl | rfl | rfl <;> rfl) (by rw [show (m13bUs (Act.at b)).map (·.1) = [107, 108, 109, 110, 111, 112, 113, 114, 115, 116, 117, 118, 119, 120, 121, 122, 123, 124, 125, 126, 127, 128, 129, 130, 131, 132, 133, 4] from rfl]; decide)
    rw [e]
    exact hk (Act.at b) w (hc.v 27 (hL 27 (by omega)) _ rfl) ⟨hc.bel.os, hc.bel.tape, hc.bel.output, hc.bel.size, hc.bel.block⟩
def m13cOps : Array Oper := #[{ dst := some 107, op := Op.move (Operand.tmp 1), type := 57, pos := "check.go:51", after := #[], guard := none }, { dst := some 108, op := Op.nilCheck (Operand.tmp 107), type := 0, pos := "check.go:51", after := #[{ on := 0, ground := Ground.data }], guard := none }, { dst := some 109, op := Op.fieldAddr 37 (Operand.tmp 108) 1, type := 0, pos := "check.go:51", after := #[{ on := 1, ground := Ground.data }], guard := none }, { dst := some 110, op := Op.load 3 (Operand.tmp 109), type := 3, pos := "check.go:51", after := #[{ on := 2, ground := Ground.data }], guard := none }, { dst := some 111, op := Op.fieldAddr 24 (Operand.tmp 2) 1, type := 0, pos := "check.go:51", after := #[], guard := none }, { dst := some 112, op := Op.load 3 (Operand.tmp 111), type := 3, pos := "check.go:51", after := #[{ on := 4, ground := Ground.data }], guard := none }, { dst := some 113, op := Op.call { callee := Callee.value (Operand.func 33), args := #[Operand.tmp 110, Operand.tmp 112], argTypes := #[3, 3] }, type := 4, pos := "check.go:51", after := #[{ on := 3, ground := Ground.data }, { on := 5, ground := Ground.data }], guard := none }, { dst := some 114, op := Op.move (Operand.tmp 113), type := 4, pos := "check.go:51", after := #[{ on := 6, ground := Ground.data }, { on := 6, ground := Ground.chain }], guard := none }, { dst := some 115, op := Op.move (Operand.tmp 1), type := 57, pos := "check.go:51", after := #[{ on := 7, ground := Ground.guard }], guard := some (7, true) }, { dst := some 116, op := Op.nilCheck (Operand.tmp 115), type := 0, pos := "check.go:51", after := #[{ on := 8, ground := Ground.data }, { on := 7, ground := Ground.guard }], guard := some (7, true) }, { dst := some 117, op := Op.fieldAddr 37 (Operand.tmp 116) 2, type := 0, pos := "check.go:51", after := #[{ on := 9, ground := Ground.data }, { on := 7, ground := Ground.guard }], guard := some (7, true) }, { dst := some 118, op := Op.load 3 (Operand.tmp 117), type := 3, pos := "check.go:51", after := #[{ on := 10, ground := Ground.data }, { on := 7, ground := Ground.guard }], guard := some (7, true) }, { dst := some 119, op := Op.binOp BinOp.eql 3 (Operand.tmp 118) (Operand.const (Value.int IntKind.i64 (-1))) 3, type := 4, pos := "check.go:51", after := #[{ on := 11, ground := Ground.data }, { on := 7, ground := Ground.guard }], guard := some (7, true) }, { dst := some 120, op := Op.move (Operand.tmp 119), type := 4, pos := "check.go:51", after := #[{ on := 12, ground := Ground.data }, { on := 7, ground := Ground.chain }, { on := 7, ground := Ground.guard }], guard := some (7, true) }, { dst := some 121, op := Op.load 24 (Operand.tmp 2), type := 24, pos := "check.go:51", after := #[{ on := 13, ground := Ground.guard }], guard := some (13, false) }, { dst := some 122, op := Op.move (Operand.tmp 1), type := 57, pos := "check.go:51", after := #[{ on := 13, ground := Ground.guard }], guard := some (13, false) }, { dst := some 123, op := Op.nilCheck (Operand.tmp 122), type := 0, pos := "check.go:51", after := #[{ on := 15, ground := Ground.data }, { on := 13, ground := Ground.guard }], guard := some (13, false) }, { dst := some 124, op := Op.fieldAddr 37 (Operand.tmp 123) 2, type := 0, pos := "check.go:51", after := #[{ on := 16, ground := Ground.data }, { on := 13, ground := Ground.guard }], guard := some (13, false) }, { dst := some 125, op := Op.load 3 (Operand.tmp 124), type := 3, pos := "check.go:51", after := #[{ on := 17, ground := Ground.data }, { on := 13, ground := Ground.guard }], guard := some (13, false) }, { dst := some 126, op := Op.call { callee := Callee.value (Operand.func 32), args := #[Operand.tmp 121, Operand.tmp 125], argTypes := #[24, 3] }, type := 4, pos := "check.go:51", after := #[{ on := 14, ground := Ground.data }, { on := 18, ground := Ground.data }, { on := 13, ground := Ground.chain }, { on := 13, ground := Ground.guard }], guard := some (13, false) }, { dst := some 127, op := Op.pick (Operand.tmp 120) (Operand.const (Value.bool true)) (Operand.tmp 126), type := 4, pos := "check.go:51", after := #[{ on := 13, ground := Ground.data }, { on := 19, ground := Ground.data }, { on := 7, ground := Ground.guard }], guard := some (7, true) }, { dst := some 128, op := Op.pick (Operand.tmp 114) (Operand.tmp 127) (Operand.const (Value.bool false)), type := 4, pos := "check.go:51", after := #[{ on := 7, ground := Ground.data }, { on := 20, ground := Ground.data }], guard := none }, { dst := some 129, op := Op.move (Operand.tmp 128), type := 4, pos := "check.go:51", after := #[{ on := 21, ground := Ground.data }, { on := 19, ground := Ground.chain }], guard := none }, { dst := some 130, op := Op.load 24 (Operand.tmp 2), type := 24, pos := "check.go:51", after := #[{ on := 22, ground := Ground.guard }], guard := some (22, true) }, { dst := some 131, op := Op.move (Operand.tmp 1), type := 57, pos := "check.go:51", after := #[{ on := 22, ground := Ground.guard }], guard := some (22, true) }, { dst := some 132, op := Op.call { callee := Callee.value (Operand.func 37), args := #[Operand.tmp 130, Operand.tmp 131], argTypes := #[24, 57] }, type := 4, pos := "check.go:51", after := #[{ on := 23, ground := Ground.data }, { on := 24, ground := Ground.data }, { on := 22, ground := Ground.chain }, { on := 22, ground := Ground.guard }], guard := some (22, true) }, { dst := some 133, op := Op.pick (Operand.tmp 129) (Operand.tmp 132) (Operand.const (Value.bool false)), type := 4, pos := "check.go:51", after := #[{ on := 22, ground := Ground.data }, { on := 25, ground := Ground.data }], guard := none }, { dst := some 4, op := Op.assign (Operand.tmp 133), type := 4, pos := "check.go:51", after := #[{ on := 26, ground := Ground.data }, { on := 25, ground := Ground.chain }, { on := 0, ground := Ground.phase }, { on := 1, ground := Ground.phase }, { on := 2, ground := Ground.phase }, { on := 3, ground := Ground.phase }, { on := 4, ground := Ground.phase }, { on := 5, ground := Ground.phase }, { on := 6, ground := Ground.phase }, { on := 7, ground := Ground.phase }, { on := 8, ground := Ground.phase }, { on := 9, ground := Ground.phase }, { on := 10, ground := Ground.phase }, { on := 11, ground := Ground.phase }, { on := 12, ground := Ground.phase }, { on := 13, ground := Ground.phase }, { on := 14, ground := Ground.phase }, { on := 15, ground := Ground.phase }, { on := 16, ground := Ground.phase }, { on := 17, ground := Ground.phase }, { on := 18, ground := Ground.phase }, { on := 19, ground := Ground.phase }, { on := 20, ground := Ground.phase }, { on := 21, ground := Ground.phase }, { on := 22, ground := Ground.phase }, { on := 23, ground := Ground.phase }, { on := 24, ground := Ground.phase }, { on := 25, ground := Ground.phase }, { on := 26, ground := Ground.phase }], guard := none }]
def m13cDep : Nat → List Nat := fun i => match i with | 1 => [0] | 2 => [1] | 3 => [2] | 5 => [4] | 6 => [3, 5] | 7 => [6] | 8 => [7] | 9 => [7, 8] | 10 => [7, 9] | 11 => [7, 10] | 12 => [7, 11] | 13 => [7, 12] | 14 => [13] | 15 => [13] | 16 => [13] | 17 => [13] | 18 => [13] | 19 => [13] | 20 => [7, 13] | 21 => [7, 20] | 22 => [21] | 23 => [22] | 24 => [22] | 25 => [22, 23, 24] | 26 => [22, 25] | 27 => [26] | _ => []
def m13cSl : List Nat := [107, 108, 109, 110, 111, 112, 113, 114, 115, 116, 117, 118, 119, 120, 121, 122, 123, 124, 125, 126, 127, 128, 129, 130, 131, 132, 133, 4]
def m13cVs (gp : Nat) (b1 : Nat) (o1 : Nat) (A : Option Addr) (n : Nat) (c : Nat) (sl : Int) (su : Int) (au : Int) (xa : Int) (xb : Int) : List (Option Value) := [some (.pointer (some ⟨b1, o1, none⟩)), some (.pointer (some ⟨b1, o1, none⟩)), some (.pointer (some ⟨b1, o1 + 1, none⟩)), some (.int .i64 xa), some (.pointer (some ⟨gp, 1, none⟩)), some (.int .i64 sl), some (.bool true), some (.bool true), some (.pointer (some ⟨b1, o1, none⟩)), some (.pointer (some ⟨b1, o1, none⟩)), some (.pointer (some ⟨b1, o1 + 2, none⟩)), some (.int .i64 xb), some (.bool true), some (.bool true), some (undef), some (undef), some (undef), some (undef), some (undef), some (undef), some (.bool true), some (.bool true), some (.bool true), some (.agg #[.slice A n c, .int .i64 sl, .int .i64 su, .int .i64 au]), some (.pointer (some ⟨b1, o1, none⟩)), some (.bool false), some (.bool false), some (.bool false)]
def m13cSp  (i : Nat) : Value → World → Prop := match i with  | _ => fun _ _ => True
theorem m13c_ks   : ∀ i v w w', m13cSp  i v w → Below w.heap.size w w' → m13cSp  i v w' := by
  intro i v w w' h hb
  unfold m13cSp at h ⊢
  split <;> first | trivial
theorem m13c_nd : m13cSl.Nodup := by decide
def m13cUs (f : Nat → Value) : List (Nat × Value) := [(107, f 107), (108, f 108), (109, f 109), (110, f 110), (111, f 111), (112, f 112), (113, f 113), (114, f 114), (115, f 115), (116, f 116), (117, f 117), (118, f 118), (119, f 119), (120, f 120), (121, f 121), (122, f 122), (123, f 123), (124, f 124), (125, f 125), (126, f 126), (127, f 127), (128, f 128), (129, f 129), (130, f 130), (131, f 131), (132, f 132), (133, f 133), (4, f 4)]
set_option maxRecDepth 20000 in
set_option maxHeartbeats 4000000 in
theorem m13c_reg {gp : Nat} {b1 : Nat} {o1 : Nat} {A : Option Addr} {n : Nat} {c : Nat} {sl : Int} {su : Int} {au : Int} {xa : Int} {xb : Int}  {W : World} {A0 : Act} {Q : Exit → Act → World → Prop} {id : Nat} (a1 : Act.at A0 1 = .pointer (some ⟨b1, o1, none⟩)) (a2 : Act.at A0 2 = .pointer (some ⟨gp, 0, none⟩)) (hsz : 143 ≤ A0.tmps.size)  (hKp : Blk W gp 24 [.slice A n c, .int .i64 sl, .int .i64 su, .int .i64 au])
    (HC : ∀ w, Below W.heap.size W w → w.cell? ⟨b1, o1 + 1, none⟩ = some (.int .i64 xa) ∧ w.cell? ⟨b1, o1 + 2, none⟩ = some (.int .i64 xb) ∧ w.cell? ⟨gp, 1, none⟩ = some (.int .i64 sl))
    (HA1 : ∀ w, Below W.heap.size W w → Calls Tryd.prog 33 #[.int .i64 xa, .int .i64 sl] w fun e w' => ∃ v, e = .returned v ∧ v = .bool true ∧ Below w.heap.size w w')
    (HE1 : ∀ w, (binOp .eql 3 (.int .i64 xb) (.int .i64 (-1))).run Tryd.prog w = .ok (.bool true) w)
    (HA3 : ∀ w, Below W.heap.size W w → Calls Tryd.prog 37 #[.agg #[.slice A n c, .int .i64 sl, .int .i64 su, .int .i64 au], .pointer (some ⟨b1, o1, none⟩)] w fun e w' => ∃ v, e = .returned v ∧ v = .bool false ∧ Below w.heap.size w w')
    (hk : ∀ (f : Nat → Value) w', f 4 = .bool false → Below W.heap.size W w' → Q .normal ⟨(m13cUs f).foldl (fun A p => A.setIfInBounds p.1 p.2) A0.tmps, A0.defers⟩ w') :
    (Code.region id m13cOps true).wp Tryd.prog Q A0 W := by
  refine wp_region_fun3 (by kernel_rfl) (fun L f w => FlatC W.drew m13cSl (m13cVs gp b1 o1 A n c sl su au xa xb) (m13cSp ) L f w) [107, 108, 109, 110, 111, 112, 113, 114, 115, 116, 117, 118, 119, 120, 121, 122, 123, 124, 125, 126, 127, 128, 129, 130, 131, 132, 133, 4] (fun i o ho => (wf_ops3 (ops := m13cOps) (by kernel_rfl)) i o ho) (fun i o ho u hu => ?_) ?_ ?_ ?_
  · have := ops_dst [107, 108, 109, 110, 111, 112, 113, 114, 115, 116, 117, 118, 119, 120, 121, 122, 123, 124, 125, 126, 127, 128, 129, 130, 131, 132, 133, 4] 143 (by kernel_rfl) i o ho u hu
    exact ⟨this.1, Nat.lt_of_lt_of_le this.2 hsz⟩
  · have hs : m13cOps.size = 28 := rfl
    rw [hs]
    exact FlatC.start rfl rfl
  · rintro L i o ho hLi haf b w hf hc K hK
    have hdep := ops_deps m13cDep (by kernel_rfl) ho haf
    clear haf
    have hbw : Below W.heap.size W w := ⟨hc.bel.os, hc.bel.tape, hc.bel.output, hc.bel.size, hc.bel.block⟩
    have hs : m13cOps.size = 28 := rfl
    have hlt : i < 28 := hs ▸ (Array.getElem?_eq_some_iff.1 ho).1
    have hcases : i = 0 ∨ i = 1 ∨ i = 2 ∨ i = 3 ∨ i = 4 ∨ i = 5 ∨ i = 6 ∨ i = 7 ∨ i = 8 ∨ i = 9 ∨ i = 10 ∨ i = 11 ∨ i = 12 ∨ i = 13 ∨ i = 14 ∨ i = 15 ∨ i = 16 ∨ i = 17 ∨ i = 18 ∨ i = 19 ∨ i = 20 ∨ i = 21 ∨ i = 22 ∨ i = 23 ∨ i = 24 ∨ i = 25 ∨ i = 26 ∨ i = 27 := by omega
    clear hlt
    rcases hcases with rfl | rfl | rfl | rfl | rfl | rfl | rfl | rfl | rfl | rfl | rfl | rfl | rfl | rfl | rfl | rfl | rfl | rfl | rfl | rfl | rfl | rfl | rfl | rfl | rfl | rfl | rfl | rfl
    · have h1 : (m13cOps[0]?).map (·.dst) = some (some 107) := by kernel_rfl
      have h2 : (m13cOps[0]?).map (·.op) = some (Op.move (Operand.tmp 1)) := by kernel_rfl
      have h3 : (m13cOps[0]?).map (·.guard) = some none := by kernel_rfl
      rw [ho] at h1 h2 h3
      replace h1 := Option.some.inj h1
      replace h2 := Option.some.inj h2
      replace h3 := Option.some.inj h3
      simp only at h1 h2 h3
      rw [h1] at hK
      refine ⟨fun _ => ?_, fun hw => by rw [wanted_none h3] at hw; cases hw⟩
      refine wp_moveG _ h2 _ ((hf 1 (by decide)).trans a1) ?_
      rw [h1]
      exact hK _ _ (FlatC.step m13c_nd (m13c_ks ) rfl hc 0 (by decide) (Below.refl _ _) (fun u hu => by injection hu with hu; injection hu) (trivial))
    · have h1 : (m13cOps[1]?).map (·.dst) = some (some 108) := by kernel_rfl
      have h2 : (m13cOps[1]?).map (·.op) = some (Op.nilCheck (Operand.tmp 107)) := by kernel_rfl
      have h3 : (m13cOps[1]?).map (·.guard) = some none := by kernel_rfl
      rw [ho] at h1 h2 h3
      replace h1 := Option.some.inj h1
      replace h2 := Option.some.inj h2
      replace h3 := Option.some.inj h3
      simp only at h1 h2 h3
      rw [h1] at hK
      have l0 : L 0 = true := hdep 0 (by simp [m13cDep])
      refine ⟨fun _ => ?_, fun hw => by rw [wanted_none h3] at hw; cases hw⟩
      refine wp_nilG _ h2 _ (show Act.at b 107 = .pointer (some ⟨b1, o1, none⟩) from hc.v 0 l0 _ rfl) ?_
      rw [h1]
      exact hK _ _ (FlatC.step m13c_nd (m13c_ks ) rfl hc 1 (by decide) (Below.refl _ _) (fun u hu => by injection hu with hu; injection hu) (trivial))
    · have h1 : (m13cOps[2]?).map (·.dst) = some (some 109) := by kernel_rfl
      have h2 : (m13cOps[2]?).map (·.op) = some (Op.fieldAddr 37 (Operand.tmp 108) 1) := by kernel_rfl
      have h3 : (m13cOps[2]?).map (·.guard) = some none := by kernel_rfl
      rw [ho] at h1 h2 h3
      replace h1 := Option.some.inj h1
      replace h2 := Option.some.inj h2
      replace h3 := Option.some.inj h3
      simp only at h1 h2 h3
      rw [h1] at hK
      have l1 : L 1 = true := hdep 1 (by simp [m13cDep])
      refine ⟨fun _ => ?_, fun hw => by rw [wanted_none h3] at hw; cases hw⟩
      refine wp_fieldG _ _ _ h2 _ _ (show Act.at b 108 = .pointer (some ⟨b1, o1, none⟩) from hc.v 1 l1 _ rfl) (fieldS1 b1 o1 w) ?_
      rw [h1]
      exact hK _ _ (FlatC.step m13c_nd (m13c_ks ) rfl hc 2 (by decide) (Below.refl _ _) (fun u hu => by injection hu with hu; injection hu) (trivial))
    · have h1 : (m13cOps[3]?).map (·.dst) = some (some 110) := by kernel_rfl
      have h2 : (m13cOps[3]?).map (·.op) = some (Op.load 3 (Operand.tmp 109)) := by kernel_rfl
      have h3 : (m13cOps[3]?).map (·.guard) = some none := by kernel_rfl
      rw [ho] at h1 h2 h3
      replace h1 := Option.some.inj h1
      replace h2 := Option.some.inj h2
      replace h3 := Option.some.inj h3
      simp only at h1 h2 h3
      rw [h1] at hK
      have l2 : L 2 = true := hdep 2 (by simp [m13cDep])
      refine ⟨fun _ => ?_, fun hw => by rw [wanted_none h3] at hw; cases hw⟩
      refine wp_loadG _ _ h2 _ _ (show Act.at b 109 = .pointer (some ⟨b1, o1 + 1, none⟩) from hc.v 2 l2 _ rfl) (load_iT (HC w hbw).1) ?_
      rw [h1]
      exact hK _ _ (FlatC.step m13c_nd (m13c_ks ) rfl hc 3 (by decide) (Below.refl _ _) (fun u hu => by injection hu with hu; injection hu) (trivial))
    · have h1 : (m13cOps[4]?).map (·.dst) = some (some 111) := by kernel_rfl
      have h2 : (m13cOps[4]?).map (·.op) = some (Op.fieldAddr 24 (Operand.tmp 2) 1) := by kernel_rfl
      have h3 : (m13cOps[4]?).map (·.guard) = some none := by kernel_rfl
      rw [ho] at h1 h2 h3
      replace h1 := Option.some.inj h1
      replace h2 := Option.some.inj h2
      replace h3 := Option.some.inj h3
      simp only at h1 h2 h3
      rw [h1] at hK
      refine ⟨fun _ => ?_, fun hw => by rw [wanted_none h3] at hw; cases hw⟩
      refine wp_fieldG _ _ _ h2 _ _ ((hf 2 (by decide)).trans a2) (fieldP1 gp w) ?_
      rw [h1]
      exact hK _ _ (FlatC.step m13c_nd (m13c_ks ) rfl hc 4 (by decide) (Below.refl _ _) (fun u hu => by injection hu with hu; injection hu) (trivial))
    · have h1 : (m13cOps[5]?).map (·.dst) = some (some 112) := by kernel_rfl
      have h2 : (m13cOps[5]?).map (·.op) = some (Op.load 3 (Operand.tmp 111)) := by kernel_rfl
      have h3 : (m13cOps[5]?).map (·.guard) = some none := by kernel_rfl
      rw [ho] at h1 h2 h3
      replace h1 := Option.some.inj h1
      replace h2 := Option.some.inj h2
      replace h3 := Option.some.inj h3
      simp only at h1 h2 h3
      rw [h1] at hK
      have l4 : L 4 = true := hdep 4 (by simp [m13cDep])
      refine ⟨fun _ => ?_, fun hw => by rw [wanted_none h3] at hw; cases hw⟩
      refine wp_loadG _ _ h2 _ _ (show Act.at b 111 = .pointer (some ⟨gp, 1, none⟩) from hc.v 4 l4 _ rfl) (load_iT (HC w hbw).2.2) ?_
      rw [h1]
      exact hK _ _ (FlatC.step m13c_nd (m13c_ks ) rfl hc 5 (by decide) (Below.refl _ _) (fun u hu => by injection hu with hu; injection hu) (trivial))
    · have h1 : (m13cOps[6]?).map (·.dst) = some (some 113) := by kernel_rfl
      have h2 : (m13cOps[6]?).map (·.op) = some (Op.call { callee := Callee.value (Operand.func 33), args := #[Operand.tmp 110, Operand.tmp 112], argTypes := #[3, 3] }) := by kernel_rfl
      have h3 : (m13cOps[6]?).map (·.guard) = some none := by kernel_rfl
      rw [ho] at h1 h2 h3
      replace h1 := Option.some.inj h1
      replace h2 := Option.some.inj h2
      replace h3 := Option.some.inj h3
      simp only at h1 h2 h3
      rw [h1] at hK
      have l3 : L 3 = true := hdep 3 (by simp [m13cDep])
      have l5 : L 5 = true := hdep 5 (by simp [m13cDep])
      refine ⟨fun _ => ?_, fun hw => by rw [wanted_none h3] at hw; cases hw⟩
      refine wp_callG 33 _ _ h2 (enters_of Tryd.func33 (by kernel_rfl) rfl) #[.int .i64 xa, .int .i64 sl] (by simp [show b.eval (.tmp 110) = _ from (show Act.at b 110 = .int .i64 xa from hc.v 3 l3 _ rfl), show b.eval (.tmp 112) = _ from (show Act.at b 112 = .int .i64 sl from hc.v 5 l5 _ rfl)]) _ (HA1 w hbw) ?_
      rintro v w2 ⟨rfl, hb2⟩
      rw [h1]
      exact hK _ _ (FlatC.step m13c_nd (m13c_ks ) rfl hc 6 (by decide) (hb2) (fun u hu => by injection hu with hu; injection hu) (trivial))
    · have h1 : (m13cOps[7]?).map (·.dst) = some (some 114) := by kernel_rfl
      have h2 : (m13cOps[7]?).map (·.op) = some (Op.move (Operand.tmp 113)) := by kernel_rfl
      have h3 : (m13cOps[7]?).map (·.guard) = some none := by kernel_rfl
      rw [ho] at h1 h2 h3
      replace h1 := Option.some.inj h1
      replace h2 := Option.some.inj h2
      replace h3 := Option.some.inj h3
      simp only at h1 h2 h3
      rw [h1] at hK
      have l6 : L 6 = true := hdep 6 (by simp [m13cDep])
      refine ⟨fun _ => ?_, fun hw => by rw [wanted_none h3] at hw; cases hw⟩
      refine wp_moveG _ h2 _ (show Act.at b 113 = .bool true from hc.v 6 l6 _ rfl) ?_
      rw [h1]
      exact hK _ _ (FlatC.step m13c_nd (m13c_ks ) rfl hc 7 (by decide) (Below.refl _ _) (fun u hu => by injection hu with hu; injection hu) (trivial))
    · have h1 : (m13cOps[8]?).map (·.dst) = some (some 115) := by kernel_rfl
      have h2 : (m13cOps[8]?).map (·.op) = some (Op.move (Operand.tmp 1)) := by kernel_rfl
      have h3 : (m13cOps[8]?).map (·.guard) = some (some (7, true)) := by kernel_rfl
      rw [ho] at h1 h2 h3
      replace h1 := Option.some.inj h1
      replace h2 := Option.some.inj h2
      replace h3 := Option.some.inj h3
      simp only at h1 h2 h3
      rw [h1] at hK
      have l7 : L 7 = true := hdep 7 (by simp [m13cDep])
      have hw := wanted_of (ops := m13cOps) (b := b) h3 (d := 114) (by kernel_rfl) (show Act.at b 114 = .bool true from hc.v 7 l7 _ rfl)
      rw [hw]
      refine ⟨fun _ => ?_, fun hq => absurd hq (by decide)⟩
      refine wp_moveG _ h2 _ ((hf 1 (by decide)).trans a1) ?_
      rw [h1]
      exact hK _ _ (FlatC.step m13c_nd (m13c_ks ) rfl hc 8 (by decide) (Below.refl _ _) (fun u hu => by injection hu with hu; injection hu) (trivial))
    · have h1 : (m13cOps[9]?).map (·.dst) = some (some 116) := by kernel_rfl
      have h2 : (m13cOps[9]?).map (·.op) = some (Op.nilCheck (Operand.tmp 115)) := by kernel_rfl
      have h3 : (m13cOps[9]?).map (·.guard) = some (some (7, true)) := by kernel_rfl
      rw [ho] at h1 h2 h3
      replace h1 := Option.some.inj h1
      replace h2 := Option.some.inj h2
      replace h3 := Option.some.inj h3
      simp only at h1 h2 h3
      rw [h1] at hK
      have l7 : L 7 = true := hdep 7 (by simp [m13cDep])
      have l8 : L 8 = true := hdep 8 (by simp [m13cDep])
      have hw := wanted_of (ops := m13cOps) (b := b) h3 (d := 114) (by kernel_rfl) (show Act.at b 114 = .bool true from hc.v 7 l7 _ rfl)
      rw [hw]
      refine ⟨fun _ => ?_, fun hq => absurd hq (by decide)⟩
      refine wp_nilG _ h2 _ (show Act.at b 115 = .pointer (some ⟨b1, o1, none⟩) from hc.v 8 l8 _ rfl) ?_
      rw [h1]
      exact hK _ _ (FlatC.step m13c_nd (m13c_ks ) rfl hc 9 (by decide) (Below.refl _ _) (fun u hu => by injection hu with hu; injection hu) (trivial))
    · have h1 : (m13cOps[10]?).map (·.dst) = some (some 117) := by kernel_rfl
      have h2 : (m13cOps[10]?).map (·.op) = some (Op.fieldAddr 37 (Operand.tmp 116) 2) := by kernel_rfl
      have h3 : (m13cOps[10]?).map (·.guard) = some (some (7, true)) := by kernel_rfl
      rw [ho] at h1 h2 h3
      replace h1 := Option.some.inj h1
      replace h2 := Option.some.inj h2
      replace h3 := Option.some.inj h3
      simp only at h1 h2 h3
      rw [h1] at hK
      have l7 : L 7 = true := hdep 7 (by simp [m13cDep])
      have l9 : L 9 = true := hdep 9 (by simp [m13cDep])
      have hw := wanted_of (ops := m13cOps) (b := b) h3 (d := 114) (by kernel_rfl) (show Act.at b 114 = .bool true from hc.v 7 l7 _ rfl)
      rw [hw]
      refine ⟨fun _ => ?_, fun hq => absurd hq (by decide)⟩
      refine wp_fieldG _ _ _ h2 _ _ (show Act.at b 116 = .pointer (some ⟨b1, o1, none⟩) from hc.v 9 l9 _ rfl) (fieldS2 b1 o1 w) ?_
      rw [h1]
      exact hK _ _ (FlatC.step m13c_nd (m13c_ks ) rfl hc 10 (by decide) (Below.refl _ _) (fun u hu => by injection hu with hu; injection hu) (trivial))
    · have h1 : (m13cOps[11]?).map (·.dst) = some (some 118) := by kernel_rfl
      have h2 : (m13cOps[11]?).map (·.op) = some (Op.load 3 (Operand.tmp 117)) := by kernel_rfl
      have h3 : (m13cOps[11]?).map (·.guard) = some (some (7, true)) := by kernel_rfl
      rw [ho] at h1 h2 h3
      replace h1 := Option.some.inj h1
      replace h2 := Option.some.inj h2
      replace h3 := Option.some.inj h3
      simp only at h1 h2 h3
      rw [h1] at hK
      have l7 : L 7 = true := hdep 7 (by simp [m13cDep])
      have l10 : L 10 = true := hdep 10 (by simp [m13cDep])
      have hw := wanted_of (ops := m13cOps) (b := b) h3 (d := 114) (by kernel_rfl) (show Act.at b 114 = .bool true from hc.v 7 l7 _ rfl)
      rw [hw]
      refine ⟨fun _ => ?_, fun hq => absurd hq (by decide)⟩
      refine wp_loadG _ _ h2 _ _ (show Act.at b 117 = .pointer (some ⟨b1, o1 + 2, none⟩) from hc.v 10 l10 _ rfl) (load_iT (HC w hbw).2.1) ?_
      rw [h1]
      exact hK _ _ (FlatC.step m13c_nd (m13c_ks ) rfl hc 11 (by decide) (Below.refl _ _) (fun u hu => by injection hu with hu; injection hu) (trivial))
    · have h1 : (m13cOps[12]?).map (·.dst) = some (some 119) := by kernel_rfl
      have h2 : (m13cOps[12]?).map (·.op) = some (Op.binOp BinOp.eql 3 (Operand.tmp 118) (Operand.const (Value.int IntKind.i64 (-1))) 3) := by kernel_rfl
      have h3 : (m13cOps[12]?).map (·.guard) = some (some (7, true)) := by kernel_rfl
      rw [ho] at h1 h2 h3
      replace h1 := Option.some.inj h1
      replace h2 := Option.some.inj h2
      replace h3 := Option.some.inj h3
      simp only at h1 h2 h3
      rw [h1] at hK
      have l7 : L 7 = true := hdep 7 (by simp [m13cDep])
      have l11 : L 11 = true := hdep 11 (by simp [m13cDep])
      have hw := wanted_of (ops := m13cOps) (b := b) h3 (d := 114) (by kernel_rfl) (show Act.at b 114 = .bool true from hc.v 7 l7 _ rfl)
      rw [hw]
      refine ⟨fun _ => ?_, fun hq => absurd hq (by decide)⟩
      refine wp_binG _ _ _ _ _ h2 _ _ (.bool true) (show Act.at b 118 = .int .i64 xb from hc.v 11 l11 _ rfl) rfl (by kernel_rfl) (HE1 _) ?_
      rw [h1]
      exact hK _ _ (FlatC.step m13c_nd (m13c_ks ) rfl hc 12 (by decide) (Below.refl _ _) (fun u hu => by injection hu with hu; injection hu) (trivial))
    · have h1 : (m13cOps[13]?).map (·.dst) = some (some 120) := by kernel_rfl
      have h2 : (m13cOps[13]?).map (·.op) = some (Op.move (Operand.tmp 119)) := by kernel_rfl
      have h3 : (m13cOps[13]?).map (·.guard) = some (some (7, true)) := by kernel_rfl
      rw [ho] at h1 h2 h3
      replace h1 := Option.some.inj h1
      replace h2 := Option.some.inj h2
      replace h3 := Option.some.inj h3
      simp only at h1 h2 h3
      rw [h1] at hK
      have l7 : L 7 = true := hdep 7 (by simp [m13cDep])
      have l12 : L 12 = true := hdep 12 (by simp [m13cDep])
      have hw := wanted_of (ops := m13cOps) (b := b) h3 (d := 114) (by kernel_rfl) (show Act.at b 114 = .bool true from hc.v 7 l7 _ rfl)
      rw [hw]
      refine ⟨fun _ => ?_, fun hq => absurd hq (by decide)⟩
      refine wp_moveG _ h2 _ (show Act.at b 119 = .bool true from hc.v 12 l12 _ rfl) ?_
      rw [h1]
      exact hK _ _ (FlatC.step m13c_nd (m13c_ks ) rfl hc 13 (by decide) (Below.refl _ _) (fun u hu => by injection hu with hu; injection hu) (trivial))
    · have h1 : (m13cOps[14]?).map (·.dst) = some (some 121) := by kernel_rfl
      have h2 : (m13cOps[14]?).map (·.op) = some (Op.load 24 (Operand.tmp 2)) := by kernel_rfl
      have h3 : (m13cOps[14]?).map (·.guard) = some (some (13, false)) := by kernel_rfl
      rw [ho] at h1 h2 h3
      replace h1 := Option.some.inj h1
      replace h2 := Option.some.inj h2
      replace h3 := Option.some.inj h3
      simp only at h1 h2 h3
      rw [h1] at hK
      have l13 : L 13 = true := hdep 13 (by simp [m13cDep])
      have hw := wanted_of (ops := m13cOps) (b := b) h3 (d := 120) (by kernel_rfl) (show Act.at b 120 = .bool true from hc.v 13 l13 _ rfl)
      rw [hw]
      refine ⟨fun hq => absurd hq (by decide), fun _ => ?_⟩
      rw [h1]
      exact hK _ _ (FlatC.step m13c_nd (m13c_ks ) rfl hc 14 (by decide) (Below.refl _ _) (fun u hu => by injection hu with hu; injection hu) trivial)
    · have h1 : (m13cOps[15]?).map (·.dst) = some (some 122) := by kernel_rfl
      have h2 : (m13cOps[15]?).map (·.op) = some (Op.move (Operand.tmp 1)) := by kernel_rfl
      have h3 : (m13cOps[15]?).map (·.guard) = some (some (13, false)) := by kernel_rfl
      rw [ho] at h1 h2 h3
      replace h1 := Option.some.inj h1
      replace h2 := Option.some.inj h2
      replace h3 := Option.some.inj h3
      simp only at h1 h2 h3
      rw [h1] at hK
      have l13 : L 13 = true := hdep 13 (by simp [m13cDep])
      have hw := wanted_of (ops := m13cOps) (b := b) h3 (d := 120) (by kernel_rfl) (show Act.at b 120 = .bool true from hc.v 13 l13 _ rfl)
      rw [hw]
      refine ⟨fun hq => absurd hq (by decide), fun _ => ?_⟩
      rw [h1]
      exact hK _ _ (FlatC.step m13c_nd (m13c_ks ) rfl hc 15 (by decide) (Below.refl _ _) (fun u hu => by injection hu with hu; injection hu) trivial)
    · have h1 : (m13cOps[16]?).map (·.dst) = some (some 123) := by kernel_rfl
      have h2 : (m13cOps[16]?).map (·.op) = some (Op.nilCheck (Operand.tmp 122)) := by kernel_rfl
      have h3 : (m13cOps[16]?).map (·.guard) = some (some (13, false)) := by kernel_rfl
      rw [ho] at h1 h2 h3
      replace h1 := Option.some.inj h1
      replace h2 := Option.some.inj h2
      replace h3 := Option.some.inj h3
      simp only at h1 h2 h3
      rw [h1] at hK
      have l13 : L 13 = true := hdep 13 (by simp [m13cDep])
      have hw := wanted_of (ops := m13cOps) (b := b) h3 (d := 120) (by kernel_rfl) (show Act.at b 120 = .bool true from hc.v 13 l13 _ rfl)
      rw [hw]
      refine ⟨fun hq => absurd hq (by decide), fun _ => ?_⟩
      rw [h1]
      exact hK _ _ (FlatC.step m13c_nd (m13c_ks ) rfl hc 16 (by decide) (Below.refl _ _) (fun u hu => by injection hu with hu; injection hu) trivial)
    · have h1 : (m13cOps[17]?).map (·.dst) = some (some 124) := by kernel_rfl
      have h2 : (m13cOps[17]?).map (·.op) = some (Op.fieldAddr 37 (Operand.tmp 123) 2) := by kernel_rfl
      have h3 : (m13cOps[17]?).map (·.guard) = some (some (13, false)) := by kernel_rfl
      rw [ho] at h1 h2 h3
      replace h1 := Option.some.inj h1
      replace h2 := Option.some.inj h2
      replace h3 := Option.some.inj h3
      simp only at h1 h2 h3
      rw [h1] at hK
      have l13 : L 13 = true := hdep 13 (by simp [m13cDep])
      have hw := wanted_of (ops := m13cOps) (b := b) h3 (d := 120) (by kernel_rfl) (show Act.at b 120 = .bool true from hc.v 13 l13 _ rfl)
      rw [hw]
      refine ⟨fun hq => absurd hq (by decide), fun _ => ?_⟩
      rw [h1]
      exact hK _ _ (FlatC.step m13c_nd (m13c_ks ) rfl hc 17 (by decide) (Below.refl _ _) (fun u hu => by injection hu with hu; injection hu) trivial)
    · have h1 : (m13cOps[18]?).map (·.dst) = some (some 125) := by kernel_rfl
      have h2 : (m13cOps[18]?).map (·.op) = some (Op.load 3 (Operand.tmp 124)) := by kernel_rfl
      have h3 : (m13cOps[18]?).map (·.guard) = some (some (13, false)) := by kernel_rfl
      rw [ho] at h1 h2 h3
      replace h1 := Option.some.inj h1
      replace h2 := Option.some.inj h2
      replace h3 := Option.some.inj h3
      simp only at h1 h2 h3
      rw [h1] at hK
      have l13 : L 13 = true := hdep 13 (by simp [m13cDep])
      have hw := wanted_of (ops := m13cOps) (b := b) h3 (d := 120) (by kernel_rfl) (show Act.at b 120 = .bool true from hc.v 13 l13 _ rfl)
      rw [hw]
      refine ⟨fun hq => absurd hq (by decide), fun _ => ?_⟩
      rw [h1]
      exact hK _ _ (FlatC.step m13c_nd (m13c_ks ) rfl hc 18 (by decide) (Below.refl _ _) (fun u hu => by injection hu with hu; injection hu) trivial)
    · have h1 : (m13cOps[19]?).map (·.dst) = some (some 126) := by kernel_rfl
      have h2 : (m13cOps[19]?).map (·.op) = some (Op.call { callee := Callee.value (Operand.func 32), args := #[Operand.tmp 121, Operand.tmp 125], argTypes := #[24, 3] }) := by kernel_rfl
      have h3 : (m13cOps[19]?).map (·.guard) = some (some (13, false)) := by kernel_rfl
      rw [ho] at h1 h2 h3
      replace h1 := Option.some.inj h1
      replace h2 := Option.some.inj h2
      replace h3 := Option.some.inj h3
      simp only at h1 h2 h3
      rw [h1] at hK
      have l13 : L 13 = true := hdep 13 (by simp [m13cDep])
      have hw := wanted_of (ops := m13cOps) (b := b) h3 (d := 120) (by kernel_rfl) (show Act.at b 120 = .bool true from hc.v 13 l13 _ rfl)
      rw [hw]
      refine ⟨fun hq => absurd hq (by decide), fun _ => ?_⟩
      rw [h1]
      exact hK _ _ (FlatC.step m13c_nd (m13c_ks ) rfl hc 19 (by decide) (Below.refl _ _) (fun u hu => by injection hu with hu; injection hu) trivial)
    · have h1 : (m13cOps[20]?).map (·.dst) = some (some 127) := by kernel_rfl
      have h2 : (m13cOps[20]?).map (·.op) = some (Op.pick (Operand.tmp 120) (Operand.const (Value.bool true)) (Operand.tmp 126)) := by kernel_rfl
      have h3 : (m13cOps[20]?).map (·.guard) = some (some (7, true)) := by kernel_rfl
      rw [ho] at h1 h2 h3
      replace h1 := Option.some.inj h1
      replace h2 := Option.some.inj h2
      replace h3 := Option.some.inj h3
      simp only at h1 h2 h3
      rw [h1] at hK
      have l7 : L 7 = true := hdep 7 (by simp [m13cDep])
      have l13 : L 13 = true := hdep 13 (by simp [m13cDep])
      have hw := wanted_of (ops := m13cOps) (b := b) h3 (d := 114) (by kernel_rfl) (show Act.at b 114 = .bool true from hc.v 7 l7 _ rfl)
      rw [hw]
      refine ⟨fun _ => ?_, fun hq => absurd hq (by decide)⟩
      refine wp_pickG _ _ _ h2 true (show Act.at b 120 = .bool true from hc.v 13 l13 _ rfl) _ (if_pos rfl |>.trans rfl) ?_
      rw [h1]
      exact hK _ _ (FlatC.step m13c_nd (m13c_ks ) rfl hc 20 (by decide) (Below.refl _ _) (fun u hu => by injection hu with hu; injection hu) (trivial))
    · have h1 : (m13cOps[21]?).map (·.dst) = some (some 128) := by kernel_rfl
      have h2 : (m13cOps[21]?).map (·.op) = some (Op.pick (Operand.tmp 114) (Operand.tmp 127) (Operand.const (Value.bool false))) := by kernel_rfl
      have h3 : (m13cOps[21]?).map (·.guard) = some none := by kernel_rfl
      rw [ho] at h1 h2 h3
      replace h1 := Option.some.inj h1
      replace h2 := Option.some.inj h2
      replace h3 := Option.some.inj h3
      simp only at h1 h2 h3
      rw [h1] at hK
      have l7 : L 7 = true := hdep 7 (by simp [m13cDep])
      have l20 : L 20 = true := hdep 20 (by simp [m13cDep])
      refine ⟨fun _ => ?_, fun hw => by rw [wanted_none h3] at hw; cases hw⟩
      refine wp_pickG _ _ _ h2 true (show Act.at b 114 = .bool true from hc.v 7 l7 _ rfl) _ (if_pos rfl |>.trans (show Act.at b 127 = .bool true from hc.v 20 l20 _ rfl)) ?_
      rw [h1]
      exact hK _ _ (FlatC.step m13c_nd (m13c_ks ) rfl hc 21 (by decide) (Below.refl _ _) (fun u hu => by injection hu with hu; injection hu) (trivial))
    · have h1 : (m13cOps[22]?).map (·.dst) = some (some 129) := by kernel_rfl
      have h2 : (m13cOps[22]?).map (·.op) = some (Op.move (Operand.tmp 128)) := by kernel_rfl
      have h3 : (m13cOps[22]?).map (·.guard) = some none := by kernel_rfl
      rw [ho] at h1 h2 h3
      replace h1 := Option.some.inj h1
      replace h2 := Option.some.inj h2
      replace h3 := Option.some.inj h3
      simp only at h1 h2 h3
      rw [h1] at hK
      have l21 : L 21 = true := hdep 21 (by simp [m13cDep])
      refine ⟨fun _ => ?_, fun hw => by rw [wanted_none h3] at hw; cases hw⟩
      refine wp_moveG _ h2 _ (show Act.at b 128 = .bool true from hc.v 21 l21 _ rfl) ?_
      rw [h1]
      exact hK _ _ (FlatC.step m13c_nd (m13c_ks ) rfl hc 22 (by decide) (Below.refl _ _) (fun u hu => by injection hu with hu; injection hu) (trivial))
    · have h1 : (m13cOps[23]?).map (·.dst) = some (some 130) := by kernel_rfl
      have h2 : (m13cOps[23]?).map (·.op) = some (Op.load 24 (Operand.tmp 2)) := by kernel_rfl
      have h3 : (m13cOps[23]?).map (·.guard) = some (some (22, true)) := by kernel_rfl
      rw [ho] at h1 h2 h3
      replace h1 := Option.some.inj h1
      replace h2 := Option.some.inj h2
      replace h3 := Option.some.inj h3
      simp only at h1 h2 h3
      rw [h1] at hK
      have l22 : L 22 = true := hdep 22 (by simp [m13cDep])
      have hw := wanted_of (ops := m13cOps) (b := b) h3 (d := 129) (by kernel_rfl) (show Act.at b 129 = .bool true from hc.v 22 l22 _ rfl)
      rw [hw]
      refine ⟨fun _ => ?_, fun hq => absurd hq (by decide)⟩
      refine wp_load_row 24 (.tmp 2) h2 gp ((hf 2 (by decide)).trans a2) 24 #[.slice A n c, .int .i64 sl, .int .i64 su, .int .i64 au] (0, 0) _ ((hbw.block gp hKp.lt).trans hKp) Tryd.underlying24 rfl (by kernel_rfl) ?_
      rw [h1]
      exact hK _ _ (FlatC.step m13c_nd (m13c_ks ) rfl hc 23 (by decide) (Below.refl _ _) (fun u hu => by injection hu with hu; injection hu) (trivial))
    · have h1 : (m13cOps[24]?).map (·.dst) = some (some 131) := by kernel_rfl
      have h2 : (m13cOps[24]?).map (·.op) = some (Op.move (Operand.tmp 1)) := by kernel_rfl
      have h3 : (m13cOps[24]?).map (·.guard) = some (some (22, true)) := by kernel_rfl
      rw [ho] at h1 h2 h3
      replace h1 := Option.some.inj h1
      replace h2 := Option.some.inj h2
      replace h3 := Option.some.inj h3
      simp only at h1 h2 h3
      rw [h1] at hK
      have l22 : L 22 = true := hdep 22 (by simp [m13cDep])
      have hw := wanted_of (ops := m13cOps) (b := b) h3 (d := 129) (by kernel_rfl) (show Act.at b 129 = .bool true from hc.v 22 l22 _ rfl)
      rw [hw]
      refine ⟨fun _ => ?_, fun hq => absurd hq (by decide)⟩
      refine wp_moveG _ h2 _ ((hf 1 (by decide)).trans a1) ?_
      rw [h1]
      exact hK _ _ (FlatC.step m13c_nd (m13c_ks ) rfl hc 24 (by decide) (Below.refl _ _) (fun u hu => by injection hu with hu; injection hu) (trivial))
    · have h1 : (m13cOps[25]?).map (·.dst) = some (some 132) := by kernel_rfl
      have h2 : (m13cOps[25]?).map (·.op) = some (Op.call { callee := Callee.value (Operand.func 37), args := #[Operand.tmp 130, Operand.tmp 131], argTypes := #[24, 57] }) := by kernel_rfl
      have h3 : (m13cOps[25]?).map (·.guard) = some (some (22, true)) := by kernel_rfl
      rw [ho] at h1 h2 h3
      replace h1 := Option.some.inj h1
      replace h2 := Option.some.inj h2
      replace h3 := Option.some.inj h3
      simp only at h1 h2 h3
      rw [h1] at hK
      have l22 : L 22 = true := hdep 22 (by simp [m13cDep])
      have l23 : L 23 = true := hdep 23 (by simp [m13cDep])
      have l24 : L 24 = true := hdep 24 (by simp [m13cDep])
      have hw := wanted_of (ops := m13cOps) (b := b) h3 (d := 129) (by kernel_rfl) (show Act.at b 129 = .bool true from hc.v 22 l22 _ rfl)
      rw [hw]
      refine ⟨fun _ => ?_, fun hq => absurd hq (by decide)⟩
      refine wp_callG 37 _ _ h2 (enters_of Tryd.func37 (by kernel_rfl) rfl) #[.agg #[.slice A n c, .int .i64 sl, .int .i64 su, .int .i64 au], .pointer (some ⟨b1, o1, none⟩)] (by simp [show b.eval (.tmp 130) = _ from (show Act.at b 130 = .agg #[.slice A n c, .int .i64 sl, .int .i64 su, .int .i64 au] from hc.v 23 l23 _ rfl), show b.eval (.tmp 131) = _ from (show Act.at b 131 = .pointer (some ⟨b1, o1, none⟩) from hc.v 24 l24 _ rfl)]) _ (HA3 w hbw) ?_
      rintro v w2 ⟨rfl, hb2⟩
      rw [h1]
      exact hK _ _ (FlatC.step m13c_nd (m13c_ks ) rfl hc 25 (by decide) (hb2) (fun u hu => by injection hu with hu; injection hu) (trivial))
    · have h1 : (m13cOps[26]?).map (·.dst) = some (some 133) := by kernel_rfl
      have h2 : (m13cOps[26]?).map (·.op) = some (Op.pick (Operand.tmp 129) (Operand.tmp 132) (Operand.const (Value.bool false))) := by kernel_rfl
      have h3 : (m13cOps[26]?).map (·.guard) = some none := by kernel_rfl
      rw [ho] at h1 h2 h3
      replace h1 := Option.some.inj h1
      replace h2 := Option.some.inj h2
      replace h3 := Option.some.inj h3
      simp only at h1 h2 h3
      rw [h1] at hK
      have l22 : L 22 = true := hdep 22 (by simp [m13cDep])
      have l25 : L 25 = true := hdep 25 (by simp [m13cDep])
      refine ⟨fun _ => ?_, fun hw => by rw [wanted_none h3] at hw; cases hw⟩
      refine wp_pickG _ _ _ h2 true (show Act.at b 129 = .bool true from hc.v 22 l22 _ rfl) _ (if_pos rfl |>.trans (show Act.at b 132 = .bool false from hc.v 25 l25 _ rfl)) ?_
      rw [h1]
      exact hK _ _ (FlatC.step m13c_nd (m13c_ks ) rfl hc 26 (by decide) (Below.refl _ _) (fun u hu => by injection hu with hu; injection hu) (trivial))
    · have h1 : (m13cOps[27]?).map (·.dst) = some (some 4) := by kernel_rfl
      have h2 : (m13cOps[27]?).map (·.op) = some (Op.assign (Operand.tmp 133)) := by kernel_rfl
      have h3 : (m13cOps[27]?).map (·.guard) = some none := by kernel_rfl
      rw [ho] at h1 h2 h3
      replace h1 := Option.some.inj h1
      replace h2 := Option.some.inj h2
      replace h3 := Option.some.inj h3
      simp only at h1 h2 h3
      rw [h1] at hK
      have l26 : L 26 = true := hdep 26 (by simp [m13cDep])
      refine ⟨fun _ => ?_, fun hw => by rw [wanted_none h3] at hw; cases hw⟩
      refine wp_assignG _ h2 _ (show Act.at b 133 = .bool false from hc.v 26 l26 _ rfl) ?_
      rw [h1]
      exact hK _ _ (FlatC.step m13c_nd (m13c_ks ) rfl hc 27 (by decide) (Below.refl _ _) (fun u hu => by injection hu with hu; injection hu) (trivial))
  · rintro L b w hL hd hs hf hc
    have hsz2 : m13cOps.size = 28 := rfl
    rw [hsz2] at hL
    have e := act_eq (a := A0) (b := b) (m13cUs (Act.at b)) hd hs hf (by
      intro p hp
      simp only [m13cUs, List.mem_cons, List.not_mem_nil, or_false] at hp
      rcases hp with rfl | rfl | rfl | rfl | rfl | rfl | rfl | rfl | rfl | rfl | rfl | rfl | rfl | rfl | rfl | rfl | rfl | rfl | rfl | rfl | rfl | rfl | rfl | rfl | rfl | rfl | rfl | rfl <;> rfl) (by rw [show (m13cUs (Act.at b)).map (·.1) = [107, 108, 109, 110, 111, 112, 113, 114, 115, 116, 117, 118, 119, 120, 121, 122, 123, 124, 125, 126, 127, 128, 129, 130, 131, 132, 133, 4] from rfl]; decide)
    rw [e]
    exact hk (Act.at b) w (hc.v 27 (hL 27 (by omega)) _ rfl) ⟨hc.bel.os, hc.bel.tape, hc.bel.output, hc.bel.size, hc.bel.block⟩
def m13dOps : Array Oper := #[{ dst := some 107, op := Op.move (Operand.tmp 1), type := 57, pos := "check.go:51", after := #[], guard := none }, { dst := some 108, op := Op.nilCheck (Operand.tmp 107), type := 0, pos := "check.go:51", after := #[{ on := 0, ground := Ground.data }], guard := none }, { dst := some 109, op := Op.fieldAddr 37 (Operand.tmp 108) 1, type := 0, pos := "check.go:51", after := #[{ on := 1, ground := Ground.data }], guard := none }, { dst := some 110, op := Op.load 3 (Operand.tmp 109), type := 3, pos := "check.go:51", after := #[{ on := 2, ground := Ground.data }], guard := none }, { dst := some 111, op := Op.fieldAddr 24 (Operand.tmp 2) 1, type := 0, pos := "check.go:51", after := #[], guard := none }, { dst := some 112, op := Op.load 3 (Operand.tmp 111), type := 3, pos := "check.go:51", after := #[{ on := 4, ground := Ground.data }], guard := none }, { dst := some 113, op := Op.call { callee := Callee.value (Operand.func 33), args := #[Operand.tmp 110, Operand.tmp 112], argTypes := #[3, 3] }, type := 4, pos := "check.go:51", after := #[{ on := 3, ground := Ground.data }, { on := 5, ground := Ground.data }], guard := none }, { dst := some 114, op := Op.move (Operand.tmp 113), type := 4, pos := "check.go:51", after := #[{ on := 6, ground := Ground.data }, { on := 6, ground := Ground.chain }], guard := none }, { dst := some 115, op := Op.move (Operand.tmp 1), type := 57, pos := "check.go:51", after := #[{ on := 7, ground := Ground.guard }], guard := some (7, true) }, { dst := some 116, op := Op.nilCheck (Operand.tmp 115), type := 0, pos := "check.go:51", after := #[{ on := 8, ground := Ground.data }, { on := 7, ground := Ground.guard }], guard := some (7, true) }, { dst := some 117, op := Op.fieldAddr 37 (Operand.tmp 116) 2, type := 0, pos := "check.go:51", after := #[{ on := 9, ground := Ground.data }, { on := 7, ground := Ground.guard }], guard := some (7, true) }, { dst := some 118, op := Op.load 3 (Operand.tmp 117), type := 3, pos := "check.go:51", after := #[{ on := 10, ground := Ground.data }, { on := 7, ground := Ground.guard }], guard := some (7, true) }, { dst := some 119, op := Op.binOp BinOp.eql 3 (Operand.tmp 118) (Operand.const (Value.int IntKind.i64 (-1))) 3, type := 4, pos := "check.go:51", after := #[{ on := 11, ground := Ground.data }, { on := 7, ground := Ground.guard }], guard := some (7, true) }, { dst := some 120, op := Op.move (Operand.tmp 119), type := 4, pos := "check.go:51", after := #[{ on := 12, ground := Ground.data }, { on := 7, ground := Ground.chain }, { on := 7, ground := Ground.guard }], guard := some (7, true) }, { dst := some 121, op := Op.load 24 (Operand.tmp 2), type := 24, pos := "check.go:51", after := #[{ on := 13, ground := Ground.guard }], guard := some (13, false) }, { dst := some 122, op := Op.move (Operand.tmp 1), type := 57, pos := "check.go:51", after := #[{ on := 13, ground := Ground.guard }], guard := some (13, false) }, { dst := some 123, op := Op.nilCheck (Operand.tmp 122), type := 0, pos := "check.go:51", after := #[{ on := 15, ground := Ground.data }, { on := 13, ground := Ground.guard }], guard := some (13, false) }, { dst := some 124, op := Op.fieldAddr 37 (Operand.tmp 123) 2, type := 0, pos := "check.go:51", after := #[{ on := 16, ground := Ground.data }, { on := 13, ground := Ground.guard }], guard := some (13, false) }, { dst := some 125, op := Op.load 3 (Operand.tmp 124), type := 3, pos := "check.go:51", after := #[{ on := 17, ground := Ground.data }, { on := 13, ground := Ground.guard }], guard := some (13, false) }, { dst := some 126, op := Op.call { callee := Callee.value (Operand.func 32), args := #[Operand.tmp 121, Operand.tmp 125], argTypes := #[24, 3] }, type := 4, pos := "check.go:51", after := #[{ on := 14, ground := Ground.data }, { on := 18, ground := Ground.data }, { on := 13, ground := Ground.chain }, { on := 13, ground := Ground.guard }], guard := some (13, false) }, { dst := some 127, op := Op.pick (Operand.tmp 120) (Operand.const (Value.bool true)) (Operand.tmp 126), type := 4, pos := "check.go:51", after := #[{ on := 13, ground := Ground.data }, { on := 19, ground := Ground.data }, { on := 7, ground := Ground.guard }], guard := some (7, true) }, { dst := some 128, op := Op.pick (Operand.tmp 114) (Operand.tmp 127) (Operand.const (Value.bool false)), type := 4, pos := "check.go:51", after := #[{ on := 7, ground := Ground.data }, { on := 20, ground := Ground.data }], guard := none }, { dst := some 129, op := Op.move (Operand.tmp 128), type := 4, pos := "check.go:51", after := #[{ on := 21, ground := Ground.data }, { on := 19, ground := Ground.chain }], guard := none }, { dst := some 130, op := Op.load 24 (Operand.tmp 2), type := 24, pos := "check.go:51", after := #[{ on := 22, ground := Ground.guard }], guard := some (22, true) }, { dst := some 131, op := Op.move (Operand.tmp 1), type := 57, pos := "check.go:51", after := #[{ on := 22, ground := Ground.guard }], guard := some (22, true) }, { dst := some 132, op := Op.call { callee := Callee.value (Operand.func 37), args := #[Operand.tmp 130, Operand.tmp 131], argTypes := #[24, 57] }, type := 4, pos := "check.go:51", after := #[{ on := 23, ground := Ground.data }, { on := 24, ground := Ground.data }, { on := 22, ground := Ground.chain }, { on := 22, ground := Ground.guard }], guard := some (22, true) }, { dst := some 133, op := Op.pick (Operand.tmp 129) (Operand.tmp 132) (Operand.const (Value.bool false)), type := 4, pos := "check.go:51", after := #[{ on := 22, ground := Ground.data }, { on := 25, ground := Ground.data }], guard := none }, { dst := some 4, op := Op.assign (Operand.tmp 133), type := 4, pos := "check.go:51", after := #[{ on := 26, ground := Ground.data }, { on := 25, ground := Ground.chain }, { on := 0, ground := Ground.phase }, { on := 1, ground := Ground.phase }, { on := 2, ground := Ground.phase }, { on := 3, ground := Ground.phase }, { on := 4, ground := Ground.phase }, { on := 5, ground := Ground.phase }, { on := 6, ground := Ground.phase }, { on := 7, ground := Ground.phase }, { on := 8, ground := Ground.phase }, { on := 9, ground := Ground.phase }, { on := 10, ground := Ground.phase }, { on := 11, ground := Ground.phase }, { on := 12, ground := Ground.phase }, { on := 13, ground := Ground.phase }, { on := 14, ground := Ground.phase }, { on := 15, ground := Ground.phase }, { on := 16, ground := Ground.phase }, { on := 17, ground := Ground.phase }, { on := 18, ground := Ground.phase }, { on := 19, ground := Ground.phase }, { on := 20, ground := Ground.phase }, { on := 21, ground := Ground.phase }, { on := 22, ground := Ground.phase }, { on := 23, ground := Ground.phase }, { on := 24, ground := Ground.phase }, { on := 25, ground := Ground.phase }, { on := 26, ground := Ground.phase }], guard := none }]
def m13dDep : Nat → List Nat := fun i => match i with | 1 => [0] | 2 => [1] | 3 => [2] | 5 => [4] | 6 => [3, 5] | 7 => [6] | 8 => [7] | 9 => [7, 8] | 10 => [7, 9] | 11 => [7, 10] | 12 => [7, 11] | 13 => [7, 12] | 14 => [13] | 15 => [13] | 16 => [13, 15] | 17 => [13, 16] | 18 => [13, 17] | 19 => [13, 14, 18] | 20 => [7, 13, 19] | 21 => [7, 20] | 22 => [21] | 23 => [22] | 24 => [22] | 25 => [22] | 26 => [22] | 27 => [26] | _ => []
def m13dSl : List Nat := [107, 108, 109, 110, 111, 112, 113, 114, 115, 116, 117, 118, 119, 120, 121, 122, 123, 124, 125, 126, 127, 128, 129, 130, 131, 132, 133, 4]
def m13dVs (gp : Nat) (b1 : Nat) (o1 : Nat) (A : Option Addr) (n : Nat) (c : Nat) (sl : Int) (su : Int) (au : Int) (xa : Int) (xb : Int) : List (Option Value) := [some (.pointer (some ⟨b1, o1, none⟩)), some (.pointer (some ⟨b1, o1, none⟩)), some (.pointer (some ⟨b1, o1 + 1, none⟩)), some (.int .i64 xa), some (.pointer (some ⟨gp, 1, none⟩)), some (.int .i64 sl), some (.bool true), some (.bool true), some (.pointer (some ⟨b1, o1, none⟩)), some (.pointer (some ⟨b1, o1, none⟩)), some (.pointer (some ⟨b1, o1 + 2, none⟩)), some (.int .i64 xb), some (.bool false), some (.bool false), some (.agg #[.slice A n c, .int .i64 sl, .int .i64 su, .int .i64 au]), some (.pointer (some ⟨b1, o1, none⟩)), some (.pointer (some ⟨b1, o1, none⟩)), some (.pointer (some ⟨b1, o1 + 2, none⟩)), some (.int .i64 xb), some (.bool false), some (.bool false), some (.bool false), some (.bool false), some (undef), some (undef), some (undef), some (.bool false), some (.bool false)]
def m13dSp  (i : Nat) : Value → World → Prop := match i with  | _ => fun _ _ => True
theorem m13d_ks   : ∀ i v w w', m13dSp  i v w → Below w.heap.size w w' → m13dSp  i v w' := by
  intro i v w w' h hb
  unfold m13dSp at h ⊢
  split <;> first | trivial
theorem m13d_nd : m13dSl.Nodup := by decide
def m13dUs (f : Nat → Value) : List (Nat × Value) := [(107, f 107), (108, f 108), (109, f 109), (110, f 110), (111, f 111), (112, f 112), (113, f 113), (114, f 114), (115, f 115), (116, f 116), (117, f 117), (118, f 118), (119, f 119), (120, f 120), (121, f 121), (122, f 122), (123, f 123), (124, f 124), (125, f 125), (126, f 126), (127, f 127), (128, f 128), (129, f 129), (130, f 130), (131, f 131), (132, f 132), (133, f 133), (4, f 4)]
set_option maxRecDepth 20000 in
set_option maxHeartbeats 4000000 in
theorem m13d_reg {gp : Nat} {b1 : Nat} {o1 : Nat} {A : Option Addr} {n : Nat} {c : Nat} {sl : Int} {su : Int} {au : Int} {xa : Int} {xb : Int}  {W : World} {A0 : Act} {Q : Exit → Act → World → Prop} {id : Nat} (a1 : Act.at A0 1 = .pointer (some ⟨b1, o1, none⟩)) (a2 : Act.at A0 2 = .pointer (some ⟨gp, 0, none⟩)) (hsz : 143 ≤ A0.tmps.size)  (hKp : Blk W gp 24 [.slice A n c, .int .i64 sl, .int .i64 su, .int .i64 au])
    (HC : ∀ w, Below W.heap.size W w → w.cell? ⟨b1, o1 + 1, none⟩ = some (.int .i64 xa) ∧ w.cell? ⟨b1, o1 + 2, none⟩ = some (.int .i64 xb) ∧ w.cell? ⟨gp, 1, none⟩ = some (.int .i64 sl))
    (HA1 : ∀ w, Below W.heap.size W w → Calls Tryd.prog 33 #[.int .i64 xa, .int .i64 sl] w fun e w' => ∃ v, e = .returned v ∧ v = .bool true ∧ Below w.heap.size w w')
    (HE1 : ∀ w, (binOp .eql 3 (.int .i64 xb) (.int .i64 (-1))).run Tryd.prog w = .ok (.bool false) w)
    (HA2 : ∀ w, Below W.heap.size W w → Calls Tryd.prog 32 #[.agg #[.slice A n c, .int .i64 sl, .int .i64 su, .int .i64 au], .int .i64 xb] w fun e w' => ∃ v, e = .returned v ∧ v = .bool false ∧ Below w.heap.size w w')
    (hk : ∀ (f : Nat → Value) w', f 4 = .bool false → Below W.heap.size W w' → Q .normal ⟨(m13dUs f).foldl (fun A p => A.setIfInBounds p.1 p.2) A0.tmps, A0.defers⟩ w') :
    (Code.region id m13dOps true).wp Tryd.prog Q A0 W := by
  refine wp_region_fun3 (by kernel_rfl) (fun L f w => FlatC W.drew m13dSl (m13dVs gp b1 o1 A n c sl su au xa xb) (m13dSp ) L f w) [107, 108, 109, 110, 111, 112, 113, 114, 115, 116, 117, 118, 119, 120, 121, 122, 123, 124, 125, 126, 127, 128, 129, 130, 131, 132, 133, 4] (fun i o ho => (wf_ops3 (ops := m13dOps) (by kernel_rfl)) i o ho) (fun i o ho u hu => ?_) ?_ ?_ ?_
  · have := ops_dst [107, 108, 109, 110, 111, 112, 113, 114, 115, 116, 117, 118, 119, 120, 121, 122, 123, 124, 125, 126, 127, 128, 129, 130, 131, 132, 133, 4] 143 (by kernel_rfl) i o ho u hu
    exact ⟨this.1, Nat.lt_of_lt_of_le this.2 hsz⟩
  · have hs : m13dOps.size = 28 := rfl
    rw [hs]
    exact FlatC.start rfl rfl
  · rintro L i o ho hLi haf b w hf hc K hK
    have hdep := ops_deps m13dDep (by kernel_rfl) ho haf
    clear haf
    have hbw : Below W.heap.size W w := ⟨hc.bel.os, hc.bel.tape, hc.bel.output, hc.bel.size, hc.bel.block⟩
    have hs : m13dOps.size = 28 := rfl
    have hlt : i < 28 := hs ▸ (Array.getElem?_eq_some_iff.1 ho).1
    have hcases : i = 0 ∨ i = 1 ∨ i = 2 ∨ i = 3 ∨ i = 4 ∨ i = 5 ∨ i = 6 ∨ i = 7 ∨ i = 8 ∨ i = 9 ∨ i = 10 ∨ i = 11 ∨ i = 12 ∨ i = 13 ∨ i = 14 ∨ i = 15 ∨ i = 16 ∨ i = 17 ∨ i = 18 ∨ i = 19 ∨ i = 20 ∨ i = 21 ∨ i = 22 ∨ i = 23 ∨ i = 24 ∨ i = 25 ∨ i = 26 ∨ i = 27 := by omega
    clear hlt
    rcases hcases with rfl | rfl | rfl | rfl | rfl | rfl | rfl | rfl | rfl | rfl | rfl | rfl | rfl | rfl | rfl | rfl | rfl | rfl | rfl | rfl | rfl | rfl | rfl | rfl | rfl | rfl | rfl | rfl
    · have h1 : (m13dOps[0]?).map (·.dst) = some (some 107) := by kernel_rfl
      have h2 : (m13dOps[0]?).map (·.op) = some (Op.move (Operand.tmp 1)) := by kernel_rfl
      have h3 : (m13dOps[0]?).map (·.guard) = some none := by kernel_rfl
      rw [ho] at h1 h2 h3
      replace h1 := Option.some.inj h1
      replace h2 := Option.some.inj h2
      replace h3 := Option.some.inj h3
      simp only at h1 h2 h3
      rw [h1] at hK
      refine ⟨fun _ => ?_, fun hw => by rw [wanted_none h3] at hw; cases hw⟩
      refine wp_moveG _ h2 _ ((hf 1 (by decide)).trans a1) ?_
      rw [h1]
      exact hK _ _ (FlatC.step m13d_nd (m13d_ks ) rfl hc 0 (by decide) (Below.refl _ _) (fun u hu => by injection hu with hu; injection hu) (trivial))
    · have h1 : (m13dOps[1]?).map (·.dst) = some (some 108) := by kernel_rfl
      have h2 : (m13dOps[1]?).map (·.op) = some (Op.nilCheck (Operand.tmp 107)) := by kernel_rfl
      have h3 : (m13dOps[1]?).map (·.guard) = some none := by kernel_rfl
      rw [ho] at h1 h2 h3
      replace h1 := Option.some.inj h1
      replace h2 := Option.some.inj h2
      replace h3 := Option.some.inj h3
      simp only at h1 h2 h3
      rw [h1] at hK
      have l0 : L 0 = true := hdep 0 (by simp [m13dDep])
      refine ⟨fun _ => ?_, fun hw => by rw [wanted_none h3] at hw; cases hw⟩
      refine wp_nilG _ h2 _ (show Act.at b 107 = .pointer (some ⟨b1, o1, none⟩) from hc.v 0 l0 _ rfl) ?_
      rw [h1]
      exact hK _ _ (FlatC.step m13d_nd (m13d_ks ) rfl hc 1 (by decide) (Below.refl _ _) (fun u hu => by injection hu with hu; injection hu) (trivial))
    · have h1 : (m13dOps[2]?).map (·.dst) = some (some 109) := by kernel_rfl
      have h2 : (m13dOps[2]?).map (·.op) = some (Op.fieldAddr 37 (Operand.tmp 108) 1) := by kernel_rfl
      have h3 : (m13dOps[2]?).map (·.guard) = some none := by kernel_rfl
      rw [ho] at h1 h2 h3
      replace h1 := Option.some.inj h1
      replace h2 := Option.some.inj h2
      replace h3 := Option.some.inj h3
      simp only at h1 h2 h3
      rw [h1] at hK
      have l1 : L 1 = true := hdep 1 (by simp [m13dDep])
      refine ⟨fun _ => ?_, fun hw => by rw [wanted_none h3] at hw; cases hw⟩
      refine wp_fieldG _ _ _ h2 _ _ (show Act.at b 108 = .pointer (some ⟨b1, o1, none⟩) from hc.v 1 l1 _ rfl) (fieldS1 b1 o1 w) ?_
      rw [h1]
      exact hK _ _ (FlatC.step m13d_nd (m13d_ks ) rfl hc 2 (by decide) (Below.refl _ _) (fun u hu => by injection hu with hu; injection hu) (trivial))
    · have h1 : (m13dOps[3]?).map (·.dst) = some (some 110) := by kernel_rfl
      have h2 : (m13dOps[3]?).map (·.op) = some (Op.load 3 (Operand.tmp 109)) := by kernel_rfl
      have h3 : (m13dOps[3]?).map (·.guard) = some none := by kernel_rfl
      rw [ho] at h1 h2 h3
      replace h1 := Option.some.inj h1
      replace h2 := Option.some.inj h2
      replace h3 := Option.some.inj h3
      simp only at h1 h2 h3
      rw [h1] at hK
      have l2 : L 2 = true := hdep 2 (by simp [m13dDep])
      refine ⟨fun _ => ?_, fun hw => by rw [wanted_none h3] at hw; cases hw⟩
      refine wp_loadG _ _ h2 _ _ (show Act.at b 109 = .pointer (some ⟨b1, o1 + 1, none⟩) from hc.v 2 l2 _ rfl) (load_iT (HC w hbw).1) ?_
      rw [h1]
      exact hK _ _ (FlatC.step m13d_nd (m13d_ks ) rfl hc 3 (by decide) (Below.refl _ _) (fun u hu => by injection hu with hu; injection hu) (trivial))
    · have h1 : (m13dOps[4]?).map (·.dst) = some (some 111) := by kernel_rfl
      have h2 : (m13dOps[4]?).map (·.op) = some (Op.fieldAddr 24 (Operand.tmp 2) 1) := by kernel_rfl
      have h3 : (m13dOps[4]?).map (·.guard) = some none := by kernel_rfl
      rw [ho] at h1 h2 h3
      replace h1 := Option.some.inj h1
      replace h2 := Option.some.inj h2
      replace h3 := Option.some.inj h3
      simp only at h1 h2 h3
      rw [h1] at hK
      refine ⟨fun _ => ?_, fun hw => by rw [wanted_none h3] at hw; cases hw⟩
      refine wp_fieldG _ _ _ h2 _ _ ((hf 2 (by decide)).trans a2) (fieldP1 gp w) ?_
      rw [h1]
      exact hK _ _ (FlatC.step m13d_nd (m13d_ks ) rfl hc 4 (by decide) (Below.refl _ _) (fun u hu => by injection hu with hu; injection hu) (trivial))
    · have h1 : (m13dOps[5]?).map (·.dst) = some (some 112) := by kernel_rfl
      have h2 : (m13dOps[5]?).map (·.op) = some (Op.load 3 (Operand.tmp 111)) := by kernel_rfl
      have h3 : (m13dOps[5]?).map (·.guard) = some none := by kernel_rfl
      rw [ho] at h1 h2 h3
      replace h1 := Option.some.inj h1
      replace h2 := Option.some.inj h2
      replace h3 := Option.some.inj h3
      simp only at h1 h2 h3
      rw [h1] at hK
      have l4 : L 4 = true := hdep 4 (by simp [m13dDep])
      refine ⟨fun _ => ?_, fun hw => by rw [wanted_none h3] at hw; cases hw⟩
      refine wp_loadG _ _ h2 _ _ (show Act.at b 111 = .pointer (some ⟨gp, 1, none⟩) from hc.v 4 l4 _ rfl) (load_iT (HC w hbw).2.2) ?_
      rw [h1]
      exact hK _ _ (FlatC.step m13d_nd (m13d_ks ) rfl hc 5 (by decide) (Below.refl _ _) (fun u hu => by injection hu with hu; injection hu) (trivial))
    · have h1 : (m13dOps[6]?).map (·.dst) = some (some 113) := by kernel_rfl
      have h2 : (m13dOps[6]?).map (·.op) = some (Op.call { callee := Callee.value (Operand.func 33), args := #[Operand.tmp 110, Operand.tmp 112], argTypes := #[3, 3] }) := by kernel_rfl
      have h3 : (m13dOps[6]?).map (·.guard) = some none := by kernel_rfl
      rw [ho] at h1 h2 h3
      replace h1 := Option.some.inj h1
      replace h2 := Option.some.inj h2
      replace h3 := Option.some.inj h3
      simp only at h1 h2 h3
      rw [h1] at hK
      have l3 : L 3 = true := hdep 3 (by simp [m13dDep])
      have l5 : L 5 = true := hdep 5 (by simp [m13dDep])
      refine ⟨fun _ => ?_, fun hw => by rw [wanted_none h3] at hw; cases hw⟩
      refine wp_callG 33 _ _ h2 (enters_of Tryd.func33 (by kernel_rfl) rfl) #[.int .i64 xa, .int .i64 sl] (by simp [show b.eval (.tmp 110) = _ from (show Act.at b 110 = .int .i64 xa from hc.v 3 l3 _ rfl), show b.eval (.tmp 112) = _ from (show Act.at b 112 = .int .i64 sl from hc.v 5 l5 _ rfl)]) _ (HA1 w hbw) ?_
      rintro v w2 ⟨rfl, hb2⟩
      rw [h1]
      exact hK _ _ (FlatC.step m13d_nd (m13d_ks ) rfl hc 6 (by decide) (hb2) (fun u hu => by injection hu with hu; injection hu) (trivial))
    · have h1 : (m13dOps[7]?).map (·.dst) = some (some 114) := by kernel_rfl
      have h2 : (m13dOps[7]?).map (·.op) = some (Op.move (Operand.tmp 113)) := by kernel_rfl
      have h3 : (m13dOps[7]?).map (·.guard) = some none := by kernel_rfl
      rw [ho] at h1 h2 h3
      replace h1 := Option.some.inj h1
      replace h2 := Option.some.inj h2
      replace h3 := Option.some.inj h3
      simp only at h1 h2 h3
      rw [h1] at hK
      have l6 : L 6 = true := hdep 6 (by simp [m13dDep])
      refine ⟨fun _ => ?_, fun hw => by rw [wanted_none h3] at hw; cases hw⟩
      refine wp_moveG _ h2 _ (show Act.at b 113 = .bool true from hc.v 6 l6 _ rfl) ?_
      rw [h1]
      exact hK _ _ (FlatC.step m13d_nd (m13d_ks ) rfl hc 7 (by decide) (Below.refl _ _) (fun u hu => by injection hu with hu; injection hu) (trivial))
    · have h1 : (m13dOps[8]?).map (·.dst) = some (some 115) := by kernel_rfl
      have h2 : (m13dOps[8]?).map (·.op) = some (Op.move (Operand.tmp 1)) := by kernel_rfl
      have h3 : (m13dOps[8]?).map (·.guard) = some (some (7, true)) := by kernel_rfl
      rw [ho] at h1 h2 h3
      replace h1 := Option.some.inj h1
      replace h2 := Option.some.inj h2
      replace h3 := Option.some.inj h3
      simp only at h1 h2 h3
      rw [h1] at hK
      have l7 : L 7 = true := hdep 7 (by simp [m13dDep])
      have hw := wanted_of (ops := m13dOps) (b := b) h3 (d := 114) (by kernel_rfl) (show Act.at b 114 = .bool true from hc.v 7 l7 _ rfl)
      rw [hw]
      refine ⟨fun _ => ?_, fun hq => absurd hq (by decide)⟩
      refine wp_moveG _ h2 _ ((hf 1 (by decide)).trans a1) ?_
      rw [h1]
      exact hK _ _ (FlatC.step m13d_nd (m13d_ks ) rfl hc 8 (by decide) (Below.refl _ _) (fun u hu => by injection hu with hu; injection hu) (trivial))
    · have h1 : (m13dOps[9]?).map (·.dst) = some (some 116) := by kernel_rfl
      have h2 : (m13dOps[9]?).map (·.op) = some (Op.nilCheck (Operand.tmp 115)) := by kernel_rfl
      have h3 : (m13dOps[9]?).map (·.guard) = some (some (7, true)) := by kernel_rfl
      rw [ho] at h1 h2 h3
      replace h1 := Option.some.inj h1
      replace h2 := Option.some.inj h2
      replace h3 := Option.some.inj h3
      simp only at h1 h2 h3
      rw [h1] at hK
      have l7 : L 7 = true := hdep 7 (by simp [m13dDep])
      have l8 : L 8 = true := hdep 8 (by simp [m13dDep])
      have hw := wanted_of (ops := m13dOps) (b := b) h3 (d := 114) (by kernel_rfl) (show Act.at b 114 = .bool true from hc.v 7 l7 _ rfl)
      rw [hw]
      refine ⟨fun _ => ?_, fun hq => absurd hq (by decide)⟩
      refine wp_nilG _ h2 _ (show Act.at b 115 = .pointer (some ⟨b1, o1, none⟩) from hc.v 8 l8 _ rfl) ?_
      rw [h1]
      exact hK _ _ (FlatC.step m13d_nd (m13d_ks ) rfl hc 9 (by decide) (Below.refl _ _) (fun u hu => by injection hu with hu; injection hu) (trivial))
    · have h1 : (m13dOps[10]?).map (·.dst) = some (some 117) := by kernel_rfl
      have h2 : (m13dOps[10]?).map (·.op) = some (Op.fieldAddr 37 (Operand.tmp 116) 2) := by kernel_rfl
      have h3 : (m13dOps[10]?).map (·.guard) = some (some (7, true)) := by kernel_rfl
      rw [ho] at h1 h2 h3
      replace h1 := Option.some.inj h1
      replace h2 := Option.some.inj h2
      replace h3 := Option.some.inj h3
      simp only at h1 h2 h3
      rw [h1] at hK
      have l7 : L 7 = true := hdep 7 (by simp [m13dDep])
      have l9 : L 9 = true := hdep 9 (by simp [m13dDep])
      have hw := wanted_of (ops := m13dOps) (b := b) h3 (d := 114) (by kernel_rfl) (show Act.at b 114 = .bool true from hc.v 7 l7 _ rfl)
      rw [hw]
      refine ⟨fun _ => ?_, fun hq => absurd hq (by decide)⟩
      refine wp_fieldG _ _ _ h2 _ _ (show Act.at b 116 = .pointer (some ⟨b1, o1, none⟩) from hc.v 9 l9 _ rfl) (fieldS2 b1 o1 w) ?_
      rw [h1]
      exact hK _ _ (FlatC.step m13d_nd (m13d_ks ) rfl hc 10 (by decide) (Below.refl _ _) (fun u hu => by injection hu with hu; injection hu) (trivial))
    · have h1 : (m13dOps[11]?).map (·.dst) = some (some 118) := by kernel_rfl
      have h2 : (m13dOps[11]?).map (·.op) = some (Op.load 3 (Operand.tmp 117)) := by kernel_rfl
      have h3 : (m13dOps[11]?).map (·.guard) = some (some (7, true)) := by kernel_rfl
      rw [ho] at h1 h2 h3
      replace h1 := Option.some.inj h1
      replace h2 := Option.some.inj h2
      replace h3 := Option.some.inj h3
      simp only at h1 h2 h3
      rw [h1] at hK
      have l7 : L 7 = true := hdep 7 (by simp [m13dDep])
      have l10 : L 10 = true := hdep 10 (by simp [m13dDep])
      have hw := wanted_of (ops := m13dOps) (b := b) h3 (d := 114) (by kernel_rfl) (show Act.at b 114 = .bool true from hc.v 7 l7 _ rfl)
      rw [hw]
      refine ⟨fun _ => ?_, fun hq => absurd hq (by decide)⟩
      refine wp_loadG _ _ h2 _ _ (show Act.at b 117 = .pointer (some ⟨b1, o1 + 2, none⟩) from hc.v 10 l10 _ rfl) (load_iT (HC w hbw).2.1) ?_
      rw [h1]
      exact hK _ _ (FlatC.step m13d_nd (m13d_ks ) rfl hc 11 (by decide) (Below.refl _ _) (fun u hu => by injection hu with hu; injection hu) (trivial))
    · have h1 : (m13dOps[12]?).map (·.dst) = some (some 119) := by kernel_rfl
      have h2 : (m13dOps[12]?).map (·.op) = some (Op.binOp BinOp.eql 3 (Operand.tmp 118) (Operand.const (Value.int IntKind.i64 (-1))) 3) := by kernel_rfl
      have h3 : (m13dOps[12]?).map (·.guard) = some (some (7, true)) := by kernel_rfl
      rw [ho] at h1 h2 h3
      replace h1 := Option.some.inj h1
      replace h2 := Option.some.inj h2
      replace h3 := Option.some.inj h3
      simp only at h1 h2 h3
      rw [h1] at hK
      have l7 : L 7 = true := hdep 7 (by simp [m13dDep])
      have l11 : L 11 = true := hdep 11 (by simp [m13dDep])
      have hw := wanted_of (ops := m13dOps) (b := b) h3 (d := 114) (by kernel_rfl) (show Act.at b 114 = .bool true from hc.v 7 l7 _ rfl)
      rw [hw]
      refine ⟨fun _ => ?_, fun hq => absurd hq (by decide)⟩
      refine wp_binG _ _ _ _ _ h2 _ _ (.bool false) (show Act.at b 118 = .int .i64 xb from hc.v 11 l11 _ rfl) rfl (by kernel_rfl) (HE1 _) ?_
      rw [h1]
      exact hK _ _ (FlatC.step m13d_nd (m13d_ks ) rfl hc 12 (by decide) (Below.refl _ _) (fun u hu => by injection hu with hu; injection hu) (trivial))
    · have h1 : (m13dOps[13]?).map (·.dst) = some (some 120) := by kernel_rfl
      have h2 : (m13dOps[13]?).map (·.op) = some (Op.move (Operand.tmp 119)) := by kernel_rfl
      have h3 : (m13dOps[13]?).map (·.guard) = some (some (7, true)) := by kernel_rfl
      rw [ho] at h1 h2 h3
      replace h1 := Option.some.inj h1
      replace h2 := Option.some.inj h2
      replace h3 := Option.some.inj h3
      simp only at h1 h2 h3
      rw [h1] at hK
      have l7 : L 7 = true := hdep 7 (by simp [m13dDep])
      have l12 : L 12 = true := hdep 12 (by simp [m13dDep])
      have hw := wanted_of (ops := m13dOps) (b := b) h3 (d := 114) (by kernel_rfl) (show Act.at b 114 = .bool true from hc.v 7 l7 _ rfl)
      rw [hw]
      refine ⟨fun _ => ?_, fun hq => absurd hq (by decide)⟩
      refine wp_moveG _ h2 _ (show Act.at b 119 = .bool false from hc.v 12 l12 _ rfl) ?_
      rw [h1]
      exact hK _ _ (FlatC.step m13d_nd (m13d_ks ) rfl hc 13 (by decide) (Below.refl _ _) (fun u hu => by injection hu with hu; injection hu) (trivial))
    · have h1 : (m13dOps[14]?).map (·.dst) = some (some 121) := by kernel_rfl
      have h2 : (m13dOps[14]?).map (·.op) = some (Op.load 24 (Operand.tmp 2)) := by kernel_rfl
      have h3 : (m13dOps[14]?).map (·.guard) = some (some (13, false)) := by kernel_rfl
      rw [ho] at h1 h2 h3
      replace h1 := Option.some.inj h1
      replace h2 := Option.some.inj h2
      replace h3 := Option.some.inj h3
      simp only at h1 h2 h3
      rw [h1] at hK
      have l13 : L 13 = true := hdep 13 (by simp [m13dDep])
      have hw := wanted_of (ops := m13dOps) (b := b) h3 (d := 120) (by kernel_rfl) (show Act.at b 120 = .bool false from hc.v 13 l13 _ rfl)
      rw [hw]
      refine ⟨fun _ => ?_, fun hq => absurd hq (by decide)⟩
      refine wp_load_row 24 (.tmp 2) h2 gp ((hf 2 (by decide)).trans a2) 24 #[.slice A n c, .int .i64 sl, .int .i64 su, .int .i64 au] (0, 0) _ ((hbw.block gp hKp.lt).trans hKp) Tryd.underlying24 rfl (by kernel_rfl) ?_
      rw [h1]
      exact hK _ _ (FlatC.step m13d_nd (m13d_ks ) rfl hc 14 (by decide) (Below.refl _ _) (fun u hu => by injection hu with hu; injection hu) (trivial))
    · have h1 : (m13dOps[15]?).map (·.dst) = some (some 122) := by kernel_rfl
      have h2 : (m13dOps[15]?).map (·.op) = some (Op.move (Operand.tmp 1)) := by kernel_rfl
      have h3 : (m13dOps[15]?).map (·.guard) = some (some (13, false)) := by kernel_rfl
      rw [ho] at h1 h2 h3
      replace h1 := Option.some.inj h1
      replace h2 := Option.some.inj h2
      replace h3 := Option.some.inj h3
      simp only at h1 h2 h3
      rw [h1] at hK
      have l13 : L 13 = true := hdep 13 (by simp [m13dDep])
      have hw := wanted_of (ops := m13dOps) (b := b) h3 (d := 120) (by kernel_rfl) (show Act.at b 120 = .bool false from hc.v 13 l13 _ rfl)
      rw [hw]
      refine ⟨fun _ => ?_, fun hq => absurd hq (by decide)⟩
      refine wp_moveG _ h2 _ ((hf 1 (by decide)).trans a1) ?_
      rw [h1]
      exact hK _ _ (FlatC.step m13d_nd (m13d_ks ) rfl hc 15 (by decide) (Below.refl _ _) (fun u hu => by injection hu with hu; injection hu) (trivial))
    · have h1 : (m13dOps[16]?).map (·.dst) = some (some 123) := by kernel_rfl
      have h2 : (m13dOps[16]?).map (·.op) = some (Op.nilCheck (Operand.tmp 122)) := by kernel_rfl
      have h3 : (m13dOps[16]?).map (·.guard) = some (some (13, false)) := by kernel_rfl
      rw [ho] at h1 h2 h3
      replace h1 := Option.some.inj h1
      replace h2 := Option.some.inj h2
      replace h3 := Option.some.inj h3
      simp only at h1 h2 h3
      rw [h1] at hK
      have l13 : L 13 = true := hdep 13 (by simp [m13dDep])
      have l15 : L 15 = true := hdep 15 (by simp [m13dDep])
      have hw := wanted_of (ops := m13dOps) (b := b) h3 (d := 120) (by kernel_rfl) (show Act.at b 120 = .bool false from hc.v 13 l13 _ rfl)
      rw [hw]
      refine ⟨fun _ => ?_, fun hq => absurd hq (by decide)⟩
      refine wp_nilG _ h2 _ (show Act.at b 122 = .pointer (some ⟨b1, o1, none⟩) from hc.v 15 l15 _ rfl) ?_
      rw [h1]
      exact hK _ _ (FlatC.step m13d_nd (m13d_ks ) rfl hc 16 (by decide) (Below.refl _ _) (fun u hu => by injection hu with hu; injection hu) (trivial))
    · have h1 : (m13dOps[17]?).map (·.dst) = some (some 124) := by kernel_rfl
      have h2 : (m13dOps[17]?).map (·.op) = some (Op.fieldAddr 37 (Operand.tmp 123) 2) := by kernel_rfl
      have h3 : (m13dOps[17]?).map (·.guard) = some (some (13, false)) := by kernel_rfl
      rw [ho] at h1 h2 h3
      replace h1 := Option.some.inj h1
      replace h2 := Option.some.inj h2
      replace h3 := Option.some.inj h3
      simp only at h1 h2 h3
      rw [h1] at hK
      have l13 : L 13 = true := hdep 13 (by simp [m13dDep])
      have l16 : L 16 = true := hdep 16 (by simp [m13dDep])
      have hw := wanted_of (ops := m13dOps) (b := b) h3 (d := 120) (by kernel_rfl) (show Act.at b 120 = .bool false from hc.v 13 l13 _ rfl)
      rw [hw]
      refine ⟨fun _ => ?_, fun hq => absurd hq (by decide)⟩
      refine wp_fieldG _ _ _ h2 _ _ (show Act.at b 123 = .pointer (some ⟨b1, o1, none⟩) from hc.v 16 l16 _ rfl) (fieldS2 b1 o1 w) ?_
      rw [h1]
      exact hK _ _ (FlatC.step m13d_nd (m13d_ks ) rfl hc 17 (by decide) (Below.refl _ _) (fun u hu => by injection hu with hu; injection hu) (trivial))
    · have h1 : (m13dOps[18]?).map (·.dst) = some (some 125) := by kernel_rfl
      have h2 : (m13dOps[18]?).map (·.op) = some (Op.load 3 (Operand.tmp 124)) := by kernel_rfl
      have h3 : (m13dOps[18]?).map (·.guard) = some (some (13, false)) := by kernel_rfl
      rw [ho] at h1 h2 h3
      replace h1 := Option.some.inj h1
      replace h2 := Option.some.inj h2
      replace h3 := Option.some.inj h3
      simp only at h1 h2 h3
      rw [h1] at hK
      have l13 : L 13 = true := hdep 13 (by simp [m13dDep])
      have l17 : L 17 = true := hdep 17 (by simp [m13dDep])
      have hw := wanted_of (ops := m13dOps) (b := b) h3 (d := 120) (by kernel_rfl) (show Act.at b 120 = .bool false from hc.v 13 l13 _ rfl)
      rw [hw]
      refine ⟨fun _ => ?_, fun hq => absurd hq (by decide)⟩
      refine wp_loadG _ _ h2 _ _ (show Act.at b 124 = .pointer (some ⟨b1, o1 + 2, none⟩) from hc.v 17 l17 _ rfl) (load_iT (HC w hbw).2.1) ?_
      rw [h1]
      exact hK _ _ (FlatC.step m13d_nd (m13d_ks ) rfl hc 18 (by decide) (Below.refl _ _) (fun u hu => by injection hu with hu; injection hu) (trivial))
    · have h1 : (m13dOps[19]?).map (·.dst) = some (some 126) := by kernel_rfl
      have h2 : (m13dOps[19]?).map (·.op) = some (Op.call { callee := Callee.value (Operand.func 32), args := #[Operand.tmp 121, Operand.tmp 125], argTypes := #[24, 3] }) := by kernel_rfl
      have h3 : (m13dOps[19]?).map (·.guard) = some (some (13, false)) := by kernel_rfl
      rw [ho] at h1 h2 h3
      replace h1 := Option.some.inj h1
      replace h2 := Option.some.inj h2
      replace h3 := Option.some.inj h3
      simp only at h1 h2 h3
      rw [h1] at hK
      have l13 : L 13 = true := hdep 13 (by simp [m13dDep])
      have l14 : L 14 = true := hdep 14 (by simp [m13dDep])
      have l18 : L 18 = true := hdep 18 (by simp [m13dDep])
      have hw := wanted_of (ops := m13dOps) (b := b) h3 (d := 120) (by kernel_rfl) (show Act.at b 120 = .bool false from hc.v 13 l13 _ rfl)
      rw [hw]
      refine ⟨fun _ => ?_, fun hq => absurd hq (by decide)⟩
      refine wp_callG 32 _ _ h2 (enters_of Tryd.func32 (by kernel_rfl) rfl) #[.agg #[.slice A n c, .int .i64 sl, .int .i64 su, .int .i64 au], .int .i64 xb] (by simp [show b.eval (.tmp 121) = _ from (show Act.at b 121 = .agg #[.slice A n c, .int .i64 sl, .int .i64 su, .int .i64 au] from hc.v 14 l14 _ rfl), show b.eval (.tmp 125) = _ from (show Act.at b 125 = .int .i64 xb from hc.v 18 l18 _ rfl)]) _ (HA2 w hbw) ?_
      rintro v w2 ⟨rfl, hb2⟩
      rw [h1]
      exact hK _ _ (FlatC.step m13d_nd (m13d_ks ) rfl hc 19 (by decide) (hb2) (fun u hu => by injection hu with hu; injection hu) (trivial))
    · have h1 : (m13dOps[20]?).map (·.dst) = some (some 127) := by kernel_rfl
      have h2 : (m13dOps[20]?).map (·.op) = some (Op.pick (Operand.tmp 120) (Operand.const (Value.bool true)) (Operand.tmp 126)) := by kernel_rfl
      have h3 : (m13dOps[20]?).map (·.guard) = some (some (7, true)) := by kernel_rfl
      rw [ho] at h1 h2 h3
      replace h1 := Option.some.inj h1
      replace h2 := Option.some.inj h2
      replace h3 := Option.some.inj h3
      simp only at h1 h2 h3
      rw [h1] at hK
      have l7 : L 7 = true := hdep 7 (by simp [m13dDep])
      have l13 : L 13 = true := hdep 13 (by simp [m13dDep])
      have l19 : L 19 = true := hdep 19 (by simp [m13dDep])
      have hw := wanted_of (ops := m13dOps) (b := b) h3 (d := 114) (by kernel_rfl) (show Act.at b 114 = .bool true from hc.v 7 l7 _ rfl)
      rw [hw]
      refine ⟨fun _ => ?_, fun hq => absurd hq (by decide)⟩
      refine wp_pickG _ _ _ h2 false (show Act.at b 120 = .bool false from hc.v 13 l13 _ rfl) _ (if_neg (by decide) |>.trans (show Act.at b 126 = .bool false from hc.v 19 l19 _ rfl)) ?_
      rw [h1]
      exact hK _ _ (FlatC.step m13d_nd (m13d_ks ) rfl hc 20 (by decide) (Below.refl _ _) (fun u hu => by injection hu with hu; injection hu) (trivial))
    · have h1 : (m13dOps[21]?).map (·.dst) = some (some 128) := by kernel_rfl
      have h2 : (m13dOps[21]?).map (·.op) = some (Op.pick (Operand.tmp 114) (Operand.tmp 127) (Operand.const (Value.bool false))) := by kernel_rfl
      have h3 : (m13dOps[21]?).map (·.guard) = some none := by kernel_rfl
      rw [ho] at h1 h2 h3
      replace h1 := Option.some.inj h1
      replace h2 := Option.some.inj h2
      replace h3 := Option.some.inj h3
      simp only at h1 h2 h3
      rw [h1] at hK
      have l7 : L 7 = true := hdep 7 (by simp [m13dDep])
      have l20 : L 20 = true := hdep 20 (by simp [m13dDep])
      refine ⟨fun _ => ?_, fun hw => by rw [wanted_none h3] at hw; cases hw⟩
      refine wp_pickG _ _ _ h2 true (show Act.at b 114 = .bool true from hc.v 7 l7 _ rfl) _ (if_pos rfl |>.trans (show Act.at b 127 = .bool false from hc.v 20 l20 _ rfl)) ?_
      rw [h1]
      exact hK _ _ (FlatC.step m13d_nd (m13d_ks ) rfl hc 21 (by decide) (Below.refl _ _) (fun u hu => by injection hu with hu; injection hu) (trivial))
    · have h1 : (m13dOps[22]?).map (·.dst) = some (some 129) := by kernel_rfl
      have h2 : (m13dOps[22]?).map (·.op) = some (Op.move (Operand.tmp 128)) := by kernel_rfl
      have h3 : (m13dOps[22]?).map (·.guard) = some none := by kernel_rfl
      rw [ho] at h1 h2 h3
      replace h1 := Option.some.inj h1
      replace h2 := Option.some.inj h2
      replace h3 := Option.some.inj h3
      simp only at h1 h2 h3
      rw [h1] at hK
      have l21 : L 21 = true := hdep 21 (by simp [m13dDep])
      refine ⟨fun _ => ?_, fun hw => by rw [wanted_none h3] at hw; cases hw⟩
      refine wp_moveG _ h2 _ (show Act.at b 128 = .bool false from hc.v 21 l21 _ rfl) ?_
      rw [h1]
      exact hK _ _ (FlatC.step m13d_nd (m13d_ks ) rfl hc 22 (by decide) (Below.refl _ _) (fun u hu => by injection hu with hu; injection hu) (trivial))
    · have h1 : (m13dOps[23]?).map (·.dst) = some (some 130) := by kernel_rfl
      have h2 : (m13dOps[23]?).map (·.op) = some (Op.load 24 (Operand.tmp 2)) := by kernel_rfl
      have h3 : (m13dOps[23]?).map (·.guard) = some (some (22, true)) := by kernel_rfl
      rw [ho] at h1 h2 h3
      replace h1 := Option.some.inj h1
      replace h2 := Option.some.inj h2
      replace h3 := Option.some.inj h3
      simp only at h1 h2 h3
      rw [h1] at hK
      have l22 : L 22 = true := hdep 22 (by simp [m13dDep])
      have hw := wanted_of (ops := m13dOps) (b := b) h3 (d := 129) (by kernel_rfl) (show Act.at b 129 = .bool false from hc.v 22 l22 _ rfl)
      rw [hw]
      refine ⟨fun hq => absurd hq (by decide), fun _ => ?_⟩
      rw [h1]
      exact hK _ _ (FlatC.step m13d_nd (m13d_ks ) rfl hc 23 (by decide) (Below.refl _ _) (fun u hu => by injection hu with hu; injection hu) trivial)
    · have h1 : (m13dOps[24]?).map (·.dst) = some (some 131) := by kernel_rfl
      have h2 : (m13dOps[24]?).map (·.op) = some (Op.move (Operand.tmp 1)) := by kernel_rfl
      have h3 : (m13dOps[24]?).map (·.guard) = some (some (22, true)) := by kernel_rfl
      rw [ho] at h1 h2 h3
      replace h1 := Option.some.inj h1
      replace h2 := Option.some.inj h2
      replace h3 := Option.some.inj h3
      simp only at h1 h2 h3
      rw [h1] at hK
      have l22 : L 22 = true := hdep 22 (by simp [m13dDep])
      have hw := wanted_of (ops := m13dOps) (b := b) h3 (d := 129) (by kernel_rfl) (show Act.at b 129 = .bool false from hc.v 22 l22 _ rfl)
      rw [hw]
      refine ⟨fun hq => absurd hq (by decide), fun _ => ?_⟩
      rw [h1]
      exact hK _ _ (FlatC.step m13d_nd (m13d_ks ) rfl hc 24 (by decide) (Below.refl _ _) (fun u hu => by injection hu with hu; injection hu) trivial)
    · have h1 : (m13dOps[25]?).map (·.dst) = some (some 132) := by kernel_rfl
      have h2 : (m13dOps[25]?).map (·.op) = some (Op.call { callee := Callee.value (Operand.func 37), args := #[Operand.tmp 130, Operand.tmp 131], argTypes := #[24, 57] }) := by kernel_rfl
      have h3 : (m13dOps[25]?).map (·.guard) = some (some (22, true)) := by kernel_rfl
      rw [ho] at h1 h2 h3
      replace h1 := Option.some.inj h1
      replace h2 := Option.some.inj h2
      replace h3 := Option.some.inj h3
      simp only at h1 h2 h3
      rw [h1] at hK
      have l22 : L 22 = true := hdep 22 (by simp [m13dDep])
      have hw := wanted_of (ops := m13dOps) (b := b) h3 (d := 129) (by kernel_rfl) (show Act.at b 129 = .bool false from hc.v 22 l22 _ rfl)
      rw [hw]
      refine ⟨fun hq => absurd hq (by decide), fun _ => ?_⟩
      rw [h1]
      exact hK _ _ (FlatC.step m13d_nd (m13d_ks ) rfl hc 25 (by decide) (Below.refl _ _) (fun u hu => by injection hu with hu; injection hu) trivial)
    · have h1 : (m13dOps[26]?).map (·.dst) = some (some 133) := by kernel_rfl
      have h2 : (m13dOps[26]?).map (·.op) = some (Op.pick (Operand.tmp 129) (Operand.tmp 132) (Operand.const (Value.bool false))) := by kernel_rfl
      have h3 : (m13dOps[26]?).map (·.guard) = some none := by kernel_rfl
      rw [ho] at h1 h2 h3
      replace h1 := Option.some.inj h1
      replace h2 := Option.some.inj h2
      replace h3 := Option.some.inj h3
      simp only at h1 h2 h3
      rw [h1] at hK
      have l22 : L 22 = true := hdep 22 (by simp [m13dDep])
      refine ⟨fun _ => ?_, fun hw => by rw [wanted_none h3] at hw; cases hw⟩
      refine wp_pickG _ _ _ h2 false (show Act.at b 129 = .bool false from hc.v 22 l22 _ rfl) _ (if_neg (by decide) |>.trans rfl) ?_
      rw [h1]
      exact hK _ _ (FlatC.step m13d_nd (m13d_ks ) rfl hc 26 (by decide) (Below.refl _ _) (fun u hu => by injection hu with hu; injection hu) (trivial))
    · have h1 : (m13dOps[27]?).map (·.dst) = some (some 4) := by kernel_rfl
      have h2 : (m13dOps[27]?).map (·.op) = some (Op.assign (Operand.tmp 133)) := by kernel_rfl
      have h3 : (m13dOps[27]?).map (·.guard) = some none := by kernel_rfl
      rw [ho] at h1 h2 h3
      replace h1 := Option.some.inj h1
      replace h2 := Option.some.inj h2
      replace h3 := Option.some.inj h3
      simp only at h1 h2 h3
      rw [h1] at hK
      have l26 : L 26 = true := hdep 26 (by simp [m13dDep])
      refine ⟨fun _ => ?_, fun hw => by rw [wanted_none h3] at hw; cases hw⟩
      refine wp_assignG _ h2 _ (show Act.at b 133 = .bool false from hc.v 26 l26 _ rfl) ?_
      rw [h1]
      exact hK _ _ (FlatC.step m13d_nd (m13d_ks ) rfl hc 27 (by decide) (Below.refl _ _) (fun u hu => by injection hu with hu; injection hu) (trivial))
  · rintro L b w hL hd hs hf hc
    have hsz2 : m13dOps.size = 28 := rfl
    rw [hsz2] at hL
    have e := act_eq (a := A0) (b := b) (m13dUs (Act.at b)) hd hs hf (by
      intro p hp
      simp only [m13dUs, List.mem_cons, List.not_mem_nil, or_false] at hp
      rcases hp with rfl | rfl | rfl | rfl | rfl | rfl | rfl | rfl | rfl | rfl | rfl | rfl | rfl | rfl | rfl | rfl | rfl | rfl | rfl | rfl | rfl | rfl | rfl | rfl | rfl | rfl | rfl | rfl <;> rfl) (by rw [show (m13dUs (Act.at b)).map (·.1) = [107, 108, 109, 110, 111, 112, 113, 114, 115, 116, 117, 118, 119, 120, 121, 122, 123, 124, 125, 126, 127, 128, 129, 130, 131, 132, 133, 4] from rfl]; decide)
    rw [e]
    exact hk (Act.at b) w (hc.v 27 (hL 27 (by omega)) _ rfl) ⟨hc.bel.os, hc.bel.tape, hc.bel.output, hc.bel.size, hc.bel.block⟩
def m13eOps : Array Oper := #[{ dst := some 107, op := Op.move (Operand.tmp 1), type := 57, pos := "check.go:51", after := #[], guard := none }, { dst := some 108, op := Op.nilCheck (Operand.tmp 107), type := 0, pos := "check.go:51", after := #[{ on := 0, ground := Ground.data }], guard := none }, { dst := some 109, op := Op.fieldAddr 37 (Operand.tmp 108) 1, type := 0, pos := "check.go:51", after := #[{ on := 1, ground := Ground.data }], guard := none }, { dst := some 110, op := Op.load 3 (Operand.tmp 109), type := 3, pos := "check.go:51", after := #[{ on := 2, ground := Ground.data }], guard := none }, { dst := some 111, op := Op.fieldAddr 24 (Operand.tmp 2) 1, type := 0, pos := "check.go:51", after := #[], guard := none }, { dst := some 112, op := Op.load 3 (Operand.tmp 111), type := 3, pos := "check.go:51", after := #[{ on := 4, ground := Ground.data }], guard := none }, { dst := some 113, op := Op.call { callee := Callee.value (Operand.func 33), args := #[Operand.tmp 110, Operand.tmp 112], argTypes := #[3, 3] }, type := 4, pos := "check.go:51", after := #[{ on := 3, ground := Ground.data }, { on := 5, ground := Ground.data }], guard := none }, { dst := some 114, op := Op.move (Operand.tmp 113), type := 4, pos := "check.go:51", after := #[{ on := 6, ground := Ground.data }, { on := 6, ground := Ground.chain }], guard := none }, { dst := some 115, op := Op.move (Operand.tmp 1), type := 57, pos := "check.go:51", after := #[{ on := 7, ground := Ground.guard }], guard := some (7, true) }, { dst := some 116, op := Op.nilCheck (Operand.tmp 115), type := 0, pos := "check.go:51", after := #[{ on := 8, ground := Ground.data }, { on := 7, ground := Ground.guard }], guard := some (7, true) }, { dst := some 117, op := Op.fieldAddr 37 (Operand.tmp 116) 2, type := 0, pos := "check.go:51", after := #[{ on := 9, ground := Ground.data }, { on := 7, ground := Ground.guard }], guard := some (7, true) }, { dst := some 118, op := Op.load 3 (Operand.tmp 117), type := 3, pos := "check.go:51", after := #[{ on := 10, ground := Ground.data }, { on := 7, ground := Ground.guard }], guard := some (7, true) }, { dst := some 119, op := Op.binOp BinOp.eql 3 (Operand.tmp 118) (Operand.const (Value.int IntKind.i64 (-1))) 3, type := 4, pos := "check.go:51", after := #[{ on := 11, ground := Ground.data }, { on := 7, ground := Ground.guard }], guard := some (7, true) }, { dst := some 120, op := Op.move (Operand.tmp 119), type := 4, pos := "check.go:51", after := #[{ on := 12, ground := Ground.data }, { on := 7, ground := Ground.chain }, { on := 7, ground := Ground.guard }], guard := some (7, true) }, { dst := some 121, op := Op.load 24 (Operand.tmp 2), type := 24, pos := "check.go:51", after := #[{ on := 13, ground := Ground.guard }], guard := some (13, false) }, { dst := some 122, op := Op.move (Operand.tmp 1), type := 57, pos := "check.go:51", after := #[{ on := 13, ground := Ground.guard }], guard := some (13, false) }, { dst := some 123, op := Op.nilCheck (Operand.tmp 122), type := 0, pos := "check.go:51", after := #[{ on := 15, ground := Ground.data }, { on := 13, ground := Ground.guard }], guard := some (13, false) }, { dst := some 124, op := Op.fieldAddr 37 (Operand.tmp 123) 2, type := 0, pos := "check.go:51", after := #[{ on := 16, ground := Ground.data }, { on := 13, ground := Ground.guard }], guard := some (13, false) }, { dst := some 125, op := Op.load 3 (Operand.tmp 124), type := 3, pos := "check.go:51", after := #[{ on := 17, ground := Ground.data }, { on := 13, ground := Ground.guard }], guard := some (13, false) }, { dst := some 126, op := Op.call { callee := Callee.value (Operand.func 32), args := #[Operand.tmp 121, Operand.tmp 125], argTypes := #[24, 3] }, type := 4, pos := "check.go:51", after := #[{ on := 14, ground := Ground.data }, { on := 18, ground := Ground.data }, { on := 13, ground := Ground.chain }, { on := 13, ground := Ground.guard }], guard := some (13, false) }, { dst := some 127, op := Op.pick (Operand.tmp 120) (Operand.const (Value.bool true)) (Operand.tmp 126), type := 4, pos := "check.go:51", after := #[{ on := 13, ground := Ground.data }, { on := 19, ground := Ground.data }, { on := 7, ground := Ground.guard }], guard := some (7, true) }, { dst := some 128, op := Op.pick (Operand.tmp 114) (Operand.tmp 127) (Operand.const (Value.bool false)), type := 4, pos := "check.go:51", after := #[{ on := 7, ground := Ground.data }, { on := 20, ground := Ground.data }], guard := none }, { dst := some 129, op := Op.move (Operand.tmp 128), type := 4, pos := "check.go:51", after := #[{ on := 21, ground := Ground.data }, { on := 19, ground := Ground.chain }], guard := none }, { dst := some 130, op := Op.load 24 (Operand.tmp 2), type := 24, pos := "check.go:51", after := #[{ on := 22, ground := Ground.guard }], guard := some (22, true) }, { dst := some 131, op := Op.move (Operand.tmp 1), type := 57, pos := "check.go:51", after := #[{ on := 22, ground := Ground.guard }], guard := some (22, true) }, { dst := some 132, op := Op.call { callee := Callee.value (Operand.func 37), args := #[Operand.tmp 130, Operand.tmp 131], argTypes := #[24, 57] }, type := 4, pos := "check.go:51", after := #[{ on := 23, ground := Ground.data }, { on := 24, ground := Ground.data }, { on := 22, ground := Ground.chain }, { on := 22, ground := Ground.guard }], guard := some (22, true) }, { dst := some 133, op := Op.pick (Operand.tmp 129) (Operand.tmp 132) (Operand.const (Value.bool false)), type := 4, pos := "check.go:51", after := #[{ on := 22, ground := Ground.data }, { on := 25, ground := Ground.data }], guard := none }, { dst := some 4, op := Op.assign (Operand.tmp 133), type := 4, pos := "check.go:51", after := #[{ on := 26, ground := Ground.data }, { on := 25, ground := Ground.chain }, { on := 0, ground := Ground.phase }, { on := 1, ground := Ground.phase }, { on := 2, ground := Ground.phase }, { on := 3, ground := Ground.phase }, { on := 4, ground := Ground.phase }, { on := 5, ground := Ground.phase }, { on := 6, ground := Ground.phase }, { on := 7, ground := Ground.phase }, { on := 8, ground := Ground.phase }, { on := 9, ground := Ground.phase }, { on := 10, ground := Ground.phase }, { on := 11, ground := Ground.phase }, { on := 12, ground := Ground.phase }, { on := 13, ground := Ground.phase }, { on := 14, ground := Ground.phase }, { on := 15, ground := Ground.phase }, { on := 16, ground := Ground.phase }, { on := 17, ground := Ground.phase }, { on := 18, ground := Ground.phase }, { on := 19, ground := Ground.phase }, { on := 20, ground := Ground.phase }, { on := 21, ground := Ground.phase }, { on := 22, ground := Ground.phase }, { on := 23, ground := Ground.phase }, { on := 24, ground := Ground.phase }, { on := 25, ground := Ground.phase }, { on := 26, ground := Ground.phase }], guard := none }]
def m13eDep : Nat → List Nat := fun i => match i with | 1 => [0] | 2 => [1] | 3 => [2] | 5 => [4] | 6 => [3, 5] | 7 => [6] | 8 => [7] | 9 => [7, 8] | 10 => [7, 9] | 11 => [7, 10] | 12 => [7, 11] | 13 => [7, 12] | 14 => [13] | 15 => [13] | 16 => [13, 15] | 17 => [13, 16] | 18 => [13, 17] | 19 => [13, 14, 18] | 20 => [7, 13, 19] | 21 => [7, 20] | 22 => [21] | 23 => [22] | 24 => [22] | 25 => [22, 23, 24] | 26 => [22, 25] | 27 => [26] | _ => []
def m13eSl : List Nat := [107, 108, 109, 110, 111, 112, 113, 114, 115, 116, 117, 118, 119, 120, 121, 122, 123, 124, 125, 126, 127, 128, 129, 130, 131, 132, 133, 4]
def m13eVs (gp : Nat) (b1 : Nat) (o1 : Nat) (A : Option Addr) (n : Nat) (c : Nat) (sl : Int) (su : Int) (au : Int) (xa : Int) (xb : Int) : List (Option Value) := [some (.pointer (some ⟨b1, o1, none⟩)), some (.pointer (some ⟨b1, o1, none⟩)), some (.pointer (some ⟨b1, o1 + 1, none⟩)), some (.int .i64 xa), some (.pointer (some ⟨gp, 1, none⟩)), some (.int .i64 sl), some (.bool true), some (.bool true), some (.pointer (some ⟨b1, o1, none⟩)), some (.pointer (some ⟨b1, o1, none⟩)), some (.pointer (some ⟨b1, o1 + 2, none⟩)), some (.int .i64 xb), some (.bool false), some (.bool false), some (.agg #[.slice A n c, .int .i64 sl, .int .i64 su, .int .i64 au]), some (.pointer (some ⟨b1, o1, none⟩)), some (.pointer (some ⟨b1, o1, none⟩)), some (.pointer (some ⟨b1, o1 + 2, none⟩)), some (.int .i64 xb), some (.bool true), some (.bool true), some (.bool true), some (.bool true), some (.agg #[.slice A n c, .int .i64 sl, .int .i64 su, .int .i64 au]), some (.pointer (some ⟨b1, o1, none⟩)), some (.bool true), some (.bool true), some (.bool true)]
def m13eSp  (i : Nat) : Value → World → Prop := match i with  | _ => fun _ _ => True
theorem m13e_ks   : ∀ i v w w', m13eSp  i v w → Below w.heap.size w w' → m13eSp  i v w' := by
  intro i v w w' h hb
  unfold m13eSp at h ⊢
  split <;> first | trivial
theorem m13e_nd : m13eSl.Nodup := by decide
def m13eUs (f : Nat → Value) : List (Nat × Value) := [(107, f 107), (108, f 108), (109, f 109), (110, f 110), (111, f 111), (112, f 112), (113, f 113), (114, f 114), (115, f 115), (116, f 116), (117, f 117), (118, f 118), (119, f 119), (120, f 120), (121, f 121), (122, f 122), (123, f 123), (124, f 124), (125, f 125), (126, f 126), (127, f 127), (128, f 128), (129, f 129), (130, f 130), (131, f 131), (132, f 132), (133, f 133), (4, f 4)]
set_option maxRecDepth 20000 in
set_option maxHeartbeats 4000000 in
theorem m13e_reg {gp : Nat} {b1 : Nat} {o1 : Nat} {A : Option Addr} {n : Nat} {c : Nat} {sl : Int} {su : Int} {au : Int} {xa : Int} {xb : Int}  {W : World} {A0 : Act} {Q : Exit → Act → World → Prop} {id : Nat} (a1 : Act.at A0 1 = .pointer (some ⟨b1, o1, none⟩)) (a2 : Act.at A0 2 = .pointer (some ⟨gp, 0, none⟩)) (hsz : 143 ≤ A0.tmps.size)  (hKp : Blk W gp 24 [.slice A n c, .int .i64 sl, .int .i64 su, .int .i64 au])
    (HC : ∀ w, Below W.heap.size W w → w.cell? ⟨b1, o1 + 1, none⟩ = some (.int .i64 xa) ∧ w.cell? ⟨b1, o1 + 2, none⟩ = some (.int .i64 xb) ∧ w.cell? ⟨gp, 1, none⟩ = some (.int .i64 sl))
    (HA1 : ∀ w, Below W.heap.size W w → Calls Tryd.prog 33 #[.int .i64 xa, .int .i64 sl] w fun e w' => ∃ v, e = .returned v ∧ v = .bool true ∧ Below w.heap.size w w')
    (HE1 : ∀ w, (binOp .eql 3 (.int .i64 xb) (.int .i64 (-1))).run Tryd.prog w = .ok (.bool false) w)
    (HA2 : ∀ w, Below W.heap.size W w → Calls Tryd.prog 32 #[.agg #[.slice A n c, .int .i64 sl, .int .i64 su, .int .i64 au], .int .i64 xb] w fun e w' => ∃ v, e = .returned v ∧ v = .bool true ∧ Below w.heap.size w w')
    (HA3 : ∀ w, Below W.heap.size W w → Calls Tryd.prog 37 #[.agg #[.slice A n c, .int .i64 sl, .int .i64 su, .int .i64 au], .pointer (some ⟨b1, o1, none⟩)] w fun e w' => ∃ v, e = .returned v ∧ v = .bool true ∧ Below w.heap.size w w')
    (hk : ∀ (f : Nat → Value) w', f 4 = .bool true → Below W.heap.size W w' → Q .normal ⟨(m13eUs f).foldl (fun A p => A.setIfInBounds p.1 p.2) A0.tmps, A0.defers⟩ w') :
    (Code.region id m13eOps true).wp Tryd.prog Q A0 W := by
  refine wp_region_fun3 (by kernel_rfl) (fun L f w => FlatC W.drew m13eSl (m13eVs gp b1 o1 A n c sl su au xa xb) (m13eSp ) L f w) [107, 108, 109, 110, 111, 112, 113, 114, 115, 116, 117, 118, 119, 120, 121, 122, 123, 124, 125, 126, 127, 128, 129, 130, 131, 132, 133, 4] (fun i o ho => (wf_ops3 (ops := m13eOps) (by kernel_rfl)) i o ho) (fun i o ho u hu => ?_) ?_ ?_ ?_
  · have := ops_dst [107, 108, 109, 110, 111, 112, 113, 114, 115, 116, 117, 118, 119, 120, 121, 122, 123, 124, 125, 126, 127, 128, 129, 130, 131, 132, 133, 4] 143 (by kernel_rfl) i o ho u hu
    exact ⟨this.1, Nat.lt_of_lt_of_le this.2 hsz⟩
  · have hs : m13eOps.size = 28 := rfl
    rw [hs]
    exact FlatC.start rfl rfl
  · rintro L i o ho hLi haf b w hf hc K hK
    have hdep := ops_deps m13eDep (by kernel_rfl) ho haf
    clear haf
    have hbw : Below W.heap.size W w := ⟨hc.bel.os, hc.bel.tape, hc.bel.output, hc.bel.size, hc.bel.block⟩
    have hs : m13eOps.size = 28 := rfl
    have hlt : i < 28 := hs ▸ (Array.getElem?_eq_some_iff.1 ho).1
    have hcases : i = 0 ∨ i = 1 ∨ i = 2 ∨ i = 3 ∨ i = 4 ∨ i = 5 ∨ i = 6 ∨ i = 7 ∨ i = 8 ∨ i = 9 ∨ i = 10 ∨ i = 11 ∨ i = 12 ∨ i = 13 ∨ i = 14 ∨ i = 15 ∨ i = 16 ∨ i = 17 ∨ i = 18 ∨ i = 19 ∨ i = 20 ∨ i = 21 ∨ i = 22 ∨ i = 23 ∨ i = 24 ∨ i = 25 ∨ i = 26 ∨ i = 27 := by omega
    clear hlt
    rcases hcases with rfl | rfl | rfl | rfl | rfl | rfl | rfl | rfl | rfl | rfl | rfl | rfl | rfl | rfl | rfl | rfl | rfl | rfl | rfl | rfl | rfl | rfl | rfl | rfl | rfl | rfl | rfl | rfl
    · have h1 : (m13eOps[0]?).map (·.dst) = some (some 107) := by kernel_rfl
      have h2 : (m13eOps[0]?).map (·.op) = some (Op.move (Operand.tmp 1)) := by kernel_rfl
      have h3 : (m13eOps[0]?).map (·.guard) = some none := by kernel_rfl
      rw [ho] at h1 h2 h3
      replace h1 := Option.some.inj h1
      replace h2 := Option.some.inj h2
      replace h3 := Option.some.inj h3
      simp only at h1 h2 h3
      rw [h1] at hK
      refine ⟨fun _ => ?_, fun hw => by rw [wanted_none h3] at hw; cases hw⟩
      refine wp_moveG _ h2 _ ((hf 1 (by decide)).trans a1) ?_
      rw [h1]
      exact hK _ _ (FlatC.step m13e_nd (m13e_ks ) rfl hc 0 (by decide) (Below.refl _ _) (fun u hu => by injection hu with hu; injection hu) (trivial))
    · have h1 : (m13eOps[1]?).map (·.dst) = some (some 108) := by kernel_rfl
      have h2 : (m13eOps[1]?).map (·.op) = some (Op.nilCheck (Operand.tmp 107)) := by kernel_rfl
      have h3 : (m13eOps[1]?).map (·.guard) = some none := by kernel_rfl
      rw [ho] at h1 h2 h3
      replace h1 := Option.some.inj h1
      replace h2 := Option.some.inj h2
      replace h3 := Option.some.inj h3
      simp only at h1 h2 h3
      rw [h1] at hK
      have l0 : L 0 = true := hdep 0 (by simp [m13eDep])
      refine ⟨fun _ => ?_, fun hw => by rw [wanted_none h3] at hw; cases hw⟩
      refine wp_nilG _ h2 _ (show Act.at b 107 = .pointer (some ⟨b1, o1, none⟩) from hc.v 0 l0 _ rfl) ?_
      rw [h1]
      exact hK _ _ (FlatC.step m13e_nd (m13e_ks ) rfl hc 1 (by decide) (Below.refl _ _) (fun u hu => by injection hu with hu; injection hu) (trivial))
    · have h1 : (m13eOps[2]?).map (·.dst) = some (some 109) := by kernel_rfl
      have h2 : (m13eOps[2]?).map (·.op) = some (Op.fieldAddr 37 (Operand.tmp 108) 1) := by kernel_rfl
      have h3 : (m13eOps[2]?).map (·.guard) = some none := by kernel_rfl
      rw [ho] at h1 h2 h3
      replace h1 := Option.some.inj h1
      replace h2 := Option.some.inj h2
      replace h3 := Option.some.inj h3
      simp only at h1 h2 h3
      rw [h1] at hK
      have l1 : L 1 = true := hdep 1 (by simp [m13eDep])
      refine ⟨fun _ => ?_, fun hw => by rw [wanted_none h3] at hw; cases hw⟩
      refine wp_fieldG _ _ _ h2 _ _ (show Act.at b 108 = .pointer (some ⟨b1, o1, none⟩) from hc.v 1 l1 _ rfl) (fieldS1 b1 o1 w) ?_
      rw [h1]
      exact hK _ _ (FlatC.step m13e_nd (m13e_ks ) rfl hc 2 (by decide) (Below.refl _ _) (fun u hu => by injection hu with hu; injection hu) (trivial))
    · have h1 : (m13eOps[3]?).map (·.dst) = some (some 110) := by kernel_rfl
      have h2 : (m13eOps[3]?).map (·.op) = some (Op.load 3 (Operand.tmp 109)) := by kernel_rfl
      have h3 : (m13eOps[3]?).map (·.guard) = some none := by kernel_rfl
      rw [ho] at h1 h2 h3
      replace h1 := Option.some.inj h1
      replace h2 := Option.some.inj h2
      replace h3 := Option.some.inj h3
      simp only at h1 h2 h3
      rw [h1] at hK
      have l2 : L 2 = true := hdep 2 (by simp [m13eDep])
      refine ⟨fun _ => ?_, fun hw => by rw [wanted_none h3] at hw; cases hw⟩
      refine wp_loadG _ _ h2 _ _ (show Act.at b 109 = .pointer (some ⟨b1, o1 + 1, none⟩) from hc.v 2 l2 _ rfl) (load_iT (HC w hbw).1) ?_
      rw [h1]
      exact hK _ _ (FlatC.step m13e_nd (m13e_ks ) rfl hc 3 (by decide) (Below.refl _ _) (fun u hu => by injection hu with hu; injection hu) (trivial))
    · have h1 : (m13eOps[4]?).map (·.dst) = some (some 111) := by kernel_rfl
      have h2 : (m13eOps[4]?).map (·.op) = some (Op.fieldAddr 24 (Operand.tmp 2) 1) := by kernel_rfl
      have h3 : (m13eOps[4]?).map (·.guard) = some none := by kernel_rfl
      rw [ho] at h1 h2 h3
      replace h1 := Option.some.inj h1
      replace h2 := Option.some.inj h2
      replace h3 := Option.some.inj h3
      simp only at h1 h2 h3
      rw [h1] at hK
      refine ⟨fun _ => ?_, fun hw => by rw [wanted_none h3] at hw; cases hw⟩
      refine wp_fieldG _ _ _ h2 _ _ ((hf 2 (by decide)).trans a2) (fieldP1 gp w) ?_
      rw [h1]
      exact hK _ _ (FlatC.step m13e_nd (m13e_ks ) rfl hc 4 (by decide) (Below.refl _ _) (fun u hu => by injection hu with hu; injection hu) (trivial))
    · have h1 : (m13eOps[5]?).map (·.dst) = some (some 112) := by kernel_rfl
      have h2 : (m13eOps[5]?).map (·.op) = some (Op.load 3 (Operand.tmp 111)) := by kernel_rfl
      have h3 : (m13eOps[5]?).map (·.guard) = some none := by kernel_rfl
      rw [ho] at h1 h2 h3
      replace h1 := Option.some.inj h1
      replace h2 := Option.some.inj h2
      replace h3 := Option.some.inj h3
      simp only at h1 h2 h3
      rw [h1] at hK
      have l4 : L 4 = true := hdep 4 (by simp [m13eDep])
      refine ⟨fun _ => ?_, fun hw => by rw [wanted_none h3] at hw; cases hw⟩
      refine wp_loadG _ _ h2 _ _ (show Act.at b 111 = .pointer (some ⟨gp, 1, none⟩) from hc.v 4 l4 _ rfl) (load_iT (HC w hbw).2.2) ?_
      rw [h1]
      exact hK _ _ (FlatC.step m13e_nd (m13e_ks ) rfl hc 5 (by decide) (Below.refl _ _) (fun u hu => by injection hu with hu; injection hu) (trivial))
    · have h1 : (m13eOps[6]?).map (·.dst) = some (some 113) := by kernel_rfl
      have h2 : (m13eOps[6]?).map (·.op) = some (Op.call { callee := Callee.value (Operand.func 33), args := #[Operand.tmp 110, Operand.tmp 112], argTypes := #[3, 3] }) := by kernel_rfl
      have h3 : (m13eOps[6]?).map (·.guard) = some none := by kernel_rfl
      rw [ho] at h1 h2 h3
      replace h1 := Option.some.inj h1
      replace h2 := Option.some.inj h2
      replace h3 := Option.some.inj h3
      simp only at h1 h2 h3
      rw [h1] at hK
      have l3 : L 3 = true := hdep 3 (by simp [m13eDep])
      have l5 : L 5 = true := hdep 5 (by simp [m13eDep])
      refine ⟨fun _ => ?_, fun hw => by rw [wanted_none h3] at hw; cases hw⟩
      refine wp_callG 33 _ _ h2 (enters_of Tryd.func33 (by kernel_rfl) rfl) #[.int .i64 xa, .int .i64 sl] (by simp [show b.eval (.tmp 110) = _ from (show Act.at b 110 = .int .i64 xa from hc.v 3 l3 _ rfl), show b.eval (.tmp 112) = _ from (show Act.at b 112 = .int .i64 sl from hc.v 5 l5 _ rfl)]) _ (HA1 w hbw) ?_
      rintro v w2 ⟨rfl, hb2⟩
      rw [h1]
      exact hK _ _ (FlatC.step m13e_nd (m13e_ks ) rfl hc 6 (by decide) (hb2) (fun u hu => by injection hu with hu; injection hu) (trivial))
    · have h1 : (m13eOps[7]?).map (·.dst) = some (some 114) := by kernel_rfl
      have h2 : (m13eOps[7]?).map (·.op) = some (Op.move (Operand.tmp 113)) := by kernel_rfl
      have h3 : (m13eOps[7]?).map (·.guard) = some none := by kernel_rfl
      rw [ho] at h1 h2 h3
      replace h1 := Option.some.inj h1
      replace h2 := Option.some.inj h2
      replace h3 := Option.some.inj h3
      simp only at h1 h2 h3
      rw [h1] at hK
      have l6 : L 6 = true := hdep 6 (by simp [m13eDep])
      refine ⟨fun _ => ?_, fun hw => by rw [wanted_none h3] at hw; cases hw⟩
      refine wp_moveG _ h2 _ (show Act.at b 113 = .bool true from hc.v 6 l6 _ rfl) ?_
      rw [h1]
      exact hK _ _ (FlatC.step m13e_nd (m13e_ks ) rfl hc 7 (by decide) (Below.refl _ _) (fun u hu => by injection hu with hu; injection hu) (trivial))
    · have h1 : (m13eOps[8]?).map (·.dst) = some (some 115) := by kernel_rfl
      have h2 : (m13eOps[8]?).map (·.op) = some (Op.move (Operand.tmp 1)) := by kernel_rfl
      have h3 : (m13eOps[8]?).map (·.guard) = some (some (7, true)) := by kernel_rfl
      rw [ho] at h1 h2 h3
      replace h1 := Option.some.inj h1
      replace h2 := Option.some.inj h2
      replace h3 := Option.some.inj h3
      simp only at h1 h2 h3
      rw [h1] at hK
      have l7 : L 7 = true := hdep 7 (by simp [m13eDep])
      have hw := wanted_of (ops := m13eOps) (b := b) h3 (d := 114) (by kernel_rfl) (show Act.at b 114 = .bool true from hc.v 7 l7 _ rfl)
      rw [hw]
      refine ⟨fun _ => ?_, fun hq => absurd hq (by decide)⟩
      refine wp_moveG _ h2 _ ((hf 1 (by decide)).trans a1) ?_
      rw [h1]
      exact hK _ _ (FlatC.step m13e_nd (m13e_ks ) rfl hc 8 (by decide) (Below.refl _ _) (fun u hu => by injection hu with hu; injection hu) (trivial))
    · have h1 : (m13eOps[9]?).map (·.dst) = some (some 116) := by kernel_rfl
      have h2 : (m13eOps[9]?).map (·.op) = some (Op.nilCheck (Operand.tmp 115)) := by kernel_rfl
      have h3 : (m13eOps[9]?).map (·.guard) = some (some (7, true)) := by kernel_rfl
      rw [ho] at h1 h2 h3
      replace h1 := Option.some.inj h1
      replace h2 := Option.some.inj h2
      replace h3 := Option.some.inj h3
      simp only at h1 h2 h3
      rw [h1] at hK
      have l7 : L 7 = true := hdep 7 (by simp [m13eDep])
      have l8 : L 8 = true := hdep 8 (by simp [m13eDep])
      have hw := wanted_of (ops := m13eOps) (b := b) h3 (d := 114) (by kernel_rfl) (show Act.at b 114 = .bool true from hc.v 7 l7 _ rfl)
      rw [hw]
      refine ⟨fun _ => ?_, fun hq => absurd hq (by decide)⟩
      refine wp_nilG _ h2 _ (show Act.at b 115 = .pointer (some ⟨b1, o1, none⟩) from hc.v 8 l8 _ rfl) ?_
      rw [h1]
      exact hK _ _ (FlatC.step m13e_nd (m13e_ks ) rfl hc 9 (by decide) (Below.refl _ _) (fun u hu => by injection hu with hu; injection hu) (trivial))
    · have h1 : (m13eOps[10]?).map (·.dst) = some (some 117) := by kernel_rfl
      have h2 : (m13eOps[10]?).map (·.op) = some (Op.fieldAddr 37 (Operand.tmp 116) 2) := by kernel_rfl
      have h3 : (m13eOps[10]?).map (·.guard) = some (some (7, true)) := by kernel_rfl
      rw [ho] at h1 h2 h3
      replace h1 := Option.some.inj h1
      replace h2 := Option.some.inj h2
      replace h3 := Option.some.inj h3
      simp only at h1 h2 h3
      rw [h1] at hK
      have l7 : L 7 = true := hdep 7 (by simp [m13eDep])
      have l9 : L 9 = true := hdep 9 (by simp [m13eDep])
      have hw := wanted_of (ops := m13eOps) (b := b) h3 (d := 114) (by kernel_rfl) (show Act.at b 114 = .bool true from hc.v 7 l7 _ rfl)
      rw [hw]
      refine ⟨fun _ => ?_, fun hq => absurd hq (by decide)⟩
      refine wp_fieldG _ _ _ h2 _ _ (show Act.at b 116 = .pointer (some ⟨b1, o1, none⟩) from hc.v 9 l9 _ rfl) (fieldS2 b1 o1 w) ?_
      rw [h1]
      exact hK _ _ (FlatC.step m13e_nd (m13e_ks ) rfl hc 10 (by decide) (Below.refl _ _) (fun u hu => by injection hu with hu; injection hu) (trivial))
    · have h1 : (m13eOps[11]?).map (·.dst) = some (some 118) := by kernel_rfl
      have h2 : (m13eOps[11]?).map (·.op) = some (Op.load 3 (Operand.tmp 117)) := by kernel_rfl
      have h3 : (m13eOps[11]?).map (·.guard) = some (some (7, true)) := by kernel_rfl
      rw [ho] at h1 h2 h3
      replace h1 := Option.some.inj h1
      replace h2 := Option.some.inj h2
      replace h3 := Option.some.inj h3
      simp only at h1 h2 h3
      rw [h1] at hK
      have l7 : L 7 = true := hdep 7 (by simp [m13eDep])
      have l10 : L 10 = true := hdep 10 (by simp [m13eDep])
      have hw := wanted_of (ops := m13eOps) (b := b) h3 (d := 114) (by kernel_rfl) (show Act.at b 114 = .bool true from hc.v 7 l7 _ rfl)
      rw [hw]
      refine ⟨fun _ => ?_, fun hq => absurd hq (by decide)⟩
      refine wp_loadG _ _ h2 _ _ (show Act.at b 117 = .pointer (some ⟨b1, o1 + 2, none⟩) from hc.v 10 l10 _ rfl) (load_iT (HC w hbw).2.1) ?_
      rw [h1]
      exact hK _ _ (FlatC.step m13e_nd (m13e_ks ) rfl hc 11 (by decide) (Below.refl _ _) (fun u hu => by injection hu with hu; injection hu) (trivial))
    · have h1 : (m13eOps[12]?).map (·.dst) = some (some 119) := by kernel_rfl
      have h2 : (m13eOps[12]?).map (·.op) = some (Op.binOp BinOp.eql 3 (Operand.tmp 118) (Operand.const (Value.int IntKind.i64 (-1))) 3) := by kernel_rfl
      have h3 : (m13eOps[12]?).map (·.guard) = some (some (7, true)) := by kernel_rfl
      rw [ho] at h1 h2 h3
      replace h1 := Option.some.inj h1
      replace h2 := Option.some.inj h2
      replace h3 := Option.some.inj h3
      simp only at h1 h2 h3
      rw [h1] at hK
      have l7 : L 7 = true := hdep 7 (by simp [m13eDep])
      have l11 : L 11 = true := hdep 11 (by simp [m13eDep])
      have hw := wanted_of (ops := m13eOps) (b := b) h3 (d := 114) (by kernel_rfl) (show Act.at b 114 = .bool true from hc.v 7 l7 _ rfl)
      rw [hw]
      refine ⟨fun _ => ?_, fun hq => absurd hq (by decide)⟩
      refine wp_binG _ _ _ _ _ h2 _ _ (.bool false) (show Act.at b 118 = .int .i64 xb from hc.v 11 l11 _ rfl) rfl (by kernel_rfl) (HE1 _) ?_
      rw [h1]
      exact hK _ _ (FlatC.step m13e_nd (m13e_ks ) rfl hc 12 (by decide) (Below.refl _ _) (fun u hu => by injection hu with hu; injection hu) (trivial))
    · have h1 : (m13eOps[13]?).map (·.dst) = some (some 120) := by kernel_rfl
      have h2 : (m13eOps[13]?).map (·.op) = some (Op.move (Operand.tmp 119)) := by kernel_rfl
      have h3 : (m13eOps[13]?).map (·.guard) = some (some (7, true)) := by kernel_rfl
      rw [ho] at h1 h2 h3
      replace h1 := Option.some.inj h1
      replace h2 := Option.some.inj h2
      replace h3 := Option.some.inj h3
      simp only at h1 h2 h3
      rw [h1] at hK
      have l7 : L 7 = true := hdep 7 (by simp [m13eDep])
      have l12 : L 12 = true := hdep 12 (by simp [m13eDep])
      have hw := wanted_of (ops := m13eOps) (b := b) h3 (d := 114) (by kernel_rfl) (show Act.at b 114 = .bool true from hc.v 7 l7 _ rfl)
      rw [hw]
      refine ⟨fun _ => ?_, fun hq => absurd hq (by decide)⟩
      refine wp_moveG _ h2 _ (show Act.at b 119 = .bool false from hc.v 12 l12 _ rfl) ?_
      rw [h1]
      exact hK _ _ (FlatC.step m13e_nd (m13e_ks ) rfl hc 13 (by decide) (Below.refl _ _) (fun u hu => by injection hu with hu; injection hu) (trivial))
    · have h1 : (m13eOps[14]?).map (·.dst) = some (some 121) := by kernel_rfl
      have h2 : (m13eOps[14]?).map (·.op) = some (Op.load 24 (Operand.tmp 2)) := by kernel_rfl
      have h3 : (m13eOps[14]?).map (·.guard) = some (some (13, false)) := by kernel_rfl
      rw [ho] at h1 h2 h3
      replace h1 := Option.some.inj h1
      replace h2 := Option.some.inj h2
      replace h3 := Option.some.inj h3
      simp only at h1 h2 h3
      rw [h1] at hK
      have l13 : L 13 = true := hdep 13 (by simp [m13eDep])
      have hw := wanted_of (ops := m13eOps) (b := b) h3 (d := 120) (by kernel_rfl) (show Act.at b 120 = .bool false from hc.v 13 l13 _ rfl)
      rw [hw]
      refine ⟨fun _ => ?_, fun hq => absurd hq (by decide)⟩
      refine wp_load_row 24 (.tmp 2) h2 gp ((hf 2 (by decide)).trans a2) 24 #[.slice A n c, .int .i64 sl, .int .i64 su, .int .i64 au] (0, 0) _ ((hbw.block gp hKp.lt).trans hKp) Tryd.underlying24 rfl (by kernel_rfl) ?_
      rw [h1]
      exact hK _ _ (FlatC.step m13e_nd (m13e_ks ) rfl hc 14 (by decide) (Below.refl _ _) (fun u hu => by injection hu with hu; injection hu) (trivial))
    · have h1 : (m13eOps[15]?).map (·.dst) = some (some 122) := by kernel_rfl
      have h2 : (m13eOps[15]?).map (·.op) = some (Op.move (Operand.tmp 1)) := by kernel_rfl
      have h3 : (m13eOps[15]?).map (·.guard) = some (some (13, false)) := by kernel_rfl
      rw [ho] at h1 h2 h3
      replace h1 := Option.some.inj h1
      replace h2 := Option.some.inj h2
      replace h3 := Option.some.inj h3
      simp only at h1 h2 h3
      rw [h1] at hK
      have l13 : L 13 = true := hdep 13 (by simp [m13eDep])
      have hw := wanted_of (ops := m13eOps) (b := b) h3 (d := 120) (by kernel_rfl) (show Act.at b 120 = .bool false from hc.v 13 l13 _ rfl)
      rw [hw]
      refine ⟨fun _ => ?_, fun hq => absurd hq (by decide)⟩
      refine wp_moveG _ h2 _ ((hf 1 (by decide)).trans a1) ?_
      rw [h1]
      exact hK _ _ (FlatC.step m13e_nd (m13e_ks ) rfl hc 15 (by decide) (Below.refl _ _) (fun u hu => by injection hu with hu; injection hu) (trivial))
    · have h1 : (m13eOps[16]?).map (·.dst) = some (some 123) := by kernel_rfl
      have h2 : (m13eOps[16]?).map (·.op) = some (Op.nilCheck (Operand.tmp 122)) := by kernel_rfl
      have h3 : (m13eOps[16]?).map (·.guard) = some (some (13, false)) := by kernel_rfl
      rw [ho] at h1 h2 h3
      replace h1 := Option.some.inj h1
      replace h2 := Option.some.inj h2
      replace h3 := Option.some.inj h3
      simp only at h1 h2 h3
      rw [h1] at hK
      have l13 : L 13 = true := hdep 13 (by simp [m13eDep])
      have l15 : L 15 = true := hdep 15 (by simp [m13eDep])
      have hw := wanted_of (ops := m13eOps) (b := b) h3 (d := 120) (by kernel_rfl) (show Act.at b 120 = .bool false from hc.v 13 l13 _ rfl)
      rw [hw]
      refine ⟨fun _ => ?_, fun hq => absurd hq (by decide)⟩
      refine wp_nilG _ h2 _ (show Act.at b 122 = .pointer (some ⟨b1, o1, none⟩) from hc.v 15 l15 _ rfl) ?_
      rw [h1]
      exact hK _ _ (FlatC.step m13e_nd (m13e_ks ) rfl hc 16 (by decide) (Below.refl _ _) (fun u hu => by injection hu with hu; injection hu) (trivial))
    · have h1 : (m13eOps[17]?).map (·.dst) = some (some 124) := by kernel_rfl
      have h2 : (m13eOps[17]?).map (·.op) = some (Op.fieldAddr 37 (Operand.tmp 123) 2) := by kernel_rfl
      have h3 : (m13eOps[17]?).map (·.guard) = some (some (13, false)) := by kernel_rfl
      rw [ho] at h1 h2 h3
      replace h1 := Option.some.inj h1
      replace h2 := Option.some.inj h2
      replace h3 := Option.some.inj h3
      simp only at h1 h2 h3
      rw [h1] at hK
      have l13 : L 13 = true := hdep 13 (by simp [m13eDep])
      have l16 : L 16 = true := hdep 16 (by simp [m13eDep])
      have hw := wanted_of (ops := m13eOps) (b := b) h3 (d := 120) (by kernel_rfl) (show Act.at b 120 = .bool false from hc.v 13 l13 _ rfl)
      rw [hw]
      refine ⟨fun _ => ?_, fun hq => absurd hq (by decide)⟩
      refine wp_fieldG _ _ _ h2 _ _ (show Act.at b 123 = .pointer (some ⟨b1, o1, none⟩) from hc.v 16 l16 _ rfl) (fieldS2 b1 o1 w) ?_
      rw [h1]
      exact hK _ _ (FlatC.step m13e_nd (m13e_ks ) rfl hc 17 (by decide) (Below.refl _ _) (fun u hu => by injection hu with hu; injection hu) (trivial))
    · have h1 : (m13eOps[18]?).map (·.dst) = some (some 125) := by kernel_rfl
      have h2 : (m13eOps[18]?).map (·.op) = some (Op.load 3 (Operand.tmp 124)) := by kernel_rfl
      have h3 : (m13eOps[18]?).map (·.guard) = some (some (13, false)) := by kernel_rfl
      rw [ho] at h1 h2 h3
      replace h1 := Option.some.inj h1
      replace h2 := Option.some.inj h2
      replace h3 := Option.some.inj h3
      simp only at h1 h2 h3
      rw [h1] at hK
      have l13 : L 13 = true := hdep 13 (by simp [m13eDep])
      have l17 : L 17 = true := hdep 17 (by simp [m13eDep])
      have hw := wanted_of (ops := m13eOps) (b := b) h3 (d := 120) (by kernel_rfl) (show Act.at b 120 = .bool false from hc.v 13 l13 _ rfl)
      rw [hw]
      refine ⟨fun _ => ?_, fun hq => absurd hq (by decide)⟩
      refine wp_loadG _ _ h2 _ _ (show Act.at b 124 = .pointer (some ⟨b1, o1 + 2, none⟩) from hc.v 17 l17 _ rfl) (load_iT (HC w hbw).2.1) ?_
      rw [h1]
      exact hK _ _ (FlatC.step m13e_nd (m13e_ks ) rfl hc 18 (by decide) (Below.refl _ _) (fun u hu => by injection hu with hu; injection hu) (trivial))
    · have h1 : (m13eOps[19]?).map (·.dst) = some (some 126) := by kernel_rfl
      have h2 : (m13eOps[19]?).map (·.op) = some (Op.call { callee := Callee.value (Operand.func 32), args := #[Operand.tmp 121, Operand.tmp 125], argTypes := #[24, 3] }) := by kernel_rfl
      have h3 : (m13eOps[19]?).map (·.guard) = some (some (13, false)) := by kernel_rfl
      rw [ho] at h1 h2 h3
      replace h1 := Option.some.inj h1
      replace h2 := Option.some.inj h2
      replace h3 := Option.some.inj h3
      simp only at h1 h2 h3
      rw [h1] at hK
      have l13 : L 13 = true := hdep 13 (by simp [m13eDep])
      have l14 : L 14 = true := hdep 14 (by simp [m13eDep])
      have l18 : L 18 = true := hdep 18 (by simp [m13eDep])
      have hw := wanted_of (ops := m13eOps) (b := b) h3 (d := 120) (by kernel_rfl) (show Act.at b 120 = .bool false from hc.v 13 l13 _ rfl)
      rw [hw]
      refine ⟨fun _ => ?_, fun hq => absurd hq (by decide)⟩
      refine wp_callG 32 _ _ h2 (enters_of Tryd.func32 (by kernel_rfl) rfl) #[.agg #[.slice A n c, .int .i64 sl, .int .i64 su, .int .i64 au], .int .i64 xb] (by simp [show b.eval (.tmp 121) = _ from (show Act.at b 121 = .agg #[.slice A n c, .int .i64 sl, .int .i64 su, .int .i64 au] from hc.v 14 l14 _ rfl), show b.eval (.tmp 125) = _ from (show Act.at b 125 = .int .i64 xb from hc.v 18 l18 _ rfl)]) _ (HA2 w hbw) ?_
      rintro v w2 ⟨rfl, hb2⟩
      rw [h1]
      exact hK _ _ (FlatC.step m13e_nd (m13e_ks ) rfl hc 19 (by decide) (hb2) (fun u hu => by injection hu with hu; injection hu) (trivial))
    · have h1 : (m13eOps[20]?).map (·.dst) = some (some 127) := by kernel_rfl
      have h2 : (m13eOps[20]?).map (·.op) = some (Op.pick (Operand.tmp 120) (Operand.const (Value.bool true)) (Operand.tmp 126)) := by kernel_rfl
      have h3 : (m13eOps[20]?).map (·.guard) = some (some (7, true)) := by kernel_rfl
      rw [ho] at h1 h2 h3
      replace h1 := Option.some.inj h1
      replace h2 := Option.some.inj h2
      replace h3 := Option.some.inj h3
      simp only at h1 h2 h3
      rw [h1] at hK
      have l7 : L 7 = true := hdep 7 (by simp [m13eDep])
      have l13 : L 13 = true := hdep 13 (by simp [m13eDep])
      have l19 : L 19 = true := hdep 19 (by simp [m13eDep])
      have hw := wanted_of (ops := m13eOps) (b := b) h3 (d := 114) (by kernel_rfl) (show Act.at b 114 = .bool true from hc.v 7 l7 _ rfl)
      rw [hw]
      refine ⟨fun _ => ?_, fun hq => absurd hq (by decide)⟩
      refine wp_pickG _ _ _ h2 false (show Act.at b 120 = .bool false from hc.v 13 l13 _ rfl) _ (if_neg (by decide) |>.trans (show Act.at b 126 = .bool true from hc.v 19 l19 _ rfl)) ?_
      rw [h1]
      exact hK _ _ (FlatC.step m13e_nd (m13e_ks ) rfl hc 20 (by decide) (Below.refl _ _) (fun u hu => by injection hu with hu; injection hu) (trivial))
    · have h1 : (m13eOps[21]?).map (·.dst) = some (some 128) := by kernel_rfl
      have h2 : (m13eOps[21]?).map (·.op) = some (Op.pick (Operand.tmp 114) (Operand.tmp 127) (Operand.const (Value.bool false))) := by kernel_rfl
      have h3 : (m13eOps[21]?).map (·.guard) = some none := by kernel_rfl
      rw [ho] at h1 h2 h3
      replace h1 := Option.some.inj h1
      replace h2 := Option.some.inj h2
      replace h3 := Option.some.inj h3
      simp only at h1 h2 h3
      rw [h1] at hK
      have l7 : L 7 = true := hdep 7 (by simp [m13eDep])
      have l20 : L 20 = true := hdep 20 (by simp [m13eDep])
      refine ⟨fun _ => ?_, fun hw => by rw [wanted_none h3] at hw; cases hw⟩
      refine wp_pickG _ _ _ h2 true (show Act.at b 114 = .bool true from hc.v 7 l7 _ rfl) _ (if_pos rfl |>.trans (show Act.at b 127 = .bool true from hc.v 20 l20 _ rfl)) ?_
      rw [h1]
      exact hK _ _ (FlatC.step m13e_nd (m13e_ks ) rfl hc 21 (by decide) (Below.refl _ _) (fun u hu => by injection hu with hu; injection hu) (trivial))
    · have h1 : (m13eOps[22]?).map (·.dst) = some (some 129) := by kernel_rfl
      have h2 : (m13eOps[22]?).map (·.op) = some (Op.move (Operand.tmp 128)) := by kernel_rfl
      have h3 : (m13eOps[22]?).map (·.guard) = some none := by kernel_rfl
      rw [ho] at h1 h2 h3
      replace h1 := Option.some.inj h1
      replace h2 := Option.some.inj h2
      replace h3 := Option.some.inj h3
      simp only at h1 h2 h3
      rw [h1] at hK
      have l21 : L 21 = true := hdep 21 (by simp [m13eDep])
      refine ⟨fun _ => ?_, fun hw => by rw [wanted_none h3] at hw; cases hw⟩
      refine wp_moveG _ h2 _ (show Act.at b 128 = .bool true from hc.v 21 l21 _ rfl) ?_
      rw [h1]
      exact hK _ _ (FlatC.step m13e_nd (m13e_ks ) rfl hc 22 (by decide) (Below.refl _ _) (fun u hu => by injection hu with hu; injection hu) (trivial))
    · have h1 : (m13eOps[23]?).map (·.dst) = some (some 130) := by kernel_rfl
      have h2 : (m13eOps[23]?).map (·.op) = some (Op.load 24 (Operand.tmp 2)) := by kernel_rfl
      have h3 : (m13eOps[23]?).map (·.guard) = some (some (22, true)) := by kernel_rfl
      rw [ho] at h1 h2 h3
      replace h1 := Option.some.inj h1
      replace h2 := Option.some.inj h2
      replace h3 := Option.some.inj h3
      simp only at h1 h2 h3
      rw [h1] at hK
      have l22 : L 22 = true := hdep 22 (by simp [m13eDep])
      have hw := wanted_of (ops := m13eOps) (b := b) h3 (d := 129) (by kernel_rfl) (show Act.at b 129 = .bool true from hc.v 22 l22 _ rfl)
      rw [hw]
      refine ⟨fun _ => ?_, fun hq => absurd hq (by decide)⟩
      refine wp_load_row 24 (.tmp 2) h2 gp ((hf 2 (by decide)).trans a2) 24 #[.slice A n c, .int .i64 sl, .int .i64 su, .int .i64 au] (0, 0) _ ((hbw.block gp hKp.lt).trans hKp) Tryd.underlying24 rfl (by kernel_rfl) ?_
      rw [h1]
      exact hK _ _ (FlatC.step m13e_nd (m13e_ks ) rfl hc 23 (by decide) (Below.refl _ _) (fun u hu => by injection hu with hu; injection hu) (trivial))
    · have h1 : (m13eOps[24]?).map (·.dst) = some (some 131) := by kernel_rfl
      have h2 : (m13eOps[24]?).map (·.op) = some (Op.move (Operand.tmp 1)) := by kernel_rfl
      have h3 : (m13eOps[24]?).map (·.guard) = some (some (22, true)) := by kernel_rfl
      rw [ho] at h1 h2 h3
      replace h1 := Option.some.inj h1
      replace h2 := Option.some.inj h2
      replace h3 := Option.some.inj h3
      simp only at h1 h2 h3
      rw [h1] at hK
      have l22 : L 22 = true := hdep 22 (by simp [m13eDep])
      have hw := wanted_of (ops := m13eOps) (b := b) h3 (d := 129) (by kernel_rfl) (show Act.at b 129 = .bool true from hc.v 22 l22 _ rfl)
      rw [hw]
      refine ⟨fun _ => ?_, fun hq => absurd hq (by decide)⟩
      refine wp_moveG _ h2 _ ((hf 1 (by decide)).trans a1) ?_
      rw [h1]
      exact hK _ _ (FlatC.step m13e_nd (m13e_ks ) rfl hc 24 (by decide) (Below.refl _ _) (fun u hu => by injection hu with hu; injection hu) (trivial))
    · have h1 : (m13eOps[25]?).map (·.dst) = some (some 132) := by kernel_rfl
      have h2 : (m13eOps[25]?).map (·.op) = some (Op.call { callee := Callee.value (Operand.func 37), args := #[Operand.tmp 130, Operand.tmp 131], argTypes := #[24, 57] }) := by kernel_rfl
      have h3 : (m13eOps[25]?).map (·.guard) = some (some (22, true)) := by kernel_rfl
      rw [ho] at h1 h2 h3
      replace h1 := Option.some.inj h1
      replace h2 := Option.some.inj h2
      replace h3 := Option.some.inj h3
      simp only at h1 h2 h3
      rw [h1] at hK
      have l22 : L 22 = true := hdep 22 (by simp [m13eDep])
      have l23 : L 23 = true := hdep 23 (by simp [m13eDep])
      have l24 : L 24 = true := hdep 24 (by simp [m13eDep])
      have hw := wanted_of (ops := m13eOps) (b := b) h3 (d := 129) (by kernel_rfl) (show Act.at b 129 = .bool true from hc.v 22 l22 _ rfl)
      rw [hw]
      refine ⟨fun _ => ?_, fun hq => absurd hq (by decide)⟩
      refine wp_callG 37 _ _ h2 (enters_of Tryd.func37 (by kernel_rfl) rfl) #[.agg #[.slice A n c, .int .i64 sl, .int .i64 su, .int .i64 au], .pointer (some ⟨b1, o1, none⟩)] (by simp [show b.eval (.tmp 130) = _ from (show Act.at b 130 = .agg #[.slice A n c, .int .i64 sl, .int .i64 su, .int .i64 au] from hc.v 23 l23 _ rfl), show b.eval (.tmp 131) = _ from (show Act.at b 131 = .pointer (some ⟨b1, o1, none⟩) from hc.v 24 l24 _ rfl)]) _ (HA3 w hbw) ?_
      rintro v w2 ⟨rfl, hb2⟩
      rw [h1]
      exact hK _ _ (FlatC.step m13e_nd (m13e_ks ) rfl hc 25 (by decide) (hb2) (fun u hu => by injection hu with hu; injection hu) (trivial))
    · have h1 : (m13eOps[26]?).map (·.dst) = some (some 133) := by kernel_rfl
      have h2 : (m13eOps[26]?).map (·.op) = some (Op.pick (Operand.tmp 129) (Operand.tmp 132) (Operand.const (Value.bool false))) := by kernel_rfl
      have h3 : (m13eOps[26]?).map (·.guard) = some none := by kernel_rfl
      rw [ho] at h1 h2 h3
      replace h1 := Option.some.inj h1
      replace h2 := Option.some.inj h2
      replace h3 := Option.some.inj h3
      simp only at h1 h2 h3
      rw [h1] at hK
      have l22 : L 22 = true := hdep 22 (by simp [m13eDep])
      have l25 : L 25 = true := hdep 25 (by simp [m13eDep])
      refine ⟨fun _ => ?_, fun hw => by rw [wanted_none h3] at hw; cases hw⟩
      refine wp_pickG _ _ _ h2 true (show Act.at b 129 = .bool true from hc.v 22 l22 _ rfl) _ (if_pos rfl |>.trans (show Act.at b 132 = .bool true from hc.v 25 l25 _ rfl)) ?_
      rw [h1]
      exact hK _ _ (FlatC.step m13e_nd (m13e_ks ) rfl hc 26 (by decide) (Below.refl _ _) (fun u hu => by injection hu with hu; injection hu) (trivial))
    · have h1 : (m13eOps[27]?).map (·.dst) = some (some 4) := by kernel_rfl
      have h2 : (m13eOps[27]?).map (·.op) = some (Op.assign (Operand.tmp 133)) := by kernel_rfl
      have h3 : (m13eOps[27]?).map (·.guard) = some none := by kernel_rfl
      rw [ho] at h1 h2 h3
      replace h1 := Option.some.inj h1
      replace h2 := Option.some.inj h2
      replace h3 := Option.some.inj h3
      simp only at h1 h2 h3
      rw [h1] at hK
      have l26 : L 26 = true := hdep 26 (by simp [m13eDep])
      refine ⟨fun _ => ?_, fun hw => by rw [wanted_none h3] at hw; cases hw⟩
      refine wp_assignG _ h2 _ (show Act.at b 133 = .bool true from hc.v 26 l26 _ rfl) ?_
      rw [h1]
      exact hK _ _ (FlatC.step m13e_nd (m13e_ks ) rfl hc 27 (by decide) (Below.refl _ _) (fun u hu => by injection hu with hu; injection hu) (trivial))
  · rintro L b w hL hd hs hf hc
    have hsz2 : m13eOps.size = 28 := rfl
    rw [hsz2] at hL
    have e := act_eq (a := A0) (b := b) (m13eUs (Act.at b)) hd hs hf (by
      intro p hp
      simp only [m13eUs, List.mem_cons, List.not_mem_nil, or_false] at hp
      rcases hp with rfl | rfl | rfl | rfl | rfl | rfl | rfl | rfl | rfl | rfl | rfl | rfl | rfl | rfl | rfl | rfl | rfl | rfl | rfl | rfl | rfl | rfl | rfl | rfl | rfl | rfl | rfl | rfl <;> rfl) (by rw [show (m13eUs (Act.at b)).map (·.1) = [107, 108, 109, 110, 111, 112, 113, 114, 115, 116, 117, 118, 119, 120, 121, 122, 123, 124, 125, 126, 127, 128, 129, 130, 131, 132, 133, 4] from rfl]; decide)
    rw [e]
    exact hk (Act.at b) w (hc.v 27 (hL 27 (by omega)) _ rfl) ⟨hc.bel.os, hc.bel.tape, hc.bel.output, hc.bel.size, hc.bel.block⟩
def m13fOps : Array Oper := #[{ dst := some 107, op := Op.move (Operand.tmp 1), type := 57, pos := "check.go:51", after := #[], guard := none }, { dst := some 108, op := Op.nilCheck (Operand.tmp 107), type := 0, pos := "check.go:51", after := #[{ on := 0, ground := Ground.data }], guard := none }, { dst := some 109, op := Op.fieldAddr 37 (Operand.tmp 108) 1, type := 0, pos := "check.go:51", after := #[{ on := 1, ground := Ground.data }], guard := none }, { dst := some 110, op := Op.load 3 (Operand.tmp 109), type := 3, pos := "check.go:51", after := #[{ on := 2, ground := Ground.data }], guard := none }, { dst := some 111, op := Op.fieldAddr 24 (Operand.tmp 2) 1, type := 0, pos := "check.go:51", after := #[], guard := none }, { dst := some 112, op := Op.load 3 (Operand.tmp 111), type := 3, pos := "check.go:51", after := #[{ on := 4, ground := Ground.data }], guard := none }, { dst := some 113, op := Op.call { callee := Callee.value (Operand.func 33), args := #[Operand.tmp 110, Operand.tmp 112], argTypes := #[3, 3] }, type := 4, pos := "check.go:51", after := #[{ on := 3, ground := Ground.data }, { on := 5, ground := Ground.data }], guard := none }, { dst := some 114, op := Op.move (Operand.tmp 113), type := 4, pos := "check.go:51", after := #[{ on := 6, ground := Ground.data }, { on := 6, ground := Ground.chain }], guard := none }, { dst := some 115, op := Op.move (Operand.tmp 1), type := 57, pos := "check.go:51", after := #[{ on := 7, ground := Ground.guard }], guard := some (7, true) }, { dst := some 116, op := Op.nilCheck (Operand.tmp 115), type := 0, pos := "check.go:51", after := #[{ on := 8, ground := Ground.data }, { on := 7, ground := Ground.guard }], guard := some (7, true) }, { dst := some 117, op := Op.fieldAddr 37 (Operand.tmp 116) 2, type := 0, pos := "check.go:51", after := #[{ on := 9, ground := Ground.data }, { on := 7, ground := Ground.guard }], guard := some (7, true) }, { dst := some 118, op := Op.load 3 (Operand.tmp 117), type := 3, pos := "check.go:51", after := #[{ on := 10, ground := Ground.data }, { on := 7, ground := Ground.guard }], guard := some (7, true) }, { dst := some 119, op := Op.binOp BinOp.eql 3 (Operand.tmp 118) (Operand.const (Value.int IntKind.i64 (-1))) 3, type := 4, pos := "check.go:51", after := #[{ on := 11, ground := Ground.data }, { on := 7, ground := Ground.guard }], guard := some (7, true) }, { dst := some 120, op := Op.move (Operand.tmp 119), type := 4, pos := "check.go:51", after := #[{ on := 12, ground := Ground.data }, { on := 7, ground := Ground.chain }, { on := 7, ground := Ground.guard }], guard := some (7, true) }, { dst := some 121, op := Op.load 24 (Operand.tmp 2), type := 24, pos := "check.go:51", after := #[{ on := 13, ground := Ground.guard }], guard := some (13, false) }, { dst := some 122, op := Op.move (Operand.tmp 1), type := 57, pos := "check.go:51", after := #[{ on := 13, ground := Ground.guard }], guard := some (13, false) }, { dst := some 123, op := Op.nilCheck (Operand.tmp 122), type := 0, pos := "check.go:51", after := #[{ on := 15, ground := Ground.data }, { on := 13, ground := Ground.guard }], guard := some (13, false) }, { dst := some 124, op := Op.fieldAddr 37 (Operand.tmp 123) 2, type := 0, pos := "check.go:51", after := #[{ on := 16, ground := Ground.data }, { on := 13, ground := Ground.guard }], guard := some (13, false) }, { dst := some 125, op := Op.load 3 (Operand.tmp 124), type := 3, pos := "check.go:51", after := #[{ on := 17, ground := Ground.data }, { on := 13, ground := Ground.guard }], guard := some (13, false) }, { dst := some 126, op := Op.call { callee := Callee.value (Operand.func 32), args := #[Operand.tmp 121, Operand.tmp 125], argTypes := #[24, 3] }, type := 4, pos := "check.go:51", after := #[{ on := 14, ground := Ground.data }, { on := 18, ground := Ground.data }, { on := 13, ground := Ground.chain }, { on := 13, ground := Ground.guard }], guard := some (13, false) }, { dst := some 127, op := Op.pick (Operand.tmp 120) (Operand.const (Value.bool true)) (Operand.tmp 126), type := 4, pos := "check.go:51", after := #[{ on := 13, ground := Ground.data }, { on := 19, ground := Ground.data }, { on := 7, ground := Ground.guard }], guard := some (7, true) }, { dst := some 128, op := Op.pick (Operand.tmp 114) (Operand.tmp 127) (Operand.const (Value.bool false)), type := 4, pos := "check.go:51", after := #[{ on := 7, ground := Ground.data }, { on := 20, ground := Ground.data }], guard := none }, { dst := some 129, op := Op.move (Operand.tmp 128), type := 4, pos := "check.go:51", after := #[{ on := 21, ground := Ground.data }, { on := 19, ground := Ground.chain }], guard := none }, { dst := some 130, op := Op.load 24 (Operand.tmp 2), type := 24, pos := "check.go:51", after := #[{ on := 22, ground := Ground.guard }], guard := some (22, true) }, { dst := some 131, op := Op.move (Operand.tmp 1), type := 57, pos := "check.go:51", after := #[{ on := 22, ground := Ground.guard }], guard := some (22, true) }, { dst := some 132, op := Op.call { callee := Callee.value (Operand.func 37), args := #[Operand.tmp 130, Operand.tmp 131], argTypes := #[24, 57] }, type := 4, pos := "check.go:51", after := #[{ on := 23, ground := Ground.data }, { on := 24, ground := Ground.data }, { on := 22, ground := Ground.chain }, { on := 22, ground := Ground.guard }], guard := some (22, true) }, { dst := some 133, op := Op.pick (Operand.tmp 129) (Operand.tmp 132) (Operand.const (Value.bool false)), type := 4, pos := "check.go:51", after := #[{ on := 22, ground := Ground.data }, { on := 25, ground := Ground.data }], guard := none }, { dst := some 4, op := Op.assign (Operand.tmp 133), type := 4, pos := "check.go:51", after := #[{ on := 26, ground := Ground.data }, { on := 25, ground := Ground.chain }, { on := 0, ground := Ground.phase }, { on := 1, ground := Ground.phase }, { on := 2, ground := Ground.phase }, { on := 3, ground := Ground.phase }, { on := 4, ground := Ground.phase }, { on := 5, ground := Ground.phase }, { on := 6, ground := Ground.phase }, { on := 7, ground := Ground.phase }, { on := 8, ground := Ground.phase }, { on := 9, ground := Ground.phase }, { on := 10, ground := Ground.phase }, { on := 11, ground := Ground.phase }, { on := 12, ground := Ground.phase }, { on := 13, ground := Ground.phase }, { on := 14, ground := Ground.phase }, { on := 15, ground := Ground.phase }, { on := 16, ground := Ground.phase }, { on := 17, ground := Ground.phase }, { on := 18, ground := Ground.phase }, { on := 19, ground := Ground.phase }, { on := 20, ground := Ground.phase }, { on := 21, ground := Ground.phase }, { on := 22, ground := Ground.phase }, { on := 23, ground := Ground.phase }, { on := 24, ground := Ground.phase }, { on := 25, ground := Ground.phase }, { on := 26, ground := Ground.phase }], guard := none }]
def m13fDep : Nat → List Nat := fun i => match i with | 1 => [0] | 2 => [1] | 3 => [2] | 5 => [4] | 6 => [3, 5] | 7 => [6] | 8 => [7] | 9 => [7, 8] | 10 => [7, 9] | 11 => [7, 10] | 12 => [7, 11] | 13 => [7, 12] | 14 => [13] | 15 => [13] | 16 => [13, 15] | 17 => [13, 16] | 18 => [13, 17] | 19 => [13, 14, 18] | 20 => [7, 13, 19] | 21 => [7, 20] | 22 => [21] | 23 => [22] | 24 => [22] | 25 => [22, 23, 24] | 26 => [22, 25] | 27 => [26] | _ => []
def m13fSl : List Nat := [107, 108, 109, 110, 111, 112, 113, 114, 115, 116, 117, 118, 119, 120, 121, 122, 123, 124, 125, 126, 127, 128, 129, 130, 131, 132, 133, 4]
def m13fVs (gp : Nat) (b1 : Nat) (o1 : Nat) (A : Option Addr) (n : Nat) (c : Nat) (sl : Int) (su : Int) (au : Int) (xa : Int) (xb : Int) : List (Option Value) := [some (.pointer (some ⟨b1, o1, none⟩)), some (.pointer (some ⟨b1, o1, none⟩)), some (.pointer (some ⟨b1, o1 + 1, none⟩)), some (.int .i64 xa), some (.pointer (some ⟨gp, 1, none⟩)), some (.int .i64 sl), some (.bool true), some (.bool true), some (.pointer (some ⟨b1, o1, none⟩)), some (.pointer (some ⟨b1, o1, none⟩)), some (.pointer (some ⟨b1, o1 + 2, none⟩)), some (.int .i64 xb), some (.bool false), some (.bool false), some (.agg #[.slice A n c, .int .i64 sl, .int .i64 su, .int .i64 au]), some (.pointer (some ⟨b1, o1, none⟩)), some (.pointer (some ⟨b1, o1, none⟩)), some (.pointer (some ⟨b1, o1 + 2, none⟩)), some (.int .i64 xb), some (.bool true), some (.bool true), some (.bool true), some (.bool true), some (.agg #[.slice A n c, .int .i64 sl, .int .i64 su, .int .i64 au]), some (.pointer (some ⟨b1, o1, none⟩)), some (.bool false), some (.bool false), some (.bool false)]
def m13fSp  (i : Nat) : Value → World → Prop := match i with  | _ => fun _ _ => True
theorem m13f_ks   : ∀ i v w w', m13fSp  i v w → Below w.heap.size w w' → m13fSp  i v w' := by
  intro i v w w' h hb
  unfold m13fSp at h ⊢
  split <;> first | trivial
theorem m13f_nd : m13fSl.Nodup := by decide
def m13fUs (f : Nat → Value) : List (Nat × Value) := [(107, f 107), (108, f 108), (109, f 109), (110, f 110), (111, f 111), (112, f 112), (113, f 113), (114, f 114), (115, f 115), (116, f 116), (117, f 117), (118, f 118), (119, f 119), (120, f 120), (121, f 121), (122, f 122), (123, f 123), (124, f 124), (125, f 125), (126, f 126), (127, f 127), (128, f 128), (129, f 129), (130, f 130), (131, f 131), (132, f 132), (133, f 133), (4, f 4)]
set_option maxRecDepth 20000 in
set_option maxHeartbeats 4000000 in
theorem m13f_reg {gp : Nat} {b1 : Nat} {o1 : Nat} {A : Option Addr} {n : Nat} {c : Nat} {sl : Int} {su : Int} {au : Int} {xa : Int} {xb : Int}  {W : World} {A0 : Act} {Q : Exit → Act → World → Prop} {id : Nat} (a1 : Act.at A0 1 = .pointer (some ⟨b1, o1, none⟩)) (a2 : Act.at A0 2 = .pointer (some ⟨gp, 0, none⟩)) (hsz : 143 ≤ A0.tmps.size)  (hKp : Blk W gp 24 [.slice A n c, .int .i64 sl, .int .i64 su, .int .i64 au])
    (HC : ∀ w, Below W.heap.size W w → w.cell? ⟨b1, o1 + 1, none⟩ = some (.int .i64 xa) ∧ w.cell? ⟨b1, o1 + 2, none⟩ = some (.int .i64 xb) ∧ w.cell? ⟨gp, 1, none⟩ = some (.int .i64 sl))
    (HA1 : ∀ w, Below W.heap.size W w → Calls Tryd.prog 33 #[.int .i64 xa, .int .i64 sl] w fun e w' => ∃ v, e = .returned v ∧ v = .bool true ∧ Below w.heap.size w w')
    (HE1 : ∀ w, (binOp .eql 3 (.int .i64 xb) (.int .i64 (-1))).run Tryd.prog w = .ok (.bool false) w)
    (HA2 : ∀ w, Below W.heap.size W w → Calls Tryd.prog 32 #[.agg #[.slice A n c, .int .i64 sl, .int .i64 su, .int .i64 au], .int .i64 xb] w fun e w' => ∃ v, e = .returned v ∧ v = .bool true ∧ Below w.heap.size w w')
    (HA3 : ∀ w, Below W.heap.size W w → Calls Tryd.prog 37 #[.agg #[.slice A n c, .int .i64 sl, .int .i64 su, .int .i64 au], .pointer (some ⟨b1, o1, none⟩)] w fun e w' => ∃ v, e = .returned v ∧ v = .bool false ∧ Below w.heap.size w w')
    (hk : ∀ (f : Nat → Value) w', f 4 = .bool false → Below W.heap.size W w' → Q .normal ⟨(m13fUs f).foldl (fun A p => A.setIfInBounds p.1 p.2) A0.tmps, A0.defers⟩ w') :
    (Code.region id m13fOps true).wp Tryd.prog Q A0 W := by
  refine wp_region_fun3 (by kernel_rfl) (fun L f w => FlatC W.drew m13fSl (m13fVs gp b1 o1 A n c sl su au xa xb) (m13fSp ) L f w) [107, 108, 109, 110, 111, 112, 113, 114, 115, 116, 117, 118, 119, 120, 121, 122, 123, 124, 125, 126, 127, 128, 129, 130, 131, 132, 133, 4] (fun i o ho => (wf_ops3 (ops := m13fOps) (by kernel_rfl)) i o ho) (fun i o ho u hu => ?_) ?_ ?_ ?_
  · have := ops_dst [107, 108, 109, 110, 111, 112, 113, 114, 115, 116, 117, 118, 119, 120, 121, 122, 123, 124, 125, 126, 127, 128, 129, 130, 131, 132, 133, 4] 143 (by kernel_rfl) i o ho u hu
    exact ⟨this.1, Nat.lt_of_lt_of_le this.2 hsz⟩
  · have hs : m13fOps.size = 28 := rfl
    rw [hs]
    exact FlatC.start rfl rfl
  · rintro L i o ho hLi haf b w hf hc K hK
    have hdep := ops_deps m13fDep (by kernel_rfl) ho haf
    clear haf
    have hbw : Below W.heap.size W w := ⟨hc.bel.os, hc.bel.tape, hc.bel.output, hc.bel.size, hc.bel.block⟩
    have hs : m13fOps.size = 28 := rfl
    have hlt : i < 28 := hs ▸ (Array.getElem?_eq_some_iff.1 ho).1
    have hcases : i = 0 ∨ i = 1 ∨ i = 2 ∨ i = 3 ∨ i = 4 ∨ i = 5 ∨ i = 6 ∨ i = 7 ∨ i = 8 ∨ i = 9 ∨ i = 10 ∨ i = 11 ∨ i = 12 ∨ i = 13 ∨ i = 14 ∨ i = 15 ∨ i = 16 ∨ i = 17 ∨ i = 18 ∨ i = 19 ∨ i = 20 ∨ i = 21 ∨ i = 22 ∨ i = 23 ∨ i = 24 ∨ i = 25 ∨ i = 26 ∨ i = 27 := by omega
    clear hlt
    rcases hcases with rfl | rfl | rfl | rfl | rfl | rfl | rfl | rfl | rfl | rfl | rfl | rfl | rfl | rfl | rfl | rfl | rfl | rfl | rfl | rfl | rfl | rfl | rfl | rfl | rfl | rfl | rfl | rfl
    · have h1 : (m13fOps[0]?).map (·.dst) = some (some 107) := by kernel_rfl
      have h2 : (m13fOps[0]?).map (·.op) = some (Op.move (Operand.tmp 1)) := by kernel_rfl
      have h3 : (m13fOps[0]?).map (·.guard) = some none := by kernel_rfl
      rw [ho] at h1 h2 h3
      replace h1 := Option.some.inj h1
      replace h2 := Option.some.inj h2
      replace h3 := Option.some.inj h3
      simp only at h1 h2 h3
      rw [h1] at hK
      refine ⟨fun _ => ?_, fun hw => by rw [wanted_none h3] at hw; cases hw⟩
      refine wp_moveG _ h2 _ ((hf 1 (by decide)).trans a1) ?_
      rw [h1]
      exact hK _ _ (FlatC.step m13f_nd (m13f_ks ) rfl hc 0 (by decide) (Below.refl _ _) (fun u hu => by injection hu with hu; injection hu) (trivial))
    · have h1 : (m13fOps[1]?).map (·.dst) = some (some 108) := by kernel_rfl
      have h2 : (m13fOps[1]?).map (·.op) = some (Op.nilCheck (Operand.tmp 107)) := by kernel_rfl
      have h3 : (m13fOps[1]?).map (·.guard) = some none := by kernel_rfl
      rw [ho] at h1 h2 h3
      replace h1 := Option.some.inj h1
      replace h2 := Option.some.inj h2
      replace h3 := Option.some.inj h3
      simp only at h1 h2 h3
      rw [h1] at hK
      have l0 : L 0 = true := hdep 0 (by simp [m13fDep])
      refine ⟨fun _ => ?_, fun hw => by rw [wanted_none h3] at hw; cases hw⟩
      refine wp_nilG _ h2 _ (show Act.at b 107 = .pointer (some ⟨b1, o1, none⟩) from hc.v 0 l0 _ rfl) ?_
      rw [h1]
      exact hK _ _ (FlatC.step m13f_nd (m13f_ks ) rfl hc 1 (by decide) (Below.refl _ _) (fun u hu => by injection hu with hu; injection hu) (trivial))
    · have h1 : (m13fOps[2]?).map (·.dst) = some (some 109) := by kernel_rfl
      have h2 : (m13fOps[2]?).map (·.op) = some (Op.fieldAddr 37 (Operand.tmp 108) 1) := by kernel_rfl
      have h3 : (m13fOps[2]?).map (·.guard) = some none := by kernel_rfl
      rw [ho] at h1 h2 h3
      replace h1 := Option.some.inj h1
      replace h2 := Option.some.inj h2
      replace h3 := Option.some.inj h3
      simp only at h1 h2 h3
      rw [h1] at hK
      have l1 : L 1 = true := hdep 1 (by simp [m13fDep])
      refine ⟨fun _ => ?_, fun hw => by rw [wanted_none h3] at hw; cases hw⟩
      refine wp_fieldG _ _ _ h2 _ _ (show Act.at b 108 = .pointer (some ⟨b1, o1, none⟩) from hc.v 1 l1 _ rfl) (fieldS1 b1 o1 w) ?_
      rw [h1]
      exact hK _ _ (FlatC.step m13f_nd (m13f_ks ) rfl hc 2 (by decide) (Below.refl _ _) (fun u hu => by injection hu with hu; injection hu) (trivial))
    · have h1 : (m13fOps[3]?).map (·.dst) = some (some 110) := by kernel_rfl
      have h2 : (m13fOps[3]?).map (·.op) = some (Op.load 3 (Operand.tmp 109)) := by kernel_rfl
      have h3 : (m13fOps[3]?).map (·.guard) = some none := by kernel_rfl
      rw [ho] at h1 h2 h3
      replace h1 := Option.some.inj h1
      replace h2 := Option.some.inj h2
      replace h3 := Option.some.inj h3
      simp only at h1 h2 h3
      rw [h1] at hK
      have l2 : L 2 = true := hdep 2 (by simp [m13fDep])
      refine ⟨fun _ => ?_, fun hw => by rw [wanted_none h3] at hw; cases hw⟩
      refine wp_loadG _ _ h2 _ _ (show Act.at b 109 = .pointer (some ⟨b1, o1 + 1, none⟩) from hc.v 2 l2 _ rfl) (load_iT (HC w hbw).1) ?_
      rw [h1]
      exact hK _ _ (FlatC.step m13f_nd (m13f_ks ) rfl hc 3 (by decide) (Below.refl _ _) (fun u hu => by injection hu with hu; injection hu) (trivial))
    · have h1 : (m13fOps[4]?).map (·.dst) = some (some 111) := by kernel_rfl
      have h2 : (m13fOps[4]?).map (·.op) = some (Op.fieldAddr 24 (Operand.tmp 2) 1) := by kernel_rfl
      have h3 : (m13fOps[4]?).map (·.guard) = some none := by kernel_rfl
      rw [ho] at h1 h2 h3
      replace h1 := Option.some.inj h1
      replace h2 := Option.some.inj h2
      replace h3 := Option.some.inj h3
      simp only at h1 h2 h3
      rw [h1] at hK
      refine ⟨fun _ => ?_, fun hw => by rw [wanted_none h3] at hw; cases hw⟩
      refine wp_fieldG _ _ _ h2 _ _ ((hf 2 (by decide)).trans a2) (fieldP1 gp w) ?_
      rw [h1]
      exact hK _ _ (FlatC.step m13f_nd (m13f_ks ) rfl hc 4 (by decide) (Below.refl _ _) (fun u hu => by injection hu with hu; injection hu) (trivial))
    · have h1 : (m13fOps[5]?).map (·.dst) = some (some 112) := by kernel_rfl
      have h2 : (m13fOps[5]?).map (·.op) = some (Op.load 3 (Operand.tmp 111)) := by kernel_rfl
      have h3 : (m13fOps[5]?).map (·.guard) = some none := by kernel_rfl
      rw [ho] at h1 h2 h3
      replace h1 := Option.some.inj h1
      replace h2 := Option.some.inj h2
      replace h3 := Option.some.inj h3
      simp only at h1 h2 h3
      rw [h1] at hK
      have l4 : L 4 = true := hdep 4 (by simp [m13fDep])
      refine ⟨fun _ => ?_, fun hw => by rw [wanted_none h3] at hw; cases hw⟩
      refine wp_loadG _ _ h2 _ _ (show Act.at b 111 = .pointer (some ⟨gp, 1, none⟩) from hc.v 4 l4 _ rfl) (load_iT (HC w hbw).2.2) ?_
      rw [h1]
      exact hK _ _ (FlatC.step m13f_nd (m13f_ks ) rfl hc 5 (by decide) (Below.refl _ _) (fun u hu => by injection hu with hu; injection hu) (trivial))
    · have h1 : (m13fOps[6]?).map (·.dst) = some (some 113) := by kernel_rfl
      have h2 : (m13fOps[6]?).map (·.op) = some (Op.call { callee := Callee.value (Operand.func 33), args := #[Operand.tmp 110, Operand.tmp 112], argTypes := #[3, 3] }) := by kernel_rfl
      have h3 : (m13fOps[6]?).map (·.guard) = some none := by kernel_rfl
      rw [ho] at h1 h2 h3
      replace h1 := Option.some.inj h1
      replace h2 := Option.some.inj h2
      replace h3 := Option.some.inj h3
      simp only at h1 h2 h3
      rw [h1] at hK
      have l3 : L 3 = true := hdep 3 (by simp [m13fDep])
      have l5 : L 5 = true := hdep 5 (by simp [m13fDep])
      refine ⟨fun _ => ?_, fun hw => by rw [wanted_none h3] at hw; cases hw⟩
      refine wp_callG 33 _ _ h2 (enters_of Tryd.func33 (by kernel_rfl) rfl) #[.int .i64 xa, .int .i64 sl] (by simp [show b.eval (.tmp 110) = _ from (show Act.at b 110 = .int .i64 xa from hc.v 3 l3 _ rfl), show b.eval (.tmp 112) = _ from (show Act.at b 112 = .int .i64 sl from hc.v 5 l5 _ rfl)]) _ (HA1 w hbw) ?_
      rintro v w2 ⟨rfl, hb2⟩
      rw [h1]
      exact hK _ _ (FlatC.step m13f_nd (m13f_ks ) rfl hc 6 (by decide) (hb2) (fun u hu => by injection hu with hu; injection hu) (trivial))
    · have h1 : (m13fOps[7]?).map (·.dst) = some (some 114) := by kernel_rfl
      have h2 : (m13fOps[7]?).map (·.op) = some (Op.move (Operand.tmp 113)) := by kernel_rfl
      have h3 : (m13fOps[7]?).map (·.guard) = some none := by kernel_rfl
      rw [ho] at h1 h2 h3
      replace h1 := Option.some.inj h1
      replace h2 := Option.some.inj h2
      replace h3 := Option.some.inj h3
      simp only at h1 h2 h3
      rw [h1] at hK
      have l6 : L 6 = true := hdep 6 (by simp [m13fDep])
      refine ⟨fun _ => ?_, fun hw => by rw [wanted_none h3] at hw; cases hw⟩
      refine wp_moveG _ h2 _ (show Act.at b 113 = .bool true from hc.v 6 l6 _ rfl) ?_
      rw [h1]
      exact hK _ _ (FlatC.step m13f_nd (m13f_ks ) rfl hc 7 (by decide) (Below.refl _ _) (fun u hu => by injection hu with hu; injection hu) (trivial))
    · have h1 : (m13fOps[8]?).map (·.dst) = some (some 115) := by kernel_rfl
      have h2 : (m13fOps[8]?).map (·.op) = some (Op.move (Operand.tmp 1)) := by kernel_rfl
      have h3 : (m13fOps[8]?).map (·.guard) = some (some (7, true)) := by kernel_rfl
      rw [ho] at h1 h2 h3
      replace h1 := Option.some.inj h1
      replace h2 := Option.some.inj h2
      replace h3 := Option.some.inj h3
      simp only at h1 h2 h3
      rw [h1] at hK
      have l7 : L 7 = true := hdep 7 (by simp [m13fDep])
      have hw := wanted_of (ops := m13fOps) (b := b) h3 (d := 114) (by kernel_rfl) (show Act.at b 114 = .bool true from hc.v 7 l7 _ rfl)
      rw [hw]
      refine ⟨fun _ => ?_, fun hq => absurd hq (by decide)⟩
      refine wp_moveG _ h2 _ ((hf 1 (by decide)).trans a1) ?_
      rw [h1]
      exact hK _ _ (FlatC.step m13f_nd (m13f_ks ) rfl hc 8 (by decide) (Below.refl _ _) (fun u hu => by injection hu with hu; injection hu) (trivial))
    · have h1 : (m13fOps[9]?).map (·.dst) = some (some 116) := by kernel_rfl
      have h2 : (m13fOps[9]?).map (·.op) = some (Op.nilCheck (Operand.tmp 115)) := by kernel_rfl
      have h3 : (m13fOps[9]?).map (·.guard) = some (some (7, true)) := by kernel_rfl
      rw [ho] at h1 h2 h3
      replace h1 := Option.some.inj h1
      replace h2 := Option.some.inj h2
      replace h3 := Option.some.inj h3
      simp only at h1 h2 h3
      rw [h1] at hK
      have l7 : L 7 = true := hdep 7 (by simp [m13fDep])
      have l8 : L 8 = true := hdep 8 (by simp [m13fDep])
      have hw := wanted_of (ops := m13fOps) (b := b) h3 (d := 114) (by kernel_rfl) (show Act.at b 114 = .bool true from hc.v 7 l7 _ rfl)
      rw [hw]
      refine ⟨fun _ => ?_, fun hq => absurd hq (by decide)⟩
      refine wp_nilG _ h2 _ (show Act.at b 115 = .pointer (some ⟨b1, o1, none⟩) from hc.v 8 l8 _ rfl) ?_
      rw [h1]
      exact hK _ _ (FlatC.step m13f_nd (m13f_ks ) rfl hc 9 (by decide) (Below.refl _ _) (fun u hu => by injection hu with hu; injection hu) (trivial))
    · have h1 : (m13fOps[10]?).map (·.dst) = some (some 117) := by kernel_rfl
      have h2 : (m13fOps[10]?).map (·.op) = some (Op.fieldAddr 37 (Operand.tmp 116) 2) := by kernel_rfl
      have h3 : (m13fOps[10]?).map (·.guard) = some (some (7, true)) := by kernel_rfl
      rw [ho] at h1 h2 h3
      replace h1 := Option.some.inj h1
      replace h2 := Option.some.inj h2
      replace h3 := Option.some.inj h3
      simp only at h1 h2 h3
      rw [h1] at hK
      have l7 : L 7 = true := hdep 7 (by simp [m13fDep])
      have l9 : L 9 = true := hdep 9 (by simp [m13fDep])
      have hw := wanted_of (ops := m13fOps) (b := b) h3 (d := 114) (by kernel_rfl) (show Act.at b 114 = .bool true from hc.v 7 l7 _ rfl)
      rw [hw]
      refine ⟨fun _ => ?_, fun hq => absurd hq (by decide)⟩
      refine wp_fieldG _ _ _ h2 _ _ (show Act.at b 116 = .pointer (some ⟨b1, o1, none⟩) from hc.v 9 l9 _ rfl) (fieldS2 b1 o1 w) ?_
      rw [h1]
      exact hK _ _ (FlatC.step m13f_nd (m13f_ks ) rfl hc 10 (by decide) (Below.refl _ _) (fun u hu => by injection hu with hu; injection hu) (trivial))
    · have h1 : (m13fOps[11]?).map (·.dst) = some (some 118) := by kernel_rfl
      have h2 : (m13fOps[11]?).map (·.op) = some (Op.load 3 (Operand.tmp 117)) := by kernel_rfl
      have h3 : (m13fOps[11]?).map (·.guard) = some (some (7, true)) := by kernel_rfl
      rw [ho] at h1 h2 h3
      replace h1 := Option.some.inj h1
      replace h2 := Option.some.inj h2
      replace h3 := Option.some.inj h3
      simp only at h1 h2 h3
      rw [h1] at hK
      have l7 : L 7 = true := hdep 7 (by simp [m13fDep])
      have l10 : L 10 = true := hdep 10 (by simp [m13fDep])
      have hw := wanted_of (ops := m13fOps) (b := b) h3 (d := 114) (by kernel_rfl) (show Act.at b 114 = .bool true from hc.v 7 l7 _ rfl)
      rw [hw]
      refine ⟨fun _ => ?_, fun hq => absurd hq (by decide)⟩
      refine wp_loadG _ _ h2 _ _ (show Act.at b 117 = .pointer (some ⟨b1, o1 + 2, none⟩) from hc.v 10 l10 _ rfl) (load_iT (HC w hbw).2.1) ?_
      rw [h1]
      exact hK _ _ (FlatC.step m13f_nd (m13f_ks ) rfl hc 11 (by decide) (Below.refl _ _) (fun u hu => by injection hu with hu; injection hu) (trivial))
    · have h1 : (m13fOps[12]?).map (·.dst) = some (some 119) := by kernel_rfl
      have h2 : (m13fOps[12]?).map (·.op) = some (Op.binOp BinOp.eql 3 (Operand.tmp 118) (Operand.const (Value.int IntKind.i64 (-1))) 3) := by kernel_rfl
      have h3 : (m13fOps[12]?).map (·.guard) = some (some (7, true)) := by kernel_rfl
      rw [ho] at h1 h2 h3
      replace h1 := Option.some.inj h1
      replace h2 := Option.some.inj h2
      replace h3 := Option.some.inj h3
      simp only at h1 h2 h3
      rw [h1] at hK
      have l7 : L 7 = true := hdep 7 (by simp [m13fDep])
      have l11 : L 11 = true := hdep 11 (by simp [m13fDep])
      have hw := wanted_of (ops := m13fOps) (b := b) h3 (d := 114) (by kernel_rfl) (show Act.at b 114 = .bool true from hc.v 7 l7 _ rfl)
      rw [hw]
      refine ⟨fun _ => ?_, fun hq => absurd hq (by decide)⟩
      refine wp_binG _ _ _ _ _ h2 _ _ (.bool false) (show Act.at b 118 = .int .i64 xb from hc.v 11 l11 _ rfl) rfl (by kernel_rfl) (HE1 _) ?_
      rw [h1]
      exact hK _ _ (FlatC.step m13f_nd (m13f_ks ) rfl hc 12 (by decide) (Below.refl _ _) (fun u hu => by injection hu with hu; injection hu) (trivial))
    · have h1 : (m13fOps[13]?).map (·.dst) = some (some 120) := by kernel_rfl
      have h2 : (m13fOps[13]?).map (·.op) = some (Op.move (Operand.tmp 119)) := by kernel_rfl
      have h3 : (m13fOps[13]?).map (·.guard) = some (some (7, true)) := by kernel_rfl
      rw [ho] at h1 h2 h3
      replace h1 := Option.some.inj h1
      replace h2 := Option.some.inj h2
      replace h3 := Option.some.inj h3
      simp only at h1 h2 h3
      rw [h1] at hK
      have l7 : L 7 = true := hdep 7 (by simp [m13fDep])
      have l12 : L 12 = true := hdep 12 (by simp [m13fDep])
      have hw := wanted_of (ops := m13fOps) (b := b) h3 (d := 114) (by kernel_rfl) (show Act.at b 114 = .bool true from hc.v 7 l7 _ rfl)
      rw [hw]
      refine ⟨fun _ => ?_, fun hq => absurd hq (by decide)⟩
      refine wp_moveG _ h2 _ (show Act.at b 119 = .bool false from hc.v 12 l12 _ rfl) ?_
      rw [h1]
      exact hK _ _ (FlatC.step m13f_nd (m13f_ks ) rfl hc 13 (by decide) (Below.refl _ _) (fun u hu => by injection hu with hu; injection hu) (trivial))
    · have h1 : (m13fOps[14]?).map (·.dst) = some (some 121) := by kernel_rfl
      have h2 : (m13fOps[14]?).map (·.op) = some (Op.load 24 (Operand.tmp 2)) := by kernel_rfl
      have h3 : (m13fOps[14]?).map (·.guard) = some (some (13, false)) := by kernel_rfl
      rw [ho] at h1 h2 h3
      replace h1 := Option.some.inj h1
      replace h2 := Option.some.inj h2
      replace h3 := Option.some.inj h3
      simp only at h1 h2 h3
      rw [h1] at hK
      have l13 : L 13 = true := hdep 13 (by simp [m13fDep])
      have hw := wanted_of (ops := m13fOps) (b := b) h3 (d := 120) (by kernel_rfl) (show Act.at b 120 = .bool false from hc.v 13 l13 _ rfl)
      rw [hw]
      refine ⟨fun _ => ?_, fun hq => absurd hq (by decide)⟩
      refine wp_load_row 24 (.tmp 2) h2 gp ((hf 2 (by decide)).trans a2) 24 #[.slice A n c, .int .i64 sl, .int .i64 su, .int .i64 au] (0, 0) _ ((hbw.block gp hKp.lt).trans hKp) Tryd.underlying24 rfl (by kernel_rfl) ?_
      rw [h1]
      exact hK _ _ (FlatC.step m13f_nd (m13f_ks ) rfl hc 14 (by decide) (Below.refl _ _) (fun u hu => by injection hu with hu; injection hu) (trivial))
    · have h1 : (m13fOps[15]?).map (·.dst) = some (some 122) := by kernel_rfl
      have h2 : (m13fOps[15]?).map (·.op) = some (Op.move (Operand.tmp 1)) := by kernel_rfl
      have h3 : (m13fOps[15]?).map (·.guard) = some (some (13, false)) := by kernel_rfl
      rw [ho] at h1 h2 h3
      replace h1 := Option.some.inj h1
      replace h2 := Option.some.inj h2
      replace h3 := Option.some.inj h3
      simp only at h1 h2 h3
      rw [h1] at hK
      have l13 : L 13 = true := hdep 13 (by simp [m13fDep])
      have hw := wanted_of (ops := m13fOps) (b := b) h3 (d := 120) (by kernel_rfl) (show Act.at b 120 = .bool false from hc.v 13 l13 _ rfl)
      rw [hw]
      refine ⟨fun _ => ?_, fun hq => absurd hq (by decide)⟩
      refine wp_moveG _ h2 _ ((hf 1 (by decide)).trans a1) ?_
      rw [h1]
      exact hK _ _ (FlatC.step m13f_nd (m13f_ks ) rfl hc 15 (by decide) (Below.refl _ _) (fun u hu => by injection hu with hu; injection hu) (trivial))
    · have h1 : (m13fOps[16]?).map (·.dst) = some (some 123) := by kernel_rfl
      have h2 : (m13fOps[16]?).map (·.op) = some (Op.nilCheck (Operand.tmp 122)) := by kernel_rfl
      have h3 : (m13fOps[16]?).map (·.guard) = some (some (13, false)) := by kernel_rfl
      rw [ho] at h1 h2 h3
      replace h1 := Option.some.inj h1
      replace h2 := Option.some.inj h2
      replace h3 := Option.some.inj h3
      simp only at h1 h2 h3
      rw [h1] at hK
      have l13 : L 13 = true := hdep 13 (by simp [m13fDep])
      have l15 : L 15 = true := hdep 15 (by simp [m13fDep])
      have hw := wanted_of (ops := m13fOps) (b := b) h3 (d := 120) (by kernel_rfl) (show Act.at b 120 = .bool false from hc.v 13 l13 _ rfl)
      rw [hw]
      refine ⟨fun _ => ?_, fun hq => absurd hq (by decide)⟩
      refine wp_nilG _ h2 _ (show Act.at b 122 = .pointer (some ⟨b1, o1, none⟩) from hc.v 15 l15 _ rfl) ?_
      rw [h1]
      exact hK _ _ (FlatC.step m13f_nd (m13f_ks ) rfl hc 16 (by decide) (Below.refl _ _) (fun u hu => by injection hu with hu; injection hu) (trivial))
    · have h1 : (m13fOps[17]?).map (·.dst) = some (some 124) := by kernel_rfl
      have h2 : (m13fOps[17]?).map (·.op) = some (Op.fieldAddr 37 (Operand.tmp 123) 2) := by kernel_rfl
      have h3 : (m13fOps[17]?).map (·.guard) = some (some (13, false)) := by kernel_rfl
      rw [ho] at h1 h2 h3
      replace h1 := Option.some.inj h1
      replace h2 := Option.some.inj h2
      replace h3 := Option.some.inj h3
      simp only at h1 h2 h3
      rw [h1] at hK
      have l13 : L 13 = true := hdep 13 (by simp [m13fDep])
      have l16 : L 16 = true := hdep 16 (by simp [m13fDep])
      have hw := wanted_of (ops := m13fOps) (b := b) h3 (d := 120) (by kernel_rfl) (show Act.at b 120 = .bool false from hc.v 13 l13 _ rfl)
      rw [hw]
      refine ⟨fun _ => ?_, fun hq => absurd hq (by decide)⟩
      refine wp_fieldG _ _ _ h2 _ _ (show Act.at b 123 = .pointer (some ⟨b1, o1, none⟩) from hc.v 16 l16 _ rfl) (fieldS2 b1 o1 w) ?_
      rw [h1]
      exact hK _ _ (FlatC.step m13f_nd (m13f_ks ) rfl hc 17 (by decide) (Below.refl _ _) (fun u hu => by injection hu with hu; injection hu) (trivial))
    · have h1 : (m13fOps[18]?).map (·.dst) = some (some 125) := by kernel_rfl
      have h2 : (m13fOps[18]?).map (·.op) = some (Op.load 3 (Operand.tmp 124)) := by kernel_rfl
      have h3 : (m13fOps[18]?).map (·.guard) = some (some (13, false)) := by kernel_rfl
      rw [ho] at h1 h2 h3
      replace h1 := Option.some.inj h1
      replace h2 := Option.some.inj h2
      replace h3 := Option.some.inj h3
      simp only at h1 h2 h3
      rw [h1] at hK
      have l13 : L 13 = true := hdep 13 (by simp [m13fDep])
      have l17 : L 17 = true := hdep 17 (by simp [m13fDep])
      have hw := wanted_of (ops := m13fOps) (b := b) h3 (d := 120) (by kernel_rfl) (show Act.at b 120 = .bool false from hc.v 13 l13 _ rfl)
      rw [hw]
      refine ⟨fun _ => ?_, fun hq => absurd hq (by decide)⟩
      refine wp_loadG _ _ h2 _ _ (show Act.at b 124 = .pointer (some ⟨b1, o1 + 2, none⟩) from hc.v 17 l17 _ rfl) (load_iT (HC w hbw).2.1) ?_
      rw [h1]
      exact hK _ _ (FlatC.step m13f_nd (m13f_ks ) rfl hc 18 (by decide) (Below.refl _ _) (fun u hu => by injection hu with hu; injection hu) (trivial))
    · have h1 : (m13fOps[19]?).map (·.dst) = some (some 126) := by kernel_rfl
      have h2 : (m13fOps[19]?).map (·.op) = some (Op.call { callee := Callee.value (Operand.func 32), args := #[Operand.tmp 121, Operand.tmp 125], argTypes := #[24, 3] }) := by kernel_rfl
      have h3 : (m13fOps[19]?).map (·.guard) = some (some (13, false)) := by kernel_rfl
      rw [ho] at h1 h2 h3
      replace h1 := Option.some.inj h1
      replace h2 := Option.some.inj h2
      replace h3 := Option.some.inj h3
      simp only at h1 h2 h3
      rw [h1] at hK
      have l13 : L 13 = true := hdep 13 (by simp [m13fDep])
      have l14 : L 14 = true := hdep 14 (by simp [m13fDep])
      have l18 : L 18 = true := hdep 18 (by simp [m13fDep])
      have hw := wanted_of (ops := m13fOps) (b := b) h3 (d := 120) (by kernel_rfl) (show Act.at b 120 = .bool false from hc.v 13 l13 _ rfl)
      rw [hw]
      refine ⟨fun _ => ?_, fun hq => absurd hq (by decide)⟩
      refine wp_callG 32 _ _ h2 (enters_of Tryd.func32 (by kernel_rfl) rfl) #[.agg #[.slice A n c, .int .i64 sl, .int .i64 su, .int .i64 au], .int .i64 xb] (by simp [show b.eval (.tmp 121) = _ from (show Act.at b 121 = .agg #[.slice A n c, .int .i64 sl, .int .i64 su, .int .i64 au] from hc.v 14 l14 _ rfl), show b.eval (.tmp 125) = _ from (show Act.at b 125 = .int .i64 xb from hc.v 18 l18 _ rfl)]) _ (HA2 w hbw) ?_
      rintro v w2 ⟨rfl, hb2⟩
      rw [h1]
      exact hK _ _ (FlatC.step m13f_nd (m13f_ks ) rfl hc 19 (by decide) (hb2) (fun u hu => by injection hu with hu; injection hu) (trivial))
    · have h1 : (m13fOps[20]?).map (·.dst) = some (some 127) := by kernel_rfl
      have h2 : (m13fOps[20]?).map (·.op) = some (Op.pick (Operand.tmp 120) (Operand.const (Value.bool true)) (Operand.tmp 126)) := by kernel_rfl
      have h3 : (m13fOps[20]?).map (·.guard) = some (some (7, true)) := by kernel_rfl
      rw [ho] at h1 h2 h3
      replace h1 := Option.some.inj h1
      replace h2 := Option.some.inj h2
      replace h3 := Option.some.inj h3
      simp only at h1 h2 h3
      rw [h1] at hK
      have l7 : L 7 = true := hdep 7 (by simp [m13fDep])
      have l13 : L 13 = true := hdep 13 (by simp [m13fDep])
      have l19 : L 19 = true := hdep 19 (by simp [m13fDep])
      have hw := wanted_of (ops := m13fOps) (b := b) h3 (d := 114) (by kernel_rfl) (show Act.at b 114 = .bool true from hc.v 7 l7 _ rfl)
      rw [hw]
      refine ⟨fun _ => ?_, fun hq => absurd hq (by decide)⟩
      refine wp_pickG _ _ _ h2 false (show Act.at b 120 = .bool false from hc.v 13 l13 _ rfl) _ (if_neg (by decide) |>.trans (show Act.at b 126 = .bool true from hc.v 19 l19 _ rfl)) ?_
      rw [h1]
      exact hK _ _ (FlatC.step m13f_nd (m13f_ks ) rfl hc 20 (by decide) (Below.refl _ _) (fun u hu => by injection hu with hu; injection hu) (trivial))
    · have h1 : (m13fOps[21]?).map (·.dst) = some (some 128) := by kernel_rfl
      have h2 : (m13fOps[21]?).map (·.op) = some (Op.pick (Operand.tmp 114) (Operand.tmp 127) (Operand.const (Value.bool false))) := by kernel_rfl
      have h3 : (m13fOps[21]?).map (·.guard) = some none := by kernel_rfl
      rw [ho] at h1 h2 h3
      replace h1 := Option.some.inj h1
      replace h2 := Option.some.inj h2
      replace h3 := Option.some.inj h3
      simp only at h1 h2 h3
      rw [h1] at hK
      have l7 : L 7 = true := hdep 7 (by simp [m13fDep])
      have l20 : L 20 = true := hdep 20 (by simp [m13fDep])
      refine ⟨fun _ => ?_, fun hw => by rw [wanted_none h3] at hw; cases hw⟩
      refine wp_pickG _ _ _ h2 true (show Act.at b 114 = .bool true from hc.v 7 l7 _ rfl) _ (if_pos rfl |>.trans (show Act.at b 127 = .bool true from hc.v 20 l20 _ rfl)) ?_
      rw [h1]
      exact hK _ _ (FlatC.step m13f_nd (m13f_ks ) rfl hc 21 (by decide) (Below.refl _ _) (fun u hu => by injection hu with hu; injection hu) (trivial))
    · have h1 : (m13fOps[22]?).map (·.dst) = some (some 129) := by kernel_rfl
      have h2 : (m13fOps[22]?).map (·.op) = some (Op.move (Operand.tmp 128)) := by kernel_rfl
      have h3 : (m13fOps[22]?).map (·.guard) = some none := by kernel_rfl
      rw [ho] at h1 h2 h3
      replace h1 := Option.some.inj h1
      replace h2 := Option.some.inj h2
      replace h3 := Option.some.inj h3
      simp only at h1 h2 h3
      rw [h1] at hK
      have l21 : L 21 = true := hdep 21 (by simp [m13fDep])
      refine ⟨fun _ => ?_, fun hw => by rw [wanted_none h3] at hw; cases hw⟩
      refine wp_moveG _ h2 _ (show Act.at b 128 = .bool true from hc.v 21 l21 _ rfl) ?_
      rw [h1]
      exact hK _ _ (FlatC.step m13f_nd (m13f_ks ) rfl hc 22 (by decide) (Below.refl _ _) (fun u hu => by injection hu with hu; injection hu) (trivial))
    · have h1 : (m13fOps[23]?).map (·.dst) = some (some 130) := by kernel_rfl
      have h2 : (m13fOps[23]?).map (·.op) = some (Op.load 24 (Operand.tmp 2)) := by kernel_rfl
      have h3 : (m13fOps[23]?).map (·.guard) = some (some (22, true)) := by kernel_rfl
      rw [ho] at h1 h2 h3
      replace h1 := Option.some.inj h1
      replace h2 := Option.some.inj h2
      replace h3 := Option.some.inj h3
      simp only at h1 h2 h3
      rw [h1] at hK
      have l22 : L 22 = true := hdep 22 (by simp [m13fDep])
      have hw := wanted_of (ops := m13fOps) (b := b) h3 (d := 129) (by kernel_rfl) (show Act.at b 129 = .bool true from hc.v 22 l22 _ rfl)
      rw [hw]
      refine ⟨fun _ => ?_, fun hq => absurd hq (by decide)⟩
      refine wp_load_row 24 (.tmp 2) h2 gp ((hf 2 (by decide)).trans a2) 24 #[.slice A n c, .int .i64 sl, .int .i64 su, .int .i64 au] (0, 0) _ ((hbw.block gp hKp.lt).trans hKp) Tryd.underlying24 rfl (by kernel_rfl) ?_
      rw [h1]
      exact hK _ _ (FlatC.step m13f_nd (m13f_ks ) rfl hc 23 (by decide) (Below.refl _ _) (fun u hu => by injection hu with hu; injection hu) (trivial))
    · have h1 : (m13fOps[24]?).map (·.dst) = some (some 131) := by kernel_rfl
      have h2 : (m13fOps[24]?).map (·.op) = some (Op.move (Operand.tmp 1)) := by kernel_rfl
      have h3 : (m13fOps[24]?).map (·.guard) = some (some (22, true)) := by kernel_rfl
      rw [ho] at h1 h2 h3
      replace h1 := Option.some.inj h1
      replace h2 := Option.some.inj h2
      replace h3 := Option.some.inj h3
      simp only at h1 h2 h3
      rw [h1] at hK
      have l22 : L 22 = true := hdep 22 (by simp [m13fDep])
      have hw := wanted_of (ops := m13fOps) (b := b) h3 (d := 129) (by kernel_rfl) (show Act.at b 129 = .bool true from hc.v 22 l22 _ rfl)
      rw [hw]
      refine ⟨fun _ => ?_, fun hq => absurd hq (by decide)⟩
      refine wp_moveG _ h2 _ ((hf 1 (by decide)).trans a1) ?_
      rw [h1]
      exact hK _ _ (FlatC.step m13f_nd (m13f_ks ) rfl hc 24 (by decide) (Below.refl _ _) (fun u hu => by injection hu with hu; injection hu) (trivial))
    · have h1 : (m13fOps[25]?).map (·.dst) = some (some 132) := by kernel_rfl
      have h2 : (m13fOps[25]?).map (·.op) = some (Op.call { callee := Callee.value (Operand.func 37), args := #[Operand.tmp 130, Operand.tmp 131], argTypes := #[24, 57] }) := by kernel_rfl
      have h3 : (m13fOps[25]?).map (·.guard) = some (some (22, true)) := by kernel_rfl
      rw [ho] at h1 h2 h3
      replace h1 := Option.some.inj h1
      replace h2 := Option.some.inj h2
      replace h3 := Option.some.inj h3
      simp only at h1 h2 h3
      rw [h1] at hK
      have l22 : L 22 = true := hdep 22 (by simp [m13fDep])
      have l23 : L 23 = true := hdep 23 (by simp [m13fDep])
      have l24 : L 24 = true := hdep 24 (by simp [m13fDep])
      have hw := wanted_of (ops := m13fOps) (b := b) h3 (d := 129) (by kernel_rfl) (show Act.at b 129 = .bool true from hc.v 22 l22 _ rfl)
      rw [hw]
      refine ⟨fun _ => ?_, fun hq => absurd hq (by decide)⟩
      refine wp_callG 37 _ _ h2 (enters_of Tryd.func37 (by kernel_rfl) rfl) #[.agg #[.slice A n c, .int .i64 sl, .int .i64 su, .int .i64 au], .pointer (some ⟨b1, o1, none⟩)] (by simp [show b.eval (.tmp 130) = _ from (show Act.at b 130 = .agg #[.slice A n c, .int .i64 sl, .int .i64 su, .int .i64 au] from hc.v 23 l23 _ rfl), show b.eval (.tmp 131) = _ from (show Act.at b 131 = .pointer (some ⟨b1, o1, none⟩) from hc.v 24 l24 _ rfl)]) _ (HA3 w hbw) ?_
      rintro v w2 ⟨rfl, hb2⟩
      rw [h1]
      exact hK _ _ (FlatC.step m13f_nd (m13f_ks ) rfl hc 25 (by decide) (hb2) (fun u hu => by injection hu with hu; injection hu) (trivial))
    · have h1 : (m13fOps[26]?).map (·.dst) = some (some 133) := by kernel_rfl
      have h2 : (m13fOps[26]?).map (·.op) = some (Op.pick (Operand.tmp 129) (Operand.tmp 132) (Operand.const (Value.bool false))) := by kernel_rfl
      have h3 : (m13fOps[26]?).map (·.guard) = some none := by kernel_rfl
      rw [ho] at h1 h2 h3
      replace h1 := Option.some.inj h1
      replace h2 := Option.some.inj h2
      replace h3 := Option.some.inj h3
      simp only at h1 h2 h3
      rw [h1] at hK
      have l22 : L 22 = true := hdep 22 (by simp [m13fDep])
      have l25 : L 25 = true := hdep 25 (by simp [m13fDep])
      refine ⟨fun _ => ?_, fun hw => by rw [wanted_none h3] at hw; cases hw⟩
      refine wp_pickG _ _ _ h2 true (show Act.at b 129 = .bool true from hc.v 22 l22 _ rfl) _ (if_pos rfl |>.trans (show Act.at b 132 = .bool false from hc.v 25 l25 _ rfl)) ?_
      rw [h1]
      exact hK _ _ (FlatC.step m13f_nd (m13f_ks ) rfl hc 26 (by decide) (Below.refl _ _) (fun u hu => by injection hu with hu; injection hu) (trivial))
    · have h1 : (m13fOps[27]?).map (·.dst) = some (some 4) := by kernel_rfl
      have h2 : (m13fOps[27]?).map (·.op) = some (Op.assign (Operand.tmp 133)) := by kernel_rfl
      have h3 : (m13fOps[27]?).map (·.guard) = some none := by kernel_rfl
      rw [ho] at h1 h2 h3
      replace h1 := Option.some.inj h1
      replace h2 := Option.some.inj h2
      replace h3 := Option.some.inj h3
      simp only at h1 h2 h3
      rw [h1] at hK
      have l26 : L 26 = true := hdep 26 (by simp [m13fDep])
      refine ⟨fun _ => ?_, fun hw => by rw [wanted_none h3] at hw; cases hw⟩
      refine wp_assignG _ h2 _ (show Act.at b 133 = .bool false from hc.v 26 l26 _ rfl) ?_
      rw [h1]
      exact hK _ _ (FlatC.step m13f_nd (m13f_ks ) rfl hc 27 (by decide) (Below.refl _ _) (fun u hu => by injection hu with hu; injection hu) (trivial))
  · rintro L b w hL hd hs hf hc
    have hsz2 : m13fOps.size = 28 := rfl
    rw [hsz2] at hL
    have e := act_eq (a := A0) (b := b) (m13fUs (Act.at b)) hd hs hf (by
      intro p hp
      simp only [m13fUs, List.mem_cons, List.not_mem_nil, or_false] at hp
      rcases hp with rfl | rfl | rfl | rfl | rfl | rfl | rfl | rfl | rfl | rfl | rfl | rfl | rfl | rfl | rfl | rfl | rfl | rfl | rfl | rfl | rfl | rfl | rfl | rfl | rfl | rfl | rfl | rfl <;> rfl) (by rw [show (m13fUs (Act.at b)).map (·.1) = [107, 108, 109, 110, 111, 112, 113, 114, 115, 116, 117, 118, 119, 120, 121, 122, 123, 124, 125, 126, 127, 128, 129, 130, 131, 132, 133, 4] from rfl]; decide)
    rw [e]
    exact hk (Act.at b) w (hc.v 27 (hL 27 (by omega)) _ rfl) ⟨hc.bel.os, hc.bel.tape, hc.bel.output, hc.bel.size, hc.bel.block⟩
end Go.Proofs.YtpbkdokhlimpfaaDoor
