/- nfa: NfaGreat's maths. -/
import Derived.Test.YtimffgmbchpfeaaNfK
import Derived.Test.YtimffgmbchpfeaaNfY
import Derived.Test.YtimffgmbchpfeaaInv
import Derived.Test.YtimffgmbchpfeaaNfV
import Derived.Test.YtimffgmbchpfeaaRowQ
namespace Go.Proofs.Ytimffgmbchpfeaa
set_option linter.unusedSimpArgs false
set_option linter.unusedVariables false

/-- An expression, so many times. -/
def repT (t : RT) (n : Nat) : RT := .nd 5 (0#256) [t] (n : Int) (n : Int)
theorem autE_len {t : RT} (h : wgT t = 0) : (autE t).length = 1 + cnT t := by
  have := (put_ok t h [[]] 0 (by simp)).1
  unfold autE
  rw [this]
  rfl
theorem rep_cn (t : RT) (n : Nat) : cnT (repT t n) = 1 + n * cnT t := by
  unfold repT
  rw [cnT, if_neg (by decide), if_neg (by decide), if_neg (by decide), if_pos rfl, if_neg (by omega), cnL, cnL]
  simp
theorem rep_wg {t : RT} {n : Nat} (h : wgT t = 0) (hn : n ≤ 256) : wgT (repT t n) = 0 := by
  have hc : ck1 (repT t n) = 0 := by
    show ckF 5 (0#256) 1 (n : Int) (n : Int) = 0
    unfold ckF
    have hf : fmB 5 1 = true := by decide
    rw [if_pos hf, if_neg (by decide), if_pos rfl, if_neg (by omega)]
  unfold repT at hc ⊢
  rw [wgT, if_neg (by rw [hc]; decide), wgL, h, if_neg (by decide), wgL]
theorem rep_ad {t : RT} {n : Nat} (h : wgT t = 0) (hn : n ≤ 256) : adT (repT t n) = min (1 + n * cnT t) 4096 := by rw [ad_cn _ (rep_wg h hn), rep_cn]
theorem great_prod (n c : Nat) : (n + 1) * (1 + c + 1) = n * c + 2 * n + c + 2 := by
  rw [Nat.add_mul, Nat.mul_add, Nat.mul_add]
  omega
/-- Too many states: more than are told. -/
theorem great_no {t : RT} {n : Nat} (h : wgT t = 0) (hn : n ≤ 256) (h2 : 4096 < 1 + adT (repT t n)) : 4096 < (n + 1) * ((autE t).length + 1) := by
  rw [autE_len h, great_prod]
  rw [rep_ad h hn] at h2
  generalize n * cnT t = q at *
  omega
theorem great_yes {t : RT} {n : Nat} (h : wgT t = 0) (hn : n ≤ 256) : (autE (repT t n)).length ≤ (n + 1) * ((autE t).length + 1) := by
  rw [autE_len h, autE_len (rep_wg h hn), rep_cn, great_prod]
  generalize n * cnT t = q at *
  omega
end Go.Proofs.Ytimffgmbchpfeaa

/- nfa: NfaGreat, walked. -/
namespace Go.Proofs.Ytimffgmbchpfeaa
set_option linter.unusedSimpArgs false
set_option linter.unusedVariables false
open Go.RowKit

def gr12Ops : Array Oper := #[{ dst := some 58, op := Op.move (Operand.tmp 9), type := 34, pos := "law.go:132", after := #[], guard := none }, { dst := some 59, op := Op.binOp BinOp.eql 34 (Operand.tmp 58) (Operand.const (Value.int IntKind.i64 0)) 34, type := 4, pos := "law.go:132", after := #[{ on := 0, ground := Ground.data }], guard := none }, { dst := some 60, op := Op.move (Operand.tmp 59), type := 4, pos := "law.go:132", after := #[{ on := 1, ground := Ground.data }], guard := none }, { dst := some 61, op := Op.load 33 (Operand.tmp 8), type := 33, pos := "law.go:132", after := #[{ on := 2, ground := Ground.guard }], guard := some (2, true) }, { dst := some 62, op := Op.call { callee := Callee.value (Operand.func 14), args := #[Operand.tmp 61], argTypes := #[33] }, type := 3, pos := "law.go:132", after := #[{ on := 3, ground := Ground.data }, { on := 2, ground := Ground.chain }, { on := 2, ground := Ground.guard }], guard := some (2, true) }, { dst := some 63, op := Op.move (Operand.tmp 1), type := 3, pos := "law.go:132", after := #[{ on := 2, ground := Ground.guard }], guard := some (2, true) }, { dst := some 64, op := Op.binOp BinOp.add 3 (Operand.tmp 63) (Operand.const (Value.int IntKind.i64 1)) 3, type := 3, pos := "law.go:132", after := #[{ on := 5, ground := Ground.data }, { on := 2, ground := Ground.guard }], guard := some (2, true) }, { dst := some 65, op := Op.load 33 (Operand.tmp 6), type := 33, pos := "law.go:132", after := #[{ on := 2, ground := Ground.guard }], guard := some (2, true) }, { dst := some 66, op := Op.call { callee := Callee.value (Operand.func 14), args := #[Operand.tmp 65], argTypes := #[33] }, type := 3, pos := "law.go:132", after := #[{ on := 7, ground := Ground.data }, { on := 4, ground := Ground.chain }, { on := 2, ground := Ground.guard }], guard := some (2, true) }, { dst := some 67, op := Op.binOp BinOp.add 3 (Operand.tmp 66) (Operand.const (Value.int IntKind.i64 1)) 3, type := 3, pos := "law.go:132", after := #[{ on := 8, ground := Ground.data }, { on := 2, ground := Ground.guard }], guard := some (2, true) }, { dst := some 68, op := Op.binOp BinOp.mul 3 (Operand.tmp 64) (Operand.tmp 67) 3, type := 3, pos := "law.go:132", after := #[{ on := 6, ground := Ground.data }, { on := 9, ground := Ground.data }, { on := 2, ground := Ground.guard }], guard := some (2, true) }, { dst := some 69, op := Op.binOp BinOp.leq 3 (Operand.tmp 62) (Operand.tmp 68) 3, type := 4, pos := "law.go:132", after := #[{ on := 4, ground := Ground.data }, { on := 10, ground := Ground.data }, { on := 2, ground := Ground.guard }], guard := some (2, true) }, { dst := some 70, op := Op.pick (Operand.tmp 60) (Operand.tmp 69) (Operand.const (Value.bool false)), type := 4, pos := "law.go:132", after := #[{ on := 2, ground := Ground.data }, { on := 11, ground := Ground.data }], guard := none }, { dst := some 4, op := Op.assign (Operand.tmp 70), type := 4, pos := "law.go:132", after := #[{ on := 12, ground := Ground.data }, { on := 8, ground := Ground.chain }, { on := 0, ground := Ground.phase }, { on := 1, ground := Ground.phase }, { on := 2, ground := Ground.phase }, { on := 3, ground := Ground.phase }, { on := 4, ground := Ground.phase }, { on := 5, ground := Ground.phase }, { on := 6, ground := Ground.phase }, { on := 7, ground := Ground.phase }, { on := 8, ground := Ground.phase }, { on := 9, ground := Ground.phase }, { on := 10, ground := Ground.phase }, { on := 11, ground := Ground.phase }, { on := 12, ground := Ground.phase }], guard := none }]
def gr12Dep : Nat → List Nat := fun i => match i with | 1 => [0] | 2 => [1] | 3 => [2] | 4 => [2, 3] | 5 => [2] | 6 => [2, 5] | 7 => [2] | 8 => [2, 7] | 9 => [2, 8] | 10 => [2, 6, 9] | 11 => [2, 4, 10] | 12 => [2, 11] | 13 => [12] | _ => []
def gr12Sl : List Nat := [58, 59, 60, 61, 62, 63, 64, 65, 66, 67, 68, 69, 70, 4]
def gr12Vs (g6 : Nat) (g9 : Nat) (n : Nat) (M : Nat) (L1 : Nat) (pr : Nat) (A1 : Option Addr) (A2 : Option Addr) (c1 : Nat) (c2 : Nat) (q1 : Int) (q2 : Int) : List (Option Value) := [some (.int .i64 0), some (.bool true), some (.bool true), some (.agg #[.slice A2 M c2, .int .i64 q2]), some (.int .i64 (M : Int)), some (.int .i64 (n : Int)), some (.int .i64 ((n : Int) + 1)), some (.agg #[.slice A1 L1 c1, .int .i64 q1]), some (.int .i64 (L1 : Int)), some (.int .i64 ((L1 : Int) + 1)), some (.int .i64 (pr : Int)), some (.bool true), some (.bool true), some (.bool true)]
def gr12Sp  (i : Nat) : Value → World → Prop := match i with  | _ => fun _ _ => True
theorem gr12_ks   : ∀ i v w w', gr12Sp  i v w → Below w.heap.size w w' → gr12Sp  i v w' := by
  intro i v w w' h hb
  unfold gr12Sp at h ⊢
  split <;> first | trivial
theorem gr12_nd : gr12Sl.Nodup := by decide
def gr12Us (f : Nat → Value) : List (Nat × Value) := [(58, f 58), (59, f 59), (60, f 60), (61, f 61), (62, f 62), (63, f 63), (64, f 64), (65, f 65), (66, f 66), (67, f 67), (68, f 68), (69, f 69), (70, f 70), (4, f 4)]
set_option maxRecDepth 20000 in
set_option maxHeartbeats 4000000 in
theorem gr12_reg {g6 : Nat} {g9 : Nat} {n : Nat} {M : Nat} {L1 : Nat} {pr : Nat} {A1 : Option Addr} {A2 : Option Addr} {c1 : Nat} {c2 : Nat} {q1 : Int} {q2 : Int}  {W : World} {A0 : Act} {Q : Exit → Act → World → Prop} {id : Nat} (a1 : Act.at A0 1 = .int .i64 (n : Int)) (a6 : Act.at A0 6 = .pointer (some ⟨g6, 0, none⟩)) (a8 : Act.at A0 8 = .pointer (some ⟨g9, 0, none⟩)) (a9 : Act.at A0 9 = .int .i64 0) (hsz : 71 ≤ A0.tmps.size)  (hG6 : Blk W g6 33 [.slice A1 L1 c1, .int .i64 q1]) (hG9 : Blk W g9 33 [.slice A2 M c2, .int .i64 q2]) (HC1 : ∀ w, Calls Try.prog 14 #[.agg #[.slice A1 L1 c1, .int .i64 q1]] w fun e w' => ∃ v, e = .returned v ∧ v = .int .i64 (L1 : Int) ∧ Below w.heap.size w w') (HC2 : ∀ w, Calls Try.prog 14 #[.agg #[.slice A2 M c2, .int .i64 q2]] w fun e w' => ∃ v, e = .returned v ∧ v = .int .i64 (M : Int) ∧ Below w.heap.size w w')
    (HA1 : ∀ w, (binOp .add 3 (.int .i64 (n : Int)) (.int .i64 1)).run Try.prog w = .ok (.int .i64 ((n : Int) + 1)) w) (HA2 : ∀ w, (binOp .add 3 (.int .i64 (L1 : Int)) (.int .i64 1)).run Try.prog w = .ok (.int .i64 ((L1 : Int) + 1)) w) (HMu : ∀ w, (binOp .mul 3 (.int .i64 ((n : Int) + 1)) (.int .i64 ((L1 : Int) + 1))).run Try.prog w = .ok (.int .i64 (pr : Int)) w) (HLe : ∀ w, (binOp .leq 3 (.int .i64 (M : Int)) (.int .i64 (pr : Int))).run Try.prog w = .ok (.bool true) w)
    (hk : ∀ (f : Nat → Value) w', f 4 = .bool true → Below W.heap.size W w' → Q .normal ⟨(gr12Us f).foldl (fun A p => A.setIfInBounds p.1 p.2) A0.tmps, A0.defers⟩ w') :
    (Code.region id gr12Ops true).wp Try.prog Q A0 W := by
  refine wp_region_fun3 (by kernel_rfl) (fun L f w => FlatC W.drew gr12Sl (gr12Vs g6 g9 n M L1 pr A1 A2 c1 c2 q1 q2) (gr12Sp ) L f w) [58, 59, 60, 61, 62, 63, 64, 65, 66, 67, 68, 69, 70, 4] (fun i o ho => (wf_ops3 (ops := gr12Ops) (by kernel_rfl)) i o ho) (fun i o ho u hu => ?_) ?_ ?_ ?_
  · have := ops_dst [58, 59, 60, 61, 62, 63, 64, 65, 66, 67, 68, 69, 70, 4] 71 (by kernel_rfl) i o ho u hu
    exact ⟨this.1, Nat.lt_of_lt_of_le this.2 hsz⟩
  · have hs : gr12Ops.size = 14 := rfl
    rw [hs]
    exact FlatC.start rfl rfl
  · rintro L i o ho hLi haf b w hf hc K hK
    have hdep := ops_deps gr12Dep (by kernel_rfl) ho haf
    clear haf
    have hbw : Below W.heap.size W w := ⟨hc.bel.os, hc.bel.tape, hc.bel.output, hc.bel.size, hc.bel.block⟩
    have hs : gr12Ops.size = 14 := rfl
    have hlt : i < 14 := hs ▸ (Array.getElem?_eq_some_iff.1 ho).1
    have hcases : i = 0 ∨ i = 1 ∨ i = 2 ∨ i = 3 ∨ i = 4 ∨ i = 5 ∨ i = 6 ∨ i = 7 ∨ i = 8 ∨ i = 9 ∨ i = 10 ∨ i = 11 ∨ i = 12 ∨ i = 13 := by omega
    clear hlt
    rcases hcases with rfl | rfl | rfl | rfl | rfl | rfl | rfl | rfl | rfl | rfl | rfl | rfl | rfl | rfl
    · have h1 : (gr12Ops[0]?).map (·.dst) = some (some 58) := by kernel_rfl
      have h2 : (gr12Ops[0]?).map (·.op) = some (Op.move (Operand.tmp 9)) := by kernel_rfl
      have h3 : (gr12Ops[0]?).map (·.guard) = some none := by kernel_rfl
      rw [ho] at h1 h2 h3
      replace h1 := Option.some.inj h1
      replace h2 := Option.some.inj h2
      replace h3 := Option.some.inj h3
      simp only at h1 h2 h3
      rw [h1] at hK
      refine ⟨fun _ => ?_, fun hw => by rw [wanted_none h3] at hw; cases hw⟩
      refine wp_moveG _ h2 _ ((hf 9 (by decide)).trans a9) ?_
      rw [h1]
      exact hK _ _ (FlatC.step gr12_nd (gr12_ks ) rfl hc 0 (by decide) (Below.refl _ _) (fun u hu => by injection hu with hu; injection hu) (trivial))
    · have h1 : (gr12Ops[1]?).map (·.dst) = some (some 59) := by kernel_rfl
      have h2 : (gr12Ops[1]?).map (·.op) = some (Op.binOp BinOp.eql 34 (Operand.tmp 58) (Operand.const (Value.int IntKind.i64 0)) 34) := by kernel_rfl
      have h3 : (gr12Ops[1]?).map (·.guard) = some none := by kernel_rfl
      rw [ho] at h1 h2 h3
      replace h1 := Option.some.inj h1
      replace h2 := Option.some.inj h2
      replace h3 := Option.some.inj h3
      simp only at h1 h2 h3
      rw [h1] at hK
      have l0 : L 0 = true := hdep 0 (by simp [gr12Dep])
      refine ⟨fun _ => ?_, fun hw => by rw [wanted_none h3] at hw; cases hw⟩
      refine wp_binG _ _ _ _ _ h2 _ _ (.bool true) (show Act.at b 58 = .int .i64 0 from hc.v 0 l0 _ rfl) rfl (by kernel_rfl) (by kernel_rfl) ?_
      rw [h1]
      exact hK _ _ (FlatC.step gr12_nd (gr12_ks ) rfl hc 1 (by decide) (Below.refl _ _) (fun u hu => by injection hu with hu; injection hu) (trivial))
    · have h1 : (gr12Ops[2]?).map (·.dst) = some (some 60) := by kernel_rfl
      have h2 : (gr12Ops[2]?).map (·.op) = some (Op.move (Operand.tmp 59)) := by kernel_rfl
      have h3 : (gr12Ops[2]?).map (·.guard) = some none := by kernel_rfl
      rw [ho] at h1 h2 h3
      replace h1 := Option.some.inj h1
      replace h2 := Option.some.inj h2
      replace h3 := Option.some.inj h3
      simp only at h1 h2 h3
      rw [h1] at hK
      have l1 : L 1 = true := hdep 1 (by simp [gr12Dep])
      refine ⟨fun _ => ?_, fun hw => by rw [wanted_none h3] at hw; cases hw⟩
      refine wp_moveG _ h2 _ (show Act.at b 59 = .bool true from hc.v 1 l1 _ rfl) ?_
      rw [h1]
      exact hK _ _ (FlatC.step gr12_nd (gr12_ks ) rfl hc 2 (by decide) (Below.refl _ _) (fun u hu => by injection hu with hu; injection hu) (trivial))
    · have h1 : (gr12Ops[3]?).map (·.dst) = some (some 61) := by kernel_rfl
      have h2 : (gr12Ops[3]?).map (·.op) = some (Op.load 33 (Operand.tmp 8)) := by kernel_rfl
      have h3 : (gr12Ops[3]?).map (·.guard) = some (some (2, true)) := by kernel_rfl
      rw [ho] at h1 h2 h3
      replace h1 := Option.some.inj h1
      replace h2 := Option.some.inj h2
      replace h3 := Option.some.inj h3
      simp only at h1 h2 h3
      rw [h1] at hK
      have l2 : L 2 = true := hdep 2 (by simp [gr12Dep])
      have hw := wanted_of (ops := gr12Ops) (b := b) h3 (d := 60) (by kernel_rfl) (show Act.at b 60 = .bool true from hc.v 2 l2 _ rfl)
      rw [hw]
      refine ⟨fun _ => ?_, fun hq => absurd hq (by decide)⟩
      refine wp_load_row 33 (.tmp 8) h2 g9 ((hf 8 (by decide)).trans a8) 33 #[.slice A2 M c2, .int .i64 q2] (0, 0) _ ((hbw.block g9 hG9.lt).trans hG9) Try.underlying33 rfl (by kernel_rfl) ?_
      rw [h1]
      exact hK _ _ (FlatC.step gr12_nd (gr12_ks ) rfl hc 3 (by decide) (Below.refl _ _) (fun u hu => by injection hu with hu; injection hu) (trivial))
    · have h1 : (gr12Ops[4]?).map (·.dst) = some (some 62) := by kernel_rfl
      have h2 : (gr12Ops[4]?).map (·.op) = some (Op.call { callee := Callee.value (Operand.func 14), args := #[Operand.tmp 61], argTypes := #[33] }) := by kernel_rfl
      have h3 : (gr12Ops[4]?).map (·.guard) = some (some (2, true)) := by kernel_rfl
      rw [ho] at h1 h2 h3
      replace h1 := Option.some.inj h1
      replace h2 := Option.some.inj h2
      replace h3 := Option.some.inj h3
      simp only at h1 h2 h3
      rw [h1] at hK
      have l2 : L 2 = true := hdep 2 (by simp [gr12Dep])
      have l3 : L 3 = true := hdep 3 (by simp [gr12Dep])
      have hw := wanted_of (ops := gr12Ops) (b := b) h3 (d := 60) (by kernel_rfl) (show Act.at b 60 = .bool true from hc.v 2 l2 _ rfl)
      rw [hw]
      refine ⟨fun _ => ?_, fun hq => absurd hq (by decide)⟩
      refine wp_callG 14 _ _ h2 (enters_of Try.func14 (by kernel_rfl) rfl) #[.agg #[.slice A2 M c2, .int .i64 q2]] (by simp [show b.eval (.tmp 61) = _ from (show Act.at b 61 = .agg #[.slice A2 M c2, .int .i64 q2] from hc.v 3 l3 _ rfl)]) _ (HC2 w) ?_
      rintro v w2 ⟨rfl, hb2⟩
      rw [h1]
      exact hK _ _ (FlatC.step gr12_nd (gr12_ks ) rfl hc 4 (by decide) (hb2) (fun u hu => by injection hu with hu; injection hu) (trivial))
    · have h1 : (gr12Ops[5]?).map (·.dst) = some (some 63) := by kernel_rfl
      have h2 : (gr12Ops[5]?).map (·.op) = some (Op.move (Operand.tmp 1)) := by kernel_rfl
      have h3 : (gr12Ops[5]?).map (·.guard) = some (some (2, true)) := by kernel_rfl
      rw [ho] at h1 h2 h3
      replace h1 := Option.some.inj h1
      replace h2 := Option.some.inj h2
      replace h3 := Option.some.inj h3
      simp only at h1 h2 h3
      rw [h1] at hK
      have l2 : L 2 = true := hdep 2 (by simp [gr12Dep])
      have hw := wanted_of (ops := gr12Ops) (b := b) h3 (d := 60) (by kernel_rfl) (show Act.at b 60 = .bool true from hc.v 2 l2 _ rfl)
      rw [hw]
      refine ⟨fun _ => ?_, fun hq => absurd hq (by decide)⟩
      refine wp_moveG _ h2 _ ((hf 1 (by decide)).trans a1) ?_
      rw [h1]
      exact hK _ _ (FlatC.step gr12_nd (gr12_ks ) rfl hc 5 (by decide) (Below.refl _ _) (fun u hu => by injection hu with hu; injection hu) (trivial))
    · have h1 : (gr12Ops[6]?).map (·.dst) = some (some 64) := by kernel_rfl
      have h2 : (gr12Ops[6]?).map (·.op) = some (Op.binOp BinOp.add 3 (Operand.tmp 63) (Operand.const (Value.int IntKind.i64 1)) 3) := by kernel_rfl
      have h3 : (gr12Ops[6]?).map (·.guard) = some (some (2, true)) := by kernel_rfl
      rw [ho] at h1 h2 h3
      replace h1 := Option.some.inj h1
      replace h2 := Option.some.inj h2
      replace h3 := Option.some.inj h3
      simp only at h1 h2 h3
      rw [h1] at hK
      have l2 : L 2 = true := hdep 2 (by simp [gr12Dep])
      have l5 : L 5 = true := hdep 5 (by simp [gr12Dep])
      have hw := wanted_of (ops := gr12Ops) (b := b) h3 (d := 60) (by kernel_rfl) (show Act.at b 60 = .bool true from hc.v 2 l2 _ rfl)
      rw [hw]
      refine ⟨fun _ => ?_, fun hq => absurd hq (by decide)⟩
      refine wp_binG _ _ _ _ _ h2 _ _ (.int .i64 ((n : Int) + 1)) (show Act.at b 63 = .int .i64 (n : Int) from hc.v 5 l5 _ rfl) rfl (by kernel_rfl) (HA1 w) ?_
      rw [h1]
      exact hK _ _ (FlatC.step gr12_nd (gr12_ks ) rfl hc 6 (by decide) (Below.refl _ _) (fun u hu => by injection hu with hu; injection hu) (trivial))
    · have h1 : (gr12Ops[7]?).map (·.dst) = some (some 65) := by kernel_rfl
      have h2 : (gr12Ops[7]?).map (·.op) = some (Op.load 33 (Operand.tmp 6)) := by kernel_rfl
      have h3 : (gr12Ops[7]?).map (·.guard) = some (some (2, true)) := by kernel_rfl
      rw [ho] at h1 h2 h3
      replace h1 := Option.some.inj h1
      replace h2 := Option.some.inj h2
      replace h3 := Option.some.inj h3
      simp only at h1 h2 h3
      rw [h1] at hK
      have l2 : L 2 = true := hdep 2 (by simp [gr12Dep])
      have hw := wanted_of (ops := gr12Ops) (b := b) h3 (d := 60) (by kernel_rfl) (show Act.at b 60 = .bool true from hc.v 2 l2 _ rfl)
      rw [hw]
      refine ⟨fun _ => ?_, fun hq => absurd hq (by decide)⟩
      refine wp_load_row 33 (.tmp 6) h2 g6 ((hf 6 (by decide)).trans a6) 33 #[.slice A1 L1 c1, .int .i64 q1] (0, 0) _ ((hbw.block g6 hG6.lt).trans hG6) Try.underlying33 rfl (by kernel_rfl) ?_
      rw [h1]
      exact hK _ _ (FlatC.step gr12_nd (gr12_ks ) rfl hc 7 (by decide) (Below.refl _ _) (fun u hu => by injection hu with hu; injection hu) (trivial))
    · have h1 : (gr12Ops[8]?).map (·.dst) = some (some 66) := by kernel_rfl
      have h2 : (gr12Ops[8]?).map (·.op) = some (Op.call { callee := Callee.value (Operand.func 14), args := #[Operand.tmp 65], argTypes := #[33] }) := by kernel_rfl
      have h3 : (gr12Ops[8]?).map (·.guard) = some (some (2, true)) := by kernel_rfl
      rw [ho] at h1 h2 h3
      replace h1 := Option.some.inj h1
      replace h2 := Option.some.inj h2
      replace h3 := Option.some.inj h3
      simp only at h1 h2 h3
      rw [h1] at hK
      have l2 : L 2 = true := hdep 2 (by simp [gr12Dep])
      have l7 : L 7 = true := hdep 7 (by simp [gr12Dep])
      have hw := wanted_of (ops := gr12Ops) (b := b) h3 (d := 60) (by kernel_rfl) (show Act.at b 60 = .bool true from hc.v 2 l2 _ rfl)
      rw [hw]
      refine ⟨fun _ => ?_, fun hq => absurd hq (by decide)⟩
      refine wp_callG 14 _ _ h2 (enters_of Try.func14 (by kernel_rfl) rfl) #[.agg #[.slice A1 L1 c1, .int .i64 q1]] (by simp [show b.eval (.tmp 65) = _ from (show Act.at b 65 = .agg #[.slice A1 L1 c1, .int .i64 q1] from hc.v 7 l7 _ rfl)]) _ (HC1 w) ?_
      rintro v w2 ⟨rfl, hb2⟩
      rw [h1]
      exact hK _ _ (FlatC.step gr12_nd (gr12_ks ) rfl hc 8 (by decide) (hb2) (fun u hu => by injection hu with hu; injection hu) (trivial))
    · have h1 : (gr12Ops[9]?).map (·.dst) = some (some 67) := by kernel_rfl
      have h2 : (gr12Ops[9]?).map (·.op) = some (Op.binOp BinOp.add 3 (Operand.tmp 66) (Operand.const (Value.int IntKind.i64 1)) 3) := by kernel_rfl
      have h3 : (gr12Ops[9]?).map (·.guard) = some (some (2, true)) := by kernel_rfl
      rw [ho] at h1 h2 h3
      replace h1 := Option.some.inj h1
      replace h2 := Option.some.inj h2
      replace h3 := Option.some.inj h3
      simp only at h1 h2 h3
      rw [h1] at hK
      have l2 : L 2 = true := hdep 2 (by simp [gr12Dep])
      have l8 : L 8 = true := hdep 8 (by simp [gr12Dep])
      have hw := wanted_of (ops := gr12Ops) (b := b) h3 (d := 60) (by kernel_rfl) (show Act.at b 60 = .bool true from hc.v 2 l2 _ rfl)
      rw [hw]
      refine ⟨fun _ => ?_, fun hq => absurd hq (by decide)⟩
      refine wp_binG _ _ _ _ _ h2 _ _ (.int .i64 ((L1 : Int) + 1)) (show Act.at b 66 = .int .i64 (L1 : Int) from hc.v 8 l8 _ rfl) rfl (by kernel_rfl) (HA2 w) ?_
      rw [h1]
      exact hK _ _ (FlatC.step gr12_nd (gr12_ks ) rfl hc 9 (by decide) (Below.refl _ _) (fun u hu => by injection hu with hu; injection hu) (trivial))
    · have h1 : (gr12Ops[10]?).map (·.dst) = some (some 68) := by kernel_rfl
      have h2 : (gr12Ops[10]?).map (·.op) = some (Op.binOp BinOp.mul 3 (Operand.tmp 64) (Operand.tmp 67) 3) := by kernel_rfl
      have h3 : (gr12Ops[10]?).map (·.guard) = some (some (2, true)) := by kernel_rfl
      rw [ho] at h1 h2 h3
      replace h1 := Option.some.inj h1
      replace h2 := Option.some.inj h2
      replace h3 := Option.some.inj h3
      simp only at h1 h2 h3
      rw [h1] at hK
      have l2 : L 2 = true := hdep 2 (by simp [gr12Dep])
      have l6 : L 6 = true := hdep 6 (by simp [gr12Dep])
      have l9 : L 9 = true := hdep 9 (by simp [gr12Dep])
      have hw := wanted_of (ops := gr12Ops) (b := b) h3 (d := 60) (by kernel_rfl) (show Act.at b 60 = .bool true from hc.v 2 l2 _ rfl)
      rw [hw]
      refine ⟨fun _ => ?_, fun hq => absurd hq (by decide)⟩
      refine wp_binG _ _ _ _ _ h2 _ _ (.int .i64 (pr : Int)) (show Act.at b 64 = .int .i64 ((n : Int) + 1) from hc.v 6 l6 _ rfl) (show Act.at b 67 = .int .i64 ((L1 : Int) + 1) from hc.v 9 l9 _ rfl) (by kernel_rfl) (HMu w) ?_
      rw [h1]
      exact hK _ _ (FlatC.step gr12_nd (gr12_ks ) rfl hc 10 (by decide) (Below.refl _ _) (fun u hu => by injection hu with hu; injection hu) (trivial))
    · have h1 : (gr12Ops[11]?).map (·.dst) = some (some 69) := by kernel_rfl
      have h2 : (gr12Ops[11]?).map (·.op) = some (Op.binOp BinOp.leq 3 (Operand.tmp 62) (Operand.tmp 68) 3) := by kernel_rfl
      have h3 : (gr12Ops[11]?).map (·.guard) = some (some (2, true)) := by kernel_rfl
      rw [ho] at h1 h2 h3
      replace h1 := Option.some.inj h1
      replace h2 := Option.some.inj h2
      replace h3 := Option.some.inj h3
      simp only at h1 h2 h3
      rw [h1] at hK
      have l2 : L 2 = true := hdep 2 (by simp [gr12Dep])
      have l4 : L 4 = true := hdep 4 (by simp [gr12Dep])
      have l10 : L 10 = true := hdep 10 (by simp [gr12Dep])
      have hw := wanted_of (ops := gr12Ops) (b := b) h3 (d := 60) (by kernel_rfl) (show Act.at b 60 = .bool true from hc.v 2 l2 _ rfl)
      rw [hw]
      refine ⟨fun _ => ?_, fun hq => absurd hq (by decide)⟩
      refine wp_binG _ _ _ _ _ h2 _ _ (.bool true) (show Act.at b 62 = .int .i64 (M : Int) from hc.v 4 l4 _ rfl) (show Act.at b 68 = .int .i64 (pr : Int) from hc.v 10 l10 _ rfl) (by kernel_rfl) (HLe w) ?_
      rw [h1]
      exact hK _ _ (FlatC.step gr12_nd (gr12_ks ) rfl hc 11 (by decide) (Below.refl _ _) (fun u hu => by injection hu with hu; injection hu) (trivial))
    · have h1 : (gr12Ops[12]?).map (·.dst) = some (some 70) := by kernel_rfl
      have h2 : (gr12Ops[12]?).map (·.op) = some (Op.pick (Operand.tmp 60) (Operand.tmp 69) (Operand.const (Value.bool false))) := by kernel_rfl
      have h3 : (gr12Ops[12]?).map (·.guard) = some none := by kernel_rfl
      rw [ho] at h1 h2 h3
      replace h1 := Option.some.inj h1
      replace h2 := Option.some.inj h2
      replace h3 := Option.some.inj h3
      simp only at h1 h2 h3
      rw [h1] at hK
      have l2 : L 2 = true := hdep 2 (by simp [gr12Dep])
      have l11 : L 11 = true := hdep 11 (by simp [gr12Dep])
      refine ⟨fun _ => ?_, fun hw => by rw [wanted_none h3] at hw; cases hw⟩
      refine wp_pickG _ _ _ h2 true (show Act.at b 60 = .bool true from hc.v 2 l2 _ rfl) _ (if_pos rfl |>.trans (show Act.at b 69 = .bool true from hc.v 11 l11 _ rfl)) ?_
      rw [h1]
      exact hK _ _ (FlatC.step gr12_nd (gr12_ks ) rfl hc 12 (by decide) (Below.refl _ _) (fun u hu => by injection hu with hu; injection hu) (trivial))
    · have h1 : (gr12Ops[13]?).map (·.dst) = some (some 4) := by kernel_rfl
      have h2 : (gr12Ops[13]?).map (·.op) = some (Op.assign (Operand.tmp 70)) := by kernel_rfl
      have h3 : (gr12Ops[13]?).map (·.guard) = some none := by kernel_rfl
      rw [ho] at h1 h2 h3
      replace h1 := Option.some.inj h1
      replace h2 := Option.some.inj h2
      replace h3 := Option.some.inj h3
      simp only at h1 h2 h3
      rw [h1] at hK
      have l12 : L 12 = true := hdep 12 (by simp [gr12Dep])
      refine ⟨fun _ => ?_, fun hw => by rw [wanted_none h3] at hw; cases hw⟩
      refine wp_assignG _ h2 _ (show Act.at b 70 = .bool true from hc.v 12 l12 _ rfl) ?_
      rw [h1]
      exact hK _ _ (FlatC.step gr12_nd (gr12_ks ) rfl hc 13 (by decide) (Below.refl _ _) (fun u hu => by injection hu with hu; injection hu) (trivial))
  · rintro L b w hL hd hs hf hc
    have hsz2 : gr12Ops.size = 14 := rfl
    rw [hsz2] at hL
    have e := act_eq (a := A0) (b := b) (gr12Us (Act.at b)) hd hs hf (by
      intro p hp
      simp only [gr12Us, List.mem_cons, List.not_mem_nil, or_false] at hp
      rcases hp with rfl | rfl | rfl | rfl | rfl | rfl | rfl | rfl | rfl | rfl | rfl | rfl | rfl | rfl <;> rfl) (by rw [show (gr12Us (Act.at b)).map (·.1) = [58, 59, 60, 61, 62, 63, 64, 65, 66, 67, 68, 69, 70, 4] from rfl]; decide)
    rw [e]
    exact hk (Act.at b) w (hc.v 13 (hL 13 (by omega)) _ rfl) ⟨hc.bel.os, hc.bel.tape, hc.bel.output, hc.bel.size, hc.bel.block⟩
theorem run_addI (W : World) (x y z : Int) (h : x + y = z) (hb : -9223372036854775808 ≤ z ∧ z ≤ 9223372036854775807) : (binOp .add 3 (.int .i64 x) (.int .i64 y)).run Try.prog W = .ok (.int .i64 z) W := by
  have hw : IntKind.i64.wrap z = z := by rw [IntKind.wrap_i64]; omega
  rw [show (binOp .add 3 (.int .i64 x) (.int .i64 y)).run Try.prog W = .ok (.int .i64 (IntKind.i64.wrap (x + y))) W by kernel_rfl, h, hw]
theorem run_mulI (W : World) (x y z : Int) (h : x * y = z) (hb : -9223372036854775808 ≤ z ∧ z ≤ 9223372036854775807) : (binOp .mul 3 (.int .i64 x) (.int .i64 y)).run Try.prog W = .ok (.int .i64 z) W := by
  have hw : IntKind.i64.wrap z = z := by rw [IntKind.wrap_i64]; omega
  rw [show (binOp .mul 3 (.int .i64 x) (.int .i64 y)).run Try.prog W = .ok (.int .i64 (IntKind.i64.wrap (x * y))) W by kernel_rfl, h, hw]
theorem run_leqI (W : World) (x y : Int) (h : x ≤ y) : (binOp .leq 3 (.int .i64 x) (.int .i64 y)).run Try.prog W = .ok (.bool true) W := by
  rw [show (binOp .leq 3 (.int .i64 x) (.int .i64 y)).run Try.prog W = .ok (.bool (decide (x ≤ y))) W by kernel_rfl, decide_eq_true h]
theorem rep_sz (t : RT) (n : Nat) : szT (repT t n) = 1 + szT t := by
  unfold repT
  rw [szT, szL, szL]
  omega
theorem rep_kid {W : World} {v : RV} {t : RT} (h : Rep W (· < W.heap.size) v t) (n : Nat) : Rep (W.alloc (.cells v.cells.toArray 26)) (· < (W.alloc (.cells v.cells.toArray 26)).heap.size) ⟨5, 0#256, some ⟨W.heap.size, 0, none⟩, 1, 1, (n : Int), (n : Int)⟩ (repT t n) := by
  have hb : Below W.heap.size W (W.alloc (.cells v.cells.toArray 26)) := (Below.refl _ _).alloc (Nat.le_refl _) _
  refine .mk ⟨5, 0#256, some ⟨W.heap.size, 0, none⟩, 1, 1, (n : Int), (n : Int)⟩ [t] (fun _ => v) rfl (fun _ => ⟨W.heap.size, 0, rfl, by simp, by simp, fun j hj => ?_⟩) (fun j hj => ?_)
  · obtain rfl : j = 0 := by simp at hj; omega
    exact Blk.row (Blk.fresh W 26 v.cells)
  · obtain rfl : j = 0 := by simp at hj; omega
    exact h.mono hb.size (fun b _ hl => hb.block b hl) (fun b hb2 _ => Nat.lt_of_lt_of_le hb2 hb.size)
theorem wd00 (i : Nat) : wd (0#256) i = 0 := by simp [wd]
theorem make_rep {W : World} {v : RV} {t : RT} (h : Rep W (· < W.heap.size) v t) (n : Nat) (hs : szT t ≤ 500) : Calls Try.prog 7 #[.agg #[.int .i64 5, .int .u64 0, .int .u64 0, .int .u64 0, .int .u64 0, .slice (some ⟨W.heap.size, 0, none⟩) 1 1, .int .i64 (n : Int), .int .i64 (n : Int)]] (W.alloc (.cells v.cells.toArray 26)) (MakeR (repT t n) (W.alloc (.cells v.cells.toArray 26))) := by
  have h2 := make_any _ (repT t n) _ _ (rep_kid h n) (fun _ h => h) (by rw [rep_sz]; omega)
  unfold RV.val at h2
  simp only [wd00] at h2
  exact h2
set_option maxRecDepth 100000 in
set_option maxHeartbeats 2000000 in
theorem great_any (v : RV) (t : RT) (w : World) (hR : Rep w (· < w.heap.size) v t) (x : Int) : Calls Try.prog 4 #[v.val, .int .i64 x] w fun e w' => e = .returned (.bool true) ∧ Below w.heap.size w w' := by
  obtain ⟨hb, hN⟩ := box_new w v
  have HB := hid hb
  have HX := hid hN
  have HR := hid (hR.keep hb)
  clear hb hN hR
  have HRun := hid (fun W => runs_any W)
  unfold RV.val
  rw [show (#[.int .i64 v.k, .int .u64 ((wd v.s 0 : Nat) : Int), .int .u64 ((wd v.s 1 : Nat) : Int), .int .u64 ((wd v.s 2 : Nat) : Int), .int .u64 ((wd v.s 3 : Nat) : Int), .slice v.A v.n v.c, .int .i64 v.lo, .int .i64 v.hi] : Array Value) = v.cells.toArray from rfl]
  go_enter Try.func4, Try.ntmps4
  go_upto_region 1 with (fail)
  change Code.wp _ _ _ _ (w.alloc (.cells v.cells.toArray 26))
  generalize w.alloc (.cells v.cells.toArray 26) = w1 at *
  go_upto_region 4 with (go_at_call 5; refine (HRun.out _).mono ?_; rintro e w2 ⟨rfl, hb2⟩)
  have hal := al_belowN w2 (.cells #[.int .i64 12] 3)
  have HX3 := hid ((HX.out.keep hb2).keep hal)
  have HNe := hid (show w.heap.size ≠ w2.heap.size from by have h1 := HX.out.lt; have h2 := hb2.size; omega)
  have HB3 := hid ((HB.out.trans (hb2.mono HB.out.size)).trans (hal.mono (Nat.le_trans HB.out.size hb2.size)))
  have HR3 := hid ((HR.out.keep hb2).keep hal)
  have HFew := hid (few_any t v (w2.alloc (.cells #[.int .i64 12] 3)) w2.heap.size 12 (· < w.heap.size) HR3.out (fun b hb => by have h1 := HX.out.lt; have h2 := hb2.size; have h3 : b < w.heap.size := hb; omega) (Blk.fresh w2 3 [.int .i64 12]) (by omega) (by omega))
  have HFs := hid (fg_sz t 12)
  have hw2 : w.heap.size ≤ w2.heap.size := by have h1 := HX.out.lt; have h2 := hb2.size; omega
  have HFin := hid (fun W (hg : (w2.alloc (.cells #[.int .i64 12] 3)).grownBy W (some w2.heap.size)) => (show Below w.heap.size w W from Chg.below HB3.out (Chg.of_grown hg) HB3.out.size (fun q hq => by injection hq with hq; omega)))
  clear hal hb2 HX HR HB HRun
  generalize w2.heap.size = g at *
  generalize w2.alloc (.cells #[.int .i64 12] 3) = w3 at *
  obtain ⟨x0, x1, x2, x3, x4, x5, x6, x7⟩ := Blk.cells8' (v := v) HX3.out
  unfold RV.val at HFew
  cases hfw : (fgT t 12).1 with
  | false =>
    rw [hfw] at HFew
    clear hfw HFs
    go_wp2_with (go_at_call 6; refine HFew.out.mono ?_; rintro e w4 ⟨rfl, hg4, _⟩; have HX4 := hid (show Blk w4 w.heap.size 26 v.cells from (hg4.block _ HX3.out.lt (fun e => HNe.out (by injection e))).trans HX3.out); have HG4 := hid hg4; have HR4 := hid (HR3.out.step hg4 (fun b hb => by have h3 : b < w.heap.size := hb; omega)); clear hg4 x0 x1 x2 x3 x4 x5 x6 x7; obtain ⟨x0, x1, x2, x3, x4, x5, x6, x7⟩ := Blk.cells8' (v := v) HX4.out)
    go_ret
    exact ⟨rfl, HFin.out _ HG4.out⟩
  | true =>
    rw [hfw] at HFew
    have hsz : szT t ≤ 12 := by have := (HFs.out hfw).1; omega
    clear hfw HFs
    by_cases c1 : x < 0
    · go_wp2_with (go_at_call 6; refine HFew.out.mono ?_; rintro e w4 ⟨rfl, hg4, _⟩; have HX4 := hid (show Blk w4 w.heap.size 26 v.cells from (hg4.block _ HX3.out.lt (fun e => HNe.out (by injection e))).trans HX3.out); have HG4 := hid hg4; have HR4 := hid (HR3.out.step hg4 (fun b hb => by have h3 : b < w.heap.size := hb; omega)); clear hg4 x0 x1 x2 x3 x4 x5 x6 x7; obtain ⟨x0, x1, x2, x3, x4, x5, x6, x7⟩ := Blk.cells8' (v := v) HX4.out)
      go_ret
      exact ⟨rfl, HFin.out _ HG4.out⟩
    by_cases c2 : 256 < x
    · have c3 : 0 ≤ x := by omega
      go_wp2_with (go_at_call 6; refine HFew.out.mono ?_; rintro e w4 ⟨rfl, hg4, _⟩; have HX4 := hid (show Blk w4 w.heap.size 26 v.cells from (hg4.block _ HX3.out.lt (fun e => HNe.out (by injection e))).trans HX3.out); have HG4 := hid hg4; have HR4 := hid (HR3.out.step hg4 (fun b hb => by have h3 : b < w.heap.size := hb; omega)); clear hg4 x0 x1 x2 x3 x4 x5 x6 x7; obtain ⟨x0, x1, x2, x3, x4, x5, x6, x7⟩ := Blk.cells8' (v := v) HX4.out)
      go_ret
      exact ⟨rfl, HFin.out _ HG4.out⟩
    obtain ⟨n, rfl⟩ : ∃ n : Nat, x = (n : Int) := ⟨x.toNat, by omega⟩
    have hn : n ≤ 256 := by omega
    have c4 : (n : Int) ≤ 256 := by omega
    clear c1 c2
    have HCk := hid (fun (W : World) (h : Rep W (· < w.heap.size) v t) (hW : w.heap.size ≤ W.heap.size) => Check_any h (fun b hb => Nat.lt_of_lt_of_le hb hW) (by omega))
    have hlt4 : ∀ W, w3.grownBy W (some g) → w.heap.size ≤ W.heap.size := fun W hW => by have h1 := HX3.out.lt; have h2 := hW.size; omega
    unfold RV.val at HCk
    by_cases hw0 : wgT t = 0
    rotate_left
    · have hw1 : (((wgT t : Nat) : Int) != 0) = true := by simpa using hw0
      generalize wgT t = wg at *
      clear hw0
      go_wp2_with (first | (go_at_call 6; refine HFew.out.mono ?_; rintro e w4 ⟨rfl, hg4, _⟩; have HX4 := hid (show Blk w4 w.heap.size 26 v.cells from (hg4.block _ HX3.out.lt (fun e => HNe.out (by injection e))).trans HX3.out); have HG4 := hid hg4; have HR4 := hid (HR3.out.step hg4 (fun b hb => by have h3 : b < w.heap.size := hb; omega)); clear hg4 x0 x1 x2 x3 x4 x5 x6 x7; obtain ⟨x0, x1, x2, x3, x4, x5, x6, x7⟩ := Blk.cells8' (v := v) HX4.out) | (go_at_call 16; refine (HCk.out _ HR4.out (hlt4 _ HG4.out)).mono ?_; rintro e w5 ⟨rfl, hb5⟩))
      go_ret
      exact ⟨rfl, (HFin.out _ HG4.out).trans (hb5.mono (hlt4 _ HG4.out))⟩
    · rw [hw0] at HCk
      go_upto_region 6 with (first | (go_at_call 6; refine HFew.out.mono ?_; rintro e w4 ⟨rfl, hg4, _⟩; have HX4 := hid (show Blk w4 w.heap.size 26 v.cells from (hg4.block _ HX3.out.lt (fun e => HNe.out (by injection e))).trans HX3.out); have HG4 := hid hg4; have HR4 := hid (HR3.out.step hg4 (fun b hb => by have h3 : b < w.heap.size := hb; omega)); clear hg4 x0 x1 x2 x3 x4 x5 x6 x7; obtain ⟨x0, x1, x2, x3, x4, x5, x6, x7⟩ := Blk.cells8' (v := v) HX4.out) | (go_at_call 16; refine (HCk.out _ HR4.out (hlt4 _ HG4.out)).mono ?_; rintro e w5 ⟨rfl, hb5⟩))
      have hl4 := hlt4 _ HG4.out
      have HX5 := hid (HX4.out.keep hb5)
      have HR5 := hid (HR4.out.keep hb5)
      have HB5 := hid ((HFin.out _ HG4.out).trans (hb5.mono hl4))
      have hl5 : w.heap.size ≤ w5.heap.size := HB5.out.size
      have HMk := hid (make_any v t w5 (· < w.heap.size) HR5.out (fun b hb => Nat.lt_of_lt_of_le hb hl5) (by omega))
      unfold RV.val at HMk
      clear HX4 HR4 HG4 HFin HCk HFew hlt4 hb5 HX3 HR3 HB3 hl4
      clear x0 x1 x2 x3 x4 x5 x6 x7
      obtain ⟨x0, x1, x2, x3, x4, x5, x6, x7⟩ := Blk.cells8' (v := v) HX5.out
      have HW0 := hid hw0
      clear hw0
      go_upto_region 7 with (go_at_call 7; refine HMk.out.mono ?_; rintro e w6 ⟨hb6, hmk⟩; rcases hmk with ⟨hz, _⟩ | ⟨_, hz, rfl⟩ | ⟨_, hz1, A1, c1, rfl, hau1⟩; exact absurd HW0.out hz)
      · go_wp2
        go_ret
        exact ⟨rfl, (HB5.out.trans (hb6.mono hl5)).trans ((al_belowN w6 _).mono (Nat.le_trans hl5 hb6.size))⟩
      · have hal7 := al_belowN w6 (.cells #[.slice A1 (autE t).length c1, .int .i64 ((autF t : Nat) : Int)] 33)
        have HX7 := hid ((HX5.out.keep hb6).keep hal7)
        have HR7 := hid ((HR5.out.keep hb6).keep hal7)
        have HB7 := hid ((HB5.out.trans (hb6.mono hl5)).trans (hal7.mono (Nat.le_trans hl5 hb6.size)))
        have HA7 := hid (show Blk (w6.alloc (.cells #[.slice A1 (autE t).length c1, .int .i64 ((autF t : Nat) : Int)] 33)) w6.heap.size 33 [.slice A1 (autE t).length c1, .int .i64 ((autF t : Nat) : Int)] from Blk.fresh w6 _ _)
        clear hal7 hb6 hau1 HX5 HR5 HB5 HMk x0 x1 x2 x3 x4 x5 x6 x7
        generalize w6.heap.size = g6 at *
        generalize w6.alloc (.cells #[.slice A1 (autE t).length c1, .int .i64 ((autF t : Nat) : Int)] 33) = w7 at *
        obtain ⟨x0, x1, x2, x3, x4, x5, x6, x7⟩ := Blk.cells8' (v := v) HX7.out
        have hl7 : w.heap.size ≤ w7.heap.size := HB7.out.size
        have hal8 := al_belowN w7 (.cells v.cells.toArray 26)
        have HX8 := hid (HX7.out.keep hal8)
        have HA8 := hid (HA7.out.keep hal8)
        have HB8 := hid (HB7.out.trans (hal8.mono hl7))
        have HMk2 := hid (make_rep (HR7.out.mono (Nat.le_refl _) (fun _ _ _ => rfl) (fun b hb _ => Nat.lt_of_lt_of_le hb hl7)) n (by omega))
        have HZ2 := hid (rep_wg HW0.out hn)
        clear hal8 HX7 HA7 HB7 HR7
        go_upto_region 10 with (go_at_call 7; refine HMk2.out.mono ?_; rintro e w9 ⟨hb9, hmk⟩; rcases hmk with ⟨hz, _⟩ | ⟨_, hz2, rfl⟩ | ⟨_, _, A2, c2, rfl, hau2⟩; exact absurd HZ2.out hz)
        · have hgt := great_no HW0.out hn hz2
          have hcn := ad_cn t HW0.out
          have hL : (autE t).length ≤ 4096 := by rw [autE_len HW0.out]; omega
          have hal9 := al_belowN w9 (.cells #[.slice none 0 0, .int .i64 0] 33)
          have HA9 := hid ((HA8.out.keep hb9).keep hal9)
          have HZ9 := hid (show Blk (w9.alloc (.cells #[.slice none 0 0, .int .i64 0] 33)) w9.heap.size 33 [.slice none 0 0, .int .i64 0] from Blk.fresh w9 _ _)
          have hl8 : w.heap.size ≤ (w7.alloc (.cells v.cells.toArray 26)).heap.size := HB8.out.size
          have HB9 := hid ((HB8.out.trans (hb9.mono hl8)).trans (hal9.mono (Nat.le_trans hl8 hb9.size)))
          clear hcn hal9 hb9 HA8 HB8 HX8 HMk2 HZ2 x0 x1 x2 x3 x4 x5 x6 x7 hz2 hl8
          generalize w9.heap.size = g9 at *
          generalize w9.alloc (.cells #[.slice none 0 0, .int .i64 0] 33) = w10 at *
          generalize (autE t).length = L at *
          obtain ⟨pr, hpr⟩ : ∃ pr, pr = (n + 1) * (L + 1) := ⟨_, rfl⟩
          have hm : ((n : Int) + 1) * ((L : Int) + 1) = (pr : Int) := by rw [hpr]; push_cast; rfl
          have hpb : pr ≤ 257 * 4097 := by rw [hpr]; exact Nat.mul_le_mul (by omega) (by omega)
          rw [← hpr] at hgt
          clear hpr
          have hgi : (4096 : Int) < (pr : Int) := by omega
          have a0 := HA9.out.at 0
          have a1 := HA9.out.at 1
          have b0 := HZ9.out.at 0
          have b1 := HZ9.out.at 1
          simp only [List.getElem?_cons_zero, List.getElem?_cons_succ] at a0 a1 b0 b1
          have HL1 := hid (fun (W : World) => len_any A1 L c1 ((autF t : Nat) : Int) W)
          have HL2 := hid (fun (W : World) => len_any none 0 0 0 W)
          have HAk := hid (fun (W : World) (hb : Below w10.heap.size w10 W) => (HA9.out.keep hb))
          generalize autF t = q1 at *
          go_wp2_with (go_at_call 14; first
            | (with_reducible refine (HL2.out _).mono ?_; rintro e w11 ⟨rfl, hb11⟩; clear a0 a1; have a0 := (HAk.out _ hb11).at 0; have a1 := (HAk.out _ hb11).at 1; simp only [List.getElem?_cons_zero, List.getElem?_cons_succ] at a0 a1)
            | (with_reducible refine (HL1.out _).mono ?_; rintro e w12 ⟨rfl, hb12⟩))
          go_ret
          exact ⟨rfl, (HB9.out.trans (hb11.mono HB9.out.size)).trans (hb12.mono (Nat.le_trans HB9.out.size hb11.size))⟩
        · have hgt := great_yes HW0.out hn
          have hcn := ad_cn t HW0.out
          have hL : (autE t).length ≤ 4096 := by rw [autE_len HW0.out]; omega
          have hal9 := al_belowN w9 (.cells #[.slice A2 (autE (repT t n)).length c2, .int .i64 ((autF (repT t n) : Nat) : Int)] 33)
          have HA9 := hid ((HA8.out.keep hb9).keep hal9)
          have HZ9 := hid (show Blk (w9.alloc (.cells #[.slice A2 (autE (repT t n)).length c2, .int .i64 ((autF (repT t n) : Nat) : Int)] 33)) w9.heap.size 33 [.slice A2 (autE (repT t n)).length c2, .int .i64 ((autF (repT t n) : Nat) : Int)] from Blk.fresh w9 _ _)
          have hl8 : w.heap.size ≤ (w7.alloc (.cells v.cells.toArray 26)).heap.size := HB8.out.size
          have HB9 := hid ((HB8.out.trans (hb9.mono hl8)).trans (hal9.mono (Nat.le_trans hl8 hb9.size)))
          clear hcn hal9 hb9 HA8 HB8 HX8 HMk2 HZ2 x0 x1 x2 x3 x4 x5 x6 x7 hl8 hau2
          generalize w9.heap.size = g9 at *
          generalize w9.alloc (.cells #[.slice A2 (autE (repT t n)).length c2, .int .i64 ((autF (repT t n) : Nat) : Int)] 33) = w10 at *
          generalize (autE t).length = L at *
          generalize (autE (repT t n)).length = M at *
          generalize ((autF (repT t n) : Nat) : Int) = q2 at *
          generalize ((autF t : Nat) : Int) = q1 at *
          obtain ⟨pr, hpr⟩ : ∃ pr, pr = (n + 1) * (L + 1) := ⟨_, rfl⟩
          have hm : ((n : Int) + 1) * ((L : Int) + 1) = (pr : Int) := by rw [hpr]; push_cast; rfl
          have hpb : pr ≤ 257 * 4097 := by rw [hpr]; exact Nat.mul_le_mul (by omega) (by omega)
          rw [← hpr] at hgt
          clear hpr
          go_upto_region 12 with fail
          refine gr12_reg (g6 := g6) (g9 := g9) (n := n) (M := M) (L1 := L) (pr := pr) (A1 := A1) (A2 := A2) (c1 := c1) (c2 := c2) (q1 := q1) (q2 := q2) rfl rfl rfl rfl (by simp) HA9.out HZ9.out ?_ ?_ ?_ ?_ ?_ ?_ ?_
          · intro W
            exact (len_any A1 L c1 q1 W).mono fun e w' p => ⟨_, p.1, rfl, p.2⟩
          · intro W
            exact (len_any A2 M c2 q2 W).mono fun e w' p => ⟨_, p.1, rfl, p.2⟩
          · exact fun W => run_addI W _ _ _ rfl (by omega)
          · exact fun W => run_addI W _ _ _ rfl (by omega)
          · exact fun W => run_mulI W _ _ _ hm (by omega)
          · exact fun W => run_leqI W _ _ (by omega)
          · intro f W h4 hW
            simp only [gr12Us, List.foldl_cons, List.foldl_nil, List.setIfInBounds_toArray, List.set_cons_zero, List.set_cons_succ]
            rw [h4]
            go_wp2
            go_ret
            exact ⟨rfl, HB9.out.trans (hW.mono HB9.out.size)⟩
end Go.Proofs.Ytimffgmbchpfeaa

/- The row of NfaGreat. -/
namespace Go.Proofs.Ytimffgmbchpfeaa.nfaGreatLaw
open Go.ChangeShapes Go.WideShapes Go.ChangeAt Go.RowKit
set_option linter.unusedVariables false

theorem walk (x0 : RV) (y0 : RT) (a1 : Int) (w : World) (w0 : Rep w (· < w.heap.size) x0 y0) (w1 : (Lit.int .i64 a1).wf = true) :
    Calls Try.prog 4 #[x0.val, .int .i64 a1] w fun e w' => e = .returned (.bool true) ∧ Below w.heap.size w w' := by
  exact great_any x0 y0 w w0 a1

set_option maxRecDepth 100000 in
theorem lifted (os : Os) (started : os.Started) (H : Type) (enc : TypeId × Value → H) :
    ReturnsInHanded {} Try.checked os 4 .any (Rows.nfaGreatSpec.pre6 enc Try.prog Try.f4 Rows.nfaGreatRow.domain false) (Rows.nfaGreatSpec.post enc Try.prog Try.f4 false true false false) := by
  refine returnsInHanded_of_change (C := Try.checked) own started (by kernel_rfl) Try.func4
    (ChangeSpec.witness6 (enc := enc) (C := Try.checked) false ⟨#[], #[.agg #[.int .i64 0, .int .u64 0, .int .u64 0, .int .u64 0, .int .u64 0, .slice none 0 0, .int .i64 0, .int .i64 0], .int .i64 0], []⟩ 8 (by kernel_rfl) (by kernel_rfl) (by kernel_rfl) (by kernel_rfl)) ?_
  intro W base args ds gs before hval0 hW hcnd _
  have hval : ∀ (j : Nat) t v, Try.f4.params[j]? = some t → args[j]? = some v → Value.okWide Try.prog W .any base t v := hval0
  have hW' := hW
  obtain ⟨p, q, hA0, hV, rfl, hfz, hnd⟩ := hW
  have hA : DataW.TrodAll enc Try.prog W 0 (fun _ => true) true Try.f4.params.toList args.toList ds p := hA0
  rw [Try.params4] at hA hval
  obtain ⟨v0, vs0, d0, ds0, p0, q0, hargs, rfl, rfl, h0, r0⟩ := trodAll_cons hA
  obtain ⟨v1, vs1, d1, ds1, p1, q1, rfl, rfl, rfl, h1, r1⟩ := trodAll_cons r0
  obtain ⟨rfl, rfl, rfl⟩ := trodAll_nil r1
  obtain rfl : args = #[v0, v1] := by cases args; simp_all
  obtain ⟨rfl, rfl⟩ := trodVars_none hV
  have k0 := h0
  have lt0 : ∀ x ∈ p0, x.block < W.heap.size := by obtain ⟨m, hm⟩ := k0; exact DataW.trod_lt m _ _ _ hm
  obtain ⟨x0, y0, rfl, w0⟩ := open_rx h0
  obtain ⟨a1, rfl, rfl, rfl, w1⟩ := open_int Try.underlying3 (hval 1 3 v1 rfl rfl) h1
  clear hA0 hval0
  refine (walk x0 y0 a1 W w0 w1).mono fun e W' ⟨he, bel⟩ => ?_
  subst he
  exact ⟨_, rfl, _, _, _, [], _, [], hW', trodAll_mk1 (shut_bool Try.underlying4 _), (trodAll_cons_mk (Below.trod laidOut (by kernel_rfl) (of_decide_eq_true (by kernel_rfl)) k0 bel lt0) (trodAll_cons_mk (shut_int Try.underlying3 w1) trodAll_mk0)), rfl, bel.frame _, fun h => by cases h⟩

theorem over : Rows.nfaGreatRow.holds Try.pinned (OpenSpec.ofChange Rows.nfaGreatSpec) :=
  OpenClaim.holds_of_wide 4 Try.f4 rfl rfl rfl rfl rfl rfl rfl ⟨rfl, rfl, rfl, rfl, rfl⟩ rfl rfl rfl rfl rfl (by kernel_rfl) Try.func4 (by kernel_rfl)
    (of_decide_eq_true (by kernel_rfl)) (by unfold Func.isWrapper; first | (rw [if_pos (by decide +kernel)]; kernel_rfl) | (rw [if_neg (by decide +kernel)]; exact ⟨rfl, rfl⟩))
    (fun os started H enc _ => lifted os started H enc)

/-- The given statement. -/
theorem proved : Rows.NfaGreatSaid := over
end Go.Proofs.Ytimffgmbchpfeaa.nfaGreatLaw
