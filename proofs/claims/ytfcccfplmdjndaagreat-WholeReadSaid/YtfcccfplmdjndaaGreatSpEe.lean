/- spec: Each's inner function's last statement, where yield answers no. -/
import Derived.Test.YtfcccfplmdjndaaGreatSpEg
namespace Go.Proofs.YtfcccfplmdjndaaGreat
set_option linter.unusedSimpArgs false
set_option linter.unusedVariables false
open Go.RowKit

theorem wp_callV {P : Program} {o : Oper} {a : Act} {w : World} {K : Act → World → Prop} {Q : Exit → Act → World → Prop} (c : Operand) (f : FuncId) (caps : Array Value) (args : Array Operand) (tys : Array TypeId) (ho : o.op = .call { callee := .value c, args := args, argTypes := tys }) (hc : a.eval c = .func (.func f) #[] caps)
  (he : ∀ args w, (callFunc f args).run P w = .ok (.enter f args) w) (vs : Array Value) (hvs : args.map a.eval = vs) (R : Value → World → Prop) (h : Calls P f (vs ++ caps) w fun e w' => ∃ v, e = .returned v ∧ R v w') (hk : ∀ v w', R v w' → K (a.put o.dst v) w') : o.wp P a w K Q := by
 unfold Oper.wp
 have e : (execOp a.eval o).run P w = .ok (.enter f (args.map a.eval ++ caps)) w := by
  unfold execOp
  simp only [ho, resolve, hc]
  go_simp
 rw [e, Oper.upon_enter, hvs]
 refine h.mono ?_
 rintro _ w' ⟨v, rfl, hr⟩
 exact hk v w' hr
def ea0Ops : Array Oper := #[{ dst := some 20, op := Op.load 45 (Operand.tmp 3), type := 45, pos := "spec.go:109", after := #[], guard := none }, { dst := some 21, op := Op.move (Operand.tmp 0), type := 3, pos := "spec.go:109", after := #[], guard := none }, { dst := some 22, op := Op.call { callee := Callee.value (Operand.tmp 20), args := #[Operand.tmp 21], argTypes := #[3] }, type := 4, pos := "spec.go:109", after := #[{ on := 0, ground := Ground.data }, { on := 1, ground := Ground.data }], guard := none }, { dst := some 23, op := Op.move (Operand.tmp 22), type := 4, pos := "spec.go:109", after := #[{ on := 2, ground := Ground.data }, { on := 2, ground := Ground.chain }], guard := none }, { dst := some 24, op := Op.fieldAddr 32 (Operand.tmp 1) 0, type := 0, pos := "spec.go:109", after := #[{ on := 3, ground := Ground.guard }], guard := some (3, true) }, { dst := some 25, op := Op.load 29 (Operand.tmp 24), type := 29, pos := "spec.go:109", after := #[{ on := 4, ground := Ground.data }, { on := 3, ground := Ground.guard }], guard := some (3, true) }, { dst := some 26, op := Op.move (Operand.tmp 0), type := 3, pos := "spec.go:109", after := #[{ on := 3, ground := Ground.guard }], guard := some (3, true) }, { dst := some 27, op := Op.indexAddr 29 (Operand.tmp 25) (Operand.tmp 26), type := 0, pos := "spec.go:109", after := #[{ on := 5, ground := Ground.data }, { on := 6, ground := Ground.data }, { on := 3, ground := Ground.guard }], guard := some (3, true) }, { dst := some 28, op := Op.load 54 (Operand.tmp 27), type := 54, pos := "spec.go:109", after := #[{ on := 7, ground := Ground.data }, { on := 3, ground := Ground.guard }], guard := some (3, true) }, { dst := some 29, op := Op.load 45 (Operand.tmp 4), type := 45, pos := "spec.go:109", after := #[{ on := 3, ground := Ground.guard }], guard := some (3, true) }, { dst := some 30, op := Op.call { callee := Callee.value (Operand.func 34), args := #[Operand.tmp 28, Operand.tmp 29], argTypes := #[54, 45] }, type := 4, pos := "spec.go:109", after := #[{ on := 8, ground := Ground.data }, { on := 9, ground := Ground.data }, { on := 3, ground := Ground.chain }, { on := 3, ground := Ground.guard }], guard := some (3, true) }, { dst := some 31, op := Op.pick (Operand.tmp 23) (Operand.tmp 30) (Operand.const (Value.bool false)), type := 4, pos := "spec.go:109", after := #[{ on := 3, ground := Ground.data }, { on := 10, ground := Ground.data }], guard := none }, { dst := some 6, op := Op.assign (Operand.tmp 31), type := 4, pos := "spec.go:109", after := #[{ on := 11, ground := Ground.data }, { on := 10, ground := Ground.chain }, { on := 0, ground := Ground.phase }, { on := 1, ground := Ground.phase }, { on := 2, ground := Ground.phase }, { on := 3, ground := Ground.phase }, { on := 4, ground := Ground.phase }, { on := 5, ground := Ground.phase }, { on := 6, ground := Ground.phase }, { on := 7, ground := Ground.phase }, { on := 8, ground := Ground.phase }, { on := 9, ground := Ground.phase }, { on := 10, ground := Ground.phase }, { on := 11, ground := Ground.phase }], guard := none }]
def ea0Dep : Nat → List Nat := fun i => match i with | 2 => [0, 1] | 3 => [2] | 4 => [3] | 5 => [3] | 6 => [3] | 7 => [3] | 8 => [3] | 9 => [3] | 10 => [3] | 11 => [3] | 12 => [11] | _ => []
structure ea0C (F : Nat) (caps : Array Value) (x : Nat) (W1 : World) (Post : World → Prop) (L : Nat → Bool) (f : Nat → Value) (w : World) : Prop where
 v0 : L 0 = true → f 20 = .func (.func F) #[] caps
 v1 : L 1 = true → f 21 = .int .i64 (x : Int)
 v2 : L 2 = true → f 22 = .bool false
 v3 : L 3 = true → f 23 = .bool false
 v11 : L 11 = true → f 31 = .bool false
 v12 : L 12 = true → f 6 = .bool false
 wz : L 2 = false → w = W1
 w2 : L 2 = true → Post w
 d2 : L 2 = true → L 0 = true
theorem ea0_0 {F : Nat} {caps : Array Value} {x : Nat} {W1 : World} {Post : World → Prop} {L : Nat → Bool} {f : Nat → Value} {w : World} (h : ea0C F caps x W1 Post L f w) : ea0C F caps x W1 Post (fun k => if k = 0 then true else L k) (fun t => if (some 20 : Option Nat) = some t then .func (.func F) #[] caps else f t) w where
 v0 := fun _ => by simp
 v1 := by simpa using h.v1
 v2 := by simpa using h.v2
 v3 := by simpa using h.v3
 v11 := by simpa using h.v11
 v12 := by simpa using h.v12
 wz := by simpa using h.wz
 w2 := by simpa using h.w2
 d2 := fun _ => by simp
theorem ea0_1 {F : Nat} {caps : Array Value} {x : Nat} {W1 : World} {Post : World → Prop} {L : Nat → Bool} {f : Nat → Value} {w : World} (h : ea0C F caps x W1 Post L f w) : ea0C F caps x W1 Post (fun k => if k = 1 then true else L k) (fun t => if (some 21 : Option Nat) = some t then .int .i64 (x : Int) else f t) w where
 v0 := by simpa using h.v0
 v1 := fun _ => by simp
 v2 := by simpa using h.v2
 v3 := by simpa using h.v3
 v11 := by simpa using h.v11
 v12 := by simpa using h.v12
 wz := by simpa using h.wz
 w2 := by simpa using h.w2
 d2 := by simpa using h.d2
theorem ea0_2 {F : Nat} {caps : Array Value} {x : Nat} {W1 : World} {Post : World → Prop} {L : Nat → Bool} {f : Nat → Value} {w : World} {w2 : World} (h : ea0C F caps x W1 Post L f w) (h0 : L 0 = true) (hp : Post w2) : ea0C F caps x W1 Post (fun k => if k = 2 then true else L k) (fun t => if (some 22 : Option Nat) = some t then .bool false else f t) w2 where
 v0 := by simpa using h.v0
 v1 := by simpa using h.v1
 v2 := fun _ => by simp
 v3 := by simpa using h.v3
 v11 := by simpa using h.v11
 v12 := by simpa using h.v12
 wz := by simp
 w2 := fun _ => hp
 d2 := fun _ => by simpa using h0
theorem ea0_3 {F : Nat} {caps : Array Value} {x : Nat} {W1 : World} {Post : World → Prop} {L : Nat → Bool} {f : Nat → Value} {w : World} (h : ea0C F caps x W1 Post L f w) : ea0C F caps x W1 Post (fun k => if k = 3 then true else L k) (fun t => if (some 23 : Option Nat) = some t then .bool false else f t) w where
 v0 := by simpa using h.v0
 v1 := by simpa using h.v1
 v2 := by simpa using h.v2
 v3 := fun _ => by simp
 v11 := by simpa using h.v11
 v12 := by simpa using h.v12
 wz := by simpa using h.wz
 w2 := by simpa using h.w2
 d2 := by simpa using h.d2
theorem ea0_4 {F : Nat} {caps : Array Value} {x : Nat} {W1 : World} {Post : World → Prop} {L : Nat → Bool} {f : Nat → Value} {w : World} (h : ea0C F caps x W1 Post L f w) : ea0C F caps x W1 Post (fun k => if k = 4 then true else L k) (fun t => if (some 24 : Option Nat) = some t then undef else f t) w where
 v0 := by simpa using h.v0
 v1 := by simpa using h.v1
 v2 := by simpa using h.v2
 v3 := by simpa using h.v3
 v11 := by simpa using h.v11
 v12 := by simpa using h.v12
 wz := by simpa using h.wz
 w2 := by simpa using h.w2
 d2 := by simpa using h.d2
theorem ea0_5 {F : Nat} {caps : Array Value} {x : Nat} {W1 : World} {Post : World → Prop} {L : Nat → Bool} {f : Nat → Value} {w : World} (h : ea0C F caps x W1 Post L f w) : ea0C F caps x W1 Post (fun k => if k = 5 then true else L k) (fun t => if (some 25 : Option Nat) = some t then undef else f t) w where
 v0 := by simpa using h.v0
 v1 := by simpa using h.v1
 v2 := by simpa using h.v2
 v3 := by simpa using h.v3
 v11 := by simpa using h.v11
 v12 := by simpa using h.v12
 wz := by simpa using h.wz
 w2 := by simpa using h.w2
 d2 := by simpa using h.d2
theorem ea0_6 {F : Nat} {caps : Array Value} {x : Nat} {W1 : World} {Post : World → Prop} {L : Nat → Bool} {f : Nat → Value} {w : World} (h : ea0C F caps x W1 Post L f w) : ea0C F caps x W1 Post (fun k => if k = 6 then true else L k) (fun t => if (some 26 : Option Nat) = some t then undef else f t) w where
 v0 := by simpa using h.v0
 v1 := by simpa using h.v1
 v2 := by simpa using h.v2
 v3 := by simpa using h.v3
 v11 := by simpa using h.v11
 v12 := by simpa using h.v12
 wz := by simpa using h.wz
 w2 := by simpa using h.w2
 d2 := by simpa using h.d2
theorem ea0_7 {F : Nat} {caps : Array Value} {x : Nat} {W1 : World} {Post : World → Prop} {L : Nat → Bool} {f : Nat → Value} {w : World} (h : ea0C F caps x W1 Post L f w) : ea0C F caps x W1 Post (fun k => if k = 7 then true else L k) (fun t => if (some 27 : Option Nat) = some t then undef else f t) w where
 v0 := by simpa using h.v0
 v1 := by simpa using h.v1
 v2 := by simpa using h.v2
 v3 := by simpa using h.v3
 v11 := by simpa using h.v11
 v12 := by simpa using h.v12
 wz := by simpa using h.wz
 w2 := by simpa using h.w2
 d2 := by simpa using h.d2
theorem ea0_8 {F : Nat} {caps : Array Value} {x : Nat} {W1 : World} {Post : World → Prop} {L : Nat → Bool} {f : Nat → Value} {w : World} (h : ea0C F caps x W1 Post L f w) : ea0C F caps x W1 Post (fun k => if k = 8 then true else L k) (fun t => if (some 28 : Option Nat) = some t then undef else f t) w where
 v0 := by simpa using h.v0
 v1 := by simpa using h.v1
 v2 := by simpa using h.v2
 v3 := by simpa using h.v3
 v11 := by simpa using h.v11
 v12 := by simpa using h.v12
 wz := by simpa using h.wz
 w2 := by simpa using h.w2
 d2 := by simpa using h.d2
theorem ea0_9 {F : Nat} {caps : Array Value} {x : Nat} {W1 : World} {Post : World → Prop} {L : Nat → Bool} {f : Nat → Value} {w : World} (h : ea0C F caps x W1 Post L f w) : ea0C F caps x W1 Post (fun k => if k = 9 then true else L k) (fun t => if (some 29 : Option Nat) = some t then undef else f t) w where
 v0 := by simpa using h.v0
 v1 := by simpa using h.v1
 v2 := by simpa using h.v2
 v3 := by simpa using h.v3
 v11 := by simpa using h.v11
 v12 := by simpa using h.v12
 wz := by simpa using h.wz
 w2 := by simpa using h.w2
 d2 := by simpa using h.d2
theorem ea0_10 {F : Nat} {caps : Array Value} {x : Nat} {W1 : World} {Post : World → Prop} {L : Nat → Bool} {f : Nat → Value} {w : World} (h : ea0C F caps x W1 Post L f w) : ea0C F caps x W1 Post (fun k => if k = 10 then true else L k) (fun t => if (some 30 : Option Nat) = some t then undef else f t) w where
 v0 := by simpa using h.v0
 v1 := by simpa using h.v1
 v2 := by simpa using h.v2
 v3 := by simpa using h.v3
 v11 := by simpa using h.v11
 v12 := by simpa using h.v12
 wz := by simpa using h.wz
 w2 := by simpa using h.w2
 d2 := by simpa using h.d2
theorem ea0_11 {F : Nat} {caps : Array Value} {x : Nat} {W1 : World} {Post : World → Prop} {L : Nat → Bool} {f : Nat → Value} {w : World} (h : ea0C F caps x W1 Post L f w) : ea0C F caps x W1 Post (fun k => if k = 11 then true else L k) (fun t => if (some 31 : Option Nat) = some t then .bool false else f t) w where
 v0 := by simpa using h.v0
 v1 := by simpa using h.v1
 v2 := by simpa using h.v2
 v3 := by simpa using h.v3
 v11 := fun _ => by simp
 v12 := by simpa using h.v12
 wz := by simpa using h.wz
 w2 := by simpa using h.w2
 d2 := by simpa using h.d2
theorem ea0_12 {F : Nat} {caps : Array Value} {x : Nat} {W1 : World} {Post : World → Prop} {L : Nat → Bool} {f : Nat → Value} {w : World} (h : ea0C F caps x W1 Post L f w) : ea0C F caps x W1 Post (fun k => if k = 12 then true else L k) (fun t => if (some 6 : Option Nat) = some t then .bool false else f t) w where
 v0 := by simpa using h.v0
 v1 := by simpa using h.v1
 v2 := by simpa using h.v2
 v3 := by simpa using h.v3
 v11 := by simpa using h.v11
 v12 := fun _ => by simp
 wz := by simpa using h.wz
 w2 := by simpa using h.w2
 d2 := by simpa using h.d2
def ea0Us (f : Nat → Value) : List (Nat × Value) := [(20, f 20), (21, f 21), (22, f 22), (23, f 23), (24, f 24), (25, f 25), (26, f 26), (27, f 27), (28, f 28), (29, f 29), (30, f 30), (31, f 31), (6, f 6)]
theorem load_fn {w : World} {p : Addr} {g : Fn} {cs : Array Value} (h : w.cell? p = some (.func g #[] cs)) : (Instr.loadAt 45 (.pointer (some p))).run Tryz.prog w = .ok (.func g #[] cs) w := by
 simp [Instr.loadAt, h]
 go_simp
set_option maxRecDepth 10000 in
set_option maxHeartbeats 2000000 in
theorem ea0_reg {F gy x : Nat} {caps : Array Value} {W : World} {Post : World → Prop} {A0 : Act} {Q : Exit → Act → World → Prop} {id : Nat} (a0 : Act.at A0 0 = .int .i64 (x : Int)) (a3 : Act.at A0 3 = .pointer (some ⟨gy, 0, none⟩)) (hsz : 32 ≤ A0.tmps.size) (hY : W.drew.cell? ⟨gy, 0, none⟩ = some (.func (.func F) #[] caps))
  (hent : ∀ args w, (callFunc F args).run Tryz.prog w = .ok (.enter F args) w)
  (HC : Calls Tryz.prog F (#[.int .i64 (x : Int)] ++ caps) W.drew fun e w' => ∃ v, e = .returned v ∧ v = .bool false ∧ Post w')
  (hk : ∀ (f : Nat → Value) w', f 6 = .bool false → Post w' → Q .normal ⟨(ea0Us f).foldl (fun A p => A.setIfInBounds p.1 p.2) A0.tmps, A0.defers⟩ w') :
  (Code.region id ea0Ops true).wp Tryz.prog Q A0 W := by
 refine wp_region_fun3 (by kernel_rfl) (fun L f w => ea0C F caps x W.drew Post L f w) [20, 21, 22, 23, 24, 25, 26, 27, 28, 29, 30, 31, 6] (wf_ops3 (by kernel_rfl)) (fun i o ho u hu => ?_) ?_ ?_ ?_
 ·have := ops_dst [20, 21, 22, 23, 24, 25, 26, 27, 28, 29, 30, 31, 6] 32 (by kernel_rfl) i o ho u hu
  exact ⟨this.1, Nat.lt_of_lt_of_le this.2 hsz⟩
 ·have hs : ea0Ops.size = 13 := rfl
  rw [hs]
  constructor <;> first | exact (fun _ => rfl) | (intro h; simp at h)
 ·rintro L i o ho hLi haf b w hf hc K hK
  have hdep := ops_deps ea0Dep (by kernel_rfl) ho haf
  clear haf
  have hs : ea0Ops.size = 13 := rfl
  have hlt : i < 13 := hs ▸ (Array.getElem?_eq_some_iff.1 ho).1
  have hcases : i = 0 ∨ i = 1 ∨ i = 2 ∨ i = 3 ∨ i = 4 ∨ i = 5 ∨ i = 6 ∨ i = 7 ∨ i = 8 ∨ i = 9 ∨ i = 10 ∨ i = 11 ∨ i = 12 := by omega
  rcases hcases with rfl | rfl | rfl | rfl | rfl | rfl | rfl | rfl | rfl | rfl | rfl | rfl | rfl
  ·obtain ⟨h1, h2, h3⟩ := op_at3 ho (show (ea0Ops[0]?).map (fun o => (o.dst, o.op, o.guard)) = some ((some 20), (.load 45 (.tmp 3)), none) by kernel_rfl)
   rw [h1] at hK
   refine ⟨fun _ => ?_, fun h => absurd h (by unfold Region.wanted; rw [h3]; simp)⟩
   have hw : w = W.drew := by
    cases h2' : L 2 with
    | true => exact absurd (hc.d2 h2') (by rw [hLi]; decide)
    | false => exact hc.wz h2'
   subst hw
   refine wp_loadG _ _ h2 _ _ ((hf 3 (by decide)).trans a3) (load_fn hY) ?_
   rw [h1]
   exact hK _ _ (ea0_0 hc)
  ·obtain ⟨h1, h2, h3⟩ := op_at3 ho (show (ea0Ops[1]?).map (fun o => (o.dst, o.op, o.guard)) = some ((some 21), (.move (.tmp 0)), none) by kernel_rfl)
   rw [h1] at hK
   refine ⟨fun _ => ?_, fun h => absurd h (by unfold Region.wanted; rw [h3]; simp)⟩
   refine wp_moveG _ h2 _ ((hf 0 (by decide)).trans a0) ?_
   rw [h1]
   exact hK _ _ (ea0_1 hc)
  ·obtain ⟨h1, h2, h3⟩ := op_at3 ho (show (ea0Ops[2]?).map (fun o => (o.dst, o.op, o.guard)) = some ((some 22), (.call { callee := .value (.tmp 20), args := #[.tmp 21], argTypes := #[3] }), none) by kernel_rfl)
   rw [h1] at hK
   have l0 : L 0 = true := hdep 0 (by simp [ea0Dep])
   have l1 : L 1 = true := hdep 1 (by simp [ea0Dep])
   refine ⟨fun _ => ?_, fun h => absurd h (by unfold Region.wanted; rw [h3]; simp)⟩
   obtain rfl := hc.wz hLi
   refine wp_callV (.tmp 20) F caps _ _ h2 (hc.v0 l0) hent #[.int .i64 (x : Int)] (by simp [show b.eval (.tmp 21) = _ from hc.v1 l1]) _ HC ?_
   rintro v w2 ⟨rfl, hp⟩
   rw [h1]
   exact hK _ _ (ea0_2 hc l0 hp)
  ·obtain ⟨h1, h2, h3⟩ := op_at3 ho (show (ea0Ops[3]?).map (fun o => (o.dst, o.op, o.guard)) = some ((some 23), (.move (.tmp 22)), none) by kernel_rfl)
   rw [h1] at hK
   have l2 : L 2 = true := hdep 2 (by simp [ea0Dep])
   refine ⟨fun _ => ?_, fun h => absurd h (by unfold Region.wanted; rw [h3]; simp)⟩
   refine wp_moveG _ h2 _ (hc.v2 l2) ?_
   rw [h1]
   exact hK _ _ (ea0_3 hc)
  ·have h1 : (ea0Ops[4]?).map (·.dst) = some (some 24) := by kernel_rfl
   have h3 : (ea0Ops[4]?).map (·.guard) = some (some (3, true)) := by kernel_rfl
   rw [ho] at h1 h3
   replace h1 := Option.some.inj h1
   replace h3 := Option.some.inj h3
   simp only at h1 h3
   rw [h1] at hK ⊢
   have l3 : L 3 = true := hdep 3 (by simp [ea0Dep])
   refine ⟨fun h => absurd h (by rw [wanted_of h3 (j := 3) (d := 23) (by kernel_rfl) (hc.v3 l3)]; decide), fun _ => hK _ _ (ea0_4 hc)⟩
  ·have h1 : (ea0Ops[5]?).map (·.dst) = some (some 25) := by kernel_rfl
   have h3 : (ea0Ops[5]?).map (·.guard) = some (some (3, true)) := by kernel_rfl
   rw [ho] at h1 h3
   replace h1 := Option.some.inj h1
   replace h3 := Option.some.inj h3
   simp only at h1 h3
   rw [h1] at hK ⊢
   have l3 : L 3 = true := hdep 3 (by simp [ea0Dep])
   refine ⟨fun h => absurd h (by rw [wanted_of h3 (j := 3) (d := 23) (by kernel_rfl) (hc.v3 l3)]; decide), fun _ => hK _ _ (ea0_5 hc)⟩
  ·have h1 : (ea0Ops[6]?).map (·.dst) = some (some 26) := by kernel_rfl
   have h3 : (ea0Ops[6]?).map (·.guard) = some (some (3, true)) := by kernel_rfl
   rw [ho] at h1 h3
   replace h1 := Option.some.inj h1
   replace h3 := Option.some.inj h3
   simp only at h1 h3
   rw [h1] at hK ⊢
   have l3 : L 3 = true := hdep 3 (by simp [ea0Dep])
   refine ⟨fun h => absurd h (by rw [wanted_of h3 (j := 3) (d := 23) (by kernel_rfl) (hc.v3 l3)]; decide), fun _ => hK _ _ (ea0_6 hc)⟩
  ·have h1 : (ea0Ops[7]?).map (·.dst) = some (some 27) := by kernel_rfl
   have h3 : (ea0Ops[7]?).map (·.guard) = some (some (3, true)) := by kernel_rfl
   rw [ho] at h1 h3
   replace h1 := Option.some.inj h1
   replace h3 := Option.some.inj h3
   simp only at h1 h3
   rw [h1] at hK ⊢
   have l3 : L 3 = true := hdep 3 (by simp [ea0Dep])
   refine ⟨fun h => absurd h (by rw [wanted_of h3 (j := 3) (d := 23) (by kernel_rfl) (hc.v3 l3)]; decide), fun _ => hK _ _ (ea0_7 hc)⟩
  ·have h1 : (ea0Ops[8]?).map (·.dst) = some (some 28) := by kernel_rfl
   have h3 : (ea0Ops[8]?).map (·.guard) = some (some (3, true)) := by kernel_rfl
   rw [ho] at h1 h3
   replace h1 := Option.some.inj h1
   replace h3 := Option.some.inj h3
   simp only at h1 h3
   rw [h1] at hK ⊢
   have l3 : L 3 = true := hdep 3 (by simp [ea0Dep])
   refine ⟨fun h => absurd h (by rw [wanted_of h3 (j := 3) (d := 23) (by kernel_rfl) (hc.v3 l3)]; decide), fun _ => hK _ _ (ea0_8 hc)⟩
  ·have h1 : (ea0Ops[9]?).map (·.dst) = some (some 29) := by kernel_rfl
   have h3 : (ea0Ops[9]?).map (·.guard) = some (some (3, true)) := by kernel_rfl
   rw [ho] at h1 h3
   replace h1 := Option.some.inj h1
   replace h3 := Option.some.inj h3
   simp only at h1 h3
   rw [h1] at hK ⊢
   have l3 : L 3 = true := hdep 3 (by simp [ea0Dep])
   refine ⟨fun h => absurd h (by rw [wanted_of h3 (j := 3) (d := 23) (by kernel_rfl) (hc.v3 l3)]; decide), fun _ => hK _ _ (ea0_9 hc)⟩
  ·have h1 : (ea0Ops[10]?).map (·.dst) = some (some 30) := by kernel_rfl
   have h3 : (ea0Ops[10]?).map (·.guard) = some (some (3, true)) := by kernel_rfl
   rw [ho] at h1 h3
   replace h1 := Option.some.inj h1
   replace h3 := Option.some.inj h3
   simp only at h1 h3
   rw [h1] at hK ⊢
   have l3 : L 3 = true := hdep 3 (by simp [ea0Dep])
   refine ⟨fun h => absurd h (by rw [wanted_of h3 (j := 3) (d := 23) (by kernel_rfl) (hc.v3 l3)]; decide), fun _ => hK _ _ (ea0_10 hc)⟩
  ·obtain ⟨h1, h2, h3⟩ := op_at3 ho (show (ea0Ops[11]?).map (fun o => (o.dst, o.op, o.guard)) = some ((some 31), (.pick (.tmp 23) (.tmp 30) (.const (.bool false))), none) by kernel_rfl)
   rw [h1] at hK
   have l3 : L 3 = true := hdep 3 (by simp [ea0Dep])
   refine ⟨fun _ => ?_, fun h => absurd h (by unfold Region.wanted; rw [h3]; simp)⟩
   refine wp_pickG _ _ _ h2 false (hc.v3 l3) _ rfl ?_
   rw [h1]
   exact hK _ _ (ea0_11 hc)
  ·obtain ⟨h1, h2, h3⟩ := op_at3 ho (show (ea0Ops[12]?).map (fun o => (o.dst, o.op, o.guard)) = some ((some 6), (.assign (.tmp 31)), none) by kernel_rfl)
   rw [h1] at hK
   have l11 : L 11 = true := hdep 11 (by simp [ea0Dep])
   refine ⟨fun _ => ?_, fun h => absurd h (by unfold Region.wanted; rw [h3]; simp)⟩
   refine wp_assignG _ h2 _ (hc.v11 l11) ?_
   rw [h1]
   exact hK _ _ (ea0_12 hc)
 ·rintro L b w hL hd hs hf hc
  have hsz2 : ea0Ops.size = 13 := rfl
  rw [hsz2] at hL
  have e := act_eq (a := A0) (b := b) (ea0Us (Act.at b)) hd hs hf (by
   intro p hp
   simp only [ea0Us, List.mem_cons, List.not_mem_nil, or_false] at hp
   rcases hp with rfl | rfl | rfl | rfl | rfl | rfl | rfl | rfl | rfl | rfl | rfl | rfl | rfl <;> rfl) (by rw [show (ea0Us (Act.at b)).map (·.1) = [20, 21, 22, 23, 24, 25, 26, 27, 28, 29, 30, 31, 6] from rfl]; decide)
  have h6 := hc.v12 (hL 12 (by decide))
  have h2 := hc.w2 (hL 2 (by decide))
  rw [e]
  exact hk (Act.at b) w h6 h2
end Go.Proofs.YtfcccfplmdjndaaGreat

/- spec: Each's inner function. -/
namespace Go.Proofs.YtfcccfplmdjndaaGreat
set_option linter.unusedSimpArgs false
set_option linter.unusedVariables false
open Go.RowKit

set_option maxRecDepth 100000 in
set_option maxHeartbeats 4000000 in
theorem each1_any {s : SpV} {base gs gb gm gy gh F cb : Nat} {caps : Array Value} {ret : List Int → Bool} {Y : List Int → World → Prop} {rs : List Int} (HY : Yields F caps cb ret Y) (H : Val s.vs.length (ptT s.ts) rs) (hck : ∀ v ∈ s.vs, ckV v = 0) (hn0 : s.vs.length ≤ 2048) :
  ∀ x, x < s.vs.length → ∀ S sg w, EaS s base gs gb gm gy gh F cb caps Y S sg w → base ≤ w.heap.size → (∀ z ∈ sub (ptT s.ts) x, z ∉ S) → sg.length + (sub (ptT s.ts) x).length ≤ 4096 →
   Calls Tryz.prog 32 #[.int .i64 (x : Int), .pointer (some ⟨gs, 0, none⟩), .pointer (some ⟨gb, 0, none⟩), .pointer (some ⟨gy, 0, none⟩), .pointer (some ⟨gh, 0, none⟩)] w (EaR s base gs gb gm gy gh F cb caps ret Y x S sg w) := by
 intro x
 induction x using Nat.strongRecOn with
 | _ x ih =>
 intro hx S sg w hE hbs hz hl
 obtain ⟨b, o, hA, hbl, hPb, hrg⟩ := rw_range hE.ok.n hx
 obtain ⟨v, hv⟩ : ∃ v, v = s.vs[x] := ⟨_, rfl⟩
 have hm : v ∈ s.vs := by rw [hv]; exact List.getElem_mem _
 have hta : s.ts[x]? = some v.t := by unfold SpV.ts; rw [List.getElem?_map, List.getElem?_eq_getElem hx, hv]; rfl
 have hpt : ptT s.ts x = v.t.parts := by unfold ptT; rw [hta]; rfl
 rw [← hv] at hrg
 have hnn : s.N.n = s.vs.length := hE.ok.nn
 have hok := hE.ok.each v hm
 have HFt := hid ((ckV_fits (hck v hm) hok.kn hok.fn hok.cn).1.three)
 have x0 := Blk.at hE.bs 0
 have x1 := Blk.at hE.bs 1
 have b0 := Blk.at hE.bb 0
 simp only [List.getElem?_cons_zero, List.getElem?_cons_succ] at x0 x1 b0
 have m0 : w.cell? ⟨gm, x, none⟩ = some (.bool false) := by
  rw [Blk.at hE.me]
  simp [boolC, markL, hx, hz x (sub_self H hx)]
 have HHa := hid (fun W => has_any s.N s.D (x : Int) W)
 rw [show decide (0 ≤ (x : Int) ∧ (x : Int) < (s.N.n : Int)) = true by rw [hnn]; simpa using hx] at HHa
 obtain ⟨NA, hNA⟩ : ∃ A, s.N.A = A := ⟨_, rfl⟩
 obtain ⟨n, hNn⟩ : ∃ n, s.vs.length = n := ⟨_, rfl⟩
 rw [hnn, hNn] at x0 HHa
 rw [hA] at x0 HHa
 rw [hNn] at b0
 have hx' : (x : Int) < (n : Int) := by omega
 have hx2 : (0 : Int) ≤ (x : Int) := by omega
 obtain ⟨RR, hRR⟩ : ∃ RR, RR = EaR s base gs gb gm gy gh F cb caps ret Y x S sg w := ⟨_, rfl⟩
 rw [← hRR]
 have HRR := hid hRR
 have HE := hid hE
 have HRg := hid hrg
 have HXs := hid (And.intro x0 (And.intro x1 (And.intro b0 m0)))
 have HFr := hid (show ∀ W, Below w.heap.size w W → W.frozen? ⟨gm, x, none⟩ = false from fun W hb => Blk.free (hE.me.keep hb) x)
 have HH := hid (fun (B : Nat) (hB : w.heap.size ≤ B) => ea_hands (S := S) (sg := sg) HY H hx hz hl hbs hE.me.lt (fun y hy hyn => ih y hy hyn) B hB)
 rw [hpt] at HH
 have HXl := hid (And.intro hx (And.intro hbl (And.intro hPb hpt)))
 have HM := hid (And.intro hm (And.intro hz (And.intro hl hbs)))
 have HB0 := hid (And.intro hE.bs.lt (And.intro hE.bb.lt hE.me.lt))
 have HA := hid hA
 have HN := hid (And.intro hnn hNn)
 have hent := HY.ent
 clear hRR hE hrg hbs hz hl hm hpt hx hbl hPb ih hta hnn hNn hNA hA hok hv
 go_enter Tryz.func32, Tryz.ntmps32
 go_upto_region 4 with (first
  | (go_at_call 33; (with_reducible refine (HHa.out _).mono ?_); rintro e w1 ⟨rfl, hb1⟩; have HB1 := hid hb1; clear hb1 x0 x1 b0 m0; have b0 := (World.cell?_of_block (w := w) (a := ⟨gb, 0, none⟩) (HB1.out.block gb HB0.out.2.1)).trans HXs.out.2.2.1; have m0 := (World.cell?_of_block (w := w) (a := ⟨gm, x, none⟩) (HB1.out.block gm HB0.out.2.2)).trans HXs.out.2.2.2; have hfr := HFr.out _ HB1.out))
 have hEm := (HE.out.keep HY HB1.out).mark HY x
 have hEv : Ev cb gm w (w1.setCell ⟨gm, x, none⟩ (.bool true)) := (Ev.of_below (HY.lt _ _ HE.out.y) HB1.out).trans (Ev.set w1 (fun e => HE.out.no.2.2.1 (.inl e)) x _)
 have HRg3 := hid (range_keep HRg.out (hEv.chg.block b HXl.out.2.1 (fun e => e.elim (fun e => by have h1 := HE.out.bl.2; have h2 := HXl.out.2.2.1; omega) (HE.out.nP b HXl.out.2.2.1))))
 have hbl3 : b < (w1.setCell ⟨gm, x, none⟩ (.bool true)).heap.size := Nat.lt_of_lt_of_le HXl.out.2.1 hEv.chg.size
 have hbs3 : base ≤ (w1.setCell ⟨gm, x, none⟩ (.bool true)).heap.size := Nat.le_trans HM.out.2.2.2 hEv.chg.size
 clear b0 m0 hfr
 change Code.wp _ _ _ _ (w1.setCell ⟨gm, x, none⟩ (.bool true))
 generalize w1.setCell ⟨gm, x, none⟩ (.bool true) = w3 at *
 have HE3 := hid hEm
 have HV3 := hid hEv
 have HL3 := hid (And.intro hbl3 hbs3)
 have y0 := Blk.at hEm.yb 0
 simp only [List.getElem?_cons_zero] at y0
 have HYc := hid (fun W (hb : Below w3.heap.size w3 W) => HY.call sg x W (HE3.out.keep HY hb).y (by have := HM.out.2.2.1; have := sub_self H HXl.out.1; have := List.length_pos_of_mem this; omega))
 clear hEm hEv hbl3 hbs3
 cases hr : ret (sg ++ [(x : Int)])
 ·rw [hr] at HYc
  refine ea0_reg (F := F) (gy := gy) (x := x) (caps := caps) (Post := fun w5 => Y (sg ++ [(x : Int)]) w5 ∧ Chg w3.drew w5 (Own cb w3.drew) ∧ ∀ k, k < w3.drew.heap.size → ¬ Own cb w3.drew k → ¬ Own cb w5 k) rfl rfl (by simp) y0 HY.ent ((HYc.out _ (below_draw (Below.refl _ _))).mono (by rintro e w' ⟨rfl, h⟩; exact ⟨_, rfl, rfl, h⟩)) ?_
  rintro f w5 h6 ⟨hy5, hc5, ho5⟩
  have HE5 := hid ((HE3.out.keep HY (below_draw (Below.refl w3.heap.size w3))).went hy5 hc5 ho5 HL3.out.2)
  have HV5 := hid (show Ev cb gm w w5 from (HV3.out.trans (Ev.of_below (HY.lt _ _ HE3.out.y) (below_draw (Below.refl _ _)))).trans ⟨⟨hc5.os, hc5.tape, hc5.output, hc5.size, fun k hk hn => hc5.block k hk (fun e => hn (.inr e))⟩, ho5⟩)
  clear hy5 hc5 ho5 y0
  simp only [ea0Us, List.foldl_cons, List.foldl_nil, List.setIfInBounds_toArray, List.set_cons_zero, List.set_cons_succ, h6]
  go_wp2_with fail
  show RR (.returned (.bool false)) w5
  rw [HRR.out]
  have hsub := sub_eq H x HXl.out.1
  have hv : vis ret (sub (ptT s.ts) x) sg = (false, sg ++ [(x : Int)]) := by rw [hsub]; simp [vis, hr]
  exact ⟨by rw [hv], HV5.out, _, by rw [hv]; exact HE5.out, fun e => by rw [hv] at e; cases e⟩
 ·rw [hr] at HYc
  go_region_with (first
   | ((with_reducible refine (HYc.out _ (below_draw (Below.refl _ _))).mono ?_); rintro e w5 ⟨rfl, hy5, hc5, ho5⟩; have HE5 := hid ((HE3.out.keep HY (below_draw (Below.refl w3.heap.size w3))).went hy5 hc5 ho5 HL3.out.2); have HV5 := hid (show Ev cb gm w w5 from (HV3.out.trans (Ev.of_below (HY.lt _ _ HE3.out.y) (below_draw (Below.refl _ _)))).trans ⟨⟨hc5.os, hc5.tape, hc5.output, hc5.size, fun k hk hn => hc5.block k hk (fun e => hn (.inr e))⟩, ho5⟩); clear hy5 hc5 ho5 y0; have x0 := Blk.at HE5.out.bs 0; have h0 := Blk.at HE5.out.hb 0; simp only [List.getElem?_cons_zero] at x0 h0; rw [HN.out.1, HN.out.2] at x0; rw [HA.out] at x0; have HRg5 := hid (range_keep HRg.out (HV5.out.chg.block b HXl.out.2.1 (fun e => e.elim (fun e => by have h1 := HE.out.bl.2; have h2 := HXl.out.2.2.1; omega) (HE.out.nP b HXl.out.2.2.1)))); have k0 : w5.cell? ⟨b, o + x * 18, none⟩ = some (.int .i64 v.t.k) := HRg5.out 0 _ rfl; have k1 : w5.cell? ⟨b, o + x * 18 + 1, none⟩ = some (.int .i64 v.t.wd) := HRg5.out 1 _ rfl; have k2 : w5.cell? ⟨b, o + x * 18 + 2, none⟩ = some (.bool v.t.li) := HRg5.out 2 _ rfl; have k3 : w5.cell? ⟨b, o + x * 18 + 3, none⟩ = some (.bool v.t.zg) := HRg5.out 3 _ rfl; have k4 : w5.cell? ⟨b, o + x * 18 + 4, none⟩ = some (.bool v.t.le) := HRg5.out 4 _ rfl; have k5 : w5.cell? ⟨b, o + x * 18 + 5, none⟩ = some (.int .u64 (v.t.mn : Int)) := HRg5.out 5 _ rfl; have k6 : w5.cell? ⟨b, o + x * 18 + 6, none⟩ = some (.int .u64 (v.t.mx : Int)) := HRg5.out 6 _ rfl; have k7 : w5.cell? ⟨b, o + x * 18 + 7, none⟩ = some (.string v.t.tx) := HRg5.out 7 _ rfl; have k8 : w5.cell? ⟨b, o + x * 18 + 8, none⟩ = some (.string v.t.er) := HRg5.out 8 _ rfl; have k9 : w5.cell? ⟨b, o + x * 18 + 9, none⟩ = some (.int .u64 (v.t.mu : Int)) := HRg5.out 9 _ rfl; have k10 : w5.cell? ⟨b, o + x * 18 + 10, none⟩ = some (.int .u64 (v.t.ad : Int)) := HRg5.out 10 _ rfl; have k11 : w5.cell? ⟨b, o + x * 18 + 11, none⟩ = some (.slice v.K.A v.K.n v.K.c) := HRg5.out 11 _ rfl; have k12 : w5.cell? ⟨b, o + x * 18 + 12, none⟩ = some (.slice v.L.A v.L.n v.L.c) := HRg5.out 12 _ rfl; have k13 : w5.cell? ⟨b, o + x * 18 + 13, none⟩ = some (.slice v.F.A v.F.n v.F.c) := HRg5.out 13 _ rfl; have k14 : w5.cell? ⟨b, o + x * 18 + 14, none⟩ = some (.string v.t.rg) := HRg5.out 14 _ rfl; have k15 : w5.cell? ⟨b, o + x * 18 + 15, none⟩ = some (.int .u64 (v.t.md : Int)) := HRg5.out 15 _ rfl; have k16 : w5.cell? ⟨b, o + x * 18 + 16, none⟩ = some (.slice v.C.A v.C.n v.C.c) := HRg5.out 16 _ rfl; have k17 : w5.cell? ⟨b, o + x * 18 + 17, none⟩ = some (.int .i64 v.t.el) := HRg5.out 17 _ rfl; have HPc := hid (parts_any v w5 (HH.out w5.heap.size HV5.out.chg.size) (fun i W h => h.2.2.1.ok.each v HM.out.1) ⟨HV5.out, (fun e => Nat.lt_irrefl _ (HY.ob _ _ _ HE5.out.y e)), (by rw [show vis ret (subP (ptT s.ts) x 0) sg = (true, sg ++ [(x : Int)]) by rw [subP_zero]; simp [vis, hr]]; exact HE5.out), (by rw [subP_zero]; simp [vis, hr])⟩ HFt.out); unfold NV.val at HPc)
   | ((with_reducible refine HPc.out.mono ?_); rintro e w6 ⟨bb, rfl, ht, hf⟩; have HT6 := hid ht; have HF6 := hid hf; clear ht hf x0 h0 k0 k1 k2 k3 k4 k5 k6 k7 k8 k9 k10 k11 k12 k13 k14 k15 k16 k17))
  all_goals
   go_wp2_with fail
   go_ret
   show RR (.returned (.bool bb)) w6
   rw [HRR.out]
   have hpl : v.t.parts.length = (ptT s.ts x).length := by rw [HXl.out.2.2.2]
   cases bb
   ·obtain ⟨hev, ⟨S', hE⟩, hv⟩ := HF6.out rfl
    exact ⟨by rw [hv], hev, S', hE, fun e => by rw [hv] at e; cases e⟩
   ·obtain ⟨hev, hno, hE, hv⟩ := HT6.out rfl
    rw [hpl, subP_all H x HXl.out.1] at hE hv
    exact ⟨by rw [hv], hev, _, hE, fun _ => rfl⟩
end Go.Proofs.YtfcccfplmdjndaaGreat

/- spec: Each. -/
namespace Go.Proofs.YtfcccfplmdjndaaGreat
set_option linter.unusedSimpArgs false
set_option linter.unusedVariables false
open Go.RowKit

theorem store_fn {W : World} {p : Addr} {u : Value} (g : Fn) (cs : Array Value) (hc : W.cell? p = some u) (hf : W.frozen? p = false) : Sem.run Tryz.prog (store p (.func g #[] cs)) W = .ok () (W.setCell p (.func g #[] cs)) := by
 rw [run_store _ _ _ _ _ rfl]
 simp [hc, hf]
theorem nil_no (F : Nat) (caps : Array Value) (W : World) : Sem.run Tryz.prog (binOp BinOp.eql 45 (.func (.func F) #[] caps) .nilFunc) W = .ok (.bool false) W := by kernel_rfl
set_option maxRecDepth 100000 in
set_option maxHeartbeats 4000000 in
theorem Each_any {s : SpV} {base F cb : Nat} {caps : Array Value} {ret : List Int → Bool} {Y : List Int → World → Prop} {rs : List Int} (HY : Yields F caps cb ret Y) (H : Val s.vs.length (ptT s.ts) rs) (hck : ∀ v ∈ s.vs, ckV v = 0) (hn0 : s.vs.length ≤ 2048)
  (x : Nat) (hx : x < s.vs.length) (sg : List Int) (w : World) (hO : SpecOk w (· < base) s) (hbs : base ≤ w.heap.size) (hy : Y sg w) (hnP : ∀ b, b < base → ¬ Own cb w b) (hl : sg.length + (sub (ptT s.ts) x).length ≤ 4096) :
  Calls Tryz.prog 13 #[s.val, .int .i64 (x : Int), .func (.func F) #[] caps] w fun e w' => e = .returned (.bool (vis ret (sub (ptT s.ts) x) sg).1) ∧ Y (vis ret (sub (ptT s.ts) x) sg).2 w' ∧ Chg w w' (Own cb w) ∧ ∀ k, k < w.heap.size → ¬ Own cb w k → ¬ Own cb w' k := by
 obtain ⟨hbx, hb0⟩ := spec_box w (.slice s.N.A s.N.n s.N.c) (.slice s.D.A s.D.n s.D.c)
 have HB := hid hbx
 have HX := hid hb0
 clear hbx hb0
 have hnn : s.N.n = s.vs.length := hO.nn
 obtain ⟨n, hn⟩ : ∃ n, s.N.n = n := ⟨_, rfl⟩
 have hnb : n ≤ 2048 := by omega
 have hent := HY.ent
 have hnil := fun W => nil_no F caps W
 have hmk := fun W => mk_boolz n (by omega) W
 unfold SpV.val
 rw [hn] at HB HX ⊢
 obtain ⟨RR, hRR⟩ : ∃ RR : Ending → World → Prop, RR = fun e w' => e = .returned (.bool (vis ret (sub (ptT s.ts) x) sg).1) ∧ Y (vis ret (sub (ptT s.ts) x) sg).2 w' ∧ Chg w w' (Own cb w) ∧ ∀ k, k < w.heap.size → ¬ Own cb w k → ¬ Own cb w' k := ⟨_, rfl⟩
 rw [← hRR]
 have HRR := hid hRR
 have HA := hid (And.intro hx (And.intro hO (And.intro hbs (And.intro hy (And.intro hnP hl)))))
 have HN := hid (And.intro hnn hn)
 clear hRR hO hbs hy hnP hl hnn hn hx
 go_enter Tryz.func13, Tryz.ntmps13
 go_upto_region 5 with (fail)
 change Code.wp _ _ _ _ (((((w.alloc (.cells #[.slice s.N.A n s.N.c, .slice s.D.A s.D.n s.D.c] 32)).alloc (.cells #[.func (.func F) #[] caps] 45)).alloc (.cells (boolC (List.replicate n false)).toArray 4)).alloc (.cells #[.slice (some ⟨w.heap.size + 1 + 1, 0, none⟩) n n] 50)).alloc (.cells #[.nilFunc] 45))
 have S0 : w.heap.size = w.heap.size := rfl
 have A1 := (Below.refl w.heap.size w).alloc (Nat.le_refl _) (.cells #[.slice s.N.A n s.N.c, .slice s.D.A s.D.n s.D.c] 32)
 have K1 : Blk (w.alloc (.cells #[.slice s.N.A n s.N.c, .slice s.D.A s.D.n s.D.c] 32)) w.heap.size 32 [.slice s.N.A n s.N.c, .slice s.D.A s.D.n s.D.c] := heap_alloc_new w _
 have S1 : (w.alloc (.cells #[.slice s.N.A n s.N.c, .slice s.D.A s.D.n s.D.c] 32)).heap.size = w.heap.size + 1 := by rw [World.size_alloc, S0]
 rw [S0] at K1
 generalize w.alloc (.cells #[.slice s.N.A n s.N.c, .slice s.D.A s.D.n s.D.c] 32) = W1 at *
 have A2 := (Below.refl W1.heap.size W1).alloc (Nat.le_refl _) (.cells #[.func (.func F) #[] caps] 45)
 have K2 : Blk (W1.alloc (.cells #[.func (.func F) #[] caps] 45)) W1.heap.size 45 [.func (.func F) #[] caps] := heap_alloc_new W1 _
 have S2 : (W1.alloc (.cells #[.func (.func F) #[] caps] 45)).heap.size = w.heap.size + 1 + 1 := by rw [World.size_alloc, S1]
 rw [S1] at K2
 replace K1 := K1.keep A2
 replace A2 := A1.trans (A2.mono A1.size)
 clear A1
 have A1 := A2
 clear A2
 generalize W1.alloc (.cells #[.func (.func F) #[] caps] 45) = W2 at *
 have A3 := (Below.refl W2.heap.size W2).alloc (Nat.le_refl _) (.cells (boolC (List.replicate n false)).toArray 4)
 have K3 : Blk (W2.alloc (.cells (boolC (List.replicate n false)).toArray 4)) W2.heap.size 4 (boolC (List.replicate n false)) := heap_alloc_new W2 _
 have S3 : (W2.alloc (.cells (boolC (List.replicate n false)).toArray 4)).heap.size = w.heap.size + 1 + 1 + 1 := by rw [World.size_alloc, S2]
 rw [S2] at K3
 replace K1 := K1.keep A3
 replace K2 := K2.keep A3
 replace A3 := A1.trans (A3.mono A1.size)
 clear A1
 have A1 := A3
 clear A3
 generalize W2.alloc (.cells (boolC (List.replicate n false)).toArray 4) = W3 at *
 have A4 := (Below.refl W3.heap.size W3).alloc (Nat.le_refl _) (.cells #[.slice (some ⟨w.heap.size + 1 + 1, 0, none⟩) n n] 50)
 have K4 : Blk (W3.alloc (.cells #[.slice (some ⟨w.heap.size + 1 + 1, 0, none⟩) n n] 50)) W3.heap.size 50 [.slice (some ⟨w.heap.size + 1 + 1, 0, none⟩) n n] := heap_alloc_new W3 _
 have S4 : (W3.alloc (.cells #[.slice (some ⟨w.heap.size + 1 + 1, 0, none⟩) n n] 50)).heap.size = w.heap.size + 1 + 1 + 1 + 1 := by rw [World.size_alloc, S3]
 rw [S3] at K4
 replace K1 := K1.keep A4
 replace K2 := K2.keep A4
 replace K3 := K3.keep A4
 replace A4 := A1.trans (A4.mono A1.size)
 clear A1
 have A1 := A4
 clear A4
 generalize W3.alloc (.cells #[.slice (some ⟨w.heap.size + 1 + 1, 0, none⟩) n n] 50) = W4 at *
 have A5 := (Below.refl W4.heap.size W4).alloc (Nat.le_refl _) (.cells #[.nilFunc] 45)
 have K5 : Blk (W4.alloc (.cells #[.nilFunc] 45)) W4.heap.size 45 [.nilFunc] := heap_alloc_new W4 _
 have S5 : (W4.alloc (.cells #[.nilFunc] 45)).heap.size = w.heap.size + 1 + 1 + 1 + 1 + 1 := by rw [World.size_alloc, S4]
 rw [S4] at K5
 replace K1 := K1.keep A5
 replace K2 := K2.keep A5
 replace K3 := K3.keep A5
 replace K4 := K4.keep A5
 replace A5 := A1.trans (A5.mono A1.size)
 clear A1
 have A1 := A5
 clear A5
 generalize W4.alloc (.cells #[.nilFunc] 45) = W5 at *
 have y0 := Blk.at K5 0
 have hfz := Blk.free K5 0
 simp only [List.getElem?_cons_zero] at y0
 have hst := fun g cs => store_fn g cs y0 hfz
 go_upto_region 6 with (fail)
 obtain ⟨hx, hO, hbs, hy, hnP, hl⟩ := HA.out
 have hcl := HY.lt _ _ hy
 have hB6 : Below w.heap.size w (W5.setCell ⟨w.heap.size + 1 + 1 + 1 + 1, 0, none⟩ (.func (.func 32) #[] #[.pointer (some ⟨w.heap.size, 0, none⟩), .pointer (some ⟨w.heap.size + 1 + 1 + 1, 0, none⟩), .pointer (some ⟨w.heap.size + 1, 0, none⟩), .pointer (some ⟨w.heap.size + 1 + 1 + 1 + 1, 0, none⟩)])) := A1.setCell (by show w.heap.size ≤ w.heap.size + 1 + 1 + 1 + 1; omega) _
 have hown : ∀ k, Own cb (W5.setCell ⟨w.heap.size + 1 + 1 + 1 + 1, 0, none⟩ (.func (.func 32) #[] #[.pointer (some ⟨w.heap.size, 0, none⟩), .pointer (some ⟨w.heap.size + 1 + 1 + 1, 0, none⟩), .pointer (some ⟨w.heap.size + 1, 0, none⟩), .pointer (some ⟨w.heap.size + 1 + 1 + 1 + 1, 0, none⟩)])) k ↔ Own cb w k := fun k => own_same (hB6.block cb hcl) k
 have hno : ∀ k, w.heap.size ≤ k → ¬ Own cb (W5.setCell ⟨w.heap.size + 1 + 1 + 1 + 1, 0, none⟩ (.func (.func 32) #[] #[.pointer (some ⟨w.heap.size, 0, none⟩), .pointer (some ⟨w.heap.size + 1 + 1 + 1, 0, none⟩), .pointer (some ⟨w.heap.size + 1, 0, none⟩), .pointer (some ⟨w.heap.size + 1 + 1 + 1 + 1, 0, none⟩)])) k := fun k hk e => by have := HY.ob _ _ k hy ((hown k).1 e); omega
 have k1 := K1.other (p := ⟨w.heap.size + 1 + 1 + 1 + 1, 0, none⟩) (by show w.heap.size ≠ w.heap.size + 1 + 1 + 1 + 1; omega) (.func (.func 32) #[] #[.pointer (some ⟨w.heap.size, 0, none⟩), .pointer (some ⟨w.heap.size + 1 + 1 + 1, 0, none⟩), .pointer (some ⟨w.heap.size + 1, 0, none⟩), .pointer (some ⟨w.heap.size + 1 + 1 + 1 + 1, 0, none⟩)])
 have k2 := K2.other (p := ⟨w.heap.size + 1 + 1 + 1 + 1, 0, none⟩) (by show w.heap.size + 1 ≠ w.heap.size + 1 + 1 + 1 + 1; omega) (.func (.func 32) #[] #[.pointer (some ⟨w.heap.size, 0, none⟩), .pointer (some ⟨w.heap.size + 1 + 1 + 1, 0, none⟩), .pointer (some ⟨w.heap.size + 1, 0, none⟩), .pointer (some ⟨w.heap.size + 1 + 1 + 1 + 1, 0, none⟩)])
 have k3 := K3.other (p := ⟨w.heap.size + 1 + 1 + 1 + 1, 0, none⟩) (by show w.heap.size + 1 + 1 ≠ w.heap.size + 1 + 1 + 1 + 1; omega) (.func (.func 32) #[] #[.pointer (some ⟨w.heap.size, 0, none⟩), .pointer (some ⟨w.heap.size + 1 + 1 + 1, 0, none⟩), .pointer (some ⟨w.heap.size + 1, 0, none⟩), .pointer (some ⟨w.heap.size + 1 + 1 + 1 + 1, 0, none⟩)])
 have k4 := K4.other (p := ⟨w.heap.size + 1 + 1 + 1 + 1, 0, none⟩) (by show w.heap.size + 1 + 1 + 1 ≠ w.heap.size + 1 + 1 + 1 + 1; omega) (.func (.func 32) #[] #[.pointer (some ⟨w.heap.size, 0, none⟩), .pointer (some ⟨w.heap.size + 1 + 1 + 1, 0, none⟩), .pointer (some ⟨w.heap.size + 1, 0, none⟩), .pointer (some ⟨w.heap.size + 1 + 1 + 1 + 1, 0, none⟩)])
 have k5 := K5.put 0 (.func (.func 32) #[] #[.pointer (some ⟨w.heap.size, 0, none⟩), .pointer (some ⟨w.heap.size + 1 + 1 + 1, 0, none⟩), .pointer (some ⟨w.heap.size + 1, 0, none⟩), .pointer (some ⟨w.heap.size + 1 + 1 + 1 + 1, 0, none⟩)])
 have hE : EaS s base w.heap.size (w.heap.size + 1 + 1 + 1) (w.heap.size + 1 + 1) (w.heap.size + 1) (w.heap.size + 1 + 1 + 1 + 1) F cb caps Y [] sg (W5.setCell ⟨w.heap.size + 1 + 1 + 1 + 1, 0, none⟩ (.func (.func 32) #[] #[.pointer (some ⟨w.heap.size, 0, none⟩), .pointer (some ⟨w.heap.size + 1 + 1 + 1, 0, none⟩), .pointer (some ⟨w.heap.size + 1, 0, none⟩), .pointer (some ⟨w.heap.size + 1 + 1 + 1 + 1, 0, none⟩)])) :=
  ⟨by rw [HN.out.2]; exact k1, by rw [← HN.out.1, HN.out.2]; exact k4, by
   rw [show markL s.vs.length [] = List.replicate n false by rw [← HN.out.1, HN.out.2]; simp [markL, List.map_const']]
   exact k3, k2, k5, hO.keep hB6, HY.keep _ _ _ (fun _ => False) hy (Chg.of_below hB6 _) (fun _ e => e.elim), ⟨hno _ (by omega), hno _ (by omega), hno _ (by omega), hno _ (by omega), hno _ (by omega)⟩, fun b hb e => hnP b hb ((hown b).1 e), ⟨hbs, by omega⟩⟩
 have HC := hid (each1_any HY H hck hn0 x hx [] sg (W5.setCell ⟨w.heap.size + 1 + 1 + 1 + 1, 0, none⟩ (.func (.func 32) #[] #[.pointer (some ⟨w.heap.size, 0, none⟩), .pointer (some ⟨w.heap.size + 1 + 1 + 1, 0, none⟩), .pointer (some ⟨w.heap.size + 1, 0, none⟩), .pointer (some ⟨w.heap.size + 1 + 1 + 1 + 1, 0, none⟩)])) hE (Nat.le_trans hbs hB6.size) (fun z _ => by simp) hl)
 have h5 := Blk.at k5 0
 simp only [List.set_cons_zero, List.getElem?_cons_zero] at h5
 have hent1 := enters_of Tryz.func32 (by kernel_rfl) rfl
 have HB6 := hid (And.intro hB6 (And.intro hown (And.intro hno hcl)))
 clear hB6 hown hno k1 k2 k3 k4 k5 hE K1 K2 K3 K4 K5 A1 hx hO hbs hy hnP hl hcl y0 hfz hst hnil hmk S0 S1 S2 S3 S4 S5
 change Code.wp _ _ _ _ (W5.setCell ⟨w.heap.size + 1 + 1 + 1 + 1, 0, none⟩ (.func (.func 32) #[] #[.pointer (some ⟨w.heap.size, 0, none⟩), .pointer (some ⟨w.heap.size + 1 + 1 + 1, 0, none⟩), .pointer (some ⟨w.heap.size + 1, 0, none⟩), .pointer (some ⟨w.heap.size + 1 + 1 + 1 + 1, 0, none⟩)]))
 generalize (W5.setCell ⟨w.heap.size + 1 + 1 + 1 + 1, 0, none⟩ (.func (.func 32) #[] #[.pointer (some ⟨w.heap.size, 0, none⟩), .pointer (some ⟨w.heap.size + 1 + 1 + 1, 0, none⟩), .pointer (some ⟨w.heap.size + 1, 0, none⟩), .pointer (some ⟨w.heap.size + 1 + 1 + 1 + 1, 0, none⟩)])) = W6 at *
 go_wp2_with fail
 refine HC.out.mono ?_
 rintro e w7 ⟨rfl, hev, S', hE, _⟩
 go_wp2_with fail
 try go_ret
 show RR (.returned (.bool (vis ret (sub (ptT s.ts) x) sg).1)) w7
 rw [HRR.out]
 refine ⟨rfl, hE.y, ⟨hev.chg.os.trans HB6.out.1.os, hev.chg.tape.trans HB6.out.1.tape, hev.chg.output.trans HB6.out.1.output, Nat.le_trans HB6.out.1.size hev.chg.size, fun k hk hn => ?_⟩, fun k hk hn => hev.old k (Nat.lt_of_lt_of_le hk HB6.out.1.size) (fun e => hn ((HB6.out.2.1 k).1 e))⟩
 rw [hev.chg.block k (Nat.lt_of_lt_of_le hk HB6.out.1.size) (fun e => e.elim (fun e => by omega) (fun e => hn ((HB6.out.2.1 k).1 e))), HB6.out.1.block k hk]
end Go.Proofs.YtfcccfplmdjndaaGreat
