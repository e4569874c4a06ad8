/- spec: Each's inner function's last statement, where yield answers no. -/
import Derived.Test.YthjfhenldkihkaaSpEb
namespace Go.Proofs.Ythjfhenldkihkaa
set_option linter.unusedSimpArgs false
set_option linter.unusedVariables false
open Go.RowKit

theorem wp_callV {P : Program} {o : Oper} {a : Act} {w : World} {K : Act → World → Prop} {Q : Exit → Act → World → Prop} (c : Operand) (f : FuncId) (caps : Array Value) (args : Array Operand) (tys : Array TypeId) (ho : o.op = .call { callee := .value c, args := args, argTypes := tys }) (hc : a.eval c = .func (.func f) #[] caps)
    (he : ∀ args w, (callFunc f args).run P w = .ok (.enter f args) w) (vs : Array Value) (hvs : args.map a.eval = vs) (R : Value → World → Prop) (h : Calls P f (vs ++ caps) w fun e w' => ∃ v, e = .returned v ∧ R v w') (hk : ∀ v w', R v w' → K (a.put o.dst v) w') : o.wp P a w K Q := by
  unfold Oper.wp
  have e : (execOp a.eval o).run P w = .ok (.enter f (args.map a.eval ++ caps)) w := by
    unfold execOp
    simp only [ho, resolve, hc]
    go_simp
  rw [e, Oper.upon_enter, hvs]
  refine h.mono ?_
  rintro _ w' ⟨v, rfl, hr⟩
  exact hk v w' hr
def ea0Ops : Array Oper := #[{ dst := some 20, op := Op.load 34 (Operand.tmp 3), type := 34, pos := "spec.go:109", after := #[], guard := none }, { dst := some 21, op := Op.move (Operand.tmp 0), type := 3, pos := "spec.go:109", after := #[], guard := none }, { dst := some 22, op := Op.call { callee := Callee.value (Operand.tmp 20), args := #[Operand.tmp 21], argTypes := #[3] }, type := 4, pos := "spec.go:109", after := #[{ on := 0, ground := Ground.data }, { on := 1, ground := Ground.data }], guard := none }, { dst := some 23, op := Op.move (Operand.tmp 22), type := 4, pos := "spec.go:109", after := #[{ on := 2, ground := Ground.data }, { on := 2, ground := Ground.chain }], guard := none }, { dst := some 24, op := Op.fieldAddr 25 (Operand.tmp 1) 0, type := 0, pos := "spec.go:109", after := #[{ on := 3, ground := Ground.guard }], guard := some (3, true) }, { dst := some 25, op := Op.load 22 (Operand.tmp 24), type := 22, pos := "spec.go:109", after := #[{ on := 4, ground := Ground.data }, { on := 3, ground := Ground.guard }], guard := some (3, true) }, { dst := some 26, op := Op.move (Operand.tmp 0), type := 3, pos := "spec.go:109", after := #[{ on := 3, ground := Ground.guard }], guard := some (3, true) }, { dst := some 27, op := Op.indexAddr 22 (Operand.tmp 25) (Operand.tmp 26), type := 0, pos := "spec.go:109", after := #[{ on := 5, ground := Ground.data }, { on := 6, ground := Ground.data }, { on := 3, ground := Ground.guard }], guard := some (3, true) }, { dst := some 28, op := Op.load 49 (Operand.tmp 27), type := 49, pos := "spec.go:109", after := #[{ on := 7, ground := Ground.data }, { on := 3, ground := Ground.guard }], guard := some (3, true) }, { dst := some 29, op := Op.load 34 (Operand.tmp 4), type := 34, pos := "spec.go:109", after := #[{ on := 3, ground := Ground.guard }], guard := some (3, true) }, { dst := some 30, op := Op.call { callee := Callee.value (Operand.func 27), args := #[Operand.tmp 28, Operand.tmp 29], argTypes := #[49, 34] }, type := 4, pos := "spec.go:109", after := #[{ on := 8, ground := Ground.data }, { on := 9, ground := Ground.data }, { on := 3, ground := Ground.chain }, { on := 3, ground := Ground.guard }], guard := some (3, true) }, { dst := some 31, op := Op.pick (Operand.tmp 23) (Operand.tmp 30) (Operand.const (Value.bool false)), type := 4, pos := "spec.go:109", after := #[{ on := 3, ground := Ground.data }, { on := 10, ground := Ground.data }], guard := none }, { dst := some 6, op := Op.assign (Operand.tmp 31), type := 4, pos := "spec.go:109", after := #[{ on := 11, ground := Ground.data }, { on := 10, ground := Ground.chain }, { on := 0, ground := Ground.phase }, { on := 1, ground := Ground.phase }, { on := 2, ground := Ground.phase }, { on := 3, ground := Ground.phase }, { on := 4, ground := Ground.phase }, { on := 5, ground := Ground.phase }, { on := 6, ground := Ground.phase }, { on := 7, ground := Ground.phase }, { on := 8, ground := Ground.phase }, { on := 9, ground := Ground.phase }, { on := 10, ground := Ground.phase }, { on := 11, ground := Ground.phase }], guard := none }]
def ea0Dep : Nat → List Nat := fun i => match i with | 2 => [0, 1] | 3 => [2] | 4 => [3] | 5 => [3] | 6 => [3] | 7 => [3] | 8 => [3] | 9 => [3] | 10 => [3] | 11 => [3] | 12 => [11] | _ => []
structure ea0C (F : Nat) (caps : Array Value) (x : Nat) (W1 : World) (Post : World → Prop) (L : Nat → Bool) (f : Nat → Value) (w : World) : Prop where
  v0 : L 0 = true → f 20 = .func (.func F) #[] caps
  v1 : L 1 = true → f 21 = .int .i64 (x : Int)
  v2 : L 2 = true → f 22 = .bool false
  v3 : L 3 = true → f 23 = .bool false
  v11 : L 11 = true → f 31 = .bool false
  v12 : L 12 = true → f 6 = .bool false
  wz : L 2 = false → w = W1
  w2 : L 2 = true → Post w
  d2 : L 2 = true → L 0 = true
theorem ea0_0 {F : Nat} {caps : Array Value} {x : Nat} {W1 : World} {Post : World → Prop} {L : Nat → Bool} {f : Nat → Value} {w : World} (h : ea0C F caps x W1 Post L f w) : ea0C F caps x W1 Post (fun k => if k = 0 then true else L k) (fun t => if (some 20 : Option Nat) = some t then .func (.func F) #[] caps else f t) w where
  v0 := fun _ => by simp
  v1 := by simpa using h.v1
  v2 := by simpa using h.v2
  v3 := by simpa using h.v3
  v11 := by simpa using h.v11
  v12 := by simpa using h.v12
  wz := by simpa using h.wz
  w2 := by simpa using h.w2
  d2 := fun _ => by simp
theorem ea0_1 {F : Nat} {caps : Array Value} {x : Nat} {W1 : World} {Post : World → Prop} {L : Nat → Bool} {f : Nat → Value} {w : World} (h : ea0C F caps x W1 Post L f w) : ea0C F caps x W1 Post (fun k => if k = 1 then true else L k) (fun t => if (some 21 : Option Nat) = some t then .int .i64 (x : Int) else f t) w where
  v0 := by simpa using h.v0
  v1 := fun _ => by simp
  v2 := by simpa using h.v2
  v3 := by simpa using h.v3
  v11 := by simpa using h.v11
  v12 := by simpa using h.v12
  wz := by simpa using h.wz
  w2 := by simpa using h.w2
  d2 := by simpa using h.d2
theorem ea0_2 {F : Nat} {caps : Array Value} {x : Nat} {W1 : World} {Post : World → Prop} {L : Nat → Bool} {f : Nat → Value} {w : World} {w2 : World} (h : ea0C F caps x W1 Post L f w) (h0 : L 0 = true) (hp : Post w2) : ea0C F caps x W1 Post (fun k => if k = 2 then true else L k) (fun t => if (some 22 : Option Nat) = some t then .bool false else f t) w2 where
  v0 := by simpa using h.v0
  v1 := by simpa using h.v1
  v2 := fun _ => by simp
  v3 := by simpa using h.v3
  v11 := by simpa using h.v11
  v12 := by simpa using h.v12
  wz := by simp
  w2 := fun _ => hp
  d2 := fun _ => by simpa using h0
theorem ea0_3 {F : Nat} {caps : Array Value} {x : Nat} {W1 : World} {Post : World → Prop} {L : Nat → Bool} {f : Nat → Value} {w : World} (h : ea0C F caps x W1 Post L f w) : ea0C F caps x W1 Post (fun k => if k = 3 then true else L k) (fun t => if (some 23 : Option Nat) = some t then .bool false else f t) w where
  v0 := by simpa using h.v0
  v1 := by simpa using h.v1
  v2 := by simpa using h.v2
  v3 := fun _ => by simp
  v11 := by simpa using h.v11
  v12 := by simpa using h.v12
  wz := by simpa using h.wz
  w2 := by simpa using h.w2
  d2 := by simpa using h.d2
theorem ea0_4 {F : Nat} {caps : Array Value} {x : Nat} {W1 : World} {Post : World → Prop} {L : Nat → Bool} {f : Nat → Value} {w : World} (h : ea0C F caps x W1 Post L f w) : ea0C F caps x W1 Post (fun k => if k = 4 then true else L k) (fun t => if (some 24 : Option Nat) = some t then undef else f t) w where
  v0 := by simpa using h.v0
  v1 := by simpa using h.v1
  v2 := by simpa using h.v2
  v3 := by simpa using h.v3
  v11 := by simpa using h.v11
  v12 := by simpa using h.v12
  wz := by simpa using h.wz
  w2 := by simpa using h.w2
  d2 := by simpa using h.d2
theorem ea0_5 {F : Nat} {caps : Array Value} {x : Nat} {W1 : World} {Post : World → Prop} {L : Nat → Bool} {f : Nat → Value} {w : World} (h : ea0C F caps x W1 Post L f w) : ea0C F caps x W1 Post (fun k => if k = 5 then true else L k) (fun t => if (some 25 : Option Nat) = some t then undef else f t) w where
  v0 := by simpa using h.v0
  v1 := by simpa using h.v1
  v2 := by simpa using h.v2
  v3 := by simpa using h.v3
  v11 := by simpa using h.v11
  v12 := by simpa using h.v12
  wz := by simpa using h.wz
  w2 := by simpa using h.w2
  d2 := by simpa using h.d2
theorem ea0_6 {F : Nat} {caps : Array Value} {x : Nat} {W1 : World} {Post : World → Prop} {L : Nat → Bool} {f : Nat → Value} {w : World} (h : ea0C F caps x W1 Post L f w) : ea0C F caps x W1 Post (fun k => if k = 6 then true else L k) (fun t => if (some 26 : Option Nat) = some t then undef else f t) w where
  v0 := by simpa using h.v0
  v1 := by simpa using h.v1
  v2 := by simpa using h.v2
  v3 := by simpa using h.v3
  v11 := by simpa using h.v11
  v12 := by simpa using h.v12
  wz := by simpa using h.wz
  w2 := by simpa using h.w2
  d2 := by simpa using h.d2
theorem ea0_7 {F : Nat} {caps : Array Value} {x : Nat} {W1 : World} {Post : World → Prop} {L : Nat → Bool} {f : Nat → Value} {w : World} (h : ea0C F caps x W1 Post L f w) : ea0C F caps x W1 Post (fun k => if k = 7 then true else L k) (fun t => if (some 27 : Option Nat) = some t then undef else f t) w where
  v0 := by simpa using h.v0
  v1 := by simpa using h.v1
  v2 := by simpa using h.v2
  v3 := by simpa using h.v3
  v11 := by simpa using h.v11
  v12 := by simpa using h.v12
  wz := by simpa using h.wz
  w2 := by simpa using h.w2
  d2 := by simpa using h.d2
theorem ea0_8 {F : Nat} {caps : Array Value} {x : Nat} {W1 : World} {Post : World → Prop} {L : Nat → Bool} {f : Nat → Value} {w : World} (h : ea0C F caps x W1 Post L f w) : ea0C F caps x W1 Post (fun k => if k = 8 then true else L k) (fun t => if (some 28 : Option Nat) = some t then undef else f t) w where
  v0 := by simpa using h.v0
  v1 := by simpa using h.v1
  v2 := by simpa using h.v2
  v3 := by simpa using h.v3
  v11 := by simpa using h.v11
  v12 := by simpa using h.v12
  wz := by simpa using h.wz
  w2 := by simpa using h.w2
  d2 := by simpa using h.d2
theorem ea0_9 {F : Nat} {caps : Array Value} {x : Nat} {W1 : World} {Post : World → Prop} {L : Nat → Bool} {f : Nat → Value} {w : World} (h : ea0C F caps x W1 Post L f w) : ea0C F caps x W1 Post (fun k => if k = 9 then true else L k) (fun t => if (some 29 : Option Nat) = some t then undef else f t) w where
  v0 := by simpa using h.v0
  v1 := by simpa using h.v1
  v2 := by simpa using h.v2
  v3 := by simpa using h.v3
  v11 := by simpa using h.v11
  v12 := by simpa using h.v12
  wz := by simpa using h.wz
  w2 := by simpa using h.w2
  d2 := by simpa using h.d2
theorem ea0_10 {F : Nat} {caps : Array Value} {x : Nat} {W1 : World} {Post : World → Prop} {L : Nat → Bool} {f : Nat → Value} {w : World} (h : ea0C F caps x W1 Post L f w) : ea0C F caps x W1 Post (fun k => if k = 10 then true else L k) (fun t => if (some 30 : Option Nat) = some t then undef else f t) w where
  v0 := by simpa using h.v0
  v1 := by simpa using h.v1
  v2 := by simpa using h.v2
  v3 := by simpa using h.v3
  v11 := by simpa using h.v11
  v12 := by simpa using h.v12
  wz := by simpa using h.wz
  w2 := by simpa using h.w2
  d2 := by simpa using h.d2
theorem ea0_11 {F : Nat} {caps : Array Value} {x : Nat} {W1 : World} {Post : World → Prop} {L : Nat → Bool} {f : Nat → Value} {w : World} (h : ea0C F caps x W1 Post L f w) : ea0C F caps x W1 Post (fun k => if k = 11 then true else L k) (fun t => if (some 31 : Option Nat) = some t then .bool false else f t) w where
  v0 := by simpa using h.v0
  v1 := by simpa using h.v1
  v2 := by simpa using h.v2
  v3 := by simpa using h.v3
  v11 := fun _ => by simp
  v12 := by simpa using h.v12
  wz := by simpa using h.wz
  w2 := by simpa using h.w2
  d2 := by simpa using h.d2
theorem ea0_12 {F : Nat} {caps : Array Value} {x : Nat} {W1 : World} {Post : World → Prop} {L : Nat → Bool} {f : Nat → Value} {w : World} (h : ea0C F caps x W1 Post L f w) : ea0C F caps x W1 Post (fun k => if k = 12 then true else L k) (fun t => if (some 6 : Option Nat) = some t then .bool false else f t) w where
  v0 := by simpa using h.v0
  v1 := by simpa using h.v1
  v2 := by simpa using h.v2
  v3 := by simpa using h.v3
  v11 := by simpa using h.v11
  v12 := fun _ => by simp
  wz := by simpa using h.wz
  w2 := by simpa using h.w2
  d2 := by simpa using h.d2
def ea0Us (f : Nat → Value) : List (Nat × Value) := [(20, f 20), (21, f 21), (22, f 22), (23, f 23), (24, f 24), (25, f 25), (26, f 26), (27, f 27), (28, f 28), (29, f 29), (30, f 30), (31, f 31), (6, f 6)]
theorem load_fn {w : World} {p : Addr} {g : Fn} {cs : Array Value} (h : w.cell? p = some (.func g #[] cs)) : (Instr.loadAt 34 (.pointer (some p))).run Try.prog w = .ok (.func g #[] cs) w := by
  simp [Instr.loadAt, h]
  go_simp
set_option maxRecDepth 10000 in
set_option maxHeartbeats 2000000 in
theorem ea0_reg {F gy x : Nat} {caps : Array Value} {W : World} {Post : World → Prop} {A0 : Act} {Q : Exit → Act → World → Prop} {id : Nat} (a0 : Act.at A0 0 = .int .i64 (x : Int)) (a3 : Act.at A0 3 = .pointer (some ⟨gy, 0, none⟩)) (hsz : 32 ≤ A0.tmps.size) (hY : W.drew.cell? ⟨gy, 0, none⟩ = some (.func (.func F) #[] caps))
    (hent : ∀ args w, (callFunc F args).run Try.prog w = .ok (.enter F args) w)
    (HC : Calls Try.prog F (#[.int .i64 (x : Int)] ++ caps) W.drew fun e w' => ∃ v, e = .returned v ∧ v = .bool false ∧ Post w')
    (hk : ∀ (f : Nat → Value) w', f 6 = .bool false → Post w' → Q .normal ⟨(ea0Us f).foldl (fun A p => A.setIfInBounds p.1 p.2) A0.tmps, A0.defers⟩ w') :
    (Code.region id ea0Ops true).wp Try.prog Q A0 W := by
  refine wp_region_fun3 (by kernel_rfl) (fun L f w => ea0C F caps x W.drew Post L f w) [20, 21, 22, 23, 24, 25, 26, 27, 28, 29, 30, 31, 6] (wf_ops3 (by kernel_rfl)) (fun i o ho u hu => ?_) ?_ ?_ ?_
  · have := ops_dst [20, 21, 22, 23, 24, 25, 26, 27, 28, 29, 30, 31, 6] 32 (by kernel_rfl) i o ho u hu
    exact ⟨this.1, Nat.lt_of_lt_of_le this.2 hsz⟩
  · have hs : ea0Ops.size = 13 := rfl
    rw [hs]
    constructor <;> first | exact (fun _ => rfl) | (intro h; simp at h)
  · rintro L i o ho hLi haf b w hf hc K hK
    have hdep := ops_deps ea0Dep (by kernel_rfl) ho haf
    clear haf
    have hs : ea0Ops.size = 13 := rfl
    have hlt : i < 13 := hs ▸ (Array.getElem?_eq_some_iff.1 ho).1
    have hcases : i = 0 ∨ i = 1 ∨ i = 2 ∨ i = 3 ∨ i = 4 ∨ i = 5 ∨ i = 6 ∨ i = 7 ∨ i = 8 ∨ i = 9 ∨ i = 10 ∨ i = 11 ∨ i = 12 := by omega
    rcases hcases with rfl | rfl | rfl | rfl | rfl | rfl | rfl | rfl | rfl | rfl | rfl | rfl | rfl
    · have h1 : (ea0Ops[0]?).map (·.dst) = some (some 20) := by kernel_rfl
      have h2 : (ea0Ops[0]?).map (·.op) = some (.load 34 (.tmp 3)) := by kernel_rfl
      have h3 : (ea0Ops[0]?).map (·.guard) = some none := by kernel_rfl
      rw [ho] at h1 h2 h3
      replace h1 := Option.some.inj h1
      replace h2 := Option.some.inj h2
      replace h3 := Option.some.inj h3
      simp only at h1 h2 h3
      rw [h1] at hK
      refine ⟨fun _ => ?_, fun h => absurd h (by unfold Region.wanted; rw [h3]; simp)⟩
      have hw : w = W.drew := by
        cases h2' : L 2 with
        | true => exact absurd (hc.d2 h2') (by rw [hLi]; decide)
        | false => exact hc.wz h2'
      subst hw
      refine wp_loadG _ _ h2 _ _ ((hf 3 (by decide)).trans a3) (load_fn hY) ?_
      rw [h1]
      exact hK _ _ (ea0_0 hc)
    · have h1 : (ea0Ops[1]?).map (·.dst) = some (some 21) := by kernel_rfl
      have h2 : (ea0Ops[1]?).map (·.op) = some (.move (.tmp 0)) := by kernel_rfl
      have h3 : (ea0Ops[1]?).map (·.guard) = some none := by kernel_rfl
      rw [ho] at h1 h2 h3
      replace h1 := Option.some.inj h1
      replace h2 := Option.some.inj h2
      replace h3 := Option.some.inj h3
      simp only at h1 h2 h3
      rw [h1] at hK
      refine ⟨fun _ => ?_, fun h => absurd h (by unfold Region.wanted; rw [h3]; simp)⟩
      refine wp_moveG _ h2 _ ((hf 0 (by decide)).trans a0) ?_
      rw [h1]
      exact hK _ _ (ea0_1 hc)
    · have h1 : (ea0Ops[2]?).map (·.dst) = some (some 22) := by kernel_rfl
      have h2 : (ea0Ops[2]?).map (·.op) = some (.call { callee := .value (.tmp 20), args := #[.tmp 21], argTypes := #[3] }) := by kernel_rfl
      have h3 : (ea0Ops[2]?).map (·.guard) = some none := by kernel_rfl
      rw [ho] at h1 h2 h3
      replace h1 := Option.some.inj h1
      replace h2 := Option.some.inj h2
      replace h3 := Option.some.inj h3
      simp only at h1 h2 h3
      rw [h1] at hK
      have l0 : L 0 = true := hdep 0 (by simp [ea0Dep])
      have l1 : L 1 = true := hdep 1 (by simp [ea0Dep])
      refine ⟨fun _ => ?_, fun h => absurd h (by unfold Region.wanted; rw [h3]; simp)⟩
      obtain rfl := hc.wz hLi
      refine wp_callV (.tmp 20) F caps _ _ h2 (hc.v0 l0) hent #[.int .i64 (x : Int)] (by simp [show b.eval (.tmp 21) = _ from hc.v1 l1]) _ HC ?_
      rintro v w2 ⟨rfl, hp⟩
      rw [h1]
      exact hK _ _ (ea0_2 hc l0 hp)
    · have h1 : (ea0Ops[3]?).map (·.dst) = some (some 23) := by kernel_rfl
      have h2 : (ea0Ops[3]?).map (·.op) = some (.move (.tmp 22)) := by kernel_rfl
      have h3 : (ea0Ops[3]?).map (·.guard) = some none := by kernel_rfl
      rw [ho] at h1 h2 h3
      replace h1 := Option.some.inj h1
      replace h2 := Option.some.inj h2
      replace h3 := Option.some.inj h3
      simp only at h1 h2 h3
      rw [h1] at hK
      have l2 : L 2 = true := hdep 2 (by simp [ea0Dep])
      refine ⟨fun _ => ?_, fun h => absurd h (by unfold Region.wanted; rw [h3]; simp)⟩
      refine wp_moveG _ h2 _ (hc.v2 l2) ?_
      rw [h1]
      exact hK _ _ (ea0_3 hc)
    · have h1 : (ea0Ops[4]?).map (·.dst) = some (some 24) := by kernel_rfl
      have h3 : (ea0Ops[4]?).map (·.guard) = some (some (3, true)) := by kernel_rfl
      rw [ho] at h1 h3
      replace h1 := Option.some.inj h1
      replace h3 := Option.some.inj h3
      simp only at h1 h3
      rw [h1] at hK ⊢
      have l3 : L 3 = true := hdep 3 (by simp [ea0Dep])
      refine ⟨fun h => absurd h (by rw [wanted_of h3 (j := 3) (d := 23) (by kernel_rfl) (hc.v3 l3)]; decide), fun _ => hK _ _ (ea0_4 hc)⟩
    · have h1 : (ea0Ops[5]?).map (·.dst) = some (some 25) := by kernel_rfl
      have h3 : (ea0Ops[5]?).map (·.guard) = some (some (3, true)) := by kernel_rfl
      rw [ho] at h1 h3
      replace h1 := Option.some.inj h1
      replace h3 := Option.some.inj h3
      simp only at h1 h3
      rw [h1] at hK ⊢
      have l3 : L 3 = true := hdep 3 (by simp [ea0Dep])
      refine ⟨fun h => absurd h (by rw [wanted_of h3 (j := 3) (d := 23) (by kernel_rfl) (hc.v3 l3)]; decide), fun _ => hK _ _ (ea0_5 hc)⟩
    · have h1 : (ea0Ops[6]?).map (·.dst) = some (some 26) := by kernel_rfl
      have h3 : (ea0Ops[6]?).map (·.guard) = some (some (3, true)) := by kernel_rfl
      rw [ho] at h1 h3
      replace h1 := Option.some.inj h1
      replace h3 := Option.some.inj h3
      simp only at h1 h3
      rw [h1] at hK ⊢
      have l3 : L 3 = true := hdep 3 (by simp [ea0Dep])
      refine ⟨fun h => absurd h (by rw [wanted_of h3 (j := 3) (d := 23) (by kernel_rfl) (hc.v3 l3)]; decide), fun _ => hK _ _ (ea0_6 hc)⟩
    · have h1 : (ea0Ops[7]?).map (·.dst) = some (some 27) := by kernel_rfl
      have h3 : (ea0Ops[7]?).map (·.guard) = some (some (3, true)) := by kernel_rfl
      rw [ho] at h1 h3
      replace h1 := Option.some.inj h1
      replace h3 := Option.some.inj h3
      simp only at h1 h3
      rw [h1] at hK ⊢
      have l3 : L 3 = true := hdep 3 (by simp [ea0Dep])
      refine ⟨fun h => absurd h (by rw [wanted_of h3 (j := 3) (d := 23) (by kernel_rfl) (hc.v3 l3)]; decide), fun _ => hK _ _ (ea0_7 hc)⟩
    · have h1 : (ea0Ops[8]?).map (·.dst) = some (some 28) := by kernel_rfl
      have h3 : (ea0Ops[8]?).map (·.guard) = some (some (3, true)) := by kernel_rfl
      rw [ho] at h1 h3
      replace h1 := Option.some.inj h1
      replace h3 := Option.some.inj h3
      simp only at h1 h3
      rw [h1] at hK ⊢
      have l3 : L 3 = true := hdep 3 (by simp [ea0Dep])
      refine ⟨fun h => absurd h (by rw [wanted_of h3 (j := 3) (d := 23) (by kernel_rfl) (hc.v3 l3)]; decide), fun _ => hK _ _ (ea0_8 hc)⟩
    · have h1 : (ea0Ops[9]?).map (·.dst) = some (some 29) := by kernel_rfl
      have h3 : (ea0Ops[9]?).map (·.guard) = some (some (3, true)) := by kernel_rfl
      rw [ho] at h1 h3
      replace h1 := Option.some.inj h1
      replace h3 := Option.some.inj h3
      simp only at h1 h3
      rw [h1] at hK ⊢
      have l3 : L 3 = true := hdep 3 (by simp [ea0Dep])
      refine ⟨fun h => absurd h (by rw [wanted_of h3 (j := 3) (d := 23) (by kernel_rfl) (hc.v3 l3)]; decide), fun _ => hK _ _ (ea0_9 hc)⟩
    · have h1 : (ea0Ops[10]?).map (·.dst) = some (some 30) := by kernel_rfl
      have h3 : (ea0Ops[10]?).map (·.guard) = some (some (3, true)) := by kernel_rfl
      rw [ho] at h1 h3
      replace h1 := Option.some.inj h1
      replace h3 := Option.some.inj h3
      simp only at h1 h3
      rw [h1] at hK ⊢
      have l3 : L 3 = true := hdep 3 (by simp [ea0Dep])
      refine ⟨fun h => absurd h (by rw [wanted_of h3 (j := 3) (d := 23) (by kernel_rfl) (hc.v3 l3)]; decide), fun _ => hK _ _ (ea0_10 hc)⟩
    · have h1 : (ea0Ops[11]?).map (·.dst) = some (some 31) := by kernel_rfl
      have h2 : (ea0Ops[11]?).map (·.op) = some (.pick (.tmp 23) (.tmp 30) (.const (.bool false))) := by kernel_rfl
      have h3 : (ea0Ops[11]?).map (·.guard) = some none := by kernel_rfl
      rw [ho] at h1 h2 h3
      replace h1 := Option.some.inj h1
      replace h2 := Option.some.inj h2
      replace h3 := Option.some.inj h3
      simp only at h1 h2 h3
      rw [h1] at hK
      have l3 : L 3 = true := hdep 3 (by simp [ea0Dep])
      refine ⟨fun _ => ?_, fun h => absurd h (by unfold Region.wanted; rw [h3]; simp)⟩
      refine wp_pickG _ _ _ h2 false (hc.v3 l3) _ rfl ?_
      rw [h1]
      exact hK _ _ (ea0_11 hc)
    · have h1 : (ea0Ops[12]?).map (·.dst) = some (some 6) := by kernel_rfl
      have h2 : (ea0Ops[12]?).map (·.op) = some (.assign (.tmp 31)) := by kernel_rfl
      have h3 : (ea0Ops[12]?).map (·.guard) = some none := by kernel_rfl
      rw [ho] at h1 h2 h3
      replace h1 := Option.some.inj h1
      replace h2 := Option.some.inj h2
      replace h3 := Option.some.inj h3
      simp only at h1 h2 h3
      rw [h1] at hK
      have l11 : L 11 = true := hdep 11 (by simp [ea0Dep])
      refine ⟨fun _ => ?_, fun h => absurd h (by unfold Region.wanted; rw [h3]; simp)⟩
      refine wp_assignG _ h2 _ (hc.v11 l11) ?_
      rw [h1]
      exact hK _ _ (ea0_12 hc)
  · rintro L b w hL hd hs hf hc
    have hsz2 : ea0Ops.size = 13 := rfl
    rw [hsz2] at hL
    have e := act_eq (a := A0) (b := b) (ea0Us (Act.at b)) hd hs hf (by
      intro p hp
      simp only [ea0Us, List.mem_cons, List.not_mem_nil, or_false] at hp
      rcases hp with rfl | rfl | rfl | rfl | rfl | rfl | rfl | rfl | rfl | rfl | rfl | rfl | rfl <;> rfl) (by rw [show (ea0Us (Act.at b)).map (·.1) = [20, 21, 22, 23, 24, 25, 26, 27, 28, 29, 30, 31, 6] from rfl]; decide)
    have h6 := hc.v12 (hL 12 (by decide))
    have h2 := hc.w2 (hL 2 (by decide))
    rw [e]
    exact hk (Act.at b) w h6 h2
end Go.Proofs.Ythjfhenldkihkaa
