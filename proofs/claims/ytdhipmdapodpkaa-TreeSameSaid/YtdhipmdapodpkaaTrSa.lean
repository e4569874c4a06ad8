/- tree: TreeSame, its first question, in open order; what is changed of a copy. -/
import Derived.Test.YtdhipmdapodpkaaTrC
import Derived.Test.YtdhipmdapodpkaaTrD
import Derived.Test.YtdhipmdapodpkaaInv
namespace Go.Proofs.Ytdhipmdapodpkaa
set_option linter.unusedSimpArgs false
set_option linter.unusedVariables false
open Go.RowKit

def ts6Ops : Array Oper := #[{ dst := some 19, op := Op.load 26 (Operand.tmp 2), type := 26, pos := "law.go:120", after := #[], guard := none }, { dst := some 20, op := Op.load 26 (Operand.tmp 3), type := 26, pos := "law.go:120", after := #[], guard := none }, { dst := some 21, op := Op.call { callee := Callee.value (Operand.func 12), args := #[Operand.tmp 19, Operand.tmp 20], argTypes := #[26, 26] }, type := 4, pos := "law.go:120", after := #[{ on := 0, ground := Ground.data }, { on := 1, ground := Ground.data }], guard := none }, { dst := some 22, op := Op.load 26 (Operand.tmp 2), type := 26, pos := "law.go:120", after := #[], guard := none }, { dst := some 23, op := Op.call { callee := Callee.value (Operand.func 11), args := #[Operand.tmp 22], argTypes := #[26] }, type := 9, pos := "law.go:120", after := #[{ on := 3, ground := Ground.data }, { on := 2, ground := Ground.chain }], guard := none }, { dst := some 24, op := Op.load 26 (Operand.tmp 3), type := 26, pos := "law.go:120", after := #[], guard := none }, { dst := some 25, op := Op.call { callee := Callee.value (Operand.func 11), args := #[Operand.tmp 24], argTypes := #[26] }, type := 9, pos := "law.go:120", after := #[{ on := 5, ground := Ground.data }, { on := 4, ground := Ground.chain }], guard := none }, { dst := some 26, op := Op.binOp BinOp.eql 9 (Operand.tmp 23) (Operand.tmp 25) 9, type := 4, pos := "law.go:120", after := #[{ on := 4, ground := Ground.data }, { on := 6, ground := Ground.data }], guard := none }, { dst := some 27, op := Op.binOp BinOp.neq 4 (Operand.tmp 21) (Operand.tmp 26) 4, type := 4, pos := "law.go:120", after := #[{ on := 2, ground := Ground.data }, { on := 7, ground := Ground.data }], guard := none }]
def ts6Dep : Nat → List Nat := fun i => match i with | 2 => [0, 1] | 4 => [3] | 6 => [5] | 7 => [4, 6] | 8 => [2, 7] | _ => []
def ts6Sl : List Nat := [19, 20, 21, 22, 23, 24, 25, 26, 27]
def ts6Vs (g2 : Nat) (g3 : Nat) (tv : TV) (y : TV) (sm : Bool) (TA : ByteArray) (TB : ByteArray) : List (Option Value) := [some (.agg tv.cells.toArray), some (.agg y.cells.toArray), some (.bool sm), some (.agg tv.cells.toArray), some (.string TA), some (.agg y.cells.toArray), some (.string TB), some (.bool sm), some (.bool false)]
def ts6Sp  (i : Nat) : Value → World → Prop := match i with  | _ => fun _ _ => True
theorem ts6_ks   : ∀ i v w w', ts6Sp  i v w → Below w.heap.size w w' → ts6Sp  i v w' := by
  intro i v w w' h hb
  unfold ts6Sp at h ⊢
  split <;> first | trivial
theorem ts6_nd : ts6Sl.Nodup := by decide
def ts6Us (f : Nat → Value) : List (Nat × Value) := [(19, f 19), (20, f 20), (21, f 21), (22, f 22), (23, f 23), (24, f 24), (25, f 25), (26, f 26), (27, f 27)]
set_option maxRecDepth 20000 in
set_option maxHeartbeats 4000000 in
theorem ts6_reg {g2 : Nat} {g3 : Nat} {tv : TV} {y : TV} {sm : Bool} {TA : ByteArray} {TB : ByteArray}  {W : World} {A0 : Act} {Q : Exit → Act → World → Prop} {id : Nat} (a2 : Act.at A0 2 = .pointer (some ⟨g2, 0, none⟩)) (a3 : Act.at A0 3 = .pointer (some ⟨g3, 0, none⟩)) (hsz : 74 ≤ A0.tmps.size)  (hKg2 : Blk W g2 26 tv.cells)
    (hKg3 : Blk W g3 26 y.cells)
    (HS1 : ∀ w, Below W.heap.size W w → Calls Try.prog 12 #[.agg tv.cells.toArray, .agg y.cells.toArray] w fun e w' => ∃ v, e = .returned v ∧ v = .bool sm ∧ Below w.heap.size w w')
    (HT1 : ∀ w, Below W.heap.size W w → Calls Try.prog 11 #[.agg tv.cells.toArray] w fun e w' => ∃ v, e = .returned v ∧ v = .string TA ∧ Below w.heap.size w w')
    (HT2 : ∀ w, Below W.heap.size W w → Calls Try.prog 11 #[.agg y.cells.toArray] w fun e w' => ∃ v, e = .returned v ∧ v = .string TB ∧ Below w.heap.size w w')
    (HD1 : ∀ w, (binOp .eql 9 (.string TA) (.string TB)).run Try.prog w = .ok (.bool sm) w)
    (HD2 : ∀ w, (binOp .neq 4 (.bool sm) (.bool sm)).run Try.prog w = .ok (.bool false) w)
    (hk : ∀ (f : Nat → Value) w', f 27 = .bool false → Below W.heap.size W w' → Q .normal ⟨(ts6Us f).foldl (fun A p => A.setIfInBounds p.1 p.2) A0.tmps, A0.defers⟩ w') :
    (Code.region id ts6Ops true).wp Try.prog Q A0 W := by
  refine wp_region_fun3 (by kernel_rfl) (fun L f w => FlatC W.drew ts6Sl (ts6Vs g2 g3 tv y sm TA TB) (ts6Sp ) L f w) [19, 20, 21, 22, 23, 24, 25, 26, 27] (fun i o ho => (wf_ops3 (ops := ts6Ops) (by kernel_rfl)) i o ho) (fun i o ho u hu => ?_) ?_ ?_ ?_
  · have := ops_dst [19, 20, 21, 22, 23, 24, 25, 26, 27] 74 (by kernel_rfl) i o ho u hu
    exact ⟨this.1, Nat.lt_of_lt_of_le this.2 hsz⟩
  · have hs : ts6Ops.size = 9 := rfl
    rw [hs]
    exact FlatC.start rfl rfl
  · rintro L i o ho hLi haf b w hf hc K hK
    have hdep := ops_deps ts6Dep (by kernel_rfl) ho haf
    clear haf
    have hbw : Below W.heap.size W w := ⟨hc.bel.os, hc.bel.tape, hc.bel.output, hc.bel.size, hc.bel.block⟩
    have hs : ts6Ops.size = 9 := rfl
    have hlt : i < 9 := hs ▸ (Array.getElem?_eq_some_iff.1 ho).1
    have hcases : i = 0 ∨ i = 1 ∨ i = 2 ∨ i = 3 ∨ i = 4 ∨ i = 5 ∨ i = 6 ∨ i = 7 ∨ i = 8 := by omega
    clear hlt
    rcases hcases with rfl | rfl | rfl | rfl | rfl | rfl | rfl | rfl | rfl
    · have h1 : (ts6Ops[0]?).map (·.dst) = some (some 19) := by kernel_rfl
      have h2 : (ts6Ops[0]?).map (·.op) = some (Op.load 26 (Operand.tmp 2)) := by kernel_rfl
      have h3 : (ts6Ops[0]?).map (·.guard) = some none := by kernel_rfl
      rw [ho] at h1 h2 h3
      replace h1 := Option.some.inj h1
      replace h2 := Option.some.inj h2
      replace h3 := Option.some.inj h3
      simp only at h1 h2 h3
      rw [h1] at hK
      refine ⟨fun _ => ?_, fun hw => by rw [wanted_none h3] at hw; cases hw⟩
      refine wp_load_row 26 (.tmp 2) h2 g2 ((hf 2 (by decide)).trans a2) 26 tv.cells.toArray (0, 0) _ ((hbw.block g2 hKg2.lt).trans hKg2) Try.underlying26 rfl (tv_size tv) ?_
      rw [h1]
      exact hK _ _ (FlatC.step ts6_nd (ts6_ks ) rfl hc 0 (by decide) (Below.refl _ _) (fun u hu => by injection hu with hu; injection hu) (trivial))
    · have h1 : (ts6Ops[1]?).map (·.dst) = some (some 20) := by kernel_rfl
      have h2 : (ts6Ops[1]?).map (·.op) = some (Op.load 26 (Operand.tmp 3)) := by kernel_rfl
      have h3 : (ts6Ops[1]?).map (·.guard) = some none := by kernel_rfl
      rw [ho] at h1 h2 h3
      replace h1 := Option.some.inj h1
      replace h2 := Option.some.inj h2
      replace h3 := Option.some.inj h3
      simp only at h1 h2 h3
      rw [h1] at hK
      refine ⟨fun _ => ?_, fun hw => by rw [wanted_none h3] at hw; cases hw⟩
      refine wp_load_row 26 (.tmp 3) h2 g3 ((hf 3 (by decide)).trans a3) 26 y.cells.toArray (0, 0) _ ((hbw.block g3 hKg3.lt).trans hKg3) Try.underlying26 rfl (tv_size y) ?_
      rw [h1]
      exact hK _ _ (FlatC.step ts6_nd (ts6_ks ) rfl hc 1 (by decide) (Below.refl _ _) (fun u hu => by injection hu with hu; injection hu) (trivial))
    · have h1 : (ts6Ops[2]?).map (·.dst) = some (some 21) := by kernel_rfl
      have h2 : (ts6Ops[2]?).map (·.op) = some (Op.call { callee := Callee.value (Operand.func 12), args := #[Operand.tmp 19, Operand.tmp 20], argTypes := #[26, 26] }) := by kernel_rfl
      have h3 : (ts6Ops[2]?).map (·.guard) = some none := by kernel_rfl
      rw [ho] at h1 h2 h3
      replace h1 := Option.some.inj h1
      replace h2 := Option.some.inj h2
      replace h3 := Option.some.inj h3
      simp only at h1 h2 h3
      rw [h1] at hK
      have l0 : L 0 = true := hdep 0 (by simp [ts6Dep])
      have l1 : L 1 = true := hdep 1 (by simp [ts6Dep])
      refine ⟨fun _ => ?_, fun hw => by rw [wanted_none h3] at hw; cases hw⟩
      refine wp_callG 12 _ _ h2 (enters_of Try.func12 (by kernel_rfl) rfl) #[.agg tv.cells.toArray, .agg y.cells.toArray] (by simp [show b.eval (.tmp 19) = _ from (show Act.at b 19 = .agg tv.cells.toArray from hc.v 0 l0 _ rfl), show b.eval (.tmp 20) = _ from (show Act.at b 20 = .agg y.cells.toArray from hc.v 1 l1 _ rfl)]) _ (HS1 w hbw) ?_
      rintro v w2 ⟨rfl, hb2⟩
      rw [h1]
      exact hK _ _ (FlatC.step ts6_nd (ts6_ks ) rfl hc 2 (by decide) (hb2) (fun u hu => by injection hu with hu; injection hu) (trivial))
    · have h1 : (ts6Ops[3]?).map (·.dst) = some (some 22) := by kernel_rfl
      have h2 : (ts6Ops[3]?).map (·.op) = some (Op.load 26 (Operand.tmp 2)) := by kernel_rfl
      have h3 : (ts6Ops[3]?).map (·.guard) = some none := by kernel_rfl
      rw [ho] at h1 h2 h3
      replace h1 := Option.some.inj h1
      replace h2 := Option.some.inj h2
      replace h3 := Option.some.inj h3
      simp only at h1 h2 h3
      rw [h1] at hK
      refine ⟨fun _ => ?_, fun hw => by rw [wanted_none h3] at hw; cases hw⟩
      refine wp_load_row 26 (.tmp 2) h2 g2 ((hf 2 (by decide)).trans a2) 26 tv.cells.toArray (0, 0) _ ((hbw.block g2 hKg2.lt).trans hKg2) Try.underlying26 rfl (tv_size tv) ?_
      rw [h1]
      exact hK _ _ (FlatC.step ts6_nd (ts6_ks ) rfl hc 3 (by decide) (Below.refl _ _) (fun u hu => by injection hu with hu; injection hu) (trivial))
    · have h1 : (ts6Ops[4]?).map (·.dst) = some (some 23) := by kernel_rfl
      have h2 : (ts6Ops[4]?).map (·.op) = some (Op.call { callee := Callee.value (Operand.func 11), args := #[Operand.tmp 22], argTypes := #[26] }) := by kernel_rfl
      have h3 : (ts6Ops[4]?).map (·.guard) = some none := by kernel_rfl
      rw [ho] at h1 h2 h3
      replace h1 := Option.some.inj h1
      replace h2 := Option.some.inj h2
      replace h3 := Option.some.inj h3
      simp only at h1 h2 h3
      rw [h1] at hK
      have l3 : L 3 = true := hdep 3 (by simp [ts6Dep])
      refine ⟨fun _ => ?_, fun hw => by rw [wanted_none h3] at hw; cases hw⟩
      refine wp_callG 11 _ _ h2 (enters_of Try.func11 (by kernel_rfl) rfl) #[.agg tv.cells.toArray] (by simp [show b.eval (.tmp 22) = _ from (show Act.at b 22 = .agg tv.cells.toArray from hc.v 3 l3 _ rfl)]) _ (HT1 w hbw) ?_
      rintro v w2 ⟨rfl, hb2⟩
      rw [h1]
      exact hK _ _ (FlatC.step ts6_nd (ts6_ks ) rfl hc 4 (by decide) (hb2) (fun u hu => by injection hu with hu; injection hu) (trivial))
    · have h1 : (ts6Ops[5]?).map (·.dst) = some (some 24) := by kernel_rfl
      have h2 : (ts6Ops[5]?).map (·.op) = some (Op.load 26 (Operand.tmp 3)) := by kernel_rfl
      have h3 : (ts6Ops[5]?).map (·.guard) = some none := by kernel_rfl
      rw [ho] at h1 h2 h3
      replace h1 := Option.some.inj h1
      replace h2 := Option.some.inj h2
      replace h3 := Option.some.inj h3
      simp only at h1 h2 h3
      rw [h1] at hK
      refine ⟨fun _ => ?_, fun hw => by rw [wanted_none h3] at hw; cases hw⟩
      refine wp_load_row 26 (.tmp 3) h2 g3 ((hf 3 (by decide)).trans a3) 26 y.cells.toArray (0, 0) _ ((hbw.block g3 hKg3.lt).trans hKg3) Try.underlying26 rfl (tv_size y) ?_
      rw [h1]
      exact hK _ _ (FlatC.step ts6_nd (ts6_ks ) rfl hc 5 (by decide) (Below.refl _ _) (fun u hu => by injection hu with hu; injection hu) (trivial))
    · have h1 : (ts6Ops[6]?).map (·.dst) = some (some 25) := by kernel_rfl
      have h2 : (ts6Ops[6]?).map (·.op) = some (Op.call { callee := Callee.value (Operand.func 11), args := #[Operand.tmp 24], argTypes := #[26] }) := by kernel_rfl
      have h3 : (ts6Ops[6]?).map (·.guard) = some none := by kernel_rfl
      rw [ho] at h1 h2 h3
      replace h1 := Option.some.inj h1
      replace h2 := Option.some.inj h2
      replace h3 := Option.some.inj h3
      simp only at h1 h2 h3
      rw [h1] at hK
      have l5 : L 5 = true := hdep 5 (by simp [ts6Dep])
      refine ⟨fun _ => ?_, fun hw => by rw [wanted_none h3] at hw; cases hw⟩
      refine wp_callG 11 _ _ h2 (enters_of Try.func11 (by kernel_rfl) rfl) #[.agg y.cells.toArray] (by simp [show b.eval (.tmp 24) = _ from (show Act.at b 24 = .agg y.cells.toArray from hc.v 5 l5 _ rfl)]) _ (HT2 w hbw) ?_
      rintro v w2 ⟨rfl, hb2⟩
      rw [h1]
      exact hK _ _ (FlatC.step ts6_nd (ts6_ks ) rfl hc 6 (by decide) (hb2) (fun u hu => by injection hu with hu; injection hu) (trivial))
    · have h1 : (ts6Ops[7]?).map (·.dst) = some (some 26) := by kernel_rfl
      have h2 : (ts6Ops[7]?).map (·.op) = some (Op.binOp BinOp.eql 9 (Operand.tmp 23) (Operand.tmp 25) 9) := by kernel_rfl
      have h3 : (ts6Ops[7]?).map (·.guard) = some none := by kernel_rfl
      rw [ho] at h1 h2 h3
      replace h1 := Option.some.inj h1
      replace h2 := Option.some.inj h2
      replace h3 := Option.some.inj h3
      simp only at h1 h2 h3
      rw [h1] at hK
      have l4 : L 4 = true := hdep 4 (by simp [ts6Dep])
      have l6 : L 6 = true := hdep 6 (by simp [ts6Dep])
      refine ⟨fun _ => ?_, fun hw => by rw [wanted_none h3] at hw; cases hw⟩
      refine wp_binG _ _ _ _ _ h2 _ _ (.bool sm) (show Act.at b 23 = .string TA from hc.v 4 l4 _ rfl) (show Act.at b 25 = .string TB from hc.v 6 l6 _ rfl) (by kernel_rfl) (HD1 _) ?_
      rw [h1]
      exact hK _ _ (FlatC.step ts6_nd (ts6_ks ) rfl hc 7 (by decide) (Below.refl _ _) (fun u hu => by injection hu with hu; injection hu) (trivial))
    · have h1 : (ts6Ops[8]?).map (·.dst) = some (some 27) := by kernel_rfl
      have h2 : (ts6Ops[8]?).map (·.op) = some (Op.binOp BinOp.neq 4 (Operand.tmp 21) (Operand.tmp 26) 4) := by kernel_rfl
      have h3 : (ts6Ops[8]?).map (·.guard) = some none := by kernel_rfl
      rw [ho] at h1 h2 h3
      replace h1 := Option.some.inj h1
      replace h2 := Option.some.inj h2
      replace h3 := Option.some.inj h3
      simp only at h1 h2 h3
      rw [h1] at hK
      have l2 : L 2 = true := hdep 2 (by simp [ts6Dep])
      have l7 : L 7 = true := hdep 7 (by simp [ts6Dep])
      refine ⟨fun _ => ?_, fun hw => by rw [wanted_none h3] at hw; cases hw⟩
      refine wp_binG _ _ _ _ _ h2 _ _ (.bool false) (show Act.at b 21 = .bool sm from hc.v 2 l2 _ rfl) (show Act.at b 26 = .bool sm from hc.v 7 l7 _ rfl) (by kernel_rfl) (HD2 _) ?_
      rw [h1]
      exact hK _ _ (FlatC.step ts6_nd (ts6_ks ) rfl hc 8 (by decide) (Below.refl _ _) (fun u hu => by injection hu with hu; injection hu) (trivial))
  · rintro L b w hL hd hs hf hc
    have hsz2 : ts6Ops.size = 9 := rfl
    rw [hsz2] at hL
    have e := act_eq (a := A0) (b := b) (ts6Us (Act.at b)) hd hs hf (by
      intro p hp
      simp only [ts6Us, List.mem_cons, List.not_mem_nil, or_false] at hp
      rcases hp with rfl | rfl | rfl | rfl | rfl | rfl | rfl | rfl | rfl <;> rfl) (by rw [show (ts6Us (Act.at b)).map (·.1) = [19, 20, 21, 22, 23, 24, 25, 26, 27] from rfl]; decide)
    rw [e]
    exact hk (Act.at b) w (hc.v 8 (hL 8 (by omega)) _ rfl) ⟨hc.bel.os, hc.bel.tape, hc.bel.output, hc.bel.size, hc.bel.block⟩

/-- The first so many changed. -/
def bmp {α : Type} (f : α → α) (l : List α) (q : Nat) : List α := (l.take q).map f ++ l.drop q
section
variable {α : Type} {f : α → α}
theorem bmp_zero (l : List α) : bmp f l 0 = l := by simp [bmp]
theorem bmp_all (l : List α) : bmp f l l.length = l.map f := by simp [bmp]
theorem bmp_len (l : List α) (q : Nat) : (bmp f l q).length = l.length := by
  unfold bmp
  rw [List.length_append, List.length_map, List.length_take, List.length_drop]
  omega
theorem bmp_get {l : List α} {q : Nat} (h : q < l.length) : (bmp f l q)[q]? = some l[q] := by
  unfold bmp
  rw [List.getElem?_append_right (by rw [List.length_map, List.length_take]; omega), List.length_map, List.length_take, show q - min q l.length = 0 by omega, List.getElem?_drop, Nat.add_zero, List.getElem?_eq_getElem h]
theorem bmp_set {l : List α} {q : Nat} (h : q < l.length) : (bmp f l q).set q (f l[q]) = bmp f l (q + 1) := by
  unfold bmp
  rw [List.set_append_right _ _ (by rw [List.length_map, List.length_take]; omega), List.length_map, List.length_take, show q - min q l.length = 0 by omega, List.drop_eq_getElem_cons h, List.set_cons_zero, List.take_add_one, List.getElem?_eq_getElem h, Option.toList_some, List.map_append, List.append_assoc]
  rfl
end
def bmV (v : TV) : TV := ⟨(v.num + 1) % 18446744073709551616, v.bl, v.D, v.K⟩
def bmT : TT → TT | .nd n b d ks => .nd ((n + 1) % 18446744073709551616) b d ks
theorem Rep.bump {w : World} {P : Nat → Prop} {v : TV} {t : TT} (h : Rep w P v t) : Rep w P (bmV v) (bmT t) := by
  cases h with
  | mk v d ks vs hn hd hD hk hl hK hr => exact .mk (bmV v) d ks vs (Nat.mod_lt _ (by decide)) hd hD hk hl hK hr
theorem bmT_ne {n : Nat} {b : Bool} {d : List UInt8} {ks : List TT} (h : d ≠ [] ∨ ks ≠ []) : smT (.nd n b d ks) (.nd n b (d.map (· + 1)) (ks.map bmT)) = false := by
  rw [← Bool.not_eq_true, smT_iff]
  intro e
  injection e with _ _ e1 e2
  rcases h with h | h
  · cases d with
    | nil => exact h rfl
    | cons c d =>
      rw [List.map_cons] at e1
      injection e1 with e1
      have h1 := congrArg UInt8.toNat e1
      rw [UInt8.toNat_add] at h1
      have h2 := c.toNat_lt
      have h3 : (1 : UInt8).toNat = 1 := rfl
      rw [h3] at h1
      omega
  · cases ks with
    | nil => exact h rfl
    | cons t ks =>
      rw [List.map_cons] at e2
      injection e2 with e2
      obtain ⟨n, b, d, us⟩ := t
      simp only [bmT] at e2
      injection e2 with e2
      omega
theorem flatV_num {vs : List TV} {j : Nat} (h : j < vs.length) : (flatV vs).set (j * 4) (.int .u64 (((bmV vs[j]).num : Nat) : Int)) = flatV (vs.set j (bmV vs[j])) := by
  induction vs generalizing j with
  | nil => simp at h
  | cons v vs ih =>
    cases j with
    | zero => rfl
    | succ j =>
      have h' : j < vs.length := by simpa using h
      have := ih h'
      have e1 : flatV (v :: vs) = v.cells ++ flatV vs := by simp [flatV]
      have e2 : flatV ((v :: vs).set (j + 1) (bmV (v :: vs)[j + 1])) = v.cells ++ flatV (vs.set j (bmV vs[j])) := by simp [flatV]
      rw [e1, e2, List.set_append_right _ _ (by rw [TV.len]; omega), TV.len, show (j + 1) * 4 - 4 = j * 4 by omega, ← this]
      rfl
theorem u8_up (c : UInt8) : IntKind.u8.wrap ((c.toNat : Int) + 1) = (((c + 1 : UInt8).toNat : Nat) : Int) := by
  rw [IntKind.wrap_u8, UInt8.toNat_add]
  have h3 : (1 : UInt8).toNat = 1 := rfl
  rw [h3]
  have := c.toNat_lt
  omega
theorem u64_up (n : Nat) : IntKind.u64.wrap ((n : Int) + 1) = (((n + 1) % 18446744073709551616 : Nat) : Int) := by
  rw [IntKind.wrap_u64]
  omega
/-- Where a copy's row lies. -/
theorem mine_at {w : World} {lo hi : Nat} {T : TypeId} {s : SV} {n : Nat} {xs : List Value} (h : Mine w lo hi T s n xs) : ∃ g, lo ≤ g ∧ (0 < xs.length → g < hi ∧ s = ⟨some ⟨g, 0, none⟩, n, n⟩ ∧ Blk w g T xs) ∧ (xs.length = 0 → max hi w.heap.size ≤ g) := by
  rcases h.2 with ⟨_, rfl⟩ | ⟨g, h1, h2, h3, h4⟩
  · exact ⟨max lo (max hi w.heap.size), by omega, fun h => absurd h (by simp), fun _ => by omega⟩
  · by_cases hx : xs.length = 0
    · exact ⟨max lo (max hi w.heap.size), by omega, fun h => absurd h (by omega), fun _ => by omega⟩
    · exact ⟨g, h1, fun _ => ⟨h2, h3, h4⟩, fun h => absurd h hx⟩
end Go.Proofs.Ytdhipmdapodpkaa
