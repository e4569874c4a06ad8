/- spec: Check's call of holdParts, whose steps stand in open order. -/
import Derived.Test.YtfcccfplmdjndaaGreatSpK
import Derived.Test.YtfcccfplmdjndaaGreatSpN
import Derived.Test.YtfcccfplmdjndaaGreatSpG
import Derived.Test.YtfcccfplmdjndaaGreatSpR
namespace Go.Proofs.YtfcccfplmdjndaaGreat
set_option linter.unusedSimpArgs false
set_option linter.unusedVariables false
open Go.RowKit

theorem run_sliceH (A : Option Addr) (n c j : Nat) (h : j ≤ c) (w : World) :
  (Instr.slice 50 (.slice A n c) none (some (.int .i64 (j : Int))) none).run Tryz.prog w = .ok (.slice A j c) w := by
 have hs : (sizeOf 4).run Tryz.prog w = .ok 1 w := by kernel_rfl
 have e : (if c = 0 then A else A.map (fun x => x.add 0)) = A := by
  split
  ·rfl
  ·cases A <;> simp [Addr.add]
 simp [Instr.slice, run_underlying Tryz.underlying50, Instr.sliceBounds, Instr.sliceBound, asIntOf, hs, h, e]
theorem run_sliceHA (A : Option Addr) (n c j : Nat) (h : j ≤ c) (w : World) :
  (Instr.sliceAt 50 (.slice A n c) none (some (.int .i64 (j : Int))) none).run Tryz.prog w = .ok (.slice A j c) w := by
 unfold Instr.sliceAt
 simp [run_underlying Tryz.underlying50, run_sliceH A n c j h w]
section
variable {P : Program} {o : Oper} {a : Act} {w : World} {K : Act → World → Prop} {Q : Exit → Act → World → Prop}
theorem wp_sliceG (t : TypeId) (x y : Operand) (ho : o.op = .slice t x none (some y) none) (u v r : Value) (hx : a.eval x = u) (hy : a.eval y = v) (hr : (Instr.sliceAt t u none (some v) none).run P w = .ok r w) (h : K (a.put o.dst r) w) : o.wp P a w K Q := by
 unfold Oper.wp
 have e : (execOp a.eval o).run P w = .ok (.value r) w := by
  unfold execOp
  simp only [ho, hx, hy, Option.map_some, Option.map_none]
  simp [hr]
 rw [e]
 exact h
end
def hp10Ops : Array Oper := #[{ dst := some 44, op := Op.move (Operand.tmp 3), type := 50, pos := "spec.go:33", after := #[], guard := none }, { dst := some 45, op := Op.move (Operand.tmp 4), type := 3, pos := "spec.go:33", after := #[], guard := none }, { dst := some 46, op := Op.slice 50 (Operand.tmp 44) none (some (Operand.tmp 45)) none, type := 50, pos := "spec.go:33", after := #[{ on := 0, ground := Ground.data }, { on := 1, ground := Ground.data }], guard := none }, { dst := some 47, op := Op.load 54 (Operand.tmp 5), type := 54, pos := "spec.go:33", after := #[], guard := none }, { dst := some 48, op := Op.call { callee := Callee.value (Operand.func 29), args := #[Operand.tmp 46, Operand.tmp 47], argTypes := #[50, 54] }, type := 24, pos := "spec.go:33", after := #[{ on := 2, ground := Ground.data }, { on := 3, ground := Ground.data }], guard := none }, { dst := some 7, op := Op.assign (Operand.tmp 48), type := 24, pos := "spec.go:33", after := #[{ on := 4, ground := Ground.data }, { on := 4, ground := Ground.chain }, { on := 0, ground := Ground.phase }, { on := 1, ground := Ground.phase }, { on := 2, ground := Ground.phase }, { on := 3, ground := Ground.phase }, { on := 4, ground := Ground.phase }], guard := none }]
def hp10Dep : Nat → List Nat := fun i => match i with | 2 => [0, 1] | 4 => [2, 3] | 5 => [4] | _ => []
structure hp10C (g n c j : Nat) (cs : Array Value) (W1 : World) (Post : Value → World → Prop) (L : Nat → Bool) (f : Nat → Value) (w : World) : Prop where
 v0 : L 0 = true → f 44 = .slice (some ⟨g, 0, none⟩) n c
 v1 : L 1 = true → f 45 = .int .i64 (j : Int)
 v2 : L 2 = true → f 46 = .slice (some ⟨g, 0, none⟩) j c
 v3 : L 3 = true → f 47 = .agg cs
 v4 : L 4 = true → Post (f 48) w
 v5 : L 5 = true → f 7 = f 48
 w0 : L 4 = false → w = W1
 d5 : L 5 = true → L 4 = true
 d3 : L 4 = true → L 3 = true
theorem hp10_0 {g n c j : Nat} {cs : Array Value} {W1 : World} {Post : Value → World → Prop} {L : Nat → Bool} {f : Nat → Value} {w : World} (h : hp10C g n c j cs W1 Post L f w) : hp10C g n c j cs W1 Post (fun k => if k = 0 then true else L k) (fun t => if (some 44 : Option Nat) = some t then (.slice (some ⟨g, 0, none⟩) n c) else f t) w where
 v0 := fun _ => by simp
 v1 := by simpa using h.v1
 v2 := by simpa using h.v2
 v3 := by simpa using h.v3
 v4 := by simpa using h.v4
 v5 := by simpa using h.v5
 w0 := by simpa using h.w0
 d5 := by simpa using h.d5
 d3 := fun h4 => by have := h.d3 (by simpa using h4); simp [this]
theorem hp10_1 {g n c j : Nat} {cs : Array Value} {W1 : World} {Post : Value → World → Prop} {L : Nat → Bool} {f : Nat → Value} {w : World} (h : hp10C g n c j cs W1 Post L f w) : hp10C g n c j cs W1 Post (fun k => if k = 1 then true else L k) (fun t => if (some 45 : Option Nat) = some t then (.int .i64 (j : Int)) else f t) w where
 v0 := by simpa using h.v0
 v1 := fun _ => by simp
 v2 := by simpa using h.v2
 v3 := by simpa using h.v3
 v4 := by simpa using h.v4
 v5 := by simpa using h.v5
 w0 := by simpa using h.w0
 d5 := by simpa using h.d5
 d3 := fun h4 => by have := h.d3 (by simpa using h4); simp [this]
theorem hp10_2 {g n c j : Nat} {cs : Array Value} {W1 : World} {Post : Value → World → Prop} {L : Nat → Bool} {f : Nat → Value} {w : World} (h : hp10C g n c j cs W1 Post L f w) : hp10C g n c j cs W1 Post (fun k => if k = 2 then true else L k) (fun t => if (some 46 : Option Nat) = some t then (.slice (some ⟨g, 0, none⟩) j c) else f t) w where
 v0 := by simpa using h.v0
 v1 := by simpa using h.v1
 v2 := fun _ => by simp
 v3 := by simpa using h.v3
 v4 := by simpa using h.v4
 v5 := by simpa using h.v5
 w0 := by simpa using h.w0
 d5 := by simpa using h.d5
 d3 := fun h4 => by have := h.d3 (by simpa using h4); simp [this]
theorem hp10_3 {g n c j : Nat} {cs : Array Value} {W1 : World} {Post : Value → World → Prop} {L : Nat → Bool} {f : Nat → Value} {w : World} (h : hp10C g n c j cs W1 Post L f w) : hp10C g n c j cs W1 Post (fun k => if k = 3 then true else L k) (fun t => if (some 47 : Option Nat) = some t then (.agg cs) else f t) w where
 v0 := by simpa using h.v0
 v1 := by simpa using h.v1
 v2 := by simpa using h.v2
 v3 := fun _ => by simp
 v4 := by simpa using h.v4
 v5 := by simpa using h.v5
 w0 := by simpa using h.w0
 d5 := by simpa using h.d5
 d3 := fun h4 => by have := h.d3 (by simpa using h4); simp [this]
theorem hp10_4 {g n c j : Nat} {cs : Array Value} {W1 : World} {Post : Value → World → Prop} {L : Nat → Bool} {f : Nat → Value} {w : World} {v : Value} {w' : World} (h : hp10C g n c j cs W1 Post L f w) (h4 : L 4 = false) (hp : Post v w') (h3 : L 3 = true) : hp10C g n c j cs W1 Post (fun k => if k = 4 then true else L k) (fun t => if (some 48 : Option Nat) = some t then v else f t) w' where
 v0 := by simpa using h.v0
 v1 := by simpa using h.v1
 v2 := by simpa using h.v2
 v3 := by simpa using h.v3
 v4 := fun _ => by simpa using hp
 v5 := fun h5 => by have := h.d5 (by simpa using h5); rw [h4] at this; cases this
 w0 := by simp
 d5 := by simp
 d3 := fun _ => by simpa using h3
theorem hp10_5 {g n c j : Nat} {cs : Array Value} {W1 : World} {Post : Value → World → Prop} {L : Nat → Bool} {f : Nat → Value} {w : World} (h : hp10C g n c j cs W1 Post L f w) (h4 : L 4 = true) : hp10C g n c j cs W1 Post (fun k => if k = 5 then true else L k) (fun t => if (some 7 : Option Nat) = some t then f 48 else f t) w where
 v0 := by simpa using h.v0
 v1 := by simpa using h.v1
 v2 := by simpa using h.v2
 v3 := by simpa using h.v3
 v4 := by simpa using h.v4
 v5 := fun _ => by simp
 w0 := by simpa using h.w0
 d5 := fun _ => by simpa using h4
 d3 := by simpa using h.d3
theorem enters_hp : ∀ args w, (callFunc 29 args).run Tryz.prog w = .ok (.enter 29 args) w := enters_of Tryz.func29 (by kernel_rfl) rfl
def hp10Us (f : Nat → Value) : List (Nat × Value) := [(44, f 44), (45, f 45), (46, f 46), (47, f 47), (48, f 48), (7, f 7)]
set_option maxRecDepth 10000 in
theorem hp10_reg {g n c j g5 : Nat} {cs : Array Value} {x : NV} {W : World} {Post : Value → World → Prop} {A0 : Act} {Q : Exit → Act → World → Prop} {id : Nat} (a3 : Act.at A0 3 = .slice (some ⟨g, 0, none⟩) n c) (a4 : Act.at A0 4 = .int .i64 (j : Int)) (a5 : Act.at A0 5 = .pointer (some ⟨g5, 0, none⟩)) (hsz : 49 ≤ A0.tmps.size) (hjc : j ≤ c) (hN : NBox W g5 cs x)
  (HC : Calls Tryz.prog 29 #[.slice (some ⟨g, 0, none⟩) j c, .agg cs] W.drew fun e w' => ∃ v, e = .returned v ∧ Post v w')
  (hk : ∀ (f : Nat → Value) w', Post (f 48) w' → f 7 = f 48 → Q .normal ⟨(hp10Us f).foldl (fun A p => A.setIfInBounds p.1 p.2) A0.tmps, A0.defers⟩ w') :
  (Code.region id hp10Ops true).wp Tryz.prog Q A0 W := by
 refine wp_region_fun (by kernel_rfl) (fun L f w => hp10C g n c j cs W.drew Post L f w) [44, 45, 46, 47, 48, 7] (wf_ops2 (by kernel_rfl)) (fun i o ho u hu => ?_) ?_ ?_ ?_
 ·have := ops_dst [44, 45, 46, 47, 48, 7] 49 (by kernel_rfl) i o ho u hu
  exact ⟨this.1, Nat.lt_of_lt_of_le this.2 hsz⟩
 ·have hs : hp10Ops.size = 6 := rfl
  rw [hs]
  constructor <;> first | exact (fun _ => rfl) | (intro h; simp at h)
 ·rintro L i o ho hLi haf b w hf hc K hK
  have hdep := ops_deps hp10Dep (by kernel_rfl) ho haf
  clear haf
  have hs : hp10Ops.size = 6 := rfl
  have hlt : i < 6 := hs ▸ (Array.getElem?_eq_some_iff.1 ho).1
  have hcases : i = 0 ∨ i = 1 ∨ i = 2 ∨ i = 3 ∨ i = 4 ∨ i = 5 := by omega
  rcases hcases with rfl | rfl | rfl | rfl | rfl | rfl
  ·obtain ⟨h1, h2⟩ := op_at2 ho (show (hp10Ops[0]?).map (fun o => (o.dst, o.op)) = some ((some 44), (.move (.tmp 3))) by kernel_rfl)
   rw [h1] at hK
   refine wp_moveG _ h2 _ ((hf 3 (by decide)).trans a3) ?_
   rw [h1]
   exact hK _ _ (hp10_0 hc)
  ·obtain ⟨h1, h2⟩ := op_at2 ho (show (hp10Ops[1]?).map (fun o => (o.dst, o.op)) = some ((some 45), (.move (.tmp 4))) by kernel_rfl)
   rw [h1] at hK
   refine wp_moveG _ h2 _ ((hf 4 (by decide)).trans a4) ?_
   rw [h1]
   exact hK _ _ (hp10_1 hc)
  ·obtain ⟨h1, h2⟩ := op_at2 ho (show (hp10Ops[2]?).map (fun o => (o.dst, o.op)) = some ((some 46), (.slice 50 (.tmp 44) none (some (.tmp 45)) none)) by kernel_rfl)
   rw [h1] at hK
   have l0 : L 0 = true := hdep 0 (by simp [hp10Dep])
   have l1 : L 1 = true := hdep 1 (by simp [hp10Dep])
   refine wp_sliceG _ _ _ h2 _ _ _ (hc.v0 l0) (hc.v1 l1) (run_sliceHA _ _ _ _ hjc w) ?_
   rw [h1]
   exact hK _ _ (hp10_2 hc)
  ·obtain ⟨h1, h2⟩ := op_at2 ho (show (hp10Ops[3]?).map (fun o => (o.dst, o.op)) = some ((some 47), (.load 54 (.tmp 5))) by kernel_rfl)
   rw [h1] at hK
   cases h4 : L 4 with
   | true =>
    exfalso
    exact absurd (hc.d3 h4) (by rw [hLi]; decide)
   | false =>
    obtain rfl := hc.w0 h4
    refine wp_load_row 54 (.tmp 5) h2 g5 ((hf 5 (by decide)).trans a5) 54 cs (0, 0) _ hN.1 Tryz.underlying54 rfl hN.size ?_
    rw [h1]
    exact hK _ _ (hp10_3 hc)
  ·obtain ⟨h1, h2⟩ := op_at2 ho (show (hp10Ops[4]?).map (fun o => (o.dst, o.op)) = some ((some 48), (.call { callee := .value (.func 29), args := #[.tmp 46, .tmp 47], argTypes := #[50, 54] })) by kernel_rfl)
   rw [h1] at hK
   have l2 : L 2 = true := hdep 2 (by simp [hp10Dep])
   have l3 : L 3 = true := hdep 3 (by simp [hp10Dep])
   obtain rfl := hc.w0 hLi
   refine wp_callG 29 _ _ h2 enters_hp #[.slice (some ⟨g, 0, none⟩) j c, .agg cs] (by simp [show b.eval (.tmp 46) = _ from hc.v2 l2, show b.eval (.tmp 47) = _ from hc.v3 l3]) Post HC ?_
   intro v w' hp
   rw [h1]
   exact hK _ _ (hp10_4 hc hLi hp l3)
  ·obtain ⟨h1, h2⟩ := op_at2 ho (show (hp10Ops[5]?).map (fun o => (o.dst, o.op)) = some ((some 7), (.assign (.tmp 48))) by kernel_rfl)
   rw [h1] at hK
   have l4 : L 4 = true := hdep 4 (by simp [hp10Dep])
   refine wp_assignG _ h2 _ rfl ?_
   rw [h1]
   exact hK _ _ (hp10_5 hc l4)
 ·rintro L b w hL hd hs hf hc
  have hsz2 : hp10Ops.size = 6 := rfl
  rw [hsz2] at hL
  have e := act_eq (a := A0) (b := b) (hp10Us (Act.at b)) hd hs hf (by
   intro p hp
   simp only [hp10Us, List.mem_cons, List.not_mem_nil, or_false] at hp
   rcases hp with rfl | rfl | rfl | rfl | rfl | rfl <;> rfl) (by rw [show (hp10Us (Act.at b)).map (·.1) = [44, 45, 46, 47, 48, 7] from rfl]; decide)
  rw [e]
  exact hk (Act.at b) w (hc.v4 (hL 4 (by omega))) (hc.v5 (hL 5 (by omega)))
end Go.Proofs.YtfcccfplmdjndaaGreat

/- spec: Check. -/
namespace Go.Proofs.YtfcccfplmdjndaaGreat
set_option linter.unusedSimpArgs false
set_option linter.unusedVariables false
open Go.RowKit

def ckN : Nat → List Bool → List NV → Except Nat (List Bool)
 | _, l, [] => .ok l
 | j, l, v :: vs => if ckV v ≠ 0 then .error (ckV v) else match hsF j l v.t.parts with
  | .error c => .error c
  | .ok l' => ckN (j + 1) l' vs
def ckS (vs : List NV) (ds : List DT) : Nat :=
 if 2048 < vs.length ∨ 64 < ds.length ∨ ds.length = 0 then 2
 else match ckN 0 (List.replicate vs.length false) vs with
  | .error c => c
  | .ok l => match hsF vs.length l (ds.map DT.ty) with
   | .error c => c
   | .ok l' => if l'.any (fun b => !b) then 3 else 0
def finS (n : Nat) (ds : List DT) (r : Except Nat (List Bool)) : Nat :=
 match r with
 | .error c => c
 | .ok l => match hsF n l (ds.map DT.ty) with
  | .error c => c
  | .ok l' => if l'.any (fun b => !b) then 3 else 0
def finD (r : Except Nat (List Bool)) : Nat :=
 match r with
 | .error c => c
 | .ok l' => if l'.any (fun b => !b) then 3 else 0
theorem hsF_cons (m : Nat) (l : List Bool) (p : Int) (ps : List Int) : hsF m l (p :: ps) = match holdF (l.take m) p with
  | .error c => .error c
  | .ok _ => hsF m (l.set p.toNat true) ps := rfl
theorem dt_size (f : DT) : (Tryz.prog.info? 43).map (·.size) = some f.cells.toArray.size := by rw [show f.cells.toArray.size = 2 from rfl]; kernel_rfl
theorem dt_one (f : DT) : f.cells.toArray.all (·.oneCell') = true := by simp [DT.cells, Value.oneCell']
theorem hsF_c {m : Nat} : ∀ {ps : List Int} {l : List Bool} {c : Nat}, hsF m l ps = .error c → c = 3 ∨ c = 4
 | [], l, c, h => by cases h
 | p :: ps, l, c, h => by
  unfold hsF at h
  cases hh : holdF (l.take m) p with
  | error d => rw [hh] at h; injection h with h; subst h; exact holdF_err hh
  | ok _ => rw [hh] at h; exact hsF_c h
theorem rw_range {w : World} {P : Nat → Prop} {S : SV} {vs : List NV} (h : Rw w P S (flatN vs)) {j : Nat} (hj : j < vs.length) : ∃ b o, S.A = some ⟨b, o, none⟩ ∧ b < w.heap.size ∧ P b ∧ w.rangeAt b (o + j * 18) vs[j].cells := by
 obtain ⟨b, o, hA, hl, hP, hc⟩ := h.at (by rw [flatN_len]; omega)
 refine ⟨b, o, hA, hl, hP, fun i u hu => ?_⟩
 have hi : i < 18 := (List.getElem?_eq_some_iff.1 hu).1
 rw [Nat.add_assoc, hc (j * 18 + i) (by rw [flatN_len]; omega), ← hu]
 exact flat_get (f := NV.cells) (m := 18) (fun _ => rfl) vs j i hj hi
theorem range_keep {w w' : World} {b o : Nat} {cs : List Value} (h : w.rangeAt b o cs) (hb : w'.heap[b]? = w.heap[b]?) : w'.rangeAt b o cs := fun j v hv => by rw [World.cell?_of_block (w := w) hb]; exact h j v hv
theorem mk_boolz (n : Nat) (hn : n ≤ 1048576) (w : World) : (Instr.makeSlice 50 (.int .i64 (n : Int)) (.int .i64 (n : Int))).run Tryz.prog w = .ok (.slice (some ⟨w.heap.size, 0, none⟩) n n) (w.alloc (.cells (boolC (List.replicate n false)).toArray 4)) := by
 obtain ⟨i0, hi, hz0, hz1, hz2⟩ := info_parts info_bool
 have hr := run_make (P := Tryz.prog) w 50 4 i0 _ Tryz.underlying50 hi hz0 .i64 .i64 n n (by omega) (by omega) (by rw [hz2]; omega) (by omega)
 rw [hz1] at hr
 simp only [Int.toNat_natCast, Nat.mul_one] at hr
 have e : madeCells (Value.bool false).cells n = (boolC (List.replicate n false)).toArray := by
  apply Array.ext_getElem?
  intro i
  by_cases h : i < n <;> simp [madeCells, boolC, Value.cells, h, Nat.mod_one]
 rw [e] at hr
 exact hr
theorem ckN_at : ∀ (j : Nat) (l : List Bool) (v : NV) (rest : List NV), ckN j l (v :: rest) = if ckV v ≠ 0 then .error (ckV v) else match hsF j l v.t.parts with
  | .error c => .error c
  | .ok l' => ckN (j + 1) l' rest := fun _ _ _ _ => rfl
theorem hpR_ret {l : List Bool} {m g : Nat} {ps : List Int} {w : World} {e : Ending} {w' : World} (h : hpR l m g ps w e w') : ∃ v, e = .returned v ∧ hpR l m g ps w (.returned v) w' := by
 obtain ⟨hc, hm⟩ := h
 cases hq : hsF m l ps with
 | error d =>
  rw [hq] at hm
  obtain ⟨rfl, h2⟩ := hm
  exact ⟨_, rfl, hc, by rw [hq]; exact ⟨rfl, h2⟩⟩
 | ok l' =>
  rw [hq] at hm
  obtain ⟨rfl, h2⟩ := hm
  exact ⟨_, rfl, hc, by rw [hq]; exact ⟨rfl, h2⟩⟩
theorem spec_box (w : World) (a b : Value) : Below w.heap.size w (w.alloc (.cells #[a, b] 32)) ∧ Blk (w.alloc (.cells #[a, b] 32)) w.heap.size 32 [a, b] :=
 ⟨(Below.refl _ _).alloc (Nat.le_refl _) _, heap_alloc_new w _⟩
set_option maxRecDepth 100000 in
set_option maxHeartbeats 4000000 in
theorem Check_any {P : Nat → Prop} (s : SpV) (w : World) (h : SpecOk w P s) (hf : ∀ v ∈ s.vs, Fits v) : Calls Tryz.prog 12 #[s.val] w fun e w' => e = .returned (.int .i64 (ckS s.vs s.ds : Nat)) ∧ Below w.heap.size w w' := by
 obtain ⟨vs, ds, N, D⟩ := s
 obtain ⟨NA, Nn, Nc⟩ := N
 obtain ⟨DA, Dn, Dc⟩ := D
 unfold SpV.val
 simp only
 obtain ⟨hbx, hb0⟩ := spec_box w (.slice NA Nn Nc) (.slice DA Dn Dc)
 have HB := hid hbx
 have HX := hid hb0
 have hnn : Nn = vs.length := h.nn
 have hdn : Dn = ds.length := h.dn
 have HO := hid h
 have HF := hid hf
 have x0 := Blk.at hb0 0
 have x1 := Blk.at hb0 1
 simp only [List.getElem?_cons_succ, List.getElem?_cons_zero] at x0 x1
 have HZ : Hid (ckS vs ds = if 2048 < vs.length ∨ 64 < ds.length ∨ ds.length = 0 then 2
  else match ckN 0 (List.replicate vs.length false) vs with
  | .error c => c
  | .ok l => match hsF vs.length l (ds.map DT.ty) with
   | .error c => c
   | .ok l' => if l'.any (fun b => !b) then 3 else 0) := hid rfl
 obtain ⟨R, hR⟩ : ∃ R, R = ckS vs ds := ⟨_, rfl⟩
 rw [← hR] at HZ ⊢
 clear h hf hbx hb0 hR
 rw [← hnn, ← hdn] at HZ
 have HNn := hid hnn
 have HDn := hid hdn
 clear hnn hdn
 by_cases hbad : 2048 < Nn ∨ 64 < Dn ∨ Dn = 0
 ·have HR := hid (show R = 2 by rw [HZ.out, if_pos hbad])
  rw [HR.out]
  clear HZ HR
  by_cases h1 : 2048 < Nn
  ·have h1' : (2048 : Int) < (Nn : Int) := by omega
   clear hbad
   go_enter Tryz.func12, Tryz.ntmps12
   go_wp2
   go_ret
   exact ⟨rfl, HB.out⟩
  ·have h1' : ¬ (2048 : Int) < (Nn : Int) := by omega
   by_cases h2 : 64 < Dn
   ·have h2' : (64 : Int) < (Dn : Int) := by omega
    clear hbad
    go_enter Tryz.func12, Tryz.ntmps12
    go_wp2
    go_ret
    exact ⟨rfl, HB.out⟩
   ·obtain rfl : Dn = 0 := by omega
    clear hbad h2
    go_enter Tryz.func12, Tryz.ntmps12
    go_wp2
    go_ret
    exact ⟨rfl, HB.out⟩
 have h1 : Nn ≤ 2048 := by omega
 have h2 : Dn ≤ 64 := by omega
 have h1' : ¬ (2048 : Int) < (Nn : Int) := by omega
 have h2' : ¬ (64 : Int) < (Dn : Int) := by omega
 have h3' : ¬ (Dn : Int) = 0 := by omega
 have HZ2 := hid (show R = _ from by rw [HZ.out, if_neg hbad])
 clear HZ hbad
 have hmk := mk_boolz Nn (by omega) (w.alloc (.cells #[.slice NA Nn Nc, .slice DA Dn Dc] 32))
 have hs1 : (w.alloc (.cells #[.slice NA Nn Nc, .slice DA Dn Dc] 32)).heap.size = w.heap.size + 1 := by simp
 have hb2 := (Below.refl (w.alloc (.cells #[.slice NA Nn Nc, .slice DA Dn Dc] 32)).heap.size _).alloc (Nat.le_refl _) (.cells (boolC (List.replicate Nn false)).toArray 4)
 have hg2 := Blk.fresh (w.alloc (.cells #[.slice NA Nn Nc, .slice DA Dn Dc] 32)) 4 (boolC (List.replicate Nn false))
 rw [hs1] at hg2
 have HB2 := hid (HB.out.trans (hb2.mono HB.out.size))
 have HX2 := hid (HX.out.keep hb2)
 have HG2 := hid hg2
 clear hb2 hg2 HX HB
 go_enter Tryz.func12, Tryz.ntmps12
 go_upto_region 4 with (fail)
 change Code.wp _ _ _ _ ((w.alloc (.cells #[.slice NA Nn Nc, .slice DA Dn Dc] 32)).alloc (.cells (boolC (List.replicate Nn false)).toArray 4))
 generalize (w.alloc (.cells #[.slice NA Nn Nc, .slice DA Dn Dc] 32)).alloc (.cells (boolC (List.replicate Nn false)).toArray 4) = w2 at *
 clear hmk hs1 x0 x1
 have x0 := Blk.at HX2.out 0
 simp only [List.getElem?_cons_zero] at x0
 have HZ3 := hid (show R = finS Nn ds (ckN 0 (List.replicate Nn false) (vs.drop 0)) from HZ2.out)
 clear HZ2
 go_wp2_with fail
 go_loopw [34] (fun i wr => ∃ (j : Nat) (l : List Bool), j ≤ Nn ∧ i = .int .i64 j ∧ Hid (l.length = Nn) ∧ Hid (R = finS Nn ds (ckN j l (vs.drop j))) ∧ Hid (Blk wr (w.heap.size + 1) 4 (boolC l)) ∧ Hid (Blk wr w.heap.size 32 [.slice NA Nn Nc, .slice DA Dn Dc]) ∧ Hid (Below w.heap.size w wr)) (fun i _ => Nn - (intOf i).toNat)
 case atStart => exact ⟨0, List.replicate Nn false, by omega, rfl, hid (by simp), HZ3, HG2, HX2, HB2⟩
 case round =>
  clear HZ3 HG2 HX2 HB2 x0
  obtain ⟨j, l, hj, rfl, HL, HZ, HG, HX, HB⟩ := hrel
  by_cases hlt : j < Nn
  ·have hlt' : (j : Int) < (Nn : Int) := by omega
   have hjv : j < vs.length := by rw [← HNn.out]; exact hlt
   obtain ⟨b, o, hA, hbl, hPb, hrg⟩ := rw_range HO.out.n hjv
   have hA' : NA = some ⟨b, o, none⟩ := hA
   have HRg := hid (range_keep hrg (HB.out.block b hbl))
   obtain ⟨v, hv⟩ : ∃ v, v = vs[j] := ⟨_, rfl⟩
   rw [← hv] at HRg
   have HZ4 := hid (show R = finS Nn ds (if ckV v ≠ 0 then .error (ckV v) else match hsF j l v.t.parts with
    | .error c => .error c
    | .ok l' => ckN (j + 1) l' (vs.drop (j + 1))) by rw [HZ.out, List.drop_eq_getElem_cons hjv, ckN_at, hv])
   have hmem : v ∈ vs := by rw [hv]; exact List.getElem_mem _
   have HOv := hid (HO.out.each v hmem)
   have HFv := hid (HF.out v hmem)
   have hbx := row_new wr 54 #[.int .i64 0, .int .i64 0, .bool false, .bool false, .bool false, .int .u64 0, .int .u64 0, .string ⟨#[]⟩, .string ⟨#[]⟩, .int .u64 0, .int .u64 0, .slice none 0 0, .slice none 0 0, .slice none 0 0, .string ⟨#[]⟩, .int .u64 0, .slice none 0 0, .int .i64 0] v.cells.toArray
   have HN5 := hid (show NBox ((wr.alloc (.cells #[.int .i64 0, .int .i64 0, .bool false, .bool false, .bool false, .int .u64 0, .int .u64 0, .string ⟨#[]⟩, .string ⟨#[]⟩, .int .u64 0, .int .u64 0, .slice none 0 0, .slice none 0 0, .slice none 0 0, .string ⟨#[]⟩, .int .u64 0, .slice none 0 0, .int .i64 0] 54)).setRow wr.heap.size v.cells.toArray) wr.heap.size v.cells.toArray v from ⟨setRow_heap _ _ _ _ _ (0, 0) (heap_alloc_new wr _), rfl⟩)
   have HB5 := hid (HB.out.trans (hbx.mono HB.out.size))
   have HG5 := hid (HG.out.keep hbx)
   have HX5 := hid (HX.out.keep hbx)
   have HCk := hid (fun W => checkNode_any v W)
   have HHp := hid (fun W (hb : Below w.heap.size w W) (hg : Blk W (w.heap.size + 1) 4 (boolC l)) => holdParts_any (P := fun b => P b ∧ b < w.heap.size) v l j Nn (w.heap.size + 1) (by rw [HL.out]; omega) W (HOv.out.mono (fun b _ hl => hb.block b hl) hb.size (fun b hp hl => ⟨hp, hl⟩)) (fun b hb => by have := hb.2; omega) HFv.out hg)
   have HSz := hid (nv_size v)
   have HOne := hid (nv_one v)
   rw [NV.val_eq] at HCk HHp
   have HLen := hid (show v.cells.length = 18 from rfl)
   have HVal := hid (show v.cells.toArray = v.cells.toArray from rfl)
   clear hrg hbl hPb hv hmem hA hbx HZ HG HX HB hjv
   rw [hA']
   go_wp2_with (first
    | ((with_reducible refine wpList_load_mid rfl 54 _ rfl b (o + j * 18) ?_ v.cells _ HRg.out Tryz.underlying54 ?_ ?_ ?_); exact rfl; exact rfl; (rw [HLen.out]; kernel_rfl))
    | ((with_reducible refine wpList_store_row rfl 54 _ _ rfl wr.heap.size v.cells.toArray ?_ ?_ 54 #[.int .i64 0, .int .i64 0, .bool false, .bool false, .bool false, .int .u64 0, .int .u64 0, .string ⟨#[]⟩, .string ⟨#[]⟩, .int .u64 0, .int .u64 0, .slice none 0 0, .slice none 0 0, .slice none 0 0, .string ⟨#[]⟩, .int .u64 0, .slice none 0 0, .int .i64 0] (heap_alloc_new wr _) HSz.out ?_ HOne.out ?_); exact rfl; exact rfl; exact rfl; generalize (wr.alloc (.cells #[.int .i64 0, .int .i64 0, .bool false, .bool false, .bool false, .int .u64 0, .int .u64 0, .string ⟨#[]⟩, .string ⟨#[]⟩, .int .u64 0, .int .u64 0, .slice none 0 0, .slice none 0 0, .slice none 0 0, .string ⟨#[]⟩, .int .u64 0, .slice none 0 0, .int .i64 0] 54)).setRow wr.heap.size v.cells.toArray = w5 at *)
    | ((with_reducible refine wpList_load_node _ rfl HN5.out ?_ ?_ ?_); exact rfl; exact rfl)
    | (go_at_call 28; (with_reducible refine (HCk.out _).mono ?_); rintro e w6 ⟨rfl, hb6⟩; have HB6 := hid (HB5.out.trans (hb6.mono HB5.out.size)); have HN6 := hid (HN5.out.keep hb6); have HG6 := hid (HG5.out.keep hb6); have HX6 := hid (HX5.out.keep hb6); clear hb6 HB5 HN5 HG5 HX5))
   any_goals
    rename_i hne
    go_ret
    exact ⟨by rw [HZ4.out, if_pos (by simpa using hne)]; rfl, HB6.out⟩
   rename_i heq kk1 kk2
   have HZ5 := hid (show R = finS Nn ds (match hsF j l v.t.parts with
    | .error c => .error c
    | .ok l' => ckN (j + 1) l' (vs.drop (j + 1))) from by rw [HZ4.out, if_neg (by simpa using heq)])
   clear HZ4
   refine hp10_reg (g := w.heap.size + 1) (n := Nn) (c := Nn) (j := j) (g5 := wr.heap.size) (cs := v.cells.toArray) (x := v) (Post := fun u w' => hpR l j (w.heap.size + 1) v.t.parts w6.drew (.returned u) w') rfl rfl rfl (by simp) (by omega) HN6.out ((HHp.out w6.drew HB6.out.drew HG6.out.drew).mono fun e w' h => hpR_ret h) ?_
   intro F w7 hp h7
   simp only [hp10Us, List.foldl_cons, List.foldl_nil, List.setIfInBounds_toArray, List.set_cons_zero, List.set_cons_succ]
   rw [h7]
   obtain ⟨hch, hm⟩ := hp
   have HB7 := hid (show Below w.heap.size w w7 from ⟨hch.os.trans HB6.out.os, hch.tape.trans HB6.out.tape, hch.output.trans HB6.out.output, Nat.le_trans HB6.out.size hch.size, fun k hk => (hch.block k (Nat.lt_of_lt_of_le hk HB6.out.size) (by omega)).trans (HB6.out.block k hk)⟩)
   have HX7 := hid (show Blk w7 w.heap.size 32 [.slice NA Nn Nc, .slice DA Dn Dc] from HX6.out.drew.chg hch (by omega))
   clear hch HB6 HX6 HG6 HN6 HHp HCk h7
   cases hq : hsF j l v.t.parts with
   | error d =>
    rw [hq] at hm HZ5
    obtain ⟨he, _⟩ := hm
    injection he with he
    rw [he]
    have hd : (d : Int) ≠ 0 := by have := hsF_c hq; omega
    clear he hq
    go_wp2
    go_ret
    exact ⟨by rw [HZ5.out]; rfl, HB7.out⟩
   | ok l' =>
    rw [hq] at hm HZ5
    obtain ⟨he, hg'⟩ := hm
    injection he with he
    rw [he]
    have HG7 := hid hg'
    have HL7 := hid ((hsF_len hq).trans HL.out)
    clear he hq hg'
    go_wp2
    go_roundw
    case rel => exact ⟨j + 1, l', by omega, by go_num, HL7, HZ5, HG7, hid (by have := HX7.out; rwa [hA'] at this), HB7⟩
    case measure => simp [intOf]; omega
  ·obtain rfl : j = Nn := by omega
   rw [HNn.out, List.drop_length] at HZ
   have x1 := Blk.at HX.out 1
   simp only [List.getElem?_cons_succ, List.getElem?_cons_zero] at x1
   have HZ3 := hid (show R = finD (hsF j l ((ds.map DT.ty).drop 0)) from by rw [HZ.out, ← HNn.out]; rfl)
   clear hlt hj HZ h1'
   go_wp2_with fail
   go_loopw [56] (fun i wr => ∃ (q : Nat) (l : List Bool), q ≤ Dn ∧ i = .int .i64 q ∧ Hid (l.length = j) ∧ Hid (R = finD (hsF j l ((ds.map DT.ty).drop q))) ∧ Hid (Blk wr (w.heap.size + 1) 4 (boolC l)) ∧ Hid (Below w.heap.size w wr)) (fun i _ => Dn - (intOf i).toNat)
   case atStart => exact ⟨0, l, by omega, rfl, HL, HZ3, HG, HB⟩
   case round =>
    clear HZ3 HG HX HB x1 HL
    obtain ⟨q, l, hq, rfl, HL, HZ, HG, HB⟩ := hrel
    by_cases hlt : q < Dn
    ·have hlt' : (q : Int) < (Dn : Int) := by omega
     have hql : q < ds.length := by rw [← HDn.out]; exact hlt
     obtain ⟨b, o, hA, hbl, hPb, hc⟩ := HO.out.d.at (by rw [flatD_len]; simp only; omega)
     have hA' : DA = some ⟨b, o, none⟩ := hA
     obtain ⟨f, hf0⟩ : ∃ f, f = ds[q] := ⟨_, rfl⟩
     have hcell : ∀ i, i < 2 → wr.cell? ⟨b, o + q * 2 + i, none⟩ = f.cells[i]? := fun i hi => by
      rw [World.cell?_of_block (w := w) (HB.out.block b hbl), Nat.add_assoc, hc (q * 2 + i) (by rw [flatD_len]; simp only; omega), hf0]
      exact flat_get (f := DT.cells) (m := 2) (fun _ => rfl) ds q i hql hi
     have y0 := hcell 0 (by decide)
     have y1 := hcell 1 (by decide)
     simp only [DT.cells, List.getElem?_cons_succ, List.getElem?_cons_zero, Nat.add_zero] at y0 y1
     have HZ4 := hid (show R = finD (match holdF (l.take j) f.ty with
      | .error c => .error c
      | .ok _ => hsF j (l.set f.ty.toNat true) ((ds.map DT.ty).drop (q + 1))) by
       rw [HZ.out, List.drop_eq_getElem_cons (by rw [List.length_map]; exact hql), hsF_cons, List.getElem_map, hf0])
     have hbx := row_new wr 43 #[.string ⟨#[]⟩, .int .i64 0] f.cells.toArray
     have HB5 := hid (HB.out.trans (hbx.mono HB.out.size))
     have HG5 := hid (HG.out.keep hbx)
     have HBx := hid (show Blk ((wr.alloc (.cells #[.string ⟨#[]⟩, .int .i64 0] 43)).setRow wr.heap.size f.cells.toArray) wr.heap.size 43 f.cells from setRow_heap _ _ _ _ _ (0, 0) (heap_alloc_new wr _))
     have HH := hid (fun W (h : Blk W (w.heap.size + 1) 4 (boolC l)) => hold_any l j j (by rw [HL.out]; omega) (w.heap.size + 1) f.ty W h)
     have HSz := hid (dt_size f)
     have HOne := hid (dt_one f)
     clear hc hbl hPb hcell hf0 hbx HZ HG HB hA hql
     rw [hA']
     go_wp2_with ((with_reducible refine wpList_store_row rfl 43 _ _ rfl wr.heap.size f.cells.toArray ?_ ?_ 43 #[.string ⟨#[]⟩, .int .i64 0] (heap_alloc_new wr _) HSz.out ?_ HOne.out ?_); exact rfl; exact rfl; exact rfl; generalize (wr.alloc (.cells #[.string ⟨#[]⟩, .int .i64 0] 43)).setRow wr.heap.size f.cells.toArray = w4 at *; have z1 := Blk.at HBx.out 1; simp only [DT.cells, List.getElem?_cons_succ, List.getElem?_cons_zero] at z1)
     refine (HH.out _ HG5.out).mono ?_
     intro e w6 hr
     unfold holdR at hr
     cases hh : holdF (l.take j) f.ty with
     | error d =>
      rw [hh] at hr HZ4
      obtain ⟨rfl, rfl⟩ := hr
      have hd : (d : Int) ≠ 0 := by have := holdF_err hh; omega
      clear hh
      go_wp2
      go_ret
      exact ⟨by rw [HZ4.out]; rfl, HB5.out⟩
     | ok l1 =>
      rw [hh] at hr HZ4
      obtain ⟨rfl, rfl⟩ := hr
      have HG7 := hid (show Blk (w4.setCell ⟨w.heap.size + 1, f.ty.toNat, none⟩ (.bool true)) (w.heap.size + 1) 4 (boolC (l.set f.ty.toNat true)) from by
       have := HG5.out.put f.ty.toNat (.bool true)
       simpa [boolC, List.map_set] using this)
      have HB7 := hid (below_set HB5.out (w.heap.size + 1) f.ty.toNat (by omega) (.bool true))
      have HL7 := hid (show (l.set f.ty.toNat true).length = j by rw [List.length_set]; exact HL.out)
      clear hh z1 HG5 HB5 HBx y0 y1
      generalize w4.setCell ⟨w.heap.size + 1, f.ty.toNat, none⟩ (.bool true) = w7 at *
      go_wp2
      go_roundw
      case rel => exact ⟨q + 1, _, by omega, by go_num, HL7, HZ4, HG7, HB7⟩
      case measure => simp [intOf]; omega
    ·obtain rfl : q = Dn := by omega
     have hdn : (ds.map DT.ty).drop q = [] := by rw [HDn.out, ← List.length_map DT.ty, List.drop_length]
     rw [hdn] at HZ
     have HC := hid (contains_any l j (w.heap.size + 1) (by rw [HL.out]; omega) wr HG.out)
     rw [HL.out] at HC
     have HZ6 := hid (show R = if l.any (fun b => !b) then 3 else 0 from HZ.out)
     clear hdn HZ hlt hq
     generalize l.any (fun b => !b) = bb at *
     cases bb with
     | true =>
      go_wp2_with fail
      refine HC.out.mono ?_
      rintro e w8 ⟨rfl, rfl⟩
      go_wp2
      go_ret
      exact ⟨by rw [HZ6.out]; rfl, HB.out⟩
     | false =>
      go_wp2_with fail
      refine HC.out.mono ?_
      rintro e w8 ⟨rfl, rfl⟩
      go_wp2
      go_ret
      exact ⟨by rw [HZ6.out]; rfl, HB.out⟩
end Go.Proofs.YtfcccfplmdjndaaGreat
