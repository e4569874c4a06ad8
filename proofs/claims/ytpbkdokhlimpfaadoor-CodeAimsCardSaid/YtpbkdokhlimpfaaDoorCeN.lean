/- code: two programs are cloned, each into a box of its own: the region in open order. -/
import Derived.Test.YtpbkdokhlimpfaaDoorCeM
import Derived.Test.YtpbkdokhlimpfaaDoorCdR
namespace Go.Proofs.YtpbkdokhlimpfaaDoor
set_option linter.unusedSimpArgs false
set_option linter.unusedVariables false
open Go.RowKit

def aim30Ops : Array Oper := #[{ dst := some 74, op := Op.load 24 (Operand.tmp 3), type := 24, pos := "law.go:171", after := #[], guard := none }, { dst := some 75, op := Op.call { callee := Callee.value (Operand.func 21), args := #[Operand.tmp 74], argTypes := #[24] }, type := 24, pos := "law.go:171", after := #[{ on := 0, ground := Ground.data }], guard := none }, { dst := some 76, op := Op.load 24 (Operand.tmp 3), type := 24, pos := "law.go:171", after := #[], guard := none }, { dst := some 77, op := Op.call { callee := Callee.value (Operand.func 21), args := #[Operand.tmp 76], argTypes := #[24] }, type := 24, pos := "law.go:171", after := #[{ on := 2, ground := Ground.data }, { on := 1, ground := Ground.chain }], guard := none }, { dst := some 13, op := Op.alloc 24, type := 0, pos := "law.go:171", after := #[], guard := none }, { dst := some 14, op := Op.alloc 24, type := 0, pos := "law.go:171", after := #[], guard := none }, { dst := none, op := Op.store 24 (Operand.tmp 13) (Operand.tmp 75), type := 0, pos := "law.go:171", after := #[{ on := 4, ground := Ground.data }, { on := 1, ground := Ground.data }, { on := 3, ground := Ground.chain }, { on := 0, ground := Ground.phase }, { on := 1, ground := Ground.phase }, { on := 2, ground := Ground.textOnly Departure.lateStores }, { on := 3, ground := Ground.textOnly Departure.lateStoresUnsure }, { on := 4, ground := Ground.phase }, { on := 5, ground := Ground.phase }], guard := none }, { dst := none, op := Op.store 24 (Operand.tmp 14) (Operand.tmp 77), type := 0, pos := "law.go:171", after := #[{ on := 5, ground := Ground.data }, { on := 3, ground := Ground.data }, { on := 6, ground := Ground.chain }, { on := 0, ground := Ground.phase }, { on := 1, ground := Ground.phase }, { on := 2, ground := Ground.phase }, { on := 3, ground := Ground.phase }, { on := 4, ground := Ground.phase }, { on := 5, ground := Ground.phase }, { on := 6, ground := Ground.phase }], guard := none }]
def aim30Dep : Nat → List Nat := fun i => match i with | 1 => [0] | 3 => [2, 1] | 6 => [4, 1, 3, 0, 5] | 7 => [5, 3, 6] | _ => []
def aim30Us (f : Nat → Value) : List (Nat × Value) := [(74, f 74), (75, f 75), (76, f 76), (77, f 77), (13, f 13), (14, f 14)]
theorem zero_box (w : World) : (w.alloc (.cells #[.slice none 0 0, .int .i64 0, .int .i64 0, .int .i64 0] 24)).heap[w.heap.size]? = some (.cells #[.slice none 0 0, .int .i64 0, .int .i64 0, .int .i64 0] 24 (0, 0)) := heap_alloc_new w _
def ZB (w : World) (g : Nat) : Prop := ∃ old : Array Value, old.size = 4 ∧ w.heap[g]? = some (.cells old 24 (0, 0))
theorem ZB.keep {w w' : World} {g : Nat} (h : ZB w g) (hb : Below w.heap.size w w') : ZB w' g := by
  obtain ⟨old, hs, hh⟩ := h
  exact ⟨old, hs, (hb.block g (Array.getElem?_eq_some_iff.1 hh).1).trans hh⟩
theorem ZB.lt {w : World} {g : Nat} (h : ZB w g) : g < w.heap.size := by
  obtain ⟨old, hs, hh⟩ := h
  exact (Array.getElem?_eq_some_iff.1 hh).1
theorem ZB.row {w : World} {g k : Nat} {cs : Array Value} (h : ZB w g) (hn : g ≠ k) : ZB (w.setRow k cs) g := by
  obtain ⟨old, hs, hh⟩ := h
  exact ⟨old, hs, (setRow_other w k g cs hn).trans hh⟩
theorem chg_row (w : World) (g : Nat) (cs : Array Value) : Chg w (w.setRow g cs) (fun b => b = g) :=
  ⟨rfl, rfl, rfl, by rw [setRow_size]; exact Nat.le_refl _, fun b _ hn => setRow_other w g b cs hn⟩
theorem PO.grow {w w' : World} {O : Nat → Prop} {p : PT} (h : PO w O p) (hb : Below w.heap.size w w') : PO w' O p := h.chg (Chg.of_below hb (fun _ => False)) (fun _ _ h => h)
/-- What was cloned lies in an interval of the heap. -/
structure Iv (W w : World) (p : PT) (s e : Nat) (v : Value) (a : PT) : Prop where
  val : v = a.val
  bare : a.bare = p.bare
  own : PO w (fun k => s ≤ k ∧ k < e) a
  lo : W.heap.size ≤ s
  hi : e ≤ w.heap.size
theorem Iv.keep {W w w' : World} {p a : PT} {s e : Nat} {v : Value} (h : Iv W w p s e v a) (hb : Below w.heap.size w w') : Iv W w' p s e v a :=
  ⟨h.val, h.bare, h.own.grow hb, h.lo, Nat.le_trans h.hi hb.size⟩
theorem Iv.row {W w : World} {p a : PT} {s e g : Nat} {v : Value} (h : Iv W w p s e v a) (cs : Array Value) (hg : g < s ∨ e ≤ g) : Iv W (w.setRow g cs) p s e v a :=
  ⟨h.val, h.bare, h.own.chg (chg_row w g cs) (fun b hb e => by omega), h.lo, by rw [setRow_size]; exact h.hi⟩
/-- Ahead of the stores. -/
structure Pre (W w : World) (p : PT) (L : Nat → Bool) (f : Nat → Value) (s1 e1 s2 e2 gA gB : Nat) (a b : PT) : Prop where
  v0 : L 0 = true → f 74 = p.val
  v2 : L 2 = true → f 76 = p.val
  c1 : L 1 = true → Iv W w p s1 e1 (f 75) a
  c3 : L 3 = true → Iv W w p s2 e2 (f 77) b ∧ e1 ≤ s2
  a4 : L 4 = true → f 13 = .pointer (some ⟨gA, 0, none⟩) ∧ ZB w gA ∧ W.heap.size ≤ gA
  a5 : L 5 = true → f 14 = .pointer (some ⟨gB, 0, none⟩) ∧ ZB w gB ∧ W.heap.size ≤ gB
  n41 : L 4 = true → L 1 = true → gA < s1 ∨ e1 ≤ gA
  n43 : L 4 = true → L 3 = true → gA < s2 ∨ e2 ≤ gA
  n51 : L 5 = true → L 1 = true → gB < s1 ∨ e1 ≤ gB
  n53 : L 5 = true → L 3 = true → gB < s2 ∨ e2 ≤ gB
  n45 : L 4 = true → L 5 = true → gA ≠ gB
  bel : Below W.heap.size W w
def C30 (W : World) (p : PT) (L : Nat → Bool) (f : Nat → Value) (w : World) : Prop :=
  (L 3 = true → L 1 = true ∧ L 2 = true) ∧
  (L 6 = false → L 7 = false ∧ ∃ s1 e1 s2 e2 gA gB a b, Pre W w p L f s1 e1 s2 e2 gA gB a b) ∧
  (L 6 = true → L 7 = false → ∃ s1 e1 s2 e2 gA gB a b, Iv W w p s1 e1 (f 75) a ∧ Iv W w p s2 e2 (f 77) b ∧ e1 ≤ s2 ∧ f 13 = .pointer (some ⟨gA, 0, none⟩) ∧ f 14 = .pointer (some ⟨gB, 0, none⟩) ∧ BoxP w gA a ∧ ZB w gB ∧ W.heap.size ≤ gA ∧ W.heap.size ≤ gB ∧ (gA < s1 ∨ e1 ≤ gA) ∧ (gA < s2 ∨ e2 ≤ gA) ∧ (gB < s1 ∨ e1 ≤ gB) ∧ (gB < s2 ∨ e2 ≤ gB) ∧ gA ≠ gB ∧ Below W.heap.size W w) ∧
  (L 7 = true → ∃ gA gB a b, f 13 = .pointer (some ⟨gA, 0, none⟩) ∧ f 14 = .pointer (some ⟨gB, 0, none⟩) ∧ Ab W w gA gB a b ∧ a.bare = p.bare ∧ b.bare = p.bare) ∧
  (L 7 = true → L 6 = true) ∧
  (L 6 = true → ∀ i, i < 6 → L i = true)
theorem pre_0 {W w : World} {p : PT} {L : Nat → Bool} {f : Nat → Value} {v : Value} {s1 e1 s2 e2 gA gB : Nat} {a b : PT} (h : Pre W w p L f s1 e1 s2 e2 gA gB a b) (hv : v = p.val) : Pre W w p (fun k => if k = 0 then true else L k) (fun t => if (some 74 : Option Nat) = some t then v else f t) s1 e1 s2 e2 gA gB a b :=
  ⟨fun _ => by simpa using hv, by simpa using h.v2, by simpa using h.c1, by simpa using h.c3, by simpa using h.a4, by simpa using h.a5, by simpa using h.n41, by simpa using h.n43, by simpa using h.n51, by simpa using h.n53, by simpa using h.n45, h.bel⟩
theorem pre_2 {W w : World} {p : PT} {L : Nat → Bool} {f : Nat → Value} {v : Value} {s1 e1 s2 e2 gA gB : Nat} {a b : PT} (h : Pre W w p L f s1 e1 s2 e2 gA gB a b) (hv : v = p.val) : Pre W w p (fun k => if k = 2 then true else L k) (fun t => if (some 76 : Option Nat) = some t then v else f t) s1 e1 s2 e2 gA gB a b :=
  ⟨by simpa using h.v0, fun _ => by simpa using hv, by simpa using h.c1, by simpa using h.c3, by simpa using h.a4, by simpa using h.a5, by simpa using h.n41, by simpa using h.n43, by simpa using h.n51, by simpa using h.n53, by simpa using h.n45, h.bel⟩
theorem pre_1 {W w w2 : World} {p : PT} {L : Nat → Bool} {f : Nat → Value} {v : Value} {s1 e1 s2 e2 gA gB : Nat} {a b : PT} (h : Pre W w p L f s1 e1 s2 e2 gA gB a b) (h3 : L 3 = false) {q : PT} (hq : q.bare = p.bare) (ho : POwn w2 w.heap.size q) (hb : Below w.heap.size w w2) (hv : v = q.val) : Pre W w2 p (fun k => if k = 1 then true else L k) (fun t => if (some 75 : Option Nat) = some t then v else f t) w.heap.size w2.heap.size s2 e2 gA gB q b :=
  ⟨by simpa using h.v0, by simpa using h.v2, fun _ => by simpa using (⟨hv, hq, PO.of ho, h.bel.size, Nat.le_refl _⟩ : Iv W w2 p w.heap.size w2.heap.size v q), by simp [h3],
   fun hl => by have := h.a4 (by simpa using hl); simpa using ⟨this.1, this.2.1.keep hb, this.2.2⟩, fun hl => by have := h.a5 (by simpa using hl); simpa using ⟨this.1, this.2.1.keep hb, this.2.2⟩,
   fun hl _ => .inl (h.a4 (by simpa using hl)).2.1.lt, by simp [h3], fun hl _ => .inl (h.a5 (by simpa using hl)).2.1.lt, by simp [h3], by simpa using h.n45, h.bel.trans (hb.mono h.bel.size)⟩
theorem pre_3 {W w w2 : World} {p : PT} {L : Nat → Bool} {f : Nat → Value} {v : Value} {s1 e1 s2 e2 gA gB : Nat} {a b : PT} (h : Pre W w p L f s1 e1 s2 e2 gA gB a b) (h1 : L 1 = true) {q : PT} (hq : q.bare = p.bare) (ho : POwn w2 w.heap.size q) (hb : Below w.heap.size w w2) (hv : v = q.val) : Pre W w2 p (fun k => if k = 3 then true else L k) (fun t => if (some 77 : Option Nat) = some t then v else f t) s1 e1 w.heap.size w2.heap.size gA gB a q :=
  ⟨by simpa using h.v0, by simpa using h.v2, fun _ => by simpa using (h.c1 h1).keep hb, fun _ => by simpa using (⟨⟨hv, hq, PO.of ho, h.bel.size, Nat.le_refl _⟩, (h.c1 h1).hi⟩ : Iv W w2 p w.heap.size w2.heap.size v q ∧ e1 ≤ w.heap.size),
   fun hl => by have := h.a4 (by simpa using hl); simpa using ⟨this.1, this.2.1.keep hb, this.2.2⟩, fun hl => by have := h.a5 (by simpa using hl); simpa using ⟨this.1, this.2.1.keep hb, this.2.2⟩,
   by simpa using h.n41, fun hl _ => .inl (h.a4 (by simpa using hl)).2.1.lt, by simpa using h.n51, fun hl _ => .inl (h.a5 (by simpa using hl)).2.1.lt, by simpa using h.n45, h.bel.trans (hb.mono h.bel.size)⟩
theorem pre_4 {W w w2 : World} {p : PT} {L : Nat → Bool} {f : Nat → Value} {v : Value} {s1 e1 s2 e2 gA gB : Nat} {a b : PT} (h : Pre W w p L f s1 e1 s2 e2 gA gB a b) (hb : Below w.heap.size w w2) (hz : ZB w2 w.heap.size) (hv : v = .pointer (some ⟨w.heap.size, 0, none⟩)) : Pre W w2 p (fun k => if k = 4 then true else L k) (fun t => if (some 13 : Option Nat) = some t then v else f t) s1 e1 s2 e2 w.heap.size gB a b :=
  ⟨by simpa using h.v0, by simpa using h.v2, fun hl => by simpa using (h.c1 (by simpa using hl)).keep hb, fun hl => by have := h.c3 (by simpa using hl); simpa using ⟨this.1.keep hb, this.2⟩,
   fun _ => by simpa using ⟨hv, hz, h.bel.size⟩, fun hl => by have := h.a5 (by simpa using hl); simpa using ⟨this.1, this.2.1.keep hb, this.2.2⟩,
   fun _ hl => .inr (h.c1 (by simpa using hl)).hi, fun _ hl => .inr (h.c3 (by simpa using hl)).1.hi, by simpa using h.n51, by simpa using h.n53, fun _ hl => by have := (h.a5 (by simpa using hl)).2.1.lt; omega, h.bel.trans (hb.mono h.bel.size)⟩
theorem pre_5 {W w w2 : World} {p : PT} {L : Nat → Bool} {f : Nat → Value} {v : Value} {s1 e1 s2 e2 gA gB : Nat} {a b : PT} (h : Pre W w p L f s1 e1 s2 e2 gA gB a b) (hb : Below w.heap.size w w2) (hz : ZB w2 w.heap.size) (hv : v = .pointer (some ⟨w.heap.size, 0, none⟩)) : Pre W w2 p (fun k => if k = 5 then true else L k) (fun t => if (some 14 : Option Nat) = some t then v else f t) s1 e1 s2 e2 gA w.heap.size a b :=
  ⟨by simpa using h.v0, by simpa using h.v2, fun hl => by simpa using (h.c1 (by simpa using hl)).keep hb, fun hl => by have := h.c3 (by simpa using hl); simpa using ⟨this.1.keep hb, this.2⟩,
   fun hl => by have := h.a4 (by simpa using hl); simpa using ⟨this.1, this.2.1.keep hb, this.2.2⟩, fun _ => by simpa using ⟨hv, hz, h.bel.size⟩,
   by simpa using h.n41, by simpa using h.n43, fun _ hl => .inr (h.c1 (by simpa using hl)).hi, fun _ hl => .inr (h.c3 (by simpa using hl)).1.hi, fun hl _ => by have := (h.a4 (by simpa using hl)).2.1.lt; omega, h.bel.trans (hb.mono h.bel.size)⟩
theorem C30.not6 {W w : World} {p : PT} {L : Nat → Bool} {f : Nat → Value} (hc : C30 W p L f w) (i : Nat) (hi : i < 6) (hl : L i = false) : L 6 = false := by
  cases hh : L 6 with
  | false => rfl
  | true => exact absurd (hc.2.2.2.2.2 hh i hi) (by rw [hl]; decide)
theorem wp_allocP {o : Oper} {a : Act} {w : World} {K : Act → World → Prop} {Q : Exit → Act → World → Prop} (ho : o.op = .alloc 24) (h : K (a.put o.dst (.pointer (some ⟨w.heap.size, 0, none⟩))) (w.alloc (.cells #[.slice none 0 0, .int .i64 0, .int .i64 0, .int .i64 0] 24))) : o.wp Tryd.prog a w K Q := by
  unfold Oper.wp
  have e : (execOp a.eval o).run Tryd.prog w = .ok (.value (.pointer (some ⟨w.heap.size, 0, none⟩))) (w.alloc (.cells #[.slice none 0 0, .int .i64 0, .int .i64 0, .int .i64 0] 24)) := by
    unfold execOp
    simp only [ho]
    kernel_rfl
  rw [e]
  exact h
theorem C30.lift {W w w2 : World} {p : PT} {L : Nat → Bool} {f : Nat → Value} {v : Value} {i : Nat} {d : Option Nat} (hc : C30 W p L f w) (hi : i ≠ 6) (hi7 : i ≠ 7) (h6 : L 6 = false) (h3 : i = 3 → L 1 = true ∧ L 2 = true)
    (hp : ∃ s1 e1 s2 e2 gA gB a b, Pre W w2 p (fun k => if k = i then true else L k) (fun t => if d = some t then v else f t) s1 e1 s2 e2 gA gB a b) : C30 W p (fun k => if k = i then true else L k) (fun t => if d = some t then v else f t) w2 := by
  have h7 := (hc.2.1 h6).1
  have n6 : ¬ (6 = i) := fun e => hi e.symm
  have n7 : ¬ (7 = i) := fun e => hi7 e.symm
  refine ⟨fun hl => ?_, fun _ => ⟨by simpa [n7] using h7, hp⟩, fun hl => ?_, fun hl => ?_, fun hl => ?_, fun hl => ?_⟩
  · have hh : L 1 = true ∧ L 2 = true := by
      by_cases e3 : (3 = i)
      · exact h3 e3.symm
      · exact hc.1 (by simpa [e3] using hl)
    exact ⟨by simp [hh.1], by simp [hh.2]⟩
  · simp [n6, h6] at hl
  · simp [n7, h7] at hl
  · simp [n7, h7] at hl
  · simp [n6, h6] at hl
set_option maxRecDepth 20000 in
set_option maxHeartbeats 4000000 in
theorem aim30_reg {p : PT} {g : Nat} {W : World} {A0 : Act} {Q : Exit → Act → World → Prop} {id : Nat} (hA : Act.at A0 3 = .pointer (some ⟨g, 0, none⟩)) (hsz : 78 ≤ A0.tmps.size) (hbox : BoxP W g p)
    (HCl : ∀ w, Below W.heap.size W w → Calls Tryd.prog 21 #[p.val] w (fun e w' => ∃ q : PT, e = .returned q.val ∧ q.bare = p.bare ∧ POwn w' w.heap.size q ∧ Below w.heap.size w w'))
    (hk : ∀ (f : Nat → Value) w' gA gB a b, f 13 = .pointer (some ⟨gA, 0, none⟩) → f 14 = .pointer (some ⟨gB, 0, none⟩) → Ab W w' gA gB a b → a.bare = p.bare → b.bare = p.bare → Q .normal ⟨(aim30Us f).foldl (fun A p => A.setIfInBounds p.1 p.2) A0.tmps, A0.defers⟩ w') :
    (Code.region id aim30Ops true).wp Tryd.prog Q A0 W := by
  have hsize : ∀ x : PT, (Tryd.prog.info? 24).map (·.size) = some x.cells.toArray.size := fun x => rfl
  have hone : ∀ x : PT, x.cells.toArray.all (·.oneCell') = true := fun x => by simp [PT.cells, Value.oneCell']
  refine wp_region_fun (by kernel_rfl) (fun L f w => C30 W.drew p L f w) [74, 75, 76, 77, 13, 14] (wf_ops2 (ops := aim30Ops) (by kernel_rfl)) (fun i o ho u hu => ?_) ?_ ?_ ?_
  · have := ops_dst [74, 75, 76, 77, 13, 14] 78 (by kernel_rfl) i o ho u hu
    exact ⟨this.1, Nat.lt_of_lt_of_le this.2 hsz⟩
  · have hs : aim30Ops.size = 8 := rfl
    rw [hs]
    refine ⟨by simp, fun _ => ⟨rfl, 0, 0, 0, 0, 0, 0, p, p, ?_⟩, by simp, by simp, by simp, by simp⟩
    constructor <;> first | exact Below.refl _ _ | (intro h; simp at h) | (intro h h2; simp at h)
  · rintro L i o ho hLi haf b w hf hc K hK
    have hdep := ops_deps aim30Dep (by kernel_rfl) ho haf
    clear haf
    have hs : aim30Ops.size = 8 := rfl
    have hlt : i < 8 := hs ▸ (Array.getElem?_eq_some_iff.1 ho).1
    have hcases : i = 0 ∨ i = 1 ∨ i = 2 ∨ i = 3 ∨ i = 4 ∨ i = 5 ∨ i = 6 ∨ i = 7 := by omega
    clear hlt
    rcases hcases with rfl | rfl | rfl | rfl | rfl | rfl | rfl | rfl
    · have h1 : (aim30Ops[0]?).map (·.dst) = some (some 74) := by kernel_rfl
      have h2 : (aim30Ops[0]?).map (·.op) = some (Op.load 24 (Operand.tmp 3)) := by kernel_rfl
      rw [ho] at h1 h2
      replace h1 := Option.some.inj h1
      replace h2 := Option.some.inj h2
      simp only at h1 h2
      rw [h1] at hK
      have h6 : L 6 = false := hc.not6 0 (by decide) hLi
      obtain ⟨-, s1, e1, s2, e2, gA, gB, a, b', hp⟩ := hc.2.1 h6
      have hbw : Below W.heap.size W w := ⟨hp.bel.os, hp.bel.tape, hp.bel.output, hp.bel.size, hp.bel.block⟩
      refine wp_load_row 24 (.tmp 3) h2 g ((hf 3 (by decide)).trans hA) 24 p.cells.toArray (0, 0) _ ((hbw.block g hbox.lt).trans hbox) Tryd.underlying24 rfl (hsize p) ?_
      rw [h1]
      exact hK _ _ (C30.lift hc (by decide) (by decide) h6 (by intro e; cases e) ⟨s1, e1, s2, e2, gA, gB, a, b', pre_0 hp rfl⟩)
    · have h1 : (aim30Ops[1]?).map (·.dst) = some (some 75) := by kernel_rfl
      have h2 : (aim30Ops[1]?).map (·.op) = some (Op.call { callee := Callee.value (Operand.func 21), args := #[Operand.tmp 74], argTypes := #[24] }) := by kernel_rfl
      rw [ho] at h1 h2
      replace h1 := Option.some.inj h1
      replace h2 := Option.some.inj h2
      simp only at h1 h2
      rw [h1] at hK
      have l0 : L 0 = true := hdep 0 (by simp [aim30Dep])
      have h6 : L 6 = false := hc.not6 1 (by decide) hLi
      obtain ⟨-, s1, e1, s2, e2, gA, gB, a, b', hp⟩ := hc.2.1 h6
      have hbw : Below W.heap.size W w := ⟨hp.bel.os, hp.bel.tape, hp.bel.output, hp.bel.size, hp.bel.block⟩
      have h3 : L 3 = false := by cases hh : L 3 with | false => rfl | true => have := (hc.1 hh).1; rw [hLi] at this; cases this
      refine wp_callG 21 _ _ h2 (enters_of Tryd.func21 (by kernel_rfl) rfl) #[p.val] (by simp [show b.eval (.tmp 74) = _ from hp.v0 l0]) (fun v w' => ∃ q : PT, v = q.val ∧ q.bare = p.bare ∧ POwn w' w.heap.size q ∧ Below w.heap.size w w') ((HCl w hbw).mono fun e w' hh => by obtain ⟨q, h1, h2⟩ := hh; exact ⟨_, h1, q, rfl, h2⟩) ?_
      rintro v w2 ⟨q, rfl, hq, ho2, hb2⟩
      rw [h1]
      exact hK _ _ (C30.lift hc (by decide) (by decide) h6 (by intro e; cases e) ⟨w.heap.size, w2.heap.size, s2, e2, gA, gB, q, b', pre_1 hp h3 hq ho2 hb2 rfl⟩)
    · have h1 : (aim30Ops[2]?).map (·.dst) = some (some 76) := by kernel_rfl
      have h2 : (aim30Ops[2]?).map (·.op) = some (Op.load 24 (Operand.tmp 3)) := by kernel_rfl
      rw [ho] at h1 h2
      replace h1 := Option.some.inj h1
      replace h2 := Option.some.inj h2
      simp only at h1 h2
      rw [h1] at hK
      have h6 : L 6 = false := hc.not6 2 (by decide) hLi
      obtain ⟨-, s1, e1, s2, e2, gA, gB, a, b', hp⟩ := hc.2.1 h6
      have hbw : Below W.heap.size W w := ⟨hp.bel.os, hp.bel.tape, hp.bel.output, hp.bel.size, hp.bel.block⟩
      refine wp_load_row 24 (.tmp 3) h2 g ((hf 3 (by decide)).trans hA) 24 p.cells.toArray (0, 0) _ ((hbw.block g hbox.lt).trans hbox) Tryd.underlying24 rfl (hsize p) ?_
      rw [h1]
      exact hK _ _ (C30.lift hc (by decide) (by decide) h6 (by intro e; cases e) ⟨s1, e1, s2, e2, gA, gB, a, b', pre_2 hp rfl⟩)
    · have h1 : (aim30Ops[3]?).map (·.dst) = some (some 77) := by kernel_rfl
      have h2 : (aim30Ops[3]?).map (·.op) = some (Op.call { callee := Callee.value (Operand.func 21), args := #[Operand.tmp 76], argTypes := #[24] }) := by kernel_rfl
      rw [ho] at h1 h2
      replace h1 := Option.some.inj h1
      replace h2 := Option.some.inj h2
      simp only at h1 h2
      rw [h1] at hK
      have l2 : L 2 = true := hdep 2 (by simp [aim30Dep])
      have l1 : L 1 = true := hdep 1 (by simp [aim30Dep])
      have h6 : L 6 = false := hc.not6 3 (by decide) hLi
      obtain ⟨-, s1, e1, s2, e2, gA, gB, a, b', hp⟩ := hc.2.1 h6
      have hbw : Below W.heap.size W w := ⟨hp.bel.os, hp.bel.tape, hp.bel.output, hp.bel.size, hp.bel.block⟩
      refine wp_callG 21 _ _ h2 (enters_of Tryd.func21 (by kernel_rfl) rfl) #[p.val] (by simp [show b.eval (.tmp 76) = _ from hp.v2 l2]) (fun v w' => ∃ q : PT, v = q.val ∧ q.bare = p.bare ∧ POwn w' w.heap.size q ∧ Below w.heap.size w w') ((HCl w hbw).mono fun e w' hh => by obtain ⟨q, h1, h2⟩ := hh; exact ⟨_, h1, q, rfl, h2⟩) ?_
      rintro v w2 ⟨q, rfl, hq, ho2, hb2⟩
      rw [h1]
      exact hK _ _ (C30.lift hc (by decide) (by decide) h6 (by exact fun _ => ⟨l1, l2⟩) ⟨s1, e1, w.heap.size, w2.heap.size, gA, gB, a, q, pre_3 hp l1 hq ho2 hb2 rfl⟩)
    · have h1 : (aim30Ops[4]?).map (·.dst) = some (some 13) := by kernel_rfl
      have h2 : (aim30Ops[4]?).map (·.op) = some (Op.alloc 24) := by kernel_rfl
      rw [ho] at h1 h2
      replace h1 := Option.some.inj h1
      replace h2 := Option.some.inj h2
      simp only at h1 h2
      rw [h1] at hK
      have h6 : L 6 = false := hc.not6 4 (by decide) hLi
      obtain ⟨-, s1, e1, s2, e2, gA, gB, a, b', hp⟩ := hc.2.1 h6
      have hbw : Below W.heap.size W w := ⟨hp.bel.os, hp.bel.tape, hp.bel.output, hp.bel.size, hp.bel.block⟩
      refine wp_allocP h2 ?_
      rw [h1]
      exact hK _ _ (C30.lift hc (by decide) (by decide) h6 (by intro e; cases e) ⟨s1, e1, s2, e2, w.heap.size, gB, a, b', pre_4 hp ((Below.refl _ _).alloc (Nat.le_refl _) _) ⟨_, rfl, zero_box w⟩ rfl⟩)
    · have h1 : (aim30Ops[5]?).map (·.dst) = some (some 14) := by kernel_rfl
      have h2 : (aim30Ops[5]?).map (·.op) = some (Op.alloc 24) := by kernel_rfl
      rw [ho] at h1 h2
      replace h1 := Option.some.inj h1
      replace h2 := Option.some.inj h2
      simp only at h1 h2
      rw [h1] at hK
      have h6 : L 6 = false := hc.not6 5 (by decide) hLi
      obtain ⟨-, s1, e1, s2, e2, gA, gB, a, b', hp⟩ := hc.2.1 h6
      have hbw : Below W.heap.size W w := ⟨hp.bel.os, hp.bel.tape, hp.bel.output, hp.bel.size, hp.bel.block⟩
      refine wp_allocP h2 ?_
      rw [h1]
      exact hK _ _ (C30.lift hc (by decide) (by decide) h6 (by intro e; cases e) ⟨s1, e1, s2, e2, gA, w.heap.size, a, b', pre_5 hp ((Below.refl _ _).alloc (Nat.le_refl _) _) ⟨_, rfl, zero_box w⟩ rfl⟩)
    · have h1 : (aim30Ops[6]?).map (·.dst) = some none := by kernel_rfl
      have h2 : (aim30Ops[6]?).map (·.op) = some (Op.store 24 (Operand.tmp 13) (Operand.tmp 75)) := by kernel_rfl
      rw [ho] at h1 h2
      replace h1 := Option.some.inj h1
      replace h2 := Option.some.inj h2
      simp only at h1 h2
      rw [h1] at hK
      have l4 : L 4 = true := hdep 4 (by simp [aim30Dep])
      have l1 : L 1 = true := hdep 1 (by simp [aim30Dep])
      have l3 : L 3 = true := hdep 3 (by simp [aim30Dep])
      obtain ⟨h7, s1, e1, s2, e2, gA, gB, a, b', hp⟩ := hc.2.1 hLi
      have l5 : L 5 = true := hdep 5 (by simp [aim30Dep])
      obtain ⟨f13, hz13, hg13⟩ := hp.a4 l4
      obtain ⟨f14, hz14, hg14⟩ := hp.a5 l5
      obtain ⟨old, hos, hoh⟩ := hz13
      have i1 := hp.c1 l1
      have i3 := hp.c3 l3
      refine wp_store_row 24 _ _ h2 gA a.cells.toArray f13 i1.val 24 old hoh (hsize a) (hos.trans rfl) (hone _) ?_
      rw [h1]
      refine hK _ _ ⟨by simpa using hc.1, fun hl => by simp at hl, fun _ _ => ⟨s1, e1, s2, e2, gA, gB, a, b', ?_, ?_, i3.2, ?_, ?_, setRow_heap _ _ _ _ _ _ hoh, hz14.row (hp.n45 l4 l5).symm, hg13, hg14, hp.n41 l4 l1, hp.n43 l4 l3, hp.n51 l5 l1, hp.n53 l5 l3, hp.n45 l4 l5, below_row hp.bel hg13 _⟩, by simp [h7], by simp [h7], fun _ i hi => ?_⟩
      · simpa using i1.row a.cells.toArray (hp.n41 l4 l1)
      · simpa using i3.1.row a.cells.toArray (hp.n43 l4 l3)
      · simpa using f13
      · simpa using f14
      · have h0 : L 0 = true := hdep 0 (by simp [aim30Dep])
        have h2' : L 2 = true := (hc.1 l3).2
        rcases (show i = 0 ∨ i = 1 ∨ i = 2 ∨ i = 3 ∨ i = 4 ∨ i = 5 by omega) with rfl | rfl | rfl | rfl | rfl | rfl <;> simp [*]
    · have h1 : (aim30Ops[7]?).map (·.dst) = some none := by kernel_rfl
      have h2 : (aim30Ops[7]?).map (·.op) = some (Op.store 24 (Operand.tmp 14) (Operand.tmp 77)) := by kernel_rfl
      rw [ho] at h1 h2
      replace h1 := Option.some.inj h1
      replace h2 := Option.some.inj h2
      simp only at h1 h2
      rw [h1] at hK
      have l5 : L 5 = true := hdep 5 (by simp [aim30Dep])
      have l3 : L 3 = true := hdep 3 (by simp [aim30Dep])
      have l6 : L 6 = true := hdep 6 (by simp [aim30Dep])
      obtain ⟨s1, e1, s2, e2, gA, gB, a, b', i1, i2, h12, f13, f14, hA7, hz14, hg13, hg14, n41, n43, n51, n53, n45, bel⟩ := hc.2.2.1 l6 hLi
      obtain ⟨old, hos, hoh⟩ := hz14
      refine wp_store_row 24 _ _ h2 gB b'.cells.toArray f14 i2.val 24 old hoh (hsize b') (hos.trans rfl) (hone _) ?_
      rw [h1]
      have j1 := i1.row b'.cells.toArray n51
      have j2 := i2.row b'.cells.toArray n53
      have k1 : BoxP (w.setRow gB b'.cells.toArray) gA a := (setRow_other w gB gA _ n45).trans hA7
      have k2 : BoxP (w.setRow gB b'.cells.toArray) gB b' := setRow_heap _ _ _ _ _ _ hoh
      have hbel := below_row bel hg14 b'.cells.toArray
      refine hK _ _ ⟨by simpa using hc.1, fun hl => by simp [l6] at hl, fun _ hl => by simp at hl, fun _ => ⟨gA, gB, a, b', by simpa using f13, by simpa using f14, ⟨⟨_, _, j1.own, j2.own, fun k hk => ⟨Nat.le_trans j1.lo hk.1, ?_⟩, fun k hk => ⟨Nat.le_trans j2.lo hk.1, ?_⟩⟩, k1, k2, ⟨hbel.os, hbel.tape, hbel.output, hbel.size, hbel.block⟩⟩, i1.bare, i2.bare⟩, fun _ => by simpa using l6, fun _ i hi => by have := hc.2.2.2.2.2 l6 i hi; simp [this]⟩
      · have := hk.1; have := hk.2; have := h12; omega
      · have := hk.1; have := hk.2; omega
  · rintro L b w hL hd hs hf hc
    have hsz2 : aim30Ops.size = 8 := rfl
    rw [hsz2] at hL
    have e := act_eq (a := A0) (b := b) (aim30Us (Act.at b)) hd hs hf (by
      intro p hp
      simp only [aim30Us, List.mem_cons, List.not_mem_nil, or_false] at hp
      rcases hp with rfl | rfl | rfl | rfl | rfl | rfl <;> rfl) (by rw [show (aim30Us (Act.at b)).map (·.1) = [74, 75, 76, 77, 13, 14] from rfl]; decide)
    rw [e]
    obtain ⟨gA, gB, a, b', f13, f14, hab, ha, hb⟩ := hc.2.2.2.1 (hL 7 (by omega))
    obtain ⟨O1, O2, h1, h2, h3, h4⟩ := hab.ex
    exact hk (Act.at b) w gA gB a b' f13 f14 ⟨⟨O1, O2, h1, h2, h3, h4⟩, hab.boxA, hab.boxB, ⟨hab.bel.os, hab.bel.tape, hab.bel.output, hab.bel.size, hab.bel.block⟩⟩ ha hb
end Go.Proofs.YtpbkdokhlimpfaaDoor
