/- spec: Each: what is visited, and the closure that is handed in. -/
import Derived.Test.YthjfhenldkihkaaSpCh
import Derived.Test.YthjfhenldkihkaaSpBm
namespace Go.Proofs.Ythjfhenldkihkaa
set_option linter.unusedSimpArgs false
set_option linter.unusedVariables false
open Go.RowKit

/-- What a walk over a list of types visits: whether it was all, and all that has been visited. -/
def vis (ret : List Int → Bool) : List Nat → List Int → Bool × List Int
  | [], sg => (true, sg)
  | i :: l, sg => if ret (sg ++ [(i : Int)]) = true then vis ret l (sg ++ [(i : Int)]) else (false, sg ++ [(i : Int)])
theorem vis_app (ret : List Int → Bool) : ∀ (l m : List Nat) (sg : List Int), vis ret (l ++ m) sg = if (vis ret l sg).1 = true then vis ret m (vis ret l sg).2 else vis ret l sg
  | [], m, sg => by simp [vis]
  | i :: l, m, sg => by
    simp only [List.cons_append, vis]
    split
    · exact vis_app ret l m _
    · simp
theorem vis_len (ret : List Int → Bool) : ∀ (l : List Nat) (sg : List Int), (vis ret l sg).2.length ≤ sg.length + l.length
  | [], sg => by simp [vis]
  | i :: l, sg => by
    simp only [vis]
    split
    · have := vis_len ret l (sg ++ [(i : Int)])
      simp only [List.length_append, List.length_cons, List.length_nil] at this ⊢
      omega
    · simp only [List.length_append, List.length_cons, List.length_nil]; omega

/-- A closure's own memory: the box cb, and what it owns. -/
def Own (cb : Nat) (W : World) (k : Nat) : Prop := k = cb ∨ ∃ v, W.cell? ⟨cb, 0, none⟩ = some v ∧ v.ownBlock = some k
theorem own_same {cb : Nat} {W W' : World} (h : W'.heap[cb]? = W.heap[cb]?) (k : Nat) : Own cb W' k ↔ Own cb W k := by
  unfold Own
  rw [World.cell?_of_block (w := W) (w' := W') (a := ⟨cb, 0, none⟩) h]
/-- Nothing but the closure's own memory, and met, changes. -/
structure Ev (cb gm : Nat) (w w' : World) : Prop where
  chg : Chg w w' (fun k => k = gm ∨ Own cb w k)
  old : ∀ k, k < w.heap.size → ¬ Own cb w k → ¬ Own cb w' k
theorem Ev.trans {cb gm : Nat} {a b c : World} (h : Ev cb gm a b) (k : Ev cb gm b c) : Ev cb gm a c := by
  refine ⟨⟨k.chg.os.trans h.chg.os, k.chg.tape.trans h.chg.tape, k.chg.output.trans h.chg.output, Nat.le_trans h.chg.size k.chg.size, fun j hj hn => ?_⟩, fun j hj hn => k.old j (Nat.lt_of_lt_of_le hj h.chg.size) (h.old j hj hn)⟩
  have h1 : ¬ Own cb a j := fun e => hn (.inr e)
  rw [k.chg.block j (Nat.lt_of_lt_of_le hj h.chg.size) (fun e => e.elim (fun e => hn (.inl e)) (h.old j hj h1)), h.chg.block j hj hn]
theorem Ev.of_below {cb gm : Nat} {w w' : World} (hc : cb < w.heap.size) (h : Below w.heap.size w w') : Ev cb gm w w' :=
  ⟨Chg.of_below h _, fun k _ hn e => hn ((own_same (h.block cb hc) k).1 e)⟩
theorem Ev.set {cb gm : Nat} (w : World) (hne : gm ≠ cb) (x : Nat) (u : Value) : Ev cb gm w (w.setCell ⟨gm, x, none⟩ u) :=
  ⟨(Chg.refl w _).set gm x (.inl rfl) u, fun k _ hn e => hn ((own_same (Below.heap_setCell w ⟨gm, x, none⟩ u cb (fun e => hne e.symm)) k).1 e)⟩
/-- A function value that is handed types one by one: what it answers by all that it has been handed. -/
structure Yields (F : Nat) (caps : Array Value) (cb : Nat) (ret : List Int → Bool) (Y : List Int → World → Prop) : Prop where
  ent : ∀ args w, (callFunc F args).run Try.prog w = .ok (.enter F args) w
  call : ∀ (sg : List Int) (i : Nat) W, Y sg W → sg.length < 4096 → Calls Try.prog F (#[.int .i64 (i : Int)] ++ caps) W fun e W' => e = .returned (.bool (ret (sg ++ [(i : Int)]))) ∧ Y (sg ++ [(i : Int)]) W' ∧ Chg W W' (Own cb W) ∧ ∀ k, k < W.heap.size → ¬ Own cb W k → ¬ Own cb W' k
  keep : ∀ sg W W' (S : Nat → Prop), Y sg W → Chg W W' S → (∀ k, S k → ¬ Own cb W k ∧ ∃ cs, Blk W k 4 cs) → Y sg W'
  lt : ∀ sg W, Y sg W → cb < W.heap.size
  ob : ∀ sg W k, Y sg W → Own cb W k → k < W.heap.size
/-- The memory of a call of Each. -/
structure EaS (s : SpV) (base gs gb gm gy gh F cb : Nat) (caps : Array Value) (Y : List Int → World → Prop) (S : List Nat) (sg : List Int) (W : World) : Prop where
  bs : Blk W gs 25 [.slice s.N.A s.N.n s.N.c, .slice s.D.A s.D.n s.D.c]
  bb : Blk W gb 45 [.slice (some ⟨gm, 0, none⟩) s.vs.length s.vs.length]
  me : Blk W gm 4 (boolC (markL s.vs.length S))
  yb : Blk W gy 34 [.func (.func F) #[] caps]
  hb : Blk W gh 34 [.func (.func 25) #[] #[.pointer (some ⟨gs, 0, none⟩), .pointer (some ⟨gb, 0, none⟩), .pointer (some ⟨gy, 0, none⟩), .pointer (some ⟨gh, 0, none⟩)]]
  ok : SpecOk W (· < base) s
  y : Y sg W
  no : ¬ Own cb W gs ∧ ¬ Own cb W gb ∧ ¬ Own cb W gm ∧ ¬ Own cb W gy ∧ ¬ Own cb W gh
  nP : ∀ b, b < base → ¬ Own cb W b
  bl : base ≤ gs ∧ base ≤ gm
theorem blk_ne {W : World} {g g' : Nat} {T U : TypeId} {cs ds : List Value} (h : Blk W g T cs) (k : Blk W g' U ds) (hT : T ≠ U) : g ≠ g' := fun e => by
  subst e
  exact hT (blk_type h k)
section
variable {s : SpV} {base gs gb gm gy gh F cb : Nat} {caps : Array Value} {ret : List Int → Bool} {Y : List Int → World → Prop} {S : List Nat} {sg : List Int} {W W' : World}
theorem EaS.keep (h : EaS s base gs gb gm gy gh F cb caps Y S sg W) (HY : Yields F caps cb ret Y) (hb : Below W.heap.size W W') : EaS s base gs gb gm gy gh F cb caps Y S sg W' := by
  have hc := HY.lt _ _ h.y
  have ho := own_same (hb.block cb hc)
  exact ⟨h.bs.keep hb, h.bb.keep hb, h.me.keep hb, h.yb.keep hb, h.hb.keep hb, h.ok.keep hb, HY.keep _ _ _ (fun _ => False) h.y (Chg.of_below hb _) (fun _ e => e.elim), by simpa only [ho] using h.no, fun b hl => by rw [ho]; exact h.nP b hl, h.bl⟩
theorem EaS.mark (h : EaS s base gs gb gm gy gh F cb caps Y S sg W) (HY : Yields F caps cb ret Y) (x : Nat) : EaS s base gs gb gm gy gh F cb caps Y (S ++ [x]) sg (W.setCell ⟨gm, x, none⟩ (.bool true)) := by
  have hc : Chg W (W.setCell ⟨gm, x, none⟩ (.bool true)) (· = gm) := (Chg.refl W (· = gm)).set gm x rfl _
  have hgc : gm ≠ cb := fun e => h.no.2.2.1 (.inl e)
  have ho := own_same (W' := W.setCell ⟨gm, x, none⟩ (.bool true)) (Below.heap_setCell W ⟨gm, x, none⟩ (.bool true) cb (fun e => hgc e.symm))
  refine ⟨h.bs.chg hc (blk_ne h.bs h.me (by decide)), h.bb.chg hc (blk_ne h.bb h.me (by decide)), ?_, h.yb.chg hc (blk_ne h.yb h.me (by decide)), h.hb.chg hc (blk_ne h.hb h.me (by decide)), h.ok.mono (fun b hl hlt => hc.block b hlt (fun e => by have := h.bl.2; omega)) hc.size (fun _ hp _ => hp), HY.keep _ _ _ _ h.y hc (fun k e => by rw [e]; exact ⟨h.no.2.2.1, _, h.me⟩), by simpa only [ho] using h.no, fun b hl => by rw [ho]; exact h.nP b hl, h.bl⟩
  have := h.me.put x (.bool true)
  rw [← markL_set]
  simpa [boolC, List.map_set] using this
theorem EaS.went (h : EaS s base gs gb gm gy gh F cb caps Y S sg W) {sg' : List Int} (hy : Y sg' W') (hc : Chg W W' (Own cb W)) (ho : ∀ k, k < W.heap.size → ¬ Own cb W k → ¬ Own cb W' k) (hbs : base ≤ W.heap.size) : EaS s base gs gb gm gy gh F cb caps Y S sg' W' := by
  obtain ⟨n1, n2, n3, n4, n5⟩ := h.no
  exact ⟨h.bs.chg hc n1, h.bb.chg hc n2, h.me.chg hc n3, h.yb.chg hc n4, h.hb.chg hc n5, h.ok.mono (fun b hl hlt => hc.block b hlt (h.nP b hl)) hc.size (fun _ hp _ => hp), hy, ⟨ho _ h.bs.lt n1, ho _ h.bb.lt n2, ho _ h.me.lt n3, ho _ h.yb.lt n4, ho _ h.hb.lt n5⟩, fun b hl => ho b (by omega) (h.nP b hl), h.bl⟩
end
end Go.Proofs.Ythjfhenldkihkaa
