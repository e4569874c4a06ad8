/- spec: a map that counts numbers. -/
import Derived.Test.YtbhfkgaenahchaaSpRw
import Derived.Test.YtbhfkgaenahchaaSpC
import Derived.Maps.OwnOps
import Derived.Maps.Views
namespace Go.Proofs.Ytbhfkgaenahchaa
set_option linter.unusedSimpArgs false
set_option linter.unusedVariables false
open Go.RowKit Go.Maps

theorem wpList_lookedUp {P : Program} {ops : Array Oper} {Q : Exit → Act → World → Prop} {a : Act} {w : World} {rest : List Oper} {o : Oper} (m x : Operand) (t : TypeId) (hop : o.op = .lookup t m x false) (b : Nat) (key v : Value)
    (hw : Region.wanted o (yielded ops a.tmps) = true) (hm : a.eval m = .map (some b)) (hx : a.eval x = key) (hrun : (Instr.lookup t (.map (some b)) key false).run P w = .ok v w) (h : wpList P ops Q rest (a.put o.dst v) w) : wpList P ops Q (o :: rest) a w := by
  refine wpList_wanted hw fun K hK => ?_
  unfold Oper.wp
  simp [execOp, hop, hm, hx, hrun, Result.andThen]
  exact hK _ _ h
theorem lawI : Keyed Try.prog 3 := int_keyed Try.underlying3
theorem zeroI (w : World) : (zeroValue 3).run Try.prog w = .ok (.int .i64 0) w := by kernel_rfl
def iD (n : Int) : DataW Unit := .lit (.int .i64 n)
/-- The map at block B counts the numbers of L. -/
def Owners (W : World) (B : Nat) (L : List Int) : Prop := ∃ D : DataW Unit, W.ownsMap Try.prog 3 (plainElem Try.prog 3) B L.length D ∧ IsMap D ∧ ∀ a, D.atKey (.int .i64 a) (iD 0) = iD (L.count a : Nat)
theorem Owners.keep {W W' : World} {B : Nat} {L : List Int} (h : Owners W B L) (hb : Below W.heap.size W W') : Owners W' B L := by
  obtain ⟨D, h1, h2, h3⟩ := h
  exact ⟨D, h1.kept (row := none) ⟨hb.os, hb.tape, hb.output, hb.size, fun k hk _ => hb.block k hk⟩ (by simp), h2, h3⟩
theorem Owners.lt {W : World} {B : Nat} {L : List Int} (h : Owners W B L) : B < W.heap.size := by
  obtain ⟨D, h1, _⟩ := h
  exact h1.lt
theorem Owners.made (w : World) : Owners (w.alloc (.map #[] 0)) w.heap.size [] := ⟨.map [], World.ownsMap_made _ _ _ _, isMap_empty, fun a => rfl⟩
theorem wf_I64 {p : Int} (h : I64 p) : (Lit.int .i64 p).wf = true := Go.WalkArith.wf_i64 h
set_option maxRecDepth 100000 in
theorem wpList_owned {ops : Array Oper} {Q : Exit → Act → World → Prop} {a : Act} {w : World} {rest : List Oper} {o : Oper} {B : Nat} {L : List Int} {p : Int} (hO : Owners w B L) (hp : I64 p) (m x : Operand) (hop : o.op = .lookup 29 m x false)
    (hw : Region.wanted o (yielded ops a.tmps) = true) (hm : a.eval m = .map (some B)) (hx : a.eval x = .int .i64 p) (h : wpList Try.prog ops Q rest (a.put o.dst (.int .i64 (L.count p : Nat))) w) : wpList Try.prog ops Q (o :: rest) a w := by
  obtain ⟨D, hown, _, hat⟩ := hO
  obtain ⟨c, hrun, hc, _⟩ := hown.lookup_int lawI Try.underlying29 Try.underlying3 (zeroI w) (keyOf_int_mk Try.underlying3 (wf_I64 hp))
  have e : c = (L.count p : Nat) := by
    have h1 := hat p
    unfold iD at h1
    rw [hc] at h1
    injection h1 with h1
    injection h1
  subst e
  exact wpList_lookedUp m x _ hop B _ _ hw hm hx hrun h
set_option maxRecDepth 100000 in
theorem wpList_own1 {ops : Array Oper} {Q : Exit → Act → World → Prop} {a : Act} {w : World} {rest : List Oper} {o : Oper} {B : Nat} {L : List Int} {p : Int} (hO : Owners w B L) (hp : I64 p) (hl : L.length ≤ 1048576) (m x v : Operand) (hop : o.op = .mapUpdate 29 m x v) (hg : o.guard = none)
    (hm : a.eval m = .map (some B)) (hx : a.eval x = .int .i64 p) (hv : a.eval v = .int .i64 ((L.count p : Nat) + 1)) (h : ∀ w', Owners w' B (L ++ [p]) → w.grownBy w' (some B) → wpList Try.prog ops Q rest (a.put o.dst undef) w') : wpList Try.prog ops Q (o :: rest) a w := by
  obtain ⟨D, hown, hD, hat⟩ := hO
  have hc : L.count p ≤ L.length := List.count_le_length
  refine wpList_mapUpdate_own w hg m x v 29 hop 3 3 lawI Try.underlying29 _ B L.length D hm hown (by unfold maxLen; omega) _ _ _ hx hv (keyOf_int_mk Try.underlying3 (wf_I64 hp)) _ [] (plainElem_int Try.underlying3 (wf_I64 ⟨by omega, by omega⟩)) ?_
  intro w' h1 h2
  refine h w' ⟨_, by rw [List.length_append]; exact h1, hD.put _ _, fun a => ?_⟩ h2
  by_cases e : a = p
  · subst e
    rw [atKey_put_same hD (by first | trivial | simp [WideAt.IsKeyLit])]
    simp [iD, List.count_append]
  · rw [atKey_put_other (by intro h; injection h; contradiction), hat a]
    have : List.count a [p] = 0 := by simp [List.count_cons, Ne.symm e]
    simp [List.count_append, this]
end Go.Proofs.Ytbhfkgaenahchaa
