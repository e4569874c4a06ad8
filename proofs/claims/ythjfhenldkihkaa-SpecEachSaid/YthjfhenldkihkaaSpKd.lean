/- spec: the laws' own list of a type's parts. -/
import Derived.Test.YthjfhenldkihkaaSpLa
namespace Go.Proofs.Ythjfhenldkihkaa
set_option linter.unusedSimpArgs false
set_option linter.unusedVariables false
open Go.RowKit

set_option maxRecDepth 10000 in
theorem wpList_app_ints {ops : Array Oper} {rest : List Oper} {o : Oper} {a : Act} {w : World} {Q : Exit → Act → World → Prop} (hgd : o.guard = none) (s x : Operand)
    (ho : o.op = .call { callee := .builtin .append, args := #[s, x], argTypes := #[30, 30] })
    (base : Nat) (v : Value) (n : Nat) (xs : List Value) (hs : a.eval s = v) (hown : w.ownsRow base 3 1 v n xs) (hv : v ≠ .slice none 0 0) {P : Nat → Prop} (S : SV) (ls : List Int) (hx : a.eval x = S.val) (hr : Rw w P S (intC ls)) (hn : S.n = ls.length) (hb : n + ls.length ≤ 1048576) (hbase : base ≤ w.heap.size)
    (h : ∀ A m c w', m = n + ls.length → w'.ownsRow base 3 1 (.slice A m c) (n + ls.length) (xs ++ intC ls) → w.grownBy w' v.ownBlock → Value.slice A m c ≠ .slice none 0 0 → wpList Try.prog ops Q rest (a.put o.dst (.slice A m c)) w') : wpList Try.prog ops Q (o :: rest) a w := by
  obtain ⟨i0, hi0, hz0, hz1, hz2⟩ := info_parts info_int
  obtain ⟨A, m, c⟩ := S
  simp only at hn
  subst hn
  unfold SV.val at hx
  simp only at hx
  cases A with
  | none =>
    have e : ls = [] := by
      have := hr.1 rfl
      cases ls with
      | nil => rfl
      | cons _ _ => simp [intC] at this
    subst e
    obtain ⟨A, cc, rfl⟩ := owns_shape hown
    have hle : n ≤ cc := by
      rcases hown.2 with ⟨e, _⟩ | ⟨g, cap, cur, e, _, _, hle, _⟩
      · exact absurd e hv
      · injection e with _ _ e3; omega
    refine wpList_plain hgd fun K hK => ?_
    unfold Oper.wp execOp
    have hr2 : (Builtin.append_ #[30, 30] o.type #[.slice A n cc, .slice none 0 c]).run Try.prog w = .ok (.slice A n cc) w := by
      cases A <;> simp [Builtin.append_, run_underlying Try.underlying30, sizeOf, typeInfo, hi0, hle, storeCells, Builtin.lenOf, Builtin.firstCells]
    simp only [ho, resolve, invoke, builtin, Sem.run_bind, Sem.run_pure, Result.andThen_ok, List.map_toArray, List.map_cons, List.map_nil, hs, hx, List.length_nil, hr2]
    exact hK _ _ (h _ _ _ _ rfl (by simpa [intC] using hown) ⟨rfl, rfl, rfl, Nat.le_refl _, fun _ _ _ => rfl⟩ hv)
  | some ad =>
    refine wpList_append_own_at _ hgd s x 30 ho base 3 i0 (.int .i64 0) 1 8 Try.underlying30 hi0 hz0 hz1 hz2 rfl (by decide) v n xs hs hown ad ls.length c (intC ls) hx (by rw [intC_len, Nat.mul_one]) ?_ (ones_int ls) (by unfold maxLen; omega) (by omega) hbase ?_
    · intro j u hu
      have hj : j < (intC ls).length := (List.getElem?_eq_some_iff.1 hu).1
      obtain ⟨ad2, e2, h2⟩ := hr.src (by omega)
      have e2 : some ad = some ad2 := e2
      injection e2 with e2
      subst e2
      exact h2 j u hu
    · intro v' w' h1 h2 h3 _
      obtain ⟨A7, c7, rfl⟩ := owns_shape h1
      exact h A7 _ c7 w' rfl h1 h2 (fun e => hv (h3.1 e).1)
theorem rw_one (w : World) (p : Int) : Rw (w.alloc (.cells #[.int .i64 p] 3)) (fun _ => True) ⟨some ⟨w.heap.size, 0, none⟩, 1, 1⟩ (intC [p]) := by
  have h : Blk (w.alloc (.cells #[.int .i64 p] 3)) w.heap.size 3 [.int .i64 p] := heap_alloc_new w _
  exact ⟨(fun e => nomatch e), fun _ => ⟨w.heap.size, 0, rfl, h.lt, trivial, fun j hj => by rw [Nat.zero_add, Blk.at h]; exact List.getElem?_eq_getElem hj⟩⟩
/-- What the list holds so far. -/
structure LkS (w : World) (cs : Array Value) (x : NV) (xs : List Int) (v : Value) (W : World) : Prop where
  bel : Below w.heap.size w W
  bx : NBox W w.heap.size cs x
  own : W.ownsRow w.heap.size 3 1 v xs.length (intC xs)
  nn : v ≠ .slice none 0 0
theorem LkS.keep {w W W' : World} {cs : Array Value} {x : NV} {xs : List Int} {v : Value} (h : LkS w cs x xs v W) (hb : Below W.heap.size W W') : LkS w cs x xs v W' :=
  ⟨h.bel.trans (hb.mono h.bel.size), h.bx.keep hb, owns_keep h.own (fun b _ hl => hb.block b hl), h.nn⟩
theorem LkS.app {w W W' : World} {cs : Array Value} {x : NV} {xs ys : List Int} {v v' : Value} (h : LkS w cs x xs v W) (hown : W'.ownsRow w.heap.size 3 1 v' (xs.length + ys.length) (intC xs ++ intC ys)) (hg : W.grownBy W' v.ownBlock) (hn : v' ≠ .slice none 0 0) : LkS w cs x (xs ++ ys) v' W' := by
  have hc := Chg.of_grown hg
  refine ⟨Chg.below h.bel hc h.bel.size (fun j hj => (owns_block h.own j hj).1), ?_, ?_, hn⟩
  · have hb : Blk W w.heap.size 49 cs.toList := h.bx.1
    exact ⟨hb.chg hc (own_ne h.own hb (by decide)), h.bx.2⟩
  · rw [List.length_append]
    have e : intC (xs ++ ys) = intC xs ++ intC ys := by simp [intC]
    rw [e]
    exact hown
end Go.Proofs.Ythjfhenldkihkaa
