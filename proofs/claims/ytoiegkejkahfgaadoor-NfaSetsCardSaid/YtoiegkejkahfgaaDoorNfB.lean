/- nfa: an automaton's edges in memory; what puts it together. -/
import Derived.Test.YtoiegkejkahfgaaDoorNfA
import Derived.Test.YtoiegkejkahfgaaDoorMem
import Derived.Test.YtoiegkejkahfgaaDoorRx
import Derived.Maps.AppendAt
namespace Go.Proofs.YtoiegkejkahfgaaDoor
set_option linter.unusedVariables false
set_option linter.unusedSimpArgs false
open Go.RowKit

def Ed.cells (e : Ed) : List Value := [.int .i64 (e.to : Int), .int .u64 ((wd e.set 0 : Nat) : Int), .int .u64 ((wd e.set 1 : Nat) : Int), .int .u64 ((wd e.set 2 : Nat) : Int), .int .u64 ((wd e.set 3 : Nat) : Int), .bool e.fr]
def flatE (l : List Ed) : List Value := l.flatMap Ed.cells
theorem Ed.len (e : Ed) : e.cells.length = 6 := rfl
theorem ed_ones (e : Ed) : ∀ u ∈ e.cells, u.oneCell' = true := by
  intro u hu
  simp only [Ed.cells, List.mem_cons, List.not_mem_nil, or_false] at hu
  rcases hu with rfl | rfl | rfl | rfl | rfl | rfl <;> rfl
theorem flatE_snoc (l : List Ed) (e : Ed) : flatE (l ++ [e]) = flatE l ++ e.cells := by simp [flatE]
theorem flatE_get (l : List Ed) (j i : Nat) (hj : j < l.length) (hi : i < 6) : (flatE l)[j * 6 + i]? = l[j].cells[i]? := by
  induction l generalizing j with
  | nil => simp at hj
  | cons p ps ih =>
    have hc : flatE (p :: ps) = p.cells ++ flatE ps := by simp [flatE]
    rw [hc]
    cases j with
    | zero =>
      rw [List.getElem?_append_left (by rw [Ed.len]; omega), Nat.zero_mul, Nat.zero_add]
      rfl
    | succ j =>
      rw [List.getElem?_append_right (by rw [Ed.len]; omega), Ed.len, show (j + 1) * 6 + i - 6 = j * 6 + i by omega]
      rw [ih j (by simpa using hj)]
      rfl
theorem own_blockN {w : World} {base : Nat} {e : TypeId} {size : Nat} {v : Value} {n : Nat} {xs : List Value} (h : w.ownsRow base e size v n xs) : ∀ b, v.ownBlock = some b → base ≤ b ∧ b < w.heap.size := by
  intro b hb
  rcases h.2 with ⟨rfl, _⟩ | ⟨g', cap, cur, rfl, hb', hg', _⟩
  · cases hb
  · injection hb with hb
    subst hb
    exact ⟨hb', (Array.getElem?_eq_some_iff.1 hg').1⟩
theorem own_shapeN {w : World} {base : Nat} {e : TypeId} {size : Nat} {v : Value} {n : Nat} {xs : List Value} (h : w.ownsRow base e size v n xs) : ∃ A c, v = .slice A n c := by
  rcases h.2 with ⟨rfl, hn⟩ | ⟨g', cap, cur, rfl, _⟩
  · exact ⟨none, 0, by rw [hn]⟩
  · exact ⟨_, cap, rfl⟩
theorem own_apartN {w : World} {b1 b2 : Nat} {t e : TypeId} {s1 s2 : Nat} {v u : Value} {n m : Nat} {xs ys : List Value} (h : w.ownsRow b1 e s1 v n xs) (k : w.ownsRow b2 t s2 u m ys) (hne : e ≠ t) : ∀ b, v.ownBlock = some b → u.ownBlock ≠ some b := by
  intro b hb hc
  rcases h.2 with ⟨rfl, _⟩ | ⟨g, cap, cur, rfl, _, hg, _⟩
  · cases hb
  rcases k.2 with ⟨rfl, _⟩ | ⟨g', cap', cur', rfl, _, hg', _⟩
  · cases hc
  injection hb with hb
  injection hc with hc
  have hgg : g = g' := hb.trans hc.symm
  subst hgg
  rw [hg] at hg'
  injection hg' with hg'
  injection hg' with _ e1 _
  exact hne e1
theorem own_neN {w : World} {base g sz : Nat} {t e : TypeId} {v : Value} {n : Nat} {xs cs : List Value} (h : w.ownsRow base e sz v n xs) (hg : Blk w g t cs) (hne : e ≠ t) : v.ownBlock ≠ some g := by
  intro he
  rcases h.2 with ⟨rfl, _⟩ | ⟨g', cap, cur, rfl, _, hh, _⟩
  · cases he
  · injection he with he
    have he : g' = g := he
    subst he
    unfold Blk at hg
    rw [hg] at hh
    injection hh with hh
    injection hh with _ e1 _
    exact hne e1.symm
theorem own_setN {w : World} {base g : Nat} {e : TypeId} {size n c m : Nat} {xs : List Value} (h : w.ownsRow base e size (.slice (some ⟨g, 0, none⟩) n c) m xs) (i : Nat) (u : Value) : (w.setCell ⟨g, i, none⟩ u).ownsRow base e size (.slice (some ⟨g, 0, none⟩) n c) m (xs.set i u) := by
  refine ⟨by rw [List.length_set]; exact h.1, ?_⟩
  rcases h.2 with ⟨hv, hm⟩ | ⟨g', cap, cur, hv, hb, hg, h1, h2, h3, h4⟩
  · cases hv
  · injection hv with e1 e2 e3
    injection e1 with e1
    injection e1 with e1
    subst e1
    have hk : Blk w g e cur.toList := by unfold Blk; simpa using hg
    have hk2 := hk.put i u
    unfold Blk at hk2
    exact .inr ⟨g, cap, (cur.toList.set i u).toArray, by rw [e2, e3], hb, hk2, h1, h2, by simpa using h3, by rw [← h4]; simp [List.take_set]⟩
/-- The edges in memory: a row of rows, each in a block of its own, which O holds of. -/
structure EdV (w : World) (O : Nat → Prop) (v : Value) (E : EG) (vs : List Value) : Prop where
  len : vs.length = E.length
  row : w.ownsRow 0 61 1 v E.length vs
  own : ∀ b, v.ownBlock = some b → O b
  kid : ∀ i (h1 : i < vs.length) (h2 : i < E.length), w.ownsRow 0 63 6 vs[i] E[i].length (flatE E[i]) ∧ ∀ b, vs[i].ownBlock = some b → O b
  apart : ∀ i j (h1 : i < vs.length) (h2 : j < vs.length), i ≠ j → ∀ b, vs[i].ownBlock = some b → vs[j].ownBlock ≠ some b
variable {w w' w2 : World} {O : Nat → Prop} {v : Value} {E : EG} {vs : List Value} {g : Nat}
theorem EdV.chg {S : Nat → Prop} (h : EdV w O v E vs) (hc : Chg w w' S) (hS : ∀ b, O b → ¬ S b) : EdV w' O v E vs :=
  ⟨h.len, owns_chg h.row hc (fun k hk => hS k (h.own k hk)), h.own, fun i h1 h2 => ⟨owns_chg (h.kid i h1 h2).1 hc (fun k hk => hS k ((h.kid i h1 h2).2 k hk)), (h.kid i h1 h2).2⟩, h.apart⟩
theorem EdV.mono {O' : Nat → Prop} (h : EdV w O v E vs) (hO : ∀ b, O b → O' b) : EdV w O' v E vs :=
  ⟨h.len, h.row, fun b hb => hO b (h.own b hb), fun i h1 h2 => ⟨(h.kid i h1 h2).1, fun b hb => hO b ((h.kid i h1 h2).2 b hb)⟩, h.apart⟩
theorem EdV.nil (w : World) (O : Nat → Prop) : EdV w O (.slice none 0 0) [] [] := ⟨rfl, World.ownsRow_nil _ _ _ _, (fun b hb => nomatch hb), (fun i h1 _ => absurd h1 (Nat.not_lt_zero i)), (fun i j h1 _ _ => absurd h1 (Nat.not_lt_zero i))⟩
theorem newE_get (E : EG) (i : Nat) (h : i < (newE E).length) : (newE E)[i] = if h : i < E.length then E[i] else [] := by
  have e : (newE E)[i]? = some (if h : i < E.length then E[i] else []) := by
    unfold newE
    rw [newE_len] at h
    by_cases hi : i < E.length
    · rw [List.getElem?_append_left hi, dif_pos hi, List.getElem?_eq_getElem hi]
    · obtain rfl : i = E.length := by omega
      rw [dif_neg hi]
      simp
  rw [List.getElem?_eq_getElem h] at e
  exact Option.some.inj e
theorem addE_get (E : EG) (f : Nat) (e : Ed) (i : Nat) (h : i < (addE E f e).length) (hi : i < E.length) : (addE E f e)[i] = if f = i then E.getD f [] ++ [e] else E[i] := by
  have e : (addE E f e)[i]? = some (if f = i then E.getD f [] ++ [e] else E[i]) := by
    unfold addE
    rw [List.getElem?_set]
    by_cases hi2 : f = i
    · subst hi2
      rw [if_pos rfl, if_pos hi, if_pos rfl]
    · rw [if_neg hi2, if_neg hi2, List.getElem?_eq_getElem hi]
  rw [List.getElem?_eq_getElem h] at e
  exact Option.some.inj e
theorem EdV.other {T : TypeId} {cs : List Value} (h : EdV w O v E vs) (hb : Blk w g T cs) (h1 : 61 ≠ T) (h2 : 63 ≠ T) (i : Nat) (u : Value) : EdV (w.setCell ⟨g, i, none⟩ u) O v E vs :=
  ⟨h.len, owns_chg h.row ((Chg.refl w (fun k => k = g)).set g i rfl u) (fun k hk e => own_neN h.row hb h1 (by rw [hk, e])), h.own, fun j a b => ⟨owns_chg (h.kid j a b).1 ((Chg.refl w (fun k => k = g)).set g i rfl u) (fun k hk e => own_neN (h.kid j a b).1 hb h2 (by rw [hk, e])), (h.kid j a b).2⟩, h.apart⟩
/-- One state more: the outer row has grown. -/
theorem EdV.new (h : EdV w O v E vs) {v' : Value} (hown : w'.ownsRow 0 61 1 v' (E.length + 1) (vs ++ [.slice none 0 0])) (hg : w.grownBy w' v.ownBlock) (hv : v'.ownBlock = v.ownBlock ∨ v'.ownBlock = some w.heap.size) : EdV w' (fun b => O b ∨ w.heap.size ≤ b) v' (newE E) (vs ++ [.slice none 0 0]) := by
  have hkk : ∀ i (h1 : i < vs.length) (h2 : i < E.length), w'.ownsRow 0 63 6 vs[i] E[i].length (flatE E[i]) := fun i h1 h2 => owns_chg (h.kid i h1 h2).1 (Chg.of_grown hg) (fun k hk e => own_apartN h.row (h.kid i h1 h2).1 (by decide) k e hk)
  refine ⟨by simp [newE, h.len], by rw [newE_len]; exact hown, fun b hb => ?_, fun i h1 h2 => ?_, fun i j h1 h2 hij b hb => ?_⟩
  · rcases hv with e | e
    · exact .inl (h.own b (e ▸ hb))
    · rw [e] at hb; injection hb with hb; exact .inr (by omega)
  · rw [newE_get E i h2, List.getElem_append]
    by_cases hi : i < vs.length
    · have hi2 : i < E.length := by rw [← h.len]; exact hi
      rw [dif_pos hi, dif_pos hi2]
      exact ⟨hkk i hi hi2, fun b hb => .inl ((h.kid i hi hi2).2 b hb)⟩
    · rw [dif_neg hi, dif_neg (by rw [← h.len]; exact hi)]
      simp only [List.getElem_singleton]
      exact ⟨World.ownsRow_nil _ _ _ _, fun b hb => nomatch hb⟩
  · rw [List.getElem_append] at hb ⊢
    by_cases hi : i < vs.length
    · rw [dif_pos hi] at hb
      by_cases hj : j < vs.length
      · rw [dif_pos hj]
        exact h.apart i j hi hj hij b hb
      · rw [dif_neg hj]
        simp [Value.ownBlock]
    · rw [dif_neg hi] at hb
      simp [Value.ownBlock] at hb
/-- One edge more: an inner row has grown, and the outer one holds its new value. -/
theorem EdV.add (h : EdV w O v E vs) {gA n c f : Nat} (hA : v = .slice (some ⟨gA, 0, none⟩) n c) (hf : f < E.length) (hfv : f < vs.length) (e : Ed) {u' : Value} (hown : w'.ownsRow 0 63 6 u' (E[f].length + 1) (flatE E[f] ++ e.cells)) (hg : w.grownBy w' vs[f].ownBlock) (hv : u'.ownBlock = vs[f].ownBlock ∨ u'.ownBlock = some w.heap.size) :
    EdV (w'.setCell ⟨gA, f, none⟩ u') (fun b => O b ∨ w.heap.size ≤ b) v (addE E f e) (vs.set f u') := by
  subst hA
  have hrow : w'.ownsRow 0 61 1 (.slice (some ⟨gA, 0, none⟩) n c) E.length vs := owns_chg h.row (Chg.of_grown hg) (fun k hk e => own_apartN h.row (h.kid f hfv hf).1 (by decide) k hk e)
  have hgd : E.getD f [] = E[f] := by simp [List.getD, hf]
  have hset : ∀ {b0 sz m : Nat} {T : TypeId} {x : Value} {xs : List Value}, w'.ownsRow b0 T sz x m xs → T ≠ 61 → (w'.setCell ⟨gA, f, none⟩ u').ownsRow b0 T sz x m xs := fun hx hT => owns_chg hx ((Chg.refl w' (fun k => k = gA)).set gA f rfl u') (fun k hk e => own_apartN hx hrow hT k hk (by rw [e]; rfl))
  refine ⟨by simp [addE, h.len], ?_, fun b hb => .inl (h.own b hb), fun i h1 h2 => ?_, fun i j h1 h2 hij b hb => ?_⟩
  · rw [addE_len]
    exact own_setN hrow f u'
  · have hi1 : i < vs.length := by simpa using h1
    have hi2 : i < E.length := by rw [addE_len] at h2; exact h2
    rw [addE_get E f e i h2 hi2, List.getElem_set]
    by_cases hif : f = i
    · subst hif
      rw [if_pos rfl, if_pos rfl, hgd, flatE_snoc, List.length_append]
      refine ⟨hset hown (by decide), fun b hb => ?_⟩
      rcases hv with q | q
      · exact .inl ((h.kid f hfv hf).2 b (q ▸ hb))
      · rw [q] at hb; injection hb with hb; exact .inr (by omega)
    · rw [if_neg hif, if_neg hif]
      have hk := h.kid i hi1 hi2
      exact ⟨hset (owns_chg hk.1 (Chg.of_grown hg) (fun k hk2 e => h.apart i f hi1 hfv (fun q => hif q.symm) k hk2 e)) (by decide), fun b hb => .inl (hk.2 b hb)⟩
  · have hi1 : i < vs.length := by simpa using h1
    have hj1 : j < vs.length := by simpa using h2
    rw [List.getElem_set] at hb ⊢
    have hlt : ∀ k (hk : k < vs.length) b, vs[k].ownBlock = some b → b < w.heap.size := fun k hk b hb => (own_blockN (h.kid k hk (by rw [← h.len]; exact hk)).1 b hb).2
    by_cases hif : f = i
    · subst hif
      rw [if_pos rfl] at hb
      rw [if_neg hij]
      rcases hv with q | q
      · exact h.apart f j hi1 hj1 hij b (q ▸ hb)
      · rw [q] at hb
        injection hb with hb
        intro hc
        have := hlt j hj1 b hc
        omega
    · rw [if_neg hif] at hb
      by_cases hjf : f = j
      · subst hjf
        rw [if_pos rfl]
        rcases hv with q | q
        · rw [q]
          exact h.apart i f hi1 hfv hij b hb
        · rw [q]
          intro hc
          injection hc with hc
          have := hlt i hi1 b hb
          omega
      · rw [if_neg hjf]
        exact h.apart i j hi1 hj1 hij b hb
/-- What puts an automaton together, in memory: g and the blocks that O holds of are its own. -/
def MkR (w : World) (O : Nat → Prop) (g : Nat) (E : EG) : Prop := ∃ A c vs, Blk w g 57 [.slice A E.length c, .int .i64 0] ∧ O g ∧ EdV w O (.slice A E.length c) E vs
theorem MkR.keep (h : MkR w O g E) (hb : Below w.heap.size w w') : MkR w' O g E := by
  obtain ⟨A, c, vs, h1, h2, h3⟩ := h
  exact ⟨A, c, vs, h1.keep hb, h2, h3.chg (Chg.of_below hb (fun _ => False)) (fun _ _ h => h)⟩
/-- What a step leaves. -/
def StM (w : World) (O : Nat → Prop) (g : Nat) (E : EG) (w' : World) : Prop := ∃ O' : Nat → Prop, MkR w' O' g E ∧ Chg w w' O ∧ ∀ b, O' b → O b ∨ w.heap.size ≤ b
end Go.Proofs.YtoiegkejkahfgaaDoor
