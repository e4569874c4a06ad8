/- tree: parts that are collected; a list of parts read. -/
import Derived.Test.YtdhipmdapodpkaaTrR
import Derived.Deep.LoopGhost
import Derived.Maps.AppendAt
namespace Go.Proofs.Ytdhipmdapodpkaa
set_option linter.unusedSimpArgs false
set_option linter.unusedVariables false
open Go.RowKit

/-- Trees that are collected. -/
structure KidsT (w : World) (base : Nat) (v : Value) (ts : List TT) : Prop where
  out : ∃ vs : List TV, vs.length = ts.length ∧ w.ownsRow base 26 4 v ts.length (flatV vs) ∧ ∀ j (h1 : j < vs.length) (h2 : j < ts.length), Rep w (fun b => base ≤ b ∧ v.ownBlock ≠ some b) vs[j] ts[j]
theorem KidsT.nil (w : World) (base : Nat) : KidsT w base (.slice none 0 0) [] := ⟨[], rfl, ⟨rfl, .inl ⟨rfl, rfl⟩⟩, fun j h => absurd h (by simp)⟩
theorem KidsT.chg {w w' : World} {base : Nat} {v : Value} {ts : List TT} {S : Nat → Prop} (h : KidsT w base v ts) (hc : Chg w w' S) (hS : ∀ k, S k → k < base) : KidsT w' base v ts := by
  obtain ⟨vs, h1, h2, h3⟩ := h.out
  refine ⟨vs, h1, owns_chg h2 hc (fun k hk e => by have := (owns_block h2 k hk).1; have := hS k e; omega), fun j a b => (h3 j a b).mono (fun c hp hl => hc.block c hl (fun e => by have := hS c e; omega)) hc.size (fun _ h _ => h)⟩
theorem KidsT.shape {w : World} {base : Nat} {v : Value} {ts : List TT} (h : KidsT w base v ts) : ∃ A c, v = .slice A ts.length c := by
  obtain ⟨vs, _, h2, _⟩ := h.out
  exact owns_shape h2
theorem KidsT.base_le {w : World} {base base' : Nat} {v : Value} {ts : List TT} (h : KidsT w base v ts) (hb : base' ≤ base) : KidsT w base' v ts := by
  obtain ⟨vs, h1, h2, h3⟩ := h.out
  exact ⟨vs, h1, owns_base h2 hb, fun j a b => (h3 j a b).mono (fun _ _ _ => rfl) (Nat.le_refl _) (fun c hp _ => ⟨Nat.le_trans hb hp.1, hp.2⟩)⟩
/-- One more of them. -/
theorem KidsT.snoc {w w' w1 : World} {base : Nat} {v v' : Value} {ts : List TT} {x : TV} {t : TT} (vs : List TV) (h1 : vs.length = ts.length)
    (h3 : ∀ j (h1 : j < vs.length) (h2 : j < ts.length), Rep w (fun b => base ≤ b ∧ v.ownBlock ≠ some b) vs[j] ts[j]) (hx : Rep w (fun b => base ≤ b ∧ v.ownBlock ≠ some b) x t)
    (hw : Below w.heap.size w w') (hown : w1.ownsRow base 26 4 v' (ts.length + 1) (flatV vs ++ x.cells)) (hg : w'.grownBy w1 v.ownBlock) (hv : v'.ownBlock = v.ownBlock ∨ v'.ownBlock = some w'.heap.size) : KidsT w1 base v' (ts ++ [t]) := by
  have key : ∀ (y : TV) (s : TT), Rep w (fun b => base ≤ b ∧ v.ownBlock ≠ some b) y s → Rep w1 (fun b => base ≤ b ∧ v'.ownBlock ≠ some b) y s := by
    intro y s h
    refine h.mono (fun b hp hl => (hg.block b (Nat.lt_of_lt_of_le hl hw.size) (fun e => hp.2 e.symm)).trans (hw.block b hl)) (Nat.le_trans hw.size hg.size) (fun b hp hl => ⟨hp.1, fun e => ?_⟩)
    rcases hv with h' | h'
    · exact hp.2 (h' ▸ e)
    · rw [h'] at e; injection e with e; have := hw.size; omega
  refine ⟨vs ++ [x], by simp [h1], by simpa [flatV_snoc] using hown, fun j a b => ?_⟩
  rw [List.getElem_append, List.getElem_append]
  by_cases hj : j < vs.length
  · rw [dif_pos hj, dif_pos (by omega)]
    exact key _ _ (h3 j hj (by omega))
  · rw [dif_neg hj, dif_neg (by omega)]
    simp at a b
    simpa using key _ _ hx
theorem KidsT.rep {w : World} {base : Nat} {A : Option Addr} {n c : Nat} {ts : List TT} (h : KidsT w base (.slice A n c) ts) : ∃ vs, RepL w (base ≤ ·) ⟨A, n, c⟩ ts vs := by
  obtain ⟨vs, h1, h2, h3⟩ := h.out
  have hn : n = ts.length := by
    obtain ⟨A', c', e⟩ := h.shape
    injection e
  refine ⟨vs, hn, h1, ?_, fun j a b => (h3 j a b).mono (fun _ _ _ => rfl) (Nat.le_refl _) (fun _ h _ => h.1)⟩
  rcases h2.2 with ⟨e, hz⟩ | ⟨g, cap, cur, hv, hb, hg, hnc, hcm, hcs, ht⟩
  · have : vs = [] := List.eq_nil_of_length_eq_zero (by omega)
    subst this
    exact Rw.nil _ _ _
  · injection hv with hA _ _
    subst hA
    refine ⟨fun e => by (cases e), fun hx => ⟨g, 0, rfl, (Array.getElem?_eq_some_iff.1 hg).1, hb, fun j hj => ?_⟩⟩
    have hjl : j < ts.length * 4 := by rw [flatV_len] at hj; omega
    have e : (flatV vs)[j]? = some (flatV vs)[j] := List.getElem?_eq_getElem hj
    rw [Nat.zero_add, cell_of_row w g j cur _ (0, 0) hg, ← Array.getElem?_toList]
    rw [← e]
    conv => rhs; rw [← ht]
    rw [List.getElem?_take_of_lt hjl]
/-- What the reader's steps leave, by what is read. -/
theorem PostR.ok {α : Type} {a : α} {j : Nat} {good : α → World → Value → Prop} {bad : Value} {w : World} {g : Nat} {s : ByteArray} {e : Ending} {w' : World} (h : PostR (.ok (a, j)) good bad w g s e w') : ∃ v, e = .returned (.tuple #[v, .int .i64 0]) ∧ good a w' v ∧ Rd w' g s j ∧ Chg w w' (· = g) := by
  obtain ⟨⟨j', hr, h | h⟩, hc⟩ := h
  · obtain ⟨a', v, h1, h2, h3⟩ := h
    simp only [Except.ok.injEq, Prod.mk.injEq] at h1
    obtain ⟨rfl, rfl⟩ := h1
    exact ⟨v, h2, h3, hr, hc⟩
  · obtain ⟨c, _, h1, _⟩ := h
    cases h1
theorem PostR.er {α : Type} {c : Nat} {good : α → World → Value → Prop} {bad : Value} {w : World} {g : Nat} {s : ByteArray} {e : Ending} {w' : World} (h : PostR (.error c : Except Nat (α × Nat)) good bad w g s e w') : c ≠ 0 ∧ e = .returned (.tuple #[bad, .int .i64 (c : Int)]) ∧ (∃ j, Rd w' g s j) ∧ Chg w w' (· = g) := by
  obtain ⟨⟨j', hr, h | h⟩, hc⟩ := h
  · obtain ⟨a', v, h1, _⟩ := h
    cases h1
  · obtain ⟨c', h0, h1, h2⟩ := h
    simp only [Except.error.injEq] at h1
    subst h1
    exact ⟨h0, h2, ⟨j', hr⟩, hc⟩
/-- What tree promises. -/
def TreeAt (s : ByteArray) (d : Nat) : Prop := ∀ (w : World) (g i : Nat), Rd w g s i → i ≤ s.size →
  Calls Try.prog 25 #[.pointer (some ⟨g, 0, none⟩), .int .i64 (((401 - d : Nat) : Nat) : Int)] w (PostR (pTree s.data.toList d i) (fun t w' v => ∃ x : TV, v = x.val ∧ Rep w' (w.heap.size ≤ ·) x t) TV.zero.val w g s)
/-- What parts holds. -/
structure KtS (w : World) (g : Nat) (s : ByteArray) (i : Nat) (v : Value) (ts : List TT) (W : World) : Prop where
  rd : Rd W g s i
  kids : KidsT W w.heap.size v ts
  ch : Chg w W (· = g)
theorem KtS.keep {w W W' : World} {g : Nat} {s : ByteArray} {i : Nat} {v : Value} {ts : List TT} (h : KtS w g s i v ts W) (hb : Below W.heap.size W W') : KtS w g s i v ts W' :=
  ⟨h.rd.keep hb, h.kids.chg (Chg.of_below hb (fun _ => False)) (fun _ e => e.elim), h.ch.trans (Chg.of_below hb _)⟩
theorem KtS.went {w W W' : World} {g : Nat} {s : ByteArray} {i j : Nat} {v : Value} {ts : List TT} (h : KtS w g s i v ts W) (hg : g < w.heap.size) (hr : Rd W' g s j) (hc : Chg W W' (· = g)) : KtS w g s j v ts W' :=
  ⟨hr, h.kids.chg hc (fun k e => by omega), h.ch.trans hc⟩
end Go.Proofs.Ytdhipmdapodpkaa
