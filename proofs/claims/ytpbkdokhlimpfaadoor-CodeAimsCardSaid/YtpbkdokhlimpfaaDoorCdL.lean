/- code: a program of one's own; where its parts lie. -/
import Derived.Test.YtpbkdokhlimpfaaDoorCdK
namespace Go.Proofs.YtpbkdokhlimpfaaDoor
set_option linter.unusedSimpArgs false
set_option linter.unusedVariables false
open Go.RowKit

/-- A step without where its ways lie. -/
def ST.bare (x : ST) : ST := { x with W := SV.nil }
def PT.bare (p : PT) : PT := { p with ss := p.ss.map ST.bare, S := SV.nil }
theorem may_bare {p q : PT} {x y : ST} (h : x.bare = y.bare) (hl : p.ss.length = q.ss.length) (h1 : p.sl = q.sl) (h2 : p.su = q.su) (h3 : p.au = q.au) : mayS p x = mayS q y := by
  obtain ⟨k, a, b, fl, mn, mx, mu, ad, ws, bs, W⟩ := x
  obtain ⟨k', a', b', fl', mn', mx', mu', ad', ws', bs', W'⟩ := y
  simp only [ST.bare, ST.mk.injEq] at h
  obtain ⟨rfl, rfl, rfl, rfl, rfl, rfl, rfl, rfl, rfl, rfl, _⟩ := h
  unfold mayS numS frkS pckS
  simp only [hl, h1, h2, h3]
theorem fstBad_congr {α : Type} (f g : α → Bool) : ∀ (l m : List α) (i : Nat), l.map f = m.map g → fstBad f l i = fstBad g m i
  | [], [], _, _ => rfl
  | [], y :: m, _, h => by simp at h
  | x :: l, [], _, h => by simp at h
  | x :: l, y :: m, i, h => by
    rw [List.map_cons, List.map_cons, List.cons.injEq] at h
    simp only [fstBad]
    rw [h.1, fstBad_congr f g l m (i + 1) h.2]
theorem bare_len {p q : PT} (h : p.bare = q.bare) : p.ss.length = q.ss.length := by
  have : (p.bare).ss.length = (q.bare).ss.length := by rw [h]
  simpa [PT.bare] using this
theorem bare_get {p q : PT} (h : p.bare = q.bare) {j : Nat} (h1 : j < p.ss.length) (h2 : j < q.ss.length) : p.ss[j].bare = q.ss[j].bare := by
  have : (p.bare).ss[j]? = (q.bare).ss[j]? := by rw [h]
  simp [PT.bare, List.getElem?_eq_getElem h1, List.getElem?_eq_getElem h2] at this
  exact this
theorem ck_bare {p q : PT} (h : p.bare = q.bare) : ckS (mayS p) p = ckS (mayS q) q := by
  have hl := bare_len h
  have h1 : p.sl = q.sl := (PT.mk.injEq .. ▸ h : _ ∧ _).2.2.1
  have h2 : p.su = q.su := (PT.mk.injEq .. ▸ h : _ ∧ _).2.2.2.1
  have h3 : p.au = q.au := (PT.mk.injEq .. ▸ h : _ ∧ _).2.2.2.2
  have hm : p.ss.map (mayS p) = q.ss.map (mayS q) := by
    apply List.ext_getElem (by simpa using hl)
    intro j a b
    rw [List.getElem_map, List.getElem_map]
    simp only [List.length_map] at a b
    exact may_bare (bare_get h a b) hl h1 h2 h3
  unfold ckS
  have hs : sizeS p = sizeS q := by unfold sizeS; rw [hl, h1, h2, h3]
  have hla : lastS p = lastS q := by
    unfold lastS
    rw [hl]
    by_cases hz : q.ss.length - 1 < q.ss.length
    · rw [List.getElem?_eq_getElem hz, List.getElem?_eq_getElem (show q.ss.length - 1 < p.ss.length by omega)]
      have hb := bare_get h (show q.ss.length - 1 < p.ss.length by omega) hz
      have hk : (p.ss[q.ss.length - 1]'(by omega)).k = q.ss[q.ss.length - 1].k := by
        have := congrArg ST.k hb
        exact this
      simp only [hk]
    · rw [List.getElem?_eq_none (by omega), List.getElem?_eq_none (by omega)]
  rw [hs, fstBad_congr _ _ _ _ 0 hm, hla, hl]
/-- A row of ways of one's own. -/
def WOwn (w : World) (base : Nat) (x : ST) : Prop := w.ownsRow base 46 2 x.W.val x.ws.length (flatW x.ws)
def apart (x y : ST) : Prop := ∀ b, x.W.val.ownBlock = some b → y.W.val.ownBlock ≠ some b
/-- A program of one's own. -/
structure POwn (w : World) (base : Nat) (p : PT) : Prop where
  row : w.ownsRow base 37 265 p.S.val p.ss.length (flatS p.ss)
  ways : ∀ x ∈ p.ss, WOwn w base x ∧ x.bs.length = 256
  ne : p.ss.Pairwise apart
theorem owns_n {w : World} {base : Nat} {e : TypeId} {size : Nat} {A : Option Addr} {n c m : Nat} {xs : List Value} (h : w.ownsRow base e size (.slice A n c) m xs) : n = m := by
  rcases h.2 with ⟨hv, hm⟩ | ⟨g, cap, cur, hv, _⟩
  · injection hv with _ e _; omega
  · injection hv
theorem WOwn.st {w : World} {base : Nat} {x : ST} (h : WOwn w base x) (hb : x.bs.length = 256) : StOk w (fun b => base ≤ b) x :=
  ⟨owns_n h, Rw.of_own h, hb⟩
theorem POwn.ok {w : World} {base : Nat} {p : PT} (h : POwn w base p) : PtOk w (fun b => base ≤ b) p :=
  ⟨owns_n h.row, Rw.of_own h.row, fun x hx => (h.ways x hx).1.st (h.ways x hx).2⟩
theorem owns_mono {w w' : World} {base : Nat} {e : TypeId} {size : Nat} {v : Value} {n : Nat} {xs : List Value} (h : w.ownsRow base e size v n xs) (hb : ∀ b, v.ownBlock = some b → w'.heap[b]? = w.heap[b]?) : w'.ownsRow base e size v n xs := by
  refine ⟨h.1, ?_⟩
  rcases h.2 with hn | ⟨g', cap, cur, rfl, hb', hg', r⟩
  · exact .inl hn
  · exact .inr ⟨g', cap, cur, rfl, hb', (hb g' rfl).trans hg', r⟩
theorem POwn.keep {w w' : World} {base : Nat} {p : PT} (h : POwn w base p) (hb : Below w.heap.size w w') : POwn w' base p :=
  ⟨owns_mono h.row (fun b hh => hb.block b (owns_block h.row b hh).2), fun x hx => ⟨owns_mono (h.ways x hx).1 (fun b hh => hb.block b (owns_block (h.ways x hx).1 b hh).2), (h.ways x hx).2⟩, h.ne⟩
theorem POwn.wide {w : World} {base base' : Nat} {p : PT} (h : POwn w base p) (hb : base' ≤ base) : POwn w base' p :=
  ⟨owns_base h.row hb, fun x hx => ⟨owns_base (h.ways x hx).1 hb, (h.ways x hx).2⟩, h.ne⟩
end Go.Proofs.YtpbkdokhlimpfaaDoor
