/- code: a maker among other things; the laws' fixed program. -/
import Derived.Test.YtpbkdokhlimpfaaDoorCeD
namespace Go.Proofs.YtpbkdokhlimpfaaDoor
set_option linter.unusedSimpArgs false
set_option linter.unusedVariables false
open Go.RowKit Go.Sort

/-- A maker of one's own, apart from K. -/
structure MkB (w0 w : World) (K : Nat → Prop) (g : Nat) (p : PT) : Prop where
  ex : ∃ O, MkOk w O g p false ∧ ∀ b, O b → w0.heap.size ≤ b ∧ b < w.heap.size ∧ ¬ K b
  bel : Below w0.heap.size w0 w
theorem MkB.step {w0 w : World} {K : Nat → Prop} {g : Nat} {p : PT} (h : MkB w0 w K g p) (hK : ∀ b, K b → b < w.heap.size) : ∃ O : Nat → Prop, MkOk w O g p false ∧ (∀ w' p', MkOk w' (fun b => O b ∨ w.heap.size ≤ b ∧ b < w'.heap.size) g p' false → Chg w w' O → MkB w0 w' K g p' ∧ Chg w w' (fun b => ¬ K b)) ∧ O g := by
  obtain ⟨O, hM, hO⟩ := h.ex
  refine ⟨O, hM, fun w' p' h1 h2 => ⟨⟨⟨_, h1, fun b hb => ?_⟩, ?_⟩, h2.more (fun b _ hb => (hO b hb).2.2)⟩, hM.og⟩
  · rcases hb with hb | hb
    · have := hO b hb
      have := h2.size
      exact ⟨by omega, by omega, (hO b hb).2.2⟩
    · have := h.bel.size
      exact ⟨by omega, hb.2, fun hk => by have := hK b hk; omega⟩
  · exact Chg.below h.bel h2 h.bel.size (fun j hj => (hO j hj).1)
theorem MkOk.lift {w w' : World} {O : Nat → Prop} {g : Nat} {p : PT} {ov : Bool} (h : MkOk w' O g p ov) : MkOk w' (fun b => O b ∨ w.heap.size ≤ b ∧ b < w'.heap.size) g p ov := h.wide (fun _ hb => .inl hb)
theorem MkB.keep {w0 w w' : World} {K : Nat → Prop} {g : Nat} {p : PT} (h : MkB w0 w K g p) (hb : Below w.heap.size w w') : MkB w0 w' K g p := by
  obtain ⟨O, hM, hO⟩ := h.ex
  exact ⟨⟨O, hM.below hb, fun b hh => ⟨(hO b hh).1, Nat.lt_of_lt_of_le (hO b hh).2.1 hb.size, (hO b hh).2.2⟩⟩, h.bel.trans (hb.mono h.bel.size)⟩
def MkZ : List Value := [.slice none 0 0, .int .i64 0, .int .i64 0, .int .i64 0, .bool false]
theorem MkB.new {w0 w : World} {K : Nat → Prop} (hb : Below w0.heap.size w0 w) (hK : ∀ b, K b → b < w.heap.size) : MkB w0 (w.alloc (.cells #[.slice none 0 0, .int .i64 0, .int .i64 0, .int .i64 0, .bool false] 32)) K w.heap.size PT.zero := by
  refine ⟨⟨(· = w.heap.size), ⟨heap_alloc_new w _, rfl, ⟨World.ownsRow_nil _ _ _ _, fun x hx => (by cases hx), List.Pairwise.nil⟩, fun b hb => (by cases hb), fun x hx => (by cases hx)⟩, fun b hh => ?_⟩, hb.alloc hb.size _⟩
  subst hh
  have := hb.size
  exact ⟨this, by simp, fun hk => by have := hK _ hk; omega⟩
/-- A step of the laws'. -/
def mkS (k a b : Int) (mx : Nat) : ST := ⟨k, a, b, false, 0, mx, 0, 0, [], List.replicate 256 0, SV.nil⟩
theorem mkS_ok (w : World) (P : Nat → Prop) (k a b : Int) (mx : Nat) : StOk w P (mkS k a b mx) := ⟨rfl, Rw.nil _ _ _, List.length_replicate ..⟩
theorem Slot_b {w0 w : World} {K : Nat → Prop} {g : Nat} {p : PT} (h : MkB w0 w K g p) (hK : ∀ b, K b → b < w.heap.size) (h0 : 0 ≤ p.sl) (h1 : p.sl ≤ 1000000) : Calls Tryd.prog 13 #[.pointer (some ⟨g, 0, none⟩)] w fun e w' => e = .returned (.int .i64 p.sl) ∧ MkB w0 w' K g ⟨p.ss, p.S, p.sl + 1, p.su, p.au⟩ ∧ Chg w w' (fun b => ¬ K b) := by
  obtain ⟨O, hO, hst, hg⟩ := h.step hK
  refine (Slot_any O g p false w hO h0 h1).mono ?_
  rintro e w' ⟨rfl, h2, h3, _⟩
  exact ⟨rfl, hst w' _ h2.lift (h3.more (fun b _ hb => by rw [hb]; exact hg))⟩
theorem Sum_b {w0 w : World} {K : Nat → Prop} {g : Nat} {p : PT} (h : MkB w0 w K g p) (hK : ∀ b, K b → b < w.heap.size) (h0 : 0 ≤ p.su) (h1 : p.su ≤ 1000000) : Calls Tryd.prog 14 #[.pointer (some ⟨g, 0, none⟩)] w fun e w' => e = .returned (.int .i64 p.su) ∧ MkB w0 w' K g ⟨p.ss, p.S, p.sl, p.su + 1, p.au⟩ ∧ Chg w w' (fun b => ¬ K b) := by
  obtain ⟨O, hO, hst, hg⟩ := h.step hK
  refine (Sum_any O g p false w hO h0 h1).mono ?_
  rintro e w' ⟨rfl, h2, h3, _⟩
  exact ⟨rfl, hst w' _ h2.lift (h3.more (fun b _ hb => by rw [hb]; exact hg))⟩
theorem Auto_b {w0 w : World} {K : Nat → Prop} {g : Nat} {p : PT} (h : MkB w0 w K g p) (hK : ∀ b, K b → b < w.heap.size) (h0 : 0 ≤ p.au) (h1 : p.au ≤ 1000000) : Calls Tryd.prog 15 #[.pointer (some ⟨g, 0, none⟩)] w fun e w' => e = .returned (.int .i64 p.au) ∧ MkB w0 w' K g ⟨p.ss, p.S, p.sl, p.su, p.au + 1⟩ ∧ Chg w w' (fun b => ¬ K b) := by
  obtain ⟨O, hO, hst, hg⟩ := h.step hK
  refine (Auto_any O g p false w hO h0 h1).mono ?_
  rintro e w' ⟨rfl, h2, h3, _⟩
  exact ⟨rfl, hst w' _ h2.lift (h3.more (fun b _ hb => by rw [hb]; exact hg))⟩
theorem Here_b {w0 w : World} {K : Nat → Prop} {g : Nat} {p : PT} (h : MkB w0 w K g p) : Calls Tryd.prog 11 #[.pointer (some ⟨g, 0, none⟩)] w fun e w' => e = .returned (.int .i64 p.ss.length) ∧ w' = w := by
  obtain ⟨O, hM, hO⟩ := h.ex
  have := Here_any g p false w hM.box
  rw [show p.S.n = p.ss.length from owns_n hM.own.row] at this
  exact this
theorem Add_b {w0 w : World} {K : Nat → Prop} {g : Nat} {p : PT} (h : MkB w0 w K g p) (hK : ∀ b, K b → b < w.heap.size) (x : ST) {P : Nat → Prop} (hx : StOk w P x) (hl : p.ss.length < 65536) (hw : x.ws.length ≤ 1000000) : Calls Tryd.prog 12 #[.pointer (some ⟨g, 0, none⟩), x.val] w fun e w' => e = .returned (.int .i64 p.ss.length) ∧ (∃ s' S', MkB w0 w' K g ⟨p.ss ++ [x.moved s'], S', p.sl, p.su, p.au⟩) ∧ Chg w w' (fun b => ¬ K b) := by
  obtain ⟨O, hO, hst, hg⟩ := h.step hK
  refine (Add_any O g p false x w hO hx hl hw).mono ?_
  rintro e w' ⟨rfl, s', S', h2, h3⟩
  exact ⟨rfl, ⟨s', S', (hst w' _ h2 h3).1⟩, (hst w' _ h2 h3).2⟩
theorem Aim_b {w0 w : World} {K : Nat → Prop} {g : Nat} {p : PT} (h : MkB w0 w K g p) (hK : ∀ b, K b → b < w.heap.size) (q : Nat) (hq : q < p.ss.length) (t : Int) (hl : p.ss.length ≤ 1000000) : Calls Tryd.prog 19 #[.pointer (some ⟨g, 0, none⟩), .int .i64 q, .int .i64 t] w fun e w' => e = .returned (.tuple #[]) ∧ MkB w0 w' K g ⟨p.ss.set q ((p.ss[q]).aimed t), p.S, p.sl, p.su, p.au⟩ ∧ Chg w w' (fun b => ¬ K b) := by
  obtain ⟨O, hO, hst, hg⟩ := h.step hK
  refine (Aim_any O g p false (q : Int) t w hO hl).mono ?_
  rintro e w' ⟨rfl, _, h2, h3⟩
  exact ⟨rfl, hst w' _ (h2 q hq rfl).lift h3⟩
theorem Program_b {w0 w : World} {K : Nat → Prop} {g : Nat} {p : PT} (h : MkB w0 w K g p) (hl : p.ss.length ≤ 1000000) (hws : ∀ x ∈ p.ss, x.ws.length ≤ 1000000) : Calls Tryd.prog 16 #[.pointer (some ⟨g, 0, none⟩)] w (ProgR w p) := by
  obtain ⟨O, hM, hO⟩ := h.ex
  exact Program_any O g p w hM hl hws
/-- The laws' fixed program. -/
def fixP : PT := ⟨[mkS 3 1 0 255, mkS 11 3 0 0, mkS 2 0 0 0, mkS 20 0 0 0], SV.nil, 1, 0, 0⟩
theorem fix_ck : ckS (mayS fixP) fixP = (0, 0) := by decide +kernel
theorem ldL_bare (i : Int) (x : ST) : ldL i x.bare = ldL i x := rfl
theorem stepAt_bare {p q : PT} (h : p.bare = q.bare) (i : Nat) : stepAt p i = stepAt q i := by
  have hl := bare_len h
  unfold stepAt
  by_cases hi : i < p.ss.length
  · rw [List.getElem?_eq_getElem hi, List.getElem?_eq_getElem (by omega)]
    show ldL (i : Int) p.ss[i] = ldL (i : Int) q.ss[i]
    rw [← ldL_bare, bare_get h hi (by omega), ldL_bare]
  · rw [List.getElem?_eq_none (by omega), List.getElem?_eq_none (by omega)]
theorem rch_bare {p q : PT} (h : p.bare = q.bare) {i : Nat} (hr : Rch p i) : Rch q i := by
  induction hr with
  | zero => exact Rch.zero
  | step _ hj ih => exact Rch.step ih (by rw [← stepAt_bare h]; exact hj)
theorem fix_3 : Rch fixP 3 := Rch.step (j := 3) (Rch.step (j := 1) Rch.zero (by decide)) (by decide)
theorem fix_2 : ¬ Rch fixP 2 := by
  intro h
  have : ∀ i, Rch fixP i → i = 0 ∨ i = 1 ∨ i = 3 := by
    intro i hi
    induction hi with
    | zero => exact .inl rfl
    | step _ hj ih =>
      rcases ih with rfl | rfl | rfl
      · rw [show stepAt fixP 0 = [1] from rfl, List.mem_singleton] at hj
        subst hj
        exact .inr (.inl rfl)
      · rw [show stepAt fixP 1 = [3] from rfl, List.mem_singleton] at hj
        subst hj
        exact .inr (.inr rfl)
      · rw [show stepAt fixP 3 = [] from rfl] at hj
        cases hj
  rcases this 2 h with h | h | h <;> omega
theorem zero_ck : ckS (mayS PT.zero) PT.zero = (2, 0) := by decide +kernel
theorem zero_ok (w : World) (P : Nat → Prop) : PtOk w P PT.zero := ⟨rfl, Rw.nil _ _ _, fun x hx => by cases hx⟩
theorem lineS_bare {x y : ST} (h : x.bare = y.bare) (i : Int) : lineS i x = lineS i y := by
  have h1 : lineS i x = lineS i x.bare := rfl
  have h2 : lineS i y = lineS i y.bare := rfl
  rw [h1, h2, h]
theorem lines_bare {p q : PT} (h : p.bare = q.bare) : linesS p.ss = linesS q.ss := by
  have hl := bare_len h
  unfold linesS
  apply List.ext_getElem (by simpa using hl)
  intro j h1 h2
  rw [List.getElem_mapIdx, List.getElem_mapIdx]
  exact lineS_bare (bare_get h (by simpa using h1) (by simpa using h2)) _
theorem num_bare {x y : ST} (h : x.bare = y.bare) (hy : StNum y) : StNum x := by
  obtain ⟨k, a, b, fl, mn, mx, mu, ad, ws, bs, W⟩ := x
  obtain ⟨k', a', b', fl', mn', mx', mu', ad', ws', bs', W'⟩ := y
  simp only [ST.bare, ST.mk.injEq] at h
  obtain ⟨rfl, rfl, rfl, rfl, rfl, rfl, rfl, rfl, rfl, rfl, _⟩ := h
  exact ⟨hy.a, hy.b, hy.ws⟩
theorem mkS_num (k a b : Int) (mx : Nat) (ha : I64 a) (hb : I64 b) : StNum (mkS k a b mx) := ⟨ha, hb, fun y hy => by cases hy⟩
end Go.Proofs.YtpbkdokhlimpfaaDoor
