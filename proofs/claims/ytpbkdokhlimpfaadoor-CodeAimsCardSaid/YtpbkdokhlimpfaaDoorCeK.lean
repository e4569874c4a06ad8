/- code: two makers side by side. -/
import Derived.Test.YtpbkdokhlimpfaaDoorCeJ
namespace Go.Proofs.YtpbkdokhlimpfaaDoor
set_option linter.unusedSimpArgs false
set_option linter.unusedVariables false
open Go.RowKit

/-- Two makers of one's own, apart from two boxes and from each other. -/
structure Tw (w wr : World) (X : Nat → Prop) (g1 g2 : Nat) (s1 s2 : PT) : Prop where
  ex : ∃ O1 O2, MkOk wr O1 g1 s1 false ∧ MkOk wr O2 g2 s2 false ∧ (∀ b, O1 b → w.heap.size ≤ b ∧ b < wr.heap.size ∧ ¬ (X b ∨ O2 b)) ∧ (∀ b, O2 b → w.heap.size ≤ b ∧ b < wr.heap.size ∧ ¬ X b)
  bel : Below w.heap.size w wr
  lb : ∀ b, X b → b < wr.heap.size
theorem Tw.swap {w wr : World} {X : Nat → Prop} {g1 g2 : Nat} {s1 s2 : PT} (h : Tw w wr X g1 g2 s1 s2) : Tw w wr X g2 g1 s2 s1 := by
  obtain ⟨O1, O2, h1, h2, h3, h4⟩ := h.ex
  refine ⟨⟨O2, O1, h2, h1, fun b hb => ⟨(h4 b hb).1, (h4 b hb).2.1, ?_⟩, fun b hb => ⟨(h3 b hb).1, (h3 b hb).2.1, ?_⟩⟩, h.bel, h.lb⟩
  · rintro (e | e)
    · exact (h4 b hb).2.2 e
    · exact (h3 b e).2.2 (.inr hb)
  · exact fun e => (h3 b hb).2.2 (.inl e)
theorem Tw.fst {w wr : World} {X : Nat → Prop} {g1 g2 : Nat} {s1 s2 : PT} (h : Tw w wr X g1 g2 s1 s2) : ∃ K : Nat → Prop, (∀ b, K b → b < wr.heap.size) ∧ (∀ b, X b → K b) ∧ MkB w wr K g1 s1 ∧ ∀ w' s1', MkB w w' K g1 s1' → Chg wr w' (fun b => ¬ K b) → Tw w w' X g1 g2 s1' s2 := by
  obtain ⟨O1, O2, h1, h2, h3, h4⟩ := h.ex
  refine ⟨fun b => X b ∨ O2 b, ?_, fun _ hb => .inl hb, ⟨⟨O1, h1, fun b hb => h3 b hb⟩, h.bel⟩, fun w' s1' hm hc => ?_⟩
  · rintro b (hb | hb)
    · exact h.lb b hb
    · exact (h4 b hb).2.1
  · obtain ⟨O1', h1', h3'⟩ := hm.ex
    exact ⟨⟨O1', O2, h1', h2.chg hc (fun b hb hn => hn (.inr hb)), h3', fun b hb => ⟨(h4 b hb).1, Nat.lt_of_lt_of_le (h4 b hb).2.1 hc.size, (h4 b hb).2.2⟩⟩, hm.bel, fun b hb => Nat.lt_of_lt_of_le (h.lb b hb) hc.size⟩
theorem Tw.more {w wr w' : World} {X : Nat → Prop} {g1 g2 : Nat} {s1 s2 : PT} (h : Tw w wr X g1 g2 s1 s2) (hb : Below wr.heap.size wr w') {g : Nat} (hg : wr.heap.size ≤ g) (hl : g < w'.heap.size) : Tw w w' (fun b => X b ∨ b = g) g1 g2 s1 s2 := by
  obtain ⟨O1, O2, h1, h2, h3, h4⟩ := h.ex
  refine ⟨⟨O1, O2, h1.below hb, h2.below hb, fun b hh => ⟨(h3 b hh).1, Nat.lt_of_lt_of_le (h3 b hh).2.1 hb.size, ?_⟩, fun b hh => ⟨(h4 b hh).1, Nat.lt_of_lt_of_le (h4 b hh).2.1 hb.size, ?_⟩⟩, h.bel.trans (hb.mono h.bel.size), fun b hh => ?_⟩
  · rintro ((e | e) | e)
    · exact (h3 b hh).2.2 (.inl e)
    · have := (h3 b hh).2.1
      omega
    · exact (h3 b hh).2.2 (.inr e)
  · rintro (e | e)
    · exact (h4 b hh).2.2 e
    · have := (h4 b hh).2.1
      omega
  · rcases hh with hh | rfl
    · exact Nat.lt_of_lt_of_le (h.lb b hh) hb.size
    · exact hl
theorem Tw.less {w wr : World} {X Y : Nat → Prop} {g1 g2 : Nat} {s1 s2 : PT} (h : Tw w wr X g1 g2 s1 s2) (hY : ∀ b, Y b → X b) : Tw w wr Y g1 g2 s1 s2 := by
  obtain ⟨O1, O2, h1, h2, h3, h4⟩ := h.ex
  refine ⟨⟨O1, O2, h1, h2, fun b hh => ⟨(h3 b hh).1, (h3 b hh).2.1, ?_⟩, fun b hh => ⟨(h4 b hh).1, (h4 b hh).2.1, fun e => (h4 b hh).2.2 (hY b e)⟩⟩, h.bel, fun b hh => h.lb b (hY b hh)⟩
  rintro (e | e)
  · exact (h3 b hh).2.2 (.inl (hY b e))
  · exact (h3 b hh).2.2 (.inr e)
theorem Tw.keep {w wr w' : World} {X : Nat → Prop} {g1 g2 : Nat} {s1 s2 : PT} (h : Tw w wr X g1 g2 s1 s2) (hb : Below wr.heap.size wr w') : Tw w w' X g1 g2 s1 s2 := by
  obtain ⟨O1, O2, h1, h2, h3, h4⟩ := h.ex
  exact ⟨⟨O1, O2, h1.below hb, h2.below hb, fun b hh => ⟨(h3 b hh).1, Nat.lt_of_lt_of_le (h3 b hh).2.1 hb.size, (h3 b hh).2.2⟩, fun b hh => ⟨(h4 b hh).1, Nat.lt_of_lt_of_le (h4 b hh).2.1 hb.size, (h4 b hh).2.2⟩⟩, h.bel.trans (hb.mono h.bel.size), fun b hh => Nat.lt_of_lt_of_le (h.lb b hh) hb.size⟩
theorem Tw.new {w w4 : World} {X : Nat → Prop} (hb : Below w.heap.size w w4) (h1 : ∀ b, X b → b < w4.heap.size) :
    Tw w ((w4.alloc (.cells #[.slice none 0 0, .int .i64 0, .int .i64 0, .int .i64 0, .bool false] 32)).alloc (.cells #[.slice none 0 0, .int .i64 0, .int .i64 0, .int .i64 0, .bool false] 32)) X w4.heap.size (w4.heap.size + 1) PT.zero PT.zero := by
  have m1 := MkB.new (K := X) hb h1
  have hsz : (w4.alloc (.cells #[.slice none 0 0, .int .i64 0, .int .i64 0, .int .i64 0, .bool false] 32)).heap.size = w4.heap.size + 1 := by simp
  obtain ⟨O1, hM1, hO1⟩ := m1.ex
  have m2 := MkB.new (K := fun b => X b ∨ O1 b) m1.bel (fun b hh => by
    rcases hh with hh | hh
    · have := h1 b hh
      omega
    · exact (hO1 b hh).2.1)
  obtain ⟨O2, hM2, hO2⟩ := m2.ex
  rw [hsz] at hM2
  have hb2 := (Below.refl (w4.alloc (.cells #[.slice none 0 0, .int .i64 0, .int .i64 0, .int .i64 0, .bool false] 32)).heap.size (w4.alloc (.cells #[.slice none 0 0, .int .i64 0, .int .i64 0, .int .i64 0, .bool false] 32))).alloc (Nat.le_refl _) (.cells #[.slice none 0 0, .int .i64 0, .int .i64 0, .int .i64 0, .bool false] 32)
  have hs2 := hb2.size
  have hT : Tw w _ X (w4.heap.size + 1) w4.heap.size PT.zero PT.zero := ⟨⟨O2, O1, hM2, hM1.below hb2, fun b hh => hO2 b hh, fun b hh => ⟨(hO1 b hh).1, Nat.lt_of_lt_of_le (hO1 b hh).2.1 hs2, (hO1 b hh).2.2⟩⟩, m2.bel, fun b hh => by have := h1 b hh; omega⟩
  exact hT.swap

/-- Two makers that have the first so many steps of a program; its box and that of two numbers. -/
structure Tq (w wr : World) (X : Nat → Prop) (gb ga g1 g2 : Nat) (p : PT) (u t : Int) (q1 : Nat) (a1 b1 c1 : Int) (q2 : Nat) (a2 b2 c2 : Int) : Prop where
  tw : ∃ ss1 S1 ss2 S2, Tw w wr X g1 g2 ⟨ss1, S1, a1, b1, c1⟩ ⟨ss2, S2, a2, b2, c2⟩ ∧ ss1.map ST.bare = (p.ss.take q1).map ST.bare ∧ ss2.map ST.bare = (p.ss.take q2).map ST.bare
  box : BoxP wr gb p
  arr : Blk wr ga 47 [.int .i64 u, .int .i64 t]
  xb : X gb
  xa : X ga
theorem Tq.bel {w wr : World} {X : Nat → Prop} {gb ga g1 g2 : Nat} {p : PT} {u t : Int} {q1 : Nat} {a1 b1 c1 : Int} {q2 : Nat} {a2 b2 c2 : Int} (h : Tq w wr X gb ga g1 g2 p u t q1 a1 b1 c1 q2 a2 b2 c2) : Below w.heap.size w wr := by
  obtain ⟨ss1, S1, ss2, S2, hT, e1, e2⟩ := h.tw
  exact hT.bel
theorem Tq.swap {w wr : World} {X : Nat → Prop} {gb ga g1 g2 : Nat} {p : PT} {u t : Int} {q1 : Nat} {a1 b1 c1 : Int} {q2 : Nat} {a2 b2 c2 : Int} (h : Tq w wr X gb ga g1 g2 p u t q1 a1 b1 c1 q2 a2 b2 c2) : Tq w wr X gb ga g2 g1 p u t q2 a2 b2 c2 q1 a1 b1 c1 := by
  obtain ⟨ss1, S1, ss2, S2, hT, e1, e2⟩ := h.tw
  exact ⟨⟨ss2, S2, ss1, S1, hT.swap, e2, e1⟩, h.box, h.arr, h.xb, h.xa⟩
theorem Tq.keep {w wr w' : World} {X : Nat → Prop} {gb ga g1 g2 : Nat} {p : PT} {u t : Int} {q1 : Nat} {a1 b1 c1 : Int} {q2 : Nat} {a2 b2 c2 : Int} (h : Tq w wr X gb ga g1 g2 p u t q1 a1 b1 c1 q2 a2 b2 c2) (hb : Below wr.heap.size wr w') : Tq w w' X gb ga g1 g2 p u t q1 a1 b1 c1 q2 a2 b2 c2 := by
  obtain ⟨ss1, S1, ss2, S2, hT, e1, e2⟩ := h.tw
  exact ⟨⟨ss1, S1, ss2, S2, hT.keep hb, e1, e2⟩, Blk.keep h.box hb, Blk.keep h.arr hb, h.xb, h.xa⟩
theorem Tq.new {w w4 : World} {gb ga : Nat} {p : PT} {u t : Int} (hb : Below w.heap.size w w4) (hx : BoxP w4 gb p) (ha : Blk w4 ga 47 [.int .i64 u, .int .i64 t]) :
    Tq w ((w4.alloc (.cells #[.slice none 0 0, .int .i64 0, .int .i64 0, .int .i64 0, .bool false] 32)).alloc (.cells #[.slice none 0 0, .int .i64 0, .int .i64 0, .int .i64 0, .bool false] 32)) (fun b => b = gb ∨ b = ga) gb ga w4.heap.size (w4.heap.size + 1) p u t 0 0 0 0 0 0 0 0 :=
  ⟨⟨[], SV.nil, [], SV.nil, Tw.new hb (fun b hh => by
    have h1 := Blk.lt hx
    have h2 := Blk.lt ha
    rcases hh with rfl | rfl <;> assumption), by simp, by simp⟩, Blk.alloc (Blk.alloc hx _) _, Blk.alloc (Blk.alloc ha _) _, .inl rfl, .inr rfl⟩
theorem Tq.more {w wr w' : World} {X : Nat → Prop} {gb ga g1 g2 : Nat} {p : PT} {u t : Int} {q1 : Nat} {a1 b1 c1 : Int} {q2 : Nat} {a2 b2 c2 : Int} (h : Tq w wr X gb ga g1 g2 p u t q1 a1 b1 c1 q2 a2 b2 c2) (hb : Below wr.heap.size wr w') {g : Nat} (hg : wr.heap.size ≤ g) (hl : g < w'.heap.size) : Tq w w' (fun b => X b ∨ b = g) gb ga g1 g2 p u t q1 a1 b1 c1 q2 a2 b2 c2 := by
  obtain ⟨ss1, S1, ss2, S2, hT, e1, e2⟩ := h.tw
  exact ⟨⟨ss1, S1, ss2, S2, hT.more hb hg hl, e1, e2⟩, Blk.keep h.box hb, Blk.keep h.arr hb, .inl h.xb, .inl h.xa⟩
theorem Tq.less {w wr : World} {X : Nat → Prop} {g gb ga g1 g2 : Nat} {p : PT} {u t : Int} {q1 : Nat} {a1 b1 c1 : Int} {q2 : Nat} {a2 b2 c2 : Int} (h : Tq w wr (fun b => X b ∨ b = g) gb ga g1 g2 p u t q1 a1 b1 c1 q2 a2 b2 c2) (hb : X gb) (ha : X ga) : Tq w wr X gb ga g1 g2 p u t q1 a1 b1 c1 q2 a2 b2 c2 := by
  obtain ⟨ss1, S1, ss2, S2, hT, e1, e2⟩ := h.tw
  exact ⟨⟨ss1, S1, ss2, S2, hT.less (fun _ hh => .inl hh), e1, e2⟩, h.box, h.arr, hb, ha⟩
section
variable {w wr : World} {X : Nat → Prop} {gb ga g1 g2 : Nat} {p : PT} {u t : Int} {q1 : Nat} {a1 b1 c1 : Int} {q2 : Nat} {a2 b2 c2 : Int}
theorem Add_1 (h : Tq w wr X gb ga g1 g2 p u t q1 a1 b1 c1 q2 a2 b2 c2) {x : ST} (hx : p.ss[q1]? = some x) {P : Nat → Prop} (hs : StOk wr P x) (hl : q1 < 65536) (hw : x.ws.length ≤ 1000000) : Calls Tryd.prog 12 #[.pointer (some ⟨g1, 0, none⟩), x.val] wr fun e w' => e = .returned (.int .i64 q1) ∧ Tq w w' X gb ga g1 g2 p u t (q1 + 1) a1 b1 c1 q2 a2 b2 c2 ∧ Chg wr w' (fun b => ¬ X b) := by
  obtain ⟨ss1, S1, ss2, S2, hT, e1, e2⟩ := h.tw
  obtain ⟨K, hK, kx, hM, back⟩ := hT.fst
  have hq := (List.getElem?_eq_some_iff.1 hx).1
  have hl2 : ss1.length = q1 := by
    have := congrArg List.length e1
    rw [List.length_map, List.length_map, List.length_take] at this
    omega
  have hA := Add_b hM hK x hs (by show ss1.length < 65536; omega) hw
  rw [show (PT.ss ⟨ss1, S1, a1, b1, c1⟩).length = q1 from hl2] at hA
  refine hA.mono ?_
  rintro e w' ⟨rfl, ⟨s', S', h2⟩, hc⟩
  refine ⟨rfl, ⟨⟨ss1 ++ [x.moved s'], S', ss2, S2, back _ _ h2 hc, ?_, e2⟩, Blk.chg h.box hc (fun hn => hn (kx _ h.xb)), Blk.chg h.arr hc (fun hn => hn (kx _ h.xa)), h.xb, h.xa⟩, hc.more (fun k _ hk hx => hk (kx k hx))⟩
  rw [List.map_append, e1, List.take_succ_eq_append_getElem hq, List.map_append, (List.getElem?_eq_some_iff.1 hx).2]
  rfl
theorem Slot_1 (h : Tq w wr X gb ga g1 g2 p u t q1 a1 b1 c1 q2 a2 b2 c2) (h0 : 0 ≤ a1) (h1 : a1 ≤ 1000000) : Calls Tryd.prog 13 #[.pointer (some ⟨g1, 0, none⟩)] wr fun e w' => e = .returned (.int .i64 a1) ∧ Tq w w' X gb ga g1 g2 p u t q1 (a1 + 1) b1 c1 q2 a2 b2 c2 := by
  obtain ⟨ss1, S1, ss2, S2, hT, e1, e2⟩ := h.tw
  obtain ⟨K, hK, kx, hM, back⟩ := hT.fst
  refine (Slot_b hM hK h0 h1).mono ?_
  rintro e w' ⟨rfl, h2, hc⟩
  exact ⟨rfl, ⟨ss1, S1, ss2, S2, back _ _ h2 hc, e1, e2⟩, Blk.chg h.box hc (fun hn => hn (kx _ h.xb)), Blk.chg h.arr hc (fun hn => hn (kx _ h.xa)), h.xb, h.xa⟩
theorem Sum_1 (h : Tq w wr X gb ga g1 g2 p u t q1 a1 b1 c1 q2 a2 b2 c2) (h0 : 0 ≤ b1) (h1 : b1 ≤ 1000000) : Calls Tryd.prog 14 #[.pointer (some ⟨g1, 0, none⟩)] wr fun e w' => e = .returned (.int .i64 b1) ∧ Tq w w' X gb ga g1 g2 p u t q1 a1 (b1 + 1) c1 q2 a2 b2 c2 := by
  obtain ⟨ss1, S1, ss2, S2, hT, e1, e2⟩ := h.tw
  obtain ⟨K, hK, kx, hM, back⟩ := hT.fst
  refine (Sum_b hM hK h0 h1).mono ?_
  rintro e w' ⟨rfl, h2, hc⟩
  exact ⟨rfl, ⟨ss1, S1, ss2, S2, back _ _ h2 hc, e1, e2⟩, Blk.chg h.box hc (fun hn => hn (kx _ h.xb)), Blk.chg h.arr hc (fun hn => hn (kx _ h.xa)), h.xb, h.xa⟩
theorem Auto_1 (h : Tq w wr X gb ga g1 g2 p u t q1 a1 b1 c1 q2 a2 b2 c2) (h0 : 0 ≤ c1) (h1 : c1 ≤ 1000000) : Calls Tryd.prog 15 #[.pointer (some ⟨g1, 0, none⟩)] wr fun e w' => e = .returned (.int .i64 c1) ∧ Tq w w' X gb ga g1 g2 p u t q1 a1 b1 (c1 + 1) q2 a2 b2 c2 := by
  obtain ⟨ss1, S1, ss2, S2, hT, e1, e2⟩ := h.tw
  obtain ⟨K, hK, kx, hM, back⟩ := hT.fst
  refine (Auto_b hM hK h0 h1).mono ?_
  rintro e w' ⟨rfl, h2, hc⟩
  exact ⟨rfl, ⟨ss1, S1, ss2, S2, back _ _ h2 hc, e1, e2⟩, Blk.chg h.box hc (fun hn => hn (kx _ h.xb)), Blk.chg h.arr hc (fun hn => hn (kx _ h.xa)), h.xb, h.xa⟩
theorem Add_2 (h : Tq w wr X gb ga g1 g2 p u t q1 a1 b1 c1 q2 a2 b2 c2) {x : ST} (hx : p.ss[q2]? = some x) {P : Nat → Prop} (hs : StOk wr P x) (hl : q2 < 65536) (hw : x.ws.length ≤ 1000000) : Calls Tryd.prog 12 #[.pointer (some ⟨g2, 0, none⟩), x.val] wr fun e w' => e = .returned (.int .i64 q2) ∧ Tq w w' X gb ga g1 g2 p u t q1 a1 b1 c1 (q2 + 1) a2 b2 c2 := (Add_1 h.swap hx hs hl hw).mono fun _ _ hh => ⟨hh.1, hh.2.1.swap⟩
theorem Slot_2 (h : Tq w wr X gb ga g1 g2 p u t q1 a1 b1 c1 q2 a2 b2 c2) (h0 : 0 ≤ a2) (h1 : a2 ≤ 1000000) : Calls Tryd.prog 13 #[.pointer (some ⟨g2, 0, none⟩)] wr fun e w' => e = .returned (.int .i64 a2) ∧ Tq w w' X gb ga g1 g2 p u t q1 a1 b1 c1 q2 (a2 + 1) b2 c2 := (Slot_1 h.swap h0 h1).mono fun _ _ hh => ⟨hh.1, hh.2.swap⟩
theorem Sum_2 (h : Tq w wr X gb ga g1 g2 p u t q1 a1 b1 c1 q2 a2 b2 c2) (h0 : 0 ≤ b2) (h1 : b2 ≤ 1000000) : Calls Tryd.prog 14 #[.pointer (some ⟨g2, 0, none⟩)] wr fun e w' => e = .returned (.int .i64 b2) ∧ Tq w w' X gb ga g1 g2 p u t q1 a1 b1 c1 q2 a2 (b2 + 1) c2 := (Sum_1 h.swap h0 h1).mono fun _ _ hh => ⟨hh.1, hh.2.swap⟩
theorem Auto_2 (h : Tq w wr X gb ga g1 g2 p u t q1 a1 b1 c1 q2 a2 b2 c2) (h0 : 0 ≤ c2) (h1 : c2 ≤ 1000000) : Calls Tryd.prog 15 #[.pointer (some ⟨g2, 0, none⟩)] wr fun e w' => e = .returned (.int .i64 c2) ∧ Tq w w' X gb ga g1 g2 p u t q1 a1 b1 c1 q2 a2 b2 (c2 + 1) := (Auto_1 h.swap h0 h1).mono fun _ _ hh => ⟨hh.1, hh.2.swap⟩
end
end Go.Proofs.YtpbkdokhlimpfaaDoor
