/- nfa: where a call stands that puts together. -/
import Derived.Test.YtimffgmbchpfeaaNfF
namespace Go.Proofs.Ytimffgmbchpfeaa
set_option linter.unusedSimpArgs false
set_option linter.unusedVariables false
open Go.RowKit

variable {w w' w0 : World} {O O0 : Nat → Prop} {E E' : EG} {g : Nat}
theorem MkR.cut (h : MkR w O g E) : MkR w (fun b => O b ∧ b < w.heap.size) g E := by
  obtain ⟨A, c, vs, hb, hg, hv⟩ := h
  exact ⟨A, c, vs, hb, ⟨hg, hb.lt⟩, hv.len, hv.row, fun b e => ⟨hv.own b e, (own_blockN hv.row b e).2⟩, fun i h1 h2 => ⟨(hv.kid i h1 h2).1, fun b e => ⟨(hv.kid i h1 h2).2 b e, (own_blockN (hv.kid i h1 h2).1 b e).2⟩⟩, hv.apart⟩
/-- Where a call stands: what it has put together, and what has changed since it began. -/
structure MAt (w0 : World) (O0 : Nat → Prop) (g : Nat) (w : World) (O : Nat → Prop) (E : EG) : Prop where
  rd : MkR w O g E
  ch : Chg w0 w O0
  gr : ∀ b, O b → O0 b ∨ w0.heap.size ≤ b
  lt : ∀ b, O b → b < w.heap.size
theorem MAt.start (h : MkR w O g E) (hl : ∀ b, O b → b < w.heap.size) : MAt w O g w O E := ⟨h, Chg.refl _ _, fun _ hb => .inl hb, hl⟩
theorem MAt.keep (h : MAt w0 O0 g w O E) (hb : Below w.heap.size w w') : MAt w0 O0 g w' O E := ⟨h.rd.keep hb, h.ch.trans (Chg.of_below hb O0), h.gr, fun b e => Nat.lt_of_lt_of_le (h.lt b e) hb.size⟩
theorem MAt.stM (h : MAt w0 O0 g w O E) : StM w0 O0 g E w := ⟨O, h.rd, h.ch, h.gr⟩
theorem MAt.call (h : MAt w0 O0 g w O E) (k : StM w O g E' w') : ∃ O', MAt w0 O0 g w' O' E' ∧ Chg w w' O ∧ ∀ b, b < w.heap.size → ¬ O b → ¬ O' b := by
  obtain ⟨O1, hr, hc, hg⟩ := k
  refine ⟨fun b => O1 b ∧ b < w'.heap.size, ⟨hr.cut, ?_, fun b hb => ?_, fun b hb => hb.2⟩, hc, fun b hb hO ho => ?_⟩
  · refine ⟨hc.os.trans h.ch.os, hc.tape.trans h.ch.tape, hc.output.trans h.ch.output, Nat.le_trans h.ch.size hc.size, fun i hi hn => (hc.block i (Nat.lt_of_lt_of_le hi h.ch.size) (fun ho => ?_)).trans (h.ch.block i hi hn)⟩
    rcases h.gr i ho with q | q
    · exact hn q
    · omega
  · rcases hg b hb.1 with q | q
    · exact h.gr b q
    · exact .inr (Nat.le_trans h.ch.size q)
  · rcases hg b ho.1 with q | q
    · exact hO q
    · omega
/-- A box of one's own beside it. -/
def Bx (w : World) (O : Nat → Prop) (b : Nat) (T : TypeId) (cs : List Value) : Prop := Blk w b T cs ∧ ¬ O b
theorem Bx.call {O' : Nat → Prop} {b : Nat} {T : TypeId} {cs : List Value} (h : Bx w O b T cs) (hc : Chg w w' O) (hn : ∀ b, b < w.heap.size → ¬ O b → ¬ O' b) : Bx w' O' b T cs := ⟨h.1.chg hc h.2, hn b h.1.lt h.2⟩
theorem Bx.keep {b : Nat} {T : TypeId} {cs : List Value} (h : Bx w O b T cs) (hb : Below w.heap.size w w') : Bx w' O b T cs := ⟨h.1.keep hb, h.2⟩
/-- An expression in memory beside it. -/
def Rp (w : World) (O : Nat → Prop) (v : RV) (t : RT) : Prop := Rep w (fun b => b < w.heap.size ∧ ¬ O b) v t
theorem Rp.call {O' : Nat → Prop} {v : RV} {t : RT} (h : Rp w O v t) (hc : Chg w w' O) (hn : ∀ b, b < w.heap.size → ¬ O b → ¬ O' b) : Rp w' O' v t :=
  Rep.mono h hc.size (fun b hp hl => hc.block b hl hp.2) (fun b hp hl => ⟨Nat.lt_of_lt_of_le hl hc.size, hn b hl hp.2⟩)
theorem Rp.keep {v : RV} {t : RT} (h : Rp w O v t) (hb : Below w.heap.size w w') : Rp w' O v t :=
  Rep.mono h hb.size (fun b _ hl => hb.block b hl) (fun b hp hl => ⟨Nat.lt_of_lt_of_le hl hb.size, hp.2⟩)
/-- The parts of one. -/
structure RpL (w : World) (O : Nat → Prop) (A : Option Addr) (ks : List RT) (vs : Nat → RV) : Prop where
  row : 0 < ks.length → ∃ b o, A = some ⟨b, o, none⟩ ∧ b < w.heap.size ∧ ¬ O b ∧ ∀ j, j < ks.length → RowAt w b (o + j * 8) (vs j).cells
  kid : ∀ j (h : j < ks.length), Rp w O (vs j) ks[j]
theorem RpL.call {O' : Nat → Prop} {A : Option Addr} {ks : List RT} {vs : Nat → RV} (h : RpL w O A ks vs) (hc : Chg w w' O) (hn : ∀ b, b < w.heap.size → ¬ O b → ¬ O' b) : RpL w' O' A ks vs :=
  ⟨fun h0 => by
    obtain ⟨b, o, e, hl, hO, hr⟩ := h.row h0
    exact ⟨b, o, e, Nat.lt_of_lt_of_le hl hc.size, hn b hl hO, fun j hj => (hr j hj).block (hc.block b hl hO)⟩, fun j hj => (h.kid j hj).call hc hn⟩
theorem RpL.keep {A : Option Addr} {ks : List RT} {vs : Nat → RV} (h : RpL w O A ks vs) (hb : Below w.heap.size w w') : RpL w' O A ks vs :=
  ⟨fun h0 => by
    obtain ⟨b, o, e, hl, hO, hr⟩ := h.row h0
    exact ⟨b, o, e, Nat.lt_of_lt_of_le hl hb.size, hO, fun j hj => (hr j hj).block (hb.block b hl)⟩, fun j hj => (h.kid j hj).keep hb⟩
theorem Rp.parts {v : RV} {k : Int} {s : BS} {ks : List RT} {lo hi : Int} (h : Rp w O v (.nd k s ks lo hi)) : v.k = k ∧ v.s = s ∧ v.n = ks.length ∧ v.lo = lo ∧ v.hi = hi ∧ ∃ vs, RpL w O v.A ks vs := by
  unfold Rp at h
  cases h with
  | mk v ks vs hn hA hk =>
    refine ⟨rfl, rfl, hn.symm, rfl, rfl, vs, fun h0 => ?_, hk⟩
    obtain ⟨b, o, e, hl, hp, hr⟩ := hA (by omega)
    exact ⟨b, o, e, hl, hp.2, fun j hj => hr j (by omega)⟩
/-- What a call of put does. -/
def PutAt (t : RT) : Prop := ∀ (v : RV) (w : World) (O : Nat → Prop) (g : Nat) (E : EG) (f : Nat), Rp w O v t → MkR w O g E → (∀ b, O b → b < w.heap.size) → wgT t = 0 → szT t ≤ 512 → f < E.length → E.length + cnT t ≤ 4200 → totE E + 2 * cnT t ≤ 20000 →
  Calls Try.prog 20 #[.pointer (some ⟨g, 0, none⟩), v.val, .int .i64 (f : Int)] w fun e w' => e = .returned (.int .i64 ((putT t E f).2 : Nat)) ∧ StM w O g (putT t E f).1 w'
end Go.Proofs.Ytimffgmbchpfeaa
