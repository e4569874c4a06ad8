/- Words for memory that the contracts of this seat share: a block known whole, a row of bytes that is read. -/
import Derived.WalkKit
import Derived.WalkLawsBesides
import Derived.WalkSpells
import Derived.BigQuiet
import Derived.Deep.QuietTactic
import Derived.Deep.Draws
import Derived.Laws.CopyOwn
import Derived.Maps.AppendAt
import Derived.Deep.AppendLies
import Derived.Handy
import Derived.OneCell
import Derived.Test.YtoiegkejkahfgaaDoorProg
namespace Go.Proofs.YtoiegkejkahfgaaDoor
set_option linter.unusedSimpArgs false
set_option linter.unusedVariables false
open Go.RowKit

/-- A fact put out of the walk's sight. -/
theorem hid {p : Prop} (h : p) : Hid p := h

/-- Block g is just these cells, none of them frozen. -/
def Blk (w : World) (g : Nat) (t : TypeId) (cs : List Value) : Prop := w.heap[g]? = some (.cells cs.toArray t (0, 0))

section
variable {w w' : World} {g : Nat} {t : TypeId} {cs : List Value}
theorem Blk.lt (h : Blk w g t cs) : g < w.heap.size := (Array.getElem?_eq_some_iff.1 h).1
theorem Blk.at (h : Blk w g t cs) (i : Nat) : w.cell? ⟨g, i, none⟩ = cs[i]? := by
  have := cell_of_row w g i cs.toArray t (0, 0) h
  simpa using this
theorem Blk.free (h : Blk w g t cs) (i : Nat) : w.frozen? ⟨g, i, none⟩ = false := by
  unfold Blk at h
  simp [World.frozen?, h]
theorem Blk.fresh (w : World) (t : TypeId) (cs : List Value) : Blk (w.alloc (.cells cs.toArray t)) w.heap.size t cs := heap_alloc_new w _
theorem Blk.alloc (h : Blk w g t cs) (o : Obj) : Blk (w.alloc o) g t cs := (Below.heap_alloc w o g h.lt).trans h
theorem Blk.drewN (h : Blk w g t cs) (n : Nat) : Blk (w.drewN n) g t cs := h
theorem Blk.drew (h : Blk w g t cs) : Blk w.drew g t cs := h
theorem Blk.put (h : Blk w g t cs) (i : Nat) (u : Value) : Blk (w.setCell ⟨g, i, none⟩ u) g t (cs.set i u) := by
  unfold Blk at h ⊢
  simp [World.setCell, Array.getElem?_modify, h]
theorem Blk.other (h : Blk w g t cs) {p : Addr} (hp : g ≠ p.block) (u : Value) : Blk (w.setCell p u) g t cs := (Below.heap_setCell w p u g hp).trans h
theorem Blk.below {B : Nat} (h : Blk w g t cs) (hb : Below B w w') (hg : g < B) : Blk w' g t cs := (hb.block g hg).trans h
theorem Blk.keep (h : Blk w g t cs) (hb : Below w.heap.size w w') : Blk w' g t cs := (hb.block g h.lt).trans h
theorem Blk.grown {row : Option Nat} (h : Blk w g t cs) (hb : w.grownBy w' row) (hg : some g ≠ row) : Blk w' g t cs := (hb.block g h.lt hg).trans h
end

/-- The value of a byte. -/
def isB (c : UInt8) : Value := .int .u8 (c.toNat : Int)

/-- The slice value '.slice A n c' reads as the bytes l. -/
def RdB (w : World) (A : Option Addr) (n : Nat) (l : List UInt8) : Prop :=
  l.length = n ∧ (0 < n → ∃ b o, A = some ⟨b, o, none⟩ ∧ b < w.heap.size ∧ ∀ j (h : j < l.length), w.cell? ⟨b, o + j, none⟩ = some (.int .u8 (l[j].toNat : Int)))

section
variable {w w' : World} {A : Option Addr} {n : Nat} {l : List UInt8}
theorem RdB.nil_ (w : World) (A : Option Addr) : RdB w A 0 [] := ⟨rfl, fun h => absurd h (by omega)⟩
theorem RdB.keep (h : RdB w A n l) (hs : w.heap.size ≤ w'.heap.size) (hk : ∀ a, A = some a → w'.heap[a.block]? = w.heap[a.block]?) : RdB w' A n l :=
  ⟨h.1, fun hn => by
    obtain ⟨b, o, e, hb, hc⟩ := h.2 hn
    have hk' := hk _ e
    exact ⟨b, o, e, by omega, fun j hj => (World.cell?_of_block (w := w) (w' := w') (a := ⟨b, o + j, none⟩) hk').trans (hc j hj)⟩⟩
theorem RdB.grown {row : Option Nat} (h : RdB w A n l) (hg : w.grownBy w' row) (hr : 0 < n → ∀ a, A = some a → some a.block ≠ row) : RdB w' A n l := by
  refine ⟨h.1, fun hn => ?_⟩
  obtain ⟨b, o, e, hb, hc⟩ := h.2 hn
  refine ⟨b, o, e, Nat.lt_of_lt_of_le hb hg.size, fun j hj => ?_⟩
  exact (World.cell?_of_block (w := w) (w' := w') (a := ⟨b, o + j, none⟩) (hg.block b hb (hr hn _ e))).trans (hc j hj)
theorem RdB.below (h : RdB w A n l) (hb : Below w.heap.size w w') : RdB w' A n l :=
  h.grown (row := none) ⟨hb.os, hb.tape, hb.output, hb.size, fun k hk _ => hb.block k hk⟩ (fun _ _ _ => by simp)
theorem RdB.drewN (h : RdB w A n l) (k : Nat) : RdB (w.drewN k) A n l := h
theorem RdB.alloc (h : RdB w A n l) (o : Obj) : RdB (w.alloc o) A n l := h.below ((Below.refl _ _).alloc (Nat.le_refl _) o)
theorem RdB.of_blk {g : Nat} {t : TypeId} (h : Blk w g t (l.map isB)) : RdB w (some ⟨g, 0, none⟩) l.length l :=
  ⟨rfl, fun _ => ⟨g, 0, rfl, h.lt, fun j hj => by rw [Nat.zero_add, h.at]; simp [hj, isB]⟩⟩
end

/-- What may have changed of old memory is block g alone. -/
theorem grown_of_below {w w' : World} (h : Below w.heap.size w w') (row : Option Nat) : w.grownBy w' row := ⟨h.os, h.tape, h.output, h.size, fun k hk _ => h.block k hk⟩
theorem below_drewN {B : Nat} {a w : World} (h : Below B a w) (n : Nat) : Below B a (w.drewN n) := ⟨h.os, h.tape, h.output, h.size, h.block⟩


theorem grown_drewN (w : World) (k : Nat) (row : Option Nat) : w.grownBy (w.drewN k) row := ⟨rfl, rfl, rfl, Nat.le_refl _, fun _ _ _ => rfl⟩
theorem grown_set (w : World) (k p i : Nat) (u : Value) : w.grownBy ((w.drewN k).setCell ⟨p, i, none⟩ u) (some p) :=
  ⟨rfl, rfl, rfl, by simp [World.setCell], fun j _ hne => Below.heap_setCell (w.drewN k) ⟨p, i, none⟩ u j (fun e => hne (by rw [e]))⟩
theorem grown_trans {a b c : World} {row : Option Nat} (h : a.grownBy b row) (k : b.grownBy c row) : a.grownBy c row :=
  ⟨k.os.trans h.os, k.tape.trans h.tape, k.output.trans h.output, Nat.le_trans h.size k.size, fun i hi hn => (k.block i (Nat.lt_of_lt_of_le hi h.size) hn).trans (h.block i hi hn)⟩
theorem below_grown {B p : Nat} {a b c : World} (h : Below B a b) (k : b.grownBy c (some p)) (hB : B ≤ b.heap.size) (hp : B ≤ p) : Below B a c :=
  h.grown k hB (fun j hj => by injection hj with hj; omega)

theorem RdB.cut {w : World} {A : Option Addr} {n : Nat} {l : List UInt8} (h : RdB w A n l) (rd m c : Nat) (h1 : rd + m ≤ n) (h2 : n ≤ c) :
    RdB w (if c = rd then A else A.map (·.add rd)) m ((l.drop rd).take m) := by
  have hlen := h.1
  refine ⟨by simp; omega, fun hm => ?_⟩
  obtain ⟨b, o, rfl, hb, hc⟩ := h.2 (by omega)
  rw [if_neg (by omega)]
  refine ⟨b, o + rd, ?_, hb, fun j hj => ?_⟩
  · simp only [Option.map_some, Addr.add]
    by_cases e : rd = 0
    · subst e; simp
    · rw [if_neg e]
  · have hj' : j < m := by simp at hj; omega
    have := hc (rd + j) (by omega)
    rw [show o + rd + j = o + (rd + j) from by omega, this]
    simp
theorem cut_block {A : Option Addr} (c rd : Nat) : ∀ a, (if c = rd then A else A.map (·.add rd)) = some a → ∃ a0, A = some a0 ∧ a.block = a0.block := by
  intro a h
  by_cases e : c = rd
  · rw [if_pos e] at h; exact ⟨a, h, rfl⟩
  · rw [if_neg e] at h
    cases A with
    | none => simp at h
    | some a0 =>
      simp only [Option.map_some, Option.some.injEq] at h
      refine ⟨a0, rfl, ?_⟩
      subst h
      unfold Addr.add; split <;> rfl
end Go.Proofs.YtoiegkejkahfgaaDoor
