/- Words for memory that the contracts of this seat share: a block known whole, a row of bytes that is read. -/
import Derived.WalkKit
import Derived.WalkLawsBesides
import Derived.WalkSpells
import Derived.BigQuiet
import Derived.Deep.QuietTactic
import Derived.Deep.Draws
import Derived.Laws.CopyOwn
import Derived.Maps.AppendAt
import Derived.Deep.AppendLies
import Derived.Handy
import Derived.OneCell
import Derived.Test.YtfcccfplmdjndaaGreatProg
import Derived.Laws.MakeOwn
import Derived.Laws.IdiomStrings
import Derived.Laws.BytesArg
import Derived.Laws.OwnMore
import Derived.Deep.MidRow
import Derived.Laws.Rows
import Derived.Deep.Cut
import Derived.Deep.RegionHeld3
import Derived.Deep.RegionWith
import Derived.OwnWalk
namespace Go.Proofs.YtfcccfplmdjndaaGreat
set_option linter.unusedSimpArgs false
set_option linter.unusedVariables false
open Go.RowKit

theorem hid {p : Prop} (h : p) : Hid p := h

def Blk (w : World) (g : Nat) (t : TypeId) (cs : List Value) : Prop := w.heap[g]? = some (.cells cs.toArray t (0, 0))

section
variable {w w' : World} {g : Nat} {t : TypeId} {cs : List Value}
theorem Blk.lt (h : Blk w g t cs) : g < w.heap.size := (Array.getElem?_eq_some_iff.1 h).1
theorem Blk.at (h : Blk w g t cs) (i : Nat) : w.cell? ⟨g, i, none⟩ = cs[i]? := by
 have := cell_of_row w g i cs.toArray t (0, 0) h
 simpa using this
theorem Blk.free (h : Blk w g t cs) (i : Nat) : w.frozen? ⟨g, i, none⟩ = false := by
 unfold Blk at h
 simp [World.frozen?, h]
theorem Blk.fresh (w : World) (t : TypeId) (cs : List Value) : Blk (w.alloc (.cells cs.toArray t)) w.heap.size t cs := heap_alloc_new w _
theorem Blk.alloc (h : Blk w g t cs) (o : Obj) : Blk (w.alloc o) g t cs := (Below.heap_alloc w o g h.lt).trans h
theorem Blk.drewN (h : Blk w g t cs) (n : Nat) : Blk (w.drewN n) g t cs := h
theorem Blk.drew (h : Blk w g t cs) : Blk w.drew g t cs := h
theorem Blk.put (h : Blk w g t cs) (i : Nat) (u : Value) : Blk (w.setCell ⟨g, i, none⟩ u) g t (cs.set i u) := by
 unfold Blk at h ⊢
 simp [World.setCell, Array.getElem?_modify, h]
theorem Blk.other (h : Blk w g t cs) {p : Addr} (hp : g ≠ p.block) (u : Value) : Blk (w.setCell p u) g t cs := (Below.heap_setCell w p u g hp).trans h
theorem Blk.below {B : Nat} (h : Blk w g t cs) (hb : Below B w w') (hg : g < B) : Blk w' g t cs := (hb.block g hg).trans h
theorem Blk.keep (h : Blk w g t cs) (hb : Below w.heap.size w w') : Blk w' g t cs := (hb.block g h.lt).trans h
theorem Blk.grown {row : Option Nat} (h : Blk w g t cs) (hb : w.grownBy w' row) (hg : some g ≠ row) : Blk w' g t cs := (hb.block g h.lt hg).trans h
end

def isB (c : UInt8) : Value := .int .u8 (c.toNat : Int)

def RdB (w : World) (A : Option Addr) (n : Nat) (l : List UInt8) : Prop :=
 l.length = n ∧ (0 < n → ∃ b o, A = some ⟨b, o, none⟩ ∧ b < w.heap.size ∧ ∀ j (h : j < l.length), w.cell? ⟨b, o + j, none⟩ = some (.int .u8 (l[j].toNat : Int)))

section
variable {w w' : World} {A : Option Addr} {n : Nat} {l : List UInt8}
theorem RdB.keep (h : RdB w A n l) (hs : w.heap.size ≤ w'.heap.size) (hk : ∀ a, A = some a → w'.heap[a.block]? = w.heap[a.block]?) : RdB w' A n l :=
 ⟨h.1, fun hn => by
  obtain ⟨b, o, e, hb, hc⟩ := h.2 hn
  have hk' := hk _ e
  exact ⟨b, o, e, by omega, fun j hj => (World.cell?_of_block (w := w) (w' := w') (a := ⟨b, o + j, none⟩) hk').trans (hc j hj)⟩⟩
theorem RdB.grown {row : Option Nat} (h : RdB w A n l) (hg : w.grownBy w' row) (hr : 0 < n → ∀ a, A = some a → some a.block ≠ row) : RdB w' A n l := by
 refine ⟨h.1, fun hn => ?_⟩
 obtain ⟨b, o, e, hb, hc⟩ := h.2 hn
 refine ⟨b, o, e, Nat.lt_of_lt_of_le hb hg.size, fun j hj => ?_⟩
 exact (World.cell?_of_block (w := w) (w' := w') (a := ⟨b, o + j, none⟩) (hg.block b hb (hr hn _ e))).trans (hc j hj)
theorem RdB.below (h : RdB w A n l) (hb : Below w.heap.size w w') : RdB w' A n l :=
 h.grown (row := none) ⟨hb.os, hb.tape, hb.output, hb.size, fun k hk _ => hb.block k hk⟩ (fun _ _ _ => by simp)
theorem RdB.drewN (h : RdB w A n l) (k : Nat) : RdB (w.drewN k) A n l := h
theorem RdB.alloc (h : RdB w A n l) (o : Obj) : RdB (w.alloc o) A n l := h.below ((Below.refl _ _).alloc (Nat.le_refl _) o)
end

theorem grown_drewN (w : World) (k : Nat) (row : Option Nat) : w.grownBy (w.drewN k) row := ⟨rfl, rfl, rfl, Nat.le_refl _, fun _ _ _ => rfl⟩
theorem grown_trans {a b c : World} {row : Option Nat} (h : a.grownBy b row) (k : b.grownBy c row) : a.grownBy c row :=
 ⟨k.os.trans h.os, k.tape.trans h.tape, k.output.trans h.output, Nat.le_trans h.size k.size, fun i hi hn => (k.block i (Nat.lt_of_lt_of_le hi h.size) hn).trans (h.block i hi hn)⟩
theorem RdB.cut {w : World} {A : Option Addr} {n : Nat} {l : List UInt8} (h : RdB w A n l) (rd m c : Nat) (h1 : rd + m ≤ n) (h2 : n ≤ c) :
  RdB w (if c = rd then A else A.map (·.add rd)) m ((l.drop rd).take m) := by
 have hlen := h.1
 refine ⟨by simp; omega, fun hm => ?_⟩
 obtain ⟨b, o, rfl, hb, hc⟩ := h.2 (by omega)
 rw [if_neg (by omega)]
 refine ⟨b, o + rd, ?_, hb, fun j hj => ?_⟩
 ·simp only [Option.map_some, Addr.add]
  by_cases e : rd = 0
  ·subst e; simp
  ·rw [if_neg e]
 ·have hj' : j < m := by simp at hj; omega
  have := hc (rd + j) (by omega)
  rw [show o + rd + j = o + (rd + j) from by omega, this]
  simp
end Go.Proofs.YtfcccfplmdjndaaGreat

/- make, copy and append of bytes, as laws for the walk; what may have changed of old memory. -/
namespace Go.Proofs.YtfcccfplmdjndaaGreat
open Go.RowKit

structure Chg (w w' : World) (S : Nat → Prop) : Prop where
 os : w'.os = w.os
 tape : w'.tape = w.tape
 output : w'.output = w.output
 size : w.heap.size ≤ w'.heap.size
 block : ∀ k, k < w.heap.size → ¬ S k → w'.heap[k]? = w.heap[k]?

section
variable {a b c : World} {S T : Nat → Prop}
theorem Chg.refl (w : World) (S : Nat → Prop) : Chg w w S := ⟨rfl, rfl, rfl, Nat.le_refl _, fun _ _ _ => rfl⟩
theorem Chg.trans (h : Chg a b S) (k : Chg b c S) : Chg a c S :=
 ⟨k.os.trans h.os, k.tape.trans h.tape, k.output.trans h.output, Nat.le_trans h.size k.size, fun i hi hn => (k.block i (Nat.lt_of_lt_of_le hi h.size) hn).trans (h.block i hi hn)⟩
theorem Chg.more (h : Chg a b S) (hs : ∀ k, k < a.heap.size → S k → T k) : Chg a b T := ⟨h.os, h.tape, h.output, h.size, fun i hi hn => h.block i hi (fun hh => hn (hs i hi hh))⟩
theorem Chg.of_grown {row : Option Nat} (h : a.grownBy b row) : Chg a b (fun k => row = some k) := ⟨h.os, h.tape, h.output, h.size, fun i hi hn => h.block i hi (fun e => hn e.symm)⟩
theorem Chg.of_below (h : Below a.heap.size a b) (S : Nat → Prop) : Chg a b S := ⟨h.os, h.tape, h.output, h.size, fun i hi _ => h.block i hi⟩
theorem Chg.below {B : Nat} {w : World} (h : Below B w a) (k : Chg a b S) (hB : B ≤ a.heap.size) (hS : ∀ j, S j → B ≤ j) : Below B w b :=
 h.trans ⟨k.os, k.tape, k.output, k.size, fun i hi => k.block i (by omega) (fun hs => by have := hS i hs; omega)⟩
theorem Chg.drewN (h : Chg a b S) (n : Nat) : Chg a (b.drewN n) S := ⟨h.os, h.tape, h.output, h.size, h.block⟩
theorem Chg.set (h : Chg a b S) (p i : Nat) (hp : S p) (u : Value) : Chg a (b.setCell ⟨p, i, none⟩ u) S :=
 h.trans ⟨rfl, rfl, rfl, by simp [World.setCell], fun j _ hn => Below.heap_setCell b ⟨p, i, none⟩ u j (fun e => hn (by rw [e]; exact hp))⟩
theorem Blk.chg {g : Nat} {t : TypeId} {cs : List Value} (h : Blk a g t cs) (hc : Chg a b S) (hg : ¬ S g) : Blk b g t cs := (hc.block g h.lt hg).trans h
theorem RdB.chg {A : Option Addr} {n : Nat} {l : List UInt8} (h : RdB a A n l) (hc : Chg a b S) (hA : 0 < n → ∀ x, A = some x → ¬ S x.block) : RdB b A n l := by
 refine ⟨h.1, fun hn => ?_⟩
 obtain ⟨g, o, e, hb, hcell⟩ := h.2 hn
 exact ⟨g, o, e, Nat.lt_of_lt_of_le hb hc.size, fun j hj => (World.cell?_of_block (w := a) (w' := b) (a := ⟨g, o + j, none⟩) (hc.block g hb (hA hn _ e))).trans (hcell j hj)⟩
theorem owns_chg {base : Nat} {e : TypeId} {size : Nat} {v : Value} {n : Nat} {xs : List Value} (h : a.ownsRow base e size v n xs) (hc : Chg a b S) (hv : ∀ k, v.ownBlock = some k → ¬ S k) : b.ownsRow base e size v n xs := by
 refine ⟨h.1, ?_⟩
 rcases h.2 with hn | ⟨g, cap, cur, rfl, hb, hg, r⟩
 ·exact .inl hn
 ·refine .inr ⟨g, cap, cur, rfl, hb, ?_, r⟩
  rw [hc.block g (Array.getElem?_eq_some_iff.1 hg).1 (hv g rfl)]
  exact hg
end

theorem addr_add (b o j : Nat) : (⟨b, o, none⟩ : Addr).add j = ⟨b, o + j, none⟩ := by
 unfold Addr.add
 split
 ·subst_vars; rfl
 ·rfl

theorem RdB.src {w : World} {A : Option Addr} {n : Nat} {l : List UInt8} (h : RdB w A n l) (hn : 0 < n) :
  ∃ ad, A = some ad ∧ ∀ j v, (l.map isB)[j]? = some v → w.cell? (ad.add j) = some v := by
 obtain ⟨b, o, rfl, _, hc⟩ := h.2 hn
 refine ⟨_, rfl, fun j v hv => ?_⟩
 obtain ⟨hj, rfl⟩ := List.getElem?_eq_some_iff.1 hv
 rw [addr_add, hc j (by simpa using hj)]
 simp [isB]

theorem RdB.of_own {w : World} {base : Nat} {A : Option Addr} {n c : Nat} {l : List UInt8} (h : w.ownsRow base 5 1 (.slice A n c) n (l.map isB)) : RdB w A n l := by
 have hl : l.length = n := by have := h.1; simpa using this
 refine ⟨hl, fun hn => ?_⟩
 rcases h.2 with ⟨hv, h0⟩ | ⟨g, cap, cur, hv, hb, hg, hnc, hcm, hcs, ht⟩
 ·omega
 ·injection hv with hA _ _
  refine ⟨g, 0, hA, (Array.getElem?_eq_some_iff.1 hg).1, fun j hj => ?_⟩
  have hc := cell_of_row w g j cur 5 (0, 0) hg
  rw [Nat.zero_add, hc]
  have e : (cur.toList.take (n * 1))[j]? = (l.map isB)[j]? := by rw [ht]
  rw [Nat.mul_one, List.getElem?_take_of_lt (by omega)] at e
  simp [hj] at e
  simpa [isB] using e

theorem run_strAdd (a b : List UInt8) (h : a.length + b.length ≤ 9223372036854775807) (w : World) :
  (binOp .add 9 (.string ⟨a.toArray⟩) (.string ⟨b.toArray⟩)).run Tryz.prog w = .ok (.string ⟨(a ++ b).toArray⟩) w := by
 rw [binOp_string_add, run_string_add_sum _ _ _ (by simpa [ByteArray.size] using h)]
 congr 2
theorem RdB.front {w : World} {A : Option Addr} {n : Nat} {l : List UInt8} (h : RdB w A n l) (m : Nat) (hm : m ≤ n) : RdB w A m (l.take m) := by
 have hl := h.1
 refine ⟨by simp; omega, fun h0 => ?_⟩
 obtain ⟨b, o, e, hb, hc⟩ := h.2 (by omega)
 exact ⟨b, o, e, hb, fun j hj => by rw [hc j (by simp at hj; omega)]; simp⟩
theorem RdB.back {w : World} {A : Option Addr} {n : Nat} {l : List UInt8} (h : RdB w A n l) (rd c : Nat) (h1 : rd ≤ n) (h2 : n ≤ c) :
  RdB w (if c = rd then A else A.map (·.add rd)) (n - rd) (l.drop rd) := by
 have hc := h.cut rd (n - rd) c (by omega) h2
 rw [List.take_of_length_le (by have := h.1; simp; omega)] at hc
 exact hc

end Go.Proofs.YtfcccfplmdjndaaGreat

/- tree: owned rows, slices that read as some cells, a list copied. -/
namespace Go.Proofs.YtfcccfplmdjndaaGreat
set_option linter.unusedSimpArgs false
set_option linter.unusedVariables false
open Go.RowKit

theorem own_neN {w : World} {base g sz : Nat} {t e : TypeId} {v : Value} {n : Nat} {xs cs : List Value} (h : w.ownsRow base e sz v n xs) (hg : Blk w g t cs) (hne : e ≠ t) : v.ownBlock ≠ some g := by
 rcases h.2 with ⟨rfl, _⟩ | ⟨g', cap, cur, rfl, _, hh, _⟩
 ·simp [Value.ownBlock]
 ·intro he
  have : g' = g := by simpa [Value.ownBlock] using he
  subst this
  unfold Blk at hg
  rw [hg] at hh
  injection hh with hh
  injection hh with _ ht
  exact hne ht.symm


theorem owns_keep {w w' : World} {base : Nat} {e : TypeId} {size : Nat} {v : Value} {n : Nat} {xs : List Value} (h : w.ownsRow base e size v n xs) (hb : ∀ b, base ≤ b → b < w.heap.size → w'.heap[b]? = w.heap[b]?) : w'.ownsRow base e size v n xs := by
 refine ⟨h.1, ?_⟩
 rcases h.2 with hn | ⟨g', cap, cur, rfl, hb', hg', r⟩
 ·exact .inl hn
 ·exact .inr ⟨g', cap, cur, rfl, hb', (hb g' hb' (Array.getElem?_eq_some_iff.1 hg').1).trans hg', r⟩

theorem owns_block {w : World} {base : Nat} {e : TypeId} {size : Nat} {v : Value} {n : Nat} {xs : List Value} (h : w.ownsRow base e size v n xs) : ∀ b, v.ownBlock = some b → base ≤ b ∧ b < w.heap.size := by
 intro b hb
 rcases h.2 with ⟨rfl, _⟩ | ⟨g', cap, cur, rfl, hb', hg', _⟩
 ·cases hb
 ·injection hb with hb
  subst hb
  exact ⟨hb', (Array.getElem?_eq_some_iff.1 hg').1⟩

theorem owns_shape {w : World} {base : Nat} {e : TypeId} {size : Nat} {v : Value} {n : Nat} {xs : List Value} (h : w.ownsRow base e size v n xs) : ∃ A c, v = .slice A n c := by
 rcases h.2 with ⟨rfl, hn⟩ | ⟨g', cap, cur, rfl, _⟩
 ·exact ⟨none, 0, by rw [hn]⟩
 ·exact ⟨_, cap, rfl⟩

theorem owns_base {w : World} {base base' : Nat} {e : TypeId} {size : Nat} {v : Value} {n : Nat} {xs : List Value} (h : w.ownsRow base e size v n xs) (hb : base' ≤ base) : w.ownsRow base' e size v n xs := by
 refine ⟨h.1, ?_⟩
 rcases h.2 with hn | ⟨g', cap, cur, rfl, hb', r⟩
 ·exact .inl hn
 ·exact .inr ⟨g', cap, cur, rfl, Nat.le_trans hb hb', r⟩

theorem below_row {B g : Nat} {a w : World} (h : Below B a w) (hg : B ≤ g) (cs : Array Value) : Below B a (w.setRow g cs) :=
 ⟨h.os, h.tape, h.output, by have := h.size; simpa [World.setRow] using this, fun k hk => (setRow_other w g k cs (by omega)).trans (h.block k hk)⟩
structure SV where
 A : Option Addr
 n : Nat
 c : Nat
def SV.val (s : SV) : Value := .slice s.A s.n s.c
def SV.nil : SV := ⟨none, 0, 0⟩
section
variable {α : Type} {f : α → List Value} {m : Nat}
theorem flat_len (h : ∀ x, (f x).length = m) (l : List α) : (l.flatMap f).length = l.length * m := by
 induction l with
 | nil => simp
 | cons x l ih => rw [List.flatMap_cons, List.length_append, ih, h, List.length_cons, Nat.succ_mul, Nat.add_comm]
theorem flat_get (h : ∀ x, (f x).length = m) (l : List α) (j i : Nat) (hj : j < l.length) (hi : i < m) : (l.flatMap f)[j * m + i]? = (f l[j])[i]? := by
 induction l generalizing j with
 | nil => simp at hj
 | cons x l ih =>
  rw [List.flatMap_cons]
  cases j with
  | zero => rw [Nat.zero_mul, Nat.zero_add, List.getElem?_append_left (by rw [h]; exact hi)]; rfl
  | succ j =>
   rw [List.getElem?_append_right (by rw [h, Nat.succ_mul]; omega), h, show (j + 1) * m + i - m = j * m + i by rw [Nat.succ_mul]; omega, ih j (by simpa using hj)]
   rfl
end
def Rw (w : World) (P : Nat → Prop) (s : SV) (xs : List Value) : Prop :=
 (s.A = none → xs = []) ∧ (0 < xs.length → ∃ b o, s.A = some ⟨b, o, none⟩ ∧ b < w.heap.size ∧ P b ∧ ∀ j (h : j < xs.length), w.cell? ⟨b, o + j, none⟩ = some xs[j])
theorem Rw.nil (w : World) (P : Nat → Prop) (s : SV) : Rw w P s [] := ⟨fun _ => rfl, fun h => absurd h (by simp)⟩
theorem Rw.mono {w w' : World} {P Q : Nat → Prop} {s : SV} {xs : List Value} (h : Rw w P s xs) (hb : ∀ b, P b → b < w.heap.size → w'.heap[b]? = w.heap[b]?) (hs : w.heap.size ≤ w'.heap.size) (hPQ : ∀ b, P b → b < w.heap.size → Q b) : Rw w' Q s xs := by
 refine ⟨h.1, fun hx => ?_⟩
 obtain ⟨b, o, hA, hlt, hP, hc⟩ := h.2 hx
 exact ⟨b, o, hA, Nat.lt_of_lt_of_le hlt hs, hPQ b hP hlt, fun j hj => by rw [World.cell?_of_block (hb b hP hlt)]; exact hc j hj⟩
theorem Rw.keep {w w' : World} {P : Nat → Prop} {s : SV} {xs : List Value} (h : Rw w P s xs) (hb : Below w.heap.size w w') : Rw w' P s xs :=
 h.mono (fun b _ hl => hb.block b hl) hb.size (fun _ h _ => h)
theorem Rw.at {w : World} {P : Nat → Prop} {s : SV} {xs : List Value} (h : Rw w P s xs) (hx : 0 < xs.length) : ∃ b o, s.A = some ⟨b, o, none⟩ ∧ b < w.heap.size ∧ P b ∧ ∀ j, j < xs.length → w.cell? ⟨b, o + j, none⟩ = xs[j]? := by
 obtain ⟨b, o, hA, hlt, hP, hc⟩ := h.2 hx
 exact ⟨b, o, hA, hlt, hP, fun j hj => by rw [hc j hj, List.getElem?_eq_getElem hj]⟩
theorem Rw.src {w : World} {P : Nat → Prop} {s : SV} {xs : List Value} (h : Rw w P s xs) (hx : 0 < xs.length) : ∃ ad, s.A = some ad ∧ ∀ j v, xs[j]? = some v → w.cell? (ad.add j) = some v := by
 obtain ⟨b, o, hA, hlt, hP, hc⟩ := h.2 hx
 refine ⟨_, hA, fun j v hv => ?_⟩
 obtain ⟨hj, rfl⟩ := List.getElem?_eq_some_iff.1 hv
 rw [addr_add]
 exact hc j hj
theorem run_copy_rowN (P : Program) (w : World) (dT sT ty elem : TypeId) (sz g o dLen dCap : Nat) (a : Addr) (sLen sCap : Nat) (cur : Array Value) (t : TypeId) (cs : List Value)
  (hu : P.underlying dT = some (.slice elem)) (hs : (P.info? elem).map (·.size) = some sz)
  (hg : w.heap[g]? = some (.cells cur t (0, 0))) (hn : cs.length = Nat.min sLen dLen * sz)
  (hsrc : ∀ j v, cs[j]? = some v → w.cell? (a.add j) = some v) (hfit : o + cs.length ≤ cur.size) (h1 : ∀ v ∈ cs, v.oneCell' = true) :
  (Builtin.copy_ #[dT, sT] ty #[.slice (some ⟨g, o, none⟩) dLen dCap, .slice (some a) sLen sCap]).run P w =
   .ok (goInt (Nat.min sLen dLen)) (w.setRow g (cur.toList.take o ++ cs ++ cur.toList.drop (o + cs.length)).toArray) := by
 have hl := run_loadCells_list (P := P) w a cs hsrc
 have hst := run_storeCells_at P g o t cs 0 cur w hg (by simpa using hfit) h1
 cases hq : P.info? elem with
 | none => simp [hq] at hs
 | some i =>
  have hi : i.size = sz := by simpa [hq] using hs
  simp [Builtin.copy_, run_underlying hu, Builtin.lenOf, Builtin.firstCells, sizeOf, typeInfo, hq, hi, ← hn, hl, hst]
theorem run_copy_noneN (P : Program) (w : World) (dT sT ty elem : TypeId) (sz : Nat) (d a : Option Addr) (dCap sCap : Nat) (hu : P.underlying dT = some (.slice elem)) (hs : (P.info? elem).map (·.size) = some sz) :
  (Builtin.copy_ #[dT, sT] ty #[.slice d 0 dCap, .slice a 0 sCap]).run P w = .ok (goInt 0) w := by
 cases hq : P.info? elem with
 | none => simp [hq] at hs
 | some i =>
  rcases d with _ | d <;> rcases a with _ | a <;> simp_all [Builtin.copy_, run_underlying hu, Builtin.lenOf, Builtin.firstCells, sizeOf, typeInfo, storeCells, loadCells, loadCellsFrom]
theorem size_of_info {P : Program} {e : TypeId} {z : Value} {size bytes : Nat} (h : (P.info? e).map (fun i => (i.zero, i.size, i.bytes)) = some (some z, size, bytes)) : (P.info? e).map (·.size) = some size := by
 obtain ⟨i, hi, _, h2, _⟩ := info_parts h
 rw [hi, Option.map_some, h2]
theorem wpList_copyF {P : Program} {w : World} {ops : Array Oper} {rest : List Oper} {o : Oper} {a : Act} {Q : Exit → Act → World → Prop} (hgd : o.guard = none) (d s : Operand) (sT elem : TypeId)
  (ho : o.op = .call { callee := .builtin .copy, args := #[d, s], argTypes := #[sT, sT] }) (hu : P.underlying sT = some (.slice elem)) (sz : Nat) (hsz : (P.info? elem).map (·.size) = some sz)
  (g n c : Nat) (A : Option Addr) (hd : a.eval d = .slice (some ⟨g, 0, none⟩) n n) (hs : a.eval s = .slice A n c) (Pr : Nat → Prop) (xs : List Value) (hx : Rw w Pr ⟨A, n, c⟩ xs) (hn : n * sz = xs.length) (hz : 0 < sz)
  (cur : Array Value) (hg : w.heap[g]? = some (.cells cur elem (0, 0))) (hc : cur.size = n * sz) (h1 : ∀ v ∈ xs, v.oneCell' = true)
  (h : ∀ w', Hid (Blk w' g elem xs) → Hid (w.grownBy w' (some g)) → Hid (w'.heap.size = w.heap.size) → wpList P ops Q rest (a.put o.dst (goInt n)) w') :
  wpList P ops Q (o :: rest) a w := by
 refine wpList_plain hgd fun K hK => ?_
 have hmin : Nat.min n n = n := Nat.min_self n
 by_cases h0 : n = 0
 ·subst h0
  have hx0 : xs = [] := List.eq_nil_of_length_eq_zero (by omega)
  subst hx0
  have hc0 : cur = #[] := Array.eq_empty_of_size_eq_zero (by omega)
  subst hc0
  have hrun := run_copy_noneN P w sT sT o.type elem sz (some ⟨g, 0, none⟩) A 0 c hu hsz
  unfold Oper.wp
  simp [execOp, ho, resolve, invoke, builtin, hd, hs, hrun, Result.andThen]
  exact hK _ _ (h w hg ⟨rfl, rfl, rfl, Nat.le_refl _, fun _ _ _ => rfl⟩ rfl)
 ·have hpos : 0 < xs.length := by rw [← hn]; exact Nat.mul_pos (by omega) hz
  obtain ⟨ad, hA, hsrc⟩ := hx.src hpos
  simp only at hA
  subst hA
  have hrun := run_copy_rowN P w sT sT o.type elem sz g 0 n n ad n c cur elem xs hu hsz hg (by rw [hmin]; exact hn.symm) hsrc (by omega) h1
  rw [hmin] at hrun
  unfold Oper.wp
  simp [execOp, ho, resolve, invoke, builtin, hd, hs, hrun, Result.andThen]
  refine hK _ _ (h _ (hid ?_) (hid ⟨rfl, rfl, rfl, by simp [World.setRow], fun k hk hne => setRow_other w g k _ (fun e => hne (by rw [e]))⟩) (hid (by simp [World.setRow])))
  unfold Blk
  have := setRow_heap w g _ xs.toArray elem _ hg
  have e : cur.toList.drop xs.length = [] := List.drop_eq_nil_of_le (by simp; omega)
  rw [e]
  simpa using this
theorem run_eql_slice_nil {P : Program} (w : World) (t e : TypeId) (a : Option Addr) (l c : Nat) (h : P.underlying t = some (.slice e)) : (binOp .eql t (.slice a l c) (.slice none 0 0)).run P w = .ok (.bool a.isNone) w := by
 simp [binOp, run_equal_slice_nil w t e a l c h]
def OwnR (T : TypeId) (xs : List Value) (s : SV) (w : World) (e : Ending) (w' : World) : Prop :=
 ∃ s' : SV, e = .returned s'.val ∧ s'.n = s.n ∧ Below w.heap.size w w' ∧ ((s.A = none ∧ s' = SV.nil ∧ xs = []) ∨ (s' = ⟨some ⟨w.heap.size, 0, none⟩, s.n, s.n⟩ ∧ Blk w' w.heap.size T xs ∧ w'.heap.size = w.heap.size + 1))
theorem size_madeCells (z : Array Value) (n : Nat) : (madeCells z n).size = n := by simp [madeCells]
end Go.Proofs.YtfcccfplmdjndaaGreat
