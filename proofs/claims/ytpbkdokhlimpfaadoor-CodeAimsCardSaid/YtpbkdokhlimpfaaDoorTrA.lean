/- tree: owned rows, slices that read as some cells, a list copied. -/
import Derived.Test.YtpbkdokhlimpfaaDoorMem
import Derived.Laws.MakeOwn
import Derived.Laws.IdiomStrings
import Derived.Laws.OwnMore
import Derived.Deep.MidRow
import Derived.Laws.Rows
import Derived.Deep.Cut
import Derived.Deep.RegionHeld3
import Derived.Deep.RegionWith
import Derived.OwnWalk
namespace Go.Proofs.YtpbkdokhlimpfaaDoor
set_option linter.unusedSimpArgs false
set_option linter.unusedVariables false
open Go.RowKit

theorem own_neN {w : World} {base g sz : Nat} {t e : TypeId} {v : Value} {n : Nat} {xs cs : List Value} (h : w.ownsRow base e sz v n xs) (hg : Blk w g t cs) (hne : e ≠ t) : v.ownBlock ≠ some g := by
  rcases h.2 with ⟨rfl, _⟩ | ⟨g', cap, cur, rfl, _, hh, _⟩
  · simp [Value.ownBlock]
  · intro he
    have : g' = g := by simpa [Value.ownBlock] using he
    subst this
    unfold Blk at hg
    rw [hg] at hh
    injection hh with hh
    injection hh with _ ht
    exact hne ht.symm


theorem owns_keep {w w' : World} {base : Nat} {e : TypeId} {size : Nat} {v : Value} {n : Nat} {xs : List Value} (h : w.ownsRow base e size v n xs) (hb : ∀ b, base ≤ b → b < w.heap.size → w'.heap[b]? = w.heap[b]?) : w'.ownsRow base e size v n xs := by
  refine ⟨h.1, ?_⟩
  rcases h.2 with hn | ⟨g', cap, cur, rfl, hb', hg', r⟩
  · exact .inl hn
  · exact .inr ⟨g', cap, cur, rfl, hb', (hb g' hb' (Array.getElem?_eq_some_iff.1 hg').1).trans hg', r⟩

theorem owns_block {w : World} {base : Nat} {e : TypeId} {size : Nat} {v : Value} {n : Nat} {xs : List Value} (h : w.ownsRow base e size v n xs) : ∀ b, v.ownBlock = some b → base ≤ b ∧ b < w.heap.size := by
  intro b hb
  rcases h.2 with ⟨rfl, _⟩ | ⟨g', cap, cur, rfl, hb', hg', _⟩
  · cases hb
  · injection hb with hb
    subst hb
    exact ⟨hb', (Array.getElem?_eq_some_iff.1 hg').1⟩

theorem owns_shape {w : World} {base : Nat} {e : TypeId} {size : Nat} {v : Value} {n : Nat} {xs : List Value} (h : w.ownsRow base e size v n xs) : ∃ A c, v = .slice A n c := by
  rcases h.2 with ⟨rfl, hn⟩ | ⟨g', cap, cur, rfl, _⟩
  · exact ⟨none, 0, by rw [hn]⟩
  · exact ⟨_, cap, rfl⟩

theorem owns_base {w : World} {base base' : Nat} {e : TypeId} {size : Nat} {v : Value} {n : Nat} {xs : List Value} (h : w.ownsRow base e size v n xs) (hb : base' ≤ base) : w.ownsRow base' e size v n xs := by
  refine ⟨h.1, ?_⟩
  rcases h.2 with hn | ⟨g', cap, cur, rfl, hb', r⟩
  · exact .inl hn
  · exact .inr ⟨g', cap, cur, rfl, Nat.le_trans hb hb', r⟩

theorem below_row {B g : Nat} {a w : World} (h : Below B a w) (hg : B ≤ g) (cs : Array Value) : Below B a (w.setRow g cs) :=
  ⟨h.os, h.tape, h.output, by have := h.size; simpa [World.setRow] using this, fun k hk => (setRow_other w g k cs (by omega)).trans (h.block k hk)⟩
/-- A slice's value. -/
structure SV where
  A : Option Addr
  n : Nat
  c : Nat
def SV.val (s : SV) : Value := .slice s.A s.n s.c
def SV.nil : SV := ⟨none, 0, 0⟩
section
variable {α : Type} {f : α → List Value} {m : Nat}
theorem flat_len (h : ∀ x, (f x).length = m) (l : List α) : (l.flatMap f).length = l.length * m := by
  induction l with
  | nil => simp
  | cons x l ih => rw [List.flatMap_cons, List.length_append, ih, h, List.length_cons, Nat.succ_mul, Nat.add_comm]
theorem flat_get (h : ∀ x, (f x).length = m) (l : List α) (j i : Nat) (hj : j < l.length) (hi : i < m) : (l.flatMap f)[j * m + i]? = (f l[j])[i]? := by
  induction l generalizing j with
  | nil => simp at hj
  | cons x l ih =>
    rw [List.flatMap_cons]
    cases j with
    | zero => rw [Nat.zero_mul, Nat.zero_add, List.getElem?_append_left (by rw [h]; exact hi)]; rfl
    | succ j =>
      rw [List.getElem?_append_right (by rw [h, Nat.succ_mul]; omega), h, show (j + 1) * m + i - m = j * m + i by rw [Nat.succ_mul]; omega, ih j (by simpa using hj)]
      rfl
end
/-- A slice that reads as these cells, in a block of which P holds. -/
def Rw (w : World) (P : Nat → Prop) (s : SV) (xs : List Value) : Prop :=
  (s.A = none → xs = []) ∧ (0 < xs.length → ∃ b o, s.A = some ⟨b, o, none⟩ ∧ b < w.heap.size ∧ P b ∧ ∀ j (h : j < xs.length), w.cell? ⟨b, o + j, none⟩ = some xs[j])
theorem Rw.nil (w : World) (P : Nat → Prop) (s : SV) : Rw w P s [] := ⟨fun _ => rfl, fun h => absurd h (by simp)⟩
theorem Rw.mono {w w' : World} {P Q : Nat → Prop} {s : SV} {xs : List Value} (h : Rw w P s xs) (hb : ∀ b, P b → b < w.heap.size → w'.heap[b]? = w.heap[b]?) (hs : w.heap.size ≤ w'.heap.size) (hPQ : ∀ b, P b → b < w.heap.size → Q b) : Rw w' Q s xs := by
  refine ⟨h.1, fun hx => ?_⟩
  obtain ⟨b, o, hA, hlt, hP, hc⟩ := h.2 hx
  exact ⟨b, o, hA, Nat.lt_of_lt_of_le hlt hs, hPQ b hP hlt, fun j hj => by rw [World.cell?_of_block (hb b hP hlt)]; exact hc j hj⟩
theorem Rw.keep {w w' : World} {P : Nat → Prop} {s : SV} {xs : List Value} (h : Rw w P s xs) (hb : Below w.heap.size w w') : Rw w' P s xs :=
  h.mono (fun b _ hl => hb.block b hl) hb.size (fun _ h _ => h)
theorem Rw.at {w : World} {P : Nat → Prop} {s : SV} {xs : List Value} (h : Rw w P s xs) (hx : 0 < xs.length) : ∃ b o, s.A = some ⟨b, o, none⟩ ∧ b < w.heap.size ∧ P b ∧ ∀ j, j < xs.length → w.cell? ⟨b, o + j, none⟩ = xs[j]? := by
  obtain ⟨b, o, hA, hlt, hP, hc⟩ := h.2 hx
  exact ⟨b, o, hA, hlt, hP, fun j hj => by rw [hc j hj, List.getElem?_eq_getElem hj]⟩
theorem Rw.src {w : World} {P : Nat → Prop} {s : SV} {xs : List Value} (h : Rw w P s xs) (hx : 0 < xs.length) : ∃ ad, s.A = some ad ∧ ∀ j v, xs[j]? = some v → w.cell? (ad.add j) = some v := by
  obtain ⟨b, o, hA, hlt, hP, hc⟩ := h.2 hx
  refine ⟨_, hA, fun j v hv => ?_⟩
  obtain ⟨hj, rfl⟩ := List.getElem?_eq_some_iff.1 hv
  rw [addr_add]
  exact hc j hj
theorem run_copy_rowN (P : Program) (w : World) (dT sT ty elem : TypeId) (sz g o dLen dCap : Nat) (a : Addr) (sLen sCap : Nat) (cur : Array Value) (t : TypeId) (cs : List Value)
    (hu : P.underlying dT = some (.slice elem)) (hs : (P.info? elem).map (·.size) = some sz)
    (hg : w.heap[g]? = some (.cells cur t (0, 0))) (hn : cs.length = Nat.min sLen dLen * sz)
    (hsrc : ∀ j v, cs[j]? = some v → w.cell? (a.add j) = some v) (hfit : o + cs.length ≤ cur.size) (h1 : ∀ v ∈ cs, v.oneCell' = true) :
    (Builtin.copy_ #[dT, sT] ty #[.slice (some ⟨g, o, none⟩) dLen dCap, .slice (some a) sLen sCap]).run P w =
      .ok (goInt (Nat.min sLen dLen)) (w.setRow g (cur.toList.take o ++ cs ++ cur.toList.drop (o + cs.length)).toArray) := by
  have hl := run_loadCells_list (P := P) w a cs hsrc
  have hst := run_storeCells_at P g o t cs 0 cur w hg (by simpa using hfit) h1
  cases hq : P.info? elem with
  | none => simp [hq] at hs
  | some i =>
    have hi : i.size = sz := by simpa [hq] using hs
    simp [Builtin.copy_, run_underlying hu, Builtin.lenOf, Builtin.firstCells, sizeOf, typeInfo, hq, hi, ← hn, hl, hst]
theorem run_copy_noneN (P : Program) (w : World) (dT sT ty elem : TypeId) (sz : Nat) (d a : Option Addr) (dCap sCap : Nat) (hu : P.underlying dT = some (.slice elem)) (hs : (P.info? elem).map (·.size) = some sz) :
    (Builtin.copy_ #[dT, sT] ty #[.slice d 0 dCap, .slice a 0 sCap]).run P w = .ok (goInt 0) w := by
  cases hq : P.info? elem with
  | none => simp [hq] at hs
  | some i =>
    rcases d with _ | d <;> rcases a with _ | a <;> simp_all [Builtin.copy_, run_underlying hu, Builtin.lenOf, Builtin.firstCells, sizeOf, typeInfo, storeCells, loadCells, loadCellsFrom]
theorem size_of_info {P : Program} {e : TypeId} {z : Value} {size bytes : Nat} (h : (P.info? e).map (fun i => (i.zero, i.size, i.bytes)) = some (some z, size, bytes)) : (P.info? e).map (·.size) = some size := by
  obtain ⟨i, hi, _, h2, _⟩ := info_parts h
  rw [hi, Option.map_some, h2]
/-- A whole copy into a new block. -/
theorem wpList_copyF {P : Program} {w : World} {ops : Array Oper} {rest : List Oper} {o : Oper} {a : Act} {Q : Exit → Act → World → Prop} (hgd : o.guard = none) (d s : Operand) (sT elem : TypeId)
    (ho : o.op = .call { callee := .builtin .copy, args := #[d, s], argTypes := #[sT, sT] }) (hu : P.underlying sT = some (.slice elem)) (sz : Nat) (hsz : (P.info? elem).map (·.size) = some sz)
    (g n c : Nat) (A : Option Addr) (hd : a.eval d = .slice (some ⟨g, 0, none⟩) n n) (hs : a.eval s = .slice A n c) (Pr : Nat → Prop) (xs : List Value) (hx : Rw w Pr ⟨A, n, c⟩ xs) (hn : n * sz = xs.length) (hz : 0 < sz)
    (cur : Array Value) (hg : w.heap[g]? = some (.cells cur elem (0, 0))) (hc : cur.size = n * sz) (h1 : ∀ v ∈ xs, v.oneCell' = true)
    (h : ∀ w', Hid (Blk w' g elem xs) → Hid (w.grownBy w' (some g)) → Hid (w'.heap.size = w.heap.size) → wpList P ops Q rest (a.put o.dst (goInt n)) w') :
    wpList P ops Q (o :: rest) a w := by
  refine wpList_plain hgd fun K hK => ?_
  have hmin : Nat.min n n = n := Nat.min_self n
  by_cases h0 : n = 0
  · subst h0
    have hx0 : xs = [] := List.eq_nil_of_length_eq_zero (by omega)
    subst hx0
    have hc0 : cur = #[] := Array.eq_empty_of_size_eq_zero (by omega)
    subst hc0
    have hrun := run_copy_noneN P w sT sT o.type elem sz (some ⟨g, 0, none⟩) A 0 c hu hsz
    unfold Oper.wp
    simp [execOp, ho, resolve, invoke, builtin, hd, hs, hrun, Result.andThen]
    exact hK _ _ (h w hg ⟨rfl, rfl, rfl, Nat.le_refl _, fun _ _ _ => rfl⟩ rfl)
  · have hpos : 0 < xs.length := by rw [← hn]; exact Nat.mul_pos (by omega) hz
    obtain ⟨ad, hA, hsrc⟩ := hx.src hpos
    simp only at hA
    subst hA
    have hrun := run_copy_rowN P w sT sT o.type elem sz g 0 n n ad n c cur elem xs hu hsz hg (by rw [hmin]; exact hn.symm) hsrc (by omega) h1
    rw [hmin] at hrun
    unfold Oper.wp
    simp [execOp, ho, resolve, invoke, builtin, hd, hs, hrun, Result.andThen]
    refine hK _ _ (h _ (hid ?_) (hid ⟨rfl, rfl, rfl, by simp [World.setRow], fun k hk hne => setRow_other w g k _ (fun e => hne (by rw [e]))⟩) (hid (by simp [World.setRow])))
    unfold Blk
    have := setRow_heap w g _ xs.toArray elem _ hg
    have e : cur.toList.drop xs.length = [] := List.drop_eq_nil_of_le (by simp; omega)
    rw [e]
    simpa using this
theorem run_eql_slice_nil {P : Program} (w : World) (t e : TypeId) (a : Option Addr) (l c : Nat) (h : P.underlying t = some (.slice e)) : (binOp .eql t (.slice a l c) (.slice none 0 0)).run P w = .ok (.bool a.isNone) w := by
  simp [binOp, run_equal_slice_nil w t e a l c h]
/-- What own answers: nothing of nothing, else a new block. -/
def OwnR (T : TypeId) (xs : List Value) (s : SV) (w : World) (e : Ending) (w' : World) : Prop :=
  ∃ s' : SV, e = .returned s'.val ∧ s'.n = s.n ∧ Below w.heap.size w w' ∧ ((s.A = none ∧ s' = SV.nil ∧ xs = []) ∨ (s' = ⟨some ⟨w.heap.size, 0, none⟩, s.n, s.n⟩ ∧ Blk w' w.heap.size T xs ∧ w'.heap.size = w.heap.size + 1))
theorem size_madeCells (z : Array Value) (n : Nat) : (madeCells z n).size = n := by simp [madeCells]
end Go.Proofs.YtpbkdokhlimpfaaDoor
