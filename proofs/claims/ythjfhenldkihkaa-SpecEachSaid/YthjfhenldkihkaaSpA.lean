/- spec: memory that may have changed; owned rows. -/
import Derived.Test.YthjfhenldkihkaaBase
import Derived.Laws.MakeOwn
import Derived.Laws.IdiomStrings
import Derived.Laws.OwnMore
import Derived.Deep.MidRow
import Derived.Laws.Rows
namespace Go.Proofs.Ythjfhenldkihkaa
set_option linter.unusedSimpArgs false
set_option linter.unusedVariables false
open Go.RowKit

/-- Of old memory only the blocks of S may have changed. -/
structure Chg (w w' : World) (S : Nat → Prop) : Prop where
  os : w'.os = w.os
  tape : w'.tape = w.tape
  output : w'.output = w.output
  size : w.heap.size ≤ w'.heap.size
  block : ∀ k, k < w.heap.size → ¬ S k → w'.heap[k]? = w.heap[k]?

section
variable {a b c : World} {S T : Nat → Prop}
theorem Chg.refl (w : World) (S : Nat → Prop) : Chg w w S := ⟨rfl, rfl, rfl, Nat.le_refl _, fun _ _ _ => rfl⟩
theorem Chg.trans (h : Chg a b S) (k : Chg b c S) : Chg a c S :=
  ⟨k.os.trans h.os, k.tape.trans h.tape, k.output.trans h.output, Nat.le_trans h.size k.size, fun i hi hn => (k.block i (Nat.lt_of_lt_of_le hi h.size) hn).trans (h.block i hi hn)⟩
theorem Chg.more (h : Chg a b S) (hs : ∀ k, k < a.heap.size → S k → T k) : Chg a b T := ⟨h.os, h.tape, h.output, h.size, fun i hi hn => h.block i hi (fun hh => hn (hs i hi hh))⟩
theorem Chg.of_grown {row : Option Nat} (h : a.grownBy b row) : Chg a b (fun k => row = some k) := ⟨h.os, h.tape, h.output, h.size, fun i hi hn => h.block i hi (fun e => hn e.symm)⟩
theorem Chg.of_below (h : Below a.heap.size a b) (S : Nat → Prop) : Chg a b S := ⟨h.os, h.tape, h.output, h.size, fun i hi _ => h.block i hi⟩
theorem Chg.below {B : Nat} {w : World} (h : Below B w a) (k : Chg a b S) (hB : B ≤ a.heap.size) (hS : ∀ j, S j → B ≤ j) : Below B w b :=
  h.trans ⟨k.os, k.tape, k.output, k.size, fun i hi => k.block i (by omega) (fun hs => by have := hS i hs; omega)⟩
theorem Chg.drewN (h : Chg a b S) (n : Nat) : Chg a (b.drewN n) S := ⟨h.os, h.tape, h.output, h.size, h.block⟩
theorem Chg.set (h : Chg a b S) (p i : Nat) (hp : S p) (u : Value) : Chg a (b.setCell ⟨p, i, none⟩ u) S :=
  h.trans ⟨rfl, rfl, rfl, by simp [World.setCell], fun j _ hn => Below.heap_setCell b ⟨p, i, none⟩ u j (fun e => hn (by rw [e]; exact hp))⟩
theorem Blk.chg {g : Nat} {t : TypeId} {cs : List Value} (h : Blk a g t cs) (hc : Chg a b S) (hg : ¬ S g) : Blk b g t cs := (hc.block g h.lt hg).trans h
theorem RdB.chg {A : Option Addr} {n : Nat} {l : List UInt8} (h : RdB a A n l) (hc : Chg a b S) (hA : 0 < n → ∀ x, A = some x → ¬ S x.block) : RdB b A n l := by
  refine ⟨h.1, fun hn => ?_⟩
  obtain ⟨g, o, e, hb, hcell⟩ := h.2 hn
  exact ⟨g, o, e, Nat.lt_of_lt_of_le hb hc.size, fun j hj => (World.cell?_of_block (w := a) (w' := b) (a := ⟨g, o + j, none⟩) (hc.block g hb (hA hn _ e))).trans (hcell j hj)⟩
theorem owns_chg {base : Nat} {e : TypeId} {size : Nat} {v : Value} {n : Nat} {xs : List Value} (h : a.ownsRow base e size v n xs) (hc : Chg a b S) (hv : ∀ k, v.ownBlock = some k → ¬ S k) : b.ownsRow base e size v n xs := by
  refine ⟨h.1, ?_⟩
  rcases h.2 with hn | ⟨g, cap, cur, rfl, hb, hg, r⟩
  · exact .inl hn
  · refine .inr ⟨g, cap, cur, rfl, hb, ?_, r⟩
    rw [hc.block g (Array.getElem?_eq_some_iff.1 hg).1 (hv g rfl)]
    exact hg
end

theorem addr_add (b o j : Nat) : (⟨b, o, none⟩ : Addr).add j = ⟨b, o + j, none⟩ := by
  unfold Addr.add
  split
  · subst_vars; rfl
  · rfl


theorem own_ne {w : World} {base g sz : Nat} {t e : TypeId} {v : Value} {n : Nat} {xs cs : List Value} (h : w.ownsRow base e sz v n xs) (hg : Blk w g t cs) (hne : e ≠ t) : v.ownBlock ≠ some g := by
  rcases h.2 with ⟨rfl, _⟩ | ⟨g', cap, cur, rfl, _, hh, _⟩
  · simp [Value.ownBlock]
  · intro he
    have : g' = g := by simpa [Value.ownBlock] using he
    subst this
    unfold Blk at hg
    rw [hg] at hh
    injection hh with hh
    injection hh with _ ht
    exact hne ht.symm


/-- A block that was laid and then written: all that was there is as it was. -/
theorem below_fresh {w w2 : World} {o : Obj} (h : (w.alloc o).grownBy w2 (some w.heap.size)) : Below w.heap.size w w2 :=
  ((Below.refl _ _).alloc (Nat.le_refl _) o).grown h (by simp) (fun k hk => by injection hk with hk; omega)


theorem owns_keep {w w' : World} {base : Nat} {e : TypeId} {size : Nat} {v : Value} {n : Nat} {xs : List Value} (h : w.ownsRow base e size v n xs) (hb : ∀ b, base ≤ b → b < w.heap.size → w'.heap[b]? = w.heap[b]?) : w'.ownsRow base e size v n xs := by
  refine ⟨h.1, ?_⟩
  rcases h.2 with hn | ⟨g', cap, cur, rfl, hb', hg', r⟩
  · exact .inl hn
  · exact .inr ⟨g', cap, cur, rfl, hb', (hb g' hb' (Array.getElem?_eq_some_iff.1 hg').1).trans hg', r⟩

theorem owns_block {w : World} {base : Nat} {e : TypeId} {size : Nat} {v : Value} {n : Nat} {xs : List Value} (h : w.ownsRow base e size v n xs) : ∀ b, v.ownBlock = some b → base ≤ b ∧ b < w.heap.size := by
  intro b hb
  rcases h.2 with ⟨rfl, _⟩ | ⟨g', cap, cur, rfl, hb', hg', _⟩
  · cases hb
  · injection hb with hb
    subst hb
    exact ⟨hb', (Array.getElem?_eq_some_iff.1 hg').1⟩

theorem owns_shape {w : World} {base : Nat} {e : TypeId} {size : Nat} {v : Value} {n : Nat} {xs : List Value} (h : w.ownsRow base e size v n xs) : ∃ A c, v = .slice A n c := by
  rcases h.2 with ⟨rfl, hn⟩ | ⟨g', cap, cur, rfl, _⟩
  · exact ⟨none, 0, by rw [hn]⟩
  · exact ⟨_, cap, rfl⟩

theorem owns_base {w : World} {base base' : Nat} {e : TypeId} {size : Nat} {v : Value} {n : Nat} {xs : List Value} (h : w.ownsRow base e size v n xs) (hb : base' ≤ base) : w.ownsRow base' e size v n xs := by
  refine ⟨h.1, ?_⟩
  rcases h.2 with hn | ⟨g', cap, cur, rfl, hb', r⟩
  · exact .inl hn
  · exact .inr ⟨g', cap, cur, rfl, Nat.le_trans hb hb', r⟩

theorem below_row {B g : Nat} {a w : World} (h : Below B a w) (hg : B ≤ g) (cs : Array Value) : Below B a (w.setRow g cs) :=
  ⟨h.os, h.tape, h.output, by have := h.size; simpa [World.setRow] using this, fun k hk => (setRow_other w g k cs (by omega)).trans (h.block k hk)⟩
end Go.Proofs.Ythjfhenldkihkaa

/- spec: types, names and specifications as data. -/
namespace Go.Proofs.Ythjfhenldkihkaa
set_option linter.unusedSimpArgs false
set_option linter.unusedVariables false
open Go.RowKit

/-- A slice's value. -/
structure SV where
  A : Option Addr
  n : Nat
  c : Nat
def SV.val (s : SV) : Value := .slice s.A s.n s.c
def SV.nil : SV := ⟨none, 0, 0⟩
structure FT where
  nm : ByteArray
  ty : Int
  dv : Int
  o : ByteArray
  to : ByteArray
def FT.cells (f : FT) : List Value := [.string f.nm, .int .i64 f.ty, .int .i64 f.dv, .string f.o, .string f.to]
structure CT where
  v : Nat
  ty : Int
def CT.cells (x : CT) : List Value := [.int .u64 (x.v : Int), .int .i64 x.ty]
structure DT where
  nm : ByteArray
  ty : Int
def DT.cells (x : DT) : List Value := [.string x.nm, .int .i64 x.ty]
/-- A type. -/
structure NT where
  k : Int
  wd : Int
  li : Bool
  zg : Bool
  le : Bool
  mn : Nat
  mx : Nat
  tx : ByteArray
  er : ByteArray
  mu : Nat
  ad : Nat
  ks : List Int
  ls : List Bool
  fs : List FT
  rg : ByteArray
  md : Nat
  cs : List CT
  el : Int
/-- A type's value: itself, and the slices of its lists. -/
structure NV where
  t : NT
  K : SV
  L : SV
  F : SV
  C : SV
def NV.cells (x : NV) : List Value := [.int .i64 x.t.k, .int .i64 x.t.wd, .bool x.t.li, .bool x.t.zg, .bool x.t.le, .int .u64 (x.t.mn : Int), .int .u64 (x.t.mx : Int), .string x.t.tx, .string x.t.er, .int .u64 (x.t.mu : Int), .int .u64 (x.t.ad : Int), .slice x.K.A x.K.n x.K.c, .slice x.L.A x.L.n x.L.c, .slice x.F.A x.F.n x.F.c, .string x.t.rg, .int .u64 (x.t.md : Int), .slice x.C.A x.C.n x.C.c, .int .i64 x.t.el]
def NV.val (x : NV) : Value := .agg #[.int .i64 x.t.k, .int .i64 x.t.wd, .bool x.t.li, .bool x.t.zg, .bool x.t.le, .int .u64 (x.t.mn : Int), .int .u64 (x.t.mx : Int), .string x.t.tx, .string x.t.er, .int .u64 (x.t.mu : Int), .int .u64 (x.t.ad : Int), .slice x.K.A x.K.n x.K.c, .slice x.L.A x.L.n x.L.c, .slice x.F.A x.F.n x.F.c, .string x.t.rg, .int .u64 (x.t.md : Int), .slice x.C.A x.C.n x.C.c, .int .i64 x.t.el]
theorem NV.val_eq (x : NV) : x.val = .agg x.cells.toArray := rfl
theorem NV.len (x : NV) : x.cells.length = 18 := rfl
theorem nv_one (x : NV) : x.cells.toArray.all (·.oneCell') = true := by simp [NV.cells, Value.oneCell']
theorem nv_ones (x : NV) : ∀ u ∈ x.cells, u.oneCell' = true := by
  have := nv_one x
  simpa using this
def intC (l : List Int) : List Value := l.map (Value.int .i64)
def boolC (l : List Bool) : List Value := l.map Value.bool
def flatF (l : List FT) : List Value := l.flatMap FT.cells
def flatC (l : List CT) : List Value := l.flatMap CT.cells
def flatD (l : List DT) : List Value := l.flatMap DT.cells
def flatN (l : List NV) : List Value := l.flatMap NV.cells

section
variable {α : Type} {f : α → List Value} {m : Nat}
theorem flat_len (h : ∀ x, (f x).length = m) (l : List α) : (l.flatMap f).length = l.length * m := by
  induction l with
  | nil => simp
  | cons x l ih => rw [List.flatMap_cons, List.length_append, ih, h, List.length_cons, Nat.succ_mul, Nat.add_comm]
theorem flat_get (h : ∀ x, (f x).length = m) (l : List α) (j i : Nat) (hj : j < l.length) (hi : i < m) : (l.flatMap f)[j * m + i]? = (f l[j])[i]? := by
  induction l generalizing j with
  | nil => simp at hj
  | cons x l ih =>
    rw [List.flatMap_cons]
    cases j with
    | zero => rw [Nat.zero_mul, Nat.zero_add, List.getElem?_append_left (by rw [h]; exact hi)]; rfl
    | succ j =>
      rw [List.getElem?_append_right (by rw [h, Nat.succ_mul]; omega), h, show (j + 1) * m + i - m = j * m + i by rw [Nat.succ_mul]; omega, ih j (by simpa using hj)]
      rfl
end
theorem flatF_len (l : List FT) : (flatF l).length = l.length * 5 := flat_len (f := FT.cells) (fun _ => rfl) l
theorem flatC_len (l : List CT) : (flatC l).length = l.length * 2 := flat_len (f := CT.cells) (fun _ => rfl) l
theorem flatD_len (l : List DT) : (flatD l).length = l.length * 2 := flat_len (f := DT.cells) (fun _ => rfl) l
theorem flatN_len (l : List NV) : (flatN l).length = l.length * 18 := flat_len (f := NV.cells) (fun _ => rfl) l
theorem intC_len (l : List Int) : (intC l).length = l.length := by simp [intC]
theorem boolC_len (l : List Bool) : (boolC l).length = l.length := by simp [boolC]
theorem ones_int (l : List Int) : ∀ u ∈ intC l, u.oneCell' = true := by
  intro u hu
  obtain ⟨c, _, rfl⟩ := List.mem_map.1 hu
  rfl
theorem ones_bool (l : List Bool) : ∀ u ∈ boolC l, u.oneCell' = true := by
  intro u hu
  obtain ⟨c, _, rfl⟩ := List.mem_map.1 hu
  rfl
theorem ones_F (l : List FT) : ∀ u ∈ flatF l, u.oneCell' = true := by
  intro u hu
  obtain ⟨c, _, hu⟩ := List.mem_flatMap.1 hu
  simp only [FT.cells, List.mem_cons, List.not_mem_nil, or_false] at hu
  rcases hu with rfl | rfl | rfl | rfl | rfl <;> rfl
theorem ones_C (l : List CT) : ∀ u ∈ flatC l, u.oneCell' = true := by
  intro u hu
  obtain ⟨c, _, hu⟩ := List.mem_flatMap.1 hu
  simp only [CT.cells, List.mem_cons, List.not_mem_nil, or_false] at hu
  rcases hu with rfl | rfl <;> rfl
theorem ones_D (l : List DT) : ∀ u ∈ flatD l, u.oneCell' = true := by
  intro u hu
  obtain ⟨c, _, hu⟩ := List.mem_flatMap.1 hu
  simp only [DT.cells, List.mem_cons, List.not_mem_nil, or_false] at hu
  rcases hu with rfl | rfl <;> rfl
theorem ones_N (l : List NV) : ∀ u ∈ flatN l, u.oneCell' = true := by
  intro u hu
  obtain ⟨c, _, hu⟩ := List.mem_flatMap.1 hu
  exact nv_ones c u hu

/-- A slice that reads as these cells, in a block of which P holds. -/
def Rw (w : World) (P : Nat → Prop) (s : SV) (xs : List Value) : Prop :=
  (s.A = none → xs = []) ∧ (0 < xs.length → ∃ b o, s.A = some ⟨b, o, none⟩ ∧ b < w.heap.size ∧ P b ∧ ∀ j (h : j < xs.length), w.cell? ⟨b, o + j, none⟩ = some xs[j])
theorem Rw.nil (w : World) (P : Nat → Prop) (s : SV) : Rw w P s [] := ⟨fun _ => rfl, fun h => absurd h (by simp)⟩
theorem Rw.mono {w w' : World} {P Q : Nat → Prop} {s : SV} {xs : List Value} (h : Rw w P s xs) (hb : ∀ b, P b → b < w.heap.size → w'.heap[b]? = w.heap[b]?) (hs : w.heap.size ≤ w'.heap.size) (hPQ : ∀ b, P b → b < w.heap.size → Q b) : Rw w' Q s xs := by
  refine ⟨h.1, fun hx => ?_⟩
  obtain ⟨b, o, hA, hlt, hP, hc⟩ := h.2 hx
  exact ⟨b, o, hA, Nat.lt_of_lt_of_le hlt hs, hPQ b hP hlt, fun j hj => by rw [World.cell?_of_block (hb b hP hlt)]; exact hc j hj⟩
theorem Rw.keep {w w' : World} {P : Nat → Prop} {s : SV} {xs : List Value} (h : Rw w P s xs) (hb : Below w.heap.size w w') : Rw w' P s xs :=
  h.mono (fun b _ hl => hb.block b hl) hb.size (fun _ h _ => h)
theorem Rw.at {w : World} {P : Nat → Prop} {s : SV} {xs : List Value} (h : Rw w P s xs) (hx : 0 < xs.length) : ∃ b o, s.A = some ⟨b, o, none⟩ ∧ b < w.heap.size ∧ P b ∧ ∀ j, j < xs.length → w.cell? ⟨b, o + j, none⟩ = xs[j]? := by
  obtain ⟨b, o, hA, hlt, hP, hc⟩ := h.2 hx
  exact ⟨b, o, hA, hlt, hP, fun j hj => by rw [hc j hj, List.getElem?_eq_getElem hj]⟩
theorem Rw.src {w : World} {P : Nat → Prop} {s : SV} {xs : List Value} (h : Rw w P s xs) (hx : 0 < xs.length) : ∃ ad, s.A = some ad ∧ ∀ j v, xs[j]? = some v → w.cell? (ad.add j) = some v := by
  obtain ⟨b, o, hA, hlt, hP, hc⟩ := h.2 hx
  refine ⟨_, hA, fun j v hv => ?_⟩
  obtain ⟨hj, rfl⟩ := List.getElem?_eq_some_iff.1 hv
  rw [addr_add]
  exact hc j hj
/-- A type's lists in memory. -/
structure NodeOk (w : World) (P : Nat → Prop) (x : NV) : Prop where
  kn : x.K.n = x.t.ks.length
  ln : x.L.n = x.t.ls.length
  fn : x.F.n = x.t.fs.length
  cn : x.C.n = x.t.cs.length
  k : Rw w P x.K (intC x.t.ks)
  l : Rw w P x.L (boolC x.t.ls)
  f : Rw w P x.F (flatF x.t.fs)
  c : Rw w P x.C (flatC x.t.cs)
theorem NodeOk.mono {w w' : World} {P Q : Nat → Prop} {x : NV} (h : NodeOk w P x) (hb : ∀ b, P b → b < w.heap.size → w'.heap[b]? = w.heap[b]?) (hs : w.heap.size ≤ w'.heap.size) (hPQ : ∀ b, P b → b < w.heap.size → Q b) : NodeOk w' Q x :=
  ⟨h.kn, h.ln, h.fn, h.cn, h.k.mono hb hs hPQ, h.l.mono hb hs hPQ, h.f.mono hb hs hPQ, h.c.mono hb hs hPQ⟩
theorem NodeOk.keep {w w' : World} {P : Nat → Prop} {x : NV} (h : NodeOk w P x) (hb : Below w.heap.size w w') : NodeOk w' P x :=
  h.mono (fun b _ hl => hb.block b hl) hb.size (fun _ h _ => h)
/-- A specification's value. -/
structure SpV where
  vs : List NV
  ds : List DT
  N : SV
  D : SV
def SpV.cells (x : SpV) : List Value := [.slice x.N.A x.N.n x.N.c, .slice x.D.A x.D.n x.D.c]
def SpV.val (x : SpV) : Value := .agg #[.slice x.N.A x.N.n x.N.c, .slice x.D.A x.D.n x.D.c]
def SpV.ts (x : SpV) : List NT := x.vs.map NV.t
structure SpecOk (w : World) (P : Nat → Prop) (x : SpV) : Prop where
  nn : x.N.n = x.vs.length
  dn : x.D.n = x.ds.length
  n : Rw w P x.N (flatN x.vs)
  d : Rw w P x.D (flatD x.ds)
  each : ∀ v ∈ x.vs, NodeOk w P v
theorem SpecOk.mono {w w' : World} {P Q : Nat → Prop} {x : SpV} (h : SpecOk w P x) (hb : ∀ b, P b → b < w.heap.size → w'.heap[b]? = w.heap[b]?) (hs : w.heap.size ≤ w'.heap.size) (hPQ : ∀ b, P b → b < w.heap.size → Q b) : SpecOk w' Q x :=
  ⟨h.nn, h.dn, h.n.mono hb hs hPQ, h.d.mono hb hs hPQ, fun v hv => (h.each v hv).mono hb hs hPQ⟩
theorem SpecOk.keep {w w' : World} {P : Nat → Prop} {x : SpV} (h : SpecOk w P x) (hb : Below w.heap.size w w') : SpecOk w' P x :=
  h.mono (fun b _ hl => hb.block b hl) hb.size (fun _ h _ => h)

theorem nv_size (x : NV) : (Try.prog.info? 49).map (·.size) = some x.cells.toArray.size := by
  rw [show x.cells.toArray.size = 18 from rfl]; kernel_rfl
theorem info_node : (Try.prog.info? 49).map (fun i => (i.size, i.bytes)) = some (18, 216) := by kernel_rfl
theorem info_int : (Try.prog.info? 3).map (fun i => (i.zero, i.size, i.bytes)) = some (some (.int .i64 0), 1, 8) := by kernel_rfl
theorem info_bool : (Try.prog.info? 4).map (fun i => (i.zero, i.size, i.bytes)) = some (some (.bool false), 1, 1) := by kernel_rfl
theorem info_field : (Try.prog.info? 51).map (fun i => (i.zero, i.size, i.bytes)) = some (some (.agg #[.string ⟨#[]⟩, .int .i64 0, .int .i64 0, .string ⟨#[]⟩, .string ⟨#[]⟩]), 5, 64) := by kernel_rfl
theorem info_case : (Try.prog.info? 81).map (fun i => (i.zero, i.size, i.bytes)) = some (some (.agg #[.int .u64 0, .int .i64 0]), 2, 16) := by kernel_rfl
theorem info_def : (Try.prog.info? 32).map (fun i => (i.zero, i.size, i.bytes)) = some (some (.agg #[.string ⟨#[]⟩, .int .i64 0]), 2, 24) := by kernel_rfl
end Go.Proofs.Ythjfhenldkihkaa
