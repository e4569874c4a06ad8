/- code: steps and programs as plain mathematics, and in memory. -/
import Derived.Test.YtpbkdokhlimpfaaDoorTrA
import Derived.Test.YtpbkdokhlimpfaaDoorSmall
import Derived.Deep.MidRow
namespace Go.Proofs.YtpbkdokhlimpfaaDoor
set_option linter.unusedSimpArgs false
set_option linter.unusedVariables false
open Go.RowKit

/-- A way. -/
structure WT where
  val : Nat
  to : Int
def WT.cells (x : WT) : List Value := [.int .u64 (x.val : Int), .int .i64 x.to]
def flatW (l : List WT) : List Value := l.flatMap WT.cells
theorem flatW_len (l : List WT) : (flatW l).length = l.length * 2 := flat_len (f := WT.cells) (fun _ => rfl) l
theorem flatW_get (l : List WT) (j i : Nat) (hj : j < l.length) (hi : i < 2) : (flatW l)[j * 2 + i]? = (l[j]).cells[i]? := flat_get (f := WT.cells) (fun _ => rfl) l j i hj hi
/-- A step, and where its ways lie. -/
structure ST where
  k : Int
  a : Int
  b : Int
  fl : Bool
  mn : Nat
  mx : Nat
  mu : Nat
  ad : Nat
  ws : List WT
  bs : List UInt8
  W : SV
def ST.low (x : ST) : List Value := [.int .i64 x.k, .int .i64 x.a, .int .i64 x.b, .bool x.fl, .int .u64 (x.mn : Int), .int .u64 (x.mx : Int), .int .u64 (x.mu : Int), .int .u64 (x.ad : Int), .slice x.W.A x.W.n x.W.c]
def ST.cells (x : ST) : List Value := x.low ++ x.bs.map isB
def ST.val (x : ST) : Value := .agg x.cells.toArray
/-- What a step's parts are. -/
structure StOk (w : World) (P : Nat → Prop) (x : ST) : Prop where
  wn : x.W.n = x.ws.length
  wr : Rw w P x.W (flatW x.ws)
  bl : x.bs.length = 256
theorem StOk.len {w : World} {P : Nat → Prop} {x : ST} (h : StOk w P x) : x.cells.length = 265 := by
  unfold ST.cells
  rw [List.length_append, List.length_map, h.bl]
  rfl
theorem StOk.mono {w w' : World} {P Q : Nat → Prop} {x : ST} (h : StOk w P x) (hb : ∀ b, P b → b < w.heap.size → w'.heap[b]? = w.heap[b]?) (hs : w.heap.size ≤ w'.heap.size) (hPQ : ∀ b, P b → b < w.heap.size → Q b) : StOk w' Q x :=
  ⟨h.wn, h.wr.mono hb hs hPQ, h.bl⟩
theorem StOk.keep {w w' : World} {P : Nat → Prop} {x : ST} (h : StOk w P x) (hb : Below w.heap.size w w') : StOk w' P x :=
  h.mono (fun b _ hl => hb.block b hl) hb.size (fun _ h _ => h)
theorem st_ones (x : ST) : ∀ u ∈ x.cells, u.oneCell' = true := by
  intro u hu
  unfold ST.cells at hu
  rcases List.mem_append.1 hu with h | h
  · simp only [ST.low, List.mem_cons, List.not_mem_nil, or_false] at h
    rcases h with rfl | rfl | rfl | rfl | rfl | rfl | rfl | rfl | rfl <;> rfl
  · exact one_isB _ u h
theorem st_one (x : ST) : x.cells.toArray.all (·.oneCell') = true := by
  have := st_ones x
  simpa using this
theorem st_size {w : World} {P : Nat → Prop} {x : ST} (h : StOk w P x) : (Tryd.prog.info? 37).map (·.size) = some x.cells.length := by
  rw [h.len]; kernel_rfl
theorem st_size' {w : World} {P : Nat → Prop} {x : ST} (h : StOk w P x) : (Tryd.prog.info? 37).map (·.size) = some x.cells.toArray.size := by
  rw [List.size_toArray]; exact st_size h
/-- Where a step lies. -/
def At (w : World) (b o : Nat) (x : ST) : Prop := w.rangeAt b o x.cells
structure Low (w : World) (b o : Nat) (x : ST) : Prop where
  c0 : w.cell? ⟨b, o, none⟩ = some (.int .i64 x.k)
  c1 : w.cell? ⟨b, o + 1, none⟩ = some (.int .i64 x.a)
  c2 : w.cell? ⟨b, o + 2, none⟩ = some (.int .i64 x.b)
  c4 : w.cell? ⟨b, o + 4, none⟩ = some (.int .u64 (x.mn : Int))
  c5 : w.cell? ⟨b, o + 5, none⟩ = some (.int .u64 (x.mx : Int))
  c8 : w.cell? ⟨b, o + 8, none⟩ = some (.slice x.W.A x.W.n x.W.c)
  by_ : w.rangeAt b (o + 9) (x.bs.map isB)
theorem At.low {w : World} {b o : Nat} {x : ST} (h : At w b o x) : Low w b o x := by
  have hc : ∀ i v, i < 9 → x.low[i]? = some v → w.cell? ⟨b, o + i, none⟩ = some v := fun i v hi hv => h i v (by
    unfold ST.cells
    rw [List.getElem?_append_left (by show i < 9; exact hi)]
    exact hv)
  refine ⟨hc 0 _ (by decide) rfl, hc 1 _ (by decide) rfl, hc 2 _ (by decide) rfl, hc 4 _ (by decide) rfl, hc 5 _ (by decide) rfl, hc 8 _ (by decide) rfl, fun j v hv => ?_⟩
  have := h (9 + j) v (by
    unfold ST.cells
    rw [List.getElem?_append_right (by show 9 ≤ 9 + j; omega)]
    rw [show 9 + j - x.low.length = j by show 9 + j - 9 = j; omega]
    exact hv)
  rw [show o + (9 + j) = o + 9 + j by omega] at this
  exact this
def flatS (l : List ST) : List Value := l.flatMap ST.cells
/-- A program, and where its steps lie. -/
structure PT where
  ss : List ST
  S : SV
  sl : Int
  su : Int
  au : Int
def PT.cells (p : PT) : List Value := [.slice p.S.A p.S.n p.S.c, .int .i64 p.sl, .int .i64 p.su, .int .i64 p.au]
def PT.val (p : PT) : Value := .agg #[.slice p.S.A p.S.n p.S.c, .int .i64 p.sl, .int .i64 p.su, .int .i64 p.au]
structure PtOk (w : World) (P : Nat → Prop) (p : PT) : Prop where
  n : p.S.n = p.ss.length
  r : Rw w P p.S (flatS p.ss)
  each : ∀ x ∈ p.ss, StOk w P x
theorem PtOk.mono {w w' : World} {P Q : Nat → Prop} {p : PT} (h : PtOk w P p) (hb : ∀ b, P b → b < w.heap.size → w'.heap[b]? = w.heap[b]?) (hs : w.heap.size ≤ w'.heap.size) (hPQ : ∀ b, P b → b < w.heap.size → Q b) : PtOk w' Q p :=
  ⟨h.n, h.r.mono hb hs hPQ, fun x hx => (h.each x hx).mono hb hs hPQ⟩
theorem PtOk.keep {w w' : World} {P : Nat → Prop} {p : PT} (h : PtOk w P p) (hb : Below w.heap.size w w') : PtOk w' P p :=
  h.mono (fun b _ hl => hb.block b hl) hb.size (fun _ h _ => h)
theorem flatS_len : ∀ {l : List ST}, (∀ x ∈ l, x.cells.length = 265) → (flatS l).length = l.length * 265
  | [], _ => rfl
  | x :: l, h => by
    unfold flatS
    rw [List.flatMap_cons, List.length_append, h x List.mem_cons_self]
    have := flatS_len (l := l) (fun x hx => h x (List.mem_cons_of_mem _ hx))
    unfold flatS at this
    rw [this, List.length_cons]
    omega
theorem flatS_get : ∀ {l : List ST}, (∀ x ∈ l, x.cells.length = 265) → ∀ (j i : Nat) (hj : j < l.length), i < 265 → (flatS l)[j * 265 + i]? = (l[j]).cells[i]?
  | [], _, j, i, hj, _ => by simp at hj
  | x :: l, h, 0, i, hj, hi => by
    unfold flatS
    rw [List.flatMap_cons, List.getElem?_append_left (by rw [h x List.mem_cons_self]; omega)]
    simp
  | x :: l, h, j + 1, i, hj, hi => by
    have hx := h x List.mem_cons_self
    unfold flatS
    rw [List.flatMap_cons, List.getElem?_append_right (by rw [hx]; omega), hx, show (j + 1) * 265 + i - 265 = j * 265 + i by omega]
    have := flatS_get (l := l) (fun x hx => h x (List.mem_cons_of_mem _ hx)) j i (by simpa using hj) hi
    unfold flatS at this
    rw [this]
    rfl
theorem PtOk.at {w : World} {P : Nat → Prop} {p : PT} (h : PtOk w P p) {j : Nat} (hj : j < p.ss.length) : ∃ b o, p.S.A = some ⟨b, o, none⟩ ∧ b < w.heap.size ∧ P b ∧ At w b (o + j * 265) p.ss[j] := by
  have hl : ∀ x ∈ p.ss, x.cells.length = 265 := fun x hx => (h.each x hx).len
  obtain ⟨b, o, e, hb, hP, hc⟩ := h.r.at (by rw [flatS_len hl]; omega)
  refine ⟨b, o, e, hb, hP, fun i u hu => ?_⟩
  have hi : i < 265 := by
    have := (List.getElem?_eq_some_iff.1 hu).1
    rwa [hl _ (List.getElem_mem hj)] at this
  rw [Nat.add_assoc, hc (j * 265 + i) (by rw [flatS_len hl]; omega), flatS_get hl j i hj hi, hu]
theorem At.keep {w w' : World} {b o : Nat} {x : ST} (h : At w b o x) (hb : w'.heap[b]? = w.heap[b]?) : At w' b o x := fun j v hv => by
  rw [World.cell?_of_block (w := w) (w' := w') (a := ⟨b, o + j, none⟩) hb]; exact h j v hv
theorem At.lt {w : World} {b o : Nat} {x : ST} (h : At w b o x) : b < w.heap.size := by
  have := h 0 (.int .i64 x.k) rfl
  simpa using World.block_lt_of_cell? _ _ this
def BoxP (w : World) (g : Nat) (p : PT) : Prop := Blk w g 24 p.cells
theorem BoxP.four {w : World} {g : Nat} {p : PT} (h : BoxP w g p) : w.cell? ⟨g, 0, none⟩ = some (.slice p.S.A p.S.n p.S.c) ∧ w.cell? ⟨g, 1, none⟩ = some (.int .i64 p.sl) ∧ w.cell? ⟨g, 2, none⟩ = some (.int .i64 p.su) ∧ w.cell? ⟨g, 3, none⟩ = some (.int .i64 p.au) :=
  ⟨Blk.at h 0, Blk.at h 1, Blk.at h 2, Blk.at h 3⟩
theorem box_prog (w : World) (p : PT) : Below w.heap.size w (w.alloc (.cells p.cells.toArray 24)) ∧ BoxP (w.alloc (.cells p.cells.toArray 24)) w.heap.size p :=
  ⟨(Below.refl _ _).alloc (Nat.le_refl _) _, heap_alloc_new w _⟩
theorem below_then' {W X Y : World} (h : Below W.heap.size W X) (h2 : Below X.heap.size X Y) : Below W.heap.size W Y := h.trans (h2.mono h.size)
theorem below_d0' (W : World) : Below W.heap.size W W.drew := ⟨rfl, rfl, rfl, Nat.le_refl _, fun _ _ => rfl⟩

/-! What a step may be. -/
def amg (i m : Int) : Bool := decide (0 ≤ i) && decide (i < m)
def numS (p : PT) (x : ST) : Bool := (decide (x.b = -1) || amg x.b p.sl) && decide (x.mn ≤ x.mx)
def frkS (p : PT) (x : ST) : Bool := x.ws.all (fun y => amg y.to p.ss.length) && decide (x.ws.length ≤ 255)
def pckS (x : ST) : Bool := x.bs.all (fun c => decide (c.toNat ≤ x.ws.length))
def mayS (p : PT) (x : ST) : Bool :=
  if x.k = 1 ∨ x.k = 2 ∨ x.k = 8 ∨ x.k = 16 ∨ x.k = 20 then true
  else if x.k = 3 then (decide (1 ≤ x.a) && decide (x.a ≤ 8)) && numS p x
  else if x.k = 4 then numS p x
  else if x.k = 5 then amg x.a p.au
  else if x.k = 6 ∨ x.k = 7 ∨ x.k = 9 then decide (x.a = -1) || amg x.a p.sl
  else if x.k = 10 ∨ x.k = 11 ∨ x.k = 12 ∨ x.k = 15 then amg x.a p.ss.length
  else if x.k = 17 ∨ x.k = 18 then amg x.a p.su
  else if x.k = 19 then amg x.a p.su && amg x.b p.sl
  else if x.k = 13 then (amg x.a p.sl && (decide (x.b = -1) || amg x.b p.ss.length)) && frkS p x
  else if x.k = 14 then frkS p x && pckS x
  else false
end Go.Proofs.YtpbkdokhlimpfaaDoor
