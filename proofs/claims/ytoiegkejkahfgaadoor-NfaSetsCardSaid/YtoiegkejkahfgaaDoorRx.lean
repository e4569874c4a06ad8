/- regex: what Parse does, as a function of the text. -/
import Derived.Test.YtoiegkejkahfgaaDoorOfR
import Derived.Test.YtoiegkejkahfgaaDoorInt
import Derived.Laws.Rows
namespace Go.Proofs.YtoiegkejkahfgaaDoor
set_option linter.unusedVariables false
set_option linter.unusedSimpArgs false

/-- The byte at a place; 0 behind the end. -/
def nx (l : List UInt8) (i : Nat) : Nat := (l.getD i 0).toNat
/-- An expression. -/
inductive RT where
  | nd (kind : Int) (set : BS) (kids : List RT) (lo hi : Int)
abbrev CR (α : Type) := Except (Nat × Nat) (α × Nat)
abbrev NR (α : Type) := Except (Nat × Nat) (α × Nat × Nat)

def rxSigns : ByteArray := ⟨#[47, 91, 93, 40, 41, 123, 125, 124, 42, 43, 63, 94, 34, 35, 45, 92]⟩
def rxHex : ByteArray := ⟨#[48, 49, 50, 51, 52, 53, 54, 55, 56, 57, 97, 98, 99, 100, 101, 102]⟩
def rxReps : ByteArray := ⟨#[42, 43, 63, 123]⟩
def isSign (c : Nat) : Bool := decide (0 ≤ firstIdx rxSigns c.toUInt8)
def isRep (c : Nat) : Bool := decide (0 ≤ firstIdx rxReps c.toUInt8)
def hexI (c : Nat) : Int := firstIdx rxHex c.toUInt8
def alnum (c : Nat) : Bool := (decide (48 ≤ c) && decide (c ≤ 57)) || ((decide (97 ≤ c) && decide (c ≤ 122)) || (decide (65 ≤ c) && decide (c ≤ 90)))
def hexP (r : List UInt8) : Nat × Nat :=
  if r.length < 3 then (0, 0) else if hexI (nx r 1) < 0 ∨ hexI (nx r 2) < 0 then (0, 0) else ((hexI (nx r 1)).toNat * 16 + (hexI (nx r 2)).toNat, 3)
def unesc (r : List UInt8) : Nat × Nat :=
  if r.length = 0 then (0, 0)
  else if nx r 0 = 110 then (10, 1)
  else if nx r 0 = 114 then (13, 1)
  else if nx r 0 = 116 then (9, 1)
  else if nx r 0 = 48 then (0, 1)
  else if nx r 0 = 120 then hexP r
  else if nx r 0 ≤ 32 ∨ 126 < nx r 0 ∨ alnum (nx r 0) = true then (0, 0) else (nx r 0, 1)
def pEsc (l : List UInt8) (i : Nat) : CR Nat := if (unesc (l.drop (i + 1))).2 = 0 then .error (5, i) else .ok ((unesc (l.drop (i + 1))).1, i + 1 + (unesc (l.drop (i + 1))).2)
def pChar (l : List UInt8) (i : Nat) : CR Nat :=
  if nx l i = 92 then pEsc l i else if nx l i < 32 ∨ 126 < nx l i ∨ isSign (nx l i) = true then .error (5, i) else .ok (nx l i, i + 1)
def pRun (l : List UInt8) (i : Nat) : CR (Nat × Nat) :=
  match pChar l i with
  | .error e => .error e
  | .ok (c, j) => if nx l j = 45 then (match pChar l (j + 1) with
    | .error e => .error e
    | .ok (d, k) => .ok ((c, d), k)) else .ok ((c, c), j)
def pBrL (l : List UInt8) (b : Nat) : Nat → BS → Nat → CR BS
  | 0, _, _ => .error (0, 0)
  | k + 1, s, i => if nx l i = 93 then .ok (s, i + 1) else match pRun l i with
    | .error e => .error e
    | .ok ((f, t), j) => if t < f then .error (1, b) else pBrL l b k (s ||| rng f t) j
def pBr (l : List UInt8) (i : Nat) : CR BS :=
  match pBrL l i (l.length + 1) (0#256) (if nx l (i + 1) = 94 then i + 2 else i + 1) with
  | .error e => .error e
  | .ok (s, j) => if (if nx l (i + 1) = 94 then ~~~s else s) = 0#256 then .error (160, i) else .ok (if nx l (i + 1) = 94 then ~~~s else s, j)
def pSet (l : List UInt8) (i : Nat) : CR BS :=
  if nx l i = 46 then .ok (~~~(0#256), i + 1) else if nx l i = 91 then pBr l i else match pChar l i with
    | .error e => .error e
    | .ok (c, j) => .ok (bit c, j)
def digEnd (l : List UInt8) : Nat → Nat → Nat
  | 0, i => i
  | k + 1, i => if 48 ≤ nx l i ∧ nx l i ≤ 57 then digEnd l k (i + 1) else i
def wrtB (d : List UInt8) : Bool := !d.isEmpty && (decide (d.length = 1) || decide (d.getD 0 0 ≠ 48))
/-- The digits from a place on. -/
def digs (l : List UInt8) (i : Nat) : List UInt8 := (l.drop i).take (digEnd l (l.length + 1) i - i)
def pNum (l : List UInt8) (i : Nat) : CR Nat :=
  if wrtB (digs l i) = false then .error (5, i) else if valL (digs l i) ≤ 256 then .ok (valL (digs l i), digEnd l (l.length + 1) i) else .error (1, i)
def pBounds (l : List UInt8) (i : Nat) : CR (Nat × Int) :=
  match pNum l i with
  | .error e => .error e
  | .ok (lo, j) =>
    if nx l j = 44 then
      if nx l (j + 1) = 125 then .ok ((lo, -1), j + 2)
      else match pNum l (j + 1) with
        | .error e => .error e
        | .ok (hi, k) => if hi < lo then .error (1, i) else if nx l k = 125 then .ok ((lo, (hi : Int)), k + 1) else .error (5, k)
    else if nx l j = 125 then .ok ((lo, (lo : Int)), j + 1) else .error (5, j)
def pTimes (l : List UInt8) (i : Nat) : CR (Nat × Int) :=
  if nx l i = 42 then .ok ((0, -1), i + 1) else if nx l i = 43 then .ok ((1, -1), i + 1) else if nx l i = 63 then .ok ((0, 1), i + 1) else pBounds l (i + 1)
def mkN (t : RT) (i nd : Nat) : NR RT := if nd + 1 ≤ 512 then .ok (t, i, nd + 1) else .error (2, i)
def joinN (kind : Int) (ks : List RT) (i nd : Nat) : NR RT :=
  match ks with
  | [t] => .ok (t, i, nd)
  | _ => mkN (.nd kind (0#256) ks 0 0) i nd
def pRepL (l : List UInt8) : Nat → RT → Nat → Nat → NR RT
  | 0, _, _, _ => .error (0, 0)
  | k + 1, t, i, nd => if isRep (nx l i) = true then (match pTimes l i with
    | .error e => .error e
    | .ok ((lo, hi), j) => match mkN (.nd 5 (0#256) [t] lo hi) j nd with
      | .error e => .error e
      | .ok (t', _, nd') => pRepL l k t' j nd') else .ok (t, i, nd)
def pOne (l : List UInt8) (E : Nat → Nat → NR RT) (i nd : Nat) : NR RT :=
  if nx l i = 40 then (match E (i + 1) nd with
    | .error e => .error e
    | .ok (t, j, nd') => if nx l j = 41 then .ok (t, j + 1, nd') else .error (5, j))
  else match pSet l i with
    | .error e => .error e
    | .ok (s, j) => mkN (.nd 2 s [] 0 0) j nd
def pRep (l : List UInt8) (E : Nat → Nat → NR RT) (i nd : Nat) : NR RT :=
  match pOne l E i nd with
  | .error e => .error e
  | .ok (t, j, nd') => pRepL l (l.length + 1) t j nd'
def pCatL (l : List UInt8) (E : Nat → Nat → NR RT) : Nat → List RT → Nat → Nat → NR RT
  | 0, _, _, _ => .error (0, 0)
  | k + 1, ks, i, nd => if i < l.length ∧ nx l i ≠ 124 ∧ nx l i ≠ 41 then (match pRep l E i nd with
      | .error e => .error e
      | .ok (t, j, nd') => pCatL l E k (ks ++ [t]) j nd')
    else if ks.isEmpty = true then mkN (.nd 1 (0#256) [] 0 0) i nd else joinN 3 ks i nd
def pEithL (l : List UInt8) (E : Nat → Nat → NR RT) : Nat → List RT → Nat → Nat → NR RT
  | 0, _, _, _ => .error (0, 0)
  | k + 1, ks, i, nd => match pCatL l E (l.length + 1) [] i nd with
    | .error e => .error e
    | .ok (t, j, nd') => if nx l j = 124 then pEithL l E k (ks ++ [t]) (j + 1) nd' else joinN 4 (ks ++ [t]) j nd'
def pEither (l : List UInt8) : Nat → Nat → Nat → NR RT
  | 0, i, _ => .error (6, i)
  | d + 1, i, nd => pEithL l (pEither l d) (l.length + 1) [] i nd
def pParse (l : List UInt8) : Except (Nat × Nat) RT :=
  if 512 < l.length then .error (2, 0) else match pEither l 33 0 0 with
    | .error e => .error e
    | .ok (t, i, _) => if i < l.length then .error (5, i) else .ok t

/-! What is read lies behind where it began, and within the text. -/
theorem nx_lt {l : List UInt8} {i : Nat} (h : nx l i ≠ 0) : i < l.length := by
  unfold nx at h
  rcases Nat.lt_or_ge i l.length with h1 | h1
  · exact h1
  · rw [List.getD_eq_getElem?_getD, List.getElem?_eq_none h1] at h
    exact absurd rfl h
theorem nx_byte (l : List UInt8) (i : Nat) : nx l i < 256 := UInt8.toNat_lt _
theorem nx_at {l : List UInt8} {i : Nat} (h : i < l.length) : nx l i = l[i].toNat := by
  unfold nx
  rw [List.getD_eq_getElem?_getD, List.getElem?_eq_getElem h]
  rfl
theorem firstIdx_lt (s : ByteArray) (c : UInt8) : firstIdx s c < s.size ∨ firstIdx s c < 0 := by
  unfold firstIdx
  split
  · rename_i i h
    have := List.mem_of_find?_eq_some h
    left
    have := List.mem_range.1 this
    omega
  · right; decide
theorem hexI_lt (c : Nat) : hexI c < 16 := by
  have := firstIdx_lt rxHex c.toUInt8
  have h16 : (rxHex.size : Int) = 16 := rfl
  unfold hexI
  omega
theorem unesc_len (r : List UInt8) : (unesc r).2 ≤ r.length ∧ (unesc r).1 < 256 := by
  have hn := nx_byte r 0
  unfold unesc
  split
  · simp
  · rename_i h0
    split
    · simp; omega
    · split
      · simp; omega
      · split
        · simp; omega
        · split
          · simp; omega
          · split
            · unfold hexP
              split
              · simp
              · split
                · simp
                · rename_i h3 h4
                  have h1 := hexI_lt (nx r 1)
                  have h2 := hexI_lt (nx r 2)
                  simp only
                  omega
            · split
              · simp
              · simp; omega
theorem pChar_lt {l : List UInt8} {i c j : Nat} (h : pChar l i = .ok (c, j)) : i < j ∧ j ≤ l.length ∧ c < 256 := by
  unfold pChar at h
  split at h
  · rename_i h1
    have hi := nx_lt (l := l) (i := i) (by omega)
    unfold pEsc at h
    have hu := unesc_len (l.drop (i + 1))
    split at h
    · cases h
    · simp only [Except.ok.injEq, Prod.mk.injEq] at h
      simp at hu
      omega
  · split at h
    · cases h
    · simp only [Except.ok.injEq, Prod.mk.injEq] at h
      have hi := nx_lt (l := l) (i := i) (by omega)
      have := nx_byte l i
      omega
theorem pRun_lt {l : List UInt8} {i f t j : Nat} (h : pRun l i = .ok ((f, t), j)) : i < j ∧ j ≤ l.length ∧ f < 256 ∧ t < 256 := by
  unfold pRun at h
  split at h
  · cases h
  · rename_i c k hc
    have h1 := pChar_lt hc
    split at h
    · split at h
      · cases h
      · rename_i d m hd
        have h2 := pChar_lt hd
        simp only [Except.ok.injEq, Prod.mk.injEq] at h
        omega
    · simp only [Except.ok.injEq, Prod.mk.injEq] at h
      omega
theorem pBrL_lt {l : List UInt8} {b : Nat} : ∀ {k : Nat} {s : BS} {i : Nat} {s' : BS} {j : Nat}, pBrL l b k s i = .ok (s', j) → i < j ∧ j ≤ l.length := by
  intro k
  induction k with
  | zero => intro s i s' j h; cases h
  | succ k ih =>
    intro s i s' j h
    unfold pBrL at h
    split at h
    · rename_i h1
      have := nx_lt (l := l) (i := i) (by omega)
      simp only [Except.ok.injEq, Prod.mk.injEq] at h
      omega
    · split at h
      · cases h
      · rename_i f t m hm
        have h1 := pRun_lt hm
        split at h
        · cases h
        · have h2 := ih h
          omega
theorem pSet_lt {l : List UInt8} {i : Nat} {s : BS} {j : Nat} (h : pSet l i = .ok (s, j)) : i < j ∧ j ≤ l.length := by
  unfold pSet at h
  split at h
  · rename_i h1
    have := nx_lt (l := l) (i := i) (by omega)
    simp only [Except.ok.injEq, Prod.mk.injEq] at h
    omega
  · split at h
    · unfold pBr at h
      split at h
      · cases h
      · rename_i s' m hm
        have h1 := pBrL_lt hm
        generalize (if nx l (i + 1) = 94 then ~~~s' else s') = s2 at h
        by_cases h2 : s2 = 0#256
        · rw [if_pos h2] at h; cases h
        · rw [if_neg h2] at h
          simp only [Except.ok.injEq, Prod.mk.injEq] at h
          split at h1 <;> omega
    · split at h
      · cases h
      · rename_i c m hm
        have h1 := pChar_lt hm
        simp only [Except.ok.injEq, Prod.mk.injEq] at h
        omega
theorem digEnd_le {l : List UInt8} : ∀ (k i : Nat), i ≤ digEnd l k i ∧ (i ≤ l.length → digEnd l k i ≤ l.length) := by
  intro k
  induction k with
  | zero => intro i; exact ⟨Nat.le_refl _, id⟩
  | succ k ih =>
    intro i
    unfold digEnd
    split
    · rename_i h
      have h1 := nx_lt (l := l) (i := i) (by omega)
      have h2 := ih (i + 1)
      exact ⟨by omega, fun _ => h2.2 h1⟩
    · exact ⟨Nat.le_refl _, id⟩
theorem pNum_lt {l : List UInt8} {i n j : Nat} (h : pNum l i = .ok (n, j)) : i < j ∧ j ≤ l.length ∧ n ≤ 256 := by
  unfold pNum at h
  split at h
  · cases h
  · rename_i hw
    split at h
    · rename_i hv
      simp only [Except.ok.injEq, Prod.mk.injEq] at h
      have h1 := digEnd_le (l := l) (l.length + 1) i
      have hne : digs l i ≠ [] := by
        intro e
        rw [e] at hw
        exact hw rfl
      have hil : i < l.length := by
        rcases Nat.lt_or_ge i l.length with h2 | h2
        · exact h2
        · exact absurd (by unfold digs; rw [List.drop_eq_nil_of_le h2]; simp) hne
      have hlt : i < digEnd l (l.length + 1) i := by
        rcases Nat.lt_or_ge i (digEnd l (l.length + 1) i) with h2 | h2
        · exact h2
        · exact absurd (by unfold digs; rw [show digEnd l (l.length + 1) i - i = 0 by omega]; rfl) hne
      have := h1.2 (by omega)
      omega
    · cases h
theorem pTimes_lt {l : List UInt8} {i lo : Nat} {hi : Int} {j : Nat} (h : pTimes l i = .ok ((lo, hi), j)) : i < j ∧ (i < l.length → j ≤ l.length) ∧ lo ≤ 256 ∧ -1 ≤ hi ∧ hi ≤ 256 ∧ (0 ≤ hi → (lo : Int) ≤ hi) := by
  unfold pTimes at h
  split at h
  · simp only [Except.ok.injEq, Prod.mk.injEq] at h; omega
  · split at h
    · simp only [Except.ok.injEq, Prod.mk.injEq] at h; omega
    · split at h
      · simp only [Except.ok.injEq, Prod.mk.injEq] at h; omega
      · unfold pBounds at h
        split at h
        · cases h
        · rename_i lo' j' h1
          have h1 := pNum_lt h1
          split at h
          · split at h
            · rename_i h2 h3
              have := nx_lt (l := l) (i := j' + 1) (by omega)
              simp only [Except.ok.injEq, Prod.mk.injEq] at h
              omega
            · split at h
              · cases h
              · rename_i hi' k' h4
                have h4 := pNum_lt h4
                split at h
                · cases h
                · split at h
                  · have := nx_lt (l := l) (i := k') (by omega)
                    simp only [Except.ok.injEq, Prod.mk.injEq] at h
                    omega
                  · cases h
          · split at h
            · have := nx_lt (l := l) (i := j') (by omega)
              simp only [Except.ok.injEq, Prod.mk.injEq] at h
              omega
            · cases h
theorem isRep_lt {l : List UInt8} {i : Nat} (h : isRep (nx l i) = true) : i < l.length := by
  refine nx_lt (fun e => ?_)
  rw [e] at h
  revert h
  decide +kernel
theorem mkN_ok {t t' : RT} {i nd j m : Nat} (h : mkN t i nd = .ok (t', j, m)) : t' = t ∧ j = i ∧ m = nd + 1 ∧ nd + 1 ≤ 512 := by
  unfold mkN at h
  split at h
  · simp only [Except.ok.injEq, Prod.mk.injEq] at h
    exact ⟨h.1.symm, h.2.1.symm, h.2.2.symm, by assumption⟩
  · cases h
end Go.Proofs.YtoiegkejkahfgaaDoor

/- regex: expressions in memory; the reader's block. -/
namespace Go.Proofs.YtoiegkejkahfgaaDoor
open Go.RowKit

/-- An expression's value, part by part. -/
structure RV where
  k : Int
  s : BS
  A : Option Addr
  n : Nat
  c : Nat
  lo : Int
  hi : Int
def RV.cells (v : RV) : List Value := [.int .i64 v.k, .int .u64 ((wd v.s 0 : Nat) : Int), .int .u64 ((wd v.s 1 : Nat) : Int), .int .u64 ((wd v.s 2 : Nat) : Int), .int .u64 ((wd v.s 3 : Nat) : Int), .slice v.A v.n v.c, .int .i64 v.lo, .int .i64 v.hi]
def RV.val (v : RV) : Value := .agg #[.int .i64 v.k, .int .u64 ((wd v.s 0 : Nat) : Int), .int .u64 ((wd v.s 1 : Nat) : Int), .int .u64 ((wd v.s 2 : Nat) : Int), .int .u64 ((wd v.s 3 : Nat) : Int), .slice v.A v.n v.c, .int .i64 v.lo, .int .i64 v.hi]
theorem RV.val_eq (v : RV) : v.val = .agg v.cells.toArray := rfl
def RV.zero : RV := ⟨0, 0#256, none, 0, 0, 0, 0⟩
theorem rx_zero : RV.zero.val = .agg #[.int .i64 0, .int .u64 0, .int .u64 0, .int .u64 0, .int .u64 0, .slice none 0 0, .int .i64 0, .int .i64 0] := by simp [RV.val, RV.zero, wd_zero]
theorem rx_zero_cells : RV.zero.cells = [.int .i64 0, .int .u64 0, .int .u64 0, .int .u64 0, .int .u64 0, .slice none 0 0, .int .i64 0, .int .i64 0] := by simp [RV.cells, RV.zero, wd_zero]
theorem RV.len (v : RV) : v.cells.length = 8 := rfl
theorem rx_one (v : RV) : v.cells.toArray.all (·.oneCell') = true := by simp [RV.cells, Value.oneCell']
theorem rx_size (v : RV) : (Tryd.prog.info? 26).map (·.size) = some v.cells.toArray.size := by
  rw [show v.cells.toArray.size = 8 from rfl]; kernel_rfl
/-- So many cells from a place on. -/
def RowAt (w : World) (b o : Nat) (cs : List Value) : Prop := ∀ i (h : i < cs.length), w.cell? ⟨b, o + i, none⟩ = some cs[i]
theorem RowAt.block {w w' : World} {b o : Nat} {cs : List Value} (h : RowAt w b o cs) (hb : w'.heap[b]? = w.heap[b]?) : RowAt w' b o cs := fun i hi =>
  (World.cell?_of_block (w := w) (w' := w') (a := ⟨b, o + i, none⟩) hb).trans (h i hi)
theorem RowAt.cells8 {w : World} {b o : Nat} {v : RV} (h : RowAt w b o v.cells) : w.cell? ⟨b, o, none⟩ = some (.int .i64 v.k) ∧ w.cell? ⟨b, o + 1, none⟩ = some (.int .u64 ((wd v.s 0 : Nat) : Int)) ∧ w.cell? ⟨b, o + 2, none⟩ = some (.int .u64 ((wd v.s 1 : Nat) : Int)) ∧
    w.cell? ⟨b, o + 3, none⟩ = some (.int .u64 ((wd v.s 2 : Nat) : Int)) ∧ w.cell? ⟨b, o + 4, none⟩ = some (.int .u64 ((wd v.s 3 : Nat) : Int)) ∧ w.cell? ⟨b, o + 5, none⟩ = some (.slice v.A v.n v.c) ∧ w.cell? ⟨b, o + 6, none⟩ = some (.int .i64 v.lo) ∧ w.cell? ⟨b, o + 7, none⟩ = some (.int .i64 v.hi) :=
  ⟨h 0 (by rw [RV.len]; decide), h 1 (by rw [RV.len]; decide), h 2 (by rw [RV.len]; decide), h 3 (by rw [RV.len]; decide), h 4 (by rw [RV.len]; decide), h 5 (by rw [RV.len]; decide), h 6 (by rw [RV.len]; decide), h 7 (by rw [RV.len]; decide)⟩

/-- A value stands for an expression; its parts lie in blocks of which P holds. -/
inductive Rep (w : World) (P : Nat → Prop) : RV → RT → Prop
  | mk (v : RV) (ks : List RT) (vs : Nat → RV) (hn : ks.length = v.n)
      (hA : 0 < v.n → ∃ b o, v.A = some ⟨b, o, none⟩ ∧ b < w.heap.size ∧ P b ∧ ∀ j, j < v.n → RowAt w b (o + j * 8) (vs j).cells)
      (hk : ∀ j (h : j < ks.length), Rep w P (vs j) ks[j]) : Rep w P v (.nd v.k v.s ks v.lo v.hi)
theorem Rep.mono {w w' : World} {P Q : Nat → Prop} {v : RV} {t : RT} (h : Rep w P v t) (hs : w.heap.size ≤ w'.heap.size) (hb : ∀ b, P b → b < w.heap.size → w'.heap[b]? = w.heap[b]?) (hPQ : ∀ b, P b → b < w.heap.size → Q b) : Rep w' Q v t := by
  induction h with
  | mk v ks vs hn hA hk ih =>
    refine .mk v ks vs hn (fun h0 => ?_) ih
    obtain ⟨b, o, e, hl, hp, hc⟩ := hA h0
    exact ⟨b, o, e, by omega, hPQ b hp hl, fun j hj => (hc j hj).block (hb b hp hl)⟩
theorem Rep.leaf (w : World) (P : Nat → Prop) (k : Int) (s : BS) (c : Nat) (lo hi : Int) (A : Option Addr) : Rep w P ⟨k, s, A, 0, c, lo, hi⟩ (.nd k s [] lo hi) :=
  .mk ⟨k, s, A, 0, c, lo, hi⟩ [] (fun _ => RV.zero) rfl (fun h => absurd h (by simp)) (fun j h => absurd h (by simp))
/-- What changes in memory is block g alone. -/
theorem Rep.grown {w w' : World} {base g : Nat} {v : RV} {t : RT} (h : Rep w (base ≤ ·) v t) (hg : w.grownBy w' (some g)) (hb : g < base) : Rep w' (base ≤ ·) v t :=
  h.mono hg.size (fun b hp hl => hg.block b hl (by intro e; injection e with e; omega)) (fun _ h _ => h)

/-- Expressions that are collected. -/
def flatR (vs : List RV) : List Value := vs.flatMap RV.cells
theorem flatR_len (vs : List RV) : (flatR vs).length = vs.length * 8 := by
  induction vs with
  | nil => rfl
  | cons v vs ih => simp only [flatR, List.flatMap_cons, List.length_append, List.length_cons, RV.len] at *; omega
theorem flatR_snoc (vs : List RV) (v : RV) : flatR (vs ++ [v]) = flatR vs ++ v.cells := by simp [flatR]
theorem flatR_get (vs : List RV) (j i : Nat) (hj : j < vs.length) (hi : i < 8) : (flatR vs)[j * 8 + i]? = vs[j].cells[i]? := by
  induction vs generalizing j with
  | nil => simp at hj
  | cons p ps ih =>
    have hc : flatR (p :: ps) = p.cells ++ flatR ps := by simp [flatR]
    rw [hc]
    cases j with
    | zero =>
      rw [List.getElem?_append_left (by rw [RV.len]; omega), Nat.zero_mul, Nat.zero_add]
      rfl
    | succ j =>
      rw [List.getElem?_append_right (by rw [RV.len]; omega), RV.len, show (j + 1) * 8 + i - 8 = j * 8 + i by omega]
      rw [ih j (by simpa using hj)]
      rfl
structure Kids (w : World) (base : Nat) (v : Value) (ts : List RT) : Prop where
  out : ∃ vs : List RV, vs.length = ts.length ∧ w.ownsRow base 26 8 v ts.length (flatR vs) ∧ ∀ j (h1 : j < vs.length) (h2 : j < ts.length), Rep w (fun b => base ≤ b ∧ v.ownBlock ≠ some b) vs[j] ts[j]
theorem Kids.nil (w : World) (base : Nat) : Kids w base (.slice none 0 0) [] := ⟨[], rfl, ⟨rfl, .inl ⟨rfl, rfl⟩⟩, fun j h => absurd h (by simp)⟩
theorem Kids.grown {w w' : World} {base g : Nat} {v : Value} {ts : List RT} (h : Kids w base v ts) (hg : w.grownBy w' (some g)) (hb : g < base) : Kids w' base v ts := by
  obtain ⟨vs, h1, h2, h3⟩ := h.out
  refine ⟨vs, h1, ⟨h2.1, ?_⟩, fun j a b => (h3 j a b).mono hg.size (fun c hp hl => hg.block c hl (by intro e; injection e with e; omega)) (fun _ h _ => h)⟩
  rcases h2.2 with hn | ⟨g', cap, cur, rfl, hb', hg', r⟩
  · exact .inl hn
  · exact .inr ⟨g', cap, cur, rfl, hb', (hg.block g' (Array.getElem?_eq_some_iff.1 hg').1 (by intro e; injection e with e; omega)).trans hg', r⟩
theorem Kids.shape {w : World} {base : Nat} {v : Value} {ts : List RT} (h : Kids w base v ts) : ∃ A c, v = .slice A ts.length c := by
  obtain ⟨vs, _, h2, _⟩ := h.out
  rcases h2.2 with ⟨rfl, hn⟩ | ⟨g', cap, cur, rfl, _⟩
  · exact ⟨none, 0, by rw [hn]⟩
  · exact ⟨_, cap, rfl⟩
/-- One more of them. -/
theorem Kids.snoc {w w' w1 : World} {base : Nat} {v v' : Value} {ts : List RT} {x : RV} {t : RT} (vs : List RV) (h1 : vs.length = ts.length)
    (h3 : ∀ j (h1 : j < vs.length) (h2 : j < ts.length), Rep w (fun b => base ≤ b ∧ v.ownBlock ≠ some b) vs[j] ts[j]) (hx : Rep w (fun b => base ≤ b ∧ v.ownBlock ≠ some b) x t)
    (hw : ∀ b, b < w.heap.size → w'.heap[b]? = w.heap[b]?) (hsz : w.heap.size ≤ w'.heap.size) (hown : w1.ownsRow base 26 8 v' (ts.length + 1) (flatR vs ++ x.cells)) (hg : w'.grownBy w1 v.ownBlock) (hv : v'.ownBlock = v.ownBlock ∨ v'.ownBlock = some w'.heap.size) : Kids w1 base v' (ts ++ [t]) := by
  have key : ∀ (y : RV) (s : RT), Rep w (fun b => base ≤ b ∧ v.ownBlock ≠ some b) y s → Rep w1 (fun b => base ≤ b ∧ v'.ownBlock ≠ some b) y s := by
    intro y s h
    refine h.mono (Nat.le_trans hsz hg.size) (fun b hp hl => (hg.block b (by omega) (fun e => hp.2 e.symm)).trans (hw b hl)) (fun b hp hl => ⟨hp.1, fun e => ?_⟩)
    rcases hv with h' | h'
    · exact hp.2 (h' ▸ e)
    · rw [h'] at e; injection e with e; omega
  refine ⟨vs ++ [x], by simp [h1], by simpa [flatR_snoc] using hown, fun j a b => ?_⟩
  rw [List.getElem_append, List.getElem_append]
  by_cases hj : j < vs.length
  · rw [dif_pos hj, dif_pos (by omega)]
    exact key _ _ (h3 j hj (by omega))
  · rw [dif_neg hj, dif_neg (by omega)]
    simp at a b
    simpa using key _ _ hx
theorem Kids.rep {w : World} {base : Nat} {A : Option Addr} {n c : Nat} {ts : List RT} (h : Kids w base (.slice A n c) ts) (k : Int) (s : BS) (lo hi : Int) : Rep w (base ≤ ·) ⟨k, s, A, n, c, lo, hi⟩ (.nd k s ts lo hi) := by
  obtain ⟨vs, h1, h2, h3⟩ := h.out
  have hn : ts.length = n := by
    obtain ⟨A', c', e⟩ := h.shape
    injection e with _ e _
    exact e.symm
  refine .mk ⟨k, s, A, n, c, lo, hi⟩ ts (fun j => vs.getD j RV.zero) hn (fun h0 => ?_) (fun j hj => ?_)
  · rcases h2.2 with ⟨_, hz⟩ | ⟨g, cap, cur, hv, hb, hg, hnc, hcm, hcs, ht⟩
    · have h0 : 0 < n := h0
      omega
    · injection hv with hA _ _
      refine ⟨g, 0, hA, (Array.getElem?_eq_some_iff.1 hg).1, hb, fun j hj => ?_⟩
      have hj : j < n := hj
      intro i hi
      have hjv : j < vs.length := by omega
      have hget : vs.getD j RV.zero = vs[j] := by simp [List.getD, hjv]
      simp only [hget] at hi ⊢
      rw [RV.len] at hi
      rw [Nat.zero_add, cell_of_row w g (j * 8 + i) cur _ (0, 0) hg]
      have e := flatR_get vs j i hjv hi
      rw [← ht, List.getElem?_take_of_lt (by omega)] at e
      rw [← Array.getElem?_toList, e, List.getElem?_eq_getElem (by rw [RV.len]; exact hi)]
  · have hjv : j < vs.length := by omega
    have hget : vs.getD j RV.zero = vs[j] := by simp [List.getD, hjv]
    rw [hget]
    exact (h3 j hjv hj).mono (Nat.le_refl _) (fun _ _ _ => rfl) (fun _ h _ => h.1)
/-- A single one. -/
theorem Kids.one {w : World} {base : Nat} {A : Option Addr} {n c : Nat} {t : RT} (h : Kids w base (.slice A n c) [t]) : ∃ (g : Nat) (x : RV), n = 1 ∧ A = some ⟨g, 0, none⟩ ∧ RowAt w g 0 x.cells ∧ Rep w (base ≤ ·) x t := by
  have hr := h.rep 0 (0#256) 0 0
  obtain ⟨vs, h1, h2, h3⟩ := h.out
  have h1' : vs.length = 1 := h1
  rcases h2.2 with ⟨_, hz⟩ | ⟨g, cap, cur, hv, hb, hg, hnc, hcm, hcs, ht⟩
  · simp at hz
  · injection hv with hA hn _
    refine ⟨g, vs[0], hn, hA, fun i hi => ?_, (h3 0 (by omega) (by simp)).mono (Nat.le_refl _) (fun _ _ _ => rfl) (fun _ h _ => h.1)⟩
    rw [RV.len] at hi
    have e := flatR_get vs 0 i (by omega) hi
    rw [← ht, List.getElem?_take_of_lt (by simp; omega), Nat.zero_mul, Nat.zero_add] at e
    rw [Nat.zero_add, cell_of_row w g i cur _ (0, 0) hg, ← Array.getElem?_toList, e, List.getElem?_eq_getElem (by rw [RV.len]; exact hi)]

/-- The reader's block. -/
def Rd (w : World) (g : Nat) (s : ByteArray) (i nd : Nat) (c p : Int) : Prop := Blk w g 73 [.string s, .int .i64 (i : Int), .int .i64 (nd : Int), .int .i64 c, .int .i64 p]
theorem Rd.cells {w : World} {g : Nat} {s : ByteArray} {i nd : Nat} {c p : Int} (h : Rd w g s i nd c p) : w.cell? ⟨g, 0, none⟩ = some (.string s) ∧ w.cell? ⟨g, 1, none⟩ = some (.int .i64 (i : Int)) ∧ w.cell? ⟨g, 2, none⟩ = some (.int .i64 (nd : Int)) ∧ w.cell? ⟨g, 3, none⟩ = some (.int .i64 c) ∧ w.cell? ⟨g, 4, none⟩ = some (.int .i64 p) ∧
    w.frozen? ⟨g, 1, none⟩ = false ∧ w.frozen? ⟨g, 2, none⟩ = false ∧ w.frozen? ⟨g, 3, none⟩ = false ∧ w.frozen? ⟨g, 4, none⟩ = false :=
  ⟨Blk.at h 0, Blk.at h 1, Blk.at h 2, Blk.at h 3, Blk.at h 4, Blk.free h 1, Blk.free h 2, Blk.free h 3, Blk.free h 4⟩
theorem results_cell_tmp {P : Program} {fn : Func} {p u : Tmp} {ty : TypeId} (h : fn.results = #[.cell p ty, .tmp u]) (tmps : Array Value) (w : World) (g : Nat) (t : TypeId) (cs : Array Value) (fr : Nat × Nat) (d : TypeDesc)
    (hp : tmps.getD p undef = .pointer (some ⟨g, 0, none⟩)) (hg : w.heap[g]? = some (.cells cs t fr))
    (hu : P.underlying ty = some d) (hd : (match d with | .struct _ | .array _ _ => true | _ => false) = true) (hi : (P.info? ty).map (·.size) = some cs.size) :
    (results fn tmps).run P w = .ok (.tuple #[.agg cs, tmps.getD u undef]) w := by
  have hp' : tmps[p]?.getD undef = .pointer (some ⟨g, 0, none⟩) := by simpa using hp
  simp [results, h, hp', asAddr, run_loadVar_row w g t ty cs fr d hg hu hd hi]
end Go.Proofs.YtoiegkejkahfgaaDoor
