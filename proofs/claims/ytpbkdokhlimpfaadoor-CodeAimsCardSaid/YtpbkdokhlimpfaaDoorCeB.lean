/- code: a step's line. -/
import Derived.Test.YtpbkdokhlimpfaaDoorCeA
import Derived.Deep.AppendLies
import Derived.Deep.LoopGhost
namespace Go.Proofs.YtpbkdokhlimpfaaDoor
set_option linter.unusedSimpArgs false
set_option linter.unusedVariables false
open Go.RowKit Go.Sort

def I64 (n : Int) : Prop := -9223372036854775808 ≤ n ∧ n ≤ 9223372036854775807
/-- A step's numbers are of their kinds. -/
structure StNum (x : ST) : Prop where
  a : I64 x.a
  b : I64 x.b
  ws : ∀ y ∈ x.ws, I64 y.to ∧ y.val < 18446744073709551616
def wordsOf (y : WT) : List ByteArray := [decB y.val, ⟨#[62]⟩, itoB y.to]
def lineW (i : Int) (x : ST) : List ByteArray := [itoB i, nmS x.k, itoB x.a, itoB x.b] ++ x.ws.flatMap wordsOf
def joinB (l : List ByteArray) (sep : List UInt8) : ByteArray := ⟨(Lib.join (l.map (·.data.toList)) sep).toArray⟩
/-- A step's line. -/
def lineS (i : Int) (x : ST) : ByteArray := joinB (lineW i x) [32]
/-- A list of texts of one's own. -/
structure StrS (w : World) (l : List ByteArray) (A : Option Addr) (n c : Nat) (wr : World) : Prop where
  bel : Below w.heap.size w wr
  row : wr.ownsRow w.heap.size 9 1 (.slice A n c) n (strs l)
theorem StrS.keep {w wr w' : World} {l : List ByteArray} {A : Option Addr} {n c : Nat} (h : StrS w l A n c wr) (hb : Below wr.heap.size wr w') : StrS w l A n c w' :=
  ⟨h.bel.trans (hb.mono h.bel.size), owns_mono h.row (fun b hh => hb.block b (owns_block h.row b hh).2)⟩
theorem StrS.len {w wr : World} {l : List ByteArray} {A : Option Addr} {n c : Nat} (h : StrS w l A n c wr) : l.length = n := by
  have := h.row.1
  unfold strs at this
  rw [List.length_map] at this
  omega
theorem Tab10.keep {w w' : World} (h : Tab10 w) (hb : Below w.heap.size w w') : Tab10 w' := by
  unfold Tab10 Lib.TabIs World.var? at *
  cases hg : Tryd.prog.globalNamed "internal/strconv.uint64pow10" with
  | none => rw [hg] at h; simp at h
  | some g =>
    rw [hg] at h
    simp only [Option.bind_some] at h ⊢
    have hlt : g < w.heap.size := by
      rcases Nat.lt_or_ge g w.heap.size with h' | h'
      · exact h'
      · rw [Array.getElem?_eq_none h'] at h; simp at h
    rw [hb.block g hlt]
    exact h
theorem own_litS (w : World) (l : List ByteArray) (hl : l.length ≤ 1000000) : (w.alloc (.cells (strs l).toArray 9)).ownsRow w.heap.size 9 1 (.slice (some ⟨w.heap.size, 0, none⟩) l.length l.length) l.length (strs l) :=
  ⟨by simp [strs], .inr ⟨w.heap.size, l.length, (strs l).toArray, rfl, Nat.le_refl _, heap_alloc_new w _, Nat.le_refl _, by unfold maxLen; omega, by simp [strs], by rw [Nat.mul_one]; exact List.take_of_length_le (by simp [strs])⟩⟩
theorem itoB_len (n : Int) (h : I64 n) : (itoB n).data.toList.length ≤ 21 := by
  have hd : ∀ u : Nat, u ≤ 9223372036854775808 → (Lib.decDigits u).length ≤ 20 := fun u hu => by
    rw [Lib.decDigits_length]
    rcases Nat.eq_zero_or_pos u with h0 | h0
    · subst h0; unfold Lib.nDigits; simp
    · have := Lib.numDigits_eq u h0 (by omega); split at this <;> omega
  unfold itoB Lib.itoa
  have h1 := h.1
  have h2 := h.2
  split
  · have := hd n.natAbs (by omega)
    simp; omega
  · have := hd n.toNat (by omega)
    simp; omega
theorem decB_len (u : Nat) (h : u < 18446744073709551616) : (decB u).data.toList.length ≤ 21 := by
  unfold decB
  have : (Lib.decDigits u).length ≤ 20 := by
    rw [Lib.decDigits_length]
    rcases Nat.eq_zero_or_pos u with h0 | h0
    · subst h0; unfold Lib.nDigits; simp
    · have := Lib.numDigits_eq u h0 (by omega); split at this <;> omega
  simp; omega
theorem nmS_len (k : Int) : (nmS k).data.toList.length ≤ 21 := by
  by_cases h : 0 ≤ k ∧ k < 21
  · obtain ⟨q, rfl⟩ : ∃ q : Nat, k = (q : Int) := ⟨k.toNat, by omega⟩
    have : ∀ q : Fin 21, (nmS (q.val : Int)).data.toList.length ≤ 21 := by decide +kernel
    exact this ⟨q, by omega⟩
  · rw [nmS_other (by omega)]
    decide
theorem join_len (sep : List UInt8) (hs : sep.length ≤ 1) : ∀ (l : List (List UInt8)) (m : Nat), (∀ x ∈ l, x.length ≤ m) → (Lib.join l sep).length ≤ l.length * (m + 1)
  | [], m, _ => by rw [Lib.join_nil]; simp
  | [x], m, h => by rw [Lib.join_one]; have := h x (by simp); simp; omega
  | x :: y :: l, m, h => by
    have ih := join_len sep hs (y :: l) m (fun z hz => h z (List.mem_cons_of_mem _ hz))
    have hx := h x (by simp)
    rw [Lib.join_cons] at ih ⊢
    have e : Lib.joinTail sep (y :: l) = sep ++ y ++ Lib.joinTail sep l := by simp [Lib.joinTail]
    rw [e]
    simp only [List.length_append, List.length_cons] at ih ⊢
    rw [Nat.succ_mul]
    omega
theorem words_len (y : WT) (h : I64 y.to ∧ y.val < 18446744073709551616) : ∀ s ∈ wordsOf y, s.data.toList.length ≤ 21 := by
  intro s hs
  simp only [wordsOf, List.mem_cons, List.not_mem_nil, or_false] at hs
  rcases hs with rfl | rfl | rfl
  · exact decB_len _ h.2
  · decide
  · exact itoB_len _ h.1
theorem lineW_len (i : Int) (x : ST) (hi : I64 i) (hx : StNum x) : ∀ s ∈ lineW i x, s.data.toList.length ≤ 21 := by
  intro s hs
  unfold lineW at hs
  rcases List.mem_append.1 hs with hs | hs
  · simp only [List.mem_cons, List.not_mem_nil, or_false] at hs
    rcases hs with rfl | rfl | rfl | rfl
    · exact itoB_len _ hi
    · exact nmS_len _
    · exact itoB_len _ hx.a
    · exact itoB_len _ hx.b
  · obtain ⟨y, hy, hs⟩ := List.mem_flatMap.1 hs
    exact words_len y (hx.ws y hy) s hs
theorem flat3_len (l : List WT) : (l.flatMap wordsOf).length = l.length * 3 := flat3 l
where flat3 : ∀ l : List WT, (l.flatMap wordsOf).length = l.length * 3
  | [] => rfl
  | y :: l => by rw [List.flatMap_cons, List.length_append, flat3 l, List.length_cons, show (wordsOf y).length = 3 from rfl]; omega
end Go.Proofs.YtpbkdokhlimpfaaDoor
