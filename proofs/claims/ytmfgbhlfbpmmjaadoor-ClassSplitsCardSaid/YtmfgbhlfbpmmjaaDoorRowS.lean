/- class: rows of sets. -/
import Derived.Test.YtmfgbhlfbpmmjaaDoorLeast
namespace Go.Proofs.YtmfgbhlfbpmmjaaDoor
open Go.RowKit

/-- Sets behind each other, as cells. -/
def flatS (ps : List BS) : List Value := ps.flatMap setL
theorem setL_len (a : BS) : (setL a).length = 4 := rfl
theorem flatS_len (ps : List BS) : (flatS ps).length = 4 * ps.length := by
  induction ps with
  | nil => rfl
  | cons p ps ih => simp only [flatS, List.flatMap_cons, List.length_append, List.length_cons, setL_len] at *; omega
theorem flatS_cons (p : BS) (ps : List BS) : flatS (p :: ps) = setL p ++ flatS ps := by simp [flatS]
theorem flatS_append (ps qs : List BS) : flatS (ps ++ qs) = flatS ps ++ flatS qs := by simp [flatS]
theorem flatS_get (ps : List BS) (j i : Nat) (hj : j < ps.length) (hi : i < 4) : (flatS ps)[j * 4 + i]? = some (.int .u64 ((wd ps[j] i : Nat) : Int)) := by
  induction ps generalizing j with
  | nil => simp at hj
  | cons p ps ih =>
    rw [flatS_cons]
    cases j with
    | zero =>
      rw [List.getElem?_append_left (by rw [setL_len]; omega), Nat.zero_mul, Nat.zero_add]
      exact four_get (wd p) i hi
    | succ j =>
      rw [List.getElem?_append_right (by rw [setL_len]; omega), setL_len, show (j + 1) * 4 + i - 4 = j * 4 + i by omega]
      rw [ih j (by simpa using hj)]
      rfl
/-- The four cells from an address on are a set's. -/
def SetAt (w : World) (b o : Nat) (a : BS) : Prop := w.cell? ⟨b, o, none⟩ = some (.int .u64 ((wd a 0 : Nat) : Int)) ∧ w.cell? ⟨b, o + 1, none⟩ = some (.int .u64 ((wd a 1 : Nat) : Int)) ∧
  w.cell? ⟨b, o + 2, none⟩ = some (.int .u64 ((wd a 2 : Nat) : Int)) ∧ w.cell? ⟨b, o + 3, none⟩ = some (.int .u64 ((wd a 3 : Nat) : Int))
theorem SetAt.block {w w' : World} {b o : Nat} {a : BS} (h : SetAt w b o a) (hb : w'.heap[b]? = w.heap[b]?) : SetAt w' b o a := by
  have e : ∀ i, w'.cell? ⟨b, i, none⟩ = w.cell? ⟨b, i, none⟩ := fun i => World.cell?_of_block (w := w) (w' := w') (a := ⟨b, i, none⟩) hb
  unfold SetAt
  rw [e, e, e, e]
  exact h
/-- A slice of sets, where they lie. -/
def RdS (w : World) (A : Option Addr) (n : Nat) (ps : List BS) : Prop :=
  ps.length = n ∧ (0 < n → ∃ b o, A = some ⟨b, o, none⟩ ∧ b < w.heap.size ∧ ∀ j (h : j < ps.length), SetAt w b (o + j * 4) ps[j])
theorem RdS.below {w w' : World} {A : Option Addr} {n : Nat} {ps : List BS} (h : RdS w A n ps) (hb : Below w.heap.size w w') : RdS w' A n ps :=
  ⟨h.1, fun hn => by
    obtain ⟨b, o, e, hl, hc⟩ := h.2 hn
    exact ⟨b, o, e, Nat.lt_of_lt_of_le hl hb.size, fun j hj => (hc j hj).block (hb.block b hl)⟩⟩
theorem setAt_of_row {w : World} {g : Nat} {cur : Array Value} {t : TypeId} {fr : Nat × Nat} (hg : w.heap[g]? = some (.cells cur t fr)) (ps : List BS) (m : Nat) (ht : cur.toList.take m = flatS ps) (j : Nat) (hj : j < ps.length) : SetAt w g (j * 4) ps[j] := by
  have hm : 4 * ps.length ≤ m := by
    have := congrArg List.length ht
    rw [List.length_take, flatS_len] at this
    omega
  have hc : ∀ i, i < 4 → w.cell? ⟨g, j * 4 + i, none⟩ = some (.int .u64 ((wd ps[j] i : Nat) : Int)) := by
    intro i hi
    rw [cell_of_row w g (j * 4 + i) cur t fr hg]
    have e := flatS_get ps j i hj hi
    rw [← ht, List.getElem?_take_of_lt (by omega)] at e
    simpa using e
  exact ⟨hc 0 (by decide), hc 1 (by decide), hc 2 (by decide), hc 3 (by decide)⟩
/-- What the call owns reads as sets. -/
theorem RdS.of_own {w : World} {base : Nat} {A : Option Addr} {n c : Nat} {ps : List BS} (h : w.ownsRow base 26 4 (.slice A n c) n (flatS ps)) : RdS w A n ps := by
  have hl : ps.length = n := by
    have := h.1
    rw [flatS_len] at this
    omega
  refine ⟨hl, fun hn => ?_⟩
  rcases h.2 with ⟨hv, h0⟩ | ⟨g, cap, cur, hv, hb, hg, hnc, hcm, hcs, ht⟩
  · omega
  · injection hv with hA _ _
    exact ⟨g, 0, hA, (Array.getElem?_eq_some_iff.1 hg).1, fun j hj => by rw [Nat.zero_add]; exact setAt_of_row hg ps _ ht j hj⟩
theorem one_setL (ps : List BS) : ∀ v ∈ flatS ps, v.oneCell' = true := by
  intro v hv
  obtain ⟨p, _, hv⟩ := List.mem_flatMap.1 hv
  simp only [setL, four, u64V, List.mem_cons, List.not_mem_nil, or_false] at hv
  rcases hv with rfl | rfl | rfl | rfl <;> rfl
theorem info_set : (Tryd.prog.info? 26).map (fun i => (i.zero, i.size, i.bytes)) = some (some (.agg #[.int .u64 0, .int .u64 0, .int .u64 0, .int .u64 0]), 4, 32) := by kernel_rfl

/-- Split, one set more: each piece that it cuts is cut. -/
def cuts (s p : BS) : Bool := !decide (p &&& s = 0#256) && !decide (p &&& ~~~s = 0#256)
def inN (s p : BS) : BS := if cuts s p then p &&& s else p
def outN (s : BS) (ps : List BS) : List BS := ps.filterMap (fun p => if cuts s p then some (p &&& ~~~s) else none)
def stepS (ps : List BS) (s : BS) : List BS := ps.map (inN s) ++ outN s ps
def pieceS (l : List BS) : List BS := l.foldl stepS [~~~(0#256)]
end Go.Proofs.YtmfgbhlfbpmmjaaDoor
