/- class: Split's pieces, as lists. -/
import Derived.Test.YtmfgbhlfbpmmjaaDoorSApp
namespace Go.Proofs.YtmfgbhlfbpmmjaaDoor

/-- The pieces when the first i have been looked at. -/
def curS (s : BS) (ps : List BS) (i : Nat) : List BS := (ps.take i).map (inN s) ++ ps.drop i ++ outN s (ps.take i)
theorem curS_zero (s : BS) (ps : List BS) : curS s ps 0 = ps := by simp [curS, outN]
theorem curS_all (s : BS) (ps : List BS) : curS s ps ps.length = stepS ps s := by simp [curS, stepS]
theorem curS_get (s : BS) (ps : List BS) (i j : Nat) (hij : i ≤ j) (hj : j < ps.length) : (curS s ps i)[j]? = some ps[j] := by
  unfold curS
  rw [List.append_assoc, List.getElem?_append_right (by simp; omega), List.getElem?_append_left (by simp; omega)]
  simp only [List.length_map, List.length_take, List.getElem?_drop]
  rw [show i + (j - min i ps.length) = j by omega]
  simp [hj]
theorem outN_snoc (s p : BS) (ps : List BS) : outN s (ps ++ [p]) = outN s ps ++ (if cuts s p then [p &&& ~~~s] else []) := by
  unfold outN
  rw [List.filterMap_append]
  congr 1
  by_cases h : cuts s p = true <;> simp [h]
theorem curS_keep (s : BS) (ps : List BS) (i : Nat) (hi : i < ps.length) (hc : cuts s ps[i] = false) : curS s ps (i + 1) = curS s ps i := by
  unfold curS
  rw [List.take_succ_eq_append_getElem hi, outN_snoc, hc, List.map_append, List.drop_eq_getElem_cons hi]
  simp [inN, hc]
theorem curS_cut (s : BS) (ps : List BS) (i : Nat) (hi : i < ps.length) (hc : cuts s ps[i] = true) : curS s ps (i + 1) = (curS s ps i).set i (ps[i] &&& s) ++ [ps[i] &&& ~~~s] := by
  unfold curS
  rw [List.take_succ_eq_append_getElem hi, outN_snoc, hc, List.map_append, List.drop_eq_getElem_cons hi]
  have hl : ((ps.take i).map (inN s)).length = i := by simp; omega
  simp only [List.append_assoc, List.cons_append, List.nil_append, List.map_cons, List.map_nil]
  rw [List.set_append_right _ _ (by omega), hl, Nat.sub_self, List.set_cons_zero]
  simp [inN, hc]
theorem curS_len (s : BS) (ps : List BS) (i : Nat) : (curS s ps i).length = ps.length + (outN s (ps.take i)).length := by
  unfold curS
  simp
  omega
theorem outN_len (s : BS) (ps : List BS) : (outN s ps).length ≤ ps.length := List.length_filterMap_le _ _
theorem curS_le (s : BS) (ps : List BS) (i : Nat) : (curS s ps i).length ≤ ps.length + ps.length := by
  rw [curS_len]
  have := outN_len s (ps.take i)
  have h2 : (ps.take i).length ≤ ps.length := by simp; omega
  omega
theorem cuts_iff (s p : BS) : cuts s p = true ↔ p &&& s ≠ 0#256 ∧ p &&& ~~~s ≠ 0#256 := by simp [cuts]
theorem pieceS_snoc (l : List BS) (s : BS) : pieceS (l ++ [s]) = stepS (pieceS l) s := by simp [pieceS, List.foldl_append]
theorem pieceS_take (l : List BS) (k : Nat) (hk : k < l.length) : pieceS (l.take (k + 1)) = stepS (pieceS (l.take k)) l[k] := by
  rw [List.take_succ_eq_append_getElem hk, pieceS_snoc]
end Go.Proofs.YtmfgbhlfbpmmjaaDoor
