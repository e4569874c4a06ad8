/- ClassLists: what its loops have found. -/
import Derived.Test.YtmfgbhlfbpmmjaaDoorOfR
namespace Go.Proofs.YtmfgbhlfbpmmjaaDoor
open Go.RowKit

def inL (l : List UInt8) : List Value := (List.range 256).map fun c => Value.bool (l.any fun d => d.toNat == c)
theorem inL_zero : Tryd.zeroCells28 = (inL []).toArray := by kernel_rfl
theorem inL_len (l : List UInt8) : (inL l).length = 256 := by simp [inL]
theorem inL_get (l : List UInt8) (c : Nat) (hc : c < 256) : (inL l)[c]? = some (.bool (has (ofL l) c)) := by
  rw [has_ofL]
  simp [inL, hc]
theorem inL_set (l : List UInt8) (d : UInt8) : (inL l).set d.toNat (.bool true) = inL (l ++ [d]) := by
  apply List.ext_getElem?
  intro c
  rw [List.getElem?_set]
  by_cases h : d.toNat = c
  · subst h
    have hd := UInt8.toNat_lt d
    rw [if_pos rfl, if_pos (by rw [inL_len]; exact hd)]
    simp [inL, hd]
  · rw [if_neg h]
    by_cases hc : c < 256
    · simp [inL, hc, h]
    · rw [List.getElem?_eq_none (by rw [inL_len]; omega), List.getElem?_eq_none (by rw [inL_len]; omega)]
theorem inL_take (l : List UInt8) (k : Nat) (hk : k < l.length) : (inL (l.take k)).set l[k].toNat (.bool true) = inL (l.take (k + 1)) := by
  rw [inL_set, List.take_succ_eq_append_getElem hk]

/-- How many bytes below one. -/
def cntB (s : BS) (c : Nat) : Nat := ((List.range c).filter (has s)).length
theorem cntB_zero (s : BS) : cntB s 0 = 0 := rfl
theorem cntB_all (s : BS) : cntB s 256 = (bytesOf s).length := rfl
theorem cntB_yes (s : BS) (c : Nat) (h : has s c = true) : cntB s (c + 1) = cntB s c + 1 := by simp [cntB, List.range_succ, List.filter_append, h]
theorem cntB_no (s : BS) (c : Nat) (h : has s c = false) : cntB s (c + 1) = cntB s c := by simp [cntB, List.range_succ, List.filter_append, h]
theorem cntB_le (s : BS) (c : Nat) : cntB s c ≤ c := by
  have := List.length_filter_le (has s) (List.range c)
  simpa [cntB] using this
theorem cntB_get (s : BS) (c : Nat) (hc : c < 256) (h : has s c = true) : (bytesOf s)[cntB s c]? = some c := by
  have e : List.range 256 = List.range c ++ (c :: (List.range (255 - c)).map (c + 1 + ·)) := by
    apply List.ext_getElem
    · simp; omega
    · intro i h1 h2
      simp at h1
      rw [List.getElem_range, List.getElem_append]
      split
      · simp
      · rename_i h3
        have h3 : c ≤ i := by simpa using h3
        simp only [List.length_range]
        rcases Nat.eq_or_lt_of_le h3 with rfl | h4
        · simp
        · obtain ⟨m, hm⟩ : ∃ m, i - c = m + 1 := ⟨i - c - 1, by omega⟩
          simp only [hm, List.getElem_cons_succ, List.getElem_map, List.getElem_range]
          omega
  unfold bytesOf cntB
  rw [e, List.filter_append, List.getElem?_append_right (Nat.le_refl _), Nat.sub_self, List.filter_cons_of_pos h]
  rfl
theorem cntB_lt (s : BS) (c : Nat) (hc : c < 256) (h : has s c = true) : cntB s c < (bytesOf s).length := by
  have := cntB_get s c hc h
  exact (List.getElem?_eq_some_iff.1 this).1
end Go.Proofs.YtmfgbhlfbpmmjaaDoor
