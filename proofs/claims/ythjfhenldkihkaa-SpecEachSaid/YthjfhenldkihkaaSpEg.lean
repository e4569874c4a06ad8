/- The law SpecEach: what has been seen, and that it is all, when it is sorted. -/
import Derived.Test.YthjfhenldkihkaaSpEf
import Derived.Test.YthjfhenldkihkaaSpMa
import Derived.Test.YthjfhenldkihkaaShelf
import Derived.Sort.OwnSortedInts
namespace Go.Proofs.Ythjfhenldkihkaa
set_option linter.unusedSimpArgs false
set_option linter.unusedVariables false
open Go.RowKit

/-- All that is met from some types on. -/
def seenF (pt : Nat → List Int) (rs : List Int) : List Int := (rs.flatMap (fun p => sub pt p.toNat)).map (fun (i : Nat) => (i : Int))
theorem vis_true : ∀ (l : List Nat) (sg : List Int), vis (fun _ => true) l sg = (true, sg ++ l.map (fun (i : Nat) => (i : Int)))
  | [], sg => by simp [vis]
  | i :: l, sg => by simp [vis, vis_true l]
section
variable {n : Nat} {pt : Nat → List Int} {rs : List Int}
theorem roots_perm (H : Val n pt rs) : (rs.flatMap (fun p => sub pt p.toNat)).Perm (List.range n) := by
  rw [List.perm_iff_count]
  intro a
  rw [(roots_nodup H).count, List.nodup_range.count]
  have h : a ∈ rs.flatMap (fun p => sub pt p.toNat) ↔ a ∈ List.range n := by
    rw [List.mem_range]
    constructor
    · intro h
      obtain ⟨p, hp, hz⟩ := List.mem_flatMap.1 h
      have h1 := (H.inb p hp).2
      have := sub_le H _ a h1 hz
      omega
    · exact fun h => roots_cover H (n - a) a (Nat.le_refl _) h
  simp only [h]
theorem seen_all_len (H : Val n pt rs) : (seenF pt rs).length = n := by
  unfold seenF
  rw [List.length_map, (roots_perm H).length_eq, List.length_range]
theorem seen_app (xs ys : List Int) : seenF pt (xs ++ ys) = seenF pt xs ++ seenF pt ys := by
  unfold seenF
  rw [List.flatMap_append, List.map_append]
theorem seen_len (H : Val n pt rs) (j : Nat) : (seenF pt (rs.take j)).length ≤ n := by
  have h := seen_all_len H
  rw [← List.take_append_drop j rs, seen_app, List.length_append] at h
  omega
theorem seen_next {j : Nat} {p : Int} (h : rs[j]? = some p) : seenF pt (rs.take (j + 1)) = seenF pt (rs.take j) ++ (sub pt p.toNat).map (fun (i : Nat) => (i : Int)) := by
  rw [List.take_add_one, h, seen_app]
  congr 1
  simp [seenF]
theorem seen_fits (H : Val n pt rs) {j : Nat} {p : Int} (h : rs[j]? = some p) : (seenF pt (rs.take j)).length + (sub pt p.toNat).length ≤ n := by
  have := seen_len H (j + 1)
  rw [seen_next h, List.length_append, List.length_map] at this
  omega
theorem seen_sort (H : Val n pt rs) : (seenF pt rs).mergeSort (fun x y => decide (x ≤ y)) = (List.range n).map (fun (i : Nat) => (i : Int)) := by
  have h1 : ((seenF pt rs).mergeSort (fun x y => decide (x ≤ y))).Perm ((List.range n).map (fun (i : Nat) => (i : Int))) := (List.mergeSort_perm _ _).trans ((roots_perm H).map _)
  refine h1.eq_of_pairwise (le := fun x y => x ≤ y) (fun a b _ _ h k => Int.le_antisymm h k) ?_ ?_
  · have h := List.pairwise_mergeSort (le := fun x y : Int => decide (x ≤ y)) (fun a b c h k => by simp only [decide_eq_true_eq] at *; omega) (fun a b => by simp only [Bool.or_eq_true, decide_eq_true_eq]; omega) (seenF pt rs)
    exact h.imp (fun h => by simpa using h)
  · rw [List.pairwise_map]
    exact List.pairwise_lt_range.imp (fun h => by omega)
theorem vis_stop {stop : Int} : ∀ (l : List Nat) (sg : List Int), (sg.length : Int) < stop → (vis (fun sg => ((sg.length : Int) != stop)) l sg).1 = !decide (((vis (fun sg => ((sg.length : Int) != stop)) l sg).2.length : Int) = stop)
  | [], sg, h => by
    have : ¬ (sg.length : Int) = stop := by omega
    simp [vis, this]
  | i :: l, sg, h => by
    simp only [vis]
    split
    · rename_i h2
      exact vis_stop l _ (by
        simp only [bne_iff_ne, ne_eq, List.length_append, List.length_cons, List.length_nil] at h2 ⊢
        omega)
    · rename_i h2
      simp only [bne_iff_ne, ne_eq, Decidable.not_not] at h2
      simp only [List.length_append, List.length_cons, List.length_nil] at h2 ⊢
      simp; omega
end
theorem cell_seen {W : World} {base0 b m c : Nat} {sg : List Int} (h : W.ownsRow base0 3 1 (.slice (some ⟨b, 0, none⟩) m c) m (intC sg)) {j : Nat} (hj : j < m) {z : Int} (hz : sg[j]? = some z) : W.cell? ⟨b, j, none⟩ = some (.int .i64 z) := by
  rw [h.cellAt j (by omega)]
  simp [intC, hz]
theorem seen_row {W : World} {base0 m : Nat} {v : Value} {sg : List Int} (h : W.ownsRow base0 3 1 v m (intC sg)) (hm : 0 < m) : ∃ b c, v = .slice (some ⟨b, 0, none⟩) m c ∧ base0 ≤ b ∧ b < W.heap.size := by
  rcases h.2 with ⟨_, e⟩ | ⟨b, c, _, e, hb, hk, _⟩
  · omega
  · exact ⟨b, c, e, hb, (Array.getElem?_eq_some_iff.1 hk).1⟩
theorem sort_ints {W : World} {base0 b m c : Nat} {sg : List Int} (h : W.ownsRow base0 3 1 (.slice (some ⟨b, 0, none⟩) m c) m (intC sg)) (hm : m = sg.length) (hs : m ≤ 4096) :
    Calls Try.prog 11 #[.slice (some ⟨b, 0, none⟩) m c] W fun e W' => e = .returned (.tuple #[]) ∧ W'.ownsRow base0 3 1 (.slice (some ⟨b, 0, none⟩) m c) m (intC (sg.mergeSort (fun x y => decide (x ≤ y)))) ∧ Chg W W' (· = b) := by
  subst hm
  rcases h.2 with ⟨e, _⟩ | ⟨b2, c2, cur, hv, hg, hb, h1, h2, h3, h4⟩
  · cases e
  cases hv
  have hH : Go.Sort.Holds (Value.int .i64) W b 0 sg.toArray := holds_of_blockI hb (by simpa [intC] using h4)
  refine (Try.slices_Sort_int b 0 c sg W hH (Array.getElem?_eq_some_iff.1 hb).1 (by omega)).mono ?_
  rintro e W' ⟨rfl, n, os, rfl⟩
  refine ⟨rfl, ?_, ?_⟩
  · have hl : (sg.mergeSort fun x y => decide (x ≤ y)).length = sg.length := List.length_mergeSort sg
    exact ownsRow_sortedI (n := n) (os := os) (ts := sg.mergeSort fun x y => decide (x ≤ y)) hl hg hb h1 h2 h3
  · refine (Chg.of_grown (grownBy_sortedI (w := W) (g := b) (n := n) (os := os) _)).more (fun k _ hk => ?_)
    injection hk with hk
    exact hk.symm
end Go.Proofs.Ythjfhenldkihkaa
