/- class: the pieces, sorted by their least bytes. -/
import Derived.Test.YtmfgbhlfbpmmjaaDoorSplM
import Derived.Test.YtmfgbhlfbpmmjaaDoorShelf
import Derived.Test.YtmfgbhlfbpmmjaaDoorLeast
import Derived.Shelf.SlSortCmp.WholeK
namespace Go.Proofs.YtmfgbhlfbpmmjaaDoor
open Go.RowKit Go.Sort

theorem lea_lt (a b : BS) : ltOf lea a b = decide (firstN a < firstN b) := by
  unfold ltOf lea
  by_cases h : firstN a < firstN b
  · simp [h]; omega
  · simp [h]; omega
theorem lea_swo : SWO (ltOf lea) where
  irrefl x := by rw [lea_lt]; simp
  trans x y z h1 h2 := by rw [lea_lt] at *; simp at *; omega
  ntrans x y z h1 h2 := by rw [lea_lt] at *; simp at *; omega

theorem grown_of {w w' : World} (hb : Go.RowKit.Below w.heap.size w w') (hd : w.drawn ≤ w'.drawn) : ∃ q os, w' = grow (w.drewN q) os := by
  refine ⟨w'.drawn - w.drawn, w'.heap.extract w.heap.size w'.heap.size, ?_⟩
  obtain ⟨hp, tp, dr, os, out⟩ := w'
  have h1 := hb.os
  have h2 := hb.tape
  have h3 := hb.output
  have h4 := hb.size
  have h5 := hb.block
  simp only at h1 h2 h3 h4 h5 hd
  subst h1 h2 h3
  unfold grow World.drewN
  simp only [World.mk.injEq, and_true, true_and]
  refine ⟨?_, by omega⟩
  apply Array.ext
  · simp; omega
  · intro i hi hi2
    by_cases hlt : i < w.heap.size
    · rw [Array.getElem_append_left hlt]
      have := h5 i hlt
      rw [Array.getElem?_eq_getElem hi, Array.getElem?_eq_getElem hlt] at this
      exact Option.some.inj this
    · rw [Array.getElem_append_right (by omega)]
      simp only [Array.getElem_extract]
      congr 1
      omega

theorem below_sort {w : World} {base g n : Nat} (d : Array BS) (os : Array Obj) (hb : base ≤ g) (hg : g < w.heap.size) : Go.RowKit.Below base w (sortWorldK setL 4 w g 0 n d os) := by
  refine ⟨rfl, rfl, rfl, size_sortWorldK_c _ _ _ _ _ _ _ _, fun k hk => ?_⟩
  unfold sortWorldK grow putRowK putRow mapBlock
  simp only [Array.getElem?_append]
  rw [if_pos (by simp [ahead]; omega)]
  simp only [ahead, Array.getElem?_modify]
  rw [if_neg (by omega)]
  rfl

theorem holds_of_pcs {w : World} {base g n c : Nat} {ps : List BS} (h : w.ownsRow base 26 4 (.slice (some ⟨g, 0, none⟩) n c) n (flatS ps)) : HoldsK setL 4 w g 0 ps.toArray := by
  have hl : 4 * ps.length = n * 4 := by rw [← flatS_len]; exact h.1
  intro j hj
  have hj' : j < n * 4 := by simpa [size_flatK, hl, Nat.mul_comm] using hj
  have hj2 : j < ps.toArray.size * 4 := by simpa using hj
  rw [Nat.zero_add, h.cellAt j hj', get_flatK _ _ _ _ hj2]
  refine ⟨?_, h.frozenAt j⟩
  have hq : j / 4 < ps.length := by omega
  have e := flatS_get ps (j / 4) (j % 4) hq (Nat.mod_lt _ (by decide))
  rw [show j / 4 * 4 + j % 4 = j by omega] at e
  rw [e]
  have hs : ps.toArray[j / 4]! = ps[j / 4] := by simp [hq]
  rw [hs]
  have h4 := four_get (wd ps[j / 4]) (j % 4) (Nat.mod_lt _ (by decide))
  have h5 : (setL ps[j / 4])[j % 4]? = some (u64V (wd ps[j / 4] (j % 4))) := h4
  rw [List.getElem!_eq_getElem?_getD, h5]
  rfl
theorem rds_of_holds {w : World} {g : Nat} (d : Array BS) (hg : g < w.heap.size) (h : HoldsK setL 4 w g 0 d) : RdS w (some ⟨g, 0, none⟩) d.size d.toList := by
  refine ⟨by simp, fun _ => ⟨g, 0, rfl, hg, fun j hj => ?_⟩⟩
  have hj' : j < d.size := by simpa using hj
  have e : d[j]! = d.toList[j] := by simp [hj']
  have hc : ∀ i, i < 4 → w.cell? ⟨g, 0 + j * 4 + i, none⟩ = some (.int .u64 ((wd d.toList[j] i : Nat) : Int)) := by
    intro i hi
    rw [(h.cell hj' hi).1, e]
    have h5 : (setL d.toList[j])[i]? = some (u64V (wd d.toList[j] i)) := four_get (wd d.toList[j]) i hi
    rw [List.getElem!_eq_getElem?_getD, h5]
    rfl
  exact ⟨hc 0 (by decide), hc 1 (by decide), hc 2 (by decide), hc 3 (by decide)⟩

set_option maxRecDepth 20000 in
theorem sort_any {w : World} (hT : TabAt w) {base g n c : Nat} {ps : List BS} (hl : ps.length = n) (hP : w.ownsRow base 26 4 (.slice (some ⟨g, 0, none⟩) n c) n (flatS ps)) (h0 : 0 < base) (hn : n < 4611686018427387904) :
    Calls Tryd.prog 46 #[.slice (some ⟨g, 0, none⟩) n c, .func (.func 47) #[] #[]] w fun e w' =>
      e = .returned (.tuple #[]) ∧ ∃ qs : List BS, qs.length = n ∧ qs.Perm ps ∧ qs.Pairwise (fun a b => firstN a ≤ firstN b) ∧ RdS w' (some ⟨g, 0, none⟩) n qs ∧ Go.RowKit.Below base w w' := by
  have hlt := hP.lt g rfl
  have eg : ∀ args w, (callFunc 47 args).run Tryd.prog w = .ok (.enter 47 args) w := enters_of Tryd.func47 (by kernel_rfl) rfl
  have hH := holds_of_pcs hP
  have hcmp : CmpLays Tryd.prog 47 #[] setL 4 lea g 0 ps.toArray.size w := by
    intro m os dk hs x y
    have hT' : TabAt (sortWorldK setL 4 w g 0 m dk os) := fun i hi => (cell?_sortWorldK_other setL 4 w g 0 m dk os ⟨0, i, none⟩ (by simp; omega) (by simp; omega)).trans (hT i hi)
    exact (least_any x y hT').mono fun e w' ⟨he, hb, hd⟩ => ⟨he, grown_of hb hd⟩
  have hcon := AnyQ.slices_SortFunc Tryd.sortSets 4 Tryd.isAgg26 Tryd.sizeOf26 setL (fun _ => rfl) (fun x v hv => one_setL [x] v (by simpa [flatS] using hv)) lea lea_swo 47 #[] g 0 c ps.toArray w eg hcmp hH hlt.2 (by simpa [hl] using hn)
  have hsz : ps.toArray.size = n := by simpa using hl
  rw [hsz] at hcon
  refine Calls.mono hcon ?_
  rintro e w' ⟨rfl, d', m, os, hp, hs, rfl⟩
  have hd : d'.size = n := by rw [hp.1]; exact hsz
  refine ⟨rfl, d'.toList, by simpa using hd, ?_, ?_, ?_, below_sort d' os hlt.1 hlt.2⟩
  · have h3 := hp.2.2
    rw [show d'.extract 0 n = d' by rw [← hd]; simp, show ps.toArray.extract 0 n = ps.toArray by rw [← hsz]; simp] at h3
    simpa using h3
  · rw [List.pairwise_iff_getElem]
    intro i j hi hj hij
    have h3 := hs i j (Nat.zero_le _) hij (by simpa [hd] using hj)
    rw [lea_lt] at h3
    have e1 : d'[i]! = d'.toList[i] := by
      have : i < d'.size := by simpa using hi
      simp [this]
    have e2 : d'[j]! = d'.toList[j] := by
      have : j < d'.size := by simpa using hj
      simp [this]
    rw [e1, e2] at h3
    simp only [decide_eq_false_iff_not] at h3
    omega
  · have := rds_of_holds d' (lt_sortWorldK setL 4 w g 0 m d' os hlt.2) (holdsK_sortWorldK setL 4 w g 0 m _ d' os hlt.2 hH (by rw [hd, hsz]))
    rw [hd] at this
    exact this
end Go.Proofs.YtmfgbhlfbpmmjaaDoor
