/- What came in, where a row lists a table: bytes, and sets. -/
import Derived.Test.YtmfgbhlfbpmmjaaDoorLay
import Derived.Test.YtmfgbhlfbpmmjaaDoorRowS
import Derived.Deep.Slices
namespace Go.Proofs.YtmfgbhlfbpmmjaaDoor
open Go.ChangeShapes Go.WideShapes Go.ChangeAt Go.RowKit Go.Deep

/-- The slice value 'a, len, cap' is nil, or leads to a row of 'cap' numbers zs of this kind. -/
def IsRow (k : IntKind) (w : World) (a : Option Addr) (len cap : Nat) (zs : List Int) : Prop :=
  (a = none ∧ len = 0 ∧ cap = 0 ∧ zs = []) ∨
  ∃ x, a = some x ∧ len ≤ cap ∧ cap ≤ maxLen ∧ zs.length = cap ∧ (∀ i, i < zs.length → w.cell? (x.add i) = some (.int k (zs.getD i 0))) ∧ ∀ n ∈ zs, (Lit.int k n).wf = true
/-- The bytes that it reads as. -/
theorem IsRow.bytes {w : World} {a : Option Addr} {len cap : Nat} {zs : List Int} (h : IsRow .u8 w a len cap zs) : ∃ l, RdB w a len l := by
  rcases h with ⟨rfl, rfl, rfl, rfl⟩ | ⟨x, rfl, hl, hm, hz, hc, hw⟩
  · exact ⟨[], RdB.nil_ _ _⟩
  · refine ⟨(zs.take len).map fun n => UInt8.ofNat n.toNat, by simp; omega, fun hn => ?_⟩
    obtain ⟨b, o, spot⟩ := x
    have h0 := hc 0 (by omega)
    have hs : spot = none := by simpa [Addr.add] using World.cell?_spot h0
    subst hs
    refine ⟨b, o, rfl, by simpa [Addr.add] using World.block_lt_of_cell? _ _ h0, fun j hj => ?_⟩
    have hj' : j < len := by simp at hj; omega
    have h1 := hc j (by omega)
    rw [addr_add] at h1
    rw [h1]
    have hb := bounds_u8 (hw _ (List.getElem_mem (show j < zs.length by omega)))
    have hg : zs.getD j 0 = zs[j]'(by omega) := by simp [List.getD, show j < zs.length by omega]
    rw [hg]
    simp only [List.getElem_map, List.getElem_take, UInt8.toNat_ofNat']
    congr 2
    omega
theorem open_bytes {H : Type} {enc : TypeId × Value → H} {W : World} {a : Option Addr} {len cap : Nat} {d : DataW H} {p : List MemPlace} (h : DataW.Trod enc Tryd.prog W 0 (fun _ => true) true 22 (.slice a len cap) d p) : ∃ l, RdB W a len l ∧ len ≤ 9223372036854775807 := by
  obtain ⟨z0, w0⟩ : ∃ zs, IsRow .u8 W a len cap zs := by
    obtain ⟨fuel, hf⟩ := h
    rcases open_ints Tryd.underlying22 Tryd.underlying5 (by kernel_rfl) hf with ⟨hcs, _⟩ | ⟨x, l, c, zs, hcs, _, hl, hm, hz, _, hcell, hwz⟩
    · simp [Value.cells] at hcs
      obtain ⟨rfl, rfl, rfl⟩ := hcs
      exact ⟨[], .inl ⟨rfl, rfl, rfl, rfl⟩⟩
    · simp [Value.cells] at hcs
      obtain ⟨rfl, rfl, rfl⟩ := hcs
      exact ⟨zs, .inr ⟨_, rfl, hl, hm, by simpa using hz, hcell, hwz⟩⟩
  obtain ⟨l, hl⟩ := w0.bytes
  refine ⟨l, hl, ?_⟩
  rcases w0 with ⟨_, rfl, _, _⟩ | ⟨_, _, h1, h2, _⟩
  · omega
  · unfold maxLen at h2; omega
theorem open_sets {H : Type} {enc : TypeId × Value → H} {W : World} {a : Option Addr} {len cap : Nat} {d : DataW H} {p : List MemPlace} (h : DataW.Trod enc Tryd.prog W 0 (fun _ => true) true 34 (.slice a len cap) d p) : ∃ l, RdS W a len l ∧ len ≤ 9223372036854775807 := by
  obtain ⟨fuel, hf⟩ := h
  rcases open_slice Tryd.underlying34 hf with ⟨hcs, _⟩ | ⟨x, l, c, m, n, D, Pl, hcs, _, hl, hm, hmm, _, hx⟩
  · simp [Value.cells] at hcs
    obtain ⟨rfl, rfl, rfl⟩ := hcs
    exact ⟨[], ⟨rfl, fun h => absurd h (by omega)⟩, by omega⟩
  · simp [Value.cells] at hcs
    obtain ⟨rfl, rfl, rfl⟩ := hcs
    have c4 : Tryd.prog.cellsOf 26 = 4 := by kernel_rfl
    rw [c4] at hx
    have hx2 : ∀ i, ∃ s : BS, i < len → ∀ j, j < 4 → W.cell? (x.add (i * 4 + j)) = some (.int .u64 ((wd s j : Nat) : Int)) := by
      intro i
      by_cases hi : i < len
      · obtain ⟨cs, h1, h2⟩ := hx i (by simp at hmm; omega)
        obtain ⟨s, hs⟩ := open_set (v := .agg cs.toArray) ⟨n, by simpa [Value.cells] using h2⟩
        refine ⟨s, fun _ j hj => ?_⟩
        have h3 := (World.cells?_some h1).2.2 j hj
        have hcs : cs = setL s := by
          have := congrArg Value.cells hs
          simpa [Value.cells, setV_eq] using this
        have ha : (x.add (i * 4)).add j = x.add (i * 4 + j) := Addr.add_add _ _ _
        rw [← ha, h3, hcs]
        exact four_get (wd s) j hj
      · exact ⟨0#256, fun h => absurd h hi⟩
    have hx3 : ∃ f : Nat → BS, ∀ i, i < len → ∀ j, j < 4 → W.cell? (x.add (i * 4 + j)) = some (.int .u64 ((wd (f i) j : Nat) : Int)) := ⟨fun i => (hx2 i).choose, fun i => (hx2 i).choose_spec⟩
    obtain ⟨f, hf2⟩ := hx3
    refine ⟨(List.range len).map f, ⟨by simp, fun hn => ?_⟩, by unfold maxLen at hm; omega⟩
    obtain ⟨b, o, spot⟩ := x
    have h0 := hf2 0 hn 0 (by decide)
    have hs : spot = none := by simpa [Addr.add] using World.cell?_spot h0
    subst hs
    refine ⟨b, o, rfl, by simpa [Addr.add] using World.block_lt_of_cell? _ _ h0, fun i hi => ?_⟩
    have hi' : i < len := by simpa using hi
    have e : ∀ j, j < 4 → W.cell? ⟨b, o + i * 4 + j, none⟩ = some (.int .u64 ((wd (f i) j : Nat) : Int)) := by
      intro j hj
      have := hf2 i hi' j hj
      rw [addr_add] at this
      rw [Nat.add_assoc]
      exact this
    simp only [List.getElem_map, List.getElem_range]
    exact ⟨e 0 (by decide), e 1 (by decide), e 2 (by decide), e 3 (by decide)⟩
end Go.Proofs.YtmfgbhlfbpmmjaaDoor
