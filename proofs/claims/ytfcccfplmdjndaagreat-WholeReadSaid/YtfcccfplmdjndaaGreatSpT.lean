/- spec: Root, Def. -/
import Derived.Test.YtfcccfplmdjndaaGreatSpN
namespace Go.Proofs.YtfcccfplmdjndaaGreat
set_option linter.unusedSimpArgs false
set_option linter.unusedVariables false
open Go.RowKit

theorem def_cell {w : World} {P : Nat → Prop} {S : SV} {ds : List DT} (h : Rw w P S (flatD ds)) {q : Nat} (hq : q < ds.length) : ∃ b o, S.A = some ⟨b, o, none⟩ ∧ b < w.heap.size ∧ P b ∧ w.cell? ⟨b, o + q * 2, none⟩ = some (.string ds[q].nm) ∧ w.cell? ⟨b, o + q * 2 + 1, none⟩ = some (.int .i64 ds[q].ty) := by
 obtain ⟨b, o, hA, hl, hP, hc⟩ := h.at (by rw [flatD_len]; omega)
 have hcell : ∀ i, i < 2 → w.cell? ⟨b, o + q * 2 + i, none⟩ = ds[q].cells[i]? := fun i hi => by
  rw [Nat.add_assoc, hc (q * 2 + i) (by rw [flatD_len]; omega)]
  exact flat_get (f := DT.cells) (m := 2) (fun _ => rfl) ds q i hq hi
 exact ⟨b, o, hA, hl, hP, hcell 0 (by decide), hcell 1 (by decide)⟩
end Go.Proofs.YtfcccfplmdjndaaGreat
