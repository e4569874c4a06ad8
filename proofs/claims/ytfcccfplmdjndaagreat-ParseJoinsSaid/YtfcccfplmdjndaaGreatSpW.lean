/- spec: Add's statement, whose steps stand in open order. -/
import Derived.Test.YtfcccfplmdjndaaGreatSpWa
namespace Go.Proofs.YtfcccfplmdjndaaGreat
set_option linter.unusedSimpArgs false
set_option linter.unusedVariables false
open Go.RowKit

theorem enters_own : ∀ args w, (callFunc 35 args).run Tryz.prog w = .ok (.enter 35 args) w := enters_of Tryz.func35 (by kernel_rfl) rfl
theorem field_0S (pb : Nat) (w : World) : (Instr.fieldAt 32 (.pointer (some ⟨pb, 0, none⟩)) 0).run Tryz.prog w = .ok (.pointer (some ⟨pb, 0, none⟩)) w := by kernel_rfl
theorem load_slN {w : World} {p : Addr} {A : Option Addr} {n c : Nat} (h : w.cell? p = some (.slice A n c)) : (Instr.loadAt 29 (.pointer (some p))).run Tryz.prog w = .ok (.slice A n c) w := by
 simp [Instr.loadAt, h]
 go_simp
 trace_state
end Go.Proofs.YtfcccfplmdjndaaGreat

/- spec: a Builder's Add. -/
namespace Go.Proofs.YtfcccfplmdjndaaGreat
set_option linter.unusedSimpArgs false
set_option linter.unusedVariables false
open Go.RowKit

theorem BOk.add {w w1 w' : World} {pb base : Nat} {vs : List NV} {ds : List DT} {nv dv nv' : Value} {y : NV} (h : BOk w pb base vs ds nv dv) (hb : Below w.heap.size w w1) (hy : NodeOwn w1 base y) (hg : w1.grownBy w' nv.ownBlock) (hr : w'.ownsRow base 54 18 nv' (vs.length + 1) (flatN vs ++ y.cells)) :
  BOk (w'.setCell ⟨pb, 0, none⟩ nv') pb base (vs ++ [y]) ds nv' dv := by
 have h1 := h.keep hb
 have hc : Chg w1 (w'.setCell ⟨pb, 0, none⟩ nv') (fun k => k = pb ∨ nv.ownBlock = some k) := ((Chg.of_grown hg).more (fun k _ hk => .inr hk)).set pb 0 (.inl rfl) _
 have hc0 : Chg w1 w' (fun k => nv.ownBlock = some k) := Chg.of_grown hg
 have hb1 : Blk w' pb 41 [nv, dv] := h1.bo.chg hc0 (fun e => absurd (own_type h1.rn e h1.bo) (by decide))
 have hin : ∀ T g cs, (T = 3 ∨ T = 4 ∨ T = 64 ∨ T = 121) → Blk w1 g T cs → ¬ (g = pb ∨ nv.ownBlock = some g) := by
  intro T g cs hT hB
  have hne := inner_ne hT
  rintro (e | e)
  ·rw [e] at hB; exact hne.1 (blk_type hB h1.bo)
  ·exact hne.2.1 (own_type h1.rn e hB).symm
 refine ⟨?_, ?_, ?_, fun v hv => ?_⟩
 ·have := hb1.put 0 nv'
  simpa using this
 ·have e1 : flatN (vs ++ [y]) = flatN vs ++ y.cells := by simp [flatN]
  rw [e1, List.length_append]
  refine owns_chg hr ((Chg.refl w' (fun k => k = pb)).set pb 0 rfl _) (fun k hk => ?_)
  intro e
  rw [e] at hk
  exact absurd (own_type hr hk hb1) (by decide)
 ·refine owns_chg h1.rd hc (fun k hk => ?_)
  rintro (e | e)
  ·rw [e] at hk
   exact absurd (own_type h1.rd hk h1.bo) (by decide)
  ·exact absurd (own_two h1.rd h1.rn hk e) (by decide)
 ·rcases List.mem_append.1 hv with hv | hv
  ·exact (h1.each v hv).chg hc hin
  ·obtain rfl := List.mem_singleton.1 hv
   exact hy.chg hc hin
end Go.Proofs.YtfcccfplmdjndaaGreat
