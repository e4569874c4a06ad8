/- What the listed table gives, and what a set that came in is. -/
import Derived.Test.YtoiegkejkahfgaaDoorRows
import Derived.Test.YtoiegkejkahfgaaDoorTie
import Derived.Test.YtoiegkejkahfgaaDoorCards
import Derived.Test.YtoiegkejkahfgaaDoorRange
import Derived.Test.YtoiegkejkahfgaaDoorCls2
import Derived.ProofKit
import Derived.LaidMore
import Derived.OpenShut
import Derived.ChangeOld
import Derived.Stop.Joined
import Derived.SevenTiedAt
namespace Go.Proofs.YtoiegkejkahfgaaDoor
set_option linter.unusedVariables false
set_option linter.unusedSimpArgs false
open Go.ChangeShapes Go.WideShapes Go.ChangeAt Go.RowKit

theorem own : ownKnob Tryd.prog.godebug = none := by kernel_rfl
theorem laidOut : laidOutB Tryd.prog = true := by kernel_rfl
def laidL {H : Type} : List (String × DataW H) := [("math/bits.deBruijn64tab", Rows.laid_math_bits_deBruijn64tab)]
theorem gTab : Tryd.prog.globalNamed "math/bits.deBruijn64tab" = some 0 := by kernel_rfl
theorem tTab : (Tryd.prog.globals[0]?).map (·.type) = some 109 := by kernel_rfl
theorem cell_of_part {l : List Value} {i : Nat} {c : Value} (h : (l.drop i).take 1 = [c]) : l[i]? = some c := by
  have := congrArg (·[0]?) h
  simpa using this
theorem tab_list {H : Type} : (Rows.laid_math_bits_deBruijn64tab : DataW H) = .agg (Lib.deBruijn64tab.map fun n => .lit (.int .u8 ((n : Nat) : Int))) := rfl
theorem tab_of_laid {W : World} (h : laidMetH Tryd.prog laidL W) : TabAt W := by
  rw [MakeChecks.laidMetH_plain _ _ _ (by kernel_rfl)] at h
  obtain ⟨ps, ⟨g0, t0, cs0, f0, p0, q0, hg0, ht0, hv0, hd0, _, _⟩, _, _⟩ := h
  obtain rfl := Option.some.inj (gTab.symm.trans hg0)
  obtain rfl := Option.some.inj (tTab.symm.trans ht0)
  obtain ⟨xs, m, rfl, hx, hlen, hn, hel⟩ := DataW.trod_array Tryd.underlying109 hd0
  have c5 : Tryd.prog.cellsOf 5 = 1 := by kernel_rfl
  simp only [Prod.mk.injEq] at hx
  have hl := hx.1
  rw [tab_list] at hl
  injection hl with hl
  intro i hi
  have h1 := hel i hi
  rw [c5, Nat.mul_one, List.getElem?_eq_getElem (by omega)] at h1
  obtain ⟨n, e1, e2, _⟩ := DataW.trod_int Tryd.underlying5 h1
  have h2 := cell_of_part e1
  have h3 := World.var?_cell hg0 hv0 i
  rw [h3, ← Array.getElem?_toList, h2]
  have h4 := congrArg (·[i]?) hl
  simp only [List.getElem?_map, List.getElem?_eq_getElem (show i < xs.length by omega), e2, Option.map_some] at h4
  have h64 : Lib.deBruijn64tab.length = 64 := rfl
  have h5 : Lib.deBruijn64tab[i]? = some (Lib.deBruijn64tab.getD i 0) := by
    rw [List.getElem?_eq_getElem (by omega), List.getD_eq_getElem?_getD, List.getElem?_eq_getElem (by omega)]
    rfl
  rw [h5] at h4
  simp only [Option.map_some, Option.some.injEq, DataW.lit.injEq, Lit.int.injEq, true_and] at h4
  rw [h4]

theorem door_met (os : Os) (args : Array Value) : laidMetH Tryd.prog laidL ((World.doorLaid Tryd.prog 400 os).forCall (fun _ _ => 0) ⟨#[], args, []⟩).memory :=
  laidMetH_of_parts3 (fuel := 8) (laidMet_of_run' 8 (by kernel_rfl) (by kernel_rfl)) (by kernel_rfl) (by kernel_rfl)

/-- A set that came in. -/
theorem open_set {H : Type} {enc : TypeId × Value → H} {W : World} {b : Nat} {sp : Nat → Bool} {held : Bool} {v : Value} {d : DataW H} {p : List MemPlace} (h : DataW.Trod enc Tryd.prog W b sp held 43 v d p) : ∃ a : BS, v = setV a := by
  obtain ⟨fuel, h⟩ := h
  obtain ⟨xs, m, rfl, hx, hlen, hn, hel⟩ := DataW.trod_array Tryd.underlying43 h
  have c4 : Tryd.prog.cellsOf 43 = 4 := by kernel_rfl
  have c1 : Tryd.prog.cellsOf 22 = 1 := by kernel_rfl
  rw [c4] at hlen
  have hc : ∀ i, i < 4 → ∃ n : Nat, n < 18446744073709551616 ∧ v.cells.toList[i]? = some (.int .u64 (n : Int)) := by
    intro i hi
    have h1 := hel i hi
    rw [c1, Nat.mul_one, List.getElem?_eq_getElem (by omega)] at h1
    obtain ⟨n, e1, _, hw⟩ := DataW.trod_int Tryd.underlying22 h1
    have hb := bounds_u64 hw
    exact ⟨n.toNat, by omega, by rw [cell_of_part e1, show ((n.toNat : Nat) : Int) = n by omega]⟩
  obtain ⟨n0, l0, e0⟩ := hc 0 (by decide)
  obtain ⟨n1, l1, e1⟩ := hc 1 (by decide)
  obtain ⟨n2, l2, e2⟩ := hc 2 (by decide)
  obtain ⟨n3, l3, e3⟩ := hc 3 (by decide)
  obtain ⟨a, ha⟩ := of_words (fun i => if i = 0 then n0 else if i = 1 then n1 else if i = 2 then n2 else n3) (fun i => by
    show (if i = 0 then n0 else if i = 1 then n1 else if i = 2 then n2 else n3) < _
    split
    · exact l0
    · split
      · exact l1
      · split
        · exact l2
        · exact l3)
  have w0 : wd a 0 = n0 := ha 0 (by decide)
  have w1 : wd a 1 = n1 := ha 1 (by decide)
  have w2 : wd a 2 = n2 := ha 2 (by decide)
  have w3 : wd a 3 = n3 := ha 3 (by decide)
  refine ⟨a, ?_⟩
  have hcs : v.cells.toList = [.int .u64 (n0 : Int), .int .u64 (n1 : Int), .int .u64 (n2 : Int), .int .u64 (n3 : Int)] := by
    match hv : v.cells.toList, hlen, e0, e1, e2, e3 with
    | [x0, x1, x2, x3], _, e0, e1, e2, e3 => simp_all
  unfold setV
  rw [w0, w1, w2, w3]
  cases v with
  | agg cs =>
    obtain ⟨l⟩ := cs
    have hl : l = [.int .u64 (n0 : Int), .int .u64 (n1 : Int), .int .u64 (n2 : Int), .int .u64 (n3 : Int)] := hcs
    rw [hl]
  | _ => simp [Value.cells] at hlen
end Go.Proofs.YtoiegkejkahfgaaDoor
