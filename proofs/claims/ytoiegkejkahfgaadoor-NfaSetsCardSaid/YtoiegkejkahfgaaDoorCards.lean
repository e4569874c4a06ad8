/-
  DERIVED. GIVEN WITH THE SEED: THE CARDS: each row of YtoiegkejkahfgaaDoorRows.lean that lists a variable, with what it lists TIED to the program's text (the seventh form; the later family's looks); each row that meets fmt, with fmt's text TOLD by the authors' own Lean function (tested against real Go, not proved from fmt's source: count such statements apart). THE CARD IS WHAT COUNTS. Prove the row's statement (the work); the ties are given (YtoiegkejkahfgaaDoorTie.lean); close each card by the builder's one call (the guide's Derived/Test/ToyasCard.lean, 'card_holds'). Laid BY PROGRAM, IN A SANDBOX (cutbox-door.mjs). By AI agents, Wed Nov 11 2026. No macro, syntax, notation, axiom, sorry.
-/
import Derived.Test.YtoiegkejkahfgaaDoorRows
import GoSem.ClaimSeven
namespace Go.Proofs.YtoiegkejkahfgaaDoor
namespace Rows

/-- THE TIED CARD OF 'guipurelaw07.NfaSets'. -/
def nfaSetsCard : Claim7 := { stood := { row := nfaSetsRow, standIns := [], harness := (true, "4c91c3a8a1d53aeadf21d5d743a02ace31d31f5f2c0f36da2c17ab017a099ac4"), looks := false }, kinds := [], alts := [], laidByText := true, laidKinds := [.data], laidTests := true, laidLooks := .later }
def NfaSetsCardSaid : Prop := Claim7.holds Tryd.pinned (.plain (OpenSpec.ofChange nfaSetsSpec)) nfaSetsCard

/-- THE SECOND FORM's CARD OF 'guipurelaw07.NfaSets'. -/
def nfaSetsUptoCard : Claim7 := { stood := { row := nfaSetsUptoRow, standIns := [], harness := (true, "4c91c3a8a1d53aeadf21d5d743a02ace31d31f5f2c0f36da2c17ab017a099ac4"), looks := false }, kinds := [], alts := [], laidByText := true, laidKinds := [.data], laidTests := true, laidLooks := .later }
def NfaSetsUptoCardSaid : Prop := Claim7.holds Tryd.pinned (.plain (OpenSpec.upto nfaSetsSpec)) nfaSetsUptoCard
end Rows
end Go.Proofs.YtoiegkejkahfgaaDoor
