/-
  DERIVED. GIVEN WITH THE SEED: THE CARDS: each row of YtpbkdokhlimpfaaDoorRows.lean that lists a variable, with what it lists TIED to the program's text (the seventh form; the later family's looks); each row that meets fmt, with fmt's text TOLD by the authors' own Lean function (tested against real Go, not proved from fmt's source: count such statements apart). THE CARD IS WHAT COUNTS. Prove the row's statement (the work); the ties are given (YtpbkdokhlimpfaaDoorTie.lean); close each card by the builder's one call (the guide's Derived/Test/ToyasCard.lean, 'card_holds'). Laid BY PROGRAM, IN A SANDBOX (cutbox-door.mjs). By AI agents, Wed Nov 11 2026. No macro, syntax, notation, axiom, sorry.
-/
import Derived.Test.YtpbkdokhlimpfaaDoorRows
import GoSem.ClaimSeven
namespace Go.Proofs.YtpbkdokhlimpfaaDoor
namespace Rows

/-- THE TIED CARD OF 'guipurelaw19.CodeChecks'. -/
def codeChecksCard : Claim7 := { stood := { row := codeChecksRow, standIns := [], harness := (true, "63abf0202c69fe25458178322c523fc501cb61dd9979959a47a0de57e6f527d9"), looks := false }, kinds := [], alts := [], laidByText := true, laidKinds := [.data, .data, .data], laidTests := true, laidLooks := .later }
def CodeChecksCardSaid : Prop := Claim7.holds Tryd.pinned (.plain (OpenSpec.ofChange codeChecksSpec)) codeChecksCard

/-- THE TIED CARD OF 'guipurelaw19.CodeMakes'. -/
def codeMakesCard : Claim7 := { stood := { row := codeMakesRow, standIns := [], harness := (true, "63abf0202c69fe25458178322c523fc501cb61dd9979959a47a0de57e6f527d9"), looks := false }, kinds := [], alts := [], laidByText := true, laidKinds := [.data, .data, .data], laidTests := true, laidLooks := .later }
def CodeMakesCardSaid : Prop := Claim7.holds Tryd.pinned (.plain (OpenSpec.ofChange codeMakesSpec)) codeMakesCard

/-- THE TIED CARD OF 'guipurelaw19.CodeAims'. -/
def codeAimsCard : Claim7 := { stood := { row := codeAimsRow, standIns := [], harness := (true, "63abf0202c69fe25458178322c523fc501cb61dd9979959a47a0de57e6f527d9"), looks := false }, kinds := [], alts := [], laidByText := true, laidKinds := [.data, .data, .data], laidTests := true, laidLooks := .later }
def CodeAimsCardSaid : Prop := Claim7.holds Tryd.pinned (.plain (OpenSpec.ofChange codeAimsSpec)) codeAimsCard

/-- THE TIED CARD OF 'guipurelaw19.CodeReached'. -/
def codeReachedCard : Claim7 := { stood := { row := codeReachedRow, standIns := [], harness := (true, "63abf0202c69fe25458178322c523fc501cb61dd9979959a47a0de57e6f527d9"), looks := false }, kinds := [], alts := [], laidByText := true, laidKinds := [.data, .data, .data], laidTests := true, laidLooks := .later }
def CodeReachedCardSaid : Prop := Claim7.holds Tryd.pinned (.plain (OpenSpec.ofChange codeReachedSpec)) codeReachedCard

/-- THE SECOND FORM's CARD OF 'guipurelaw19.CodeChecks'. -/
def codeChecksUptoCard : Claim7 := { stood := { row := codeChecksUptoRow, standIns := [], harness := (true, "63abf0202c69fe25458178322c523fc501cb61dd9979959a47a0de57e6f527d9"), looks := false }, kinds := [], alts := [], laidByText := true, laidKinds := [.data, .data, .data], laidTests := true, laidLooks := .later }
def CodeChecksUptoCardSaid : Prop := Claim7.holds Tryd.pinned (.plain (OpenSpec.upto codeChecksSpec)) codeChecksUptoCard

/-- THE SECOND FORM's CARD OF 'guipurelaw19.CodeMakes'. -/
def codeMakesUptoCard : Claim7 := { stood := { row := codeMakesUptoRow, standIns := [], harness := (true, "63abf0202c69fe25458178322c523fc501cb61dd9979959a47a0de57e6f527d9"), looks := false }, kinds := [], alts := [], laidByText := true, laidKinds := [.data, .data, .data], laidTests := true, laidLooks := .later }
def CodeMakesUptoCardSaid : Prop := Claim7.holds Tryd.pinned (.plain (OpenSpec.upto codeMakesSpec)) codeMakesUptoCard

/-- THE SECOND FORM's CARD OF 'guipurelaw19.CodeAims'. -/
def codeAimsUptoCard : Claim7 := { stood := { row := codeAimsUptoRow, standIns := [], harness := (true, "63abf0202c69fe25458178322c523fc501cb61dd9979959a47a0de57e6f527d9"), looks := false }, kinds := [], alts := [], laidByText := true, laidKinds := [.data, .data, .data], laidTests := true, laidLooks := .later }
def CodeAimsUptoCardSaid : Prop := Claim7.holds Tryd.pinned (.plain (OpenSpec.upto codeAimsSpec)) codeAimsUptoCard

/-- THE SECOND FORM's CARD OF 'guipurelaw19.CodeReached'. -/
def codeReachedUptoCard : Claim7 := { stood := { row := codeReachedUptoRow, standIns := [], harness := (true, "63abf0202c69fe25458178322c523fc501cb61dd9979959a47a0de57e6f527d9"), looks := false }, kinds := [], alts := [], laidByText := true, laidKinds := [.data, .data, .data], laidTests := true, laidLooks := .later }
def CodeReachedUptoCardSaid : Prop := Claim7.holds Tryd.pinned (.plain (OpenSpec.upto codeReachedSpec)) codeReachedUptoCard
end Rows
end Go.Proofs.YtpbkdokhlimpfaaDoor
